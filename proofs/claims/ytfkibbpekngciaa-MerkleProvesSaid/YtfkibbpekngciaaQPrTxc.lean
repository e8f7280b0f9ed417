/-
  What roots are made of.
-/
import Derived.Test.YtfkibbpekngciaaJoinLsm3xPr
namespace Go.Proofs.Ytfkibbpekngciaa
open Go.RowKit

theorem b8_nat (n k : Nat) : ((b8 n k).toNat : Int) = (n : Int) / (k : Int) % 256 := by
  have h : n / k % 256 < 256 := Nat.mod_lt _ (by decide)
  unfold b8
  have : (UInt8.ofNat (n / k % 256)).toNat = n / k % 256 := by simp
  rw [this]; simp
theorem be8_len (n : Nat) : (be8 n).length = 8 := rfl
theorem be8_next (n j : Nat) (h : j < 8) : (be8 n).take (j + 1) = (be8 n).take j ++ [(be8 n).getD j 0] := by
  rw [List.take_add_one]
  have : (be8 n)[j]? = some ((be8 n)[j]'(by rw [be8_len]; exact h)) := List.getElem?_eq_getElem _
  simp [List.getD, this]
def rootP (n j : Nat) : List UInt8 := 2 :: (be8 n).take j
theorem rootP_len (n j : Nat) (h : j ≤ 8) : (rootP n j).length = 1 + j := by simp [rootP, be8_len]; omega
theorem rootP_next (n j : Nat) (h : j < 8) : rootP n j ++ [(be8 n).getD j 0] = rootP n (j + 1) := by
  unfold rootP
  rw [be8_next n j h]; rfl
theorem be8_at (n j : Nat) (k : Nat) (h : (be8 n).getD j 0 = b8 n k) : (((be8 n).getD j 0).toNat : Int) = (n : Int) / (k : Int) % 256 := by rw [h]; exact b8_nat n k

/-- The byte that comes next, in memory. -/
theorem be8_new (wr : World) (n j k : Nat) (k' : Int) (hk : (be8 n).getD j 0 = b8 n k) (hk' : (n : Int) / (k : Int) % 256 = k') : Sl (wr.alloc (.cells #[.int .u8 k'] 5)) (.slice (some ⟨wr.heap.size, 0, none⟩) 1 1) [(be8 n).getD j 0] := by
  have e := be8_at n j k hk
  rw [hk'] at e
  rw [← e]
  exact (Row.new wr 5 (bys [(be8 n).getD j 0])).sl
theorem eight' {j : Nat} (h : j < 8) : j = 0 ∨ j = 1 ∨ j = 2 ∨ j = 3 ∨ j = 4 ∨ j = 5 ∨ j = 6 ∨ j = 7 := by omega

set_option maxHeartbeats 4000000 in
theorem rootText_any (w : World) (n : Nat) (v : Value) (l : List UInt8) (hs : Sl w v l) (hl : l.length ≤ 1000000) (hn : n ≤ 9223372036854775807) :
    Calls Try.prog 37 #[.int .i64 (n : Int), v] w fun ev w' => ∃ v', ev = .returned v' ∧ w'.ownsRow w.heap.size 5 1 v' (rootT n l).length (bys (rootT n l)) ∧ Below w.heap.size w w' := by
  have HS : Hid (Sl w v l) := hs
  have HB : Hid (Below w.heap.size w (w.alloc (.cells #[.int .u8 2] 5))) := (Below.refl _ _).alloc (Nat.le_refl _) _
  have HO : Hid _ := own_one w 2
  have hn2 : (n : Int) ≤ 9223372036854775807 := by omega
  have hn0 : (0 : Int) ≤ n := by omega
  have hw : IntKind.u64.wrap (n : Int) = (n : Int) := by rw [IntKind.wrap_u64]; omega
  clear hs
  go_enter Try.func37, Try.ntmps37
  go_wp2_with fail
  go_loopw [5, 6] (fun t s wr => ∃ j : Nat, j ≤ 8 ∧ s = .int .i64 (56 - 8 * (j : Int)) ∧ wr.ownsRow w.heap.size 5 1 t (rootP n j).length (bys (rootP n j)) ∧ Below w.heap.size w wr) (fun _ s _ => (intOf s + 8).toNat)
  case atStart => exact ⟨0, by omega, rfl, HO.out, HB.out⟩
  case round =>
    obtain ⟨j, hj, hse, hown, hb⟩ := hrel
    clear HO HB
    obtain ⟨ao, cp, rfl⟩ := own_shape hown
    by_cases hj3 : j < 8
    · have HP : Hid (rootP n j ++ [(be8 n).getD j 0] = rootP n (j + 1)) := rootP_next n j hj3
      have hrl := rootP_len n j hj
      have HBr : Hid (Below w.heap.size w wr) := hb
      have HOw : Hid (wr.ownsRow w.heap.size 5 1 (.slice ao (rootP n j).length cp) (rootP n j).length (bys (rootP n j))) := hown
      clear hown hb
      have hlen : (rootP n j).length ≤ 9 := by omega
      rcases eight' hj3 with rfl | rfl | rfl | rfl | rfl | rfl | rfl | rfl
      · replace hse : _ = Value.int .i64 56 := hse
        subst hse
        have hS := be8_new wr n 0 72057594037927936 ((n : Int) / 72057594037927936) rfl (by omega)
        have HBn : Hid (Below w.heap.size w (wr.alloc (.cells #[.int .u8 ((n : Int) / 72057594037927936)] 5))) := HBr.out.alloc HBr.out.size _
        have hown := own_past HOw.out ((Below.refl _ _).alloc (Nat.le_refl _) (.cells #[.int .u8 ((n : Int) / 72057594037927936)] 5))
        have hsz := HBn.out.size
        generalize rootP n 0 = R at *
        go_wp2_with (at_builtin; refine app_sl rfl _ _ rfl rfl hown hsz rfl hS (by simp; omega) ?_; intro v3 w3 hown3 hb3 _)
        rw [HP.out] at hown3
        go_roundw
        case rel => exact ⟨1, by omega, rfl, hown3, HBn.out.trans hb3⟩
        case measure => simp [intOf]
      · replace hse : _ = Value.int .i64 48 := hse
        subst hse
        have hS := be8_new wr n 1 281474976710656 ((n : Int) / 281474976710656 % 256) rfl rfl
        have HBn : Hid (Below w.heap.size w (wr.alloc (.cells #[.int .u8 ((n : Int) / 281474976710656 % 256)] 5))) := HBr.out.alloc HBr.out.size _
        have hown := own_past HOw.out ((Below.refl _ _).alloc (Nat.le_refl _) (.cells #[.int .u8 ((n : Int) / 281474976710656 % 256)] 5))
        have hsz := HBn.out.size
        generalize rootP n 1 = R at *
        go_wp2_with (at_builtin; refine app_sl rfl _ _ rfl rfl hown hsz rfl hS (by simp; omega) ?_; intro v3 w3 hown3 hb3 _)
        rw [HP.out] at hown3
        go_roundw
        case rel => exact ⟨2, by omega, rfl, hown3, HBn.out.trans hb3⟩
        case measure => simp [intOf]
      · replace hse : _ = Value.int .i64 40 := hse
        subst hse
        have hS := be8_new wr n 2 1099511627776 ((n : Int) / 1099511627776 % 256) rfl rfl
        have HBn : Hid (Below w.heap.size w (wr.alloc (.cells #[.int .u8 ((n : Int) / 1099511627776 % 256)] 5))) := HBr.out.alloc HBr.out.size _
        have hown := own_past HOw.out ((Below.refl _ _).alloc (Nat.le_refl _) (.cells #[.int .u8 ((n : Int) / 1099511627776 % 256)] 5))
        have hsz := HBn.out.size
        generalize rootP n 2 = R at *
        go_wp2_with (at_builtin; refine app_sl rfl _ _ rfl rfl hown hsz rfl hS (by simp; omega) ?_; intro v3 w3 hown3 hb3 _)
        rw [HP.out] at hown3
        go_roundw
        case rel => exact ⟨3, by omega, rfl, hown3, HBn.out.trans hb3⟩
        case measure => simp [intOf]
      · replace hse : _ = Value.int .i64 32 := hse
        subst hse
        have hS := be8_new wr n 3 4294967296 ((n : Int) / 4294967296 % 256) rfl rfl
        have HBn : Hid (Below w.heap.size w (wr.alloc (.cells #[.int .u8 ((n : Int) / 4294967296 % 256)] 5))) := HBr.out.alloc HBr.out.size _
        have hown := own_past HOw.out ((Below.refl _ _).alloc (Nat.le_refl _) (.cells #[.int .u8 ((n : Int) / 4294967296 % 256)] 5))
        have hsz := HBn.out.size
        generalize rootP n 3 = R at *
        go_wp2_with (at_builtin; refine app_sl rfl _ _ rfl rfl hown hsz rfl hS (by simp; omega) ?_; intro v3 w3 hown3 hb3 _)
        rw [HP.out] at hown3
        go_roundw
        case rel => exact ⟨4, by omega, rfl, hown3, HBn.out.trans hb3⟩
        case measure => simp [intOf]
      · replace hse : _ = Value.int .i64 24 := hse
        subst hse
        have hS := be8_new wr n 4 16777216 ((n : Int) / 16777216 % 256) rfl rfl
        have HBn : Hid (Below w.heap.size w (wr.alloc (.cells #[.int .u8 ((n : Int) / 16777216 % 256)] 5))) := HBr.out.alloc HBr.out.size _
        have hown := own_past HOw.out ((Below.refl _ _).alloc (Nat.le_refl _) (.cells #[.int .u8 ((n : Int) / 16777216 % 256)] 5))
        have hsz := HBn.out.size
        generalize rootP n 4 = R at *
        go_wp2_with (at_builtin; refine app_sl rfl _ _ rfl rfl hown hsz rfl hS (by simp; omega) ?_; intro v3 w3 hown3 hb3 _)
        rw [HP.out] at hown3
        go_roundw
        case rel => exact ⟨5, by omega, rfl, hown3, HBn.out.trans hb3⟩
        case measure => simp [intOf]
      · replace hse : _ = Value.int .i64 16 := hse
        subst hse
        have hS := be8_new wr n 5 65536 ((n : Int) / 65536 % 256) rfl rfl
        have HBn : Hid (Below w.heap.size w (wr.alloc (.cells #[.int .u8 ((n : Int) / 65536 % 256)] 5))) := HBr.out.alloc HBr.out.size _
        have hown := own_past HOw.out ((Below.refl _ _).alloc (Nat.le_refl _) (.cells #[.int .u8 ((n : Int) / 65536 % 256)] 5))
        have hsz := HBn.out.size
        generalize rootP n 5 = R at *
        go_wp2_with (at_builtin; refine app_sl rfl _ _ rfl rfl hown hsz rfl hS (by simp; omega) ?_; intro v3 w3 hown3 hb3 _)
        rw [HP.out] at hown3
        go_roundw
        case rel => exact ⟨6, by omega, rfl, hown3, HBn.out.trans hb3⟩
        case measure => simp [intOf]
      · replace hse : _ = Value.int .i64 8 := hse
        subst hse
        have hS := be8_new wr n 6 256 ((n : Int) / 256 % 256) rfl rfl
        have HBn : Hid (Below w.heap.size w (wr.alloc (.cells #[.int .u8 ((n : Int) / 256 % 256)] 5))) := HBr.out.alloc HBr.out.size _
        have hown := own_past HOw.out ((Below.refl _ _).alloc (Nat.le_refl _) (.cells #[.int .u8 ((n : Int) / 256 % 256)] 5))
        have hsz := HBn.out.size
        generalize rootP n 6 = R at *
        go_wp2_with (at_builtin; refine app_sl rfl _ _ rfl rfl hown hsz rfl hS (by simp; omega) ?_; intro v3 w3 hown3 hb3 _)
        rw [HP.out] at hown3
        go_roundw
        case rel => exact ⟨7, by omega, rfl, hown3, HBn.out.trans hb3⟩
        case measure => simp [intOf]
      · replace hse : _ = Value.int .i64 0 := hse
        subst hse
        have hS := be8_new wr n 7 1 ((n : Int) % 256) rfl (by omega)
        have HBn : Hid (Below w.heap.size w (wr.alloc (.cells #[.int .u8 ((n : Int) % 256)] 5))) := HBr.out.alloc HBr.out.size _
        have hown := own_past HOw.out ((Below.refl _ _).alloc (Nat.le_refl _) (.cells #[.int .u8 ((n : Int) % 256)] 5))
        have hsz := HBn.out.size
        generalize rootP n 7 = R at *
        go_wp2_with (at_builtin; refine app_sl rfl _ _ rfl rfl hown hsz rfl hS (by simp; omega) ?_; intro v3 w3 hown3 hb3 _)
        rw [HP.out] at hown3
        go_roundw
        case rel => exact ⟨8, by omega, rfl, hown3, HBn.out.trans hb3⟩
        case measure => simp [intOf]
    · obtain rfl : j = 8 := by omega
      have e8 : rootP n 8 = 2 :: be8 n := rfl
      have HE : Hid (rootT n l = rootP n 8 ++ l) := rfl
      have hrl := rootP_len n 8 hj
      have hS := HS.out.below hb
      have HBr : Hid (Below w.heap.size w wr) := hb
      have hsz := hb.size
      subst hse
      clear hb e8
      generalize rootP n 8 = R at *
      go_wp2_with (at_builtin; refine app_sl rfl _ _ rfl rfl hown hsz rfl hS (by omega) ?_; intro v2 w2 hown2 hb2 _)
      go_ret
      exact ⟨v2, rfl, by rw [HE.out]; exact hown2, HBr.out.trans hb2⟩
end Go.Proofs.Ytfkibbpekngciaa
