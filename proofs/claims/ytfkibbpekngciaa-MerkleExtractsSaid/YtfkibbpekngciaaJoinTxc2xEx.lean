/-
  The texts Txc, Lof, joined.
-/
import Derived.Test.YtfkibbpekngciaaJoinLsm3xEx
import Derived.Test.YtfkibbpekngciaaJoinNum2xEx
import Derived.Test.YtfkibbpekngciaaQExMat
/- What roots are made of. -/
namespace Go.Proofs.Ytfkibbpekngciaa
open Go.RowKit

theorem b8_nat (n k : Nat) : ((b8 n k).toNat : Int) = (n : Int) / (k : Int) % 256 := by
  have h : n / k % 256 < 256 := Nat.mod_lt _ (by decide)
  unfold b8
  have : (UInt8.ofNat (n / k % 256)).toNat = n / k % 256 := by simp
  rw [this]; simp
theorem be8_len (n : Nat) : (be8 n).length = 8 := rfl
theorem be8_next (n j : Nat) (h : j < 8) : (be8 n).take (j + 1) = (be8 n).take j ++ [(be8 n).getD j 0] := by
  rw [List.take_add_one]
  have : (be8 n)[j]? = some ((be8 n)[j]'(by rw [be8_len]; exact h)) := List.getElem?_eq_getElem _
  simp [List.getD, this]
def rootP (n j : Nat) : List UInt8 := 2 :: (be8 n).take j
theorem rootP_len (n j : Nat) (h : j ≤ 8) : (rootP n j).length = 1 + j := by simp [rootP, be8_len]; omega
theorem rootP_next (n j : Nat) (h : j < 8) : rootP n j ++ [(be8 n).getD j 0] = rootP n (j + 1) := by
  unfold rootP
  rw [be8_next n j h]; rfl
theorem be8_at (n j : Nat) (k : Nat) (h : (be8 n).getD j 0 = b8 n k) : (((be8 n).getD j 0).toNat : Int) = (n : Int) / (k : Int) % 256 := by rw [h]; exact b8_nat n k

/-- The byte that comes next, in memory. -/
theorem be8_new (wr : World) (n j k : Nat) (k' : Int) (hk : (be8 n).getD j 0 = b8 n k) (hk' : (n : Int) / (k : Int) % 256 = k') : Sl (wr.alloc (.cells #[.int .u8 k'] 5)) (.slice (some ⟨wr.heap.size, 0, none⟩) 1 1) [(be8 n).getD j 0] := by
  have e := be8_at n j k hk
  rw [hk'] at e
  rw [← e]
  exact (Row.new wr 5 (bys [(be8 n).getD j 0])).sl
theorem eight' {j : Nat} (h : j < 8) : j = 0 ∨ j = 1 ∨ j = 2 ∨ j = 3 ∨ j = 4 ∨ j = 5 ∨ j = 6 ∨ j = 7 := by omega

set_option maxHeartbeats 4000000 in
theorem rootText_any (w : World) (n : Nat) (v : Value) (l : List UInt8) (hs : Sl w v l) (hl : l.length ≤ 1000000) (hn : n ≤ 9223372036854775807) :
    Calls Try.prog 37 #[.int .i64 (n : Int), v] w fun ev w' => ∃ v', ev = .returned v' ∧ w'.ownsRow w.heap.size 5 1 v' (rootT n l).length (bys (rootT n l)) ∧ Below w.heap.size w w' := by
  have HS : Hid (Sl w v l) := hs
  have HB : Hid (Below w.heap.size w (w.alloc (.cells #[.int .u8 2] 5))) := (Below.refl _ _).alloc (Nat.le_refl _) _
  have HO : Hid _ := own_one w 2
  have hn2 : (n : Int) ≤ 9223372036854775807 := by omega
  have hn0 : (0 : Int) ≤ n := by omega
  have hw : IntKind.u64.wrap (n : Int) = (n : Int) := by rw [IntKind.wrap_u64]; omega
  clear hs
  go_enter Try.func37, Try.ntmps37
  go_wp2_with fail
  go_loopw [5, 6] (fun t s wr => ∃ j : Nat, j ≤ 8 ∧ s = .int .i64 (56 - 8 * (j : Int)) ∧ wr.ownsRow w.heap.size 5 1 t (rootP n j).length (bys (rootP n j)) ∧ Below w.heap.size w wr) (fun _ s _ => (intOf s + 8).toNat)
  case atStart => exact ⟨0, by omega, rfl, HO.out, HB.out⟩
  case round =>
    obtain ⟨j, hj, hse, hown, hb⟩ := hrel
    clear HO HB
    obtain ⟨ao, cp, rfl⟩ := own_shape hown
    by_cases hj3 : j < 8
    · have HP : Hid (rootP n j ++ [(be8 n).getD j 0] = rootP n (j + 1)) := rootP_next n j hj3
      have hrl := rootP_len n j hj
      have HBr : Hid (Below w.heap.size w wr) := hb
      have HOw : Hid (wr.ownsRow w.heap.size 5 1 (.slice ao (rootP n j).length cp) (rootP n j).length (bys (rootP n j))) := hown
      clear hown hb
      have hlen : (rootP n j).length ≤ 9 := by omega
      rcases eight' hj3 with rfl | rfl | rfl | rfl | rfl | rfl | rfl | rfl
      · replace hse : _ = Value.int .i64 56 := hse
        subst hse
        have hS := be8_new wr n 0 72057594037927936 ((n : Int) / 72057594037927936) rfl (by omega)
        have HBn : Hid (Below w.heap.size w (wr.alloc (.cells #[.int .u8 ((n : Int) / 72057594037927936)] 5))) := HBr.out.alloc HBr.out.size _
        have hown := own_past HOw.out ((Below.refl _ _).alloc (Nat.le_refl _) (.cells #[.int .u8 ((n : Int) / 72057594037927936)] 5))
        have hsz := HBn.out.size
        generalize rootP n 0 = R at *
        go_wp2_with (at_builtin; refine app_sl rfl _ _ rfl rfl hown hsz rfl hS (by simp; omega) ?_; intro v3 w3 hown3 hb3 _)
        rw [HP.out] at hown3
        go_roundw
        case rel => exact ⟨1, by omega, rfl, hown3, HBn.out.trans hb3⟩
        case measure => simp [intOf]
      · replace hse : _ = Value.int .i64 48 := hse
        subst hse
        have hS := be8_new wr n 1 281474976710656 ((n : Int) / 281474976710656 % 256) rfl rfl
        have HBn : Hid (Below w.heap.size w (wr.alloc (.cells #[.int .u8 ((n : Int) / 281474976710656 % 256)] 5))) := HBr.out.alloc HBr.out.size _
        have hown := own_past HOw.out ((Below.refl _ _).alloc (Nat.le_refl _) (.cells #[.int .u8 ((n : Int) / 281474976710656 % 256)] 5))
        have hsz := HBn.out.size
        generalize rootP n 1 = R at *
        go_wp2_with (at_builtin; refine app_sl rfl _ _ rfl rfl hown hsz rfl hS (by simp; omega) ?_; intro v3 w3 hown3 hb3 _)
        rw [HP.out] at hown3
        go_roundw
        case rel => exact ⟨2, by omega, rfl, hown3, HBn.out.trans hb3⟩
        case measure => simp [intOf]
      · replace hse : _ = Value.int .i64 40 := hse
        subst hse
        have hS := be8_new wr n 2 1099511627776 ((n : Int) / 1099511627776 % 256) rfl rfl
        have HBn : Hid (Below w.heap.size w (wr.alloc (.cells #[.int .u8 ((n : Int) / 1099511627776 % 256)] 5))) := HBr.out.alloc HBr.out.size _
        have hown := own_past HOw.out ((Below.refl _ _).alloc (Nat.le_refl _) (.cells #[.int .u8 ((n : Int) / 1099511627776 % 256)] 5))
        have hsz := HBn.out.size
        generalize rootP n 2 = R at *
        go_wp2_with (at_builtin; refine app_sl rfl _ _ rfl rfl hown hsz rfl hS (by simp; omega) ?_; intro v3 w3 hown3 hb3 _)
        rw [HP.out] at hown3
        go_roundw
        case rel => exact ⟨3, by omega, rfl, hown3, HBn.out.trans hb3⟩
        case measure => simp [intOf]
      · replace hse : _ = Value.int .i64 32 := hse
        subst hse
        have hS := be8_new wr n 3 4294967296 ((n : Int) / 4294967296 % 256) rfl rfl
        have HBn : Hid (Below w.heap.size w (wr.alloc (.cells #[.int .u8 ((n : Int) / 4294967296 % 256)] 5))) := HBr.out.alloc HBr.out.size _
        have hown := own_past HOw.out ((Below.refl _ _).alloc (Nat.le_refl _) (.cells #[.int .u8 ((n : Int) / 4294967296 % 256)] 5))
        have hsz := HBn.out.size
        generalize rootP n 3 = R at *
        go_wp2_with (at_builtin; refine app_sl rfl _ _ rfl rfl hown hsz rfl hS (by simp; omega) ?_; intro v3 w3 hown3 hb3 _)
        rw [HP.out] at hown3
        go_roundw
        case rel => exact ⟨4, by omega, rfl, hown3, HBn.out.trans hb3⟩
        case measure => simp [intOf]
      · replace hse : _ = Value.int .i64 24 := hse
        subst hse
        have hS := be8_new wr n 4 16777216 ((n : Int) / 16777216 % 256) rfl rfl
        have HBn : Hid (Below w.heap.size w (wr.alloc (.cells #[.int .u8 ((n : Int) / 16777216 % 256)] 5))) := HBr.out.alloc HBr.out.size _
        have hown := own_past HOw.out ((Below.refl _ _).alloc (Nat.le_refl _) (.cells #[.int .u8 ((n : Int) / 16777216 % 256)] 5))
        have hsz := HBn.out.size
        generalize rootP n 4 = R at *
        go_wp2_with (at_builtin; refine app_sl rfl _ _ rfl rfl hown hsz rfl hS (by simp; omega) ?_; intro v3 w3 hown3 hb3 _)
        rw [HP.out] at hown3
        go_roundw
        case rel => exact ⟨5, by omega, rfl, hown3, HBn.out.trans hb3⟩
        case measure => simp [intOf]
      · replace hse : _ = Value.int .i64 16 := hse
        subst hse
        have hS := be8_new wr n 5 65536 ((n : Int) / 65536 % 256) rfl rfl
        have HBn : Hid (Below w.heap.size w (wr.alloc (.cells #[.int .u8 ((n : Int) / 65536 % 256)] 5))) := HBr.out.alloc HBr.out.size _
        have hown := own_past HOw.out ((Below.refl _ _).alloc (Nat.le_refl _) (.cells #[.int .u8 ((n : Int) / 65536 % 256)] 5))
        have hsz := HBn.out.size
        generalize rootP n 5 = R at *
        go_wp2_with (at_builtin; refine app_sl rfl _ _ rfl rfl hown hsz rfl hS (by simp; omega) ?_; intro v3 w3 hown3 hb3 _)
        rw [HP.out] at hown3
        go_roundw
        case rel => exact ⟨6, by omega, rfl, hown3, HBn.out.trans hb3⟩
        case measure => simp [intOf]
      · replace hse : _ = Value.int .i64 8 := hse
        subst hse
        have hS := be8_new wr n 6 256 ((n : Int) / 256 % 256) rfl rfl
        have HBn : Hid (Below w.heap.size w (wr.alloc (.cells #[.int .u8 ((n : Int) / 256 % 256)] 5))) := HBr.out.alloc HBr.out.size _
        have hown := own_past HOw.out ((Below.refl _ _).alloc (Nat.le_refl _) (.cells #[.int .u8 ((n : Int) / 256 % 256)] 5))
        have hsz := HBn.out.size
        generalize rootP n 6 = R at *
        go_wp2_with (at_builtin; refine app_sl rfl _ _ rfl rfl hown hsz rfl hS (by simp; omega) ?_; intro v3 w3 hown3 hb3 _)
        rw [HP.out] at hown3
        go_roundw
        case rel => exact ⟨7, by omega, rfl, hown3, HBn.out.trans hb3⟩
        case measure => simp [intOf]
      · replace hse : _ = Value.int .i64 0 := hse
        subst hse
        have hS := be8_new wr n 7 1 ((n : Int) % 256) rfl (by omega)
        have HBn : Hid (Below w.heap.size w (wr.alloc (.cells #[.int .u8 ((n : Int) % 256)] 5))) := HBr.out.alloc HBr.out.size _
        have hown := own_past HOw.out ((Below.refl _ _).alloc (Nat.le_refl _) (.cells #[.int .u8 ((n : Int) % 256)] 5))
        have hsz := HBn.out.size
        generalize rootP n 7 = R at *
        go_wp2_with (at_builtin; refine app_sl rfl _ _ rfl rfl hown hsz rfl hS (by simp; omega) ?_; intro v3 w3 hown3 hb3 _)
        rw [HP.out] at hown3
        go_roundw
        case rel => exact ⟨8, by omega, rfl, hown3, HBn.out.trans hb3⟩
        case measure => simp [intOf]
    · obtain rfl : j = 8 := by omega
      have e8 : rootP n 8 = 2 :: be8 n := rfl
      have HE : Hid (rootT n l = rootP n 8 ++ l) := rfl
      have hrl := rootP_len n 8 hj
      have hS := HS.out.below hb
      have HBr : Hid (Below w.heap.size w wr) := hb
      have hsz := hb.size
      subst hse
      clear hb e8
      generalize rootP n 8 = R at *
      go_wp2_with (at_builtin; refine app_sl rfl _ _ rfl rfl hown hsz rfl hS (by omega) ?_; intro v2 w2 hown2 hb2 _)
      go_ret
      exact ⟨v2, rfl, by rw [HE.out]; exact hown2, HBr.out.trans hb2⟩
end Go.Proofs.Ytfkibbpekngciaa

/- How many leaves are on the left side: the length of a number in bits. -/
namespace Go.Proofs.Ytfkibbpekngciaa
open Go.RowKit

def lenTab : ByteArray := ⟨#[0, 1, 2, 2, 3, 3, 3, 3, 4, 4, 4, 4, 4, 4, 4, 4, 5, 5, 5, 5, 5, 5, 5, 5, 5, 5, 5, 5, 5, 5, 5, 5, 6, 6, 6, 6, 6, 6, 6, 6, 6, 6, 6, 6, 6, 6, 6, 6, 6, 6, 6, 6, 6, 6, 6, 6, 6, 6, 6, 6, 6, 6, 6, 6, 7, 7, 7, 7, 7, 7, 7, 7, 7, 7, 7, 7, 7, 7, 7, 7, 7, 7, 7, 7, 7, 7, 7, 7, 7, 7, 7, 7, 7, 7, 7, 7, 7, 7, 7, 7, 7, 7, 7, 7, 7, 7, 7, 7, 7, 7, 7, 7, 7, 7, 7, 7, 7, 7, 7, 7, 7, 7, 7, 7, 7, 7, 7, 7, 8, 8, 8, 8, 8, 8, 8, 8, 8, 8, 8, 8, 8, 8, 8, 8, 8, 8, 8, 8, 8, 8, 8, 8, 8, 8, 8, 8, 8, 8, 8, 8, 8, 8, 8, 8, 8, 8, 8, 8, 8, 8, 8, 8, 8, 8, 8, 8, 8, 8, 8, 8, 8, 8, 8, 8, 8, 8, 8, 8, 8, 8, 8, 8, 8, 8, 8, 8, 8, 8, 8, 8, 8, 8, 8, 8, 8, 8, 8, 8, 8, 8, 8, 8, 8, 8, 8, 8, 8, 8, 8, 8, 8, 8, 8, 8, 8, 8, 8, 8, 8, 8, 8, 8, 8, 8, 8, 8, 8, 8, 8, 8, 8, 8, 8, 8, 8, 8, 8, 8, 8, 8, 8, 8, 8, 8, 8, 8]⟩
theorem lenTab_size : lenTab.size = 256 := by kernel_rfl
theorem lenTab_all : (List.range 256).all (fun y => (lenTab.data[y]?.map (·.toNat)) == some (if y = 0 then 0 else Nat.log2 y + 1)) = true := by kernel_rfl
theorem lenTab_at (y : Nat) (h : y < lenTab.size) (h0 : 1 ≤ y) : (lenTab[y]).toNat = Nat.log2 y + 1 := by
  have hs : lenTab.size = 256 := lenTab_size
  have := List.all_eq_true.1 lenTab_all y (by simp; omega)
  rw [if_neg (by omega)] at this
  have e : lenTab.data[y]? = some lenTab[y] := Array.getElem?_eq_getElem (xs := lenTab.data) (by exact h)
  rw [e] at this
  simpa using this
theorem log2_shift (x s t : Nat) (h : 2 ^ t ≤ x / 2 ^ s) (h2 : x / 2 ^ s < 2 ^ (t + 1)) : Nat.log2 x = s + t := by
  have hp : 0 < 2 ^ s := Nat.two_pow_pos s
  have a1 : 2 ^ (s + t) ≤ x := by
    rw [Nat.pow_add, Nat.mul_comm]; exact (Nat.le_div_iff_mul_le hp).1 h
  have a2 : x < 2 ^ (s + t + 1) := by
    rw [Nat.add_assoc, Nat.pow_add, Nat.mul_comm]; exact (Nat.div_lt_iff_lt_mul hp).1 h2
  have h0 : x ≠ 0 := by have := Nat.two_pow_pos (s + t); omega
  exact (Nat.log2_eq_iff h0).2 ⟨a1, a2⟩
theorem log2_down (x s y : Nat) (hy : x / 2 ^ s = y) (h0 : 1 ≤ y) : Nat.log2 x = s + Nat.log2 y := by
  refine log2_shift x s (Nat.log2 y) ?_ ?_
  · rw [hy]; exact Nat.log2_self_le (by omega)
  · rw [hy]; exact Nat.lt_log2_self
theorem len_end (s : Nat) (n : Nat) (x : Int) (y : Nat) (hn : 2 ^ s = n) (hy : x.toNat / n = y) (h0 : 1 ≤ y) (hs : s ≤ 56) (h : y < lenTab.size) : wrap64 ((s : Int) + wrap64 ((lenTab[y]).toNat : Int)) = ((Nat.log2 x.toNat + 1 : Nat) : Int) := by
  rw [lenTab_at y h h0, log2_down x.toNat s y (by rw [hn]; exact hy) h0]
  have hl : Nat.log2 y < 64 := by
    have h1 := Nat.log2_self_le (n := y) (by omega)
    have h2 : y < 256 := by rw [lenTab_size] at h; exact h
    rcases Nat.lt_or_ge (Nat.log2 y) 64 with h | h
    · exact h
    · have := Nat.pow_le_pow_right (n := 2) (by omega) h
      omega
  unfold wrap64
  omega
theorem len_end0 (x : Int) (y : Nat) (hy : x.toNat = y) (h0 : 1 ≤ y) (h : y < lenTab.size) : wrap64 (wrap64 ((lenTab[y]).toNat : Int)) = ((Nat.log2 x.toNat + 1 : Nat) : Int) := by
  have := len_end 0 1 x y rfl (by omega) h0 (by omega) h
  rwa [show (((0 : Nat) : Int) + wrap64 ((lenTab[y]).toNat : Int)) = wrap64 ((lenTab[y]).toNat : Int) by omega] at this
set_option maxHeartbeats 4000000 in
set_option maxRecDepth 20000 in
theorem len64_000 (w : World) (x : Int) (h0 : 1 ≤ x) (h9 : x < 18446744073709551616) (g0 : x < 4294967296) (g1 : x < 65536) (g2 : x < 256) : Calls Try.prog 63 #[.int .u64 x] w fun ev w' => ev = .returned (.int .i64 ((Nat.log2 x.toNat + 1 : Nat) : Int)) ∧ w' = w := by
  have hz : (0 : Int) ≤ x := by omega
  obtain ⟨y, HY⟩ : ∃ y : Int, Hid (y = ((Nat.log2 x.toNat + 1 : Nat) : Int)) := ⟨_, rfl⟩
  rw [← HY.out]
  go_enter Try.func63, Try.ntmps63
  go_wp2_with fail
  go_ret
  refine ⟨congrArg (fun n => Ending.returned (.int .i64 n)) ?_, rfl⟩
  rw [HY.out]
  exact len_end0 x (x).toNat rfl (by omega) _
set_option maxHeartbeats 4000000 in
set_option maxRecDepth 20000 in
theorem len64_001 (w : World) (x : Int) (h0 : 1 ≤ x) (h9 : x < 18446744073709551616) (g0 : x < 4294967296) (g1 : x < 65536) (g2 : (256 : Int) ≤ x) : Calls Try.prog 63 #[.int .u64 x] w fun ev w' => ev = .returned (.int .i64 ((Nat.log2 x.toNat + 1 : Nat) : Int)) ∧ w' = w := by
  have hz : (0 : Int) ≤ x := by omega
  obtain ⟨y, HY⟩ : ∃ y : Int, Hid (y = ((Nat.log2 x.toNat + 1 : Nat) : Int)) := ⟨_, rfl⟩
  rw [← HY.out]
  go_enter Try.func63, Try.ntmps63
  go_wp2_with fail
  go_ret
  refine ⟨congrArg (fun n => Ending.returned (.int .i64 n)) ?_, rfl⟩
  rw [HY.out]
  exact len_end 8 256 x (x / 256).toNat (by decide) (by omega) (by omega) (by omega) _
set_option maxHeartbeats 4000000 in
set_option maxRecDepth 20000 in
theorem len64_010 (w : World) (x : Int) (h0 : 1 ≤ x) (h9 : x < 18446744073709551616) (g0 : x < 4294967296) (g1 : (65536 : Int) ≤ x) (g2 : x / 65536 < 256) : Calls Try.prog 63 #[.int .u64 x] w fun ev w' => ev = .returned (.int .i64 ((Nat.log2 x.toNat + 1 : Nat) : Int)) ∧ w' = w := by
  have hz : (0 : Int) ≤ x := by omega
  obtain ⟨y, HY⟩ : ∃ y : Int, Hid (y = ((Nat.log2 x.toNat + 1 : Nat) : Int)) := ⟨_, rfl⟩
  rw [← HY.out]
  go_enter Try.func63, Try.ntmps63
  go_wp2_with fail
  go_ret
  refine ⟨congrArg (fun n => Ending.returned (.int .i64 n)) ?_, rfl⟩
  rw [HY.out]
  exact len_end 16 65536 x (x / 65536).toNat (by decide) (by omega) (by omega) (by omega) _
set_option maxHeartbeats 4000000 in
set_option maxRecDepth 20000 in
theorem len64_011 (w : World) (x : Int) (h0 : 1 ≤ x) (h9 : x < 18446744073709551616) (g0 : x < 4294967296) (g1 : (65536 : Int) ≤ x) (g2 : (256 : Int) ≤ x / 65536) : Calls Try.prog 63 #[.int .u64 x] w fun ev w' => ev = .returned (.int .i64 ((Nat.log2 x.toNat + 1 : Nat) : Int)) ∧ w' = w := by
  have hz : (0 : Int) ≤ x := by omega
  obtain ⟨y, HY⟩ : ∃ y : Int, Hid (y = ((Nat.log2 x.toNat + 1 : Nat) : Int)) := ⟨_, rfl⟩
  rw [← HY.out]
  go_enter Try.func63, Try.ntmps63
  go_wp2_with fail
  go_ret
  refine ⟨congrArg (fun n => Ending.returned (.int .i64 n)) ?_, rfl⟩
  rw [HY.out]
  exact len_end 24 16777216 x (x / 65536 / 256).toNat (by decide) (by omega) (by omega) (by omega) _
set_option maxHeartbeats 4000000 in
set_option maxRecDepth 20000 in
theorem len64_100 (w : World) (x : Int) (h0 : 1 ≤ x) (h9 : x < 18446744073709551616) (g0 : (4294967296 : Int) ≤ x) (_g1 : x / 4294967296 < 65536) (g2 : x / 4294967296 < 256) : Calls Try.prog 63 #[.int .u64 x] w fun ev w' => ev = .returned (.int .i64 ((Nat.log2 x.toNat + 1 : Nat) : Int)) ∧ w' = w := by
  have hz : (0 : Int) ≤ x := by omega
  obtain ⟨y, HY⟩ : ∃ y : Int, Hid (y = ((Nat.log2 x.toNat + 1 : Nat) : Int)) := ⟨_, rfl⟩
  rw [← HY.out]
  go_enter Try.func63, Try.ntmps63
  go_wp2_with fail
  go_ret
  refine ⟨congrArg (fun n => Ending.returned (.int .i64 n)) ?_, rfl⟩
  rw [HY.out]
  exact len_end 32 4294967296 x (x / 4294967296).toNat (by decide) (by omega) (by omega) (by omega) _
set_option maxHeartbeats 4000000 in
set_option maxRecDepth 20000 in
theorem len64_101 (w : World) (x : Int) (h0 : 1 ≤ x) (h9 : x < 18446744073709551616) (g0 : (4294967296 : Int) ≤ x) (g1 : x / 4294967296 < 65536) (g2 : (256 : Int) ≤ x / 4294967296) : Calls Try.prog 63 #[.int .u64 x] w fun ev w' => ev = .returned (.int .i64 ((Nat.log2 x.toNat + 1 : Nat) : Int)) ∧ w' = w := by
  have hz : (0 : Int) ≤ x := by omega
  obtain ⟨y, HY⟩ : ∃ y : Int, Hid (y = ((Nat.log2 x.toNat + 1 : Nat) : Int)) := ⟨_, rfl⟩
  rw [← HY.out]
  go_enter Try.func63, Try.ntmps63
  go_wp2_with fail
  go_ret
  refine ⟨congrArg (fun n => Ending.returned (.int .i64 n)) ?_, rfl⟩
  rw [HY.out]
  exact len_end 40 1099511627776 x (x / 4294967296 / 256).toNat (by decide) (by omega) (by omega) (by omega) _
set_option maxHeartbeats 4000000 in
set_option maxRecDepth 20000 in
theorem len64_110 (w : World) (x : Int) (h0 : 1 ≤ x) (h9 : x < 18446744073709551616) (g0 : (4294967296 : Int) ≤ x) (g1 : (65536 : Int) ≤ x / 4294967296) (g2 : x / 4294967296 / 65536 < 256) : Calls Try.prog 63 #[.int .u64 x] w fun ev w' => ev = .returned (.int .i64 ((Nat.log2 x.toNat + 1 : Nat) : Int)) ∧ w' = w := by
  have hz : (0 : Int) ≤ x := by omega
  obtain ⟨y, HY⟩ : ∃ y : Int, Hid (y = ((Nat.log2 x.toNat + 1 : Nat) : Int)) := ⟨_, rfl⟩
  rw [← HY.out]
  go_enter Try.func63, Try.ntmps63
  go_wp2_with fail
  go_ret
  refine ⟨congrArg (fun n => Ending.returned (.int .i64 n)) ?_, rfl⟩
  rw [HY.out]
  exact len_end 48 281474976710656 x (x / 4294967296 / 65536).toNat (by decide) (by omega) (by omega) (by omega) _
set_option maxHeartbeats 4000000 in
set_option maxRecDepth 20000 in
theorem len64_111 (w : World) (x : Int) (h0 : 1 ≤ x) (h9 : x < 18446744073709551616) (g0 : (4294967296 : Int) ≤ x) (g1 : (65536 : Int) ≤ x / 4294967296) (g2 : (256 : Int) ≤ x / 4294967296 / 65536) : Calls Try.prog 63 #[.int .u64 x] w fun ev w' => ev = .returned (.int .i64 ((Nat.log2 x.toNat + 1 : Nat) : Int)) ∧ w' = w := by
  have hz : (0 : Int) ≤ x := by omega
  obtain ⟨y, HY⟩ : ∃ y : Int, Hid (y = ((Nat.log2 x.toNat + 1 : Nat) : Int)) := ⟨_, rfl⟩
  rw [← HY.out]
  go_enter Try.func63, Try.ntmps63
  go_wp2_with fail
  go_ret
  refine ⟨congrArg (fun n => Ending.returned (.int .i64 n)) ?_, rfl⟩
  rw [HY.out]
  exact len_end 56 72057594037927936 x (x / 4294967296 / 65536 / 256).toNat (by decide) (by omega) (by omega) (by omega) _
theorem len64_any (w : World) (x : Int) (h0 : 1 ≤ x) (h9 : x < 18446744073709551616) : Calls Try.prog 63 #[.int .u64 x] w fun ev w' => ev = .returned (.int .i64 ((Nat.log2 x.toNat + 1 : Nat) : Int)) ∧ w' = w := by
  by_cases a : (4294967296 : Int) ≤ x
  · by_cases b : (65536 : Int) ≤ x / 4294967296
    · by_cases c : (256 : Int) ≤ x / 4294967296 / 65536
      · exact len64_111 w x h0 h9 a b c
      · exact len64_110 w x h0 h9 a b (by omega)
    · by_cases c : (256 : Int) ≤ x / 4294967296
      · exact len64_101 w x h0 h9 a (by omega) c
      · exact len64_100 w x h0 h9 a (by omega) (by omega)
  · by_cases b : (65536 : Int) ≤ x
    · by_cases c : (256 : Int) ≤ x / 65536
      · exact len64_011 w x h0 h9 (by omega) b c
      · exact len64_010 w x h0 h9 (by omega) b (by omega)
    · by_cases c : (256 : Int) ≤ x
      · exact len64_001 w x h0 h9 (by omega) (by omega) c
      · exact len64_000 w x h0 h9 (by omega) (by omega) (by omega)
set_option maxHeartbeats 1000000 in
theorem len_any (w : World) (x : Int) (h0 : 1 ≤ x) (h9 : x < 18446744073709551616) : Calls Try.prog 60 #[.int .u64 x] w fun ev w' => ev = .returned (.int .i64 ((Nat.log2 x.toNat + 1 : Nat) : Int)) ∧ w' = w := by
  have H := len64_any w x h0 h9
  generalize ((Nat.log2 x.toNat + 1 : Nat) : Int) = y at *
  go_enter Try.func60, Try.ntmps60
  go_wp2_with (go_at_call 63; refine H.mono ?_; rintro ev w1 ⟨rfl, rfl⟩)
  go_ret
  exact ⟨rfl, rfl⟩
theorem log2_62 (n : Nat) (h : n < 9223372036854775808) : Nat.log2 n ≤ 62 := by
  rcases Nat.lt_or_ge 62 (Nat.log2 n) with h1 | h1
  · have h0 : n ≠ 0 := fun e => by subst e; simp at h1
    have h2 := Nat.log2_self_le h0
    have := Nat.pow_le_pow_right (n := 2) (by omega) h1
    omega
  · exact h1
set_option maxHeartbeats 1000000 in
/-- How many leaves are on the left side. -/
theorem left_any (w : World) (n : Nat) (h0 : 2 ≤ n) (h9 : n ≤ 9223372036854775807) : Calls Try.prog 52 #[.int .i64 (n : Int)] w fun ev w' => ev = .returned (.int .i64 (half n : Int)) ∧ w' = w := by
  have H := len_any w ((n : Int) - 1) (by omega) (by omega)
  have e : ((n : Int) - 1).toNat = n - 1 := by omega
  rw [e] at H
  have hl := log2_62 (n - 1) (by omega)
  have hh := half_le n h0
  have HH : Hid (half n = 2 ^ Nat.log2 (n - 1)) := rfl
  generalize half n = m at *
  generalize Nat.log2 (n - 1) = k at *
  have e2 : ((k + 1 : Nat) : Int) = (k : Int) + 1 := by omega
  rw [e2] at H
  have hn : (2 : Int) ≤ n := by omega
  have hn2 : (n : Int) ≤ 9223372036854775807 := by omega
  have hk : (k : Int) ≤ 62 := by omega
  have hw : IntKind.u64.wrap ((n : Int) - 1) = (n : Int) - 1 := by rw [IntKind.wrap_u64]; omega
  clear e2 e
  go_enter Try.func52, Try.ntmps52
  go_wp2_with (go_at_call 60; refine H.mono ?_; rintro ev w1 ⟨rfl, rfl⟩)
  go_ret
  refine ⟨congrArg (fun n => Ending.returned (.int .i64 n)) ?_, rfl⟩
  have e3 : (2 : Int) ^ k = (m : Int) := by rw [HH.out]; simp
  rw [e3]
  unfold wrap64
  omega
end Go.Proofs.Ytfkibbpekngciaa
