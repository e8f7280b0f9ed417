/-
  The document's own top.
-/
import Derived.Test.YtfkibbpekngciaaQPrXpr
import Derived.Test.YtfkibbpekngciaaJoinChk2xPr
namespace Go.Proofs.Ytfkibbpekngciaa
open Go.RowKit

set_option maxHeartbeats 4000000 in
theorem top_any (w : World) (n : Nat) (h : List UInt8) (hh : h.length = 32) (hn : n ≤ 9223372036854775807) :
    Calls Try.prog 26 #[.int .i64 (n : Int), .agg (bys h).toArray] w fun ev w' => ∃ v', ev = .returned v' ∧ w'.ownsRow w.heap.size 5 1 v' (rootT n (if n = 0 then [] else h)).length (bys (rootT n (if n = 0 then [] else h))) ∧ Below w.heap.size w w' := by
  obtain ⟨T, hT⟩ : ∃ T, T = rootT n (if n = 0 then [] else h) := ⟨_, rfl⟩
  rw [← hT]
  obtain ⟨W, hW⟩ : ∃ W, W = w.alloc (.cells (bys h).toArray 26) := ⟨_, rfl⟩
  have HB0 : Hid (Below w.heap.size w W) := by rw [hW]; exact (Below.refl _ _).alloc (Nat.le_refl _) _
  have R1 : Row W w.heap.size 26 (bys h) := by rw [hW]; exact Row.new w 26 _
  have HR1 : Hid (∀ y j, Below W.heap.size W y → j < 32 → y.cell? ⟨w.heap.size, j, none⟩ = some (.int .u8 ((h.getD j 0).toNat : Int))) := fun y j hy hj => by
    rw [(R1.below hy R1.lt).cell j, bys_get h j (by omega)]
  have hsz2 : W.heap.size = w.heap.size + 1 := by rw [hW]; simp
  have HO : Hid ((W.alloc (.cells #[.int .u8 2] 5)).ownsRow W.heap.size 5 1 (.slice (some ⟨w.heap.size + 1, 0, none⟩) 1 1) (rootP n 0).length (bys (rootP n 0))) := by
    have := own_one W 2
    rw [← hsz2]; exact this
  have HB1 : Hid (Below W.heap.size W (W.alloc (.cells #[.int .u8 2] 5))) := (Below.refl _ _).alloc (Nat.le_refl _) _
  have AW : Aside (W = w.alloc (.cells (bys h).toArray 26)) := hW
  have Hh : Hid (h.length = 32) := hh
  have HEn : Hid (0 < n → upto (2 :: be8 n) h 32 = T) := fun h0 => by rw [hT, ← hh, upto_all, if_neg (by omega)]; rfl
  have HE0 : Hid (n = 0 → 2 :: be8 n = T) := fun h0 => by rw [hT, if_pos h0]; simp [rootT]
  have hn2 : (n : Int) ≤ 9223372036854775807 := by omega
  have hn0 : (0 : Int) ≤ n := by omega
  have hw : IntKind.u64.wrap (n : Int) = (n : Int) := by rw [IntKind.wrap_u64]; omega
  clear hW R1 hsz2 hh hT
  generalize (bys h).toArray = Y1 at *
  obtain ⟨g1, hg1⟩ : ∃ g, g = w.heap.size := ⟨_, rfl⟩
  go_enter Try.func26, Try.ntmps26
  go_wp2_with fail
  refine wp_at_world (congrArg (fun z => z.alloc (.cells #[.int .u8 2] 5)) AW.out) ?_
  rw [← hg1]
  rw [← hg1] at HR1 HO
  clear hg1
  go_loopw [5, 6] (fun t s wr => ∃ j : Nat, j ≤ 8 ∧ s = .int .i64 (7 - (j : Int)) ∧ wr.ownsRow W.heap.size 5 1 t (rootP n j).length (bys (rootP n j)) ∧ Below W.heap.size W wr) (fun _ s _ => (intOf s + 1).toNat)
  case atStart => exact ⟨0, by omega, rfl, HO.out, HB1.out⟩
  case round =>
    obtain ⟨j, hj, hse, hown, hb⟩ := hrel
    clear HO HB1
    obtain ⟨ao, cp, rfl⟩ := own_shape hown
    by_cases hj3 : j < 8
    · have HP : Hid (rootP n j ++ [(be8 n).getD j 0] = rootP n (j + 1)) := rootP_next n j hj3
      have hrl := rootP_len n j hj
      have HBr : Hid (Below W.heap.size W wr) := hb
      have HOw : Hid (wr.ownsRow W.heap.size 5 1 (.slice ao (rootP n j).length cp) (rootP n j).length (bys (rootP n j))) := hown
      clear hown hb
      have hlen : (rootP n j).length ≤ 9 := by omega
      rcases eight' hj3 with rfl | rfl | rfl | rfl | rfl | rfl | rfl | rfl
      · replace hse : _ = Value.int .i64 7 := hse
        subst hse
        have hS := be8_new wr n 0 72057594037927936 ((n : Int) / 72057594037927936) rfl (by omega)
        have HBn : Hid (Below W.heap.size W (wr.alloc (.cells #[.int .u8 ((n : Int) / 72057594037927936)] 5))) := HBr.out.alloc HBr.out.size _
        have hown := own_past HOw.out ((Below.refl _ _).alloc (Nat.le_refl _) (.cells #[.int .u8 ((n : Int) / 72057594037927936)] 5))
        have hsz := HBn.out.size
        generalize rootP n 0 = R at *
        go_wp2_with (at_builtin; refine app_sl rfl _ _ rfl rfl hown hsz rfl hS (by simp; omega) ?_; intro v3 w3 hown3 hb3 _)
        rw [HP.out] at hown3
        go_roundw
        case rel => exact ⟨1, by omega, rfl, hown3, HBn.out.trans hb3⟩
        case measure => simp [intOf]
      · replace hse : _ = Value.int .i64 6 := hse
        subst hse
        have hS := be8_new wr n 1 281474976710656 ((n : Int) / 281474976710656 % 256) rfl rfl
        have HBn : Hid (Below W.heap.size W (wr.alloc (.cells #[.int .u8 ((n : Int) / 281474976710656 % 256)] 5))) := HBr.out.alloc HBr.out.size _
        have hown := own_past HOw.out ((Below.refl _ _).alloc (Nat.le_refl _) (.cells #[.int .u8 ((n : Int) / 281474976710656 % 256)] 5))
        have hsz := HBn.out.size
        generalize rootP n 1 = R at *
        go_wp2_with (at_builtin; refine app_sl rfl _ _ rfl rfl hown hsz rfl hS (by simp; omega) ?_; intro v3 w3 hown3 hb3 _)
        rw [HP.out] at hown3
        go_roundw
        case rel => exact ⟨2, by omega, rfl, hown3, HBn.out.trans hb3⟩
        case measure => simp [intOf]
      · replace hse : _ = Value.int .i64 5 := hse
        subst hse
        have hS := be8_new wr n 2 1099511627776 ((n : Int) / 1099511627776 % 256) rfl rfl
        have HBn : Hid (Below W.heap.size W (wr.alloc (.cells #[.int .u8 ((n : Int) / 1099511627776 % 256)] 5))) := HBr.out.alloc HBr.out.size _
        have hown := own_past HOw.out ((Below.refl _ _).alloc (Nat.le_refl _) (.cells #[.int .u8 ((n : Int) / 1099511627776 % 256)] 5))
        have hsz := HBn.out.size
        generalize rootP n 2 = R at *
        go_wp2_with (at_builtin; refine app_sl rfl _ _ rfl rfl hown hsz rfl hS (by simp; omega) ?_; intro v3 w3 hown3 hb3 _)
        rw [HP.out] at hown3
        go_roundw
        case rel => exact ⟨3, by omega, rfl, hown3, HBn.out.trans hb3⟩
        case measure => simp [intOf]
      · replace hse : _ = Value.int .i64 4 := hse
        subst hse
        have hS := be8_new wr n 3 4294967296 ((n : Int) / 4294967296 % 256) rfl rfl
        have HBn : Hid (Below W.heap.size W (wr.alloc (.cells #[.int .u8 ((n : Int) / 4294967296 % 256)] 5))) := HBr.out.alloc HBr.out.size _
        have hown := own_past HOw.out ((Below.refl _ _).alloc (Nat.le_refl _) (.cells #[.int .u8 ((n : Int) / 4294967296 % 256)] 5))
        have hsz := HBn.out.size
        generalize rootP n 3 = R at *
        go_wp2_with (at_builtin; refine app_sl rfl _ _ rfl rfl hown hsz rfl hS (by simp; omega) ?_; intro v3 w3 hown3 hb3 _)
        rw [HP.out] at hown3
        go_roundw
        case rel => exact ⟨4, by omega, rfl, hown3, HBn.out.trans hb3⟩
        case measure => simp [intOf]
      · replace hse : _ = Value.int .i64 3 := hse
        subst hse
        have hS := be8_new wr n 4 16777216 ((n : Int) / 16777216 % 256) rfl rfl
        have HBn : Hid (Below W.heap.size W (wr.alloc (.cells #[.int .u8 ((n : Int) / 16777216 % 256)] 5))) := HBr.out.alloc HBr.out.size _
        have hown := own_past HOw.out ((Below.refl _ _).alloc (Nat.le_refl _) (.cells #[.int .u8 ((n : Int) / 16777216 % 256)] 5))
        have hsz := HBn.out.size
        generalize rootP n 4 = R at *
        go_wp2_with (at_builtin; refine app_sl rfl _ _ rfl rfl hown hsz rfl hS (by simp; omega) ?_; intro v3 w3 hown3 hb3 _)
        rw [HP.out] at hown3
        go_roundw
        case rel => exact ⟨5, by omega, rfl, hown3, HBn.out.trans hb3⟩
        case measure => simp [intOf]
      · replace hse : _ = Value.int .i64 2 := hse
        subst hse
        have hS := be8_new wr n 5 65536 ((n : Int) / 65536 % 256) rfl rfl
        have HBn : Hid (Below W.heap.size W (wr.alloc (.cells #[.int .u8 ((n : Int) / 65536 % 256)] 5))) := HBr.out.alloc HBr.out.size _
        have hown := own_past HOw.out ((Below.refl _ _).alloc (Nat.le_refl _) (.cells #[.int .u8 ((n : Int) / 65536 % 256)] 5))
        have hsz := HBn.out.size
        generalize rootP n 5 = R at *
        go_wp2_with (at_builtin; refine app_sl rfl _ _ rfl rfl hown hsz rfl hS (by simp; omega) ?_; intro v3 w3 hown3 hb3 _)
        rw [HP.out] at hown3
        go_roundw
        case rel => exact ⟨6, by omega, rfl, hown3, HBn.out.trans hb3⟩
        case measure => simp [intOf]
      · replace hse : _ = Value.int .i64 1 := hse
        subst hse
        have hS := be8_new wr n 6 256 ((n : Int) / 256 % 256) rfl rfl
        have HBn : Hid (Below W.heap.size W (wr.alloc (.cells #[.int .u8 ((n : Int) / 256 % 256)] 5))) := HBr.out.alloc HBr.out.size _
        have hown := own_past HOw.out ((Below.refl _ _).alloc (Nat.le_refl _) (.cells #[.int .u8 ((n : Int) / 256 % 256)] 5))
        have hsz := HBn.out.size
        generalize rootP n 6 = R at *
        go_wp2_with (at_builtin; refine app_sl rfl _ _ rfl rfl hown hsz rfl hS (by simp; omega) ?_; intro v3 w3 hown3 hb3 _)
        rw [HP.out] at hown3
        go_roundw
        case rel => exact ⟨7, by omega, rfl, hown3, HBn.out.trans hb3⟩
        case measure => simp [intOf]
      · replace hse : _ = Value.int .i64 0 := hse
        subst hse
        have hS := be8_new wr n 7 1 ((n : Int) % 256) rfl (by omega)
        have HBn : Hid (Below W.heap.size W (wr.alloc (.cells #[.int .u8 ((n : Int) % 256)] 5))) := HBr.out.alloc HBr.out.size _
        have hown := own_past HOw.out ((Below.refl _ _).alloc (Nat.le_refl _) (.cells #[.int .u8 ((n : Int) % 256)] 5))
        have hsz := HBn.out.size
        generalize rootP n 7 = R at *
        go_wp2_with (at_builtin; refine app_sl rfl _ _ rfl rfl hown hsz rfl hS (by simp; omega) ?_; intro v3 w3 hown3 hb3 _)
        rw [HP.out] at hown3
        go_roundw
        case rel => exact ⟨8, by omega, rfl, hown3, HBn.out.trans hb3⟩
        case measure => simp [intOf]
    · have e8 : j = 8 := by omega
      have HOw : Hid (wr.ownsRow W.heap.size 5 1 (.slice ao (rootP n j).length cp) (2 :: be8 n).length (bys (2 :: be8 n))) := by
        show World.ownsRow _ _ _ _ _ _ _
        have e : rootP n 8 = 2 :: be8 n := rfl
        rw [← e, ← e8]; exact hown
      have HBr : Hid (Below W.heap.size W wr) := hb
      have l1 : ¬ ((0 : Int) ≤ 7 - (j : Int)) := by omega
      have Hl : Hid ((2 :: be8 n).length = 9) := rfl
      subst hse
      clear hown hb hj hj3 e8
      generalize (rootP n j).length = ln at *
      generalize 7 - (j : Int) = ji at *
      by_cases h0 : (0 : Int) < (n : Int)
      · replace HEn : Hid (upto (2 :: be8 n) h 32 = T) := HEn.out (by omega)
        clear HE0
        generalize 2 :: be8 n = R0 at *
        go_wp2_with fail
        go_loopw [5, 7] (fun t s wr => ∃ j : Nat, j ≤ 32 ∧ s = .int .i64 (j : Int) ∧ wr.ownsRow W.heap.size 5 1 t (upto R0 h j).length (bys (upto R0 h j)) ∧ Below W.heap.size W wr) (fun _ s _ => 32 - (intOf s).toNat)
        case atStart => exact ⟨0, by omega, rfl, by rw [upto_zero]; exact HOw.out, HBr.out⟩
        case round =>
          obtain ⟨j, hj, rfl, hown, hbr⟩ := hrel
          clear HOw HBr
          obtain ⟨ao, cp, rfl⟩ := own_shape hown
          by_cases hj3 : j < 32
          · have HP : Hid (upto R0 h j ++ [h.getD j 0] = upto R0 h (j + 1)) := upto_next _ _ _ (by rw [Hh.out]; exact hj3)
            have hrl := upto_len R0 h j (by rw [Hh.out]; exact hj)
            rw [Hl.out] at hrl
            have q0 := HR1.out wr j hbr hj3
            have hS := new_byte wr (h.getD j 0)
            have HBn : Hid (Below W.heap.size W (wr.alloc (.cells #[.int .u8 ((h.getD j 0).toNat : Int)] 5))) := hbr.alloc hbr.size _
            have hown2 := own_past hown ((Below.refl _ _).alloc (Nat.le_refl _) (.cells #[.int .u8 ((h.getD j 0).toNat : Int)] 5))
            have hsz := HBn.out.size
            have l1 : (j : Int) < 32 := by omega
            clear hown hbr
            generalize upto R0 h j = R at *
            generalize h.getD j 0 = x at *
            go_wp2_with (at_builtin; refine app_sl rfl _ _ rfl rfl hown2 hsz rfl hS (by simp; omega) ?_; intro v3 w3 hown3 hb3 _)
            rw [HP.out] at hown3
            go_roundw
            case rel => exact ⟨j + 1, by omega, by go_num, hown3, HBn.out.trans hb3⟩
            case measure => simp [intOf]; omega
          · obtain rfl : j = 32 := by omega
            have HOw : Hid (wr.ownsRow w.heap.size 5 1 (.slice ao (upto R0 h 32).length cp) (upto R0 h 32).length (bys (upto R0 h 32))) := own_lower hown HB0.out.size
            have HBr : Hid (Below w.heap.size w wr) := nextB HB0.out hbr
            clear hown hbr hj hj3 HR1
            generalize hln : (upto R0 h 32).length = ln at *
            have Hln : Hid ((upto R0 h 32).length = ln) := hln
            clear hln
            go_wp2_with fail
            go_ret
            refine ⟨_, rfl, ?_, HBr.out⟩
            have := HOw.out
            rw [← Hln.out, HEn.out] at this ⊢
            exact this
      · replace HE0 : Hid (2 :: be8 n = T) := HE0.out (by omega)
        have HOw2 : Hid (wr.ownsRow w.heap.size 5 1 (.slice ao ln cp) (2 :: be8 n).length (bys (2 :: be8 n))) := own_lower HOw.out HB0.out.size
        have HBr2 : Hid (Below w.heap.size w wr) := nextB HB0.out HBr.out
        clear HEn HOw HBr
        generalize 2 :: be8 n = R0 at *
        clear HR1
        go_wp2_with fail
        go_loopw [5, 7] (fun t s wr => t = .slice ao ln cp ∧ s = .int .i64 0 ∧ Hid (wr.ownsRow w.heap.size 5 1 (.slice ao ln cp) R0.length (bys R0)) ∧ Hid (Below w.heap.size w wr)) (fun _ _ _ => 0)
        case atStart => exact ⟨rfl, rfl, HOw2, HBr2⟩
        case round =>
          obtain ⟨rfl, rfl, HOw3, HBr3⟩ := hrel
          clear HOw2 HBr2
          go_wp2_with fail
          go_ret
          refine ⟨_, rfl, ?_, HBr3.out⟩
          rw [← HE0.out]
          exact HOw3.out
end Go.Proofs.Ytfkibbpekngciaa
