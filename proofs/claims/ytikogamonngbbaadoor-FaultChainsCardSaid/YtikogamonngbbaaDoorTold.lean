/-
  The few answers that every statement of the first layer asks first are as the document says.
-/
import Derived.Test.YtikogamonngbbaaDoorInts
namespace Go.Proofs.YtikogamonngbbaaDoor
open Go.RowKit Go.Extern.Stop Go.Stop Go.Extern Err

theorem told_e (b1 b2 : Nat) : ∃ E : Err, E = fault b2 (code (fault b1 22 7 (num 22))) 3 (fault b1 22 7 (num 22)) ∧ code E = 22 ∧ at_ E = 7 ∧ path E = [3, 7] ∧ has 22 E = true ∧ has 1 E = false ∧ (links (ff E)).length ≤ 100 :=
  ⟨_, rfl, rfl, rfl, rfl, rfl, rfl, Nat.le_of_ble_eq_true rfl⟩

set_option maxHeartbeats 2000000 in
theorem told_any (w : World) (hg : Glob w) : Calls Tryd.prog 6 #[] w fun ev w' => ev = .returned (.bool true) ∧ Below w.heap.size w w' := by
  go_enter Tryd.func6, Tryd.ntmps6
  go_wp2_with fail
  refine (new_any 22 7 _ (by decide)).mono ?_
  rintro ev w1 ⟨rfl, hl1, hB1⟩
  go_wp2_with fail
  refine (in_any _ 3 _ (hg.below hB1) hl1).mono ?_
  rintro ev w2 ⟨b2, -, rfl, hl2, hB2'⟩
  obtain ⟨E, hE, e1, e2, e3, e4, e5, e6⟩ := told_e w.heap.size b2
  rw [← hE] at hl2 ⊢
  have hB2 := hB1.trans (hB2'.mono hB1.size)
  clear hE hB2' hl1 hB1
  go_wp2_with fail
  refine (new_zero 5 _).mono ?_
  rintro ev w' ⟨rfl, rfl⟩
  go_wp2_with fail
  refine (in_nil 5 _).mono ?_
  rintro ev w' ⟨rfl, rfl⟩
  go_wp2_with fail
  refine (code_any E _ (hg.below hB2) hl2).mono ?_
  rintro ev w3 ⟨rfl, hB3'⟩
  rw [e1]
  have hl3 := lies_below hB3' (Nat.le_refl _) hl2
  have hB3 := hB2.trans (hB3'.mono hB2.size)
  clear hB3' hl2 hB2
  go_wp2_with fail
  refine (at_any E _ (hg.below hB3) hl3 e6).mono ?_
  rintro ev w4 ⟨rfl, hB4'⟩
  rw [e2]
  have hl4 := lies_below hB4' (Nat.le_refl _) hl3
  have hB4 := hB3.trans (hB4'.mono hB3.size)
  clear hB4' hl3 hB3
  go_wp2_with fail
  refine (path_any E _ (hg.below hB4) hl4 e6).mono ?_
  rintro ev w5 ⟨v, rfl, hown, hB5'⟩
  rw [e3] at hown
  have hv := sl_own hown
  have hl5 := lies_below hB5' (Nat.le_refl _) hl4
  have hB5 := hB4.trans (hB5'.mono hB4.size)
  clear hown hB5' hl4 hB4
  go_wp2_with fail
  have hB6' : Below w5.heap.size w5 (w5.alloc (.cells #[.int .i64 3, .int .i64 7] 3)) := (Below.refl _ _).alloc (Nat.le_refl _) _
  have hs2 : Sl (w5.alloc (.cells #[.int .i64 3, .int .i64 7] 3)) (.slice (some ⟨w5.heap.size, 0, none⟩) 2 2) [3, 7] :=
    ⟨_, _, rfl, Nat.le_refl _, fun k hk => ⟨_, _, rfl, by
      match k, hk with
      | 0, _ => simp
      | 1, _ => simp⟩⟩
  refine (ints_same _ _ [3, 7] _ (hv.below hB6') hs2 (by decide)).mono ?_
  rintro ev w6 ⟨rfl, hB6''⟩
  have hB56 := hB6'.trans (hB6''.mono hB6'.size)
  have hl6 := lies_below hB56 (Nat.le_refl _) hl5
  have hB6 := hB5.trans (hB56.mono hB5.size)
  clear hB6' hs2 hB6'' hB56 hl5 hB5 hv
  go_wp2_with fail
  refine (is_fault E 22 _ (hg.below hB6) hl6 e6).mono ?_
  rintro ev w7 ⟨rfl, hB7'⟩
  rw [e4]
  have hl7 := lies_below hB7' (Nat.le_refl _) hl6
  have hB7 := hB6.trans (hB7'.mono hB6.size)
  clear hB7' hl6 hB6
  go_wp2_with fail
  refine (is_fault E 1 _ (hg.below hB7) hl7 e6).mono ?_
  rintro ev w8 ⟨rfl, hB8'⟩
  rw [e5]
  have hB8 := hB7.trans (hB8'.mono hB7.size)
  clear hB8' hl7 hB7
  go_wp2_with fail
  refine (is_nil 0 _).mono ?_
  rintro ev w9 ⟨rfl, rfl⟩
  go_wp2_with fail
  refine (code_nil _).mono ?_
  rintro ev w10 ⟨rfl, rfl⟩
  go_wp2
  go_ret
  exact ⟨rfl, hB8⟩
end Go.Proofs.YtikogamonngbbaaDoor
