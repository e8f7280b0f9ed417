/-
  The two sums that the document tells.
-/
import Derived.Test.YtnfiecafkapgmaaSum
import Derived.Test.YtnfiecafkapgmaaHex
import Derived.Lib.SlBytesConst
namespace Go.Proofs.Ytnfiecafkapgmaa
open Go.RowKit
set_option maxRecDepth 100000 in
theorem known_nil : hexF (sumF []) = [101, 51, 98, 48, 99, 52, 52, 50, 57, 56, 102, 99, 49, 99, 49, 52, 57, 97, 102, 98, 102,
                                52, 99, 56, 57, 57, 54, 102, 98, 57, 50, 52, 50, 55, 97, 101, 52, 49, 101, 52, 54, 52,
                                57, 98, 57, 51, 52, 99, 97, 52, 57, 53, 57, 57, 49, 98, 55, 56, 53, 50, 98, 56, 53,
                                53] := by kernel_rfl
set_option maxRecDepth 100000 in
theorem known_abc : hexF (sumF [97, 98, 99]) = [98, 97, 55, 56, 49, 54, 98, 102, 56, 102, 48, 49, 99, 102, 101, 97, 52, 49, 52, 49, 52,
                                48, 100, 101, 53, 100, 97, 101, 50, 50, 50, 51, 98, 48, 48, 51, 54, 49, 97, 51, 57, 54,
                                49, 55, 55, 97, 57, 99, 98, 52, 49, 48, 102, 102, 54, 49, 102, 50, 48, 48, 49, 53, 97,
                                100] := by kernel_rfl
theorem sumF_len (l : List UInt8) : (sumF l).length = 32 := rfl

set_option maxHeartbeats 4000000 in
set_option maxRecDepth 20000 in
theorem told_any (w : World) : Calls Try.prog 7 #[] w fun ev w' => ev = .returned (.bool true) ∧ Below w.heap.size w w' := by
  have C1 := sum_any w (.slice none 0 0) [] ⟨.inl ⟨rfl, rfl⟩⟩ (by simp)
  have C2 : Hid (∀ y, Calls Try.prog 14 #[.agg (bys (sumF [])).toArray] y fun ev w' => ev = .returned (.string (str (hexF (sumF [])))) ∧ Below y.heap.size y w') := fun y => hex_any y _ (sumF_len _)
  have C3 : Hid (∀ y : World, Calls Try.prog 8 #[.slice (some ⟨y.heap.size, 0, none⟩) 3 3] (y.alloc (.cells #[.int .u8 97, .int .u8 98, .int .u8 99] 5 (3, 4))) fun ev w' => ev = .returned (.agg (bys (sumF [97, 98, 99])).toArray) ∧ Below y.heap.size y w') := by
    intro y
    have hA : Below y.heap.size y (y.alloc (.cells #[.int .u8 97, .int .u8 98, .int .u8 99] 5 (3, 4))) := (Below.refl _ _).alloc (Nat.le_refl _) _
    have hs : Sl (y.alloc (.cells (bys [97, 98, 99]).toArray 5 (3, 4))) (.slice (some ⟨y.heap.size, 0, none⟩) 3 3) [97, 98, 99] := by
      refine ⟨.inr ⟨_, 0, 3, rfl, by simp, fun i hi => ?_⟩⟩
      rw [Nat.zero_add, World.cell?_alloc_mark y (bys [97, 98, 99]).toArray 5 (3, 4) i, ← bys_get _ _ hi]
      simp
    refine (sum_any _ _ _ hs (by simp)).mono ?_
    rintro ev w' ⟨rfl, hb⟩
    exact ⟨rfl, hA.trans (hb.mono hA.size)⟩
  have C4 : Hid (∀ y, Calls Try.prog 14 #[.agg (bys (sumF [97, 98, 99])).toArray] y fun ev w' => ev = .returned (.string (str (hexF (sumF [97, 98, 99])))) ∧ Below y.heap.size y w') := fun y => hex_any y _ (sumF_len _)
  have kc := fun (w : World) (C : Array Value) (n c : Nat) => Lib.run_convert_bytes_const (P := Try.prog) w 22 5 C n c Try.underlying22 Try.underlying5
  have e1 := known_nil
  have e2 := known_abc
  rw [e1] at C2
  rw [e2] at C4
  clear e1 e2
  generalize (bys (sumF [])).toArray = Y1 at *
  generalize (bys (sumF [97, 98, 99])).toArray = Y2 at *
  unfold str at C2 C4
  go_enter Try.func7, Try.ntmps7
  go_wp2_with fail
  refine C1.mono ?_
  rintro ev w1 ⟨rfl, hb1⟩
  clear C1
  go_wp2_with fail
  refine (C2.out _).mono ?_
  rintro ev w2 ⟨rfl, hb2⟩
  clear C2
  go_wp2_with fail
  refine (C3.out _).mono ?_
  rintro ev w3 ⟨rfl, hb3⟩
  clear C3
  go_wp2_with fail
  refine (C4.out _).mono ?_
  rintro ev w4 ⟨rfl, hb4⟩
  clear C4
  go_wp2_with fail
  go_ret
  exact ⟨rfl, ((hb1.trans (hb2.mono hb1.size)).trans (hb3.mono (Nat.le_trans hb1.size hb2.size))).trans (hb4.mono (Nat.le_trans hb1.size (Nat.le_trans hb2.size hb3.size)))⟩
end Go.Proofs.Ytnfiecafkapgmaa
