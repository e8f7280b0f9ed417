/-
  Sizes: names, lifetimes, signs.
-/
import Derived.Test.YtmfdmpfeoppnfaaDoorRun
import Derived.Test.YtmfdmpfeoppnfaaDoorWor
namespace Go.Proofs.YtmfdmpfeoppnfaaDoor
open Go.RowKit

/-- A text's part. -/
theorem str_from (l : List UInt8) (a : Nat) : (str l).extract a l.length = str (l.drop a) := by
  unfold str
  rw [ByteArray.extract_mk, List.take_of_length_le (by simp)]
theorem str_to (l : List UInt8) (b : Nat) : (str l).extract 0 b = str (l.take b) := by
  unfold str
  rw [ByteArray.extract_mk]; simp
theorem str_mid (l : List UInt8) (a b : Nat) : (str l).extract a b = str ((l.drop a).take (b - a)) := by
  unfold str
  rw [ByteArray.extract_mk]

/-- A name? -/
def nameB (l : List UInt8) : Bool := decide (l ≠ []) && decide (nameF l = l.length) && !isWord l
theorem str_nil_beq (l : List UInt8) : ((str l).toList == []) = decide (l = []) := by
  unfold str
  rw [ByteArray.toList_mk]
  cases l <;> rfl
set_option maxHeartbeats 4000000 in
theorem name_any (l : List UInt8) (hl : l.length ≤ 9223372036854775807) (w : World) : Calls Tryd.prog 57 #[.string (str l)] w fun ev w' => ev = .returned (.bool (nameB l)) ∧ w' = w := by
  have N := nameSize_any l hl w
  have W := word_any l w
  have hsz := str_size l
  obtain ⟨B, hB⟩ : ∃ B, nameB l = B := ⟨_, rfl⟩
  rw [hB]
  unfold nameB at hB
  have hnil := str_nil_beq l
  by_cases h0 : l = []
  · subst h0
    simp at hB
    subst hB
    clear N W hnil hsz
    unfold str
    go_enter Tryd.func57, Tryd.ntmps57
    go_wp2_with fail
    go_ret
    exact ⟨rfl, rfl⟩
  · rw [decide_eq_false h0] at hnil
    by_cases h1 : nameF l = l.length
    · have HB : Hid ((!isWord l) = B) := by show _ = B; rw [← hB]; simp [h0, h1]
      rw [h1] at N
      have b1 : ((l.length : Int) == (l.length : Int)) = true := by simp
      clear hB h0 h1
      generalize isWord l = I at *
      generalize l.length = n at *
      generalize str l = S at *
      go_enter Tryd.func57, Tryd.ntmps57
      go_wp2_with fail
      refine N.mono ?_
      rintro ev w2 ⟨rfl, rfl⟩
      go_wp2_with fail
      refine W.mono ?_
      rintro ev w2 ⟨rfl, rfl⟩
      go_wp2_with fail
      go_ret
      refine ⟨?_, rfl⟩
      rw [← HB.out]
      first | rfl | simp
    · have HB : Hid (false = B) := by show _ = B; rw [← hB]; simp [h1]
      have b1 : ((nameF l : Int) == (l.length : Int)) = false := by simp; omega
      have b2 : (nameF l : Int) ≠ (l.length : Int) := by omega
      clear hB h0 h1 W
      generalize nameF l = f at *
      generalize l.length = n at *
      generalize str l = S at *
      go_enter Tryd.func57, Tryd.ntmps57
      go_wp2_with fail
      refine N.mono ?_
      rintro ev w2 ⟨rfl, rfl⟩
      go_wp2_with fail
      go_ret
      refine ⟨?_, rfl⟩
      rw [← HB.out]
      first | rfl | simp [b1, b2]

end Go.Proofs.YtmfdmpfeoppnfaaDoor
