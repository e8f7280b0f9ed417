/-
  Sizes: names, lifetimes, signs.
-/
import Derived.Test.YtdnjcajbmibjiaaDoorRun
import Derived.Test.YtdnjcajbmibjiaaDoorWor
namespace Go.Proofs.YtdnjcajbmibjiaaDoor
open Go.RowKit

/-- A text's part. -/
theorem str_from (l : List UInt8) (a : Nat) : (str l).extract a l.length = str (l.drop a) := by
  unfold str
  rw [ByteArray.extract_mk, List.take_of_length_le (by simp)]
theorem str_to (l : List UInt8) (b : Nat) : (str l).extract 0 b = str (l.take b) := by
  unfold str
  rw [ByteArray.extract_mk]; simp
theorem str_mid (l : List UInt8) (a b : Nat) : (str l).extract a b = str ((l.drop a).take (b - a)) := by
  unfold str
  rw [ByteArray.extract_mk]

/-- A name? -/
def nameB (l : List UInt8) : Bool := decide (l ≠ []) && decide (nameF l = l.length) && !isWord l
theorem str_nil_beq (l : List UInt8) : ((str l).toList == []) = decide (l = []) := by
  unfold str
  rw [ByteArray.toList_mk]
  cases l <;> rfl
set_option maxHeartbeats 4000000 in
theorem name_any (l : List UInt8) (hl : l.length ≤ 9223372036854775807) (w : World) : Calls Tryd.prog 13 #[.string (str l)] w fun ev w' => ev = .returned (.bool (nameB l)) ∧ w' = w := by
  have N := nameSize_any l hl w
  have W := word_any l w
  have hsz := str_size l
  obtain ⟨B, hB⟩ : ∃ B, nameB l = B := ⟨_, rfl⟩
  rw [hB]
  unfold nameB at hB
  have hnil := str_nil_beq l
  by_cases h0 : l = []
  · subst h0
    simp at hB
    subst hB
    clear N W hnil hsz
    unfold str
    go_enter Tryd.func13, Tryd.ntmps13
    go_wp2_with fail
    go_ret
    exact ⟨rfl, rfl⟩
  · rw [decide_eq_false h0] at hnil
    by_cases h1 : nameF l = l.length
    · have HB : Hid ((!isWord l) = B) := by show _ = B; rw [← hB]; simp [h0, h1]
      rw [h1] at N
      have b1 : ((l.length : Int) == (l.length : Int)) = true := by simp
      clear hB h0 h1
      generalize isWord l = I at *
      generalize l.length = n at *
      generalize str l = S at *
      go_enter Tryd.func13, Tryd.ntmps13
      go_wp2_with fail
      refine N.mono ?_
      rintro ev w2 ⟨rfl, rfl⟩
      go_wp2_with fail
      refine W.mono ?_
      rintro ev w2 ⟨rfl, rfl⟩
      go_wp2_with fail
      go_ret
      refine ⟨?_, rfl⟩
      rw [← HB.out]
      first | rfl | simp
    · have HB : Hid (false = B) := by show _ = B; rw [← hB]; simp [h1]
      have b1 : ((nameF l : Int) == (l.length : Int)) = false := by simp; omega
      have b2 : (nameF l : Int) ≠ (l.length : Int) := by omega
      clear hB h0 h1 W
      generalize nameF l = f at *
      generalize l.length = n at *
      generalize str l = S at *
      go_enter Tryd.func13, Tryd.ntmps13
      go_wp2_with fail
      refine N.mono ?_
      rintro ev w2 ⟨rfl, rfl⟩
      go_wp2_with fail
      go_ret
      refine ⟨?_, rfl⟩
      rw [← HB.out]
      first | rfl | simp [b1, b2]

/-- A lifetime's size, or nought. -/
def lifeF (l : List UInt8) : Nat := if nameF (l.drop 1) = 0 then 0 else nameF (l.drop 1) + 1
set_option maxHeartbeats 4000000 in
theorem lifeSize_any (l : List UInt8) (h0 : 1 ≤ l.length) (hl : l.length ≤ 9223372036854775807) (w : World) : Calls Tryd.prog 37 #[.string (str l)] w fun ev w' => ev = .returned (.int .i64 (lifeF l : Int)) ∧ w' = w := by
  have N := nameSize_any (l.drop 1) (by simp; omega) w
  have hle := (nameF_le (l.drop 1)).2
  have hsz := str_size l
  have hex := str_from l 1
  obtain ⟨L, hL⟩ : ∃ L, lifeF l = L := ⟨_, rfl⟩
  rw [hL]
  unfold lifeF at hL
  generalize str (l.drop 1) = S1 at *
  generalize str l = S at *
  generalize nameF (l.drop 1) = f at *
  by_cases h1 : f = 0
  · subst h1
    simp at hL
    subst hL
    go_enter Tryd.func37, Tryd.ntmps37
    go_wp2_with fail
    refine N.mono ?_
    rintro ev w2 ⟨rfl, rfl⟩
    go_wp2_with fail
    go_ret
    exact ⟨rfl, rfl⟩
  · rw [if_neg h1] at hL
    have HL : Hid (f + 1 = L) := hL
    have b1 : ((f : Int) == 0) = false := by simp; omega
    have b2 : (f : Int) ≠ 0 := by omega
    clear hL
    go_enter Tryd.func37, Tryd.ntmps37
    go_wp2_with fail
    refine N.mono ?_
    rintro ev w2 ⟨rfl, rfl⟩
    go_wp2_with fail
    go_ret
    refine ⟨?_, rfl⟩
    rw [← HL.out]
    first | rfl | (simp; omega)

theorem pair_cases {l : List UInt8} (h : signs2.contains l = true) : l = [58, 58] ∨ l = [45, 62] ∨ l = [61, 61] := by
  simpa only [signs2, List.contains_eq_mem, List.mem_cons, List.not_mem_nil, decide_eq_true_eq, or_false] using h
theorem not_pair {l x : List UInt8} (h : signs2.contains l = false) (hx : signs2.contains x = true) : ((str l).toList == x) = false := by
  unfold str
  rw [ByteArray.toList_mk, beq_eq_false_iff_ne]
  rintro rfl
  rw [hx] at h; cases h
theorem isPair_any (l : List UInt8) (w : World) : Calls Tryd.prog 45 #[.string (str l)] w fun ev w' => ev = .returned (.bool (signs2.contains l)) ∧ w' = w := by
  cases h : signs2.contains l
  · have h1 : ((str l).toList == [58, 58]) = false := not_pair h rfl
    have h2 : ((str l).toList == [45, 62]) = false := not_pair h rfl
    have h3 : ((str l).toList == [61, 61]) = false := not_pair h rfl
    clear h
    generalize str l = S at *
    go_enter Tryd.func45, Tryd.ntmps45
    go_wp2_with fail
    go_ret
    refine ⟨?_, rfl⟩
    first | rfl | simp [h1, h2, h3]
  · rcases pair_cases h with rfl | rfl | rfl <;> (clear h; unfold str; go_enter Tryd.func45, Tryd.ntmps45; go_wp2_with fail; go_ret; exact ⟨rfl, rfl⟩)
end Go.Proofs.YtdnjcajbmibjiaaDoor
