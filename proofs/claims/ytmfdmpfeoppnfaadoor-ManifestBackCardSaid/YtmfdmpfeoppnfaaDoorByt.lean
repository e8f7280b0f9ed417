/-
  What a byte is: blank, digit, letter.
-/
import Derived.Test.YtmfdmpfeoppnfaaDoorMem
namespace Go.Proofs.YtmfdmpfeoppnfaaDoor
open Go.RowKit

theorem isDigit_any (c : UInt8) (w : World) : Calls Tryd.prog 85 #[.int .u8 (c.toNat : Int)] w fun ev w' => ev = .returned (.bool (isDg c)) ∧ w' = w := by
  obtain ⟨B, hB⟩ : ∃ B, isDg c = B := ⟨_, rfl⟩
  rw [hB]
  unfold isDg at hB
  generalize c.toNat = n at *
  by_cases h1 : 48 ≤ n <;> by_cases h2 : n ≤ 57 <;> (try omega) <;> simp [h1, h2] at hB <;> subst hB <;> (go_enter Tryd.func85, Tryd.ntmps85; go_wp2_with fail; go_ret; first | exact ⟨rfl, rfl⟩ | (refine ⟨?_, rfl⟩; simp; omega) | (refine ⟨?_, rfl⟩; simp [*]))

theorem xdigit_any (c : UInt8) (w : World) : Calls Tryd.prog 76 #[.int .u8 (c.toNat : Int)] w fun ev w' => ev = .returned (.bool (isDg c)) ∧ w' = w := by
  obtain ⟨B, hB⟩ : ∃ B, isDg c = B := ⟨_, rfl⟩
  rw [hB]
  unfold isDg at hB
  generalize c.toNat = n at *
  by_cases h1 : 48 ≤ n <;> by_cases h2 : n ≤ 57 <;> (try omega) <;> simp [h1, h2] at hB <;> subst hB <;> (go_enter Tryd.func76, Tryd.ntmps76; go_wp2_with fail; go_ret; first | exact ⟨rfl, rfl⟩ | (refine ⟨?_, rfl⟩; simp; omega) | (refine ⟨?_, rfl⟩; simp [*]))

theorem letter_any (c : UInt8) (w : World) : Calls Tryd.prog 63 #[.int .u8 (c.toNat : Int)] w fun ev w' => ev = .returned (.bool (isLt c)) ∧ w' = w := by
  obtain ⟨B, hB⟩ : ∃ B, isLt c = B := ⟨_, rfl⟩
  rw [hB]
  unfold isLt at hB
  generalize c.toNat = n at *
  by_cases h1 : 97 ≤ n <;> by_cases h2 : n ≤ 122 <;> by_cases h3 : 65 ≤ n <;> by_cases h4 : n ≤ 90 <;> (try omega) <;> by_cases h5 : n = 95 <;> (try omega) <;>
    (have h5' : (n : Int) = 95 ∨ (n : Int) ≠ 95 := by omega
     rcases h5' with h5' | h5' <;> (try omega) <;> simp [h1, h2, h3, h4, h5] at hB <;> subst hB <;> (try subst h5) <;> (go_enter Tryd.func63, Tryd.ntmps63; go_wp2_with fail; go_ret; first | exact ⟨rfl, rfl⟩ | (refine ⟨?_, rfl⟩; simp; omega) | (refine ⟨?_, rfl⟩; simp [*])))

theorem isNameByte_any (c : UInt8) (w : World) : Calls Tryd.prog 92 #[.int .u8 (c.toNat : Int)] w fun ev w' => ev = .returned (.bool (isNm c)) ∧ w' = w := by
  have D := isDigit_any c w
  obtain ⟨B, hB⟩ : ∃ B, isNm c = B := ⟨_, rfl⟩
  rw [hB]
  obtain ⟨I, hI⟩ : ∃ I, isDg c = I := ⟨_, rfl⟩
  unfold isNm at hB
  rw [hI] at hB D
  unfold isLt at hB
  clear hI
  generalize c.toNat = n at *
  by_cases h1 : 97 ≤ n <;> by_cases h2 : n ≤ 122 <;> by_cases h3 : 65 ≤ n <;> by_cases h4 : n ≤ 90 <;> (try omega) <;> by_cases h5 : n = 95 <;> (try omega) <;>
    (have h5' : (n : Int) = 95 ∨ (n : Int) ≠ 95 := by omega
     rcases h5' with h5' | h5' <;> (try omega) <;> simp [h1, h2, h3, h4, h5] at hB <;> subst hB <;> (try subst h5) <;> (go_enter Tryd.func92, Tryd.ntmps92; first | (go_wp2_with fail; go_ret; first | exact ⟨rfl, rfl⟩ | (refine ⟨?_, rfl⟩; simp; omega) | (refine ⟨?_, rfl⟩; simp [*])) | (go_wp2_with fail; refine D.mono ?_; rintro ev w' ⟨rfl, rfl⟩; go_wp2_with fail; go_ret; first | exact ⟨rfl, rfl⟩ | (refine ⟨?_, rfl⟩; simp; omega) | (refine ⟨?_, rfl⟩; simp [*]))))
end Go.Proofs.YtmfdmpfeoppnfaaDoor
