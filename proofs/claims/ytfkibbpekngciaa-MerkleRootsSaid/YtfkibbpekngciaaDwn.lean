/-
  goDown: which leaves are told to its closure.
-/
import Derived.Test.YtfkibbpekngciaaLof
namespace Go.Proofs.Ytfkibbpekngciaa
open Go.RowKit

set_option maxHeartbeats 4000000 in
theorem down47_any (P : List (Nat × Nat) → World → Prop) (c1 c2 c3 : Value) (idx n : Nat) (hi : idx < n) (hn : n ≤ 9223372036854775807) (w : World) (h0 : P [] w)
    (hs : ∀ d (a b : Nat) y, P d y → a < b → b ≤ n → d.length < 64 → Calls Try.prog 47 #[.int .i64 (a : Int), .int .i64 (b : Int), c1, c2, c3] y fun ev y' => ev = .returned (.tuple #[]) ∧ P (d ++ [(a, b)]) y') :
    Calls Try.prog 46 #[.int .i64 (idx : Int), .int .i64 (n : Int), .func (.func 47) #[] #[c1, c2, c3]] w fun ev w' => ev = .returned (.tuple #[]) ∧ P (downs idx 0 n) w' := by
  have H0 : Hid (P [] w) := h0
  have HS : Hid (∀ d (a b : Nat) y, P d y → a < b → b ≤ n → d.length < 64 → Calls Try.prog 47 #[.int .i64 (a : Int), .int .i64 (b : Int), c1, c2, c3] y fun ev y' => ev = .returned (.tuple #[]) ∧ P (d ++ [(a, b)]) y') := hs
  clear h0 hs
  go_enter Try.func46, Try.ntmps46
  go_wp2_with fail
  go_loopw [6, 7] (fun lo hg wr => ∃ (low high : Nat) (d : List (Nat × Nat)), lo = .int .i64 (low : Int) ∧ hg = .int .i64 (high : Int) ∧ low ≤ idx ∧ idx < high ∧ high ≤ n ∧ P d wr ∧ d ++ downs idx low high = downs idx 0 n) (fun lo hg _ => (intOf hg - intOf lo).toNat)
  case atStart => exact ⟨0, n, [], rfl, rfl, by omega, hi, Nat.le_refl _, H0.out, rfl⟩
  case round =>
    obtain ⟨low, high, d, rfl, rfl, h1, h2, h3, hP, hd⟩ := hrel
    clear H0
    have HD : Hid (d ++ downs idx low high = downs idx 0 n) := hd
    have HP : Hid (P d wr) := hP
    clear hd hP
    by_cases hgo : 2 ≤ high - low
    · have HL := left_any wr (high - low) hgo (by omega)
      have hh := half_le (high - low) hgo
      have hd64 : d.length < 64 := by
        have a1 := congrArg List.length HD.out
        have a2 := downs_64 idx n hn
        have a3 := downs_pos idx low high hgo
        rw [List.length_append] at a1
        omega
      have HLe := downs_left idx low high hgo
      have HRi := downs_right idx low high hgo
      have HLe' : Hid _ := HLe
      have HRi' : Hid _ := HRi
      clear HLe HRi
      generalize half (high - low) = k at *
      have e1 : ((high - low : Nat) : Int) = (high : Int) - (low : Int) := by omega
      rw [e1] at HL
      clear e1
      have g1 : (1 : Int) < (high : Int) - (low : Int) := by omega
      have g2 : (high : Int) ≤ 9223372036854775807 := by omega
      have g3 : (0 : Int) ≤ (low : Int) := by omega
      have g4 : (low : Int) + (k : Int) ≤ (high : Int) := by omega
      have g5 : (0 : Int) ≤ (k : Int) := by omega
      by_cases hl : idx < low + k
      · have HC := HS.out d (low + k) high wr HP.out (by omega) h3 hd64
        have g6 : (idx : Int) < (low : Int) + (k : Int) := by omega
        have e2 : ((low + k : Nat) : Int) = (low : Int) + (k : Int) := by omega
        rw [e2] at HC
        clear e2
        go_wp2_with (first | (go_at_call 52; refine HL.mono ?_; rintro ev w1 ⟨rfl, rfl⟩) | (go_at_call 47; refine HC.mono ?_; rintro ev w2 ⟨rfl, hP2⟩))
        go_roundw
        case rel => exact ⟨low, low + k, d ++ [(low + k, high)], rfl, by go_num, h1, hl, by omega, hP2, by rw [List.append_assoc, List.singleton_append, ← HLe'.out hl]; exact HD.out⟩
        case measure => simp [intOf]; omega
      · have HC := HS.out d low (low + k) wr HP.out (by omega) (by omega) hd64
        have g6 : ¬ (idx : Int) < (low : Int) + (k : Int) := by omega
        have e2 : ((low + k : Nat) : Int) = (low : Int) + (k : Int) := by omega
        rw [e2] at HC
        clear e2
        go_wp2_with (first | (go_at_call 52; refine HL.mono ?_; rintro ev w1 ⟨rfl, rfl⟩) | (go_at_call 47; refine HC.mono ?_; rintro ev w2 ⟨rfl, hP2⟩))
        go_roundw
        case rel => exact ⟨low + k, high, d ++ [(low, low + k)], by go_num, rfl, by omega, h2, h3, hP2, by rw [List.append_assoc, List.singleton_append, ← HRi'.out hl]; exact HD.out⟩
        case measure => simp [intOf]; omega
    · have g1 : ¬ (1 : Int) < (high : Int) - (low : Int) := by omega
      have g2 : (high : Int) ≤ 9223372036854775807 := by omega
      have g3 : (0 : Int) ≤ (low : Int) := by omega
      have g7 : (low : Int) ≤ (high : Int) := by omega
      have hE : downs idx 0 n = d := by
        rw [← HD.out, downs_end idx low high (by omega), List.append_nil]
      have HE : Hid (downs idx 0 n = d) := hE
      clear hE
      go_wp2_with fail
      go_end0
      exact ⟨rfl, by rw [HE.out]; exact HP.out⟩

set_option maxHeartbeats 4000000 in
theorem down57_any (P : List (Nat × Nat) → World → Prop) (c1 c2 : Value) (idx n : Nat) (hi : idx < n) (hn : n ≤ 9223372036854775807) (w : World) (h0 : P [] w)
    (hs : ∀ d (a b : Nat) y, P d y → a < b → b ≤ n → d.length < 64 → Calls Try.prog 57 #[.int .i64 (a : Int), .int .i64 (b : Int), c1, c2] y fun ev y' => ev = .returned (.tuple #[]) ∧ P (d ++ [(a, b)]) y') :
    Calls Try.prog 46 #[.int .i64 (idx : Int), .int .i64 (n : Int), .func (.func 57) #[] #[c1, c2]] w fun ev w' => ev = .returned (.tuple #[]) ∧ P (downs idx 0 n) w' := by
  have H0 : Hid (P [] w) := h0
  have HS : Hid (∀ d (a b : Nat) y, P d y → a < b → b ≤ n → d.length < 64 → Calls Try.prog 57 #[.int .i64 (a : Int), .int .i64 (b : Int), c1, c2] y fun ev y' => ev = .returned (.tuple #[]) ∧ P (d ++ [(a, b)]) y') := hs
  clear h0 hs
  go_enter Try.func46, Try.ntmps46
  go_wp2_with fail
  go_loopw [6, 7] (fun lo hg wr => ∃ (low high : Nat) (d : List (Nat × Nat)), lo = .int .i64 (low : Int) ∧ hg = .int .i64 (high : Int) ∧ low ≤ idx ∧ idx < high ∧ high ≤ n ∧ P d wr ∧ d ++ downs idx low high = downs idx 0 n) (fun lo hg _ => (intOf hg - intOf lo).toNat)
  case atStart => exact ⟨0, n, [], rfl, rfl, by omega, hi, Nat.le_refl _, H0.out, rfl⟩
  case round =>
    obtain ⟨low, high, d, rfl, rfl, h1, h2, h3, hP, hd⟩ := hrel
    clear H0
    have HD : Hid (d ++ downs idx low high = downs idx 0 n) := hd
    have HP : Hid (P d wr) := hP
    clear hd hP
    by_cases hgo : 2 ≤ high - low
    · have HL := left_any wr (high - low) hgo (by omega)
      have hh := half_le (high - low) hgo
      have hd64 : d.length < 64 := by
        have a1 := congrArg List.length HD.out
        have a2 := downs_64 idx n hn
        have a3 := downs_pos idx low high hgo
        rw [List.length_append] at a1
        omega
      have HLe := downs_left idx low high hgo
      have HRi := downs_right idx low high hgo
      have HLe' : Hid _ := HLe
      have HRi' : Hid _ := HRi
      clear HLe HRi
      generalize half (high - low) = k at *
      have e1 : ((high - low : Nat) : Int) = (high : Int) - (low : Int) := by omega
      rw [e1] at HL
      clear e1
      have g1 : (1 : Int) < (high : Int) - (low : Int) := by omega
      have g2 : (high : Int) ≤ 9223372036854775807 := by omega
      have g3 : (0 : Int) ≤ (low : Int) := by omega
      have g4 : (low : Int) + (k : Int) ≤ (high : Int) := by omega
      have g5 : (0 : Int) ≤ (k : Int) := by omega
      by_cases hl : idx < low + k
      · have HC := HS.out d (low + k) high wr HP.out (by omega) h3 hd64
        have g6 : (idx : Int) < (low : Int) + (k : Int) := by omega
        have e2 : ((low + k : Nat) : Int) = (low : Int) + (k : Int) := by omega
        rw [e2] at HC
        clear e2
        go_wp2_with (first | (go_at_call 52; refine HL.mono ?_; rintro ev w1 ⟨rfl, rfl⟩) | (go_at_call 57; refine HC.mono ?_; rintro ev w2 ⟨rfl, hP2⟩))
        go_roundw
        case rel => exact ⟨low, low + k, d ++ [(low + k, high)], rfl, by go_num, h1, hl, by omega, hP2, by rw [List.append_assoc, List.singleton_append, ← HLe'.out hl]; exact HD.out⟩
        case measure => simp [intOf]; omega
      · have HC := HS.out d low (low + k) wr HP.out (by omega) (by omega) hd64
        have g6 : ¬ (idx : Int) < (low : Int) + (k : Int) := by omega
        have e2 : ((low + k : Nat) : Int) = (low : Int) + (k : Int) := by omega
        rw [e2] at HC
        clear e2
        go_wp2_with (first | (go_at_call 52; refine HL.mono ?_; rintro ev w1 ⟨rfl, rfl⟩) | (go_at_call 57; refine HC.mono ?_; rintro ev w2 ⟨rfl, hP2⟩))
        go_roundw
        case rel => exact ⟨low + k, high, d ++ [(low, low + k)], by go_num, rfl, by omega, h2, h3, hP2, by rw [List.append_assoc, List.singleton_append, ← HRi'.out hl]; exact HD.out⟩
        case measure => simp [intOf]; omega
    · have g1 : ¬ (1 : Int) < (high : Int) - (low : Int) := by omega
      have g2 : (high : Int) ≤ 9223372036854775807 := by omega
      have g3 : (0 : Int) ≤ (low : Int) := by omega
      have g7 : (low : Int) ≤ (high : Int) := by omega
      have hE : downs idx 0 n = d := by
        rw [← HD.out, downs_end idx low high (by omega), List.append_nil]
      have HE : Hid (downs idx 0 n = d) := hE
      clear hE
      go_wp2_with fail
      go_end0
      exact ⟨rfl, by rw [HE.out]; exact HP.out⟩
end Go.Proofs.Ytfkibbpekngciaa
