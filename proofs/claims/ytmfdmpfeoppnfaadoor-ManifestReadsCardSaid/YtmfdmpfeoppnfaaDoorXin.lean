/-
  Rows of numbers held against each other.
-/
import Derived.Test.YtmfdmpfeoppnfaaDoorSam
namespace Go.Proofs.YtmfdmpfeoppnfaaDoor
open Go.RowKit

theorem Is.drews {w wr : World} {v : Value} {r : List Nat} (h : Is w v r) (hd : ∃ q, wr = w.drewN q) : Is wr v r := h.below (below_drews hd)
set_option maxHeartbeats 4000000 in
set_option maxRecDepth 20000 in
theorem ints_dr (w : World) (a b : Value) (A B : List Nat) (ha : Is w a A) (hb : Is w b B) :
    Calls Tryd.prog 24 #[a, b] w fun ev w' => ev = .returned (.bool (decide (A = B))) ∧ ∃ q, w' = w.drewN q := by
  obtain ⟨ao, ca, rfl, a1, a2, a3⟩ := ha.shape
  obtain ⟨bo, cb, rfl, b1, b2, b3⟩ := hb.shape
  have HA := hid0 a3
  have HB := hid0 b3
  clear ha hb a3 b3
  by_cases hl : A.length = B.length
  · rw [← hl] at b1 b2 HB ⊢
    obtain ⟨n, hn⟩ : ∃ n, n = A.length := ⟨_, rfl⟩
    have AN := aside0 hn
    rw [← hn] at a1 a2 b1 b2 HA HB ⊢
    clear hn
    go_enter Tryd.func24, Tryd.ntmps24
    go_wp2_with fail
    go_loopw [5] (fun i wr => ∃ k : Nat, k ≤ n ∧ i = .int .i64 k ∧ (∀ j, j < k → A.getD j 0 = B.getD j 0) ∧ ∃ q, wr = w.drewN q) (fun i _ => n - (intOf i).toNat)
    case atStart => exact ⟨0, by omega, rfl, fun j h => by omega, 0, rfl⟩
    case round =>
      obtain ⟨k, hk, rfl, hj, hbw⟩ := hrel
      have HJ := hid0 hj
      have HW := aside0 hbw
      clear hj hbw
      by_cases h3 : k < n
      · obtain ⟨p, o, rfl, q⟩ := HA.out k h3
        obtain ⟨p', o', rfl, q'⟩ := HB.out k h3
        have q0 : wr.cell? ⟨p, o + k, none⟩ = some (.int .i64 ((A.getD k 0 : Nat) : Int)) := by obtain ⟨_, e⟩ := HW.out; rw [e]; exact q
        have q1 : wr.cell? ⟨p', o' + k, none⟩ = some (.int .i64 ((B.getD k 0 : Nat) : Int)) := by obtain ⟨_, e⟩ := HW.out; rw [e]; exact q'
        have l1 : (k : Int) < (n : Int) := by omega
        clear q q'
        by_cases he : A.getD k 0 = B.getD k 0
        · have HP : Hid (∀ j, j < k + 1 → A.getD j 0 = B.getD j 0) := by
            intro j hj
            rcases Nat.lt_or_ge j k with h | h
            · exact HJ.out j h
            · obtain rfl : j = k := by omega
              exact he
          rw [he] at q0
          clear he HJ
          generalize B.getD k 0 = x at *
          go_wp2_with fail
          go_quiet (fail)
          go_wp2_with fail
          go_roundw
          case rel => exact ⟨k + 1, by omega, by go_num, HP.out, drews HW.out _⟩
          case measure => simp [intOf]; omega
        · have HP : Hid (A ≠ B) := fun e => he (by rw [e])
          have hb : (((A.getD k 0 : Nat) : Int) == ((B.getD k 0 : Nat) : Int)) = false := by rw [beq_eq_false_iff_ne]; omega
          have hb2 : ((A.getD k 0 : Nat) : Int) ≠ ((B.getD k 0 : Nat) : Int) := by omega
          clear he HJ
          generalize A.getD k 0 = x at *
          generalize B.getD k 0 = y at *
          go_wp2_with fail
          go_quiet (fail)
          go_wp2_with fail
          go_ret
          exact ⟨by rw [decide_eq_false HP.out]; rfl, drews HW.out _⟩
      · have l1 : ¬ (k : Int) < (n : Int) := by omega
        have HP : Hid (A = B) := lists_eq 0 hl (fun i hi => HJ.out i (by rw [← AN.out] at hi; omega))
        go_wp2_with fail
        go_ret
        exact ⟨by rw [decide_eq_true HP.out]; rfl, HW.out⟩
  · have HP : Hid (A ≠ B) := fun e => hl (by rw [e])
    have l1 : ((A.length : Int) == (B.length : Int)) = false := by simp; omega
    have l2 : (A.length : Int) ≠ (B.length : Int) := by omega
    clear hl
    generalize A.length = n at *
    generalize B.length = m at *
    go_enter Tryd.func24, Tryd.ntmps24
    go_wp2_with fail
    go_ret
    exact ⟨by rw [decide_eq_false HP.out]; rfl, 0, rfl⟩
set_option maxHeartbeats 4000000 in
set_option maxRecDepth 20000 in
theorem rows_dr (w : World) (a b : Value) (A : List (List Nat)) (ha : Rs w a A) (hb : Rs w b A) :
    Calls Tryd.prog 15 #[a, b] w fun ev w' => ev = .returned (.bool true) ∧ ∃ q, w' = w.drewN q := by
  obtain ⟨ao, ca, rfl, a1, a2, a3⟩ := ha.shape
  obtain ⟨bo, cb, rfl, b1, b2, b3⟩ := hb.shape
  have HA := hid0 a3
  have HB := hid0 b3
  clear ha hb a3 b3
  go_enter Tryd.func15, Tryd.ntmps15
  go_wp2_with fail
  go_loopw [5] (fun i wr => ∃ k : Nat, k ≤ A.length ∧ i = .int .i64 k ∧ ∃ q, wr = w.drewN q) (fun i _ => A.length - (intOf i).toNat)
  case atStart => exact ⟨0, by omega, rfl, 0, rfl⟩
  case round =>
    obtain ⟨k, hk, rfl, hbw⟩ := hrel
    have HW := aside0 hbw
    clear hbw
    by_cases h3 : k < A.length
    · obtain ⟨p, o, dv, rfl, q, qs⟩ := HA.out k h3
      obtain ⟨p', o', dv', rfl, q', qs'⟩ := HB.out k h3
      have q0 : wr.cell? ⟨p, o + k, none⟩ = some dv := by obtain ⟨_, e⟩ := HW.out; rw [e]; exact q
      have q1 : wr.cell? ⟨p', o' + k, none⟩ = some dv' := by obtain ⟨_, e⟩ := HW.out; rw [e]; exact q'
      have l1 : (k : Int) < (A.length : Int) := by omega
      have TX : Hid (∀ y, (∃ q, y = wr.drewN q) → Calls Tryd.prog 24 #[dv, dv'] y fun ev w' => ev = .returned (.bool true) ∧ ∃ q, w' = y.drewN q) := by
        intro y hy
        refine (ints_dr y dv dv' _ _ ((qs.drews HW.out).drews hy) ((qs'.drews HW.out).drews hy)).mono ?_
        rintro ev w' ⟨rfl, h⟩
        exact ⟨by simp, h⟩
      clear q q' qs qs'
      go_wp2_with fail
      go_quiet (first | (go_at_call 24; exact Calls.quiet_of (TX.out _ ⟨_, rfl⟩)))
      go_wp2_with fail
      go_roundw
      case rel => exact ⟨k + 1, by omega, by go_num, drews HW.out _⟩
      case measure => simp [intOf]; omega
    · have l1 : ¬ (k : Int) < (A.length : Int) := by omega
      go_wp2_with fail
      go_ret
      exact ⟨rfl, HW.out⟩
end Go.Proofs.YtmfdmpfeoppnfaaDoor
