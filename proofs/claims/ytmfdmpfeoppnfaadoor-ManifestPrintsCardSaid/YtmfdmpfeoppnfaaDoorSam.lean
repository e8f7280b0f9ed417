/-
  Same: two lists of crates.
-/
import Derived.Test.YtmfdmpfeoppnfaaDoorTol
namespace Go.Proofs.YtmfdmpfeoppnfaaDoor
open Go.RowKit

theorem drews {w wr : World} (h : ∃ q, wr = w.drewN q) (n : Nat) : ∃ q, wr.drewN n = w.drewN q := by
  obtain ⟨q, rfl⟩ := h
  exact ⟨q + n, by simp [World.drewN, Nat.add_assoc]⟩
theorem below_drews {w wr : World} (h : ∃ q, wr = w.drewN q) : Below w.heap.size w wr := by
  obtain ⟨q, rfl⟩ := h
  exact below_drewE (Below.refl _ _) q
set_option maxHeartbeats 4000000 in
set_option maxRecDepth 20000 in
theorem texts_dr (w : World) (a b : Value) (A B : List Bs) (ha : Ss w a A) (hb : Ss w b B) :
    Calls Tryd.prog 20 #[a, b] w fun ev w' => ev = .returned (.bool (decide (A = B))) ∧ ∃ q, w' = w.drewN q := by
  obtain ⟨ao, ca, rfl, a1, a2, a3⟩ := ha.shape
  obtain ⟨bo, cb, rfl, b1, b2, b3⟩ := hb.shape
  have HA := hid0 a3
  have HB := hid0 b3
  clear ha hb a3 b3
  by_cases hl : A.length = B.length
  · rw [← hl] at b1 b2 HB ⊢
    obtain ⟨n, hn⟩ : ∃ n, n = A.length := ⟨_, rfl⟩
    have AN := aside0 hn
    rw [← hn] at a1 a2 b1 b2 HA HB ⊢
    clear hn
    go_enter Tryd.func20, Tryd.ntmps20
    go_wp2_with fail
    go_loopw [5] (fun i wr => ∃ k : Nat, k ≤ n ∧ i = .int .i64 k ∧ (∀ j, j < k → A.getD j [] = B.getD j []) ∧ ∃ q, wr = w.drewN q) (fun i _ => n - (intOf i).toNat)
    case atStart => exact ⟨0, by omega, rfl, fun j h => by omega, 0, rfl⟩
    case round =>
      obtain ⟨k, hk, rfl, hj, hbw⟩ := hrel
      have HJ := hid0 hj
      have HW := aside0 hbw
      clear hj hbw
      by_cases h3 : k < n
      · obtain ⟨p, o, rfl, q⟩ := HA.out k h3
        obtain ⟨p', o', rfl, q'⟩ := HB.out k h3
        have q0 : wr.cell? ⟨p, o + k, none⟩ = some (.string (str (A.getD k []))) := by obtain ⟨_, e⟩ := HW.out; rw [e]; exact q
        have q1 : wr.cell? ⟨p', o' + k, none⟩ = some (.string (str (B.getD k []))) := by obtain ⟨_, e⟩ := HW.out; rw [e]; exact q'
        have hb := str_beq (A.getD k []) (B.getD k [])
        have l1 : (k : Int) < (n : Int) := by omega
        clear q q'
        by_cases he : A.getD k [] = B.getD k []
        · have HP : Hid (∀ j, j < k + 1 → A.getD j [] = B.getD j []) := by
            intro j hj
            rcases Nat.lt_or_ge j k with h | h
            · exact HJ.out j h
            · obtain rfl : j = k := by omega
              exact he
          rw [decide_eq_true he] at hb
          clear he HJ
          generalize str (A.getD k []) = S1 at *
          generalize str (B.getD k []) = S2 at *
          go_wp2_with fail
          go_quiet (fail)
          go_wp2_with fail
          go_roundw
          case rel => exact ⟨k + 1, by omega, by go_num, HP.out, drews HW.out _⟩
          case measure => simp [intOf]; omega
        · have HP : Hid (A ≠ B) := fun e => he (by rw [e])
          rw [decide_eq_false he] at hb
          clear he HJ
          generalize str (A.getD k []) = S1 at *
          generalize str (B.getD k []) = S2 at *
          go_wp2_with fail
          go_quiet (fail)
          go_wp2_with fail
          go_ret
          exact ⟨by rw [decide_eq_false HP.out]; rfl, drews HW.out _⟩
      · have l1 : ¬ (k : Int) < (n : Int) := by omega
        have HP : Hid (A = B) := lists_eq [] hl (fun i hi => HJ.out i (by rw [← AN.out] at hi; omega))
        go_wp2_with fail
        go_ret
        exact ⟨by rw [decide_eq_true HP.out]; rfl, HW.out⟩
  · have HP : Hid (A ≠ B) := fun e => hl (by rw [e])
    have l1 : ((A.length : Int) == (B.length : Int)) = false := by simp; omega
    have l2 : (A.length : Int) ≠ (B.length : Int) := by omega
    clear hl
    generalize A.length = n at *
    generalize B.length = m at *
    go_enter Tryd.func20, Tryd.ntmps20
    go_wp2_with fail
    go_ret
    exact ⟨by rw [decide_eq_false HP.out]; rfl, 0, rfl⟩
theorem Ss.drews {w wr : World} {v : Value} {D : List Bs} (h : Ss w v D) (hd : ∃ q, wr = w.drewN q) : Ss wr v D := h.below (below_drews hd)
set_option maxHeartbeats 8000000 in
set_option maxRecDepth 20000 in
theorem same_any (w : World) (a b : Value) (A B : List Src) (ha : Srs w a A) (hb : Srs w b B) :
    Calls Tryd.prog 12 #[a, b] w fun ev w' => ev = .returned (.bool (eqL A B)) ∧ ∃ q, w' = w.drewN q := by
  obtain ⟨ao, ca, rfl, a1, a2, a3⟩ := ha.shape
  obtain ⟨bo, cb, rfl, b1, b2, b3⟩ := hb.shape
  have HA := hid0 a3
  have HB := hid0 b3
  clear ha hb a3 b3
  by_cases hl : A.length = B.length
  · rw [← hl] at b1 b2 HB ⊢
    obtain ⟨n, hn⟩ : ∃ n, n = A.length := ⟨_, rfl⟩
    have AN := aside0 hn
    rw [← hn] at a1 a2 b1 b2 HA HB ⊢
    clear hn
    go_enter Tryd.func12, Tryd.ntmps12
    go_wp2_with fail
    go_loopw [5] (fun i wr => ∃ k : Nat, k ≤ n ∧ i = .int .i64 k ∧ (∀ j, j < k → A.getD j Src.zero = B.getD j Src.zero) ∧ ∃ q, wr = w.drewN q) (fun i _ => n - (intOf i).toNat)
    case atStart => exact ⟨0, by omega, rfl, fun j h => by omega, 0, rfl⟩
    case round =>
      obtain ⟨k, hk, rfl, hj, hbw⟩ := hrel
      have HJ := hid0 hj
      have HW := aside0 hbw
      clear hj hbw
      by_cases h3 : k < n
      · obtain ⟨p, o, dv, rfl, q0, q1, q2, qs⟩ := HA.out k h3
        obtain ⟨p', o', dv', rfl, r0, r1, r2, rs⟩ := HB.out k h3
        have l1 : (k : Int) < (n : Int) := by omega
        have c0 : wr.cell? ⟨p, o + k * 3, none⟩ = some (.string (str (A.getD k Src.zero).name)) := by obtain ⟨_, e⟩ := HW.out; rw [e]; exact q0
        have c1 : wr.cell? ⟨p, o + k * 3 + 1, none⟩ = some dv := by obtain ⟨_, e⟩ := HW.out; rw [e]; exact q1
        have c2 : wr.cell? ⟨p, o + k * 3 + 2, none⟩ = some (.string (str (A.getD k Src.zero).text)) := by obtain ⟨_, e⟩ := HW.out; rw [e]; exact q2
        have d0 : wr.cell? ⟨p', o' + k * 3, none⟩ = some (.string (str (B.getD k Src.zero).name)) := by obtain ⟨_, e⟩ := HW.out; rw [e]; exact r0
        have d1 : wr.cell? ⟨p', o' + k * 3 + 1, none⟩ = some dv' := by obtain ⟨_, e⟩ := HW.out; rw [e]; exact r1
        have d2 : wr.cell? ⟨p', o' + k * 3 + 2, none⟩ = some (.string (str (B.getD k Src.zero).text)) := by obtain ⟨_, e⟩ := HW.out; rw [e]; exact r2
        have TX := hid0 (fun y (hy : ∃ q, y = wr.drewN q) => texts_dr y dv dv' _ _ ((qs.drews HW.out).drews hy) ((rs.drews HW.out).drews hy))
        clear q0 q1 q2 qs r0 r1 r2 rs
        have hb0 := str_beq (A.getD k Src.zero).name (B.getD k Src.zero).name
        have hb2 := str_beq (A.getD k Src.zero).text (B.getD k Src.zero).text
        by_cases e0 : (A.getD k Src.zero).name = (B.getD k Src.zero).name
        · rw [decide_eq_true e0] at hb0
          by_cases e2 : (A.getD k Src.zero).text = (B.getD k Src.zero).text
          · rw [decide_eq_true e2] at hb2
            have TX2 : Hid (∀ y, (∃ q, y = wr.drewN q) → Calls Tryd.prog 20 #[dv, dv'] y fun ev w' => ev = .returned (.bool (decide ((A.getD k Src.zero).deps = (B.getD k Src.zero).deps))) ∧ ∃ q, w' = y.drewN q) := TX.out
            clear TX
            by_cases e1 : (A.getD k Src.zero).deps = (B.getD k Src.zero).deps
            · rw [decide_eq_true e1] at TX2
              have HP : Hid (∀ j, j < k + 1 → A.getD j Src.zero = B.getD j Src.zero) := by
                intro j hj
                rcases Nat.lt_or_ge j k with h | h
                · exact HJ.out j h
                · obtain rfl : j = k := by omega
                  revert e0 e1 e2
                  cases A.getD j Src.zero
                  cases B.getD j Src.zero
                  rintro rfl rfl rfl
                  rfl
              clear e0 e1 e2 HJ
              generalize str (A.getD k Src.zero).name = S1 at *
              generalize str (B.getD k Src.zero).name = S2 at *
              generalize str (A.getD k Src.zero).text = S3 at *
              generalize str (B.getD k Src.zero).text = S4 at *
              go_wp2_with fail
              go_quiet (first | (go_at_call 20; exact Calls.quiet_of (TX2.out _ ⟨_, rfl⟩)))
              go_wp2_with fail
              go_roundw
              case rel => exact ⟨k + 1, by omega, by go_num, HP.out, drews HW.out _⟩
              case measure => simp [intOf]; omega
            · have HP : Hid (A ≠ B) := fun e => e1 (by rw [e])
              rw [decide_eq_false e1] at TX2
              clear e0 e1 e2 HJ
              generalize str (A.getD k Src.zero).name = S1 at *
              generalize str (B.getD k Src.zero).name = S2 at *
              generalize str (A.getD k Src.zero).text = S3 at *
              generalize str (B.getD k Src.zero).text = S4 at *
              go_wp2_with fail
              go_quiet (first | (go_at_call 20; exact Calls.quiet_of (TX2.out _ ⟨_, rfl⟩)))
              go_wp2_with fail
              go_ret
              exact ⟨by rw [eqL_false HP.out]; rfl, drews HW.out _⟩
          · have HP : Hid (A ≠ B) := fun e => e2 (by rw [e])
            rw [decide_eq_false e2] at hb2
            clear e0 e2 HJ TX
            generalize str (A.getD k Src.zero).name = S1 at *
            generalize str (B.getD k Src.zero).name = S2 at *
            generalize str (A.getD k Src.zero).text = S3 at *
            generalize str (B.getD k Src.zero).text = S4 at *
            go_wp2_with fail
            go_quiet (fail)
            go_wp2_with fail
            go_ret
            exact ⟨by rw [eqL_false HP.out]; rfl, drews HW.out _⟩
        · have HP : Hid (A ≠ B) := fun e => e0 (by rw [e])
          rw [decide_eq_false e0] at hb0
          clear e0 HJ TX hb2
          generalize str (A.getD k Src.zero).name = S1 at *
          generalize str (B.getD k Src.zero).name = S2 at *
          generalize str (A.getD k Src.zero).text = S3 at *
          generalize str (B.getD k Src.zero).text = S4 at *
          go_wp2_with fail
          go_quiet (fail)
          go_wp2_with fail
          go_ret
          exact ⟨by rw [eqL_false HP.out]; rfl, drews HW.out _⟩
      · have l1 : ¬ (k : Int) < (n : Int) := by omega
        have HP : Hid (A = B) := lists_eq Src.zero hl (fun i hi => HJ.out i (by rw [← AN.out] at hi; omega))
        go_wp2_with fail
        go_ret
        exact ⟨by rw [eqL_true HP.out]; rfl, HW.out⟩
  · have HP : Hid (A ≠ B) := fun e => hl (by rw [e])
    have l1 : ((A.length : Int) == (B.length : Int)) = false := by simp; omega
    have l2 : (A.length : Int) ≠ (B.length : Int) := by omega
    clear hl
    generalize A.length = n at *
    generalize B.length = m at *
    go_enter Tryd.func12, Tryd.ntmps12
    go_wp2_with fail
    go_ret
    exact ⟨by rw [eqL_false HP.out]; rfl, 0, rfl⟩
end Go.Proofs.YtmfdmpfeoppnfaaDoor
