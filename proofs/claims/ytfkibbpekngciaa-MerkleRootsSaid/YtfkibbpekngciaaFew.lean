/-
  few.
-/
import Derived.Test.YtfkibbpekngciaaTre
namespace Go.Proofs.Ytfkibbpekngciaa
open Go.RowKit

/-- At most 20 leaves of at most 100 bytes. -/
def fewB (L : List Bys) : Bool := decide (L.length ≤ 20 ∧ ∀ b ∈ L, b.length ≤ 100)
theorem fewB_len {L : List Bys} (h : fewB L = true) : L.length ≤ 20 := (of_decide_eq_true h).1
theorem fewB_short {L : List Bys} (h : fewB L = true) : Short L := fun b hb => Nat.le_trans ((of_decide_eq_true h).2 b hb) (by omega)
/-- What has been seen of the list. -/
structure FewRel (L : List Bys) (k : Nat) : Prop where
  le : k ≤ L.length ∧ k ≤ 21
  ok : ∀ j, j < k → (L.getD j []).length ≤ 100

set_option maxHeartbeats 4000000 in
theorem few_any (w : World) (v : Value) (L : List Bys) (h : Ls w v L) (hL : L.length ≤ 9223372036854775807) (hE : ∀ b ∈ L, b.length ≤ 9223372036854775807) : Calls Try.prog 9 #[v] w fun ev w' => ev = .returned (.bool (fewB L)) ∧ w' = w := by
  obtain ⟨ao, cp, rfl⟩ := h.slice
  have hL2 : (L.length : Int) ≤ 9223372036854775807 := by omega
  obtain ⟨res, HRES⟩ : ∃ r, Hid (r = fewB L) := ⟨_, rfl⟩
  rw [← HRES.out]
  go_enter Try.func9, Try.ntmps9
  go_wp2
  go_loop [3] (fun i => ∃ k : Nat, FewRel L k ∧ i = .int .i64 (k : Int)) (fun i => 21 - (intOf i).toNat)
  case atStart => exact ⟨0, ⟨⟨by omega, by omega⟩, fun j hj => by omega⟩, rfl⟩
  case round =>
    obtain ⟨k, hR, rfl⟩ := hrel
    obtain ⟨hk1, hk2⟩ := hR.le
    by_cases hk : k < L.length
    · by_cases hk3 : k < 21
      · obtain ⟨b, off, cap, fv, hv, hcap, hc⟩ := h.some_ (by omega)
        cases hv
        obtain ⟨c1, s1⟩ := hc k hk
        obtain ⟨ak, ck, ek⟩ := sl_slice s1
        rw [ek] at c1
        have hmx : (L.getD k []).length ≤ 9223372036854775807 := hE _ (by simp [List.getD, List.getElem?_eq_getElem hk])
        have q1 : (k : Int) < (L.length : Int) := by omega
        have q2 : (k : Int) < 21 := by omega
        have q3 : (0 : Int) ≤ (k : Int) := by omega
        have hmem : L.getD k [] ∈ L := by simp [List.getD, List.getElem?_eq_getElem hk]
        by_cases hl : (L.getD k []).length ≤ 100
        · have HOK : Hid (∀ j, j < k + 1 → (L.getD j []).length ≤ 100) := fun j hj => by
            rcases Nat.lt_or_ge j k with h' | h'
            · exact hR.ok j h'
            · obtain rfl : j = k := by omega
              exact hl
          generalize L.getD k [] = t at *
          have q4 : ¬ (100 : Int) < (t.length : Int) := by omega
          clear hc s1 ek h hR
          go_wp2
          go_round
          case rel => exact ⟨k + 1, ⟨⟨by omega, by omega⟩, HOK.out⟩, by go_num⟩
          case measure => simp [intOf]; omega
        · have hf : fewB L = false := by
            unfold fewB
            rw [decide_eq_false_iff_not]
            exact fun h => hl (h.2 _ hmem)
          have HF : Hid (res = _) := HRES.out.trans hf
          generalize L.getD k [] = t at *
          have q4 : (100 : Int) < (t.length : Int) := by omega
          clear hc s1 ek h hR hf
          go_wp2
          go_ret
          exact ⟨by rw [HF.out]; rfl, rfl⟩
      · have hf : fewB L = false := by
          unfold fewB
          rw [decide_eq_false_iff_not]
          exact fun h => by omega
        have HF : Hid (res = _) := HRES.out.trans hf
        have q1 : (k : Int) < (L.length : Int) := by omega
        have q2 : ¬ (k : Int) < 21 := by omega
        have q4 : ¬ (L.length : Int) ≤ 20 := by omega
        clear hf h
        go_wp2
        go_ret
        exact ⟨by rw [HF.out]; rfl, rfl⟩
    · have hkk : k = L.length := by omega
      have q1 : ¬ (k : Int) < (L.length : Int) := by omega
      by_cases h20 : L.length ≤ 20
      · have hf : fewB L = true := by
          unfold fewB
          rw [decide_eq_true_iff]
          refine ⟨h20, fun b hb => ?_⟩
          obtain ⟨j, hj, rfl⟩ := List.mem_iff_getElem.1 hb
          have := hR.ok j (by omega)
          simpa [List.getD, List.getElem?_eq_getElem hj] using this
        have HF : Hid (res = _) := HRES.out.trans hf
        have q4 : (L.length : Int) ≤ 20 := by omega
        clear hf h hR hkk
        go_wp2
        go_ret
        exact ⟨by rw [HF.out]; rfl, rfl⟩
      · have hf : fewB L = false := by
          unfold fewB
          rw [decide_eq_false_iff_not]
          exact fun h => by omega
        have HF : Hid (res = _) := HRES.out.trans hf
        have q4 : ¬ (L.length : Int) ≤ 20 := by omega
        clear hf h hR hkk
        go_wp2
        go_ret
        exact ⟨by rw [HF.out]; rfl, rfl⟩
end Go.Proofs.Ytfkibbpekngciaa
