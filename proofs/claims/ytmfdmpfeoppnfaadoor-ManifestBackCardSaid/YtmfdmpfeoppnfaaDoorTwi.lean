/-
  Does a text come twice.
-/
import Derived.Test.YtmfdmpfeoppnfaaDoorHdc
namespace Go.Proofs.YtmfdmpfeoppnfaaDoor
open Go.RowKit

theorem contains_any (w : World) (v : Value) (D : List Bs) (x : Bs) (h : Ss w v D) : Calls Tryd.prog 61 #[v, .string (str x)] w fun e w' => e = .returned (.bool (decide (x ∈ D))) ∧ w' = w := by
  obtain ⟨ao, cap, rfl, h1, h2, h3⟩ := h.shape
  by_cases h0 : D = []
  · subst h0
    exact Tryd.slices_Contains_string_empty ao cap (str x) w
  · obtain ⟨b, o, rfl, -⟩ := h3 0 (by rcases D with _ | ⟨_, _⟩ <;> simp_all)
    have C := Tryd.slices_Contains_string b o D.length cap (D.map str) (str x) w (by simp) (by omega) (fun j hj => by
      rw [List.length_map] at hj
      obtain ⟨b', o', e, hc⟩ := h3 j hj
      cases e
      rw [hc, getD_eq D j [] hj]
      simp [List.getD, hj])
    have e1 : Lib.containsS ((D.map str).take D.length) (str x) = decide (x ∈ D) := by
      rw [List.take_of_length_le (by simp)]
      have := Lib.containsS_iff (D.map str) (str x)
      cases hh : Lib.containsS (D.map str) (str x)
      · rw [hh] at this
        simp at this
        symm
        rw [decide_eq_false_iff_not]
        intro hx
        exact this x hx rfl
      · rw [hh] at this
        simp at this
        obtain ⟨a, ha, e⟩ := this
        symm
        rw [decide_eq_true_eq]
        exact str_inj e ▸ ha
    rw [e1] at C
    exact C
theorem Ss.take {w : World} {ao : Option Addr} {n cap : Nat} {D : List Bs} (h : Ss w (.slice ao D.length cap) D) (hn : n ≤ D.length) : Ss w (.slice ao n cap) (D.take n) := by
  obtain ⟨ao', cap', e, h1, h2, h3⟩ := h.shape
  cases e
  have hl : (D.take n).length = n := by simp; omega
  refine ⟨ao, cap, by rw [hl], by omega, by omega, fun i hi => ?_⟩
  rw [hl] at hi
  obtain ⟨b, o, e, hc⟩ := h3 i (by omega)
  refine ⟨b, o, e, ?_⟩
  rw [hc, getD_eq _ i _ (by omega), getD_eq _ i _ (by omega), List.getElem_take]
theorem nodup_take {D : List Bs} {k : Nat} (h : k < D.length) : (D.take (k + 1)).Nodup ↔ (D.take k).Nodup ∧ D.getD k [] ∉ D.take k := by
  rw [List.take_add_one, List.getElem?_eq_getElem h, getD_eq D k [] h]
  simp only [Option.toList_some, List.nodup_append, List.nodup_cons, List.not_mem_nil, not_false_eq_true, List.nodup_nil, and_self, true_and, List.mem_singleton]
  constructor
  · rintro ⟨a, b⟩
    exact ⟨a, fun hm => b _ hm _ rfl rfl⟩
  · rintro ⟨a, b⟩
    exact ⟨a, fun x hx y hy e => b (by rw [← hy, ← e]; exact hx)⟩
set_option maxHeartbeats 4000000 in
theorem twice_any (w : World) (v : Value) (D : List Bs) (h : Ss w v D) : Calls Tryd.prog 46 #[v] w fun e w' => e = .returned (.bool (!decide D.Nodup)) ∧ w' = w := by
  have HS := hid0 h
  obtain ⟨ao, cap, rfl, h1, h2, h3⟩ := h.shape
  have HC := hid0 h3
  have HT : Hid (∀ k, k ≤ D.length → Ss w (.slice ao k cap) (D.take k)) := fun k hk => HS.out.take hk
  clear h h3 HS
  obtain ⟨n, hn⟩ : ∃ n, n = D.length := ⟨_, rfl⟩
  have AN := aside0 hn
  rw [← hn] at h1 h2 HC HT ⊢
  clear hn
  go_enter Tryd.func46, Tryd.ntmps46
  go_wp2_with fail
  go_loopw [7] (fun i wr => ∃ k : Nat, k ≤ n ∧ i = .int .i64 k ∧ (D.take k).Nodup ∧ wr = w) (fun i _ => n - (intOf i).toNat)
  case atStart => exact ⟨0, by omega, rfl, by simp, rfl⟩
  case round =>
    obtain ⟨k, hk, rfl, hj, rfl⟩ := hrel
    have HJ := hid0 hj
    clear hj
    by_cases h3 : k < n
    · obtain ⟨p, o, rfl, q⟩ := HC.out k h3
      have C := contains_any wr _ _ (D.getD k []) (HT.out k hk)
      have l1 : (k : Int) < (n : Int) := by omega
      have l2 : k ≤ cap := by omega
      have NT : Hid _ := nodup_take (D := D) (k := k) (by rw [← AN.out]; exact h3)
      by_cases hm : D.getD k [] ∈ D.take k
      · have HP : Hid (¬ D.Nodup) := fun hd => (NT.out.1 (hd.sublist (List.take_sublist _ _))).2 hm
        rw [decide_eq_true hm] at C
        clear hm HJ NT HT HC
        generalize str (D.getD k []) = S1 at *
        go_wp2_with fail
        refine C.mono ?_
        rintro ev w5 ⟨rfl, rfl⟩
        go_wp2_with fail
        go_ret
        exact ⟨by rw [decide_eq_false HP.out]; rfl, rfl⟩
      · have HP : Hid ((D.take (k + 1)).Nodup) := NT.out.2 ⟨HJ.out, hm⟩
        rw [decide_eq_false hm] at C
        clear hm HJ NT HT HC
        generalize str (D.getD k []) = S1 at *
        go_wp2_with fail
        refine C.mono ?_
        rintro ev w5 ⟨rfl, rfl⟩
        go_wp2_with fail
        go_roundw
        case rel => exact ⟨k + 1, by omega, by go_num, HP.out, by trivial⟩
        case measure => simp [intOf]; omega
    · have l1 : ¬ (k : Int) < (n : Int) := by omega
      have HP : Hid D.Nodup := by
        have := HJ.out
        rwa [List.take_of_length_le (by rw [← AN.out]; omega)] at this
      go_wp2_with fail
      go_ret
      exact ⟨by rw [decide_eq_true HP.out]; rfl, rfl⟩
end Go.Proofs.YtmfdmpfeoppnfaaDoor
