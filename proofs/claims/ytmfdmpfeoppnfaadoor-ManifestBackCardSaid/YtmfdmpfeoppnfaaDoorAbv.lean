/-
  Is a name above; does one come twice.
-/
import Derived.Test.YtmfdmpfeoppnfaaDoorHdc
namespace Go.Proofs.YtmfdmpfeoppnfaaDoor
open Go.RowKit

set_option maxHeartbeats 1000000 in
theorem clo60_any (g : Nat) (n a t : Bs) (dv : Value) (w : World) (hc : w.cell? ⟨g, 0, none⟩ = some (.string (str n))) :
    Calls Tryd.prog 60 #[.agg #[.string (str a), dv, .string (str t)], .pointer (some ⟨g, 0, none⟩)] w fun ev w' => ev = .returned (.bool (decide (a = n))) ∧ Below w.heap.size w w' := by
  have hb := str_beq a n
  have HB : Hid (Below w.heap.size w (w.alloc (.cells #[.string (str a), dv, .string (str t)] 43))) := (Below.refl _ _).alloc (Nat.le_refl _) _
  have hc2 := Below.cellOf HB.out hc
  have hr : (w.alloc (.cells #[.string (str a), dv, .string (str t)] 43)).cell? ⟨w.heap.size, 0, none⟩ = some (.string (str a)) := (Row.new w 43 [.string (str a), dv, .string (str t)]).cell 0
  generalize decide (a = n) = B at *
  generalize str a = A at *
  generalize str n = N at *
  generalize str t = T at *
  go_enter Tryd.func60, Tryd.ntmps60
  go_wp2_with fail
  go_ret
  exact ⟨rfl, HB.out⟩

set_option maxHeartbeats 4000000 in
theorem idx_any (g : Nat) (n : Bs) (w : World) (hc : w.cell? ⟨g, 0, none⟩ = some (.string (str n))) (v : Value) (L : List Src) (h : Srs w v L) :
    Calls Tryd.prog 74 #[v, .func (.func 60) #[] #[.pointer (some ⟨g, 0, none⟩)]] w fun ev w' => ∃ r : Int, ev = .returned (.int .i64 r) ∧ decide (0 ≤ r) = decide (n ∈ L.map (·.name)) ∧ Below w.heap.size w w' := by
  obtain ⟨ao, cap, rfl, h1, h2, h3⟩ := h.shape
  have HC := hid0 h3
  have HN := hid0 hc
  clear h h3 hc
  obtain ⟨N, hn⟩ : ∃ N, N = L.length := ⟨_, rfl⟩
  have AN := aside0 hn
  rw [← hn] at h1 h2 HC ⊢
  clear hn
  generalize hBv : decide (n ∈ L.map (·.name)) = Bv
  have HV := aside0 hBv
  clear hBv
  go_enter Tryd.func74, Tryd.ntmps74
  go_wp2_with fail
  go_loopw [8] (fun i wr => ∃ k : Nat, k ≤ N ∧ i = .int .i64 k ∧ (∀ j, j < k → (L.getD j Src.zero).name ≠ n) ∧ Below w.heap.size w wr) (fun i _ => N - (intOf i).toNat)
  case atStart => exact ⟨0, by omega, rfl, fun j hj => by omega, Below.refl _ _⟩
  case round =>
    obtain ⟨k, hk, rfl, hj, hb⟩ := hrel
    have HJ := hid0 hj
    have HB := aside0 hb
    clear hj hb
    by_cases h3 : k < N
    · obtain ⟨p, o, dv, rfl, q0, q1, q2, qs⟩ := HC.out k h3
      have l1 : (k : Int) < (N : Int) := by omega
      have c0 := Below.cellOf HB.out q0
      have c1 := Below.cellOf HB.out q1
      have c2 := Below.cellOf HB.out q2
      have C := hid0 (clo60_any g n (L.getD k Src.zero).name (L.getD k Src.zero).text dv wr (Below.cellOf HB.out HN.out))
      clear q0 q1 q2 qs
      have hkL : k < L.length := by rw [← AN.out]; exact h3
      by_cases hm : (L.getD k Src.zero).name = n
      · have HP : Hid (n ∈ L.map (·.name)) := List.mem_map.2 ⟨_, List.getElem_mem hkL, by rw [← getD_eq L k Src.zero hkL]; exact hm⟩
        rw [decide_eq_true hm] at C
        clear hm HJ HC HN hkL
        generalize str (L.getD k Src.zero).name = S1 at *
        generalize str (L.getD k Src.zero).text = S2 at *
        go_wp2_with fail
        refine C.out.mono ?_
        rintro ev w5 ⟨rfl, hb5⟩
        clear C
        go_wp2_with fail
        go_ret
        exact ⟨_, rfl, by rw [← HV.out, decide_eq_true HP.out]; simp, nextB HB.out hb5⟩
      · have HP : Hid (∀ j, j < k + 1 → (L.getD j Src.zero).name ≠ n) := by
          intro j hj
          rcases Nat.lt_or_ge j k with h | h
          · exact HJ.out j h
          · obtain rfl : j = k := by omega
            exact hm
        rw [decide_eq_false hm] at C
        clear hm HJ HN hkL
        generalize str (L.getD k Src.zero).name = S1 at *
        generalize str (L.getD k Src.zero).text = S2 at *
        go_wp2_with fail
        refine C.out.mono ?_
        rintro ev w5 ⟨rfl, hb5⟩
        clear C
        go_wp2_with fail
        go_roundw
        case rel => exact ⟨k + 1, by omega, by go_num, HP.out, nextB HB.out hb5⟩
        case measure => simp [intOf]; omega
    · have l1 : ¬ (k : Int) < (N : Int) := by omega
      have HP : Hid (n ∉ L.map (·.name)) := by
        intro hm
        obtain ⟨x, hx, e⟩ := List.mem_map.1 hm
        obtain ⟨j, hj, ej⟩ := List.getElem_of_mem hx
        exact HJ.out j (by rw [← AN.out] at hj; omega) (by rw [getD_eq L j _ hj, ej]; exact e)
      go_wp2_with fail
      go_ret
      exact ⟨_, rfl, by rw [← HV.out, decide_eq_false HP.out]; rfl, HB.out⟩

set_option maxHeartbeats 1000000 in
theorem above_any (n : Bs) (w : World) (v : Value) (L : List Src) (h : Srs w v L) :
    Calls Tryd.prog 45 #[.string (str n), v] w fun ev w' => ev = .returned (.bool (decide (n ∈ L.map (·.name)))) ∧ Below w.heap.size w w' := by
  have HB : Hid (Below w.heap.size w (w.alloc (.cells #[.string (str n)] 9))) := (Below.refl _ _).alloc (Nat.le_refl _) _
  have C := hid0 (idx_any w.heap.size n (w.alloc (.cells #[.string (str n)] 9)) ((Row.new w 9 [.string (str n)]).cell 0) v L (h.below HB.out))
  clear h
  generalize decide (n ∈ L.map (·.name)) = B at *
  have D : Hid (Calls Tryd.prog 59 #[v, .func (.func 60) #[] #[.pointer (some ⟨w.heap.size, 0, none⟩)]] (w.alloc (.cells #[.string (str n)] 9)) fun ev w' => ev = .returned (.bool B) ∧ Below (w.alloc (.cells #[.string (str n)] 9)).heap.size (w.alloc (.cells #[.string (str n)] 9)) w') := by
    show Calls Tryd.prog 59 _ _ _
    generalize (w.alloc (.cells #[.string (str n)] 9)) = W at *
    generalize w.heap.size = g at *
    clear HB
    go_enter Tryd.func59, Tryd.ntmps59
    go_wp2_with fail
    refine C.out.mono ?_
    rintro ev w5 ⟨r, rfl, hr, hb5⟩
    have HR := hid0 hr
    clear hr C
    go_wp2_with fail
    go_ret
    exact ⟨by rw [← HR.out]; rfl, hb5⟩
  clear C
  generalize str n = S at *
  go_enter Tryd.func45, Tryd.ntmps45
  go_wp2_with fail
  refine D.out.mono ?_
  rintro ev w5 ⟨rfl, hb5⟩
  clear D
  go_wp2_with fail
  go_ret
  exact ⟨rfl, nextB HB.out hb5⟩
end Go.Proofs.YtmfdmpfeoppnfaaDoor
