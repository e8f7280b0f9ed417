/-
  Crates in memory: slices of texts, slices of crates, and what stays of them when memory is made.
-/
import Derived.Test.YtmfdmpfeoppnfaaDoorErr
import Derived.Test.YtmfdmpfeoppnfaaDoorXwd
import Derived.Test.YtmfdmpfeoppnfaaDoorMpa
import Derived.Great.BuildSlice
import Derived.Laws.StructEq
import Derived.Deep.RegionHeld3
namespace Go.Proofs.YtmfdmpfeoppnfaaDoor
open Go.RowKit

theorem hid0 {p : Prop} (h : p) : Hid p := h
theorem aside0 {p : Prop} (h : p) : Aside p := h
theorem nextB {w w1 w2 : World} (h1 : Below w.heap.size w w1) (h2 : Below w1.heap.size w1 w2) : Below w.heap.size w w2 := h1.trans (h2.mono h1.size)
theorem below_grown {B : Nat} {w w' : World} {row : Option Nat} (h : w.grownBy w' row) (hB : B ≤ w.heap.size) (hr : ∀ k, row = some k → B ≤ k) : Below B w w' :=
  (Below.refl B w).grown h hB hr
theorem Below.cellOf {w w' : World} {p : Addr} {v : Value} (hb : Below w.heap.size w w') (h : w.cell? p = some v) : w'.cell? p = some v :=
  (hb.cell (World.block_lt_of_cell? w _ h)).trans h

/-- The slice v holds these texts. -/
structure Ss (w : World) (v : Value) (D : List Bs) : Prop where
  shape : ∃ ao cap, v = .slice ao D.length cap ∧ D.length ≤ cap ∧ D.length ≤ 140737488355328 ∧ ∀ i, i < D.length → ∃ b o, ao = some ⟨b, o, none⟩ ∧ w.cell? ⟨b, o + i, none⟩ = some (.string (str (D.getD i [])))
theorem Ss.below {w w' : World} {v : Value} {D : List Bs} (h : Ss w v D) (hb : Below w.heap.size w w') : Ss w' v D := by
  obtain ⟨ao, cap, rfl, h1, h2, h3⟩ := h.shape
  refine ⟨ao, cap, rfl, h1, h2, fun i hi => ?_⟩
  obtain ⟨b, o, e, hc⟩ := h3 i hi
  exact ⟨b, o, e, Below.cellOf hb hc⟩
theorem Ss.drew {w : World} {v : Value} {D : List Bs} (h : Ss w v D) : Ss w.drew v D := ⟨h.shape⟩
theorem Ss.drewN {w : World} {v : Value} {D : List Bs} (h : Ss w v D) (n : Nat) : Ss (w.drewN n) v D := ⟨h.shape⟩
theorem Ss.row {w : World} {g cap : Nat} {D : List Bs} (h : Row w g 9 (D.map fun d => .string (str d))) (hl : D.length ≤ 140737488355328) (hc : D.length ≤ cap) : Ss w (.slice (some ⟨g, 0, none⟩) D.length cap) D := by
  refine ⟨_, _, rfl, hc, hl, fun i hi => ⟨g, 0, rfl, ?_⟩⟩
  rw [Nat.zero_add, h.cell i]
  simp [List.getD, List.getElem?_eq_getElem hi]
theorem Ss.nil (w : World) (ao : Option Addr) (cap : Nat) : Ss w (.slice ao 0 cap) [] := ⟨ao, cap, rfl, Nat.zero_le _, by simp, fun i hi => by simp at hi⟩

abbrev Src.zero : Src := ⟨[], [], []⟩
/-- The slice v holds these crates. -/
structure Srs (w : World) (v : Value) (L : List Src) : Prop where
  shape : ∃ ao cap, v = .slice ao L.length cap ∧ L.length ≤ cap ∧ L.length ≤ 46912496118442 ∧ ∀ i, i < L.length → ∃ b o dv, ao = some ⟨b, o, none⟩ ∧ w.cell? ⟨b, o + i * 3, none⟩ = some (.string (str (L.getD i Src.zero).name)) ∧ w.cell? ⟨b, o + i * 3 + 1, none⟩ = some dv ∧ w.cell? ⟨b, o + i * 3 + 2, none⟩ = some (.string (str (L.getD i Src.zero).text)) ∧ Ss w dv (L.getD i Src.zero).deps
theorem Srs.below {w w' : World} {v : Value} {L : List Src} (h : Srs w v L) (hb : Below w.heap.size w w') : Srs w' v L := by
  obtain ⟨ao, cap, rfl, h1, h2, h3⟩ := h.shape
  refine ⟨ao, cap, rfl, h1, h2, fun i hi => ?_⟩
  obtain ⟨b, o, dv, e, c0, c1, c2, hs⟩ := h3 i hi
  exact ⟨b, o, dv, e, Below.cellOf hb c0, Below.cellOf hb c1, Below.cellOf hb c2, hs.below hb⟩
theorem Srs.drewN {w : World} {v : Value} {L : List Src} (h : Srs w v L) (n : Nat) : Srs (w.drewN n) v L := by
  obtain ⟨ao, cap, rfl, h1, h2, h3⟩ := h.shape
  refine ⟨ao, cap, rfl, h1, h2, fun i hi => ?_⟩
  obtain ⟨b, o, dv, e, c0, c1, c2, hs⟩ := h3 i hi
  exact ⟨b, o, dv, e, c0, c1, c2, hs.drewN n⟩
theorem Srs.nil (w : World) (ao : Option Addr) (cap : Nat) : Srs w (.slice ao 0 cap) [] := ⟨ao, cap, rfl, Nat.zero_le _, by simp, fun i hi => by simp at hi⟩

theorem getD_eq {α : Type} (l : List α) (i : Nat) (d : α) (h : i < l.length) : l.getD i d = l[i] := by simp [List.getD, List.getElem?_eq_getElem h]
theorem lists_eq {α : Type} {A B : List α} (d : α) (hl : A.length = B.length) (h : ∀ i, i < A.length → A.getD i d = B.getD i d) : A = B := by
  apply List.ext_getElem hl
  intro i h1 h2
  have := h i h1
  rwa [getD_eq A i d h1, getD_eq B i d h2] at this

set_option maxHeartbeats 4000000 in
set_option maxRecDepth 20000 in
theorem texts_any (w : World) (a b : Value) (A B : List Bs) (ha : Ss w a A) (hb : Ss w b B) :
    Calls Tryd.prog 20 #[a, b] w fun ev w' => ev = .returned (.bool (decide (A = B))) ∧ Below w.heap.size w w' := by
  obtain ⟨ao, ca, rfl, a1, a2, a3⟩ := ha.shape
  obtain ⟨bo, cb, rfl, b1, b2, b3⟩ := hb.shape
  have HA := hid0 a3
  have HB := hid0 b3
  clear ha hb a3 b3
  by_cases hl : A.length = B.length
  · rw [← hl] at b1 b2 HB ⊢
    obtain ⟨n, hn⟩ : ∃ n, n = A.length := ⟨_, rfl⟩
    have AN := aside0 hn
    rw [← hn] at a1 a2 b1 b2 HA HB ⊢
    clear hn
    go_enter Tryd.func20, Tryd.ntmps20
    go_wp2_with fail
    go_loopw [5] (fun i wr => ∃ k : Nat, k ≤ n ∧ i = .int .i64 k ∧ (∀ j, j < k → A.getD j [] = B.getD j []) ∧ Below w.heap.size w wr) (fun i _ => n - (intOf i).toNat)
    case atStart => exact ⟨0, by omega, rfl, fun j h => by omega, Below.refl _ _⟩
    case round =>
      obtain ⟨k, hk, rfl, hj, hbw⟩ := hrel
      have HJ := hid0 hj
      have HW := aside0 hbw
      clear hj hbw
      by_cases h3 : k < n
      · obtain ⟨p, o, rfl, q⟩ := HA.out k h3
        obtain ⟨p', o', rfl, q'⟩ := HB.out k h3
        have q0 := Below.cellOf HW.out q
        have q1 := Below.cellOf HW.out q'
        have hb := str_beq (A.getD k []) (B.getD k [])
        have l1 : (k : Int) < (n : Int) := by omega
        clear q q'
        by_cases he : A.getD k [] = B.getD k []
        · have HP : Hid (∀ j, j < k + 1 → A.getD j [] = B.getD j []) := by
            intro j hj
            rcases Nat.lt_or_ge j k with h | h
            · exact HJ.out j h
            · obtain rfl : j = k := by omega
              exact he
          rw [decide_eq_true he] at hb
          clear he HJ
          generalize str (A.getD k []) = S1 at *
          generalize str (B.getD k []) = S2 at *
          go_wp2_with fail
          go_quiet (fail)
          go_wp2_with fail
          go_roundw
          case rel => exact ⟨k + 1, by omega, by go_num, HP.out, below_drewE HW.out _⟩
          case measure => simp [intOf]; omega
        · have HP : Hid (A ≠ B) := fun e => he (by rw [e])
          rw [decide_eq_false he] at hb
          clear he HJ
          generalize str (A.getD k []) = S1 at *
          generalize str (B.getD k []) = S2 at *
          go_wp2_with fail
          go_quiet (fail)
          go_wp2_with fail
          go_ret
          exact ⟨by rw [decide_eq_false HP.out]; rfl, below_drewE HW.out _⟩
      · have l1 : ¬ (k : Int) < (n : Int) := by omega
        have HP : Hid (A = B) := lists_eq [] hl (fun i hi => HJ.out i (by rw [← AN.out] at hi; omega))
        go_wp2_with fail
        go_ret
        exact ⟨by rw [decide_eq_true HP.out]; rfl, HW.out⟩
  · have HP : Hid (A ≠ B) := fun e => hl (by rw [e])
    have l1 : ((A.length : Int) == (B.length : Int)) = false := by simp; omega
    have l2 : (A.length : Int) ≠ (B.length : Int) := by omega
    clear hl
    generalize A.length = n at *
    generalize B.length = m at *
    go_enter Tryd.func20, Tryd.ntmps20
    go_wp2_with fail
    go_ret
    exact ⟨by rw [decide_eq_false HP.out]; rfl, Below.refl _ _⟩
end Go.Proofs.YtmfdmpfeoppnfaaDoor
