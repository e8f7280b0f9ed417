/-
  Two lists of at most a hundred numbers that hold the same numbers are told to be the same.
-/
import Derived.Test.YtikogamonngbbaaDoorPath
import Derived.Deep.QuietTactic
import Derived.BigQuiet
namespace Go.Proofs.YtikogamonngbbaaDoor
open Go.RowKit Go.Extern.Stop Go.Stop Go.Extern Err

theorem below_drewN {B : Nat} {a w : World} (h : Below B a w) (n : Nat) : Below B a (w.drewN n) := ⟨h.os, h.tape, h.output, h.size, h.block⟩
/-- A slice of numbers that can be read. -/
def Sl (w : World) (v : Value) (l : List Int) : Prop :=
  ∃ ao cap, v = .slice ao l.length cap ∧ l.length ≤ cap ∧ ∀ k, k < l.length → ∃ g off, ao = some ⟨g, off, none⟩ ∧ w.cell? ⟨g, off + k, none⟩ = some (.int .i64 (l.getD k 0))
theorem Sl.below {w w' : World} {v : Value} {l : List Int} (h : Sl w v l) (hb : Below w.heap.size w w') : Sl w' v l := by
  obtain ⟨ao, cap, hv, hc, h⟩ := h
  refine ⟨ao, cap, hv, hc, fun k hk => ?_⟩
  obtain ⟨g, off, ha, hcell⟩ := h k hk
  exact ⟨g, off, ha, (hb.cell (p := ⟨g, off + k, none⟩) (World.block_lt_of_cell? w _ hcell)).trans hcell⟩
theorem sl_own {w : World} {base : Nat} {v : Value} {l : List Int} (h : w.ownsRow base 3 1 v l.length (ints l)) : Sl w v l := by
  rcases Nat.eq_zero_or_pos l.length with h0 | hn
  · rw [h0] at h
    obtain ⟨hlen, ⟨rfl, _⟩ | ⟨g, cap, cur, rfl, _⟩⟩ := h
    · exact ⟨none, 0, by rw [h0], by omega, fun k hk => by omega⟩
    · exact ⟨_, cap, by rw [h0], by omega, fun k hk => by omega⟩
  · obtain ⟨g, cap, rfl, -, -, hnc, -, hcl⟩ := own_some h hn
    refine ⟨_, cap, rfl, hnc, fun k hk => ⟨g, 0, rfl, ?_⟩⟩
    rw [Nat.zero_add, hcl k (by simpa [ints] using hk)]
    simp [ints, List.getD, List.getElem?_eq_getElem hk]

set_option maxHeartbeats 2000000 in
theorem ints_same (v1 v2 : Value) (l : List Int) (w : World) (h1 : Sl w v1 l) (h2 : Sl w v2 l) (hl : l.length ≤ 100) :
    Calls Tryd.prog 11 #[v1, v2] w fun ev w' => ev = .returned (.bool true) ∧ Below w.heap.size w w' := by
  have H1 : Hid (∀ wr, Below w.heap.size w wr → Sl wr v1 l) := fun wr hb => h1.below hb
  have H2 : Hid (∀ wr, Below w.heap.size w wr → Sl wr v2 l) := fun wr hb => h2.below hb
  obtain ⟨ao1, cap1, rfl, hc1, -⟩ := h1
  obtain ⟨ao2, cap2, rfl, hc2, -⟩ := h2
  generalize hn : l.length = n at hl hc1 hc2 H1 H2
  have HN : Hid (l.length = n) := hn
  clear hn
  go_enter Tryd.func11, Tryd.ntmps11
  go_wp2
  go_loopw [5] (fun i wr => ∃ k : Nat, k ≤ n ∧ i = .int .i64 k ∧ Below w.heap.size w wr) (fun i _ => n - (intOf i).toNat)
  case atStart => exact ⟨0, Nat.zero_le _, rfl, Below.refl _ _⟩
  case round =>
    obtain ⟨k, hk, rfl, hB⟩ := hrel
    by_cases hlt : k < n
    · obtain ⟨ao, cap, hv, hc, hq⟩ := H1.out wr hB
      obtain ⟨g1, o1, ha, q1⟩ := hq k (by have := HN.out; omega)
      cases hv
      cases ha
      obtain ⟨ao, cap, hv, hc', hq'⟩ := H2.out wr hB
      obtain ⟨g2, o2, ha, q2⟩ := hq' k (by have := HN.out; omega)
      cases hv
      cases ha
      clear hq hq' hc hc'
      generalize l.getD k 0 = y at q1 q2
      go_wp2
      go_quiet (fail)
      have hB' : Below w.heap.size w (wr.drewN nq) := below_drewN hB nq
      go_wp2
      go_roundw
      case rel => exact ⟨k + 1, by omega, by go_num, hB'⟩
      case measure => simp [intOf]; omega
    · go_wp2
      go_ret
      exact ⟨rfl, hB⟩
end Go.Proofs.YtikogamonngbbaaDoor
