/-
  A slice of numbers that is read as data can be read from memory, number by number.
-/
import Derived.Test.YtdnjcajbmibjiaaDoorLai
import Derived.Test.YtdnjcajbmibjiaaDoorTol
import Derived.ChangeSlices
namespace Go.Proofs.YtdnjcajbmibjiaaDoor
open Go.ChangeShapes Go.WideShapes Go.RowKit

theorem Tryd.cells3 : Tryd.prog.cellsOf 3 = 1 := by kernel_rfl
theorem i64_in {a : Int} (h : (Lit.int .i64 a).wf = true) : -9223372036854775808 ≤ a ∧ a ≤ 9223372036854775807 := by
  have e1 : IntKind.i64.min = -9223372036854775808 := by decide
  have e2 : IntKind.i64.max = 9223372036854775807 := by decide
  simp [Lit.wf, e1, e2] at h; omega
/-- The slice v holds these numbers. -/
structure Ns (w : World) (v : Value) (l : List Int) : Prop where
  shape : ∃ ao cap, v = .slice ao l.length cap ∧ l.length ≤ cap ∧ ∀ k, k < l.length → ∃ b off, ao = some ⟨b, off, none⟩ ∧ w.cell? ⟨b, off + k, none⟩ = some (.int .i64 (l.getD k 0))
  small : l.length ≤ 9223372036854775807
  each : ∀ k, k < l.length → -9223372036854775808 ≤ l.getD k 0 ∧ l.getD k 0 ≤ 9223372036854775807
theorem Ns.below {w w' : World} {v : Value} {l : List Int} (h : Ns w v l) (hb : Below w.heap.size w w') : Ns w' v l := by
  obtain ⟨ao, cap, e, hc, hk⟩ := h.shape
  refine ⟨⟨ao, cap, e, hc, fun k hkl => ?_⟩, h.small, h.each⟩
  obtain ⟨b, off, e2, hcell⟩ := hk k hkl
  exact ⟨b, off, e2, (hb.cell (p := ⟨b, off + k, none⟩) (World.block_lt_of_cell? w _ hcell)).trans hcell⟩

/-- A slice of numbers that is read as data: the numbers, and that they can be read from memory. -/
theorem open_sl {H : Type} {enc : TypeId × Value → H} {W : World} {base : Nat} {v : Value} {d : DataW H} {p : List MemPlace} (hv : Value.okWide Tryd.prog W .any base 37 v) (h : DataW.Trod enc Tryd.prog W 0 (fun _ => true) true 37 v d p) :
    ∃ l, Ns W v l := by
  obtain ⟨a0, len, cap, rfl⟩ := okWide_slice Tryd.underlying37 hv
  obtain ⟨fuel, hf⟩ := h
  rcases open_ints Tryd.underlying37 Tryd.underlying3 Tryd.cells3 hf with ⟨hcs, hx⟩ | ⟨a, len', cap', zs, hcs, _, hl, hm, hz, hx, hcell, hwz⟩
  · simp [Value.cells] at hcs
    obtain ⟨rfl, rfl, rfl⟩ := hcs
    exact ⟨[], ⟨none, 0, rfl, Nat.le_refl _, fun k hk => by cases hk⟩, by simp, fun k hk => by cases hk⟩
  · simp [Value.cells] at hcs
    obtain ⟨rfl, rfl, rfl⟩ := hcs
    simp only [if_true] at hz
    have hlen : (zs.take len).length = len := by rw [List.length_take]; omega
    have e1 : ∀ k, k < len → (zs.take len).getD k 0 = zs.getD k 0 := fun k hk => by simp [List.getD, hk]
    unfold maxLen at hm
    refine ⟨zs.take len, ⟨some a, cap, by rw [hlen], by omega, fun k hk => ?_⟩, by omega, fun k hk => ?_⟩
    · obtain ⟨b, off, spot⟩ := a
      have hc := hcell k (by omega)
      have hspot : spot = none := by simpa [Addr.add] using World.cell?_spot (hcell 0 (by omega))
      subst hspot
      refine ⟨b, off, rfl, ?_⟩
      rw [e1 k (by omega), ← hc, addr_add]
    · rw [e1 k (by omega)]
      refine i64_in (hwz _ ?_)
      have hk' : k < zs.length := by omega
      rw [List.getD, List.getElem?_eq_getElem hk']
      exact List.getElem_mem hk'
end Go.Proofs.YtdnjcajbmibjiaaDoor
