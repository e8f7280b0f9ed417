/-
  A slice of numbers that is read as data can be read from memory, number by number.
-/
import Derived.Test.YtikogamonngbbaaDoorLaid
import Derived.Test.YtikogamonngbbaaDoorInts
import Derived.ChangeSlices
namespace Go.Proofs.YtikogamonngbbaaDoor
open Go.ChangeShapes Go.WideShapes Go.RowKit

theorem Tryd.cells3 : Tryd.prog.cellsOf 3 = 1 := by kernel_rfl
theorem Tryd.laidOut : laidOutB Tryd.prog = true := by kernel_rfl

/-- A slice of numbers that is read as data: the numbers, and that they can be read from memory. -/
theorem open_sl {H : Type} {enc : TypeId × Value → H} {W : World} {base : Nat} {v : Value} {d : DataW H} {p : List MemPlace} (hv : Value.okWide Tryd.prog W .any base 22 v) (h : DataW.Trod enc Tryd.prog W 0 (fun _ => true) true 22 v d p) :
    ∃ l, Sl W v l := by
  obtain ⟨a0, len, cap, rfl⟩ := okWide_slice Tryd.underlying22 hv
  obtain ⟨fuel, hf⟩ := h
  rcases open_ints Tryd.underlying22 Tryd.underlying3 Tryd.cells3 hf with ⟨hcs, hx⟩ | ⟨a, len', cap', zs, hcs, _, hl, hm, hz, hx, hcell, hwz⟩
  · simp [Value.cells] at hcs
    obtain ⟨rfl, rfl, rfl⟩ := hcs
    exact ⟨[], none, 0, rfl, Nat.le_refl _, fun k hk => by cases hk⟩
  · simp [Value.cells] at hcs
    obtain ⟨rfl, rfl, rfl⟩ := hcs
    simp only [if_true] at hz
    have hlen : (zs.take len).length = len := by rw [List.length_take]; omega
    refine ⟨zs.take len, some a, cap, by rw [hlen], by omega, fun k hk => ?_⟩
    obtain ⟨b, off, spot⟩ := a
    have hc := hcell k (by omega)
    have hspot : spot = none := by simpa [Addr.add] using World.cell?_spot (hcell 0 (by omega))
    subst hspot
    refine ⟨b, off, rfl, ?_⟩
    have hk' : k < len := by omega
    have e1 : (zs.take len).getD k 0 = zs.getD k 0 := by simp [List.getD, hk']
    rw [e1, ← hc, add_plain]

end Go.Proofs.YtikogamonngbbaaDoor
