/-
  A slice of bytes, as it is read out of an argument.
-/
import Derived.Test.YtkgmjhchefkmaaaOpl
import Derived.Test.YtkgmjhchefkmaaaFns
namespace Go.Proofs.Ytkgmjhchefkmaaa
open Go.ChangeShapes Go.WideShapes Go.ChangeAt Go.RowKit

theorem open_by {H : Type} {enc : TypeId × Value → H} {W : World} {base : Nat} {v : Value} {d : DataW H} {p : List MemPlace} (hv : Value.okWide Try.prog W .any base 32 v) (h : DataW.Trod enc Try.prog W 0 (fun _ => true) true 32 v d p) :
    ∃ l : List UInt8, l.length ≤ 9223372036854775807 ∧ By W v l := by
  obtain ⟨a0, len, cap, rfl⟩ := okWide_slice Try.underlying32 hv
  obtain ⟨fuel, hf⟩ := h
  rcases open_ints Try.underlying32 Try.underlying5 Try.cells5 hf with ⟨hcs, hx⟩ | ⟨a, len', cap', zs, hcs, _, hl, hm, hz, hx, hcell, hwz⟩
  · simp [Value.cells] at hcs
    obtain ⟨rfl, rfl, rfl⟩ := hcs
    exact ⟨[], by simp, ⟨.inl ⟨none, 0, rfl, rfl, fun _ => rfl⟩⟩⟩
  · simp [Value.cells] at hcs
    obtain ⟨rfl, rfl, rfl⟩ := hcs
    simp only [if_true] at hz
    unfold maxLen at hm
    have hlen : ((zs.take len).map fun n => UInt8.ofNat n.toNat).length = len := by rw [List.length_map, List.length_take]; omega
    refine ⟨(zs.take len).map fun n => UInt8.ofNat n.toNat, by omega, ?_⟩
    rcases Nat.eq_zero_or_pos len with h0 | h0
    · subst h0
      exact ⟨.inl ⟨some a, cap, rfl, by simp, fun h => by cases h⟩⟩
    · obtain ⟨b, off, spot⟩ := a
      have hspot : spot = none := by simpa [Addr.add] using World.cell?_spot (hcell 0 (by omega))
      subst hspot
      refine ⟨.inr ⟨b, off, cap, by rw [hlen], by omega, by omega, fun i hi => ?_⟩⟩
      have hi' : i < len := by omega
      have hc := hcell i (by omega)
      rw [addr_add] at hc
      rw [hc]
      have hiz : i < zs.length := by omega
      have hw := u8_in (hwz (zs[i]) (List.getElem_mem hiz))
      have e : ((zs.take len).map fun n => UInt8.ofNat n.toNat).getD i 0 = UInt8.ofNat (zs[i]).toNat := by
        simp [List.getD, hi', List.getElem?_eq_getElem hiz]
      have e2 : ((UInt8.ofNat (zs[i]).toNat).toNat : Int) = zs[i] := by simp; omega
      rw [e, e2]
      simp [List.getD, List.getElem?_eq_getElem hiz]
end Go.Proofs.Ytkgmjhchefkmaaa
