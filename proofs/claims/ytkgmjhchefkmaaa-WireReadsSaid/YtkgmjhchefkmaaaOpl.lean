/-
  A list of things, and a slice of bytes, as they are read out of an argument.
-/
import Derived.Test.YtkgmjhchefkmaaaOpo
import Derived.Test.YtkgmjhchefkmaaaLst
import Derived.ChangeSlices
namespace Go.Proofs.Ytkgmjhchefkmaaa
open Go.ChangeShapes Go.WideShapes Go.ChangeAt Go.RowKit

theorem Try.laidOut : laidOutB Try.prog = true := by kernel_rfl

theorem open_ops {H : Type} {enc : TypeId × Value → H} {W : World} {base : Nat} {v : Value} {d : DataW H} {p : List MemPlace} (hv : Value.okWide Try.prog W .any base 22 v) (h : DataW.Trod enc Try.prog W 0 (fun _ => true) true 22 v d p) :
    ∃ n f, Ops W v n f := by
  obtain ⟨a0, len, cap, rfl⟩ := okWide_slice Try.underlying22 hv
  obtain ⟨fuel, hf⟩ := h
  rcases DataW.trod_slice Try.underlying22 hf with ⟨hcs, _⟩ | ⟨a, len', cap', elems, rest, m, _, hcs, _, _, hlc, hcm, hel, hcell, _⟩
  · simp [Value.cells] at hcs
    obtain ⟨rfl, rfl, rfl⟩ := hcs
    exact ⟨0, fun _ => ⟨0, 0, 0, 0, false, ⟨#[]⟩, []⟩, ⟨fun i hi => absurd hi (by omega), by omega, .inl ⟨none, 0, rfl, rfl⟩⟩⟩
  · simp [Value.cells] at hcs
    obtain ⟨rfl, rfl, rfl⟩ := hcs
    rw [Try.cells29] at hcell
    have key : ∀ i, i < len → ∃ o : Opv, o.ok ∧ o.s.size ≤ 9223372036854775807 ∧ ∀ j u, o.cells[j]? = some u → W.cell? ((a.add (i * 38)).add j) = some u := by
      intro i hi
      have hc := hcell i hi
      rw [List.getElem?_eq_getElem (by omega)] at hc
      obtain ⟨cs, h1, h2⟩ := Option.bind_eq_some_iff.1 hc
      obtain ⟨o, ho, hs, rfl⟩ := op_of_trod h2
      refine ⟨o, ho, hs, fun j u hj => ?_⟩
      obtain ⟨_, hl, he⟩ := World.cells?_some h1
      have hj' : j < 38 := by
        have := (List.getElem?_eq_some_iff.1 hj).1
        omega
      rw [he j hj', hj]
    obtain ⟨f, hff⟩ : ∃ f : Nat → Opv, ∀ i, i < len → (f i).ok ∧ (f i).s.size ≤ 9223372036854775807 ∧ ∀ j u, (f i).cells[j]? = some u → W.cell? ((a.add (i * 38)).add j) = some u := by
      refine ⟨fun i => if h : i < len then (key i h).choose else ⟨0, 0, 0, 0, false, ⟨#[]⟩, []⟩, fun i hi => ?_⟩
      simp only [dif_pos hi]
      exact (key i hi).choose_spec
    unfold maxLen at hcm
    refine ⟨len, f, ⟨fun i hi => ⟨(hff i hi).1, (hff i hi).2.1⟩, by omega, ?_⟩⟩
    rcases Nat.eq_zero_or_pos len with h0 | h0
    · exact .inl ⟨_, cap, rfl, h0⟩
    · obtain ⟨b, off, spot⟩ := a
      have hspot : spot = none := by
        have := (hff 0 h0).2.2 0 _ rfl
        simpa [Addr.add] using World.cell?_spot this
      subst hspot
      refine .inr ⟨b, off, cap, rfl, fun i hi j u hj => ?_⟩
      have := (hff i hi).2.2 j u hj
      rwa [addr_add, addr_add] at this
end Go.Proofs.Ytkgmjhchefkmaaa
