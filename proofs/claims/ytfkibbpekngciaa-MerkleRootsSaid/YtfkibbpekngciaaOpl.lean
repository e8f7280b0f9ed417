/-
  A list of bytes, as it comes in.
-/
import Derived.Test.YtfkibbpekngciaaOpn
import Derived.Test.YtfkibbpekngciaaLsm
import Derived.ChangeSlices
namespace Go.Proofs.Ytfkibbpekngciaa
open Go.ChangeShapes Go.WideShapes Go.ChangeAt Go.RowKit

theorem Try.cells39 : Try.prog.cellsOf 39 = 1 := by kernel_rfl
/-- The slice v holds n slices, which hold f 0, f 1 and so on. -/
structure Lf (w : World) (v : Value) (n : Nat) (f : Nat → List UInt8) (fv : Nat → Value) : Prop where
  max : n ≤ 9223372036854775807
  shape : (∃ ao cap, v = .slice ao n cap ∧ n = 0) ∨ ∃ b off cap, v = .slice (some ⟨b, off, none⟩) n cap ∧ n ≤ cap ∧ ∀ i, i < n → w.cell? ⟨b, off + i, none⟩ = some (fv i)
  each : ∀ i, i < n → Sl w (fv i) (f i) ∧ (f i).length ≤ 9223372036854775807
theorem Lf.below {w w' : World} {v : Value} {n : Nat} {f : Nat → List UInt8} {fv : Nat → Value} (h : Lf w v n f fv) (hb : Below w.heap.size w w') : Lf w' v n f fv := by
  refine ⟨h.max, ?_, fun i hi => ⟨(h.each i hi).1.below hb, (h.each i hi).2⟩⟩
  rcases h.shape with h | ⟨b, off, cap, rfl, hcap, hc⟩
  · exact .inl h
  · refine .inr ⟨b, off, cap, rfl, hcap, fun i hi => ?_⟩
    rw [hb.cell (p := ⟨b, off + i, none⟩) (World.block_lt_of_cell? w _ (hc i hi))]
    exact hc i hi
section
variable {H : Type} {enc : TypeId × Value → H} {W : World} {fuel : Nat} {x : DataW H × List MemPlace}
theorem sl_of_trod {cs : List Value} (h : DataW.trod enc Try.prog W 0 (fun _ => true) true fuel 39 cs = some x) : ∃ v l, cs = [v] ∧ Sl W v l ∧ l.length ≤ 9223372036854775807 := by
  rcases open_ints Try.underlying39 Try.underlying5 Try.cells5 h with ⟨hcs, hx⟩ | ⟨a, len, cap, zs, hcs, _, hl, hm, hz, hx, hcell, hwz⟩
  · exact ⟨_, [], hcs, ⟨.inl ⟨none, rfl, rfl⟩⟩, by simp⟩
  · simp only [if_true] at hz
    unfold maxLen at hm
    have hlen : ((zs.take len).map fun n => UInt8.ofNat n.toNat).length = len := by rw [List.length_map, List.length_take]; omega
    refine ⟨_, (zs.take len).map fun n => UInt8.ofNat n.toNat, hcs, ⟨?_⟩, by omega⟩
    rcases Nat.eq_zero_or_pos cap with h0 | h0
    · obtain rfl : len = 0 := by omega
      subst h0
      exact .inl ⟨some a, rfl, by simp⟩
    · obtain ⟨b, off, spot⟩ := a
      have hspot : spot = none := by
        have := hcell 0 (by omega)
        simpa [Addr.add] using World.cell?_spot this
      subst hspot
      refine .inr ⟨b, off, cap, by rw [hlen], by omega, fun i hi => ?_⟩
      have hi' : i < len := by omega
      have hc := hcell i (by omega)
      rw [addr_add] at hc
      rw [hc]
      have hiz : i < zs.length := by omega
      have hw := u8_in (hwz (zs[i]) (List.getElem_mem hiz))
      have e : ((zs.take len).map fun n => UInt8.ofNat n.toNat).getD i 0 = UInt8.ofNat (zs[i]).toNat := by
        simp [List.getD, hi', List.getElem?_eq_getElem hiz]
      have e2 : ((UInt8.ofNat (zs[i]).toNat).toNat : Int) = zs[i] := by simp; omega
      rw [e, e2]
      simp [List.getD, List.getElem?_eq_getElem hiz]
end

set_option maxRecDepth 100000 in
theorem open_lf {H : Type} {enc : TypeId × Value → H} {W : World} {base : Nat} {v : Value} {d : DataW H} {p : List MemPlace} (hv : Value.okWide Try.prog W .any base 22 v) (h : DataW.Trod enc Try.prog W 0 (fun _ => true) true 22 v d p) :
    ∃ n f fv, Lf W v n f fv := by
  obtain ⟨a0, len, cap, rfl⟩ := okWide_slice Try.underlying22 hv
  obtain ⟨fuel, hf⟩ := h
  rcases DataW.trod_slice Try.underlying22 hf with ⟨hcs, _⟩ | ⟨a, len', cap', elems, rest, m, _, hcs, _, _, hlc, hcm, hel, hcell, _⟩
  · simp [Value.cells] at hcs
    obtain ⟨rfl, rfl, rfl⟩ := hcs
    exact ⟨0, fun _ => [], fun _ => undef, ⟨by omega, .inl ⟨none, 0, rfl, rfl⟩, fun i hi => by omega⟩⟩
  · simp [Value.cells] at hcs
    obtain ⟨rfl, rfl, rfl⟩ := hcs
    rw [Try.cells39] at hcell
    have key : ∀ i, i < len → ∃ q : Value × List UInt8, Sl W q.1 q.2 ∧ q.2.length ≤ 9223372036854775807 ∧ W.cell? (a.add i) = some q.1 := by
      intro i hi
      have hc := hcell i hi
      rw [List.getElem?_eq_getElem (by omega)] at hc
      obtain ⟨cs, h1, h2⟩ := Option.bind_eq_some_iff.1 hc
      obtain ⟨u, l, rfl, hs, hl⟩ := sl_of_trod h2
      refine ⟨(u, l), hs, hl, ?_⟩
      obtain ⟨_, _, he⟩ := World.cells?_some h1
      have := he 0 (by omega)
      rw [Nat.mul_one] at this
      simpa [Addr.add] using this
    obtain ⟨q, hq⟩ : ∃ q : Nat → Value × List UInt8, ∀ i, i < len → Sl W (q i).1 (q i).2 ∧ (q i).2.length ≤ 9223372036854775807 ∧ W.cell? (a.add i) = some (q i).1 := by
      refine ⟨fun i => if h : i < len then (key i h).choose else (undef, []), fun i hi => ?_⟩
      simp only [dif_pos hi]
      exact (key i hi).choose_spec
    unfold maxLen at hcm
    refine ⟨len, fun i => (q i).2, fun i => (q i).1, ⟨by omega, ?_, fun i hi => ⟨(hq i hi).1, (hq i hi).2.1⟩⟩⟩
    rcases Nat.eq_zero_or_pos len with h0 | h0
    · exact .inl ⟨_, cap, rfl, h0⟩
    · obtain ⟨b, off, spot⟩ := a
      have hspot : spot = none := by
        have := (hq 0 h0).2.2
        simpa [Addr.add] using World.cell?_spot this
      subst hspot
      refine .inr ⟨b, off, cap, rfl, hlc, fun i hi => ?_⟩
      have := (hq i hi).2.2
      rwa [addr_add] at this
set_option maxRecDepth 100000 in
theorem open_ls {H : Type} {enc : TypeId × Value → H} {W : World} {base : Nat} {v : Value} {d : DataW H} {p : List MemPlace} (hv : Value.okWide Try.prog W .any base 22 v) (h : DataW.Trod enc Try.prog W 0 (fun _ => true) true 22 v d p) :
    ∃ L, Ls W v L ∧ L.length ≤ 9223372036854775807 ∧ ∀ b ∈ L, b.length ≤ 9223372036854775807 := by
  obtain ⟨n, f, fv, hL⟩ := open_lf hv h
  have hg : ∀ i, i < n → ((List.range n).map f).getD i [] = f i := fun i hi => by simp [List.getD, hi]
  refine ⟨(List.range n).map f, ⟨?_⟩, by simpa using hL.max, fun b hb => ?_⟩
  · rcases hL.shape with ⟨ao, cap, rfl, rfl⟩ | ⟨b, off, cap, rfl, hcap, hc⟩
    · exact .inl ⟨ao, cap, rfl, rfl⟩
    · refine .inr ⟨b, off, cap, fv, by simp, by simpa using hcap, fun i hi => ?_⟩
      have hi' : i < n := by simpa using hi
      rw [hg i hi']
      exact ⟨hc i hi', (hL.each i hi').1⟩
  · obtain ⟨i, hi, rfl⟩ := List.mem_map.1 hb
    exact (hL.each i (by simpa using hi)).2
end Go.Proofs.Ytfkibbpekngciaa
