/-
  A list of calls, as it comes in.
-/
import Derived.Test.YtjnogpcpekheoaaLst
namespace Go.Proofs.Ytjnogpcpekheoaa
open Go.ChangeShapes Go.WideShapes Go.ChangeAt Go.RowKit

theorem Try.cells37 : Try.prog.cellsOf 37 = 34 := by kernel_rfl
theorem Try.cells3p : Try.prog.cellsOf 3 = 1 := by kernel_rfl
theorem Try.cells35p : Try.prog.cellsOf 35 = 32 := by kernel_rfl
/-- A call's cells. -/
def opc (k : Int) (v : Value) (h : List UInt8) : List Value := [.int .i64 k, v] ++ bys h
/-- The slice v holds n calls. -/
structure Ops (w : World) (v : Value) (n : Nat) (fk : Nat → Int) (fb : Nat → List UInt8) (fv : Nat → Value) (fh : Nat → List UInt8) : Prop where
  max : n ≤ 9223372036854775807
  shape : (∃ ao cap, v = .slice ao n cap ∧ n = 0) ∨ ∃ b off cap, v = .slice (some ⟨b, off, none⟩) n cap ∧ n ≤ cap ∧ ∀ i, i < n → w.rangeAt b (off + i * 34) (opc (fk i) (fv i) (fh i))
  each : ∀ i, i < n → Sl w (fv i) (fb i) ∧ (fh i).length = 32 ∧ -9223372036854775808 ≤ fk i ∧ fk i ≤ 9223372036854775807
theorem i64_in' {a : Int} (h : (Lit.int .i64 a).wf = true) : -9223372036854775808 ≤ a ∧ a ≤ 9223372036854775807 := by
  have e1 : IntKind.i64.min = -9223372036854775808 := by decide
  have e2 : IntKind.i64.max = 9223372036854775807 := by decide
  simp [Lit.wf, e1, e2] at h; omega

section
variable {H : Type} {enc : TypeId × Value → H} {W : World} {fuel : Nat} {x : DataW H × List MemPlace}
theorem op_of_trod {cs : List Value} (h : DataW.trod enc Try.prog W 0 (fun _ => true) true fuel 37 cs = some x) : ∃ k v b hh, cs = opc k v hh ∧ Sl W v b ∧ hh.length = 32 ∧ -9223372036854775808 ≤ k ∧ k ≤ 9223372036854775807 := by
  obtain ⟨xs, n, _, _, hl, hlen, hf⟩ := DataW.trod_struct Try.underlying37 h
  have hlen3 : xs.length = 3 := hlen
  rw [Try.cells37] at hl
  have f0 : DataW.trod enc Try.prog W 0 (fun _ => true) true n 3 ((cs.drop 0).take (Try.prog.cellsOf 3)) = xs[0]? := hf 0 _ rfl
  have f1 : DataW.trod enc Try.prog W 0 (fun _ => true) true n 33 ((cs.drop 1).take (Try.prog.cellsOf 33)) = xs[1]? := hf 1 _ rfl
  have f2 : DataW.trod enc Try.prog W 0 (fun _ => true) true n 35 ((cs.drop 2).take (Try.prog.cellsOf 35)) = xs[2]? := hf 2 _ rfl
  simp only [Try.cells3p, Try.cells33, Try.cells35p] at f0 f1 f2
  rw [List.getElem?_eq_getElem (by omega)] at f0
  rw [List.getElem?_eq_getElem (by omega)] at f1
  rw [List.getElem?_eq_getElem (by omega)] at f2
  obtain ⟨k, g0, _, w0⟩ := DataW.trod_int Try.underlying3 f0
  obtain ⟨v, b, g1, hs, _⟩ := sl_of_trod f1
  obtain ⟨hh, h32, g2⟩ := hash_of_trod f2
  obtain ⟨b0, b0'⟩ := i64_in' w0
  refine ⟨k, v, b, hh, ?_, hs, h32, b0, b0'⟩
  have hcs : cs = cs.take 2 ++ cs.drop 2 := (List.take_append_drop 2 cs).symm
  have ht : (cs.drop 2).take 32 = cs.drop 2 := List.take_of_length_le (by simp; omega)
  rw [ht] at g2
  suffices h2 : cs.take 2 = [.int .i64 k, v] by rw [hcs, g2, h2]; rfl
  have e0 := one_at g0
  have e1 := one_at g1
  clear hf f0 f1 f2 h hcs ht g0 g1 g2
  rcases cs with _ | ⟨c0, _ | ⟨c1, r⟩⟩
  · simp at hl
  · simp at hl
  · simp at e0 e1
    simp [e0, e1]
end

set_option maxRecDepth 100000 in
theorem open_ops {H : Type} {enc : TypeId × Value → H} {W : World} {base : Nat} {v : Value} {d : DataW H} {p : List MemPlace} (hv : Value.okWide Try.prog W .any base 22 v) (h : DataW.Trod enc Try.prog W 0 (fun _ => true) true 22 v d p) :
    ∃ n fk fb fv fh, Ops W v n fk fb fv fh := by
  obtain ⟨a0, len, cap, rfl⟩ := okWide_slice Try.underlying22 hv
  obtain ⟨fuel, hf⟩ := h
  rcases DataW.trod_slice Try.underlying22 hf with ⟨hcs, _⟩ | ⟨a, len', cap', elems, rest, m, _, hcs, _, _, hlc, hcm, hel, hcell, _⟩
  · simp [Value.cells] at hcs
    obtain ⟨rfl, rfl, rfl⟩ := hcs
    exact ⟨0, fun _ => 0, fun _ => [], fun _ => undef, fun _ => [], ⟨by omega, .inl ⟨none, 0, rfl, rfl⟩, fun i hi => by omega⟩⟩
  · simp [Value.cells] at hcs
    obtain ⟨rfl, rfl, rfl⟩ := hcs
    rw [Try.cells37] at hcell
    have key : ∀ i, i < len → ∃ q : Int × List UInt8 × Value × List UInt8, Sl W q.2.2.1 q.2.1 ∧ q.2.2.2.length = 32 ∧ -9223372036854775808 ≤ q.1 ∧ q.1 ≤ 9223372036854775807 ∧ ∀ j u, (opc q.1 q.2.2.1 q.2.2.2)[j]? = some u → W.cell? ((a.add (i * 34)).add j) = some u := by
      intro i hi
      have hc := hcell i hi
      rw [List.getElem?_eq_getElem (by omega)] at hc
      obtain ⟨cs, h1, h2⟩ := Option.bind_eq_some_iff.1 hc
      obtain ⟨k, v, b, hh, rfl, hs, h32, b0, b1⟩ := op_of_trod h2
      refine ⟨(k, b, v, hh), hs, h32, b0, b1, fun j u hj => ?_⟩
      obtain ⟨_, hl, he⟩ := World.cells?_some h1
      have hj' : j < 34 := by
        have := (List.getElem?_eq_some_iff.1 hj).1
        simp [opc, bys_len, h32] at this
        omega
      rw [he j hj', hj]
    obtain ⟨q, hq⟩ : ∃ q : Nat → Int × List UInt8 × Value × List UInt8, ∀ i, i < len → Sl W (q i).2.2.1 (q i).2.1 ∧ (q i).2.2.2.length = 32 ∧ -9223372036854775808 ≤ (q i).1 ∧ (q i).1 ≤ 9223372036854775807 ∧ ∀ j u, (opc (q i).1 (q i).2.2.1 (q i).2.2.2)[j]? = some u → W.cell? ((a.add (i * 34)).add j) = some u := by
      refine ⟨fun i => if h : i < len then (key i h).choose else (0, [], undef, []), fun i hi => ?_⟩
      simp only [dif_pos hi]
      exact (key i hi).choose_spec
    unfold maxLen at hcm
    refine ⟨len, fun i => (q i).1, fun i => (q i).2.1, fun i => (q i).2.2.1, fun i => (q i).2.2.2, ⟨by omega, ?_, fun i hi => ⟨(hq i hi).1, (hq i hi).2.1, (hq i hi).2.2.1, (hq i hi).2.2.2.1⟩⟩⟩
    rcases Nat.eq_zero_or_pos len with h0 | h0
    · exact .inl ⟨_, cap, rfl, h0⟩
    · obtain ⟨b, off, spot⟩ := a
      have hspot : spot = none := by
        have := (hq 0 h0).2.2.2.2 0 _ rfl
        simpa [Addr.add] using World.cell?_spot this
      subst hspot
      refine .inr ⟨b, off, cap, rfl, hlc, fun i hi j u hj => ?_⟩
      have := (hq i hi).2.2.2.2 j u hj
      rwa [addr_add, addr_add] at this
end Go.Proofs.Ytjnogpcpekheoaa
