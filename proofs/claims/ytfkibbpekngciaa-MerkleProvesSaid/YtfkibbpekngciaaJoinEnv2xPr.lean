/-
  The texts Env, Opf, joined.
-/
import Derived.Test.YtfkibbpekngciaaQPrTol
import Derived.Test.YtfkibbpekngciaaQPrXsm
import Derived.Test.YtfkibbpekngciaaJoinOpl2xPr
import Derived.Test.YtfkibbpekngciaaQPrSme
/- SHA-256 is such a sum. -/
namespace Go.Proofs.Ytfkibbpekngciaa
open Go.RowKit

theorem sumF_len (l : Bys) : (sumF l).length = 32 := rfl
theorem root3 (F : Bys → Bys) : root F L3 = F (rootT 3 (F (1 :: (F (1 :: (F [0, 1] ++ F [0, 2])) ++ F [0, 3])))) := by
  rw [root_some F L3 (by decide), tree_two F L3 (by decide)]
  have e : half L3.length = 2 := half3
  rw [e]
  have e1 : L3.take 2 = [[1], [2]] := rfl
  have e2 : L3.drop 2 = [[3]] := rfl
  rw [e1, e2, tree_two F [[1], [2]] (by decide), tree_one F [[3]] (by decide)]
  have e3 : half ([[1], [2]] : List Bys).length = 1 := half2
  rw [e3]
  have e4 : ([[1], [2]] : List Bys).take 1 = [[1]] := rfl
  have e5 : ([[1], [2]] : List Bys).drop 1 = [[2]] := rfl
  rw [e4, e5, tree_one F [[1]] (by decide), tree_one F [[2]] (by decide)]
  rfl
theorem texts30 (F : Bys → Bys) : lastT (texts F [2] 0 3 (path F L3 0)) = rootT 3 (F (1 :: (F (1 :: (F [0, 2] ++ F [0, 2])) ++ F [0, 3]))) := by
  have hp : path F L3 0 = [F [0, 2], F [0, 3]] := by
    unfold path
    have e : L3.length = 3 := rfl
    rw [e, downs30]
    show [tree F [[2]], tree F [[3]]] = _
    rw [tree_one F [[2]] (by decide), tree_one F [[3]] (by decide)]
    rfl
  have hl : lefts 0 3 = [false, false] := by
    unfold lefts
    rw [downs30]; rfl
  rw [texts_last, hp, hl]
  rfl
set_option maxRecDepth 100000 in
theorem apart_fact : (sumF (rootT 3 (sumF (1 :: (sumF (1 :: (sumF [0, 2] ++ sumF [0, 2])) ++ sumF [0, 3])))) == sumF (rootT 3 (sumF (1 :: (sumF (1 :: (sumF [0, 1] ++ sumF [0, 2])) ++ sumF [0, 3]))))) = false := by kernel_rfl
theorem env2 : Env2 sumF := by
  refine ⟨⟨sumF_len, fun w v l h hl => sum_any w v l h (by omega)⟩, fun w v l h hl => xsum_any w v l h hl, ?_⟩
  rw [texts30, root3]
  have := apart_fact
  simpa using this
end Go.Proofs.Ytfkibbpekngciaa

/- A proof, as it comes in. -/
namespace Go.Proofs.Ytfkibbpekngciaa
open Go.ChangeShapes Go.WideShapes Go.ChangeAt Go.RowKit

theorem Try.cells30 : Try.prog.cellsOf 30 = 3 := by kernel_rfl
theorem Try.cells3 : Try.prog.cellsOf 3 = 1 := by kernel_rfl
theorem Try.cells28 : Try.prog.cellsOf 28 = 1 := by kernel_rfl
section
variable {H : Type} {enc : TypeId × Value → H} {W : World} {fuel : Nat} {x : DataW H × List MemPlace}
theorem hs_of_trod {cs : List Value} (h : DataW.trod enc Try.prog W 0 (fun _ => true) true fuel 28 cs = some x) : ∃ v P, cs = [v] ∧ Hs W v P ∧ P.length ≤ 9223372036854775807 := by
  rcases DataW.trod_slice Try.underlying28 h with ⟨hcs, _⟩ | ⟨a, len, cap, elems, rest, m, _, hcs, _, _, hlc, hcm, hel, hcell, _⟩
  · exact ⟨_, [], hcs, ⟨fun p hp => by simp at hp, .inl ⟨none, 0, rfl, rfl⟩⟩, by simp⟩
  · rw [Try.cells26] at hcell
    have key : ∀ i, i < len → ∃ q : List UInt8, q.length = 32 ∧ ∀ j u, (bys q)[j]? = some u → W.cell? ((a.add (i * 32)).add j) = some u := by
      intro i hi
      have hc := hcell i hi
      rw [List.getElem?_eq_getElem (by omega)] at hc
      obtain ⟨cs', h1, h2⟩ := Option.bind_eq_some_iff.1 hc
      obtain ⟨q, h32, rfl⟩ := hash_of_trod h2
      refine ⟨q, h32, fun j u hj => ?_⟩
      obtain ⟨_, hl, he⟩ := World.cells?_some h1
      have hj' : j < 32 := by
        have := (List.getElem?_eq_some_iff.1 hj).1
        rw [bys_len, h32] at this; exact this
      rw [he j hj', hj]
    obtain ⟨q, hq⟩ : ∃ q : Nat → List UInt8, ∀ i, i < len → (q i).length = 32 ∧ ∀ j u, (bys (q i))[j]? = some u → W.cell? ((a.add (i * 32)).add j) = some u := by
      refine ⟨fun i => if h : i < len then (key i h).choose else [], fun i hi => ?_⟩
      simp only [dif_pos hi]
      exact (key i hi).choose_spec
    unfold maxLen at hcm
    have hlenP : ((List.range len).map q).length = len := by simp
    have h32 : ∀ p ∈ (List.range len).map q, p.length = 32 := fun p hp => by
      obtain ⟨i, hi, rfl⟩ := List.mem_map.1 hp
      exact (hq i (by simpa using hi)).1
    refine ⟨_, (List.range len).map q, hcs, ⟨h32, ?_⟩, by omega⟩
    rcases Nat.eq_zero_or_pos len with h0 | h0
    · exact .inl ⟨some a, cap, by rw [h0], by simp [h0]⟩
    · obtain ⟨b, off, spot⟩ := a
      have hspot : spot = none := by
        have h32' := (hq 0 h0).1
        have hb0 : (bys (q 0))[0]? = some ((bys (q 0))[0]'(by rw [bys_len]; omega)) := List.getElem?_eq_getElem _
        have := (hq 0 h0).2 0 _ hb0
        simpa [Addr.add] using World.cell?_spot this
      subst hspot
      refine .inr ⟨b, off, cap, by rw [hlenP], by omega, fun j u hj => ?_⟩
      have hj1 : j < len * 32 := by
        have := (List.getElem?_eq_some_iff.1 hj).1
        rw [rows26_len _ h32, hlenP] at this; exact this
      have hd : j / 32 < len := by omega
      have e := flat_get _ h32 (j / 32) (j % 32) (by rw [hlenP]; exact hd) (by omega)
      rw [show j / 32 * 32 + j % 32 = j by omega, hj] at e
      have eg : ((List.range len).map q).getD (j / 32) [] = q (j / 32) := by simp [List.getD, hd]
      rw [eg] at e
      have := (hq (j / 32) hd).2 (j % 32) u e.symm
      rw [addr_add, addr_add] at this
      rw [show off + j = off + j / 32 * 32 + j % 32 by omega]
      exact this
theorem proof_of_trod {cs : List Value} (h : DataW.trod enc Try.prog W 0 (fun _ => true) true fuel 30 cs = some x) : ∃ (i n : Int) (v : Value) (P : List Bys), cs = [.int .i64 i, .int .i64 n, v] ∧ Hs W v P ∧ P.length ≤ 9223372036854775807 ∧ (-9223372036854775808 ≤ i ∧ i ≤ 9223372036854775807) ∧ (-9223372036854775808 ≤ n ∧ n ≤ 9223372036854775807) := by
  obtain ⟨xs, n, _, _, hl, hlen, hf⟩ := DataW.trod_struct Try.underlying30 h
  have hlen3 : xs.length = 3 := hlen
  rw [Try.cells30] at hl
  have f0 : DataW.trod enc Try.prog W 0 (fun _ => true) true n 3 ((cs.drop 0).take (Try.prog.cellsOf 3)) = xs[0]? := hf 0 _ rfl
  have f1 : DataW.trod enc Try.prog W 0 (fun _ => true) true n 3 ((cs.drop 1).take (Try.prog.cellsOf 3)) = xs[1]? := hf 1 _ rfl
  have f2 : DataW.trod enc Try.prog W 0 (fun _ => true) true n 28 ((cs.drop 2).take (Try.prog.cellsOf 28)) = xs[2]? := hf 2 _ rfl
  simp only [Try.cells3, Try.cells28] at f0 f1 f2
  rw [List.getElem?_eq_getElem (by omega)] at f0
  rw [List.getElem?_eq_getElem (by omega)] at f1
  rw [List.getElem?_eq_getElem (by omega)] at f2
  obtain ⟨i, g0, _, w0⟩ := DataW.trod_int Try.underlying3 f0
  obtain ⟨m, g1, _, w1⟩ := DataW.trod_int Try.underlying3 f1
  obtain ⟨v, P, g2, hs, hP⟩ := hs_of_trod f2
  refine ⟨i, m, v, P, ?_, hs, hP, i64_in w0, i64_in w1⟩
  have e0 := one_at g0
  have e1 := one_at g1
  have e2 := one_at g2
  clear hf f0 f1 f2 h g0 g1 g2
  rcases cs with _ | ⟨c0, _ | ⟨c1, _ | ⟨c2, _ | ⟨c3, r⟩⟩⟩⟩
  · simp at hl
  · simp at hl
  · simp at hl
  · simp at e0 e1 e2
    simp [e0, e1, e2]
  · simp at hl
end
set_option maxRecDepth 100000 in
theorem open_proof {H : Type} {enc : TypeId × Value → H} {W : World} {base : Nat} {v : Value} {d : DataW H} {p : List MemPlace} (hv : Value.okWide Try.prog W .any base 30 v) (h : DataW.Trod enc Try.prog W 0 (fun _ => true) true 30 v d p) :
    ∃ (i n : Int) (pv : Value) (P : List Bys), v = .agg #[.int .i64 i, .int .i64 n, pv] ∧ Hs W pv P ∧ P.length ≤ 9223372036854775807 ∧ (-9223372036854775808 ≤ i ∧ i ≤ 9223372036854775807) ∧ (-9223372036854775808 ≤ n ∧ n ≤ 9223372036854775807) := by
  obtain ⟨cs, rfl⟩ : ∃ cs, v = .agg cs := by
    simp only [Value.okWide, Try.underlying30] at hv
    cases v <;> simp_all
  obtain ⟨fuel, hf⟩ := h
  obtain ⟨i, n, pv, P, hcs, hrest⟩ := proof_of_trod hf
  refine ⟨i, n, pv, P, ?_, hrest⟩
  have : cs.toList = [.int .i64 i, .int .i64 n, pv] := by simpa [Value.cells] using hcs
  rw [← this]
/-- Bytes, as they come in. -/
theorem open_sl {H : Type} {enc : TypeId × Value → H} {W : World} {base : Nat} {v : Value} {d : DataW H} {p : List MemPlace} (hv : Value.okWide Try.prog W .any base 39 v) (h : DataW.Trod enc Try.prog W 0 (fun _ => true) true 39 v d p) :
    ∃ l, Sl W v l ∧ l.length ≤ 9223372036854775807 := by
  obtain ⟨a0, len, cap, rfl⟩ := okWide_slice Try.underlying39 hv
  obtain ⟨fuel, hf⟩ := h
  obtain ⟨u, l, hcs, hs, hl⟩ := sl_of_trod hf
  simp [Value.cells] at hcs
  subst hcs
  exact ⟨l, hs, hl⟩
end Go.Proofs.Ytfkibbpekngciaa
