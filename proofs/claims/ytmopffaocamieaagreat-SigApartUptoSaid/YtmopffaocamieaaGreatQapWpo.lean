/-
  In a drawn region: a struct laid in a row by itself, one more behind a row.
-/
import Derived.Test.YtmopffaocamieaaGreatJapSln4
import Derived.Test.YtmopffaocamieaaGreatJapLas3
namespace Go.Proofs.YtmopffaocamieaaGreat
open Go.RowKit

theorem wpo_bs {o : Oper} {a : Act} {w : World} {K : Act → World → Prop} {Q : Exit → Act → World → Prop} (ty el sz bz : Nat) (Z : List Value) (x : Operand) (ho : o.op = .buildSlice ty 1 #[(0, x)])
    (hu : Tryz.prog.underlying ty = some (.slice el)) (hz : (Tryz.prog.info? el).map (fun i => (i.zero, i.size, i.bytes)) = some (some (.agg Z.toArray), sz, bz)) (h1 : 0 < sz) (h2 : sz ≤ 1000)
    (cs : List Value) (hl : cs.length = sz) (hx : a.eval x = .agg cs.toArray)
    (k : ∀ w', Row w' w.heap.size el cs → Below w.heap.size w w' → w.heap.size < w'.heap.size → K (a.put o.dst (.slice (some ⟨w.heap.size, 0, none⟩) 1 1)) w') : Oper.wp Tryz.prog o a w K Q := by
  obtain ⟨i0, hi, hz0, hz1, hz2⟩ := info_parts hz
  refine wp_buildSlice ty el 1 _ ho cs.toArray i0 (.agg Z.toArray) hu hi hz0 (by rw [hz1]; omega) (by rw [hz1]; omega) ?_ (k _ (Row.new w el cs) (alloc_one _ _) (by rw [size_alloc]; omega))
  have hw := Go.Great.fill_whole (s := sz) h1 [.agg cs.toArray] ((Array.range (1 * sz)).map ((Value.agg Z.toArray).cells[· % (Value.agg Z.toArray).cells.size]!)) (by simp [Value.cells, hl]) (by simp)
  rw [hz1]
  simp only [List.map_toArray, List.map_cons, List.map_nil, hx]
  simp only [List.zipIdx_cons, List.zipIdx_nil, List.map_cons, List.map_nil] at hw
  refine Eq.trans hw ?_
  simp [Value.cells]
theorem wpo_add {α : Type} {o : Oper} {a : Act} {K : Act → World → Prop} {Q : Exit → Act → World → Prop} {w : World} {B t e z bz g : Nat} {Z : Value} {v : Value} {P : List Value → α → Prop} {l : List α} {x : α} {cs : List Value} (s y : Operand) (ho : o.op = .call { callee := .builtin .append, args := #[s, y], argTypes := #[t, t] })
    (hu : Tryz.prog.underlying t = some (.slice e)) (hz : (Tryz.prog.info? e).map (fun i => (i.zero, i.size, i.bytes)) = some (some Z, z, bz)) (hZ : Z.cells.size = z) (h0 : 0 < z) (hs : a.eval s = v) (hy : a.eval y = .slice (some ⟨g, 0, none⟩) 1 1)
    (hr : Rws z e P B w v l) (hB : B ≤ w.heap.size) (hg : Row w g e cs) (hl : cs.length = z) (h1 : ∀ x ∈ cs, x.oneCell' = true) (hp : P cs x) (hn : l.length ≤ 90000) (hbz : bz ≤ 1000)
    (k : ∀ ao c w', Rws z e P B w' (.slice ao (l.length + 1) c) (l ++ [x]) → Below B w w' → K (a.put o.dst (.slice ao (l.length + 1) c)) w') : Oper.wp Tryz.prog o a w K Q := by
  obtain ⟨L, hc, hown⟩ := hr
  refine wpo_appS s y ho hu hz hZ h0 hs hy hown hB (m := 1) (news := cs) ⟨some ⟨g, 0, none⟩, 1, rfl, (by simp), fun j u hj => ⟨g, 0, rfl, by rw [Nat.zero_add, hg.cell]; exact hj⟩⟩ (by omega) h1 (by omega) hbz ?_
  intro v' w' ho' hg'
  obtain ⟨ao, c, rfl⟩ := own_slice ho'
  refine k ao c w' ⟨L ++ [cs], hc.app (Cel.one hl hp h1), ?_⟩ (grown_le hg' hB (fun k e => (hown.lt k e).1))
  rw [List.length_append, List.length_singleton, List.flatten_append, List.flatten_cons, List.flatten_nil, List.append_nil]
  exact ho'
theorem wantR {c p q : Prop} [Decidable c] (hc : c) (h : p) : if c then p else q := by rw [if_pos hc]; exact h
end Go.Proofs.YtmopffaocamieaaGreat
