/-
  A slice of two proofs.
-/
import Derived.Test.YtfkibbpekngciaaQExR08
namespace Go.Proofs.Ytfkibbpekngciaa
open Go.RowKit

/-- A new slice of two proofs. -/
theorem build42 {ops : Array Oper} {rest : List Oper} {o : Oper} {a : Act} {w : World} {Q : Exit → Act → World → Prop} (hgd : o.guard = none) (x y : Operand) (ho : o.op = .buildSlice 42 2 #[(0, x), (1, y)])
    (p q r p' q' r' : Value) (hx : a.eval x = .agg #[p, q, r]) (hy : a.eval y = .agg #[p', q', r'])
    (k : ∀ w2 g, Below w.heap.size w w2 → Row w2 g 30 [p, q, r, p', q', r'] → wpList Try.prog ops Q rest (a.put o.dst (.slice (some ⟨g, 0, none⟩) 2 2)) w2) : wpList Try.prog ops Q (o :: rest) a w := by
  obtain ⟨i0, hi, hz0, hz1, hz2⟩ := info_parts Try.info30z
  refine wpList_plain hgd fun _ hK => wp_buildSlice 42 30 2 _ ho #[p, q, r, p', q', r'] i0 (.agg #[.int .i64 0, .int .i64 0, .slice none 0 0]) Try.underlying42 hi hz0 (by rw [hz1]; decide) (by rw [hz1]; decide) ?_ (hK _ _ (k _ _ ((Below.refl _ _).alloc (Nat.le_refl _) _) (Row.new w 30 [p, q, r, p', q', r'])))
  have hw := Go.Great.fill_whole (s := 3) (by decide) [.agg #[p, q, r], .agg #[p', q', r']] ((Array.range (2 * 3)).map ((Value.agg #[.int .i64 0, .int .i64 0, .slice none 0 0]).cells[· % (Value.agg #[.int .i64 0, .int .i64 0, .slice none 0 0]).cells.size]!)) (by intro v hv; simp at hv; rcases hv with rfl | rfl <;> simp [Value.cells]) (by simp)
  rw [hz1]
  simp only [List.map_toArray, List.map_cons, List.map_nil, hx, hy]
  simp only [List.zipIdx_cons, List.zipIdx_nil, List.map_cons, List.map_nil] at hw
  refine Eq.trans hw ?_
  simp [Value.cells]
theorem row_mid0 {w : World} {g : Nat} {p q r p' q' r' : Value} (h : Row w g 30 [p, q, r, p', q', r']) : w.rangeAt g 0 [p, q, r] := fun j u hj => by
  have := h.cell (0 + j)
  rw [this]
  rcases j with _ | _ | _ | j <;> simp_all
theorem row_mid3 {w : World} {g : Nat} {p q r p' q' r' : Value} (h : Row w g 30 [p, q, r, p', q', r']) : w.rangeAt g 3 [p', q', r'] := fun j u hj => by
  have := h.cell (3 + j)
  rw [this]
  rcases j with _ | _ | _ | j <;> simp_all
end Go.Proofs.Ytfkibbpekngciaa
