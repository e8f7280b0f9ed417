/-
  Sums that came in, appended to a row of one's own.
-/
import Derived.Test.YtfkibbpekngciaaQPrR08
namespace Go.Proofs.Ytfkibbpekngciaa
open Go.RowKit

theorem rows26_app (l m : List Bys) : rows26 (l ++ m) = rows26 l ++ rows26 m := by simp [rows26]
/-- What came in, appended to a row of one's own, at the operation itself. -/
theorem wpo_app26s {o : Oper} {a : Act} {K : Act → World → Prop} {Q : Exit → Act → World → Prop} {w : World} {B : Nat} {v vs : Value} {P S : List Bys} (s x : Operand)
    (ho : o.op = .call { callee := .builtin .append, args := #[s, x], argTypes := #[28, 28] }) (hs : a.eval s = v) (hown : w.ownsRow B 26 32 v P.length (rows26 P)) (hB : B ≤ w.heap.size)
    (hx : a.eval x = vs) (hS : Hs w vs S) (hn : P.length + S.length ≤ 1000000)
    (k : ∀ v' w', w'.ownsRow B 26 32 v' (P ++ S).length (rows26 (P ++ S)) → Below B w w' → w.grownBy w' v.ownBlock → K (a.put o.dst v') w') :
    Oper.wp Try.prog o a w K Q := by
  obtain ⟨i0, hi, hz0, hz1, hz2⟩ := info_parts Try.info26z
  have hl := rows26_len S hS.each
  have key : ∀ (ad : Addr) (c : Nat), vs = .slice (some ad) S.length c → (∀ j u, (rows26 S)[j]? = some u → w.cell? (ad.add j) = some u) → Oper.wp Try.prog o a w K Q := by
    intro ad c hv hc
    obtain ⟨v', w', hr, h2, h3, h4, h5⟩ := run_append_own_at (P := Try.prog) w B 28 o.type 26 i0 (.agg (bys zero32).toArray) 32 32 Try.underlying28 hi hz0 hz1 hz2 rfl (by decide) _ _ _ hown ad S.length c (rows26 S) hl hc (rows26_one S) (by unfold maxLen; omega) (by omega) hB
    unfold Oper.wp execOp
    simp only [ho, resolve, invoke, builtin, Sem.run_bind, Sem.run_pure, Result.andThen_ok, List.map_toArray, List.map_cons, List.map_nil, hs, hx, hv, hr]
    refine k v' w' ?_ (below_grown h3 hB (fun q e => (hown.lt q e).1)) h3
    rw [rows26_app, List.length_append]; exact h2
  rcases hS.shape with ⟨_ | ad, cap, hv, rfl⟩ | ⟨b, of, cap, hv, _, hc⟩
  · have hr : (Builtin.append_ #[28, 28] o.type #[v, .slice none 0 cap]).run Try.prog w = .ok v w := by
      rcases hown.2 with ⟨rfl, h0⟩ | ⟨g, cp, cur, rfl, _, _, hle, _⟩
      · simp [Builtin.append_, run_underlying Try.underlying28, sizeOf, typeInfo, hi, Builtin.lenOf, Builtin.firstCells]
      · simp [Builtin.append_, run_underlying Try.underlying28, sizeOf, typeInfo, hi, storeCells, Builtin.lenOf, Builtin.firstCells, hle]
    unfold Oper.wp execOp
    simp only [ho, resolve, invoke, builtin, Sem.run_bind, Sem.run_pure, Result.andThen_ok, List.map_toArray, List.map_cons, List.map_nil, hs, hx, hv, hr]
    exact k v w (by rw [List.append_nil]; exact hown) (Below.refl _ _) (grown_below (Below.refl _ _) _)
  · exact key ad cap hv (fun j u hj => by simp [rows26] at hj)
  · refine key ⟨b, of, none⟩ cap hv (fun j u hj => ?_)
    rw [addr_add]; exact hc j u hj
theorem own26_nil (w : World) : (w.alloc (.cells #[] 26)).ownsRow w.heap.size 26 32 (.slice (some ⟨w.heap.size, 0, none⟩) 0 0) ([] : List Bys).length (rows26 []) := World.ownsRow_made w #[] 0 (Nat.le_refl _) (by unfold maxLen; omega) rfl
end Go.Proofs.Ytfkibbpekngciaa
