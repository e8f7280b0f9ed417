/-
  The document's parser: what a lifetime outlives, lists of lifetimes.
-/
import Derived.Test.YtldbbkheemnnhaaGreatDoorQpPt8
namespace Go.Proofs.YtldbbkheemnnhaaGreatDoor
open Go.RowKit
def PLf (Q : Nat -> Prop) (w : World) (cs : List Value) (x : Lfe) : Prop := LfeQ Q 100 w cs x
def Lw (w wa w' : World) : Prop := (∀ k, w.heap.size <= k -> k < wa.heap.size -> w'.heap[k]? = wa.heap[k]?) /\ wa.heap.size <= w'.heap.size
theorem Lw.refl (w wa : World) : Lw w wa wa := ⟨fun _ _ _ => rfl, Nat.le_refl _⟩
theorem Lw.stay {X : Nat -> Prop} {w wa a b : World} (h : Lw w wa a) (hs : Stay X a b) (hX : ∀ k, X k -> k < w.heap.size ∨ wa.heap.size <= k) : Lw w wa b :=
 ⟨fun k h1 h2 => (hs.block k (Nat.lt_of_lt_of_le h2 h.2) (fun hx => by rcases hX k hx with h | h <;> omega)).trans (h.1 k h1 h2), Nat.le_trans h.2 hs.size⟩
theorem Lw.below {w wa a b : World} {C : Nat} (h : Lw w wa a) (hb : Below C a b) (hC : wa.heap.size <= C) : Lw w wa b :=
 ⟨fun k h1 h2 => (hb.block k (by omega)).trans (h.1 k h1 h2), Nat.le_trans h.2 hb.size⟩
theorem Gro.low {α : Type} {z e : Nat} {PQ : (Nat -> Prop) -> World -> List Value -> α -> Prop} {w0 wa w' : World} {v : Value} {l : List α} (M : Mo PQ) (h : Gro z e PQ w0 wa v l) (hl : Lw w0 wa w') : Gro z e PQ w0 w' v l := by
 obtain ⟨L, hc, ho⟩ := h.ex
 refine ⟨L, hc.mono fun cs x hp => M.mono hp ⟨fun b hb => ⟨⟨hb.1.1, Nat.lt_of_lt_of_le hb.1.2 hl.2⟩, hb.2⟩, fun b hb => hl.1 b hb.1.1 hb.1.2⟩, own_sameR ho fun k e => ?_⟩
 have := ho.lt k e
 exact hl.1 k this.1 this.2
theorem wpo_stC {o : Oper} {a : Act} {w : World} {K : Act -> World -> Prop} {Q : Exit -> Act -> World -> Prop} {g t : Nat} (ty : TypeId) (x y : Operand) (ho : o.op = .store ty x y) {L : List Value} {j : Nat} {v : Value} (hx : a.eval x = .pointer (some ⟨g, j, none⟩)) (hy : a.eval y = v) (r : Row w g t L)
  (hrun : (storeVar ty ⟨g, j, none⟩ v).run Tryz.prog w = .ok () (w.setCell ⟨g, j, none⟩ v))
  (k : ∀ w', Row w' g t (L.set j v) -> Stay (fun k => k = g) w w' -> K (a.put o.dst undef) w') : Oper.wp Tryz.prog o a w K Q := by
 unfold Oper.wp execOp
 simp only [ho, hx, hy, Instr.storeAt, Instr.sureAddr, Sem.run_bind, Sem.run_pure, Result.andThen_ok, hrun]
 exact k _ (r.set j v) ((Stay.refl (fun k => k = g) w).set (fun _ => rfl) j v)
end Go.Proofs.YtldbbkheemnnhaaGreatDoor
