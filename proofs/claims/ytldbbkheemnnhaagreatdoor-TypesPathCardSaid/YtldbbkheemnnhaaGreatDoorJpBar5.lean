/-
  The texts Bar, Rws, Grw, Las, Wpo, joined.
-/
import Derived.Test.YtldbbkheemnnhaaGreatDoorJpOwb3
import Derived.Test.YtldbbkheemnnhaaGreatDoorJpMfd2
import Derived.Test.YtldbbkheemnnhaaGreatDoorJpSpa3
import Derived.Test.YtldbbkheemnnhaaGreatDoorJpEql4
namespace Go.Proofs.YtldbbkheemnnhaaGreatDoor
open Go.RowKit
end Go.Proofs.YtldbbkheemnnhaaGreatDoor

namespace Go.Proofs.YtldbbkheemnnhaaGreatDoor
open Go.RowKit
theorem own_sameR {w w' : World} {B t s n : Nat} {v : Value} {xs : List Value} (h : w.ownsRow B t s v n xs) (hs : ∀ k, v.ownBlock = some k -> w'.heap[k]? = w.heap[k]?) : w'.ownsRow B t s v n xs := by
 refine ⟨h.1, ?_⟩
 rcases h.2 with hn | ⟨g, cap, cur, rfl, hb, hgg, rest⟩
 ·exact .inl hn
 ·exact .inr ⟨g, cap, cur, rfl, hb, by rw [hs g rfl]; exact hgg, rest⟩
def Rws {α : Type} (z t : Nat) (P : List Value -> α -> Prop) (B : Nat) (w : World) (v : Value) (l : List α) : Prop := ∃ L, Cel z P L l /\ w.ownsRow B t z v l.length L.flatten
theorem Rws.nil {α : Type} {z t : Nat} {P : List Value -> α -> Prop} {B : Nat} {w : World} : Rws z t P B w (.slice none 0 0) ([] : List α) :=
 ⟨[], ⟨rfl, fun i h => by cases h⟩, World.ownsRow_nil _ _ _ _⟩
theorem Rws.stay {α : Type} {z t : Nat} {P : List Value -> α -> Prop} {B : Nat} {w w' : World} {v : Value} {l : List α} {X : Nat -> Prop} (h : Rws z t P B w v l) (hs : Stay X w w') (hX : ∀ k, X k -> k < B) : Rws z t P B w' v l := by
 obtain ⟨L, hc, ho⟩ := h
 exact ⟨L, hc, own_sameR ho fun k e => hs.block k (ho.lt k e).2 (fun hx => by have := hX k hx; have := (ho.lt k e).1; omega)⟩
theorem Rws.past {α : Type} {z t : Nat} {P : List Value -> α -> Prop} {B : Nat} {w w' : World} {v : Value} {l : List α} (h : Rws z t P B w v l) (hb : Below w.heap.size w w') : Rws z t P B w' v l :=
 h.stay (X := fun _ => False) (Stay.of_below hb) (fun _ h => h.elim)
theorem Rws.form {α : Type} {z t : Nat} {P : List Value -> α -> Prop} {B : Nat} {w : World} {v : Value} {l : List α} (h : Rws z t P B w v l) : ∃ ao cap, v = .slice ao l.length cap := by
 obtain ⟨L, _, ho⟩ := h; exact own_slice ho
theorem SctAt.open {K : Ctx} {w : World} {cs : List Value} {x : Sct} (h : SctAt K w cs x) : ∃ a2 n2 c2 a3 n3 c3, cs = [.bool x.pub, .string (str x.name), .slice a2 n2 c2, .slice a3 n3 c3, .int .i64 x.pos] := by
 obtain ⟨v2, v3, rfl, _, h1, h2⟩ := h
 obtain ⟨a2, c2, rfl⟩ := h1.form
 obtain ⟨a3, c3, rfl⟩ := h2.form
 exact ⟨_, _, _, _, _, _, rfl⟩
theorem FncAt.open {n : Nat} {K : Ctx} {w : World} {cs : List Value} {x : Fnc} (h : FncAt n K w cs x) : ∃ a2 n2 c2 a3 n3 c3 t2 m2 d2 t3 m3 d3 a8 c8, cs = [.bool x.pub, .string (str x.name), .slice a2 n2 c2, .slice a3 n3 c3, .int .i64 x.result.kind, .string (str x.result.name), .slice t2 m2 d2, .slice t3 m3 d3, .slice a8 x.body.length c8, .int .i64 x.pos] := by
 obtain ⟨v2, v3, ts, v8, rfl, _, h1, h2, h3, h4⟩ := h
 obtain ⟨a2, c2, rfl⟩ := h1.form
 obtain ⟨a3, c3, rfl⟩ := h2.form
 obtain ⟨a8, c8, rfl⟩ := h4.form
 obtain ⟨t2, m2, d2, t3, m3, d3, rfl⟩ := h3.open
 exact ⟨_, _, _, _, _, _, _, _, _, _, _, _, _, _, rfl⟩
theorem SctAt.setPub {K : Ctx} {w : World} {cs : List Value} {x : Sct} (h : SctAt K w cs x) (b : Bool) : SctAt K w (cs.set 0 (.bool b)) { x with pub := b } := by
 obtain ⟨v2, v3, rfl, h0, h1, h2⟩ := h
 exact ⟨v2, v3, rfl, h0, h1, h2⟩
theorem FncAt.setPub {n : Nat} {K : Ctx} {w : World} {cs : List Value} {x : Fnc} (h : FncAt n K w cs x) (b : Bool) : FncAt n K w (cs.set 0 (.bool b)) { x with pub := b } := by
 obtain ⟨v2, v3, ts, v8, rfl, h0, h1, h2, h3, h4⟩ := h
 exact ⟨v2, v3, ts, v8, rfl, h0, h1, h2, h3, h4⟩
end Go.Proofs.YtldbbkheemnnhaaGreatDoor

namespace Go.Proofs.YtldbbkheemnnhaaGreatDoor
open Go.RowKit
structure Grw {α : Type} (z t : Nat) (P : List Value -> α -> Prop) (Wb wr : World) (g : Nat) (R : Value -> List Value) (v : Value) (l : List α) : Prop where
 st : Stay (fun k => k = g) Wb wr
 row : Row wr g 69 (R v)
 rw : Rws z t P Wb.heap.size wr v l
 lt : g < Wb.heap.size
theorem Grw.past {α : Type} {z t : Nat} {P : List Value -> α -> Prop} {Wb wr wr' : World} {g : Nat} {R : Value -> List Value} {v : Value} {l : List α} (h : Grw z t P Wb wr g R v l) (hb : Below wr.heap.size wr wr') : Grw z t P Wb wr' g R v l :=
 ⟨h.st.trans (Stay.of_below hb), h.row.below hb h.row.lt, h.rw.past hb, h.lt⟩
theorem Grw.put {α : Type} {z t : Nat} {P : List Value -> α -> Prop} {Wb wr w6 : World} {g : Nat} {R : Value -> List Value} {v v' : Value} {l l' : List α} (h : Grw z t P Wb wr g R v l) (j : Nat) (hR : (R v).set j v' = R v') (hr : Rws z t P Wb.heap.size w6 v' l') (hb : Below Wb.heap.size wr w6) : Grw z t P Wb (w6.setCell ⟨g, j, none⟩ v') g R v' l' := by
 have hs : Stay (fun k => k = g) w6 (w6.setCell ⟨g, j, none⟩ v') := Stay.set (X := fun k => k = g) (Stay.refl _ _) (fun _ => rfl) _ _
 have hlt := h.lt
 refine ⟨⟨hb.os.trans h.st.os, hb.tape.trans h.st.tape, hb.output.trans h.st.output, Nat.le_trans h.st.size (Nat.le_trans hb.size hs.size), fun k hk hn => ?_⟩, ?_, hr.stay hs (fun k e => by omega), h.lt⟩
 ·rw [hs.block k (Nat.lt_of_lt_of_le hk (Nat.le_trans h.st.size hb.size)) hn, hb.block k hk]
  exact h.st.block k hk hn
 ·have := (h.row.below hb h.lt).set j v'
  rw [hR] at this
  exact this
theorem Grw.first {α : Type} {z t : Nat} {P : List Value -> α -> Prop} {Wb : World} {g : Nat} {R : Value -> List Value} (hr : Row Wb g 69 (R (.slice none 0 0))) : Grw z t P Wb Wb g R (.slice none 0 0) ([] : List α) :=
 ⟨Stay.refl _ _, hr, Rws.nil, hr.lt⟩
end Go.Proofs.YtldbbkheemnnhaaGreatDoor

namespace Go.Proofs.YtldbbkheemnnhaaGreatDoor
open Go.RowKit
section
variable {P : Program} {ops : Array Oper} {Q : Exit -> Act -> World -> Prop} {md : Region.Mode} {S : World -> Prop} {n : Nat}
def wpAnyL (P : Program) (md : Region.Mode) (ops : Array Oper) (Q : Exit -> Act -> World -> Prop) (S : World -> Prop) (n : Nat) : Nat -> Array Bool -> Act -> World -> Prop
 | 0, l, a, w => Region.ready md ops l = [] /\ Q .normal a w
 | f + 1, l, a, w => (Region.ready md ops l = [] -> Q .normal a w) /\ ∀ i ∈ Region.ready md ops l, wpOp P ops Q i (fun a' w' => (i ≠ n -> S w') /\ wpAnyL P md ops Q S n f (l.setIfInBounds i true) a' w') a w
theorem wpAny_ofL (f : Nat) : ∀ (l : Array Bool) (a : Act) (w : World), wpAnyL P md ops Q S n f l a w -> wpAny P md ops Q f l a w := by
 induction f with
 | zero => exact fun l a w h => h
 | succ f ih => exact fun l a w h => ⟨h.1, fun i hi => wpOp_mono (fun a' w' h' => ih _ _ _ h'.2) (h.2 i hi)⟩
def waits (md : Region.Mode) (ops : Array Oper) (n i : Nat) : Bool := match ops[n]? with
 | some o => o.after.toList.any fun e => Region.binds md e && e.on == i
 | none => true
theorem not_ready {l : Array Bool} {i : Nat} (hw : waits md ops n i = true) (hi : i ∈ Region.ready md ops l) : n ∉ Region.ready md ops l := by
 intro hn
 obtain ⟨_, o, ho, hall⟩ := mem_ready.1 hn
 unfold waits at hw
 rw [ho] at hw
 obtain ⟨e, he, hb⟩ := List.any_eq_true.1 hw
 rw [Bool.and_eq_true] at hb
 have h1 := hall e (by simpa using he) hb.1
 have h0 := (mem_ready.1 hi).1
 rw [beq_iff_eq.1 hb.2] at h1
 rcases Nat.lt_or_ge i l.size with h | h
 ·simp [h] at h0 h1; rw [h0] at h1; cases h1
 ·simp [Array.getElem?_eq_none h] at h1
theorem firstL {i : Nat} {oi : Oper} {v : Value} (hi : ops[i]? = some oi) (hne : i ≠ n) (hw : waits md ops n i = true) (hsel : ∀ (j : Nat) (o : Oper) cs b, ops[j]? = some o -> o.op ≠ .select cs b)
  (hQ : ∀ c a w, Q (.panic c) (a.put oi.dst v) w -> Q (.panic c) a w) (f : Nat) :
  ∀ (l : Array Bool) (a : Act) (w : World),
   (∀ j oj, ops[j]? = some oj -> j ≠ i -> l.getD j true = false -> (∀ e ∈ oj.after, Region.binds md e = true -> e.on ≠ i) -> oi.apart ops oj = true) ->
   i ∈ Region.ready md ops l -> YieldsIf P ops S oi v a -> S w ->
   wpAnyL P md ops Q S n f (l.setIfInBounds i true) (a.put oi.dst v) w -> wpAnyL P md ops Q S n (f + 1) l a w := by
 induction f with
 | zero =>
  intro l a w _ hr hy hS H
  refine ⟨fun h => (by rw [h] at hr; cases hr), fun j hj => ?_⟩
  by_cases hji : j = i
  ·subst hji
   exact hy.wpOp hi hS ⟨fun _ => hS, H⟩
  ·have h0 := ready_mono hj hji
   rw [H.1] at h0
   cases h0
 | succ f ih =>
  intro l a w hfree hr hy hS H
  refine ⟨fun h => (by rw [h] at hr; cases hr), fun j hj => ?_⟩
  by_cases hji : j = i
  ·subst hji
   exact hy.wpOp hi hS ⟨fun _ => hS, H⟩
  ·have hjn : j ≠ n := fun e => not_ready hw hr (e ▸ hj)
   obtain ⟨hjl, oj, hoj, hall⟩ := mem_ready.1 hj
   have hapart : oi.apart ops oj = true := by
    refine hfree j oj hoj hji hjl (fun e he hb heq => ?_)
    have h1 := hall e he hb
    have h0 := (mem_ready.1 hr).1
    rw [heq] at h1
    rcases Nat.lt_or_ge i l.size with h' | h'
    ·simp [h'] at h0 h1; rw [h0] at h1; cases h1
    ·simp [Array.getElem?_eq_none h'] at h1
   have hput := wpOp_putIf hoj hapart (fun cs b => hsel i oi cs b hi) (fun cs b => hsel j oj cs b hoj) hQ hy (H.2 j (ready_mono hj hji))
   refine wpOp_mono (fun a' w' h3 => ⟨fun _ => h3.2.1 hjn, ih (l.setIfInBounds j true) a' w' (fun k ok hk hki hun hno => hfree k ok hk hki ?_ hno) (ready_mono hr (Ne.symm hji)) h3.1 (h3.2.1 hjn) ?_⟩) hput
   ·by_cases hjk : j = k
    ·subst hjk; exact hjl
    ·rw [getD_set_ne true hjk] at hun; exact hun
   ·rw [Array.setIfInBounds_comm _ _ hji]
    exact h3.2.2
theorem takeL (i : Nat) {oi : Oper} {v : Value} {f : Nat} {l : Array Bool} {a : Act} {w : World} (hi : ops[i]? = some oi) (d : Option Tmp) (hd : oi.dst = d) (hne : i ≠ n) (hw : waits md ops n i = true)
  (hs : Region.noSelect ops = true) (hf : Region.free md ops l i = true) (hr : (Region.ready md ops l).contains i = true)
  (hQ : ∀ c a w, Q (.panic c) (a.put d v) w -> Q (.panic c) a w) (hy : YieldsIf P ops S oi v a) (hS : S w)
  (h : wpAnyL P md ops Q S n f (l.setIfInBounds i true) (a.put d v) w) : wpAnyL P md ops Q S n (f + 1) l a w := by
 subst hd
 exact firstL hi hne hw (Region.noSelect_spec hs) hQ f l a w (Region.free_spec hi hf) (by simpa using hr) hy hS h
def ReadyL (P : Program) (md : Region.Mode) (ops : Array Oper) (Q : Exit -> Act -> World -> Prop) (S : World -> Prop) (n f : Nat) (l : Array Bool) (a : Act) (w : World) (rs : List Nat) : Prop :=
 ∀ i ∈ rs, wpOp P ops Q i (fun a' w' => (i ≠ n -> S w') /\ wpAnyL P md ops Q S n f (l.setIfInBounds i true) a' w') a w
theorem ReadyL.nil {f : Nat} {l : Array Bool} {a : Act} {w : World} : ReadyL P md ops Q S n f l a w [] := fun _ h => by cases h
theorem ReadyL.cons {f : Nat} {l : Array Bool} {a : Act} {w : World} {i : Nat} {o : Oper} {rs : List Nat} (ho : ops[i]? = some o)
  (h : ∀ K' : Act -> World -> Prop, Shut (∀ a w, (i ≠ n -> S w) -> ((i ≠ n -> S w) -> wpAnyL P md ops Q S n f (l.setIfInBounds i true) a w) -> K' a w) -> if Region.wanted o (yielded ops a.tmps) = true then Oper.wp P o a w K' Q else K' (a.put o.dst undef) w)
  (hs : ReadyL P md ops Q S n f l a w rs) : ReadyL P md ops Q S n f l a w (i :: rs) := fun j hj => by
 rcases List.mem_cons.1 hj with rfl | hj
 ·exact wpOp_step ho (fun K' hK => h K' (fun a w hS hW => hK a w ⟨hS, hW hS⟩))
 ·exact hs j hj
theorem readyL {rs : List Nat} {f : Nat} {l : Array Bool} {a : Act} {w : World} (hr : Region.ready md ops l = rs) (hne : rs ≠ []) (h : ReadyL P md ops Q S n f l a w rs) : wpAnyL P md ops Q S n (f + 1) l a w :=
 ⟨fun h0 => absurd (hr ▸ h0) hne, hr ▸ h⟩
theorem doneL {l : Array Bool} {a : Act} {w : World} (hr : Region.ready md ops l = []) (h : Q .normal a w) : ∀ f, wpAnyL P md ops Q S n f l a w
 | 0 => ⟨hr, h⟩
 | _ + 1 => ⟨fun _ => h, by rw [hr]; simp⟩
theorem beginL {id : Nat} {a : Act} {w : World} (S : World -> Prop) (n : Nat) (hm : P.follows .mixedOrders = true) (hS : S w.drew) (h : S w.drew -> wpAnyL P .any ops Q S n ops.size (Array.replicate ops.size false) a w.drew) : (Code.region id ops true).wp P Q a w :=
 wp_region_any hm (wpAny_ofL _ _ _ _ (h hS))
end
end Go.Proofs.YtldbbkheemnnhaaGreatDoor

namespace Go.Proofs.YtldbbkheemnnhaaGreatDoor
open Go.RowKit
theorem wantR {c p q : Prop} [Decidable c] (hc : c) (h : p) : if c then p else q := by rw [if_pos hc]; exact h
end Go.Proofs.YtldbbkheemnnhaaGreatDoor
