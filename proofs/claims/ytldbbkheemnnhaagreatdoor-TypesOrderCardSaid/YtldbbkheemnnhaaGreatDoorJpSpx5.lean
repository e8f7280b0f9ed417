/-
  The texts Spx, Or9, Fp8, Bd8, Ob8, joined.
-/
import Derived.Test.YtldbbkheemnnhaaGreatDoorJpMat4
import Derived.Orders
import Derived.Test.YtldbbkheemnnhaaGreatDoorJpYpa3
import Derived.Test.YtldbbkheemnnhaaGreatDoorJpEql4
import Derived.Test.YtldbbkheemnnhaaGreatDoorJpBt83
import Derived.Test.YtldbbkheemnnhaaGreatDoorJpXw82
import Derived.Test.YtldbbkheemnnhaaGreatDoorJpWrd3
import Derived.Test.YtldbbkheemnnhaaGreatDoorQpSk8
namespace Go.Proofs.YtldbbkheemnnhaaGreatDoor
open Go.RowKit
theorem count_set {l : List Bool} : ∀ {i : Nat}, l[i]? = some false -> (l.set i true).count false + 1 = l.count false := by
 induction l with
 | nil => intro i h; simp at h
 | cons x l ih =>
  intro i h
  cases i with
  | zero =>
   simp only [List.getElem?_cons_zero, Option.some.injEq] at h
   subst h
   simp
  | succ i =>
   simp only [List.getElem?_cons_succ] at h
   have := ih h
   cases x <;> simp <;> omega
section
variable {P : Program} {ops : Array Oper} {Q : Exit -> Act -> World -> Prop} {md : Region.Mode}
theorem wpAny_inv {Inv : (Nat -> Bool) -> Act -> World -> Prop}
  (hed : ∀ (i : Nat) (o : Oper), ops[i]? = some o -> ∀ e ∈ o.after.toList, e.on < i)
  (hstep : ∀ (d : Nat -> Bool) (a : Act) (w : World) (i : Nat) (o : Oper), ops[i]? = some o -> Inv d a w -> d i = false -> (∀ e ∈ o.after.toList, Region.binds md e = true -> d e.on = true) -> wpOp P ops Q i (Inv (fun j => if j = i then true else d j)) a w)
  (hend : ∀ a w, Inv (fun _ => true) a w -> Q .normal a w) :
  ∀ (fuel : Nat) (l : Array Bool) (a : Act) (w : World), l.size = ops.size -> l.toList.count false <= fuel -> Inv (fun j => l.getD j true) a w -> wpAny P md ops Q fuel l a w := by
 have hall : ∀ (l : Array Bool), l.size = ops.size -> Region.ready md ops l = [] -> ∀ j, l.getD j true = true := by
  intro l hl hr j
  induction j using Nat.strongRecOn with
  | ind j ih =>
  cases hj : l.getD j true with
  | true => rfl
  | false =>
   exfalso
   have hlt : j < l.size := by
    rcases Nat.lt_or_ge j l.size with h | h
    ·exact h
    ·rw [Array.getD_eq_getD_getElem?, Array.getElem?_eq_none h] at hj
     cases hj
   have ho : ops[j]? = some ops[j] := Array.getElem?_eq_getElem (by omega)
   have hm : j ∈ Region.ready md ops l := by
    unfold Region.ready
    rw [List.mem_filter]
    refine ⟨List.mem_range.2 (by omega), ?_⟩
    rw [hj, ho]
    simp only [Bool.not_false, Bool.true_and, Option.map_some, Option.getD_some]
    rw [Array.all_eq_true_iff_forall_mem]
    intro e he
    have h1 := hed j _ ho e (Array.mem_toList_iff.2 he)
    have h2 := ih e.on h1
    have h3 : l.getD e.on false = true := by
     rw [Array.getD_eq_getD_getElem?, Array.getElem?_eq_getElem (by omega)] at h2 ⊢
     exact h2
    rw [h3, Bool.or_true]
   rw [hr] at hm
   cases hm
 intro fuel
 induction fuel with
 | zero =>
  intro l a w hl hc hI
  have h0 : ∀ j, l.getD j true = true := by
   intro j
   cases hj : l.getD j true with
   | true => rfl
   | false =>
    exfalso
    have hlt : j < l.size := by
     rcases Nat.lt_or_ge j l.size with h | h
     ·exact h
     ·rw [Array.getD_eq_getD_getElem?, Array.getElem?_eq_none h] at hj
      cases hj
    have hm : false ∈ l.toList := by
     rw [Array.getD_eq_getD_getElem?, Array.getElem?_eq_getElem hlt, Option.getD_some] at hj
     rw [← hj]
     exact Array.getElem_mem_toList hlt
    have := List.count_pos_iff.2 hm
    omega
  have e : (fun j => l.getD j true) = fun _ => true := funext h0
  rw [e] at hI
  refine ⟨?_, hend a w hI⟩
  unfold Region.ready
  rw [List.filter_eq_nil_iff]
  intro i _
  rw [h0 i]
  simp
 | succ fuel ih =>
  intro l a w hl hc hI
  refine ⟨fun hr => ?_, fun i hi => ?_⟩
  ·have e : (fun j => l.getD j true) = fun _ => true := funext (hall l hl hr)
   rw [e] at hI
   exact hend a w hI
  ·unfold Region.ready at hi
   rw [List.mem_filter, List.mem_range] at hi
   obtain ⟨hlt, hb⟩ := hi
   have ho : ops[i]? = some ops[i] := Array.getElem?_eq_getElem hlt
   rw [ho] at hb
   simp only [Option.map_some, Option.getD_some, Bool.and_eq_true, Bool.not_eq_true'] at hb
   obtain ⟨hf, he⟩ := hb
   rw [Array.all_eq_true_iff_forall_mem] at he
   refine wpOp_mono ?_ (hstep _ a w i _ ho hI hf ?_)
   ·intro a' w' h'
    refine ih _ a' w' (by simpa using hl) ?_ ?_
    ·have h1 : l.toList[i]? = some false := by
      rw [Array.getD_eq_getD_getElem?, Array.getElem?_eq_getElem (by omega), Option.getD_some] at hf
      rw [Array.getElem?_toList, Array.getElem?_eq_getElem (by omega), hf]
     have h2 := count_set h1
     rw [Array.toList_setIfInBounds]
     omega
    ·have e : (fun j => (l.setIfInBounds i true).getD j true) = fun j => if j = i then true else l.getD j true := by
      funext j
      rw [Array.getD_eq_getD_getElem?, Array.getD_eq_getD_getElem?, Array.getElem?_setIfInBounds]
      by_cases hji : i = j
      ·subst hji
       rw [if_pos rfl, if_pos rfl, if_pos (by omega)]
       rfl
      ·rw [if_neg hji, if_neg (fun h => hji h.symm)]
     rw [e]
     exact h'
   ·intro e hem hbd
    have h1 := he e (Array.mem_toList_iff.1 hem)
    rw [hbd] at h1
    simp only [Bool.not_true, Bool.false_or] at h1
    have h2 := hed i _ ho e hem
    rw [Array.getD_eq_getD_getElem?, Array.getElem?_eq_getElem (by omega)] at h1 ⊢
    exact h1
theorem wp_region_inv {id : Nat} {a : Act} {w : World} {Inv : (Nat -> Bool) -> Act -> World -> Prop} (hm : P.follows .mixedOrders = true)
  (hed : ∀ (i : Nat) (o : Oper), ops[i]? = some o -> ∀ e ∈ o.after.toList, e.on < i)
  (h0 : Inv (fun j => decide (ops.size <= j)) a w.drew)
  (hstep : ∀ (d : Nat -> Bool) (a : Act) (w : World) (i : Nat) (o : Oper), ops[i]? = some o -> Inv d a w -> d i = false -> (∀ e ∈ o.after.toList, Region.binds .any e = true -> d e.on = true) -> wpOp P ops Q i (Inv (fun j => if j = i then true else d j)) a w)
  (hend : ∀ a w, Inv (fun _ => true) a w -> Q .normal a w) : (Code.region id ops true).wp P Q a w := by
 refine wp_region_any hm (wpAny_inv hed hstep hend ops.size _ a _ (by simp) ?_ ?_)
 ·simp
 ·have e : (fun j => (Array.replicate ops.size false).getD j true) = fun j => decide (ops.size <= j) := by
   funext j
   rw [Array.getD_eq_getD_getElem?, Array.getElem?_replicate]
   by_cases h : j < ops.size
   ·rw [if_pos h, decide_eq_false (by omega)]; rfl
   ·rw [if_neg h, decide_eq_true (by omega)]; rfl
  rw [e]
  exact h0
end
open Go.RowKit
structure Slo (ds : List Nat) (a0 a : Act) (f : Nat -> Value) : Prop where
 size : a.tmps.size = a0.tmps.size
 defers : a.defers = a0.defers
 out : ∀ k, k ∉ ds -> a.tmps[k]? = a0.tmps[k]?
 inn : ∀ k, k ∈ ds -> a.tmps[k]? = some (f k)
def upd (f : Nat -> Value) (k : Nat) (v : Value) : Nat -> Value := fun j => if j = k then v else f j
theorem upd_at (f : Nat -> Value) (k : Nat) (v : Value) : upd f k v k = v := by simp [upd]
theorem upd_ne (f : Nat -> Value) {k j : Nat} (v : Value) (h : j ≠ k) : upd f k v j = f j := by simp [upd, h]
theorem Slo.start {ds : List Nat} {a : Act} (h : ∀ k ∈ ds, k < a.tmps.size) : Slo ds a a (fun k => a.tmps.getD k undef) := by
 refine ⟨rfl, rfl, fun _ _ => rfl, fun k hk => ?_⟩
 have := h k hk
 rw [Array.getElem?_eq_getElem this]
 simp [Array.getD, this]
theorem Slo.put {ds : List Nat} {a0 a : Act} {f : Nat -> Value} (h : Slo ds a0 a f) {k : Nat} (hk : k ∈ ds) (v : Value) : Slo ds a0 (a.put (some k) v) (upd f k v) := by
 have hs : k < a.tmps.size := by
  have := h.inn k hk
  rcases Nat.lt_or_ge k a.tmps.size with h' | h'
  ·exact h'
  ·rw [Array.getElem?_eq_none h'] at this; cases this
 refine ⟨by simp [Act.put, h.size], h.defers, fun j hj => ?_, fun j hj => ?_⟩
 ·have hne : k ≠ j := fun e => hj (e ▸ hk)
  show (a.tmps.setIfInBounds k v)[j]? = _
  rw [Array.getElem?_setIfInBounds, if_neg hne]; exact h.out j hj
 ·show (a.tmps.setIfInBounds k v)[j]? = _
  rw [Array.getElem?_setIfInBounds]
  by_cases e : k = j
  ·subst e; rw [if_pos rfl, if_pos hs, upd_at]
  ·rw [if_neg e, upd_ne _ _ (fun h => e h.symm)]; exact h.inn j hj
theorem Slo.none {ds : List Nat} {a0 a : Act} {f : Nat -> Value} (h : Slo ds a0 a f) (v : Value) : Slo ds a0 (a.put Option.none v) f := h
theorem Slo.at_ {ds : List Nat} {a0 a : Act} {f : Nat -> Value} (h : Slo ds a0 a f) {k : Nat} (hk : k ∈ ds) : a.eval (.tmp k) = f k := by
 show a.tmps.getD k undef = _
 have := h.inn k hk
 rw [Array.getD_eq_getD_getElem?, this]; rfl
theorem Slo.old {ds : List Nat} {a0 a : Act} {f : Nat -> Value} (h : Slo ds a0 a f) {k : Nat} (hk : k ∉ ds) : a.eval (.tmp k) = a0.eval (.tmp k) := by
 show a.tmps.getD k undef = a0.tmps.getD k undef
 rw [Array.getD_eq_getD_getElem?, Array.getD_eq_getD_getElem?, h.out k hk]
theorem Slo.eq {ds : List Nat} {a0 a : Act} {f : Nat -> Value} (h : Slo ds a0 a f) : a = { tmps := ds.foldl (fun t k => t.setIfInBounds k (f k)) a0.tmps, defers := a0.defers } := by
 have key : ∀ (l : List Nat) (t : Array Value), (∀ k, k ∈ l -> k < t.size) -> (l.foldl (fun t k => t.setIfInBounds k (f k)) t).size = t.size /\ ∀ j, (l.foldl (fun t k => t.setIfInBounds k (f k)) t)[j]? = if j ∈ l then some (f j) else t[j]? := by
  intro l
  induction l with
  | nil => intro t _; simp
  | cons x l ih =>
   intro t ht
   have hx := ht x (by simp)
   obtain ⟨i1, i2⟩ := ih (t.setIfInBounds x (f x)) (fun k hk => by simpa using ht k (List.mem_cons_of_mem _ hk))
   refine ⟨by rw [List.foldl_cons, i1]; simp, fun j => ?_⟩
   rw [List.foldl_cons, i2 j, Array.getElem?_setIfInBounds]
   by_cases hj : j ∈ l
   ·rw [if_pos hj, if_pos (List.mem_cons_of_mem _ hj)]
   ·rw [if_neg hj]
    by_cases e : x = j
    ·subst e; rw [if_pos rfl, if_pos hx, if_pos (by simp)]
    ·rw [if_neg e, if_neg (by simp [hj]; exact fun h => e h.symm)]
 have hlt : ∀ k, k ∈ ds -> k < a0.tmps.size := by
  intro k hk
  have := h.inn k hk
  rw [← h.size]
  rcases Nat.lt_or_ge k a.tmps.size with h' | h'
  ·exact h'
  ·rw [Array.getElem?_eq_none h'] at this; cases this
 obtain ⟨_, k2⟩ := key ds a0.tmps hlt
 have e : a.tmps = ds.foldl (fun t k => t.setIfInBounds k (f k)) a0.tmps := by
  apply Array.ext_getElem?
  intro j
  rw [k2 j]
  by_cases hj : j ∈ ds
  ·rw [if_pos hj]; exact h.inn j hj
  ·rw [if_neg hj]; exact h.out j hj
 have hd := h.defers
 cases a
 simp only at e hd
 rw [e, hd]
theorem wpOp_run {ops : Array Oper} {Q : Exit -> Act -> World -> Prop} {i : Nat} {K : Act -> World -> Prop} {a : Act} {w w' : World} {o : Oper} {v : Value} (ho : ops[i]? = some o) (hg : o.guard = none) (h : (execOp a.eval o).run Tryz.prog w = .ok (.value v) w') (k : K (a.put o.dst v) w') : wpOp Tryz.prog ops Q i K a w := by
 unfold wpOp
 rw [ho]
 have hw : Region.wanted o (yielded ops a.tmps) = true := by unfold Region.wanted; rw [hg]
 simp only [hw, if_true]
 refine .inl ?_
 unfold Oper.wp
 rw [h]; exact k
theorem wpOp_wp {ops : Array Oper} {Q : Exit -> Act -> World -> Prop} {i : Nat} {K : Act -> World -> Prop} {a : Act} {w : World} {o : Oper} (ho : ops[i]? = some o) (hg : o.guard = none) (h : o.wp Tryz.prog a w K Q) : wpOp Tryz.prog ops Q i K a w := by
 unfold wpOp
 rw [ho]
 have hw : Region.wanted o (yielded ops a.tmps) = true := by unfold Region.wanted; rw [hg]
 simp only [hw, if_true]
 exact .inl h
theorem hed_of {ops : Array Oper} (h : ((List.range ops.size).all fun i => ((ops[i]?.map fun o => o.after.toList.all fun e => decide (e.on < i)).getD true)) = true) : ∀ (i : Nat) (o : Oper), ops[i]? = some o -> ∀ e ∈ o.after.toList, e.on < i := by
 intro i o ho e he
 have hi : i < ops.size := by
  rcases Nat.lt_or_ge i ops.size with h' | h'
  ·exact h'
  ·rw [Array.getElem?_eq_none h'] at ho; cases ho
 have h1 := List.all_eq_true.1 h i (List.mem_range.2 hi)
 rw [ho] at h1
 simp only [Option.map_some, Option.getD_some] at h1
 exact of_decide_eq_true (List.all_eq_true.1 h1 e he)
def Cls (ops : Array Oper) (d : Nat -> Bool) : Prop := ∀ (i : Nat) (o : Oper), ops[i]? = some o -> d i = true -> ∀ e ∈ o.after.toList, Region.binds .any e = true -> d e.on = true
theorem Cls.start {ops : Array Oper} : Cls ops (fun j => decide (ops.size <= j)) := by
 intro i o ho hd
 have hi : i < ops.size := by
  rcases Nat.lt_or_ge i ops.size with h' | h'
  ·exact h'
  ·rw [Array.getElem?_eq_none h'] at ho; cases ho
 have := of_decide_eq_true hd
 omega
theorem Cls.step {ops : Array Oper} {d : Nat -> Bool} (h : Cls ops d) {i : Nat} {o : Oper} (ho : ops[i]? = some o) (hed : ∀ e ∈ o.after.toList, Region.binds .any e = true -> d e.on = true) : Cls ops (fun j => if j = i then true else d j) := by
 intro j p hp hd e he hb
 show (if e.on = i then true else d e.on) = true
 by_cases hx : e.on = i
 ·rw [if_pos hx]
 ·rw [if_neg hx]
  by_cases hj : j = i
  ·subst hj
   rw [ho] at hp
   cases hp
   exact hed e he hb
  ·simp only [if_neg hj] at hd
   exact h j p hp hd e he hb
theorem Cls.no {ops : Array Oper} {d : Nat -> Bool} (h : Cls ops d) (l : Nat) {o : Oper} (ho : ops[l]? = some o) (e : Edge) (he : e ∈ o.after.toList) (hb : Region.binds .any e = true) (hd : d e.on = false) : d l = false := by
 cases hl : d l with
 | false => rfl
 | true => exact absurd (hd.symm.trans (h l o ho hl e he hb)) Bool.false_ne_true
theorem wpOp_call {ops : Array Oper} {Q : Exit -> Act -> World -> Prop} {i : Nat} {K : Act -> World -> Prop} {a : Act} {w w0 : World} {o : Oper} {f : Nat} {args : Array Value} (ho : ops[i]? = some o) (hg : o.guard = none) (h : (execOp a.eval o).run Tryz.prog w = .ok (.enter f args) w0) (k : Calls Tryz.prog f args w0 fun ev w' => ∃ v, ev = .returned v /\ K (a.put o.dst v) w') : wpOp Tryz.prog ops Q i K a w := by
 unfold wpOp
 rw [ho]
 have hw : Region.wanted o (yielded ops a.tmps) = true := by unfold Region.wanted; rw [hg]
 simp only [hw, if_true]
 refine .inl ?_
 unfold Oper.wp
 rw [h]
 refine k.mono ?_
 rintro _ w' ⟨v, rfl, hk⟩
 exact hk
end Go.Proofs.YtldbbkheemnnhaaGreatDoor

namespace Go.Proofs.YtldbbkheemnnhaaGreatDoor
open Go.RowKit
def ops9 : Array Oper := #[{ dst := some 54, op := Op.load 25 (Operand.tmp 3), type := 25, pos := "law.go:124", after := #[], guard := none }, { dst := some 55, op := Op.load 25 (Operand.tmp 3), type := 25, pos := "law.go:124", after := #[], guard := none }, { dst := some 56, op := Op.move (Operand.tmp 1), type := 22, pos := "law.go:124", after := #[], guard := none }, { dst := some 57, op := Op.call { callee := Callee.value (Operand.func 20), args := #[Operand.tmp 55, Operand.tmp 56], argTypes := #[25, 22] }, type := 25, pos := "law.go:124", after := #[{ on := 1, ground := Ground.data }, { on := 2, ground := Ground.data }], guard := none }, { dst := some 58, op := Op.load 25 (Operand.tmp 3), type := 25, pos := "law.go:124", after := #[], guard := none }, { dst := some 59, op := Op.move (Operand.tmp 2), type := 22, pos := "law.go:124", after := #[], guard := none }, { dst := some 60, op := Op.call { callee := Callee.value (Operand.func 20), args := #[Operand.tmp 58, Operand.tmp 59], argTypes := #[25, 22] }, type := 25, pos := "law.go:124", after := #[{ on := 4, ground := Ground.data }, { on := 5, ground := Ground.data }, { on := 3, ground := Ground.chain }], guard := none }, { dst := some 9, op := Op.alloc 25, type := 0, pos := "law.go:124", after := #[], guard := none }, { dst := some 10, op := Op.alloc 25, type := 0, pos := "law.go:124", after := #[], guard := none }, { dst := some 11, op := Op.alloc 25, type := 0, pos := "law.go:124", after := #[], guard := none }, { dst := none, op := Op.store 25 (Operand.tmp 9) (Operand.tmp 54), type := 0, pos := "law.go:124", after := #[{ on := 7, ground := Ground.data }, { on := 0, ground := Ground.data }, { on := 6, ground := Ground.chain }, { on := 0, ground := Ground.phase }, { on := 1, ground := Ground.textOnly Departure.lateStores }, { on := 2, ground := Ground.textOnly Departure.lateStores }, { on := 3, ground := Ground.textOnly Departure.lateStoresUnsure }, { on := 4, ground := Ground.textOnly Departure.lateStores }, { on := 5, ground := Ground.textOnly Departure.lateStores }, { on := 6, ground := Ground.textOnly Departure.lateStoresUnsure }, { on := 7, ground := Ground.phase }, { on := 8, ground := Ground.phase }, { on := 9, ground := Ground.phase }], guard := none }, { dst := none, op := Op.store 25 (Operand.tmp 10) (Operand.tmp 57), type := 0, pos := "law.go:124", after := #[{ on := 8, ground := Ground.data }, { on := 3, ground := Ground.data }, { on := 10, ground := Ground.chain }, { on := 0, ground := Ground.phase }, { on := 1, ground := Ground.phase }, { on := 2, ground := Ground.phase }, { on := 3, ground := Ground.phase }, { on := 4, ground := Ground.textOnly Departure.lateStores }, { on := 5, ground := Ground.textOnly Departure.lateStores }, { on := 6, ground := Ground.textOnly Departure.lateStoresUnsure }, { on := 7, ground := Ground.phase }, { on := 8, ground := Ground.phase }, { on := 9, ground := Ground.phase }, { on := 10, ground := Ground.phase }], guard := none }, { dst := none, op := Op.store 25 (Operand.tmp 11) (Operand.tmp 60), type := 0, pos := "law.go:124", after := #[{ on := 9, ground := Ground.data }, { on := 6, ground := Ground.data }, { on := 11, ground := Ground.chain }, { on := 0, ground := Ground.phase }, { on := 1, ground := Ground.phase }, { on := 2, ground := Ground.phase }, { on := 3, ground := Ground.phase }, { on := 4, ground := Ground.phase }, { on := 5, ground := Ground.phase }, { on := 6, ground := Ground.phase }, { on := 7, ground := Ground.phase }, { on := 8, ground := Ground.phase }, { on := 9, ground := Ground.phase }, { on := 10, ground := Ground.phase }, { on := 11, ground := Ground.phase }], guard := none }]
def In (lo hi b : Nat) : Prop := lo <= b /\ b < hi
theorem rld25 (ev : Operand -> Value) (k g : Nat) (x0 x1 x2 x3 : Value) (h : ev (.tmp k) = .pointer (some ⟨g, 0, none⟩)) (w : World) (r : Row w g 25 [x0, x1, x2, x3]) (d : Option Nat) (ty : Nat) (p : String) (af : Array _) : (execOp ev { dst := d, op := .load 25 (.tmp k), type := ty, pos := p, after := af, guard := none }).run Tryz.prog w = .ok (.value (.agg #[x0, x1, x2, x3])) w := by
 have c0 := r.cell 0
 have c1 := r.cell 1
 have c2 := r.cell 2
 have c3 := r.cell 3
 simp only [List.getElem?_cons_zero, List.getElem?_cons_succ] at c0 c1 c2 c3
 unfold execOp
 simp only [h]
 go_simp
theorem rmv (ev : Operand -> Value) (k : Nat) (w : World) (d : Option Nat) (ty : Nat) (p : String) (af : Array _) : (execOp ev { dst := d, op := .move (.tmp k), type := ty, pos := p, after := af, guard := none }).run Tryz.prog w = .ok (.value (ev (.tmp k))) w := by
 unfold execOp
 go_simp
theorem ral25 (ev : Operand -> Value) (w : World) (d : Option Nat) (ty : Nat) (p : String) (af : Array _) : (execOp ev { dst := d, op := .alloc 25, type := ty, pos := p, after := af, guard := none }).run Tryz.prog w = .ok (.value (.pointer (some ⟨w.heap.size, 0, none⟩))) (w.alloc (.cells z25.toArray 25)) := by
 unfold execOp z25
 go_simp
theorem rcl20 (a : Act) (k j : Nat) (v u : Value) (h : a.eval (.tmp k) = v) (h2 : a.eval (.tmp j) = u) (w : World) (d : Option Nat) (ty : Nat) (p : String) (af : Array _) : (execOp a.eval { dst := d, op := .call { callee := .value (.func 20), args := #[.tmp k, .tmp j], argTypes := #[25, 22] }, type := ty, pos := p, after := af, guard := none }).run Tryz.prog w = .ok (.enter 20 #[v, u]) w := by
 unfold execOp
 simp only [← h, ← h2]
 go_simp
structure Mid9 (n B C : Nat) (w0 : World) (X Y : RTy) (cs : List Value) (vm vn : Value) (d : Nat -> Bool) (f : Nat -> Value) (w : World) (lA hA lB hB g7 g8 g9 : Nat) : Prop where
 bel : Below C w0 w
 q0 : d 0 = true -> f 54 = .agg cs.toArray
 q1 : d 1 = true -> f 55 = .agg cs.toArray
 q2 : d 2 = true -> f 56 = vm
 q4 : d 4 = true -> f 58 = .agg cs.toArray
 q5 : d 5 = true -> f 59 = vn
 q3 : d 3 = true -> ∃ c, f 57 = .agg c.toArray /\ C <= lA /\ hA <= w.heap.size /\ RtQ n (In lA hA) B w c X
 q6 : d 6 = true -> ∃ c, f 60 = .agg c.toArray /\ C <= lB /\ hB <= w.heap.size /\ RtQ n (In lB hB) B w c Y
 p7 : d 7 = true -> f 9 = .pointer (some ⟨g7, 0, none⟩) /\ C <= g7 /\ g7 < w.heap.size
 p8 : d 8 = true -> f 10 = .pointer (some ⟨g8, 0, none⟩) /\ C <= g8 /\ g8 < w.heap.size
 p9 : d 9 = true -> f 11 = .pointer (some ⟨g9, 0, none⟩) /\ C <= g9 /\ g9 < w.heap.size
 r7 : d 7 = true -> d 10 = false -> Row w g7 25 z25
 r8 : d 8 = true -> d 11 = false -> Row w g8 25 z25
 r9 : d 9 = true -> d 12 = false -> Row w g9 25 z25
 e78 : d 7 = true -> d 8 = true -> g7 ≠ g8
 e79 : d 7 = true -> d 9 = true -> g7 ≠ g9
 e89 : d 8 = true -> d 9 = true -> g8 ≠ g9
 a37 : d 3 = true -> d 7 = true -> ¬ In lA hA g7
 a38 : d 3 = true -> d 8 = true -> ¬ In lA hA g8
 a39 : d 3 = true -> d 9 = true -> ¬ In lA hA g9
 a67 : d 6 = true -> d 7 = true -> ¬ In lB hB g7
 a68 : d 6 = true -> d 8 = true -> ¬ In lB hB g8
 a69 : d 6 = true -> d 9 = true -> ¬ In lB hB g9
 s10 : d 10 = true -> Row w g7 25 cs
 s11 : d 11 = true -> ∃ c, f 57 = .agg c.toArray /\ Row w g8 25 c
 s12 : d 12 = true -> ∃ c, f 60 = .agg c.toArray /\ Row w g9 25 c
theorem kp_of {lo hi : Nat} {w w' : World} (hb : Below w.heap.size w w') (h : hi <= w.heap.size) : Kp (In lo hi) (In lo hi) w w' := ⟨fun _ h => h, fun b hb' => hb.block b (Nat.lt_of_lt_of_le hb'.2 h)⟩
theorem kp_st {lo hi g : Nat} {w w' : World} (hs : Stay (fun k => k = g) w w') (h : hi <= w.heap.size) (hn : ¬ In lo hi g) : Kp (In lo hi) (In lo hi) w w' := ⟨fun _ h => h, fun b hb => hs.block b (Nat.lt_of_lt_of_le hb.2 h) (fun e => hn (e ▸ hb))⟩
section
variable {n B C : Nat} {w0 w w' : World} {X Y : RTy} {cs : List Value} {vm vn : Value} {d : Nat -> Bool} {f : Nat -> Value} {lA hA lB hB g7 g8 g9 : Nat}
theorem Mid9.move (H : Mid9 n B C w0 X Y cs vm vn d f w lA hA lB hB g7 g8 g9) (hC : C <= w.heap.size) (h10 : d 10 = false) (h11 : d 11 = false) (h12 : d 12 = false) (hb : Below w.heap.size w w') : Mid9 n B C w0 X Y cs vm vn d f w' lA hA lB hB g7 g8 g9 :=
 ⟨H.bel.trans (below_le hb hC), H.q0, H.q1, H.q2, H.q4, H.q5,
  fun h => by obtain ⟨c, e, h1, h2, h3⟩ := H.q3 h; exact ⟨c, e, h1, Nat.le_trans h2 hb.size, h3.mono (kp_of hb h2)⟩,
  fun h => by obtain ⟨c, e, h1, h2, h3⟩ := H.q6 h; exact ⟨c, e, h1, Nat.le_trans h2 hb.size, h3.mono (kp_of hb h2)⟩,
  fun h => ⟨(H.p7 h).1, (H.p7 h).2.1, Nat.lt_of_lt_of_le (H.p7 h).2.2 hb.size⟩, fun h => ⟨(H.p8 h).1, (H.p8 h).2.1, Nat.lt_of_lt_of_le (H.p8 h).2.2 hb.size⟩, fun h => ⟨(H.p9 h).1, (H.p9 h).2.1, Nat.lt_of_lt_of_le (H.p9 h).2.2 hb.size⟩,
  fun h h' => (H.r7 h h').below hb (H.p7 h).2.2, fun h h' => (H.r8 h h').below hb (H.p8 h).2.2, fun h h' => (H.r9 h h').below hb (H.p9 h).2.2,
  H.e78, H.e79, H.e89, H.a37, H.a38, H.a39, H.a67, H.a68, H.a69,
  fun h => absurd h (by rw [h10]; simp), fun h => absurd h (by rw [h11]; simp), fun h => absurd h (by rw [h12]; simp)⟩
end
set_option maxHeartbeats 8000000 in
set_option maxRecDepth 20000 in
theorem reg9 {Q : Exit -> Act -> World -> Prop} {a0 : Act} {w0 : World} {n g3 : Nat} {K : Ctx} {t : RTy} {m l : List Int} {x0 x1 x2 x3 : Value} {vm vn : Value}
  (h3 : a0.eval (.tmp 3) = .pointer (some ⟨g3, 0, none⟩)) (hm1 : a0.eval (.tmp 1) = vm) (hm2 : a0.eval (.tmp 2) = vn) (hsz : a0.tmps.size = 87)
  (rA : Row w0 g3 25 [x0, x1, x2, x3]) (hC : K.C <= w0.heap.size) (ht : RtAt n K w0 [x0, x1, x2, x3] t) (hf : Fit n t) (hm : Nms K w0 vm m) (hl : Nms K w0 vn l)
  (hQ : ∀ (f : Nat -> Value) (w : World) (g7 g8 g9 : Nat) (c e : List Value), Below w0.heap.size w0 w -> f 9 = .pointer (some ⟨g7, 0, none⟩) -> f 10 = .pointer (some ⟨g8, 0, none⟩) -> f 11 = .pointer (some ⟨g9, 0, none⟩) -> Row w g7 25 [x0, x1, x2, x3] -> Row w g8 25 c -> Row w g9 25 e ->
   RtAt n (K.up w.heap.size) w c (subN n m t) -> RtAt n (K.up w.heap.size) w e (subN n l t) ->
   Q .normal { tmps := [54, 55, 56, 57, 58, 59, 60, 9, 10, 11].foldl (fun t k => t.setIfInBounds k (f k)) a0.tmps, defers := a0.defers } w) :
  (Code.region 9 ops9 true).wp Tryz.prog Q a0 w0 := by
 refine wp_region_inv (ops := ops9) (Inv := fun dn a w => ∃ f lA hA lB hB g7 g8 g9, Slo [54, 55, 56, 57, 58, 59, 60, 9, 10, 11] a0 a f /\ Cls ops9 dn /\ Mid9 n K.B w0.heap.size w0 (subN n m t) (subN n l t) [x0, x1, x2, x3] vm vn dn f w lA hA lB hB g7 g8 g9) (by kernel_rfl) (hed_of (by kernel_rfl)) ?_ ?_ ?_
 ·refine ⟨_, 0, 0, 0, 0, 0, 0, 0, Slo.start (fun k hk => by simp at hk; omega), Cls.start, ?_⟩
  refine ⟨(Below.refl _ _).drew, ?_, ?_, ?_, ?_, ?_, ?_, ?_, ?_, ?_, ?_, ?_, ?_, ?_, ?_, ?_, ?_, ?_, ?_, ?_, ?_, ?_, ?_, ?_, ?_, ?_⟩ <;> exact fun h => by simp [ops9] at h
 ·intro dn a w i o ho hI hdi hed
  obtain ⟨f, lA, hA, lB, hB, g7, g8, g9, hs, hcl, H⟩ := hI
  have hcl' := hcl.step ho hed
  have hi : i < 13 := by
   rcases Nat.lt_or_ge i ops9.size with h | h
   ·exact h
   ·rw [Array.getElem?_eq_none h] at ho; cases ho
  have e3 : a.eval (.tmp 3) = .pointer (some ⟨g3, 0, none⟩) := (hs.old (by decide)).trans h3
  have e1 : a.eval (.tmp 1) = vm := (hs.old (by decide)).trans hm1
  have e2 : a.eval (.tmp 2) = vn := (hs.old (by decide)).trans hm2
  have hsw := H.bel.size
  match i, hi with
  | 0, _ =>
   obtain rfl := Option.some.inj ho
   have h10 := hcl.no 10 rfl ⟨0, .data⟩ (by simp [ops9]) rfl hdi
   have h11 := hcl.no 11 rfl ⟨10, .chain⟩ (by simp [ops9]) rfl h10
   have h12 := hcl.no 12 rfl ⟨11, .chain⟩ (by simp [ops9]) rfl h11
   refine wpOp_run rfl rfl (rld25 _ 3 g3 _ _ _ _ e3 _ (rA.below H.bel rA.lt) _ _ _ _) ⟨upd f 54 _, lA, hA, lB, hB, g7, g8, g9, hs.put (by decide) _, hcl', ?_⟩
   exact ⟨H.bel,
    fun _ => upd_at _ _ _,
    fun h => by rw [upd_ne _ _ (by decide)]; exact H.q1 (by simpa using h),
    fun h => by rw [upd_ne _ _ (by decide)]; exact H.q2 (by simpa using h),
    fun h => by rw [upd_ne _ _ (by decide)]; exact H.q4 (by simpa using h),
    fun h => by rw [upd_ne _ _ (by decide)]; exact H.q5 (by simpa using h),
    fun h => by rw [upd_ne _ _ (by decide)]; exact H.q3 (by simpa using h),
    fun h => by rw [upd_ne _ _ (by decide)]; exact H.q6 (by simpa using h),
    fun h => by rw [upd_ne _ _ (by decide)]; exact H.p7 (by simpa using h),
    fun h => by rw [upd_ne _ _ (by decide)]; exact H.p8 (by simpa using h),
    fun h => by rw [upd_ne _ _ (by decide)]; exact H.p9 (by simpa using h),
    fun h h' => H.r7 (by simpa using h) (by simpa using h'),
    fun h h' => H.r8 (by simpa using h) (by simpa using h'),
    fun h h' => H.r9 (by simpa using h) (by simpa using h'),
    fun h h' => H.e78 (by simpa using h) (by simpa using h'),
    fun h h' => H.e79 (by simpa using h) (by simpa using h'),
    fun h h' => H.e89 (by simpa using h) (by simpa using h'),
    fun h h' => H.a37 (by simpa using h) (by simpa using h'),
    fun h h' => H.a38 (by simpa using h) (by simpa using h'),
    fun h h' => H.a39 (by simpa using h) (by simpa using h'),
    fun h h' => H.a67 (by simpa using h) (by simpa using h'),
    fun h h' => H.a68 (by simpa using h) (by simpa using h'),
    fun h h' => H.a69 (by simpa using h) (by simpa using h'),
    fun h => by simp [h10] at h,
    fun h => by simp [h11] at h,
    fun h => by simp [h12] at h⟩
  | 1, _ =>
   obtain rfl := Option.some.inj ho
   have n3 := hcl.no 3 rfl ⟨1, .data⟩ (by simp [ops9]) rfl hdi
   have n6 := hcl.no 6 rfl ⟨3, .chain⟩ (by simp [ops9]) rfl n3
   have h10 := hcl.no 10 rfl ⟨6, .chain⟩ (by simp [ops9]) rfl n6
   have h11 := hcl.no 11 rfl ⟨10, .chain⟩ (by simp [ops9]) rfl h10
   have h12 := hcl.no 12 rfl ⟨11, .chain⟩ (by simp [ops9]) rfl h11
   refine wpOp_run rfl rfl (rld25 _ 3 g3 _ _ _ _ e3 _ (rA.below H.bel rA.lt) _ _ _ _) ⟨upd f 55 _, lA, hA, lB, hB, g7, g8, g9, hs.put (by decide) _, hcl', ?_⟩
   exact ⟨H.bel,
    fun h => by rw [upd_ne _ _ (by decide)]; exact H.q0 (by simpa using h),
    fun _ => upd_at _ _ _,
    fun h => by rw [upd_ne _ _ (by decide)]; exact H.q2 (by simpa using h),
    fun h => by rw [upd_ne _ _ (by decide)]; exact H.q4 (by simpa using h),
    fun h => by rw [upd_ne _ _ (by decide)]; exact H.q5 (by simpa using h),
    fun h => by rw [upd_ne _ _ (by decide)]; exact H.q3 (by simpa using h),
    fun h => by rw [upd_ne _ _ (by decide)]; exact H.q6 (by simpa using h),
    fun h => by rw [upd_ne _ _ (by decide)]; exact H.p7 (by simpa using h),
    fun h => by rw [upd_ne _ _ (by decide)]; exact H.p8 (by simpa using h),
    fun h => by rw [upd_ne _ _ (by decide)]; exact H.p9 (by simpa using h),
    fun h h' => H.r7 (by simpa using h) (by simpa using h'),
    fun h h' => H.r8 (by simpa using h) (by simpa using h'),
    fun h h' => H.r9 (by simpa using h) (by simpa using h'),
    fun h h' => H.e78 (by simpa using h) (by simpa using h'),
    fun h h' => H.e79 (by simpa using h) (by simpa using h'),
    fun h h' => H.e89 (by simpa using h) (by simpa using h'),
    fun h h' => H.a37 (by simpa using h) (by simpa using h'),
    fun h h' => H.a38 (by simpa using h) (by simpa using h'),
    fun h h' => H.a39 (by simpa using h) (by simpa using h'),
    fun h h' => H.a67 (by simpa using h) (by simpa using h'),
    fun h h' => H.a68 (by simpa using h) (by simpa using h'),
    fun h h' => H.a69 (by simpa using h) (by simpa using h'),
    fun h => by simp [h10] at h,
    fun h => by simp [h11] at h,
    fun h => by simp [h12] at h⟩
  | 4, _ =>
   obtain rfl := Option.some.inj ho
   have n6 := hcl.no 6 rfl ⟨4, .data⟩ (by simp [ops9]) rfl hdi
   have h10 := hcl.no 10 rfl ⟨6, .chain⟩ (by simp [ops9]) rfl n6
   have h11 := hcl.no 11 rfl ⟨10, .chain⟩ (by simp [ops9]) rfl h10
   have h12 := hcl.no 12 rfl ⟨11, .chain⟩ (by simp [ops9]) rfl h11
   refine wpOp_run rfl rfl (rld25 _ 3 g3 _ _ _ _ e3 _ (rA.below H.bel rA.lt) _ _ _ _) ⟨upd f 58 _, lA, hA, lB, hB, g7, g8, g9, hs.put (by decide) _, hcl', ?_⟩
   exact ⟨H.bel,
    fun h => by rw [upd_ne _ _ (by decide)]; exact H.q0 (by simpa using h),
    fun h => by rw [upd_ne _ _ (by decide)]; exact H.q1 (by simpa using h),
    fun h => by rw [upd_ne _ _ (by decide)]; exact H.q2 (by simpa using h),
    fun _ => upd_at _ _ _,
    fun h => by rw [upd_ne _ _ (by decide)]; exact H.q5 (by simpa using h),
    fun h => by rw [upd_ne _ _ (by decide)]; exact H.q3 (by simpa using h),
    fun h => by rw [upd_ne _ _ (by decide)]; exact H.q6 (by simpa using h),
    fun h => by rw [upd_ne _ _ (by decide)]; exact H.p7 (by simpa using h),
    fun h => by rw [upd_ne _ _ (by decide)]; exact H.p8 (by simpa using h),
    fun h => by rw [upd_ne _ _ (by decide)]; exact H.p9 (by simpa using h),
    fun h h' => H.r7 (by simpa using h) (by simpa using h'),
    fun h h' => H.r8 (by simpa using h) (by simpa using h'),
    fun h h' => H.r9 (by simpa using h) (by simpa using h'),
    fun h h' => H.e78 (by simpa using h) (by simpa using h'),
    fun h h' => H.e79 (by simpa using h) (by simpa using h'),
    fun h h' => H.e89 (by simpa using h) (by simpa using h'),
    fun h h' => H.a37 (by simpa using h) (by simpa using h'),
    fun h h' => H.a38 (by simpa using h) (by simpa using h'),
    fun h h' => H.a39 (by simpa using h) (by simpa using h'),
    fun h h' => H.a67 (by simpa using h) (by simpa using h'),
    fun h h' => H.a68 (by simpa using h) (by simpa using h'),
    fun h h' => H.a69 (by simpa using h) (by simpa using h'),
    fun h => by simp [h10] at h,
    fun h => by simp [h11] at h,
    fun h => by simp [h12] at h⟩
  | 2, _ =>
   obtain rfl := Option.some.inj ho
   have n3 := hcl.no 3 rfl ⟨2, .data⟩ (by simp [ops9]) rfl hdi
   have n6 := hcl.no 6 rfl ⟨3, .chain⟩ (by simp [ops9]) rfl n3
   have h10 := hcl.no 10 rfl ⟨6, .chain⟩ (by simp [ops9]) rfl n6
   have h11 := hcl.no 11 rfl ⟨10, .chain⟩ (by simp [ops9]) rfl h10
   have h12 := hcl.no 12 rfl ⟨11, .chain⟩ (by simp [ops9]) rfl h11
   refine wpOp_run rfl rfl (rmv _ _ _ _ _ _ _) ⟨upd f 56 _, lA, hA, lB, hB, g7, g8, g9, hs.put (by decide) _, hcl', ?_⟩
   exact ⟨H.bel,
    fun h => by rw [upd_ne _ _ (by decide)]; exact H.q0 (by simpa using h),
    fun h => by rw [upd_ne _ _ (by decide)]; exact H.q1 (by simpa using h),
    fun _ => (upd_at _ _ _).trans e1,
    fun h => by rw [upd_ne _ _ (by decide)]; exact H.q4 (by simpa using h),
    fun h => by rw [upd_ne _ _ (by decide)]; exact H.q5 (by simpa using h),
    fun h => by rw [upd_ne _ _ (by decide)]; exact H.q3 (by simpa using h),
    fun h => by rw [upd_ne _ _ (by decide)]; exact H.q6 (by simpa using h),
    fun h => by rw [upd_ne _ _ (by decide)]; exact H.p7 (by simpa using h),
    fun h => by rw [upd_ne _ _ (by decide)]; exact H.p8 (by simpa using h),
    fun h => by rw [upd_ne _ _ (by decide)]; exact H.p9 (by simpa using h),
    fun h h' => H.r7 (by simpa using h) (by simpa using h'),
    fun h h' => H.r8 (by simpa using h) (by simpa using h'),
    fun h h' => H.r9 (by simpa using h) (by simpa using h'),
    fun h h' => H.e78 (by simpa using h) (by simpa using h'),
    fun h h' => H.e79 (by simpa using h) (by simpa using h'),
    fun h h' => H.e89 (by simpa using h) (by simpa using h'),
    fun h h' => H.a37 (by simpa using h) (by simpa using h'),
    fun h h' => H.a38 (by simpa using h) (by simpa using h'),
    fun h h' => H.a39 (by simpa using h) (by simpa using h'),
    fun h h' => H.a67 (by simpa using h) (by simpa using h'),
    fun h h' => H.a68 (by simpa using h) (by simpa using h'),
    fun h h' => H.a69 (by simpa using h) (by simpa using h'),
    fun h => by simp [h10] at h,
    fun h => by simp [h11] at h,
    fun h => by simp [h12] at h⟩
  | 5, _ =>
   obtain rfl := Option.some.inj ho
   have n6 := hcl.no 6 rfl ⟨5, .data⟩ (by simp [ops9]) rfl hdi
   have h10 := hcl.no 10 rfl ⟨6, .chain⟩ (by simp [ops9]) rfl n6
   have h11 := hcl.no 11 rfl ⟨10, .chain⟩ (by simp [ops9]) rfl h10
   have h12 := hcl.no 12 rfl ⟨11, .chain⟩ (by simp [ops9]) rfl h11
   refine wpOp_run rfl rfl (rmv _ _ _ _ _ _ _) ⟨upd f 59 _, lA, hA, lB, hB, g7, g8, g9, hs.put (by decide) _, hcl', ?_⟩
   exact ⟨H.bel,
    fun h => by rw [upd_ne _ _ (by decide)]; exact H.q0 (by simpa using h),
    fun h => by rw [upd_ne _ _ (by decide)]; exact H.q1 (by simpa using h),
    fun h => by rw [upd_ne _ _ (by decide)]; exact H.q2 (by simpa using h),
    fun h => by rw [upd_ne _ _ (by decide)]; exact H.q4 (by simpa using h),
    fun _ => (upd_at _ _ _).trans e2,
    fun h => by rw [upd_ne _ _ (by decide)]; exact H.q3 (by simpa using h),
    fun h => by rw [upd_ne _ _ (by decide)]; exact H.q6 (by simpa using h),
    fun h => by rw [upd_ne _ _ (by decide)]; exact H.p7 (by simpa using h),
    fun h => by rw [upd_ne _ _ (by decide)]; exact H.p8 (by simpa using h),
    fun h => by rw [upd_ne _ _ (by decide)]; exact H.p9 (by simpa using h),
    fun h h' => H.r7 (by simpa using h) (by simpa using h'),
    fun h h' => H.r8 (by simpa using h) (by simpa using h'),
    fun h h' => H.r9 (by simpa using h) (by simpa using h'),
    fun h h' => H.e78 (by simpa using h) (by simpa using h'),
    fun h h' => H.e79 (by simpa using h) (by simpa using h'),
    fun h h' => H.e89 (by simpa using h) (by simpa using h'),
    fun h h' => H.a37 (by simpa using h) (by simpa using h'),
    fun h h' => H.a38 (by simpa using h) (by simpa using h'),
    fun h h' => H.a39 (by simpa using h) (by simpa using h'),
    fun h h' => H.a67 (by simpa using h) (by simpa using h'),
    fun h h' => H.a68 (by simpa using h) (by simpa using h'),
    fun h h' => H.a69 (by simpa using h) (by simpa using h'),
    fun h => by simp [h10] at h,
    fun h => by simp [h11] at h,
    fun h => by simp [h12] at h⟩
  | 7, _ =>
   obtain rfl := Option.some.inj ho
   have h10 := hcl.no 10 rfl ⟨7, .data⟩ (by simp [ops9]) rfl hdi
   have h11 := hcl.no 11 rfl ⟨10, .chain⟩ (by simp [ops9]) rfl h10
   have h12 := hcl.no 12 rfl ⟨11, .chain⟩ (by simp [ops9]) rfl h11
   refine wpOp_run rfl rfl (ral25 _ _ _ _ _ _) ⟨upd f 9 _, lA, hA, lB, hB, w.heap.size, g8, g9, hs.put (by decide) _, hcl', ?_⟩
   have hp7 : dn 7 = true -> g7 < w.heap.size := fun h => (H.p7 h).2.2
   have hp8 : dn 8 = true -> g8 < w.heap.size := fun h => (H.p8 h).2.2
   have hp9 : dn 9 = true -> g9 < w.heap.size := fun h => (H.p9 h).2.2
   have hAw : dn 3 = true -> hA <= w.heap.size := fun h => by obtain ⟨_, _, _, h, _⟩ := H.q3 h; exact h
   have hBw : dn 6 = true -> hB <= w.heap.size := fun h => by obtain ⟨_, _, _, h, _⟩ := H.q6 h; exact h
   have H := H.move hsw h10 h11 h12 (alloc_one w (.cells z25.toArray 25))
   exact ⟨H.bel,
    fun h => by rw [upd_ne _ _ (by decide)]; exact H.q0 (by simpa using h),
    fun h => by rw [upd_ne _ _ (by decide)]; exact H.q1 (by simpa using h),
    fun h => by rw [upd_ne _ _ (by decide)]; exact H.q2 (by simpa using h),
    fun h => by rw [upd_ne _ _ (by decide)]; exact H.q4 (by simpa using h),
    fun h => by rw [upd_ne _ _ (by decide)]; exact H.q5 (by simpa using h),
    fun h => by rw [upd_ne _ _ (by decide)]; exact H.q3 (by simpa using h),
    fun h => by rw [upd_ne _ _ (by decide)]; exact H.q6 (by simpa using h),
    fun _ => ⟨upd_at _ _ _, hsw, by rw [size_alloc]; omega⟩,
    fun h => by rw [upd_ne _ _ (by decide)]; exact H.p8 (by simpa using h),
    fun h => by rw [upd_ne _ _ (by decide)]; exact H.p9 (by simpa using h),
    fun _ _ => Row.new w 25 z25,
    fun h h' => H.r8 (by simpa using h) (by simpa using h'),
    fun h h' => H.r9 (by simpa using h) (by simpa using h'),
    fun _ h' e => by have := hp8 (by simpa using h'); omega,
    fun _ h' e => by have := hp9 (by simpa using h'); omega,
    fun h h' => H.e89 (by simpa using h) (by simpa using h'),
    fun h _ hin => by have := hAw (by simpa using h); have := hin.2; omega,
    fun h h' => H.a38 (by simpa using h) (by simpa using h'),
    fun h h' => H.a39 (by simpa using h) (by simpa using h'),
    fun h _ hin => by have := hBw (by simpa using h); have := hin.2; omega,
    fun h h' => H.a68 (by simpa using h) (by simpa using h'),
    fun h h' => H.a69 (by simpa using h) (by simpa using h'),
    fun h => by simp [h10] at h,
    fun h => by simp [h11] at h,
    fun h => by simp [h12] at h⟩
  | 8, _ =>
   obtain rfl := Option.some.inj ho
   have h10 := hcl.no 10 rfl ⟨8, .phase⟩ (by simp [ops9]) rfl hdi
   have h11 := hcl.no 11 rfl ⟨10, .chain⟩ (by simp [ops9]) rfl h10
   have h12 := hcl.no 12 rfl ⟨11, .chain⟩ (by simp [ops9]) rfl h11
   refine wpOp_run rfl rfl (ral25 _ _ _ _ _ _) ⟨upd f 10 _, lA, hA, lB, hB, g7, w.heap.size, g9, hs.put (by decide) _, hcl', ?_⟩
   have hp7 : dn 7 = true -> g7 < w.heap.size := fun h => (H.p7 h).2.2
   have hp8 : dn 8 = true -> g8 < w.heap.size := fun h => (H.p8 h).2.2
   have hp9 : dn 9 = true -> g9 < w.heap.size := fun h => (H.p9 h).2.2
   have hAw : dn 3 = true -> hA <= w.heap.size := fun h => by obtain ⟨_, _, _, h, _⟩ := H.q3 h; exact h
   have hBw : dn 6 = true -> hB <= w.heap.size := fun h => by obtain ⟨_, _, _, h, _⟩ := H.q6 h; exact h
   have H := H.move hsw h10 h11 h12 (alloc_one w (.cells z25.toArray 25))
   exact ⟨H.bel,
    fun h => by rw [upd_ne _ _ (by decide)]; exact H.q0 (by simpa using h),
    fun h => by rw [upd_ne _ _ (by decide)]; exact H.q1 (by simpa using h),
    fun h => by rw [upd_ne _ _ (by decide)]; exact H.q2 (by simpa using h),
    fun h => by rw [upd_ne _ _ (by decide)]; exact H.q4 (by simpa using h),
    fun h => by rw [upd_ne _ _ (by decide)]; exact H.q5 (by simpa using h),
    fun h => by rw [upd_ne _ _ (by decide)]; exact H.q3 (by simpa using h),
    fun h => by rw [upd_ne _ _ (by decide)]; exact H.q6 (by simpa using h),
    fun h => by rw [upd_ne _ _ (by decide)]; exact H.p7 (by simpa using h),
    fun _ => ⟨upd_at _ _ _, hsw, by rw [size_alloc]; omega⟩,
    fun h => by rw [upd_ne _ _ (by decide)]; exact H.p9 (by simpa using h),
    fun h h' => H.r7 (by simpa using h) (by simpa using h'),
    fun _ _ => Row.new w 25 z25,
    fun h h' => H.r9 (by simpa using h) (by simpa using h'),
    fun h _ e => by have := hp7 (by simpa using h); omega,
    fun h h' => H.e79 (by simpa using h) (by simpa using h'),
    fun _ h' e => by have := hp9 (by simpa using h'); omega,
    fun h h' => H.a37 (by simpa using h) (by simpa using h'),
    fun h _ hin => by have := hAw (by simpa using h); have := hin.2; omega,
    fun h h' => H.a39 (by simpa using h) (by simpa using h'),
    fun h h' => H.a67 (by simpa using h) (by simpa using h'),
    fun h _ hin => by have := hBw (by simpa using h); have := hin.2; omega,
    fun h h' => H.a69 (by simpa using h) (by simpa using h'),
    fun h => by simp [h10] at h,
    fun h => by simp [h11] at h,
    fun h => by simp [h12] at h⟩
  | 9, _ =>
   obtain rfl := Option.some.inj ho
   have h10 := hcl.no 10 rfl ⟨9, .phase⟩ (by simp [ops9]) rfl hdi
   have h11 := hcl.no 11 rfl ⟨10, .chain⟩ (by simp [ops9]) rfl h10
   have h12 := hcl.no 12 rfl ⟨11, .chain⟩ (by simp [ops9]) rfl h11
   refine wpOp_run rfl rfl (ral25 _ _ _ _ _ _) ⟨upd f 11 _, lA, hA, lB, hB, g7, g8, w.heap.size, hs.put (by decide) _, hcl', ?_⟩
   have hp7 : dn 7 = true -> g7 < w.heap.size := fun h => (H.p7 h).2.2
   have hp8 : dn 8 = true -> g8 < w.heap.size := fun h => (H.p8 h).2.2
   have hp9 : dn 9 = true -> g9 < w.heap.size := fun h => (H.p9 h).2.2
   have hAw : dn 3 = true -> hA <= w.heap.size := fun h => by obtain ⟨_, _, _, h, _⟩ := H.q3 h; exact h
   have hBw : dn 6 = true -> hB <= w.heap.size := fun h => by obtain ⟨_, _, _, h, _⟩ := H.q6 h; exact h
   have H := H.move hsw h10 h11 h12 (alloc_one w (.cells z25.toArray 25))
   exact ⟨H.bel,
    fun h => by rw [upd_ne _ _ (by decide)]; exact H.q0 (by simpa using h),
    fun h => by rw [upd_ne _ _ (by decide)]; exact H.q1 (by simpa using h),
    fun h => by rw [upd_ne _ _ (by decide)]; exact H.q2 (by simpa using h),
    fun h => by rw [upd_ne _ _ (by decide)]; exact H.q4 (by simpa using h),
    fun h => by rw [upd_ne _ _ (by decide)]; exact H.q5 (by simpa using h),
    fun h => by rw [upd_ne _ _ (by decide)]; exact H.q3 (by simpa using h),
    fun h => by rw [upd_ne _ _ (by decide)]; exact H.q6 (by simpa using h),
    fun h => by rw [upd_ne _ _ (by decide)]; exact H.p7 (by simpa using h),
    fun h => by rw [upd_ne _ _ (by decide)]; exact H.p8 (by simpa using h),
    fun _ => ⟨upd_at _ _ _, hsw, by rw [size_alloc]; omega⟩,
    fun h h' => H.r7 (by simpa using h) (by simpa using h'),
    fun h h' => H.r8 (by simpa using h) (by simpa using h'),
    fun _ _ => Row.new w 25 z25,
    fun h h' => H.e78 (by simpa using h) (by simpa using h'),
    fun h _ e => by have := hp7 (by simpa using h); omega,
    fun h _ e => by have := hp8 (by simpa using h); omega,
    fun h h' => H.a37 (by simpa using h) (by simpa using h'),
    fun h h' => H.a38 (by simpa using h) (by simpa using h'),
    fun h _ hin => by have := hAw (by simpa using h); have := hin.2; omega,
    fun h h' => H.a67 (by simpa using h) (by simpa using h'),
    fun h h' => H.a68 (by simpa using h) (by simpa using h'),
    fun h _ hin => by have := hBw (by simpa using h); have := hin.2; omega,
    fun h => by simp [h10] at h,
    fun h => by simp [h11] at h,
    fun h => by simp [h12] at h⟩
  | 3, _ =>
   obtain rfl := Option.some.inj ho
   have n6 := hcl.no 6 rfl ⟨3, .chain⟩ (by simp [ops9]) rfl hdi
   have h10 := hcl.no 10 rfl ⟨6, .chain⟩ (by simp [ops9]) rfl n6
   have h11 := hcl.no 11 rfl ⟨10, .chain⟩ (by simp [ops9]) rfl h10
   have h12 := hcl.no 12 rfl ⟨11, .chain⟩ (by simp [ops9]) rfl h11
   have hv := H.q1 (hed ⟨1, .data⟩ (by simp [ops9]) rfl)
   have hu := H.q2 (hed ⟨2, .data⟩ (by simp [ops9]) rfl)
   have ev : a.eval (.tmp 55) = .agg [x0, x1, x2, x3].toArray := (hs.at_ (by decide)).trans hv
   have eu : a.eval (.tmp 56) = vm := (hs.at_ (by decide)).trans hu
   refine wpOp_call rfl rfl (rcl20 _ 55 56 _ _ ev eu _ _ _ _ _) ?_
   refine (xsubst20 (K := K) n (ht.below (below_le H.bel hC)) hf (hm.mono (below_le H.bel hC) fun _ _ _ h => h) (Nat.le_trans hC hsw)).mono ?_
   rintro _ w1 ⟨c, rfl, hb1, hq1⟩
   refine ⟨_, rfl, upd f 57 _, w.heap.size, w1.heap.size, lB, hB, g7, g8, g9, hs.put (by decide) _, hcl', ?_⟩
   have hp7 : dn 7 = true -> g7 < w.heap.size := fun h => (H.p7 h).2.2
   have hp8 : dn 8 = true -> g8 < w.heap.size := fun h => (H.p8 h).2.2
   have hp9 : dn 9 = true -> g9 < w.heap.size := fun h => (H.p9 h).2.2
   have H := H.move hsw h10 h11 h12 hb1
   exact ⟨H.bel,
    fun h => by rw [upd_ne _ _ (by decide)]; exact H.q0 (by simpa using h),
    fun h => by rw [upd_ne _ _ (by decide)]; exact H.q1 (by simpa using h),
    fun h => by rw [upd_ne _ _ (by decide)]; exact H.q2 (by simpa using h),
    fun h => by rw [upd_ne _ _ (by decide)]; exact H.q4 (by simpa using h),
    fun h => by rw [upd_ne _ _ (by decide)]; exact H.q5 (by simpa using h),
    fun _ => ⟨c, upd_at _ _ _, hsw, Nat.le_refl _, hq1⟩,
    fun h => by rw [upd_ne _ _ (by decide)]; exact H.q6 (by simpa using h),
    fun h => by rw [upd_ne _ _ (by decide)]; exact H.p7 (by simpa using h),
    fun h => by rw [upd_ne _ _ (by decide)]; exact H.p8 (by simpa using h),
    fun h => by rw [upd_ne _ _ (by decide)]; exact H.p9 (by simpa using h),
    fun h h' => H.r7 (by simpa using h) (by simpa using h'),
    fun h h' => H.r8 (by simpa using h) (by simpa using h'),
    fun h h' => H.r9 (by simpa using h) (by simpa using h'),
    fun h h' => H.e78 (by simpa using h) (by simpa using h'),
    fun h h' => H.e79 (by simpa using h) (by simpa using h'),
    fun h h' => H.e89 (by simpa using h) (by simpa using h'),
    fun _ h hin => by have := hp7 (by simpa using h); have := hin.1; omega,
    fun _ h hin => by have := hp8 (by simpa using h); have := hin.1; omega,
    fun _ h hin => by have := hp9 (by simpa using h); have := hin.1; omega,
    fun h h' => H.a67 (by simpa using h) (by simpa using h'),
    fun h h' => H.a68 (by simpa using h) (by simpa using h'),
    fun h h' => H.a69 (by simpa using h) (by simpa using h'),
    fun h => by simp [h10] at h,
    fun h => by simp [h11] at h,
    fun h => by simp [h12] at h⟩
  | 6, _ =>
   obtain rfl := Option.some.inj ho
   have h10 := hcl.no 10 rfl ⟨6, .chain⟩ (by simp [ops9]) rfl hdi
   have h11 := hcl.no 11 rfl ⟨10, .chain⟩ (by simp [ops9]) rfl h10
   have h12 := hcl.no 12 rfl ⟨11, .chain⟩ (by simp [ops9]) rfl h11
   have hv := H.q4 (hed ⟨4, .data⟩ (by simp [ops9]) rfl)
   have hu := H.q5 (hed ⟨5, .data⟩ (by simp [ops9]) rfl)
   have ev : a.eval (.tmp 58) = .agg [x0, x1, x2, x3].toArray := (hs.at_ (by decide)).trans hv
   have eu : a.eval (.tmp 59) = vn := (hs.at_ (by decide)).trans hu
   refine wpOp_call rfl rfl (rcl20 _ 58 59 _ _ ev eu _ _ _ _ _) ?_
   refine (xsubst20 (K := K) n (ht.below (below_le H.bel hC)) hf (hl.mono (below_le H.bel hC) fun _ _ _ h => h) (Nat.le_trans hC hsw)).mono ?_
   rintro _ w1 ⟨c, rfl, hb1, hq1⟩
   refine ⟨_, rfl, upd f 60 _, lA, hA, w.heap.size, w1.heap.size, g7, g8, g9, hs.put (by decide) _, hcl', ?_⟩
   have hp7 : dn 7 = true -> g7 < w.heap.size := fun h => (H.p7 h).2.2
   have hp8 : dn 8 = true -> g8 < w.heap.size := fun h => (H.p8 h).2.2
   have hp9 : dn 9 = true -> g9 < w.heap.size := fun h => (H.p9 h).2.2
   have H := H.move hsw h10 h11 h12 hb1
   exact ⟨H.bel,
    fun h => by rw [upd_ne _ _ (by decide)]; exact H.q0 (by simpa using h),
    fun h => by rw [upd_ne _ _ (by decide)]; exact H.q1 (by simpa using h),
    fun h => by rw [upd_ne _ _ (by decide)]; exact H.q2 (by simpa using h),
    fun h => by rw [upd_ne _ _ (by decide)]; exact H.q4 (by simpa using h),
    fun h => by rw [upd_ne _ _ (by decide)]; exact H.q5 (by simpa using h),
    fun h => by rw [upd_ne _ _ (by decide)]; exact H.q3 (by simpa using h),
    fun _ => ⟨c, upd_at _ _ _, hsw, Nat.le_refl _, hq1⟩,
    fun h => by rw [upd_ne _ _ (by decide)]; exact H.p7 (by simpa using h),
    fun h => by rw [upd_ne _ _ (by decide)]; exact H.p8 (by simpa using h),
    fun h => by rw [upd_ne _ _ (by decide)]; exact H.p9 (by simpa using h),
    fun h h' => H.r7 (by simpa using h) (by simpa using h'),
    fun h h' => H.r8 (by simpa using h) (by simpa using h'),
    fun h h' => H.r9 (by simpa using h) (by simpa using h'),
    fun h h' => H.e78 (by simpa using h) (by simpa using h'),
    fun h h' => H.e79 (by simpa using h) (by simpa using h'),
    fun h h' => H.e89 (by simpa using h) (by simpa using h'),
    fun h h' => H.a37 (by simpa using h) (by simpa using h'),
    fun h h' => H.a38 (by simpa using h) (by simpa using h'),
    fun h h' => H.a39 (by simpa using h) (by simpa using h'),
    fun _ h hin => by have := hp7 (by simpa using h); have := hin.1; omega,
    fun _ h hin => by have := hp8 (by simpa using h); have := hin.1; omega,
    fun _ h hin => by have := hp9 (by simpa using h); have := hin.1; omega,
    fun h => by simp [h10] at h,
    fun h => by simp [h11] at h,
    fun h => by simp [h12] at h⟩
  | 10, _ =>
   obtain rfl := Option.some.inj ho
   have d7 := hed ⟨7, .data⟩ (by simp [ops9]) rfl
   have d0 := hed ⟨0, .data⟩ (by simp [ops9]) rfl
   have d6 := hed ⟨6, .chain⟩ (by simp [ops9]) rfl
   have d8 := hed ⟨8, .phase⟩ (by simp [ops9]) rfl
   have d9 := hed ⟨9, .phase⟩ (by simp [ops9]) rfl
   have d3 := hcl 6 _ rfl d6 ⟨3, .chain⟩ (by simp [ops9]) rfl
   have h11 := hcl.no 11 rfl ⟨10, .chain⟩ (by simp [ops9]) rfl hdi
   have h12 := hcl.no 12 rfl ⟨11, .chain⟩ (by simp [ops9]) rfl h11
   obtain ⟨cA, eA, lA1, hA1, qA⟩ := H.q3 d3
   obtain ⟨cB, eB, lB1, hB1, qB⟩ := H.q6 d6
   have P7 := H.p7 d7
   have P8 := H.p8 d8
   have P9 := H.p9 d9
   have eg : a.eval (.tmp 9) = .pointer (some ⟨g7, 0, none⟩) := (hs.at_ (by decide)).trans P7.1
   have es : a.eval (.tmp 54) = .agg ([x0, x1, x2, x3]).toArray := (hs.at_ (by decide)).trans (H.q0 d0)
   refine wpOp_wp rfl rfl (wpo_stR 25 (.tmp 9) (.tmp 54) rfl (cs := [x0, x1, x2, x3]) eg es (H.r7 d7 hdi) Tryz.sz25 rfl ht.ones ?_)
   intro w1 R1 hst
   refine ⟨f, lA, hA, lB, hB, g7, g8, g9, hs.none _, hcl', ?_⟩
   have n78 := H.e78 d7 d8
   have n79 := H.e79 d7 d9
   have n89 := H.e89 d8 d9
   exact ⟨H.bel.trans (hst.below hsw (fun k hk => by have : k = g7 := hk; have := P7.2.1; omega)),
    fun h => H.q0 (by simpa using h),
    fun h => H.q1 (by simpa using h),
    fun h => H.q2 (by simpa using h),
    fun h => H.q4 (by simpa using h),
    fun h => H.q5 (by simpa using h),
    fun _ => ⟨cA, eA, lA1, Nat.le_trans hA1 hst.size, qA.mono (kp_st hst hA1 (H.a37 d3 d7))⟩,
    fun _ => ⟨cB, eB, lB1, Nat.le_trans hB1 hst.size, qB.mono (kp_st hst hB1 (H.a67 d6 d7))⟩,
    fun _ => ⟨P7.1, P7.2.1, Nat.lt_of_lt_of_le P7.2.2 hst.size⟩,
    fun _ => ⟨P8.1, P8.2.1, Nat.lt_of_lt_of_le P8.2.2 hst.size⟩,
    fun _ => ⟨P9.1, P9.2.1, Nat.lt_of_lt_of_le P9.2.2 hst.size⟩,
    fun _ h => by simp at h,
    fun _ _ => hst.row (H.r8 d8 h11) (fun e => n78 e.symm),
    fun _ _ => hst.row (H.r9 d9 h12) (fun e => n79 e.symm),
    fun h h' => H.e78 (by simpa using h) (by simpa using h'),
    fun h h' => H.e79 (by simpa using h) (by simpa using h'),
    fun h h' => H.e89 (by simpa using h) (by simpa using h'),
    fun h h' => H.a37 (by simpa using h) (by simpa using h'),
    fun h h' => H.a38 (by simpa using h) (by simpa using h'),
    fun h h' => H.a39 (by simpa using h) (by simpa using h'),
    fun h h' => H.a67 (by simpa using h) (by simpa using h'),
    fun h h' => H.a68 (by simpa using h) (by simpa using h'),
    fun h h' => H.a69 (by simpa using h) (by simpa using h'),
    fun _ => R1,
    fun h => by simp [h11] at h,
    fun h => by simp [h12] at h⟩
  | 11, _ =>
   obtain rfl := Option.some.inj ho
   have d8 := hed ⟨8, .data⟩ (by simp [ops9]) rfl
   have d3 := hed ⟨3, .data⟩ (by simp [ops9]) rfl
   have d10 := hed ⟨10, .chain⟩ (by simp [ops9]) rfl
   have d0 := hed ⟨0, .phase⟩ (by simp [ops9]) rfl
   have d7 := hed ⟨7, .phase⟩ (by simp [ops9]) rfl
   have d9 := hed ⟨9, .phase⟩ (by simp [ops9]) rfl
   have d6 := hcl 10 _ rfl d10 ⟨6, .chain⟩ (by simp [ops9]) rfl
   have h12 := hcl.no 12 rfl ⟨11, .chain⟩ (by simp [ops9]) rfl hdi
   obtain ⟨cA, eA, lA1, hA1, qA⟩ := H.q3 d3
   obtain ⟨cB, eB, lB1, hB1, qB⟩ := H.q6 d6
   have P7 := H.p7 d7
   have P8 := H.p8 d8
   have P9 := H.p9 d9
   have eg : a.eval (.tmp 10) = .pointer (some ⟨g8, 0, none⟩) := (hs.at_ (by decide)).trans P8.1
   have es : a.eval (.tmp 57) = .agg (cA).toArray := (hs.at_ (by decide)).trans (eA)
   refine wpOp_wp rfl rfl (wpo_stR 25 (.tmp 10) (.tmp 57) rfl (cs := cA) eg es (H.r8 d8 hdi) (by rw [qA.len]; exact Tryz.sz25) qA.len.symm qA.ones ?_)
   intro w1 R1 hst
   refine ⟨f, lA, hA, lB, hB, g7, g8, g9, hs.none _, hcl', ?_⟩
   have n78 := H.e78 d7 d8
   have n79 := H.e79 d7 d9
   have n89 := H.e89 d8 d9
   exact ⟨H.bel.trans (hst.below hsw (fun k hk => by have : k = g8 := hk; have := P8.2.1; omega)),
    fun h => H.q0 (by simpa using h),
    fun h => H.q1 (by simpa using h),
    fun h => H.q2 (by simpa using h),
    fun h => H.q4 (by simpa using h),
    fun h => H.q5 (by simpa using h),
    fun _ => ⟨cA, eA, lA1, Nat.le_trans hA1 hst.size, qA.mono (kp_st hst hA1 (H.a38 d3 d8))⟩,
    fun _ => ⟨cB, eB, lB1, Nat.le_trans hB1 hst.size, qB.mono (kp_st hst hB1 (H.a68 d6 d8))⟩,
    fun _ => ⟨P7.1, P7.2.1, Nat.lt_of_lt_of_le P7.2.2 hst.size⟩,
    fun _ => ⟨P8.1, P8.2.1, Nat.lt_of_lt_of_le P8.2.2 hst.size⟩,
    fun _ => ⟨P9.1, P9.2.1, Nat.lt_of_lt_of_le P9.2.2 hst.size⟩,
    fun _ h => by simp [d10] at h,
    fun _ h => by simp at h,
    fun _ _ => hst.row (H.r9 d9 h12) (fun e => n89 e.symm),
    fun h h' => H.e78 (by simpa using h) (by simpa using h'),
    fun h h' => H.e79 (by simpa using h) (by simpa using h'),
    fun h h' => H.e89 (by simpa using h) (by simpa using h'),
    fun h h' => H.a37 (by simpa using h) (by simpa using h'),
    fun h h' => H.a38 (by simpa using h) (by simpa using h'),
    fun h h' => H.a39 (by simpa using h) (by simpa using h'),
    fun h h' => H.a67 (by simpa using h) (by simpa using h'),
    fun h h' => H.a68 (by simpa using h) (by simpa using h'),
    fun h h' => H.a69 (by simpa using h) (by simpa using h'),
    fun _ => hst.row (H.s10 d10) n78,
    fun _ => ⟨cA, eA, R1⟩,
    fun h => by simp [h12] at h⟩
  | 12, _ =>
   obtain rfl := Option.some.inj ho
   have d9 := hed ⟨9, .data⟩ (by simp [ops9]) rfl
   have d6 := hed ⟨6, .data⟩ (by simp [ops9]) rfl
   have d11 := hed ⟨11, .chain⟩ (by simp [ops9]) rfl
   have d0 := hed ⟨0, .phase⟩ (by simp [ops9]) rfl
   have d3 := hed ⟨3, .phase⟩ (by simp [ops9]) rfl
   have d7 := hed ⟨7, .phase⟩ (by simp [ops9]) rfl
   have d8 := hed ⟨8, .phase⟩ (by simp [ops9]) rfl
   have d10 := hed ⟨10, .phase⟩ (by simp [ops9]) rfl
   obtain ⟨cA, eA, lA1, hA1, qA⟩ := H.q3 d3
   obtain ⟨cB, eB, lB1, hB1, qB⟩ := H.q6 d6
   have P7 := H.p7 d7
   have P8 := H.p8 d8
   have P9 := H.p9 d9
   have eg : a.eval (.tmp 11) = .pointer (some ⟨g9, 0, none⟩) := (hs.at_ (by decide)).trans P9.1
   have es : a.eval (.tmp 60) = .agg (cB).toArray := (hs.at_ (by decide)).trans (eB)
   refine wpOp_wp rfl rfl (wpo_stR 25 (.tmp 11) (.tmp 60) rfl (cs := cB) eg es (H.r9 d9 hdi) (by rw [qB.len]; exact Tryz.sz25) qB.len.symm qB.ones ?_)
   intro w1 R1 hst
   refine ⟨f, lA, hA, lB, hB, g7, g8, g9, hs.none _, hcl', ?_⟩
   have n78 := H.e78 d7 d8
   have n79 := H.e79 d7 d9
   have n89 := H.e89 d8 d9
   exact ⟨H.bel.trans (hst.below hsw (fun k hk => by have : k = g9 := hk; have := P9.2.1; omega)),
    fun h => H.q0 (by simpa using h),
    fun h => H.q1 (by simpa using h),
    fun h => H.q2 (by simpa using h),
    fun h => H.q4 (by simpa using h),
    fun h => H.q5 (by simpa using h),
    fun _ => ⟨cA, eA, lA1, Nat.le_trans hA1 hst.size, qA.mono (kp_st hst hA1 (H.a39 d3 d9))⟩,
    fun _ => ⟨cB, eB, lB1, Nat.le_trans hB1 hst.size, qB.mono (kp_st hst hB1 (H.a69 d6 d9))⟩,
    fun _ => ⟨P7.1, P7.2.1, Nat.lt_of_lt_of_le P7.2.2 hst.size⟩,
    fun _ => ⟨P8.1, P8.2.1, Nat.lt_of_lt_of_le P8.2.2 hst.size⟩,
    fun _ => ⟨P9.1, P9.2.1, Nat.lt_of_lt_of_le P9.2.2 hst.size⟩,
    fun _ h => by simp [d10] at h,
    fun _ h => by simp [d11] at h,
    fun _ h => by simp at h,
    fun h h' => H.e78 (by simpa using h) (by simpa using h'),
    fun h h' => H.e79 (by simpa using h) (by simpa using h'),
    fun h h' => H.e89 (by simpa using h) (by simpa using h'),
    fun h h' => H.a37 (by simpa using h) (by simpa using h'),
    fun h h' => H.a38 (by simpa using h) (by simpa using h'),
    fun h h' => H.a39 (by simpa using h) (by simpa using h'),
    fun h h' => H.a67 (by simpa using h) (by simpa using h'),
    fun h h' => H.a68 (by simpa using h) (by simpa using h'),
    fun h h' => H.a69 (by simpa using h) (by simpa using h'),
    fun _ => hst.row (H.s10 d10) n79,
    fun _ => by obtain ⟨c, e, r⟩ := H.s11 d11; exact ⟨c, e, hst.row r n89⟩,
    fun _ => ⟨cB, eB, R1⟩⟩
 ·rintro a w ⟨f, lA, hA, lB, hB, g7, g8, g9, hs, hcl, H⟩
  obtain ⟨cA, eA, lA1, hA1, qA⟩ := H.q3 rfl
  obtain ⟨cB, eB, lB1, hB1, qB⟩ := H.q6 rfl
  obtain ⟨c1, e1, R8⟩ := H.s11 rfl
  obtain ⟨c2, e2, R9⟩ := H.s12 rfl
  rw [eA] at e1
  rw [eB] at e2
  have E1 : cA = c1 := by simpa using e1
  have E2 : cB = c2 := by simpa using e2
  subst E1 E2
  rw [hs.eq]
  exact hQ f w g7 g8 g9 _ _ H.bel (H.p7 rfl).1 (H.p8 rfl).1 (H.p9 rfl).1 (H.s10 rfl) R8 R9 (qA.to (K := K.up w.heap.size) rfl fun b hb => Nat.lt_of_lt_of_le hb.2 hA1) (qB.to (K := K.up w.heap.size) rfl fun b hb => Nat.lt_of_lt_of_le hb.2 hB1)
end Go.Proofs.YtldbbkheemnnhaaGreatDoor

namespace Go.Proofs.YtldbbkheemnnhaaGreatDoor
open Go.RowKit
theorem dec_app {l : List Int} {a q : Int} : decide (q ∈ l ++ [a]) = (decide (q ∈ l) || (a == q)) := by
 rw [Bool.eq_iff_iff]
 simp only [decide_eq_true_eq, List.mem_append, List.mem_singleton, Bool.or_eq_true, beq_iff_eq]
 constructor
 ·rintro (h | h)
  ·exact .inl h
  ·exact .inr h.symm
 ·rintro (h | h)
  ·exact .inl h
  ·exact .inr h.symm
set_option maxHeartbeats 32000000 in
set_option maxRecDepth 20000 in
theorem follows35 {K : Ctx} {w : World} {vl : Value} {l : List (Int × Int)} {p0 p1 : Int} (hl : Prs K w vl l) (hC : K.C <= w.heap.size) (hn : l.length <= 40000) (hch : p0 = p1 ∨ ∃ r, (p0, r) ∈ l /\ (r, p1) ∈ l) :
  Calls Tryz.prog 35 #[vl, .agg #[.int .i64 p0, .int .i64 p1]] w fun ev w' => ev = .returned (.bool true) /\ Below w.heap.size w w' := by
 obtain ⟨al, pl, rfl⟩ := Ar.form hl
 have AL := hidP (fun i hi => prs_cell hl i hi)
 have HC := hidP hC
 have HN := hidP hn
 have HCH := hidP hch
 have HA := hidP (alloc_one w (.cells #[.int .i64 p0, .int .i64 p1] 32))
 have R0 := hidP (Row.new w 32 [.int .i64 p0, .int .i64 p1])
 have HZ := hidP (size_alloc w (.cells #[.int .i64 p0, .int .i64 p1] 32))
 have y0 := R0.out.cell 0
 have y1 := R0.out.cell 1
 simp only [List.getElem?_cons_zero, List.getElem?_cons_succ] at y0 y1
 clear hl hC hn hch
 generalize hnl : l.length = nl at *
 have HNL := hidP hnl
 clear hnl
 go_enter Tryz.func35, Tryz.ntmps35
 go_wp2_with (first | (refine bsliceU rfl 22 3 1 8 _ (.int .i64 p0) (.tmp 11) rfl Tryz.underlying22 Tryz.info3I (by decide) (by decide) rfl [.int .i64 p0] rfl rfl rfl ?_; intro w1 hR1 hB1 hz1; apply shut))
 show wpList _ _ _ _ _ _
 have OW := hidP (own_one3 (B := w.heap.size + 1) hR1 (by rw [HZ.out]; exact Nat.le_refl _))
 have R1 := hidP (R0.out.below hB1 R0.out.lt)
 have B1 := hidP (HA.out.trans (below_le hB1 HA.out.size))
 have HZ1 := hidP (show w.heap.size + 1 <= w1.heap.size by have := hB1.size; have := HZ.out; omega)
 clear hR1 hB1 hz1 R0 HA y0 y1
 rw [HZ.out] at OW
 go_wp2_with fail
 go_loopg [5, 6] (nl + 1) (fun q v5 v6 wr => ∃ (i : Nat) (got : List Int), i + q = nl + 1 /\ v6 = .int .i64 (i : Int) /\ wr.ownsRow (w.heap.size + 1) 3 1 v5 got.length (iv got) /\ Below (w.heap.size + 1) w1 wr /\ i <= got.length /\ Fol l p0 p1 got i)
 case atStart => exact ⟨0, [p0], by omega, rfl, OW.out, Below.refl _ _, Nat.zero_le _, Fol.start⟩
 case round =>
  obtain ⟨i, got, hi, rfl, ho, hb, hig, hf⟩ := hrel
  clear OW
  have HF := hidP hf
  have HB := hidP hb
  have HO := hidP ho
  have RB := hidP (R1.out.below hb (Nat.lt_succ_self _))
  have hgl : got.length <= nl + 1 := by have := hf.bound; have := HNL.out; omega
  obtain ⟨ag, pg, rfl⟩ := own_slice ho
  clear hf hb ho
  by_cases hlt : i < got.length
  ·obtain ⟨g, p, eg, hg⟩ := own_some HO.out (by omega)
   cases eg
   have c0 := own_cell HO.out hlt
   have y1 := RB.out.cell 1
   simp only [List.getElem?_cons_zero, List.getElem?_cons_succ] at y1
   generalize hx : got.getD i 0 = x at *
   have HX := hidP hx
   generalize hng : got.length = ng at *
   have HNG := hidP hng
   have l1 : (i : Int) < (ng : Int) := by omega
   have hnl4 : nl <= 40000 := HN.out
   clear hx hng hg
   have FIN := hidP (fun (y : World) (h : Below (w.heap.size + 1) wr y) => B1.out.trans (below_le (HB.out.trans h) (Nat.le_succ _)))
   by_cases hxp : x = p1
   ·subst hxp
    go_wp2_with fail
    go_quiet (fail)
    go_wp2_with fail
    go_ret
    exact ⟨rfl, FIN.out _ ⟨rfl, rfl, rfl, Nat.le_refl _, fun _ _ => rfl⟩⟩
   ·have HXP := hidP hxp
    have hxp2 : (x == p1) = false := by simpa using hxp
    go_wp2_with fail
    go_quiet (fail)
    go_wp2_with fail
    clear hxp hxp2 y1 c0
    go_loopg [5, 7] nl (fun q v5 v7 wr2 => ∃ (k : Nat) (got2 : List Int), k + q = nl /\ v7 = .int .i64 (k : Int) /\ wr2.ownsRow (w.heap.size + 1) 3 1 v5 got2.length (iv got2) /\ Below (w.heap.size + 1) w1 wr2 /\ i < got2.length /\ got2.getD i 0 = x /\ Fol l p0 p1 got2 i /\ ∀ z, z < k -> (l.getD z (0, 0)).1 = x -> (l.getD z (0, 0)).2 ∈ got2)
    case atStart => exact ⟨0, got, by omega, rfl, by rw [HNG.out]; exact own_sameR HO.out (fun q eq => rfl), HB.out.trans ⟨rfl, rfl, rfl, Nat.le_refl _, fun _ _ => rfl⟩, by rw [HNG.out]; exact hlt, HX.out, HF.out, fun z h => absurd h (Nat.not_lt_zero z)⟩
    case round =>
     obtain ⟨k, got2, hk, rfl, ho2, hb2, hi2, hx2, hf2, hc2⟩ := hrel
     clear HO RB HF HX HNG
     have HO2 := hidP ho2
     have HB2 := hidP hb2
     have HF2 := hidP hf2
     have HC2 := hidP hc2
     have HX2 := hidP hx2
     have RB2 := hidP (R1.out.below hb2 (Nat.lt_succ_self _))
     have BW2 := hidP (B1.out.trans (below_le hb2 (Nat.le_succ _)))
     have hgl2 : got2.length <= nl + 1 := by have := hf2.bound; have := HNL.out; omega
     obtain ⟨ag2, pg2, rfl⟩ := own_slice ho2
     obtain ⟨g2, p2, eg2, hg2⟩ := own_some ho2 (by omega)
     cases eg2
     have c0 := own_cell ho2 hi2
     rw [hx2] at c0
     clear hf2 hc2 hx2 ho2 hg2
     by_cases hlk : k < nl
     ·obtain ⟨b, o, rfl, hb, e1, e2⟩ := AL.out k hlk
      have d1 := (BW2.out.cell (p := ⟨b, o + k * 2, none⟩) (Nat.lt_of_lt_of_le hb HC.out)).trans e1
      have d2 := (BW2.out.cell (p := ⟨b, o + k * 2 + 1, none⟩) (Nat.lt_of_lt_of_le hb HC.out)).trans e2
      have HMEM := hidP (show l.getD k (0, 0) ∈ l by
       have hkl : k < l.length := by rw [HNL.out]; exact hlk
       rw [List.getD_eq_getElem?_getD, List.getElem?_eq_getElem hkl]
       exact List.getElem_mem hkl)
      rcases hq : l.getD k (0, 0) with ⟨q1, q2⟩
      have HQ := hidP hq
      rw [hq] at d1 d2 HMEM
      simp only at d1 d2
      have l2 : (k : Int) < (nl : Int) := by omega
      have HNXT := hidP (show ∀ (G : List Int), (∀ z, z < k -> (l.getD z (0, 0)).1 = x -> (l.getD z (0, 0)).2 ∈ G) -> (q1 = x -> q2 ∈ G) -> ∀ z, z < k + 1 -> (l.getD z (0, 0)).1 = x -> (l.getD z (0, 0)).2 ∈ G from fun G h1 h2 z hz he => by
       rcases Nat.lt_succ_iff_lt_or_eq.1 hz with h | rfl
       ·exact h1 z h he
       ·rw [HQ.out] at he ⊢; exact h2 he)
      clear e1 e2 hb hq
      generalize hn2 : got2.length = n2 at *
      have HN2 := hidP hn2
      clear hn2
      have l3 : (i : Int) < (n2 : Int) := by omega
      by_cases hqx : q1 = x
      ·subst hqx
       have hrf : (q1 == q1) = true := beq_self_eq_true q1
       go_wp2_with fail
       go_quiet (fail)
       go_wp2_with fail
       clear hrf c0 d1
       go_loopg [8, 9] n2 (fun q v8 v9 wr3 => ∃ (j : Nat), j + q = n2 /\ v9 = .int .i64 (j : Int) /\ v8 = .bool (decide (q2 ∈ got2.take j)) /\ Below wr.heap.size wr wr3)
       case atStart => exact ⟨0, by omega, rfl, by simp, ⟨rfl, rfl, rfl, Nat.le_refl _, fun _ _ => rfl⟩⟩
       case round =>
        obtain ⟨j, hj, rfl, rfl, hb3⟩ := hrel
        have HB3 := hidP hb3
        have O3 := hidP (own_sameR HO2.out (fun q eq => hb3.block q (HO2.out.lt q eq).2))
        have d2' := (hb3.cell (p := ⟨b, o + k * 2 + 1, none⟩) (World.block_lt_of_cell? _ _ d2)).trans d2
        clear hb3
        by_cases hlj : j < n2
        ·have hlj' : j < got2.length := by rw [HN2.out]; exact hlj
         have c3 := own_cell O3.out hlj'
         have HTK := hidP (show decide (q2 ∈ got2.take (j + 1)) = (decide (q2 ∈ got2.take j) || (got2.getD j 0 == q2)) by
          rw [List.take_succ_eq_append_getElem hlj', List.getD_eq_getElem?_getD, List.getElem?_eq_getElem hlj']
          exact dec_app)
         generalize got2.getD j 0 = y at *
         generalize decide (q2 ∈ got2.take j) = bq at *
         have l4 : (j : Int) < (n2 : Int) := by omega
         clear hlj'
         cases bq with
         | true =>
          have HT := hidP (HTK.out.trans (Bool.true_or _))
          go_wp2_with fail
          go_quiet (fail)
          go_wp2_with fail
          go_roundg (gk - 1)
          case measure => omega
          case rel => exact ⟨j + 1, by omega, by go_num, by rw [HT.out], HB3.out.trans ⟨rfl, rfl, rfl, Nat.le_refl _, fun _ _ => rfl⟩⟩
         | false =>
          have HT := hidP (HTK.out.trans (Bool.false_or _))
          by_cases hyq : y = q2
          ·subst hyq
           have HT2 := hidP (HT.out.trans (beq_self_eq_true y))
           go_wp2_with fail
           go_quiet (fail)
           go_wp2_with fail
           go_roundg (gk - 1)
           case measure => omega
           case rel => exact ⟨j + 1, by omega, by go_num, by rw [HT2.out], HB3.out.trans ⟨rfl, rfl, rfl, Nat.le_refl _, fun _ _ => rfl⟩⟩
          ·have hyf : (y == q2) = false := by simpa using hyq
           have HT2 := hidP (HT.out.trans hyf)
           go_wp2_with fail
           go_quiet (fail)
           go_wp2_with fail
           go_roundg (gk - 1)
           case measure => omega
           case rel => exact ⟨j + 1, by omega, by go_num, by rw [HT2.out], HB3.out.trans ⟨rfl, rfl, rfl, Nat.le_refl _, fun _ _ => rfl⟩⟩
        ·have hjn : got2.take j = got2 := List.take_of_length_le (by rw [HN2.out]; omega)
         rw [hjn]
         have B3 := hidP (HB2.out.trans (below_le HB3.out (by have := HZ1.out; have := HB2.out.size; omega)))
         clear hjn
         by_cases hin : q2 ∈ got2
         ·have HNX := hidP (HNXT.out got2 HC2.out (fun _ => hin))
          rw [decide_eq_true hin]
          clear hin
          go_wp2_with fail
          go_roundg (nl - (k + 1))
          case measure => omega
          case rel => exact ⟨k + 1, got2, by omega, by go_num, by rw [HN2.out]; exact O3.out, B3.out, by rw [HN2.out]; exact hi2, HX2.out, HF2.out, HNX.out⟩
         ·have HNX := hidP (HNXT.out (got2 ++ [q2]) (fun z hz he => List.mem_append_left _ (HC2.out z hz he)) (fun _ => List.mem_append_right _ (List.mem_singleton.2 rfl)))
          have HFN := hidP (HF2.out.app (by rw [HN2.out]; omega) hin ⟨_, HMEM.out, rfl⟩)
          rw [decide_eq_false hin]
          clear hin
          have Z3 := hidP (show w.heap.size + 1 <= wr.heap.size by have := HZ1.out; have := B3.out.size; omega)
          go_wp2_with (first | (refine bsliceU rfl 22 3 1 8 _ (.int .i64 q2) (.tmp 68) rfl Tryz.underlying22 Tryz.info3I (by decide) (by decide) rfl [.int .i64 q2] rfl rfl rfl ?_; intro w7 hR7 hB7 hz7; apply shut))
          show wpList _ _ _ _ _ _
          have O7 := hidP (own_sameR O3.out (fun q eq => hB7.block q (O3.out.lt q eq).2))
          have S7 := hidP (own_souZ (own_one3 (B := 0) hR7 (Nat.zero_le _)))
          have B7 := hidP (B3.out.trans (below_le hB7 Z3.out))
          have Z7 := hidP (Nat.le_trans Z3.out hB7.size)
          clear hR7 hB7 hz7 d2'
          go_wp2_with (first | (refine wpl_appS (bz := 8) rfl (.tmp 63) (.tmp 69) rfl Tryz.underlying22 Tryz.info3I rfl (by decide) rfl rfl O7.out Z7.out S7.out rfl (by intro u hu; simp [iv] at hu; rw [hu]; rfl) (by omega) (by decide) ?_; intro v9 w9 ho9 hb9 hf9; apply shut))
          show wpList _ _ _ _ _ _
          obtain ⟨a9, p9, rfl⟩ := hf9
          have O9 := hidP ho9
          have B9 := hidP (B7.out.trans hb9)
          clear ho9 hb9 O7 S7
          go_wp2_with fail
          go_roundg (nl - (k + 1))
          case measure => omega
          case rel => exact ⟨k + 1, got2 ++ [q2], by omega, by go_num, by rw [List.length_append, HN2.out, iv_app]; exact O9.out, B9.out, by rw [List.length_append, HN2.out]; omega, by rw [getD_app (by rw [HN2.out]; exact hi2)]; exact HX2.out, HFN.out, HNX.out⟩
      ·have HNX := hidP (HNXT.out got2 HC2.out (fun h => absurd h hqx))
       have hqf : (q1 == x) = false := by simpa using hqx
       go_wp2_with fail
       go_quiet (fail)
       go_wp2_with fail
       go_roundg (nl - (k + 1))
       case measure => omega
       case rel => exact ⟨k + 1, got2, by omega, by go_num, by rw [HN2.out]; exact own_sameR HO2.out (fun q eq => rfl), HB2.out.trans ⟨rfl, rfl, rfl, Nat.le_refl _, fun _ _ => rfl⟩, by rw [HN2.out]; exact hi2, HX2.out, HF2.out, HNX.out⟩
     ·have HCL := hidP (show ∀ q ∈ l, q.1 = got2.getD i 0 -> q.2 ∈ got2 from fun q hq e => by
       obtain ⟨z, hz, rfl⟩ := List.getElem_of_mem hq
       have h1 := HC2.out z (by have := HNL.out; omega)
       rw [List.getD_eq_getElem?_getD, List.getElem?_eq_getElem hz] at h1
       rw [HX2.out] at e
       exact h1 e)
      have HFN := hidP (HF2.out.next (by rw [HX2.out]; exact HXP.out) HCL.out)
      clear c0
      go_wp2_with fail
      go_roundg (nl - i)
      case measure => omega
      case rel => exact ⟨i + 1, got2, by omega, by go_num, HO2.out, HB2.out, by omega, HFN.out⟩
  ·have e : i = got.length := by omega
   subst e
   exact (HF.out.done HCH.out).elim
end Go.Proofs.YtldbbkheemnnhaaGreatDoor

namespace Go.Proofs.YtldbbkheemnnhaaGreatDoor
open Go.RowKit
theorem regL_le2 : ∀ {k : Nat} {t : RTy}, Fit k t -> (regL k t).length <= 70 + k
 | 0, _, h => h.elim
 | k + 1, t, h => by
  rw [regL_succ, List.length_append]
  have := ownR_le h.1
  rcases hx : nxtR t with _ | e
  ·simp only [resL, List.length_nil]; omega
  ·have h1 := regL_le2 (h.2.2 e (nxtR_mem hx).1)
   have h2 := (nxtR_mem hx).2
   simp only [resL]; omega
theorem askL_le : ∀ {n : Nat} {both : Bool} {t u : RTy}, (askL n both t u).length <= 2 * (regL n t).length
 | 0, _, _, _ => by simp [askL]
 | n + 1, both, t, u => by
  rw [askL_succ, regL_succ, List.length_append, List.length_append]
  have h1 : (ownP both t u).length <= 2 * (ownR t).length := by
   unfold ownP
   split
   ·exact pairL_len
   ·split
    ·exact pairL_len
    ·exact Nat.zero_le _
  have h2 : (resA n (both || t.kind == 5) (nxtR t) (nxtR u)).length <= 2 * (resL n (nxtR t)).length := by
   cases nxtR t with
   | none => simp [resA]
   | some x =>
    cases nxtR u with
    | none => simp [resA]
    | some y => exact askL_le
  omega
theorem RtAt.heads {K : Ctx} {w : World} : ∀ {n : Nat} {cs : List Value} {t : RTy}, RtAt n K w cs t -> ∃ k s a2 l2 p2 a3 l3 p3, cs = [.int .i64 k, .string s, .slice a2 l2 p2, .slice a3 l3 p3]
 | 0, _, _, h => h.elim
 | n + 1, _, _, h => by
  obtain ⟨v2, v3, rfl, _, h2, h3⟩ := h
  obtain ⟨a2, p2, rfl⟩ := Ar.form h2
  obtain ⟨a3, p3, rfl⟩ := Ar.form h3
  exact ⟨_, _, _, _, _, _, _, _, rfl⟩
theorem askB {n : Nat} {both : Bool} {t u : RTy} (h : Fit n t) : (askL n both t u).length <= 2 * (70 + n) := by
 have h1 := askL_le (n := n) (both := both) (t := t) (u := u)
 have h2 := regL_le2 h
 omega
end Go.Proofs.YtldbbkheemnnhaaGreatDoor

namespace Go.Proofs.YtldbbkheemnnhaaGreatDoor
open Go.RowKit Go.Maps
theorem region_cut5 {P : Program} {c : Code} {Q : Exit -> Act -> World -> Prop} {a : Act} {w : World} {A : Value -> Value -> Value -> Value -> Value -> Act} {F : Value -> Value -> Value -> Value -> Value -> World -> Prop} (h : c.wp P (fun e a' w' => ∃ v1 v2 v3 v4 v5, e = .normal /\ a' = A v1 v2 v3 v4 v5 /\ F v1 v2 v3 v4 v5 w') a w) (k : ∀ v1 v2 v3 v4 v5 w', F v1 v2 v3 v4 v5 w' -> Q .normal (A v1 v2 v3 v4 v5) w') : c.wp P Q a w :=
 Code.wp_mono (by rintro e a' w' ⟨v1, v2, v3, v4, v5, rfl, rfl, hf⟩; exact k v1 v2 v3 v4 v5 w' hf) h
theorem own_emptyP {w : World} {B : Nat} (hB : B <= w.heap.size) : (w.alloc (.cells #[] 32)).ownsRow B 32 2 (.slice (some ⟨w.heap.size, 0, none⟩) 0 0) 0 [] :=
 ⟨rfl, .inr ⟨w.heap.size, 0, #[], rfl, hB, heap_alloc_new w _, Nat.le_refl _, Nat.zero_le _, rfl, rfl⟩⟩
set_option maxHeartbeats 64000000 in
set_option maxRecDepth 20000 in
theorem order_walk {K : Ctx} {w : World} {n : Nat} {cs : List Value} {t : RTy} {vm vn : Value} {m l : List Int} (hG : Glo w) (_hKB : 100 <= K.B) (hC : K.C <= w.heap.size) (ht : RtAt n K w cs t) (hm : Nms K w vm m) (hn : Nms K w vn l) :
  Calls Tryz.prog 7 #[.agg cs.toArray, vm, vn] w fun ev w' => ev = .returned (.bool true) /\ Below w.heap.size w w' := by
 obtain ⟨am, pm, rfl⟩ := Ar.form hm
 obtain ⟨an, pn, rfl⟩ := Ar.form hn
 obtain ⟨kt, st, y2, m2, r2, y3, m3, r3, rfl⟩ := ht.heads
 have HG := hidP hG
 have HC := hidP hC
 have HT := hidP (fun (y : World) (hy : Below w.heap.size w y) => ht.below (below_le hy hC))
 have HM := hidP (fun (y : World) (hy : Below w.heap.size w y) => show Nms K y (.slice am m.length pm) m from hm.mono (below_le hy hC) fun _ _ _ h => h)
 have HN := hidP (fun (y : World) (hy : Below w.heap.size w y) => show Nms K y (.slice an l.length pn) l from hn.mono (below_le hy hC) fun _ _ _ h => h)
 have HA := hidP (alloc_one w (.cells #[.int .i64 kt, .string st, .slice y2 m2 r2, .slice y3 m3 r3] 25))
 have R3 := hidP (Row.new w 25 [.int .i64 kt, .string st, .slice y2 m2 r2, .slice y3 m3 r3])
 have DP := hidP (deep10 20 (m := 20) (by decide) (by decide) (HT.out _ HA.out) (Nat.le_trans HC.out HA.out.size))
 clear ht hm hn hG hC
 generalize m.length = nm at *
 generalize l.length = nl at *
 go_enter Tryz.func7, Tryz.ntmps7
 go_wp2_with (first | (refine ldR rfl 25 (.tmp 3) rfl rfl R3.out Tryz.underlying25 rfl Tryz.sz25 ?_))
 refine DP.out.mono ?_
 rintro _ w2 ⟨rfl, hb2⟩
 have B2 := hidP (HA.out.trans (below_le hb2 HA.out.size))
 have R32 := hidP (R3.out.below hb2 R3.out.lt)
 have T2 := hidP (told12 (HG.out.below B2.out))
 clear DP HA R3 hb2
 rcases hdd : deepB 20 t with _ | _
 ·have HFT := hidP (deepB_fit hdd)
  clear hdd
  by_cases hm7 : 70 < nm
  ·have l1 : (70 : Int) < (nm : Int) := by omega
   clear hm7
   go_wp2_with fail
   refine T2.out.mono ?_
   rintro _ wT ⟨rfl, hbT⟩
   have BT := hidP (B2.out.trans (below_le hbT B2.out.size))
   clear T2 hbT
   go_wp2_with fail
   go_ret
   exact ⟨rfl, BT.out⟩
  ·have l1 : ¬ (70 : Int) < (nm : Int) := by omega
   clear hm7
   by_cases hn7 : 70 < nl
   ·have l2 : (70 : Int) < (nl : Int) := by omega
    clear hn7
    go_wp2_with fail
    refine T2.out.mono ?_
    rintro _ wT ⟨rfl, hbT⟩
    have BT := hidP (B2.out.trans (below_le hbT B2.out.size))
    clear T2 hbT
    go_wp2_with fail
    go_ret
    exact ⟨rfl, BT.out⟩
   ·have l2 : ¬ (70 : Int) < (nl : Int) := by omega
    have HRL := hidP (show (regL 20 t).length <= 90 from regL_le2 HFT.out)
    have RG := hidP (regions14 20 ((HT.out _ B2.out).fit HFT.out) (Nat.le_trans HC.out B2.out.size) (by have := HRL.out; omega))
    have z0 := R32.out.cell 0
    have z1 := R32.out.cell 1
    have z2 := R32.out.cell 2
    have z3 := R32.out.cell 3
    simp only [List.getElem?_cons_zero, List.getElem?_cons_succ] at z0 z1 z2 z3
    clear hn7 T2
    go_wp2_with fail
    refine RG.out.mono ?_
    rintro _ w3 ⟨v3, rfl, hb3, ho3⟩
    have B3 := hidP (B2.out.trans (below_le hb3 B2.out.size))
    have R33 := hidP (R32.out.below hb3 R32.out.lt)
    obtain ⟨a3, p3, rfl⟩ := own_slice ho3
    have T3 := hidP (told12 (HG.out.below B3.out))
    clear RG B2 R32 hb3 ho3 z0 z1 z2 z3
    generalize (regL 20 t).length = nr at *
    by_cases hr6 : 60 < nr
    ·have l3 : (60 : Int) < (nr : Int) := by omega
     clear hr6
     go_wp2_with fail
     refine T3.out.mono ?_
     rintro _ wT ⟨rfl, hbT⟩
     have BT := hidP (B3.out.trans (below_le hbT B3.out.size))
     clear T3 hbT
     go_wp2_with fail
     go_ret
     exact ⟨rfl, BT.out⟩
    ·have l3 : ¬ (60 : Int) < (nr : Int) := by omega
     clear hr6 T3
     have HBD := hidP (fun (b : Bool) (u : RTy) => askB (n := 20) (both := b) (t := t) (u := u) HFT.out)
     have SB := hidP (sub32 (n := 20) (n2 := 20) ((HT.out _ B3.out).fit HFT.out) ((HT.out _ B3.out).fit HFT.out) (Nat.le_trans HC.out B3.out.size) (fun _ => by have := HBD.out false t; omega))
     go_wp2_with (first | (refine ldR rfl 25 (.tmp 3) rfl rfl R33.out Tryz.underlying25 rfl Tryz.sz25 ?_))
     refine SB.out.mono ?_
     rintro _ w4 ⟨v4, rfl, hb4, ho4⟩
     have B4 := hidP (B3.out.trans (below_le hb4 B3.out.size))
     have R34 := hidP (R33.out.below hb4 R33.out.lt)
     have HSL := hidP (show ∀ u, (subL 20 t u).length <= 400 from fun u => by
      unfold subL
      split
      ·have := HBD.out false u; omega
      ·exact Nat.zero_le _)
     have P4 := hidP (own_prs (K := K.up w4.heap.size) ho4 (Nat.le_refl _) (by have := HSL.out t; omega))
     obtain ⟨a4, p4, rfl⟩ := own_slice ho4
     clear SB B3 R33 hb4 ho4
     generalize hnk : (subL 20 t t).length = nk at *
     have HNK := hidP hnk
     have hnk4 : nk <= 400 := by have := HSL.out t; omega
     clear hnk
     go_wp2_with fail
     go_loopg [8] nk (fun q v8 wr => ∃ i : Nat, i + q = nk /\ v8 = .int .i64 (i : Int) /\ Below w4.heap.size w4 wr)
     case atStart => exact ⟨0, by omega, rfl, Below.refl _ _⟩
     case round =>
      obtain ⟨i, hi, rfl, hb⟩ := hrel
      have HB := hidP hb
      by_cases hlt : i < nk
      ·obtain ⟨b, o, rfl, hbb, c1, c2⟩ := prs_cell P4.out i (by rw [HNK.out]; exact hlt)
       have d1 := (hb.cell (p := ⟨b, o + i * 2, none⟩) hbb).trans c1
       have d2 := (hb.cell (p := ⟨b, o + i * 2 + 1, none⟩) hbb).trans c2
       have hmem : (subL 20 t t).getD i (0, 0) ∈ subL 20 t t := by
        have h : i < (subL 20 t t).length := by rw [HNK.out]; exact hlt
        rw [List.getD_eq_getElem?_getD, List.getElem?_eq_getElem h]
        exact List.getElem_mem h
       have hsf := sub_self hmem
       rw [← hsf] at d2
       generalize ((subL 20 t t).getD i (0, 0)).1 = x at *
       have l4 : (i : Int) < (nk : Int) := by omega
       have hrf : (x == x) = true := beq_self_eq_true x
       clear c1 c2 hb hbb hmem hsf
       go_wp2_with fail
       go_quiet (fail)
       go_wp2_with fail
       go_roundg (gk - 1)
       case measure => omega
       case rel => exact ⟨i + 1, by omega, by go_num, HB.out.trans ⟨rfl, rfl, rfl, Nat.le_refl _, fun _ _ => rfl⟩⟩
      ·have hin : i = nk := by omega
       subst hin
       have R3r := hidP (R34.out.below hb R34.out.lt)
       have BR := hidP (B4.out.trans (below_le hb B4.out.size))
       clear hlt hi hb HB P4 R34 B4
       generalize wr = wS at *
       go_wp2_with fail
       refine reg9 (K := K) (t := t) (n := 20) (m := m) (l := l) (g3 := w.heap.size) rfl rfl rfl rfl R3r.out (Nat.le_trans HC.out BR.out.size) ((HT.out _ BR.out).fit HFT.out) HFT.out (HM.out _ BR.out) (HN.out _ BR.out) ?_
       intro f w5 g7 g8 g9 c e hb5 f9 f10 f11 hR7 hR8 hR9 hX hY
       have B5 := hidP (BR.out.trans (below_le hb5 BR.out.size))
       have R7 := hidP hR7
       have R8 := hidP hR8
       have R9 := hidP hR9
       have X := hidP hX
       have Y := hidP hY
       obtain ⟨c0, c1, c2, c3, rfl⟩ := hX.four
       obtain ⟨e0, e1, e2, e3, rfl⟩ := hY.four
       simp only [List.foldl_cons, List.foldl_nil, List.setIfInBounds_toArray, List.set_cons_succ, List.set_cons_zero, f9, f10, f11]
       generalize f 54 = u54
       generalize f 55 = u55
       generalize f 56 = u56
       generalize f 57 = u57
       generalize f 58 = u58
       generalize f 59 = u59
       generalize f 60 = u60
       have TX := hidP (show RtAt 20 (K.up w5.heap.size) w5 _ t from RtAt.up (show K.C <= w5.heap.size from Nat.le_trans HC.out B5.out.size) ((HT.out _ B5.out).fit HFT.out))
       have HS1 := hidP (show ∀ b : Bool, (askL 20 b t (subN 20 m t)).length <= 200 from fun b => by have := HBD.out b (subN 20 m t); omega)
       have HBM := hidP (fun (b : Bool) (u : RTy) => askB (n := 20) (both := b) (t := subN 20 m t) (u := u) (Fit.sub HFT.out))
       have HOR := hidP (fun (p : Int × Int) (h : p ∈ subL 20 t (subN 20 l t)) => order_two (m := m) (l := l) HFT.out h)
       clear hb5 f9 f10 f11 hR7 hR8 hR9 hX hY R3r BR HM HN HRL
       go_wp2_with fail
       have HL1 := hidP (show (subL 20 t (subN 20 m t)).length <= 400 from HSL.out _)
       have HL2 := hidP (show (subL 20 (subN 20 m t) (subN 20 l t)).length <= 400 from by
        unfold subL
        split
        ·have := HBM.out false (subN 20 l t); omega
        ·exact Nat.zero_le _)
       refine region_cut5 (A := ?_) (F := fun v1 v2 v3 v4 v5 w' => Below w5.heap.size w5 w' /\ w'.ownsRow w5.heap.size 32 2 v5 (subL 20 t (subN 20 m t) ++ subL 20 (subN 20 m t) (subN 20 l t)).length (pvs (subL 20 t (subN 20 m t) ++ subL 20 (subN 20 m t) (subN 20 l t)))) ?_ ?_
       rotate_left
       ·have hS0 : Row w5.drew g7 25 [.int .i64 kt, .string st, .slice y2 m2 r2, .slice y3 m3 r3] /\ Row w5.drew g8 25 [c0, c1, c2, c3] /\ Row w5.drew g9 25 [e0, e1, e2, e3] := ⟨R7.out.drew, R8.out.drew, R9.out.drew⟩
        have BX := hidP (show Below w5.heap.size w5 w5.drew from (Below.refl _ _).drew)
        refine beginL (fun y => Row y g7 25 [.int .i64 kt, .string st, .slice y2 m2 r2, .slice y3 m3 r3] /\ Row y g8 25 [c0, c1, c2, c3] /\ Row y g9 25 [e0, e1, e2, e3]) 10 (by kernel_rfl) hS0 (fun hSS => ?_)
        refine takeL 1 (v := ?_) rfl (some 62) rfl (by decide) (by kernel_rfl) (by kernel_rfl) (by kernel_rfl) (by kernel_rfl) (fun _ _ _ h => by obtain ⟨_, _, _, _, _, h, _⟩ := h; cases h) (Or.inl ⟨by rfl, ?_⟩) hSS ?_
        rotate_left
        ·(intro y hy; have j0 := hy.1.cell 0; have j1 := hy.1.cell 1; have j2 := hy.1.cell 2; have j3 := hy.1.cell 3; have q0 := hy.2.1.cell 0; have q1 := hy.2.1.cell 1; have q2 := hy.2.1.cell 2; have q3 := hy.2.1.cell 3; have s0 := hy.2.2.cell 0; have s1 := hy.2.2.cell 1; have s2 := hy.2.2.cell 2; have s3 := hy.2.2.cell 3; simp only [List.getElem?_cons_zero, List.getElem?_cons_succ] at j0 j1 j2 j3 q0 q1 q2 q3 s0 s1 s2 s3; go_simp; with_reducible rfl)
        try simp only [Act.put]
        try simp only [List.setIfInBounds_toArray]
        try simp only [List.set_cons_succ]
        try simp only [List.set_cons_zero]
        refine takeL 2 (v := ?_) rfl (some 63) rfl (by decide) (by kernel_rfl) (by kernel_rfl) (by kernel_rfl) (by kernel_rfl) (fun _ _ _ h => by obtain ⟨_, _, _, _, _, h, _⟩ := h; cases h) (Or.inl ⟨by rfl, ?_⟩) hSS ?_
        rotate_left
        ·(intro y hy; have j0 := hy.1.cell 0; have j1 := hy.1.cell 1; have j2 := hy.1.cell 2; have j3 := hy.1.cell 3; have q0 := hy.2.1.cell 0; have q1 := hy.2.1.cell 1; have q2 := hy.2.1.cell 2; have q3 := hy.2.1.cell 3; have s0 := hy.2.2.cell 0; have s1 := hy.2.2.cell 1; have s2 := hy.2.2.cell 2; have s3 := hy.2.2.cell 3; simp only [List.getElem?_cons_zero, List.getElem?_cons_succ] at j0 j1 j2 j3 q0 q1 q2 q3 s0 s1 s2 s3; go_simp; with_reducible rfl)
        try simp only [Act.put]
        try simp only [List.setIfInBounds_toArray]
        try simp only [List.set_cons_succ]
        try simp only [List.set_cons_zero]
        refine takeL 5 (v := ?_) rfl (some 66) rfl (by decide) (by kernel_rfl) (by kernel_rfl) (by kernel_rfl) (by kernel_rfl) (fun _ _ _ h => by obtain ⟨_, _, _, _, _, h, _⟩ := h; cases h) (Or.inl ⟨by rfl, ?_⟩) hSS ?_
        rotate_left
        ·(intro y hy; have j0 := hy.1.cell 0; have j1 := hy.1.cell 1; have j2 := hy.1.cell 2; have j3 := hy.1.cell 3; have q0 := hy.2.1.cell 0; have q1 := hy.2.1.cell 1; have q2 := hy.2.1.cell 2; have q3 := hy.2.1.cell 3; have s0 := hy.2.2.cell 0; have s1 := hy.2.2.cell 1; have s2 := hy.2.2.cell 2; have s3 := hy.2.2.cell 3; simp only [List.getElem?_cons_zero, List.getElem?_cons_succ] at j0 j1 j2 j3 q0 q1 q2 q3 s0 s1 s2 s3; go_simp; with_reducible rfl)
        try simp only [Act.put]
        try simp only [List.setIfInBounds_toArray]
        try simp only [List.set_cons_succ]
        try simp only [List.set_cons_zero]
        refine takeL 6 (v := ?_) rfl (some 67) rfl (by decide) (by kernel_rfl) (by kernel_rfl) (by kernel_rfl) (by kernel_rfl) (fun _ _ _ h => by obtain ⟨_, _, _, _, _, h, _⟩ := h; cases h) (Or.inl ⟨by rfl, ?_⟩) hSS ?_
        rotate_left
        ·(intro y hy; have j0 := hy.1.cell 0; have j1 := hy.1.cell 1; have j2 := hy.1.cell 2; have j3 := hy.1.cell 3; have q0 := hy.2.1.cell 0; have q1 := hy.2.1.cell 1; have q2 := hy.2.1.cell 2; have q3 := hy.2.1.cell 3; have s0 := hy.2.2.cell 0; have s1 := hy.2.2.cell 1; have s2 := hy.2.2.cell 2; have s3 := hy.2.2.cell 3; simp only [List.getElem?_cons_zero, List.getElem?_cons_succ] at j0 j1 j2 j3 q0 q1 q2 q3 s0 s1 s2 s3; go_simp; with_reducible rfl)
        try simp only [Act.put]
        try simp only [List.setIfInBounds_toArray]
        try simp only [List.set_cons_succ]
        try simp only [List.set_cons_zero]
        generalize w5.drew = wA at *
        refine readyL (rs := [0, 3]) (by kernel_rfl) (by simp) ?_
        refine ReadyL.cons rfl (fun KK hK => ?_) (ReadyL.cons rfl (fun KK hK => ?_) ReadyL.nil)
        ·refine wantR (by rfl) ?_
         go_simp
         have BAq := alloc_one wA (.cells #[] 32)
         have hSS2 := (⟨hSS.1.below BAq hSS.1.lt, hSS.2.1.below BAq hSS.2.1.lt, hSS.2.2.below BAq hSS.2.2.lt⟩ : Row (wA.alloc (.cells #[] 32)) g7 25 [.int .i64 kt, .string st, .slice y2 m2 r2, .slice y3 m3 r3] /\ Row (wA.alloc (.cells #[] 32)) g8 25 [c0, c1, c2, c3] /\ Row (wA.alloc (.cells #[] 32)) g9 25 [e0, e1, e2, e3])
         have BX2 := hidP (BX.out.trans (below_le BAq BX.out.size))
         have O61 := hidP (own_emptyP (w := wA) (B := w5.heap.size) BX.out.size)
         refine hK.out _ _ (fun _ => hSS2) (fun _ => ?_)
         clear BAq
         clear hK KK hSS BX
         have hSS := hSS2
         have BX := BX2
         clear hSS2 BX2
         generalize wA.alloc (.cells #[] 32) = wB at *
         generalize Value.slice (some ⟨wA.heap.size, 0, none⟩) 0 0 = v61 at *
         try simp only [Act.put]
         try simp only [List.setIfInBounds_toArray]
         try simp only [List.set_cons_succ]
         try simp only [List.set_cons_zero]
         refine readyL (rs := [3]) (by kernel_rfl) (by simp) ?_
         refine ReadyL.cons rfl (fun KK hK => ?_) ReadyL.nil
         refine wantR (by rfl) ?_
         have SC := sub32 (K := K.up w5.heap.size) (n := 20) (n2 := 20) (RtAt.below (K := K.up w5.heap.size) BX.out TX.out) (RtAt.below (K := K.up w5.heap.size) BX.out X.out) BX.out.size (fun _ => by have := HS1.out false; omega)
         go_simp
         refine SC.mono ?_
         rintro _ wC ⟨v64, rfl, hbz, hoz⟩
         have hSS2 := (⟨hSS.1.below hbz hSS.1.lt, hSS.2.1.below hbz hSS.2.1.lt, hSS.2.2.below hbz hSS.2.2.lt⟩ : Row wC g7 25 [.int .i64 kt, .string st, .slice y2 m2 r2, .slice y3 m3 r3] /\ Row wC g8 25 [c0, c1, c2, c3] /\ Row wC g9 25 [e0, e1, e2, e3])
         have BX2 := hidP (BX.out.trans (below_le hbz BX.out.size))
         have O64 := hidP hoz
         have O61b := hidP (own_sameR O61.out (fun q eq => hbz.block q (O61.out.lt q eq).2))
         clear O61
         have O61 := O61b
         clear O61b
         refine hK.out _ _ (fun _ => hSS2) (fun _ => ?_)
         clear SC hbz hoz
         clear hK KK hSS BX
         have hSS := hSS2
         have BX := BX2
         clear hSS2 BX2
         try simp only [Act.put]
         try simp only [List.setIfInBounds_toArray]
         try simp only [List.set_cons_succ]
         try simp only [List.set_cons_zero]
         refine readyL (rs := [4]) (by kernel_rfl) (by simp) ?_
         refine ReadyL.cons rfl (fun KK hK => ?_) ReadyL.nil
         refine wantR (by rfl) ?_
         refine wpo_appS (bz := 16) (.tmp 61) (.tmp 64) rfl Tryz.underlying29 Tryz.info32 rfl (by decide) rfl rfl O61.out BX.out.size (own_souZ O64.out) (pvs_len _) (pvs_ones _) (by have := HL1.out; omega) (by decide) ?_
         intro v65 wD hoz hgz
         have hbz := grown_le hgz BX.out.size (fun k e => (O61.out.lt k e).1)
         have hSS2 := (⟨hSS.1.below hbz R7.out.lt, hSS.2.1.below hbz R8.out.lt, hSS.2.2.below hbz R9.out.lt⟩ : Row wD g7 25 [.int .i64 kt, .string st, .slice y2 m2 r2, .slice y3 m3 r3] /\ Row wD g8 25 [c0, c1, c2, c3] /\ Row wD g9 25 [e0, e1, e2, e3])
         have BX2 := hidP (BX.out.trans hbz)
         have O65 := hidP hoz
         refine hK.out (Act.put _ (some 65) _) _ (fun _ => hSS2) (fun _ => ?_)
         clear hbz hoz hgz O61 O64
         clear hK KK hSS BX
         have hSS := hSS2
         have BX := BX2
         clear hSS2 BX2
         try simp only [Act.put]
         try simp only [List.setIfInBounds_toArray]
         try simp only [List.set_cons_succ]
         try simp only [List.set_cons_zero]
         refine readyL (rs := [7]) (by kernel_rfl) (by simp) ?_
         refine ReadyL.cons rfl (fun KK hK => ?_) ReadyL.nil
         refine wantR (by rfl) ?_
         have SC := sub32 (K := K.up w5.heap.size) (n := 20) (n2 := 20) (RtAt.below (K := K.up w5.heap.size) BX.out X.out) (RtAt.below (K := K.up w5.heap.size) BX.out Y.out) BX.out.size (fun _ => by have := HBM.out false (subN 20 l t); omega)
         go_simp
         refine SC.mono ?_
         rintro _ wE ⟨v68, rfl, hbz, hoz⟩
         have hSS2 := (⟨hSS.1.below hbz hSS.1.lt, hSS.2.1.below hbz hSS.2.1.lt, hSS.2.2.below hbz hSS.2.2.lt⟩ : Row wE g7 25 [.int .i64 kt, .string st, .slice y2 m2 r2, .slice y3 m3 r3] /\ Row wE g8 25 [c0, c1, c2, c3] /\ Row wE g9 25 [e0, e1, e2, e3])
         have BX2 := hidP (BX.out.trans (below_le hbz BX.out.size))
         have O68 := hidP hoz
         have O65b := hidP (own_sameR O65.out (fun q eq => hbz.block q (O65.out.lt q eq).2))
         clear O65
         have O65 := O65b
         clear O65b
         refine hK.out _ _ (fun _ => hSS2) (fun _ => ?_)
         clear SC hbz hoz
         clear hK KK hSS BX
         have hSS := hSS2
         have BX := BX2
         clear hSS2 BX2
         try simp only [Act.put]
         try simp only [List.setIfInBounds_toArray]
         try simp only [List.set_cons_succ]
         try simp only [List.set_cons_zero]
         refine readyL (rs := [8]) (by kernel_rfl) (by simp) ?_
         refine ReadyL.cons rfl (fun KK hK => ?_) ReadyL.nil
         refine wantR (by rfl) ?_
         refine wpo_appS (bz := 16) (.tmp 65) (.tmp 68) rfl Tryz.underlying29 Tryz.info32 rfl (by decide) rfl rfl O65.out BX.out.size (own_souZ O68.out) (pvs_len _) (pvs_ones _) (by have := HL1.out; have := HL2.out; omega) (by decide) ?_
         intro v69 wF hoz hgz
         have hbz := grown_le hgz BX.out.size (fun k e => (O65.out.lt k e).1)
         have hSS2 := (⟨hSS.1.below hbz R7.out.lt, hSS.2.1.below hbz R8.out.lt, hSS.2.2.below hbz R9.out.lt⟩ : Row wF g7 25 [.int .i64 kt, .string st, .slice y2 m2 r2, .slice y3 m3 r3] /\ Row wF g8 25 [c0, c1, c2, c3] /\ Row wF g9 25 [e0, e1, e2, e3])
         have BX2 := hidP (BX.out.trans hbz)
         have O69 := hidP hoz
         refine hK.out (Act.put _ (some 69) _) _ (fun _ => hSS2) (fun _ => ?_)
         clear hbz hoz hgz O65 O68
         clear hK KK hSS BX
         have hSS := hSS2
         have BX := BX2
         clear hSS2 BX2
         try simp only [Act.put]
         try simp only [List.setIfInBounds_toArray]
         try simp only [List.set_cons_succ]
         try simp only [List.set_cons_zero]
         refine takeL 9 (v := ?_) rfl (some 12) rfl (by decide) (by kernel_rfl) (by kernel_rfl) (by kernel_rfl) (by kernel_rfl) (fun _ _ _ h => by obtain ⟨_, _, _, _, _, h, _⟩ := h; cases h) (Or.inl ⟨by rfl, ?_⟩) hSS ?_
         rotate_left
         ·(intro y hy; have j0 := hy.1.cell 0; have j1 := hy.1.cell 1; have j2 := hy.1.cell 2; have j3 := hy.1.cell 3; have q0 := hy.2.1.cell 0; have q1 := hy.2.1.cell 1; have q2 := hy.2.1.cell 2; have q3 := hy.2.1.cell 3; have s0 := hy.2.2.cell 0; have s1 := hy.2.2.cell 1; have s2 := hy.2.2.cell 2; have s3 := hy.2.2.cell 3; simp only [List.getElem?_cons_zero, List.getElem?_cons_succ] at j0 j1 j2 j3 q0 q1 q2 q3 s0 s1 s2 s3; go_simp; with_reducible rfl)
         try simp only [Act.put]
         try simp only [List.setIfInBounds_toArray]
         try simp only [List.set_cons_succ]
         try simp only [List.set_cons_zero]
         refine doneL (by kernel_rfl) ?_ _
         refine ⟨v61, v64, v65, v68, v69, rfl, ?_, BX.out, by
          rw [List.nil_append, Nat.zero_add, ← pvs_app] at O69
          rw [List.length_append]
          exact O69.out⟩
         with_reducible rfl
        ·refine wantR (by rfl) ?_
         have SC := sub32 (K := K.up w5.heap.size) (n := 20) (n2 := 20) (RtAt.below (K := K.up w5.heap.size) BX.out TX.out) (RtAt.below (K := K.up w5.heap.size) BX.out X.out) BX.out.size (fun _ => by have := HS1.out false; omega)
         go_simp
         refine SC.mono ?_
         rintro _ wB ⟨v64, rfl, hbz, hoz⟩
         have hSS2 := (⟨hSS.1.below hbz hSS.1.lt, hSS.2.1.below hbz hSS.2.1.lt, hSS.2.2.below hbz hSS.2.2.lt⟩ : Row wB g7 25 [.int .i64 kt, .string st, .slice y2 m2 r2, .slice y3 m3 r3] /\ Row wB g8 25 [c0, c1, c2, c3] /\ Row wB g9 25 [e0, e1, e2, e3])
         have BX2 := hidP (BX.out.trans (below_le hbz BX.out.size))
         have O64 := hidP hoz
         refine hK.out _ _ (fun _ => hSS2) (fun _ => ?_)
         clear SC hbz hoz
         clear hK KK hSS BX
         have hSS := hSS2
         have BX := BX2
         clear hSS2 BX2
         try simp only [Act.put]
         try simp only [List.setIfInBounds_toArray]
         try simp only [List.set_cons_succ]
         try simp only [List.set_cons_zero]
         refine readyL (rs := [0]) (by kernel_rfl) (by simp) ?_
         refine ReadyL.cons rfl (fun KK hK => ?_) ReadyL.nil
         refine wantR (by rfl) ?_
         go_simp
         have BAq := alloc_one wB (.cells #[] 32)
         have hSS2 := (⟨hSS.1.below BAq hSS.1.lt, hSS.2.1.below BAq hSS.2.1.lt, hSS.2.2.below BAq hSS.2.2.lt⟩ : Row (wB.alloc (.cells #[] 32)) g7 25 [.int .i64 kt, .string st, .slice y2 m2 r2, .slice y3 m3 r3] /\ Row (wB.alloc (.cells #[] 32)) g8 25 [c0, c1, c2, c3] /\ Row (wB.alloc (.cells #[] 32)) g9 25 [e0, e1, e2, e3])
         have BX2 := hidP (BX.out.trans (below_le BAq BX.out.size))
         have O61 := hidP (own_emptyP (w := wB) (B := w5.heap.size) BX.out.size)
         have O64b := hidP (own_sameR O64.out (fun q eq => BAq.block q (O64.out.lt q eq).2))
         clear O64
         have O64 := O64b
         clear O64b
         refine hK.out _ _ (fun _ => hSS2) (fun _ => ?_)
         clear BAq
         clear hK KK hSS BX
         have hSS := hSS2
         have BX := BX2
         clear hSS2 BX2
         generalize wB.alloc (.cells #[] 32) = wC at *
         generalize Value.slice (some ⟨wB.heap.size, 0, none⟩) 0 0 = v61 at *
         try simp only [Act.put]
         try simp only [List.setIfInBounds_toArray]
         try simp only [List.set_cons_succ]
         try simp only [List.set_cons_zero]
         refine readyL (rs := [4]) (by kernel_rfl) (by simp) ?_
         refine ReadyL.cons rfl (fun KK hK => ?_) ReadyL.nil
         refine wantR (by rfl) ?_
         refine wpo_appS (bz := 16) (.tmp 61) (.tmp 64) rfl Tryz.underlying29 Tryz.info32 rfl (by decide) rfl rfl O61.out BX.out.size (own_souZ O64.out) (pvs_len _) (pvs_ones _) (by have := HL1.out; omega) (by decide) ?_
         intro v65 wD hoz hgz
         have hbz := grown_le hgz BX.out.size (fun k e => (O61.out.lt k e).1)
         have hSS2 := (⟨hSS.1.below hbz R7.out.lt, hSS.2.1.below hbz R8.out.lt, hSS.2.2.below hbz R9.out.lt⟩ : Row wD g7 25 [.int .i64 kt, .string st, .slice y2 m2 r2, .slice y3 m3 r3] /\ Row wD g8 25 [c0, c1, c2, c3] /\ Row wD g9 25 [e0, e1, e2, e3])
         have BX2 := hidP (BX.out.trans hbz)
         have O65 := hidP hoz
         refine hK.out (Act.put _ (some 65) _) _ (fun _ => hSS2) (fun _ => ?_)
         clear hbz hoz hgz O61 O64
         clear hK KK hSS BX
         have hSS := hSS2
         have BX := BX2
         clear hSS2 BX2
         try simp only [Act.put]
         try simp only [List.setIfInBounds_toArray]
         try simp only [List.set_cons_succ]
         try simp only [List.set_cons_zero]
         refine readyL (rs := [7]) (by kernel_rfl) (by simp) ?_
         refine ReadyL.cons rfl (fun KK hK => ?_) ReadyL.nil
         refine wantR (by rfl) ?_
         have SC := sub32 (K := K.up w5.heap.size) (n := 20) (n2 := 20) (RtAt.below (K := K.up w5.heap.size) BX.out X.out) (RtAt.below (K := K.up w5.heap.size) BX.out Y.out) BX.out.size (fun _ => by have := HBM.out false (subN 20 l t); omega)
         go_simp
         refine SC.mono ?_
         rintro _ wE ⟨v68, rfl, hbz, hoz⟩
         have hSS2 := (⟨hSS.1.below hbz hSS.1.lt, hSS.2.1.below hbz hSS.2.1.lt, hSS.2.2.below hbz hSS.2.2.lt⟩ : Row wE g7 25 [.int .i64 kt, .string st, .slice y2 m2 r2, .slice y3 m3 r3] /\ Row wE g8 25 [c0, c1, c2, c3] /\ Row wE g9 25 [e0, e1, e2, e3])
         have BX2 := hidP (BX.out.trans (below_le hbz BX.out.size))
         have O68 := hidP hoz
         have O65b := hidP (own_sameR O65.out (fun q eq => hbz.block q (O65.out.lt q eq).2))
         clear O65
         have O65 := O65b
         clear O65b
         refine hK.out _ _ (fun _ => hSS2) (fun _ => ?_)
         clear SC hbz hoz
         clear hK KK hSS BX
         have hSS := hSS2
         have BX := BX2
         clear hSS2 BX2
         try simp only [Act.put]
         try simp only [List.setIfInBounds_toArray]
         try simp only [List.set_cons_succ]
         try simp only [List.set_cons_zero]
         refine readyL (rs := [8]) (by kernel_rfl) (by simp) ?_
         refine ReadyL.cons rfl (fun KK hK => ?_) ReadyL.nil
         refine wantR (by rfl) ?_
         refine wpo_appS (bz := 16) (.tmp 65) (.tmp 68) rfl Tryz.underlying29 Tryz.info32 rfl (by decide) rfl rfl O65.out BX.out.size (own_souZ O68.out) (pvs_len _) (pvs_ones _) (by have := HL1.out; have := HL2.out; omega) (by decide) ?_
         intro v69 wF hoz hgz
         have hbz := grown_le hgz BX.out.size (fun k e => (O65.out.lt k e).1)
         have hSS2 := (⟨hSS.1.below hbz R7.out.lt, hSS.2.1.below hbz R8.out.lt, hSS.2.2.below hbz R9.out.lt⟩ : Row wF g7 25 [.int .i64 kt, .string st, .slice y2 m2 r2, .slice y3 m3 r3] /\ Row wF g8 25 [c0, c1, c2, c3] /\ Row wF g9 25 [e0, e1, e2, e3])
         have BX2 := hidP (BX.out.trans hbz)
         have O69 := hidP hoz
         refine hK.out (Act.put _ (some 69) _) _ (fun _ => hSS2) (fun _ => ?_)
         clear hbz hoz hgz O65 O68
         clear hK KK hSS BX
         have hSS := hSS2
         have BX := BX2
         clear hSS2 BX2
         try simp only [Act.put]
         try simp only [List.setIfInBounds_toArray]
         try simp only [List.set_cons_succ]
         try simp only [List.set_cons_zero]
         refine takeL 9 (v := ?_) rfl (some 12) rfl (by decide) (by kernel_rfl) (by kernel_rfl) (by kernel_rfl) (by kernel_rfl) (fun _ _ _ h => by obtain ⟨_, _, _, _, _, h, _⟩ := h; cases h) (Or.inl ⟨by rfl, ?_⟩) hSS ?_
         rotate_left
         ·(intro y hy; have j0 := hy.1.cell 0; have j1 := hy.1.cell 1; have j2 := hy.1.cell 2; have j3 := hy.1.cell 3; have q0 := hy.2.1.cell 0; have q1 := hy.2.1.cell 1; have q2 := hy.2.1.cell 2; have q3 := hy.2.1.cell 3; have s0 := hy.2.2.cell 0; have s1 := hy.2.2.cell 1; have s2 := hy.2.2.cell 2; have s3 := hy.2.2.cell 3; simp only [List.getElem?_cons_zero, List.getElem?_cons_succ] at j0 j1 j2 j3 q0 q1 q2 q3 s0 s1 s2 s3; go_simp; with_reducible rfl)
         try simp only [Act.put]
         try simp only [List.setIfInBounds_toArray]
         try simp only [List.set_cons_succ]
         try simp only [List.set_cons_zero]
         refine doneL (by kernel_rfl) ?_ _
         refine ⟨v61, v64, v65, v68, v69, rfl, ?_, BX.out, by
          rw [List.nil_append, Nat.zero_add, ← pvs_app] at O69
          rw [List.length_append]
          exact O69.out⟩
         with_reducible rfl
       ·rintro v1 v2 v3 v4 v5 w6 ⟨hb6, ho6⟩
        have R76 := hidP (R7.out.below hb6 R7.out.lt)
        have R96 := hidP (R9.out.below hb6 R9.out.lt)
        have B6 := hidP (B5.out.trans (below_le hb6 B5.out.size))
        have SC := hidP (sub32 (K := K.up w5.heap.size) (n := 20) (n2 := 20) (RtAt.below (K := K.up w5.heap.size) hb6 TX.out) (RtAt.below (K := K.up w5.heap.size) hb6 Y.out) hb6.size (fun _ => by have := HBD.out false (subN 20 l t); omega))
        have O6 := hidP ho6
        obtain ⟨a6, p6, rfl⟩ := own_slice ho6
        have HLL := hidP (show (subL 20 t (subN 20 m t) ++ subL 20 (subN 20 m t) (subN 20 l t)).length <= 40000 by rw [List.length_append]; have := HL1.out; have := HL2.out; omega)
        clear ho6
        generalize hnz : (subL 20 t (subN 20 m t) ++ subL 20 (subN 20 m t) (subN 20 l t)).length = nz at *
        have HNZ := hidP hnz
        clear hnz
        clear R7 R8 R9 TX X Y hb6 B5
        go_wp2_with (first | (refine ldR rfl 25 (.tmp 9) rfl rfl R76.out Tryz.underlying25 rfl Tryz.sz25 ?_) | (refine ldR rfl 25 (.tmp 11) rfl rfl R96.out Tryz.underlying25 rfl Tryz.sz25 ?_))
        refine SC.out.mono ?_
        rintro _ w7 ⟨v7, rfl, hb7, ho7⟩
        have B7 := hidP (B6.out.trans (below_le hb7 B6.out.size))
        have P6 := hidP (own_prs (K := K.up w7.heap.size) (l := subL 20 t (subN 20 m t) ++ subL 20 (subN 20 m t) (subN 20 l t)) (by rw [HNZ.out]; exact own_sameR O6.out (fun q eq => hb7.block q (O6.out.lt q eq).2)) (Nat.le_refl _) (by have := HLL.out; have := HNZ.out; omega))
        have P7 := hidP (own_prs (K := K.up w7.heap.size) ho7 (Nat.le_refl _) (by have := HSL.out (subN 20 l t); omega))
        obtain ⟨a7, p7, rfl⟩ := own_slice ho7
        clear SC R76 R96 O6 B6 hb7 ho7
        generalize hnk : (subL 20 t (subN 20 l t)).length = nk at *
        have HNK2 := hidP hnk
        have hnk4 : nk <= 400 := by have := HSL.out (subN 20 l t); omega
        clear hnk
        go_wp2_with fail
        go_loopg [14] nk (fun q v14 wr => ∃ j : Nat, j + q = nk /\ v14 = .int .i64 (j : Int) /\ Below w7.heap.size w7 wr)
        case atStart => exact ⟨0, by omega, rfl, Below.refl _ _⟩
        case round =>
         obtain ⟨j, hj, rfl, hb⟩ := hrel
         have HB := hidP hb
         by_cases hlt : j < nk
         ·have hlt' : j < (subL 20 t (subN 20 l t)).length := by rw [HNK2.out]; exact hlt
          obtain ⟨b, o, rfl, hbb, c1', c2'⟩ := prs_cell P7.out j hlt'
          have d1 := (hb.cell (p := ⟨b, o + j * 2, none⟩) hbb).trans c1'
          have d2 := (hb.cell (p := ⟨b, o + j * 2 + 1, none⟩) hbb).trans c2'
          have hmem : (subL 20 t (subN 20 l t)).getD j (0, 0) ∈ subL 20 t (subN 20 l t) := by
           rw [List.getD_eq_getElem?_getD, List.getElem?_eq_getElem hlt']
           exact List.getElem_mem hlt'
          have htw := HOR.out _ hmem
          rcases hq : (subL 20 t (subN 20 l t)).getD j (0, 0) with ⟨q1, q2⟩
          rw [hq] at d1 d2 htw
          simp only at d1 d2
          have FO := hidP (follows35 (K := K.up w7.heap.size) (p0 := q1) (p1 := q2) (P6.out.mono hb fun _ _ _ h => h) (show w7.heap.size <= _ from hb.size) (by have := HLL.out; have := HNZ.out; omega) (.inr htw))
          have l4 : (j : Int) < (nk : Int) := by omega
          have RNG := hidP (show ∀ i u, [Value.int .i64 q1, .int .i64 q2][i]? = some u -> wr.cell? ⟨b, o + j * 2 + i, none⟩ = some u from fun i u hu => by
           match i, hu with
           | 0, hu => cases hu; exact d1
           | 1, hu => cases hu; exact d2)
          clear c1' c2' hb hbb hmem htw hq hlt'
          go_wp2_with fail
          refine FO.out.mono ?_
          rintro _ w8 ⟨rfl, hb8⟩
          have HB8 := hidP (HB.out.trans (below_le hb8 HB.out.size))
          clear FO RNG HB hb8
          go_wp2_with fail
          go_roundg (gk - 1)
          case measure => omega
          case rel => exact ⟨j + 1, by omega, by go_num, HB8.out⟩
         ·have hjn : j = nk := by omega
          subst hjn
          have B8 := hidP (B7.out.trans (below_le hb B7.out.size))
          have T8 := hidP (told12 (HG.out.below B8.out))
          clear hlt hj hb HB P6 P7
          go_wp2_with fail
          refine T8.out.mono ?_
          rintro _ wT ⟨rfl, hbT⟩
          have BT := hidP (B8.out.trans (below_le hbT B8.out.size))
          clear T8 hbT
          go_wp2_with fail
          go_ret
          exact ⟨rfl, BT.out⟩
 ·clear hdd
  go_wp2_with fail
  refine T2.out.mono ?_
  rintro _ wT ⟨rfl, hbT⟩
  have BT := hidP (B2.out.trans (below_le hbT B2.out.size))
  clear T2 hbT
  go_wp2_with fail
  go_ret
  exact ⟨rfl, BT.out⟩
end Go.Proofs.YtldbbkheemnnhaaGreatDoor
