/-
  The texts Las, Lap, Spx, joined.
-/
import Derived.Test.YtmopffaocamieaaGreatJapSub4
import Derived.Test.YtmopffaocamieaaGreatJapSln4
import Derived.Test.YtmopffaocamieaaGreatJapStl2
import Derived.Test.YtmopffaocamieaaGreatJapSsm4
import Derived.Test.YtmopffaocamieaaGreatJapSmy3
namespace Go.Proofs.YtmopffaocamieaaGreat
open Go.RowKit

section
variable {P : Program} {ops : Array Oper} {Q : Exit → Act → World → Prop} {md : Region.Mode} {S : World → Prop} {n : Nat}

/-- Whatever order is drawn from here on; behind every operation but number n the condition stands. -/
def wpAnyL (P : Program) (md : Region.Mode) (ops : Array Oper) (Q : Exit → Act → World → Prop) (S : World → Prop) (n : Nat) : Nat → Array Bool → Act → World → Prop
  | 0, l, a, w => Region.ready md ops l = [] ∧ Q .normal a w
  | f + 1, l, a, w => (Region.ready md ops l = [] → Q .normal a w) ∧ ∀ i ∈ Region.ready md ops l, wpOp P ops Q i (fun a' w' => (i ≠ n → S w') ∧ wpAnyL P md ops Q S n f (l.setIfInBounds i true) a' w') a w

theorem wpAny_ofL (f : Nat) : ∀ (l : Array Bool) (a : Act) (w : World), wpAnyL P md ops Q S n f l a w → wpAny P md ops Q f l a w := by
  induction f with
  | zero => exact fun l a w h => h
  | succ f ih => exact fun l a w h => ⟨h.1, fun i hi => wpOp_mono (fun a' w' h' => ih _ _ _ h'.2) (h.2 i hi)⟩

/-- Number n waits for number i. -/
def waits (md : Region.Mode) (ops : Array Oper) (n i : Nat) : Bool := match ops[n]? with
  | some o => o.after.toList.any fun e => Region.binds md e && e.on == i
  | none => true
theorem not_ready {l : Array Bool} {i : Nat} (hw : waits md ops n i = true) (hi : i ∈ Region.ready md ops l) : n ∉ Region.ready md ops l := by
  intro hn
  obtain ⟨_, o, ho, hall⟩ := mem_ready.1 hn
  unfold waits at hw
  rw [ho] at hw
  obtain ⟨e, he, hb⟩ := List.any_eq_true.1 hw
  rw [Bool.and_eq_true] at hb
  have h1 := hall e (by simpa using he) hb.1
  have h0 := (mem_ready.1 hi).1
  rw [beq_iff_eq.1 hb.2] at h1
  rcases Nat.lt_or_ge i l.size with h | h
  · simp [h] at h0 h1; rw [h0] at h1; cases h1
  · simp [Array.getElem?_eq_none h] at h1

/-- What yields its value in every world of the condition may be taken first, where number n waits for it. -/
theorem firstL {i : Nat} {oi : Oper} {v : Value} (hi : ops[i]? = some oi) (hne : i ≠ n) (hw : waits md ops n i = true) (hsel : ∀ (j : Nat) (o : Oper) cs b, ops[j]? = some o → o.op ≠ .select cs b)
    (hQ : ∀ c a w, Q (.panic c) (a.put oi.dst v) w → Q (.panic c) a w) (f : Nat) :
    ∀ (l : Array Bool) (a : Act) (w : World),
      (∀ j oj, ops[j]? = some oj → j ≠ i → l.getD j true = false → (∀ e ∈ oj.after, Region.binds md e = true → e.on ≠ i) → oi.apart ops oj = true) →
      i ∈ Region.ready md ops l → YieldsIf P ops S oi v a → S w →
      wpAnyL P md ops Q S n f (l.setIfInBounds i true) (a.put oi.dst v) w → wpAnyL P md ops Q S n (f + 1) l a w := by
  induction f with
  | zero =>
    intro l a w _ hr hy hS H
    refine ⟨fun h => (by rw [h] at hr; cases hr), fun j hj => ?_⟩
    by_cases hji : j = i
    · subst hji
      exact hy.wpOp hi hS ⟨fun _ => hS, H⟩
    · have h0 := ready_mono hj hji
      rw [H.1] at h0
      cases h0
  | succ f ih =>
    intro l a w hfree hr hy hS H
    refine ⟨fun h => (by rw [h] at hr; cases hr), fun j hj => ?_⟩
    by_cases hji : j = i
    · subst hji
      exact hy.wpOp hi hS ⟨fun _ => hS, H⟩
    · have hjn : j ≠ n := fun e => not_ready hw hr (e ▸ hj)
      obtain ⟨hjl, oj, hoj, hall⟩ := mem_ready.1 hj
      have hapart : oi.apart ops oj = true := by
        refine hfree j oj hoj hji hjl (fun e he hb heq => ?_)
        have h1 := hall e he hb
        have h0 := (mem_ready.1 hr).1
        rw [heq] at h1
        rcases Nat.lt_or_ge i l.size with h' | h'
        · simp [h'] at h0 h1; rw [h0] at h1; cases h1
        · simp [Array.getElem?_eq_none h'] at h1
      have hput := wpOp_putIf hoj hapart (fun cs b => hsel i oi cs b hi) (fun cs b => hsel j oj cs b hoj) hQ hy (H.2 j (ready_mono hj hji))
      refine wpOp_mono (fun a' w' h3 => ⟨fun _ => h3.2.1 hjn, ih (l.setIfInBounds j true) a' w' (fun k ok hk hki hun hno => hfree k ok hk hki ?_ hno) (ready_mono hr (Ne.symm hji)) h3.1 (h3.2.1 hjn) ?_⟩) hput
      · by_cases hjk : j = k
        · subst hjk; exact hjl
        · rw [getD_set_ne true hjk] at hun; exact hun
      · rw [Array.setIfInBounds_comm _ _ hji]
        exact h3.2.2
theorem takeL (i : Nat) {oi : Oper} {v : Value} {f : Nat} {l : Array Bool} {a : Act} {w : World} (hi : ops[i]? = some oi) (d : Option Tmp) (hd : oi.dst = d) (hne : i ≠ n) (hw : waits md ops n i = true)
    (hs : Region.noSelect ops = true) (hf : Region.free md ops l i = true) (hr : (Region.ready md ops l).contains i = true)
    (hQ : ∀ c a w, Q (.panic c) (a.put d v) w → Q (.panic c) a w) (hy : YieldsIf P ops S oi v a) (hS : S w)
    (h : wpAnyL P md ops Q S n f (l.setIfInBounds i true) (a.put d v) w) : wpAnyL P md ops Q S n (f + 1) l a w := by
  subst hd
  exact firstL hi hne hw (Region.noSelect_spec hs) hQ f l a w (Region.free_spec hi hf) (by simpa using hr) hy hS h
def ReadyL (P : Program) (md : Region.Mode) (ops : Array Oper) (Q : Exit → Act → World → Prop) (S : World → Prop) (n f : Nat) (l : Array Bool) (a : Act) (w : World) (rs : List Nat) : Prop :=
  ∀ i ∈ rs, wpOp P ops Q i (fun a' w' => (i ≠ n → S w') ∧ wpAnyL P md ops Q S n f (l.setIfInBounds i true) a' w') a w
theorem ReadyL.nil {f : Nat} {l : Array Bool} {a : Act} {w : World} : ReadyL P md ops Q S n f l a w [] := fun _ h => by cases h
theorem ReadyL.cons {f : Nat} {l : Array Bool} {a : Act} {w : World} {i : Nat} {o : Oper} {rs : List Nat} (ho : ops[i]? = some o)
    (h : ∀ K' : Act → World → Prop, Shut (∀ a w, (i ≠ n → S w) → ((i ≠ n → S w) → wpAnyL P md ops Q S n f (l.setIfInBounds i true) a w) → K' a w) → if Region.wanted o (yielded ops a.tmps) = true then Oper.wp P o a w K' Q else K' (a.put o.dst undef) w)
    (hs : ReadyL P md ops Q S n f l a w rs) : ReadyL P md ops Q S n f l a w (i :: rs) := fun j hj => by
  rcases List.mem_cons.1 hj with rfl | hj
  · exact wpOp_step ho (fun K' hK => h K' (fun a w hS hW => hK a w ⟨hS, hW hS⟩))
  · exact hs j hj
theorem readyL {rs : List Nat} {f : Nat} {l : Array Bool} {a : Act} {w : World} (hr : Region.ready md ops l = rs) (hne : rs ≠ []) (h : ReadyL P md ops Q S n f l a w rs) : wpAnyL P md ops Q S n (f + 1) l a w :=
  ⟨fun h0 => absurd (hr ▸ h0) hne, hr ▸ h⟩
theorem doneL {l : Array Bool} {a : Act} {w : World} (hr : Region.ready md ops l = []) (h : Q .normal a w) : ∀ f, wpAnyL P md ops Q S n f l a w
  | 0 => ⟨hr, h⟩
  | _ + 1 => ⟨fun _ => h, by rw [hr]; simp⟩
theorem beginL {id : Nat} {a : Act} {w : World} (S : World → Prop) (n : Nat) (hm : P.follows .mixedOrders = true) (hS : S w.drew) (h : S w.drew → wpAnyL P .any ops Q S n ops.size (Array.replicate ops.size false) a w.drew) : (Code.region id ops true).wp P Q a w :=
  wp_region_any hm (wpAny_ofL _ _ _ _ (h hS))
end
end Go.Proofs.YtmopffaocamieaaGreat

namespace Go.Proofs.YtmopffaocamieaaGreat
open Go.RowKit

theorem ofC_ok (n : Nat) (c : Crt) : (∀ x ∈ (ofC n c).structs, OkS x) ∧ ∀ f ∈ (ofC n c).funcs, OkF f := by
  refine ⟨fun x hx => ?_, fun f hf => ?_⟩
  · obtain ⟨y, hy, rfl⟩ := List.mem_map.1 (show x ∈ (c.structs.filter (·.pub)).map bareSc from hx)
    exact ⟨(List.mem_filter.1 hy).2, rfl⟩
  · obtain ⟨y, hy, rfl⟩ := List.mem_map.1 (show f ∈ ((c.funcs.filter (·.pub)).map noB).map (bareFn n) from hf)
    obtain ⟨z, hz, rfl⟩ := List.mem_map.1 hy
    exact ⟨(List.mem_filter.1 hz).2, rfl, rfl⟩
/-- What Put tells of a sig, in one form. -/
structure PutW (s : Bs) (c : Crt) (w : World) (x e : Value) : Prop where
  yes : MaySig s c → e = .nilIface ∧ ∃ ao k q, x = .slice ao k q ∧ Sw w x (sigB s c)
  no : ¬ MaySig s c → ∃ b, e = .iface 123 (.pointer (some ⟨b, 0, none⟩)) ∧ x = .slice none 0 0
theorem PutW.past {s : Bs} {c : Crt} {w w' : World} {x e : Value} (h : PutW s c w x e) (hb : Below w.heap.size w w') : PutW s c w' x e :=
  ⟨fun hm => by obtain ⟨a, ao, k, q, e1, e2⟩ := h.yes hm; exact ⟨a, ao, k, q, e1, e2.below hb⟩, h.no⟩
theorem putW_any {n : Nat} {K : Ctx} {w : World} (he : Env K w) {c : Crt} {u0 u1 : Value} (hx : CrtAt n K w [u0, u1] c) (s : Bs) (hs : s.length ≤ 140737488355328) :
    Calls Tryz.prog 13 #[.agg #[.string (str s), u0, u1]] w fun ev w' => ∃ x e, ev = .returned (.tuple #[x, e]) ∧ PutW s c w' x e ∧ Below w.heap.size w w' := by
  by_cases hm : MaySig s c
  · refine (put_yes he hx s hs hm).mono ?_
    rintro _ w1 ⟨ao, k, e, rfl, h1, h2⟩
    exact ⟨_, _, rfl, ⟨fun _ => ⟨rfl, ao, k, e, rfl, h1⟩, fun h => absurd hm h⟩, h2⟩
  · refine (put_no he hx s hs hm).mono ?_
    rintro _ w1 ⟨e, rfl, h1, h2⟩
    obtain ⟨b, rfl, _⟩ := h1.shape
    exact ⟨_, _, rfl, ⟨fun h => absurd h hm, fun _ => ⟨b, rfl, rfl⟩⟩, h2⟩
end Go.Proofs.YtmopffaocamieaaGreat

namespace Go.Proofs.YtmopffaocamieaaGreat
open Go.RowKit

/-- The slots ds of a frame hold f; the others are as they were. -/
structure Slo (ds : List Nat) (a0 a : Act) (f : Nat → Value) : Prop where
  size : a.tmps.size = a0.tmps.size
  defers : a.defers = a0.defers
  out : ∀ k, k ∉ ds → a.tmps[k]? = a0.tmps[k]?
  inn : ∀ k, k ∈ ds → a.tmps[k]? = some (f k)
def upd (f : Nat → Value) (k : Nat) (v : Value) : Nat → Value := fun j => if j = k then v else f j
theorem upd_at (f : Nat → Value) (k : Nat) (v : Value) : upd f k v k = v := by simp [upd]
theorem upd_ne (f : Nat → Value) {k j : Nat} (v : Value) (h : j ≠ k) : upd f k v j = f j := by simp [upd, h]
theorem Slo.start {ds : List Nat} {a : Act} (h : ∀ k ∈ ds, k < a.tmps.size) : Slo ds a a (fun k => a.tmps.getD k undef) := by
  refine ⟨rfl, rfl, fun _ _ => rfl, fun k hk => ?_⟩
  have := h k hk
  rw [Array.getElem?_eq_getElem this]
  simp [Array.getD, this]
theorem Slo.put {ds : List Nat} {a0 a : Act} {f : Nat → Value} (h : Slo ds a0 a f) {k : Nat} (hk : k ∈ ds) (v : Value) : Slo ds a0 (a.put (some k) v) (upd f k v) := by
  have hs : k < a.tmps.size := by
    have := h.inn k hk
    rcases Nat.lt_or_ge k a.tmps.size with h' | h'
    · exact h'
    · rw [Array.getElem?_eq_none h'] at this; cases this
  refine ⟨by simp [Act.put, h.size], h.defers, fun j hj => ?_, fun j hj => ?_⟩
  · have hne : k ≠ j := fun e => hj (e ▸ hk)
    show (a.tmps.setIfInBounds k v)[j]? = _
    rw [Array.getElem?_setIfInBounds, if_neg hne]; exact h.out j hj
  · show (a.tmps.setIfInBounds k v)[j]? = _
    rw [Array.getElem?_setIfInBounds]
    by_cases e : k = j
    · subst e; rw [if_pos rfl, if_pos hs, upd_at]
    · rw [if_neg e, upd_ne _ _ (fun h => e h.symm)]; exact h.inn j hj
theorem Slo.none {ds : List Nat} {a0 a : Act} {f : Nat → Value} (h : Slo ds a0 a f) (v : Value) : Slo ds a0 (a.put Option.none v) f := h
theorem Slo.at_ {ds : List Nat} {a0 a : Act} {f : Nat → Value} (h : Slo ds a0 a f) {k : Nat} (hk : k ∈ ds) : a.eval (.tmp k) = f k := by
  show a.tmps.getD k undef = _
  have := h.inn k hk
  rw [Array.getD_eq_getD_getElem?, this]; rfl
theorem Slo.old {ds : List Nat} {a0 a : Act} {f : Nat → Value} (h : Slo ds a0 a f) {k : Nat} (hk : k ∉ ds) : a.eval (.tmp k) = a0.eval (.tmp k) := by
  show a.tmps.getD k undef = a0.tmps.getD k undef
  rw [Array.getD_eq_getD_getElem?, Array.getD_eq_getD_getElem?, h.out k hk]
theorem Slo.eq {ds : List Nat} {a0 a : Act} {f : Nat → Value} (h : Slo ds a0 a f) : a = { tmps := ds.foldl (fun t k => t.setIfInBounds k (f k)) a0.tmps, defers := a0.defers } := by
  have key : ∀ (l : List Nat) (t : Array Value), (∀ k, k ∈ l → k < t.size) → (l.foldl (fun t k => t.setIfInBounds k (f k)) t).size = t.size ∧ ∀ j, (l.foldl (fun t k => t.setIfInBounds k (f k)) t)[j]? = if j ∈ l then some (f j) else t[j]? := by
    intro l
    induction l with
    | nil => intro t _; simp
    | cons x l ih =>
      intro t ht
      have hx := ht x (by simp)
      obtain ⟨i1, i2⟩ := ih (t.setIfInBounds x (f x)) (fun k hk => by simpa using ht k (List.mem_cons_of_mem _ hk))
      refine ⟨by rw [List.foldl_cons, i1]; simp, fun j => ?_⟩
      rw [List.foldl_cons, i2 j, Array.getElem?_setIfInBounds]
      by_cases hj : j ∈ l
      · rw [if_pos hj, if_pos (List.mem_cons_of_mem _ hj)]
      · rw [if_neg hj]
        by_cases e : x = j
        · subst e; rw [if_pos rfl, if_pos hx, if_pos (by simp)]
        · rw [if_neg e, if_neg (by simp [hj]; exact fun h => e h.symm)]
  have hlt : ∀ k, k ∈ ds → k < a0.tmps.size := by
    intro k hk
    have := h.inn k hk
    rw [← h.size]
    rcases Nat.lt_or_ge k a.tmps.size with h' | h'
    · exact h'
    · rw [Array.getElem?_eq_none h'] at this; cases this
  obtain ⟨_, k2⟩ := key ds a0.tmps hlt
  have e : a.tmps = ds.foldl (fun t k => t.setIfInBounds k (f k)) a0.tmps := by
    apply Array.ext_getElem?
    intro j
    rw [k2 j]
    by_cases hj : j ∈ ds
    · rw [if_pos hj]; exact h.inn j hj
    · rw [if_neg hj]; exact h.out j hj
  have hd := h.defers
  cases a
  simp only at e hd
  rw [e, hd]
theorem wpOp_run {ops : Array Oper} {Q : Exit → Act → World → Prop} {i : Nat} {K : Act → World → Prop} {a : Act} {w w' : World} {o : Oper} {v : Value} (ho : ops[i]? = some o) (hg : o.guard = none) (h : (execOp a.eval o).run Tryz.prog w = .ok (.value v) w') (k : K (a.put o.dst v) w') : wpOp Tryz.prog ops Q i K a w := by
  unfold wpOp
  rw [ho]
  have hw : Region.wanted o (yielded ops a.tmps) = true := by unfold Region.wanted; rw [hg]
  simp only [hw, if_true]
  refine .inl ?_
  unfold Oper.wp
  rw [h]; exact k
theorem wpOp_skip {ops : Array Oper} {Q : Exit → Act → World → Prop} {i : Nat} {K : Act → World → Prop} {a : Act} {w w' : World} {o : Oper} (ho : ops[i]? = some o) (hg : o.guard = none) (h : (execOp a.eval o).run Tryz.prog w = .ok .skip w') (k : K (a.put o.dst undef) w') : wpOp Tryz.prog ops Q i K a w := by
  unfold wpOp
  rw [ho]
  have hw : Region.wanted o (yielded ops a.tmps) = true := by unfold Region.wanted; rw [hg]
  simp only [hw, if_true]
  refine .inl ?_
  unfold Oper.wp
  rw [h]; exact k
theorem wpOp_wp {ops : Array Oper} {Q : Exit → Act → World → Prop} {i : Nat} {K : Act → World → Prop} {a : Act} {w : World} {o : Oper} (ho : ops[i]? = some o) (hg : o.guard = none) (h : o.wp Tryz.prog a w K Q) : wpOp Tryz.prog ops Q i K a w := by
  unfold wpOp
  rw [ho]
  have hw : Region.wanted o (yielded ops a.tmps) = true := by unfold Region.wanted; rw [hg]
  simp only [hw, if_true]
  exact .inl h
theorem hed_of {ops : Array Oper} (h : ((List.range ops.size).all fun i => ((ops[i]?.map fun o => o.after.toList.all fun e => decide (e.on < i)).getD true)) = true) : ∀ (i : Nat) (o : Oper), ops[i]? = some o → ∀ e ∈ o.after.toList, e.on < i := by
  intro i o ho e he
  have hi : i < ops.size := by
    rcases Nat.lt_or_ge i ops.size with h' | h'
    · exact h'
    · rw [Array.getElem?_eq_none h'] at ho; cases ho
  have h1 := List.all_eq_true.1 h i (List.mem_range.2 hi)
  rw [ho] at h1
  simp only [Option.map_some, Option.getD_some] at h1
  exact of_decide_eq_true (List.all_eq_true.1 h1 e he)
/-- What is done waits for nothing that is not. -/
def Cls (ops : Array Oper) (d : Nat → Bool) : Prop := ∀ (i : Nat) (o : Oper), ops[i]? = some o → d i = true → ∀ e ∈ o.after.toList, Region.binds .any e = true → d e.on = true
theorem Cls.start {ops : Array Oper} : Cls ops (fun j => decide (ops.size ≤ j)) := by
  intro i o ho hd
  have hi : i < ops.size := by
    rcases Nat.lt_or_ge i ops.size with h' | h'
    · exact h'
    · rw [Array.getElem?_eq_none h'] at ho; cases ho
  have := of_decide_eq_true hd
  omega
theorem Cls.step {ops : Array Oper} {d : Nat → Bool} (h : Cls ops d) {i : Nat} {o : Oper} (ho : ops[i]? = some o) (hed : ∀ e ∈ o.after.toList, Region.binds .any e = true → d e.on = true) : Cls ops (fun j => if j = i then true else d j) := by
  intro j p hp hd e he hb
  show (if e.on = i then true else d e.on) = true
  by_cases hx : e.on = i
  · rw [if_pos hx]
  · rw [if_neg hx]
    by_cases hj : j = i
    · subst hj
      rw [ho] at hp
      cases hp
      exact hed e he hb
    · simp only [if_neg hj] at hd
      exact h j p hp hd e he hb
theorem Cls.no {ops : Array Oper} {d : Nat → Bool} (h : Cls ops d) (l : Nat) {o : Oper} (ho : ops[l]? = some o) (e : Edge) (he : e ∈ o.after.toList) (hb : Region.binds .any e = true) (hd : d e.on = false) : d l = false := by
  cases hl : d l with
  | false => rfl
  | true => exact absurd (hd.symm.trans (h l o ho hl e he hb)) Bool.false_ne_true
theorem wpOp_call {ops : Array Oper} {Q : Exit → Act → World → Prop} {i : Nat} {K : Act → World → Prop} {a : Act} {w w0 : World} {o : Oper} {f : Nat} {args : Array Value} (ho : ops[i]? = some o) (hg : o.guard = none) (h : (execOp a.eval o).run Tryz.prog w = .ok (.enter f args) w0) (k : Calls Tryz.prog f args w0 fun ev w' => ∃ v, ev = .returned v ∧ K (a.put o.dst v) w') : wpOp Tryz.prog ops Q i K a w := by
  unfold wpOp
  rw [ho]
  have hw : Region.wanted o (yielded ops a.tmps) = true := by unfold Region.wanted; rw [hg]
  simp only [hw, if_true]
  refine .inl ?_
  unfold Oper.wp
  rw [h]
  refine k.mono ?_
  rintro _ w' ⟨v, rfl, hk⟩
  exact hk
end Go.Proofs.YtmopffaocamieaaGreat
