/-
  The texts Las, Wpo, joined.
-/
import Derived.Test.YtmopffaocamieaaGreatJhiSub4
import Derived.Test.YtmopffaocamieaaGreatJhiBar3
namespace Go.Proofs.YtmopffaocamieaaGreat
open Go.RowKit

section
variable {P : Program} {ops : Array Oper} {Q : Exit → Act → World → Prop} {md : Region.Mode} {S : World → Prop} {n : Nat}

/-- Whatever order is drawn from here on; behind every operation but number n the condition stands. -/
def wpAnyL (P : Program) (md : Region.Mode) (ops : Array Oper) (Q : Exit → Act → World → Prop) (S : World → Prop) (n : Nat) : Nat → Array Bool → Act → World → Prop
  | 0, l, a, w => Region.ready md ops l = [] ∧ Q .normal a w
  | f + 1, l, a, w => (Region.ready md ops l = [] → Q .normal a w) ∧ ∀ i ∈ Region.ready md ops l, wpOp P ops Q i (fun a' w' => (i ≠ n → S w') ∧ wpAnyL P md ops Q S n f (l.setIfInBounds i true) a' w') a w

theorem wpAny_ofL (f : Nat) : ∀ (l : Array Bool) (a : Act) (w : World), wpAnyL P md ops Q S n f l a w → wpAny P md ops Q f l a w := by
  induction f with
  | zero => exact fun l a w h => h
  | succ f ih => exact fun l a w h => ⟨h.1, fun i hi => wpOp_mono (fun a' w' h' => ih _ _ _ h'.2) (h.2 i hi)⟩

/-- Number n waits for number i. -/
def waits (md : Region.Mode) (ops : Array Oper) (n i : Nat) : Bool := match ops[n]? with
  | some o => o.after.toList.any fun e => Region.binds md e && e.on == i
  | none => true
theorem not_ready {l : Array Bool} {i : Nat} (hw : waits md ops n i = true) (hi : i ∈ Region.ready md ops l) : n ∉ Region.ready md ops l := by
  intro hn
  obtain ⟨_, o, ho, hall⟩ := mem_ready.1 hn
  unfold waits at hw
  rw [ho] at hw
  obtain ⟨e, he, hb⟩ := List.any_eq_true.1 hw
  rw [Bool.and_eq_true] at hb
  have h1 := hall e (by simpa using he) hb.1
  have h0 := (mem_ready.1 hi).1
  rw [beq_iff_eq.1 hb.2] at h1
  rcases Nat.lt_or_ge i l.size with h | h
  · simp [h] at h0 h1; rw [h0] at h1; cases h1
  · simp [Array.getElem?_eq_none h] at h1

/-- What yields its value in every world of the condition may be taken first, where number n waits for it. -/
theorem firstL {i : Nat} {oi : Oper} {v : Value} (hi : ops[i]? = some oi) (hne : i ≠ n) (hw : waits md ops n i = true) (hsel : ∀ (j : Nat) (o : Oper) cs b, ops[j]? = some o → o.op ≠ .select cs b)
    (hQ : ∀ c a w, Q (.panic c) (a.put oi.dst v) w → Q (.panic c) a w) (f : Nat) :
    ∀ (l : Array Bool) (a : Act) (w : World),
      (∀ j oj, ops[j]? = some oj → j ≠ i → l.getD j true = false → (∀ e ∈ oj.after, Region.binds md e = true → e.on ≠ i) → oi.apart ops oj = true) →
      i ∈ Region.ready md ops l → YieldsIf P ops S oi v a → S w →
      wpAnyL P md ops Q S n f (l.setIfInBounds i true) (a.put oi.dst v) w → wpAnyL P md ops Q S n (f + 1) l a w := by
  induction f with
  | zero =>
    intro l a w _ hr hy hS H
    refine ⟨fun h => (by rw [h] at hr; cases hr), fun j hj => ?_⟩
    by_cases hji : j = i
    · subst hji
      exact hy.wpOp hi hS ⟨fun _ => hS, H⟩
    · have h0 := ready_mono hj hji
      rw [H.1] at h0
      cases h0
  | succ f ih =>
    intro l a w hfree hr hy hS H
    refine ⟨fun h => (by rw [h] at hr; cases hr), fun j hj => ?_⟩
    by_cases hji : j = i
    · subst hji
      exact hy.wpOp hi hS ⟨fun _ => hS, H⟩
    · have hjn : j ≠ n := fun e => not_ready hw hr (e ▸ hj)
      obtain ⟨hjl, oj, hoj, hall⟩ := mem_ready.1 hj
      have hapart : oi.apart ops oj = true := by
        refine hfree j oj hoj hji hjl (fun e he hb heq => ?_)
        have h1 := hall e he hb
        have h0 := (mem_ready.1 hr).1
        rw [heq] at h1
        rcases Nat.lt_or_ge i l.size with h' | h'
        · simp [h'] at h0 h1; rw [h0] at h1; cases h1
        · simp [Array.getElem?_eq_none h'] at h1
      have hput := wpOp_putIf hoj hapart (fun cs b => hsel i oi cs b hi) (fun cs b => hsel j oj cs b hoj) hQ hy (H.2 j (ready_mono hj hji))
      refine wpOp_mono (fun a' w' h3 => ⟨fun _ => h3.2.1 hjn, ih (l.setIfInBounds j true) a' w' (fun k ok hk hki hun hno => hfree k ok hk hki ?_ hno) (ready_mono hr (Ne.symm hji)) h3.1 (h3.2.1 hjn) ?_⟩) hput
      · by_cases hjk : j = k
        · subst hjk; exact hjl
        · rw [getD_set_ne true hjk] at hun; exact hun
      · rw [Array.setIfInBounds_comm _ _ hji]
        exact h3.2.2
theorem takeL (i : Nat) {oi : Oper} {v : Value} {f : Nat} {l : Array Bool} {a : Act} {w : World} (hi : ops[i]? = some oi) (d : Option Tmp) (hd : oi.dst = d) (hne : i ≠ n) (hw : waits md ops n i = true)
    (hs : Region.noSelect ops = true) (hf : Region.free md ops l i = true) (hr : (Region.ready md ops l).contains i = true)
    (hQ : ∀ c a w, Q (.panic c) (a.put d v) w → Q (.panic c) a w) (hy : YieldsIf P ops S oi v a) (hS : S w)
    (h : wpAnyL P md ops Q S n f (l.setIfInBounds i true) (a.put d v) w) : wpAnyL P md ops Q S n (f + 1) l a w := by
  subst hd
  exact firstL hi hne hw (Region.noSelect_spec hs) hQ f l a w (Region.free_spec hi hf) (by simpa using hr) hy hS h
def ReadyL (P : Program) (md : Region.Mode) (ops : Array Oper) (Q : Exit → Act → World → Prop) (S : World → Prop) (n f : Nat) (l : Array Bool) (a : Act) (w : World) (rs : List Nat) : Prop :=
  ∀ i ∈ rs, wpOp P ops Q i (fun a' w' => (i ≠ n → S w') ∧ wpAnyL P md ops Q S n f (l.setIfInBounds i true) a' w') a w
theorem ReadyL.nil {f : Nat} {l : Array Bool} {a : Act} {w : World} : ReadyL P md ops Q S n f l a w [] := fun _ h => by cases h
theorem ReadyL.cons {f : Nat} {l : Array Bool} {a : Act} {w : World} {i : Nat} {o : Oper} {rs : List Nat} (ho : ops[i]? = some o)
    (h : ∀ K' : Act → World → Prop, Shut (∀ a w, (i ≠ n → S w) → ((i ≠ n → S w) → wpAnyL P md ops Q S n f (l.setIfInBounds i true) a w) → K' a w) → if Region.wanted o (yielded ops a.tmps) = true then Oper.wp P o a w K' Q else K' (a.put o.dst undef) w)
    (hs : ReadyL P md ops Q S n f l a w rs) : ReadyL P md ops Q S n f l a w (i :: rs) := fun j hj => by
  rcases List.mem_cons.1 hj with rfl | hj
  · exact wpOp_step ho (fun K' hK => h K' (fun a w hS hW => hK a w ⟨hS, hW hS⟩))
  · exact hs j hj
theorem readyL {rs : List Nat} {f : Nat} {l : Array Bool} {a : Act} {w : World} (hr : Region.ready md ops l = rs) (hne : rs ≠ []) (h : ReadyL P md ops Q S n f l a w rs) : wpAnyL P md ops Q S n (f + 1) l a w :=
  ⟨fun h0 => absurd (hr ▸ h0) hne, hr ▸ h⟩
theorem doneL {l : Array Bool} {a : Act} {w : World} (hr : Region.ready md ops l = []) (h : Q .normal a w) : ∀ f, wpAnyL P md ops Q S n f l a w
  | 0 => ⟨hr, h⟩
  | _ + 1 => ⟨fun _ => h, by rw [hr]; simp⟩
theorem beginL {id : Nat} {a : Act} {w : World} (S : World → Prop) (n : Nat) (hm : P.follows .mixedOrders = true) (hS : S w.drew) (h : S w.drew → wpAnyL P .any ops Q S n ops.size (Array.replicate ops.size false) a w.drew) : (Code.region id ops true).wp P Q a w :=
  wp_region_any hm (wpAny_ofL _ _ _ _ (h hS))
end
end Go.Proofs.YtmopffaocamieaaGreat

namespace Go.Proofs.YtmopffaocamieaaGreat
open Go.RowKit

theorem wpo_bs {o : Oper} {a : Act} {w : World} {K : Act → World → Prop} {Q : Exit → Act → World → Prop} (ty el sz bz : Nat) (Z : List Value) (x : Operand) (ho : o.op = .buildSlice ty 1 #[(0, x)])
    (hu : Tryz.prog.underlying ty = some (.slice el)) (hz : (Tryz.prog.info? el).map (fun i => (i.zero, i.size, i.bytes)) = some (some (.agg Z.toArray), sz, bz)) (h1 : 0 < sz) (h2 : sz ≤ 1000)
    (cs : List Value) (hl : cs.length = sz) (hx : a.eval x = .agg cs.toArray)
    (k : ∀ w', Row w' w.heap.size el cs → Below w.heap.size w w' → w.heap.size < w'.heap.size → K (a.put o.dst (.slice (some ⟨w.heap.size, 0, none⟩) 1 1)) w') : Oper.wp Tryz.prog o a w K Q := by
  obtain ⟨i0, hi, hz0, hz1, hz2⟩ := info_parts hz
  refine wp_buildSlice ty el 1 _ ho cs.toArray i0 (.agg Z.toArray) hu hi hz0 (by rw [hz1]; omega) (by rw [hz1]; omega) ?_ (k _ (Row.new w el cs) (alloc_one _ _) (by rw [size_alloc]; omega))
  have hw := Go.Great.fill_whole (s := sz) h1 [.agg cs.toArray] ((Array.range (1 * sz)).map ((Value.agg Z.toArray).cells[· % (Value.agg Z.toArray).cells.size]!)) (by simp [Value.cells, hl]) (by simp)
  rw [hz1]
  simp only [List.map_toArray, List.map_cons, List.map_nil, hx]
  simp only [List.zipIdx_cons, List.zipIdx_nil, List.map_cons, List.map_nil] at hw
  refine Eq.trans hw ?_
  simp [Value.cells]
theorem wpo_add {α : Type} {o : Oper} {a : Act} {K : Act → World → Prop} {Q : Exit → Act → World → Prop} {w : World} {B t e z bz g : Nat} {Z : Value} {v : Value} {P : List Value → α → Prop} {l : List α} {x : α} {cs : List Value} (s y : Operand) (ho : o.op = .call { callee := .builtin .append, args := #[s, y], argTypes := #[t, t] })
    (hu : Tryz.prog.underlying t = some (.slice e)) (hz : (Tryz.prog.info? e).map (fun i => (i.zero, i.size, i.bytes)) = some (some Z, z, bz)) (hZ : Z.cells.size = z) (h0 : 0 < z) (hs : a.eval s = v) (hy : a.eval y = .slice (some ⟨g, 0, none⟩) 1 1)
    (hr : Rws z e P B w v l) (hB : B ≤ w.heap.size) (hg : Row w g e cs) (hl : cs.length = z) (h1 : ∀ x ∈ cs, x.oneCell' = true) (hp : P cs x) (hn : l.length ≤ 90000) (hbz : bz ≤ 1000)
    (k : ∀ ao c w', Rws z e P B w' (.slice ao (l.length + 1) c) (l ++ [x]) → Below B w w' → K (a.put o.dst (.slice ao (l.length + 1) c)) w') : Oper.wp Tryz.prog o a w K Q := by
  obtain ⟨L, hc, hown⟩ := hr
  refine wpo_appS s y ho hu hz hZ h0 hs hy hown hB (m := 1) (news := cs) ⟨some ⟨g, 0, none⟩, 1, rfl, (by simp), fun j u hj => ⟨g, 0, rfl, by rw [Nat.zero_add, hg.cell]; exact hj⟩⟩ (by omega) h1 (by omega) hbz ?_
  intro v' w' ho' hg'
  obtain ⟨ao, c, rfl⟩ := own_slice ho'
  refine k ao c w' ⟨L ++ [cs], hc.app (Cel.one hl hp h1), ?_⟩ (grown_le hg' hB (fun k e => (hown.lt k e).1))
  rw [List.length_append, List.length_singleton, List.flatten_append, List.flatten_cons, List.flatten_nil, List.append_nil]
  exact ho'
theorem wantR {c p q : Prop} [Decidable c] (hc : c) (h : p) : if c then p else q := by rw [if_pos hc]; exact h
end Go.Proofs.YtmopffaocamieaaGreat
