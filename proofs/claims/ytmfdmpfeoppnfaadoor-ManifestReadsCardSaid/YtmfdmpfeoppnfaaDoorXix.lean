/-
  The document's Index.
-/
import Derived.Test.YtmfdmpfeoppnfaaDoorXin
import Derived.OwnWalk
namespace Go.Proofs.YtmfdmpfeoppnfaaDoor
open Go.RowKit

/-- Where the first crate of a name stands among those from k on. -/
def atF (N : List Bs) (d : Bs) (k : Nat) : Int := if d ∈ N.drop k then ((k + (N.drop k).idxOf d : Nat) : Int) else -1
theorem atF_end (N : List Bs) (d : Bs) : atF N d N.length = -1 := by simp [atF]
theorem atF_step {N : List Bs} {d : Bs} {k : Nat} (hk : k < N.length) : atF N d k = if N.getD k [] = d then (k : Int) else atF N d (k + 1) := by
  unfold atF
  rw [List.drop_eq_getElem_cons hk, getD_eq N k [] hk]
  by_cases h : N[k] = d
  · rw [if_pos h, if_pos (by rw [h]; simp), h]; simp
  · rw [if_neg h]
    by_cases hm : d ∈ N.drop (k + 1)
    · rw [if_pos hm, if_pos (List.mem_cons_of_mem _ hm)]
      rw [List.idxOf_cons]
      have : (N[k] == d) = false := by simpa using h
      rw [this]; simp; omega
    · rw [if_neg hm, if_neg]
      simp only [List.mem_cons, not_or]
      exact ⟨fun e => h e.symm, hm⟩
theorem atF_zero (N : List Bs) (d : Bs) : atF N d 0 = if d ∈ N then ((N.idxOf d : Nat) : Int) else -1 := by simp [atF]
/-- Numbers in blocks of numbers. -/
structure T3 (w : World) (v : Value) (r : List Nat) : Prop where
  len : r.length ≤ 5000000000
  shape : ∃ ao cap, v = .slice ao r.length cap ∧ r.length ≤ cap ∧ ∀ i, i < r.length → ∃ b M, ao = some ⟨b, 0, none⟩ ∧ Row w b 3 M ∧ M[i]? = some (.int .i64 ((r.getD i 0 : Nat) : Int))
structure St3 (w w' : World) : Prop where
  row : ∀ g L, Row w g 3 L → Row w' g 3 L
theorem St3.of {w w' : World} (h : Below w.heap.size w w') : St3 w w' := ⟨fun _ _ r => r.below h r.lt⟩
theorem St3.grown {w w' : World} {row : Option Nat} (h : w.grownBy w' row) (hr : ∀ k, row = some k → ∃ c, w.heap[k]? = some (.cells c 23 (0, 0))) : St3 w w' := by
  refine ⟨fun g L r => ⟨?_⟩⟩
  rw [h.block g r.lt ?_]
  · exact r.heap
  · intro e
    obtain ⟨c, hc⟩ := hr g e.symm
    have := hc.symm.trans r.heap
    simp at this
theorem T3.st {w w' : World} {v : Value} {r : List Nat} (h : T3 w v r) (hs : St3 w w') : T3 w' v r := by
  refine ⟨h.len, ?_⟩
  obtain ⟨ao, cap, e, h1, h2⟩ := h.shape
  refine ⟨ao, cap, e, h1, fun i hi => ?_⟩
  obtain ⟨b, M, e, r, hm⟩ := h2 i hi
  exact ⟨b, M, e, hs.row _ _ r, hm⟩
theorem T3.is {w : World} {v : Value} {r : List Nat} (h : T3 w v r) : Is w v r := by
  obtain ⟨ao, cap, e, h1, h2⟩ := h.shape
  have := h.len
  refine ⟨ao, cap, e, h1, by omega, fun i hi => ?_⟩
  obtain ⟨b, M, e, r, hm⟩ := h2 i hi
  exact ⟨b, 0, e, by rw [Nat.zero_add, r.cell i]; exact hm⟩
theorem T3.ofOwn {w : World} {B : Nat} {v : Value} {r : List Nat} (h : w.ownsRow B 3 1 v r.length (nms r)) (hl : r.length ≤ 5000000000) : T3 w v r := by
  refine ⟨hl, ?_⟩
  rcases h.2 with ⟨rfl, h0⟩ | ⟨g, cap, cur, rfl, hb, hg, h1, h2, h3, h4⟩
  · obtain rfl := List.eq_nil_of_length_eq_zero h0
    exact ⟨_, _, rfl, Nat.le_refl _, fun i hi => by simp at hi⟩
  · refine ⟨_, _, rfl, h1, fun i hi => ⟨g, cur.toList, rfl, ⟨by simpa using hg⟩, ?_⟩⟩
    have e : (nms r)[i]? = some (.int .i64 ((r.getD i 0 : Nat) : Int)) := by simp [nms, List.getD, List.getElem?_eq_getElem hi]
    rw [← e, ← h4, List.getElem?_take, if_pos (by omega)]
/-- The rows so far. -/
structure Ro (B : Nat) (w : World) (v : Value) (R : List (List Nat)) : Prop where
  ex : ∃ V, w.ownsRow B 23 1 v R.length V ∧ V.length = R.length ∧ ∀ i, i < R.length → T3 w (V.getD i undef) (R.getD i [])
theorem Ro.below {B : Nat} {w w' : World} {v : Value} {R : List (List Nat)} (h : Ro B w v R) (hb : Below w.heap.size w w') : Ro B w' v R := by
  obtain ⟨V, o, hV, hs⟩ := h.ex
  exact ⟨V, own_past' o hb, hV, fun i hi => (hs i hi).st (St3.of hb)⟩
theorem Ro.rs {B : Nat} {w : World} {v : Value} {R : List (List Nat)} (h : Ro B w v R) (hl : R.length ≤ 5864062014805) : Rs w v R := by
  obtain ⟨V, o, hV, hs⟩ := h.ex
  rcases o.2 with ⟨rfl, h0⟩ | ⟨g, cap, cur, rfl, hrest⟩
  · obtain rfl := List.eq_nil_of_length_eq_zero h0
    exact ⟨_, _, rfl, Nat.le_refl _, by simp, fun i hi => by simp at hi⟩
  · refine ⟨_, _, rfl, hrest.2.2.1, hl, fun i hi => ⟨g, 0, V.getD i undef, rfl, own_range o i _ ?_, (hs i hi).is⟩⟩
    simp [List.getD, List.getElem?_eq_getElem (show i < V.length by omega)]
/-- One row more. -/
theorem app35 {ops : Array Oper} {rest : List Oper} {o : Oper} {a : Act} {w : World} {Q : Exit → Act → World → Prop} {B : Nat} {v dv : Value} {R : List (List Nat)} {r : List Nat} (hgd : o.guard = none) (s x : Operand)
    (ho : o.op = .call { callee := .builtin .append, args := #[s, x], argTypes := #[35, 35] }) (hs : a.eval s = v) (hown : Ro B w v R) (hB : B ≤ w.heap.size)
    (g c : Nat) (hx : a.eval x = .slice (some ⟨g, 0, none⟩) 1 c) (hr : w.cell? ⟨g, 0, none⟩ = some dv) (hd : T3 w dv r) (hn : R.length ≤ 100000000)
    (k : ∀ v' w', Ro B w' v' (R ++ [r]) → Below B w w' → wpList Tryd.prog ops Q rest (a.put o.dst v') w') :
    wpList Tryd.prog ops Q (o :: rest) a w := by
  obtain ⟨i0, hi, hz0, hz1, hz2⟩ := info_parts Tryd.info23z
  obtain ⟨V, O, hV, hVs⟩ := hown.ex
  obtain ⟨da, dc, hdv, -⟩ := hd.shape
  refine wpList_append_own_at (w := w) hgd s x 35 ho B 23 i0 (.slice none 0 0) 1 24 Tryd.underlying35 hi hz0 hz1 hz2 rfl (by decide) _ R.length _ hs O ⟨g, 0, none⟩ 1 c [dv] hx rfl (fun j u hj => ?_) ?_ (by unfold maxLen; omega) (by omega) hB ?_
  · cases j with
    | zero => simp at hj; rw [addr_add, ← hj]; exact hr
    | succ j => simp at hj
  · intro u hu
    simp at hu; subst hu; rw [hdv]; rfl
  intro v' w' hown' hgrow _ _
  have st : St3 w w' := St3.grown hgrow (fun k hk => by
    rcases O.2 with ⟨rfl, _⟩ | ⟨g', cap, cur, rfl, _, hg, _⟩
    · cases hk
    · cases hk; exact ⟨_, hg⟩)
  refine k v' w' ⟨V ++ [dv], by rw [List.length_append]; exact hown', by simp [hV], fun i hi => ?_⟩ (below_grown hgrow hB (fun k e => (O.lt k e).1))
  simp at hi
  rcases Nat.lt_or_ge i R.length with h | h
  · have e1 : (V ++ [dv]).getD i undef = V.getD i undef := by simp [List.getD, List.getElem?_append_left (show i < V.length by omega)]
    have e2 : (R ++ [r]).getD i [] = R.getD i [] := by simp [List.getD, List.getElem?_append_left h]
    rw [e1, e2]; exact (hVs i h).st st
  · obtain rfl : i = R.length := by omega
    have e1 : (V ++ [dv]).getD R.length undef = dv := by simp [List.getD, ← hV]
    have e2 : (R ++ [r]).getD R.length [] = r := by simp [List.getD]
    rw [e1, e2]; exact hd.st st
/-- What the document's Index leaves. -/
def XiPost (w : World) (r : Except Nat (List (List Nat))) (ev : Ending) (w' : World) : Prop :=
  match r with
  | .error i => ev = .returned (.tuple #[.slice none 0 0, .int .i64 41, .int .i64 (i : Int)]) ∧ Below w.heap.size w w'
  | .ok R => ∃ v, ev = .returned (.tuple #[v, .int .i64 0, .int .i64 0]) ∧ Rs w' v R ∧ Below w.heap.size w w'
end Go.Proofs.YtmfdmpfeoppnfaaDoor
