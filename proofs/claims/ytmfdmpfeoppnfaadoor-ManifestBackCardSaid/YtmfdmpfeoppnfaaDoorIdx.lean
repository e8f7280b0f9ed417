/-
  Where the dependencies stand.
-/
import Derived.Test.YtmfdmpfeoppnfaaDoorPlc
namespace Go.Proofs.YtmfdmpfeoppnfaaDoor
open Go.RowKit Go.Maps

/-- A crate whose dependencies are all there. -/
def inAll (N : List Bs) (x : Src) : Bool := x.deps.all fun d => decide (d ∈ N)
def rowOf (N : List Bs) (x : Src) : List Nat := x.deps.map N.idxOf
def idxF (L : List Src) : Except Nat (List (List Nat)) :=
  match L.findIdx? fun x => !inAll (L.map (·.name)) x with
  | some i => .error i
  | none => .ok (L.map (rowOf (L.map (·.name))))
theorem idxF_err {L : List Src} {k : Nat} (hk : k < L.length) (h : ∀ j, j < k → inAll (L.map (·.name)) (L.getD j Src.zero) = true) (hn : inAll (L.map (·.name)) (L.getD k Src.zero) = false) : idxF L = .error k := by
  unfold idxF
  have : L.findIdx? (fun x => !inAll (L.map (·.name)) x) = some k := by
    rw [List.findIdx?_eq_some_iff_getElem]
    refine ⟨hk, ?_, fun j hj => ?_⟩
    · rw [getD_eq L k _ hk] at hn; simp [hn]
    · have := h j hj
      rw [getD_eq L j _ (by omega)] at this
      simp [this]
  rw [this]
theorem idxF_ok {L : List Src} (h : ∀ j, j < L.length → inAll (L.map (·.name)) (L.getD j Src.zero) = true) : idxF L = .ok (L.map (rowOf (L.map (·.name)))) := by
  unfold idxF
  have : L.findIdx? (fun x => !inAll (L.map (·.name)) x) = none := by
    rw [List.findIdx?_eq_none_iff]
    intro x hx
    obtain ⟨j, hj, e⟩ := List.getElem_of_mem hx
    have := h j hj
    rw [getD_eq L j _ hj, e] at this
    simp [this]
  rw [this]

/-- The slice v holds these numbers. -/
structure Is (w : World) (v : Value) (r : List Nat) : Prop where
  shape : ∃ ao cap, v = .slice ao r.length cap ∧ r.length ≤ cap ∧ r.length ≤ 140737488355328 ∧ ∀ i, i < r.length → ∃ b o, ao = some ⟨b, o, none⟩ ∧ w.cell? ⟨b, o + i, none⟩ = some (.int .i64 ((r.getD i 0 : Nat) : Int))
theorem Is.below {w w' : World} {v : Value} {r : List Nat} (h : Is w v r) (hb : Below w.heap.size w w') : Is w' v r := by
  obtain ⟨ao, cap, rfl, h1, h2, h3⟩ := h.shape
  refine ⟨ao, cap, rfl, h1, h2, fun i hi => ?_⟩
  obtain ⟨b, o, e, hc⟩ := h3 i hi
  exact ⟨b, o, e, Below.cellOf hb hc⟩
/-- The slice v holds these rows of numbers. -/
structure Rs (w : World) (v : Value) (R : List (List Nat)) : Prop where
  shape : ∃ ao cap, v = .slice ao R.length cap ∧ R.length ≤ cap ∧ R.length ≤ 5864062014805 ∧ ∀ i, i < R.length → ∃ b o dv, ao = some ⟨b, o, none⟩ ∧ w.cell? ⟨b, o + i, none⟩ = some dv ∧ Is w dv (R.getD i [])
theorem Rs.below {w w' : World} {v : Value} {R : List (List Nat)} (h : Rs w v R) (hb : Below w.heap.size w w') : Rs w' v R := by
  obtain ⟨ao, cap, rfl, h1, h2, h3⟩ := h.shape
  refine ⟨ao, cap, rfl, h1, h2, fun i hi => ?_⟩
  obtain ⟨b, o, dv, e, hc, hs⟩ := h3 i hi
  exact ⟨b, o, dv, e, Below.cellOf hb hc, hs.below hb⟩
theorem by_trans {a b c : World} {g : Nat} (h : a.grownBy b (some g)) (k : b.grownBy c (some g)) : a.grownBy c (some g) :=
  ⟨k.os.trans h.os, k.tape.trans h.tape, k.output.trans h.output, Nat.le_trans h.size k.size, fun j hj hne => (k.block j (Nat.lt_of_lt_of_le hj h.size) hne).trans (h.block j hj hne)⟩
theorem by_below {w w' : World} {g : Nat} (h : Below w.heap.size w w') : w.grownBy w' (some g) := ⟨h.os, h.tape, h.output, h.size, fun k hk _ => h.block k hk⟩
theorem by_set (w : World) (g j : Nat) (u : Value) : w.grownBy (w.setCell ⟨g, j, none⟩ u) (some g) :=
  ⟨rfl, rfl, rfl, by simp [World.setCell], fun k _ hne => heap_setCell_other w ⟨g, j, none⟩ k u (fun e => hne (by rw [e]))⟩
theorem Is.kept {g : Nat} {w w' : World} {v : Value} {r : List Nat} {C : List Value} (s : Is w v r) (h : w.grownBy w' (some g)) (hr : Row w g 23 C) (hC : ∀ c ∈ C, ∃ ao n cap, c = .slice ao n cap) : Is w' v r := by
  obtain ⟨ao, cap, rfl, h1, h2, h3⟩ := s.shape
  refine ⟨ao, cap, rfl, h1, h2, fun i hi => ?_⟩
  obtain ⟨b, o, e, hc⟩ := h3 i hi
  refine ⟨b, o, e, ?_⟩
  rw [← hc]
  refine World.cell?_of_block (w := w) (h.block b (World.block_lt_of_cell? w _ hc) ?_)
  intro e
  cases e
  rw [hr.cell] at hc
  obtain ⟨_, _, _, e⟩ := hC _ (List.mem_of_getElem? hc)
  cases e
theorem Tryd.info3z : (Tryd.prog.info? 3).map (fun i => (i.zero, i.size, i.bytes)) = some (some (.int .i64 0), 1, 8) := by kernel_rfl
/-- Numbers as cells. -/
def nms (r : List Nat) : List Value := r.map fun (n : Nat) => .int .i64 (n : Int)
/-- One more number. -/
theorem app23 {ops : Array Oper} {rest : List Oper} {o : Oper} {a : Act} {w : World} {Q : Exit → Act → World → Prop} {B : Nat} {v : Value} {r : List Nat} (hgd : o.guard = none) (s x : Operand)
    (ho : o.op = .call { callee := .builtin .append, args := #[s, x], argTypes := #[23, 23] }) (hs : a.eval s = v) (hown : w.ownsRow B 3 1 v r.length (nms r)) (hB : B ≤ w.heap.size)
    (g c n : Nat) (hx : a.eval x = .slice (some ⟨g, 0, none⟩) 1 c) (hr : w.cell? ⟨g, 0, none⟩ = some (.int .i64 (n : Int))) (hn : r.length ≤ 10000000000)
    (k : ∀ v' w', w'.ownsRow B 3 1 v' (r ++ [n]).length (nms (r ++ [n])) → Below B w w' → w.grownBy w' v.ownBlock → wpList Tryd.prog ops Q rest (a.put o.dst v') w') :
    wpList Tryd.prog ops Q (o :: rest) a w := by
  obtain ⟨i0, hi, hz0, hz1, hz2⟩ := info_parts Tryd.info3z
  refine wpList_append_own_at (w := w) hgd s x 23 ho B 3 i0 (.int .i64 0) 1 8 Tryd.underlying23 hi hz0 hz1 hz2 rfl (by decide) _ r.length _ hs hown ⟨g, 0, none⟩ 1 c [.int .i64 (n : Int)] hx rfl (fun j u hj => ?_) ?_ (by unfold maxLen; omega) (by omega) hB ?_
  · cases j with
    | zero => simp at hj; rw [addr_add, ← hj]; exact hr
    | succ j => simp at hj
  · intro u hu
    simp at hu; subst hu; rfl
  intro v' w' hown' hgrow _ _
  refine k v' w' ?_ (below_grown hgrow hB (fun k e => (hown.lt k e).1)) hgrow
  rw [List.length_append]
  unfold nms at hown' ⊢
  rw [List.map_append]; exact hown'
theorem Is.ofOwn {w : World} {B : Nat} {v : Value} {r : List Nat} (h : w.ownsRow B 3 1 v r.length (nms r)) (hl : r.length ≤ 140737488355328) : Is w v r := by
  rcases h.2 with ⟨rfl, h0⟩ | ⟨g, cap, cur, rfl, hrest⟩
  · obtain rfl := List.eq_nil_of_length_eq_zero h0
    exact ⟨_, _, rfl, Nat.le_refl _, by simp, fun i hi => by simp at hi⟩
  · refine ⟨_, _, rfl, hrest.2.2.1, hl, fun i hi => ⟨g, 0, rfl, ?_⟩⟩
    refine own_range h i _ ?_
    simp [nms, List.getD, List.getElem?_eq_getElem hi]
theorem own_ne3 {w : World} {B n g t : Nat} {v : Value} {xs M : List Value} (h : w.ownsRow B 3 1 v n xs) (r : Row w g t M) (ht : t ≠ 3) : ∀ k, v.ownBlock = some k → k ≠ g := by
  intro k hk e
  rcases h.2 with ⟨rfl, _⟩ | ⟨g', cap, cur, rfl, _, hg, _⟩
  · cases hk
  · cases hk
    subst e
    have := hg.symm.trans r.heap
    simp only [Option.some.injEq, Obj.cells.injEq] at this
    exact ht this.2.1.symm
end Go.Proofs.YtmfdmpfeoppnfaaDoor
