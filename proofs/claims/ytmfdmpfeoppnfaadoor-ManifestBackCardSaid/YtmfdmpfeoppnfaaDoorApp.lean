/-
  Slices that grow: texts put behind texts, a crate put behind crates.
-/
import Derived.Test.YtmfdmpfeoppnfaaDoorAbv
import Derived.Test.YtmfdmpfeoppnfaaDoorTwi
namespace Go.Proofs.YtmfdmpfeoppnfaaDoor
open Go.RowKit

theorem Tryd.info9z : (Tryd.prog.info? 9).map (fun i => (i.zero, i.size, i.bytes)) = some (some (.string ⟨#[]⟩), 1, 16) := by kernel_rfl
theorem own_range {w : World} {B g cap e size n : Nat} {xs : List Value} (h : w.ownsRow B e size (.slice (some ⟨g, 0, none⟩) n cap) n xs) : w.rangeAt g 0 xs := fun j u hj => by
  rcases h.2 with ⟨e, _⟩ | ⟨g', cap', cur, e, _, hg, _, _, hs, ht⟩
  · cases e
  · cases e
    rw [Nat.zero_add, cell_of_row w g j cur _ (0, 0) hg, ← hj, ← ht, List.getElem?_take]
    have hj' : j < n * size := by
      have := h.1
      rcases Nat.lt_or_ge j xs.length with h' | h'
      · omega
      · rw [List.getElem?_eq_none h'] at hj; cases hj
    rw [if_pos hj']; simp
theorem own_same' {w w' : World} {B t s n : Nat} {v : Value} {xs : List Value} (h : w.ownsRow B t s v n xs) (hs : ∀ k, v.ownBlock = some k → w'.heap[k]? = w.heap[k]?) : w'.ownsRow B t s v n xs := by
  refine ⟨h.1, ?_⟩
  rcases h.2 with hn | ⟨g, cap, cur, rfl, hb, hgg, rest⟩
  · exact .inl hn
  · exact .inr ⟨g, cap, cur, rfl, hb, by rw [hs g rfl]; exact hgg, rest⟩
theorem own_past' {w w' : World} {B t s n : Nat} {v : Value} {xs : List Value} (h : w.ownsRow B t s v n xs) (hb : Below w.heap.size w w') : w'.ownsRow B t s v n xs :=
  own_same' h (fun k e => hb.block k (h.lt k e).2)

/-- Texts as cells. -/
def sts (D : List Bs) : List Value := D.map fun d => .string (str d)
theorem sts_one (D : List Bs) : ∀ u ∈ sts D, u.oneCell' = true := by
  intro u hu
  obtain ⟨b, _, rfl⟩ := List.mem_map.1 hu
  rfl
theorem Ss.ofOwn {w : World} {B : Nat} {v : Value} {D : List Bs} (h : w.ownsRow B 9 1 v D.length (sts D)) (hl : D.length ≤ 140737488355328) : Ss w v D := by
  rcases h.2 with ⟨rfl, h0⟩ | ⟨g, cap, cur, rfl, hrest⟩
  · obtain rfl := List.eq_nil_of_length_eq_zero h0
    exact Ss.nil _ _ _
  · refine ⟨_, _, rfl, hrest.2.2.1, hl, fun i hi => ⟨g, 0, rfl, ?_⟩⟩
    refine own_range h i _ ?_
    simp [sts, List.getD, List.getElem?_eq_getElem hi]
/-- Texts behind texts. -/
theorem app22 {ops : Array Oper} {rest : List Oper} {o : Oper} {a : Act} {w : World} {Q : Exit → Act → World → Prop} {B : Nat} {v vb : Value} {A D : List Bs} (hgd : o.guard = none) (s x : Operand)
    (ho : o.op = .call { callee := .builtin .append, args := #[s, x], argTypes := #[22, 22] }) (hs : a.eval s = v) (hown : w.ownsRow B 9 1 v A.length (sts A)) (hB : B ≤ w.heap.size)
    (hx : a.eval x = vb) (hD : Ss w vb D) (hn : A.length + D.length ≤ 5000000000)
    (k : ∀ v' w', w'.ownsRow B 9 1 v' (A ++ D).length (sts (A ++ D)) → Below B w w' → wpList Tryd.prog ops Q rest (a.put o.dst v') w') :
    wpList Tryd.prog ops Q (o :: rest) a w := by
  obtain ⟨i0, hi, hz0, hz1, hz2⟩ := info_parts Tryd.info9z
  obtain ⟨ao, cap, rfl, h1, h2, h3⟩ := hD.shape
  have key : ∀ (ad : Addr), ao = some ad → (∀ j u, (sts D)[j]? = some u → w.cell? (ad.add j) = some u) → wpList Tryd.prog ops Q (o :: rest) a w := by
    intro ad hv hc
    subst hv
    refine wpList_append_own_at (w := w) hgd s x 22 ho B 9 i0 (.string ⟨#[]⟩) 1 16 Tryd.underlying22 hi hz0 hz1 hz2 rfl (by decide) _ A.length (sts A) hs hown ad D.length cap (sts D) hx (by simp [sts]) hc (sts_one D) (by unfold maxLen; omega) (by omega) hB ?_
    intro v' w' hown' hgrow _ _
    refine k v' w' ?_ (below_grown hgrow hB (fun k e => (hown.lt k e).1))
    rw [List.length_append]
    unfold sts at hown' ⊢
    rw [List.map_append]; exact hown'
  cases ao with
  | some ad =>
    refine key ad rfl (fun j u hj => ?_)
    have hlt : j < D.length := by
      rcases Nat.lt_or_ge j D.length with h | h
      · exact h
      · rw [List.getElem?_eq_none (by simpa [sts] using h)] at hj; cases hj
    obtain ⟨b, oo, e, hc⟩ := h3 j hlt
    cases e
    rw [addr_add, hc]
    simp only [sts, List.getElem?_map, List.getElem?_eq_getElem hlt, Option.map_some] at hj
    rw [getD_eq D j [] hlt]; exact hj
  | none =>
    have h0 : D = [] := by
      rcases Nat.eq_zero_or_pos D.length with h | h
      · exact List.eq_nil_of_length_eq_zero h
      · obtain ⟨_, _, e, _⟩ := h3 0 h
        cases e
    subst h0
    refine wpList_plain hgd fun K hK => ?_
    obtain ⟨va, vn, vc, rfl⟩ : ∃ va vn vc, v = .slice va vn vc := by
      rcases hown.2 with ⟨rfl, _⟩ | ⟨g, cap, cur, rfl, _⟩
      · exact ⟨_, _, _, rfl⟩
      · exact ⟨_, _, _, rfl⟩
    have hvc : vn ≤ vc := by
      rcases hown.2 with ⟨e, _⟩ | ⟨g, cap, cur, e, hr⟩
      · cases e; exact Nat.le_refl _
      · cases e; exact hr.2.2.1
    have hr : (Builtin.append_ #[22, 22] o.type #[.slice va vn vc, .slice none 0 cap]).run Tryd.prog w = .ok (.slice va vn vc) w := by
      have hv' : ¬ vc < vn := by omega
      have hbig : ¬ (9223372036854775807 < (vn : Int)) := by
        rcases hown.2 with ⟨e, _⟩ | ⟨g, cap, cur, e, hr⟩
        · cases e; simp
        · cases e; have := hr.2.2.2.1; unfold maxLen at this; omega
      cases va <;> simp [Builtin.append_, run_underlying Tryd.underlying22, sizeOf, typeInfo, hi, storeCells, Builtin.lenOf, Builtin.firstCells, hv', hbig]
    unfold Oper.wp execOp
    simp only [ho, resolve, invoke, builtin, Sem.run_bind, Sem.run_pure, Result.andThen_ok, List.map_toArray, List.map_cons, List.map_nil, hs, hx]
    simp only [List.length_nil, hr]
    refine hK _ _ (k _ _ ?_ (Below.refl _ _))
    rw [List.append_nil]; exact hown

/-- Crates as cells; V: their lists of dependencies, as slices. -/
def svs : List Src → List Value → List Value
  | x :: L, d :: V => .string (str x.name) :: d :: .string (str x.text) :: svs L V
  | _, _ => []
theorem svs_len : ∀ (L : List Src) (V : List Value), V.length = L.length → (svs L V).length = L.length * 3
  | [], [], _ => rfl
  | x :: L, d :: V, h => by simp [svs, svs_len L V (by simpa using h)]; omega
theorem svs_snoc : ∀ (L : List Src) (V : List Value) (x : Src) (d : Value), V.length = L.length → svs (L ++ [x]) (V ++ [d]) = svs L V ++ [.string (str x.name), d, .string (str x.text)]
  | [], [], x, d, _ => rfl
  | y :: L, e :: V, x, d, h => by simp [svs, svs_snoc L V x d (by simpa using h)]
theorem svs_get : ∀ (L : List Src) (V : List Value) (i : Nat), V.length = L.length → i < L.length →
    (svs L V)[i * 3]? = some (.string (str (L.getD i Src.zero).name)) ∧ (svs L V)[i * 3 + 1]? = some (V.getD i undef) ∧ (svs L V)[i * 3 + 2]? = some (.string (str (L.getD i Src.zero).text))
  | x :: L, d :: V, 0, _, _ => by simp [svs]
  | x :: L, d :: V, i + 1, h, hi => by
    have := svs_get L V i (by simpa using h) (by simpa using hi)
    rw [show (i + 1) * 3 = i * 3 + 3 by omega]
    simpa [svs] using this
theorem svs_text : ∀ (L : List Src) (V : List Value) (x : Src) (l : Bs), V.length = (L ++ [x]).length → svs (L ++ [{ x with text := l }]) V = (svs (L ++ [x]) V).set (L.length * 3 + 2) (.string (str l))
  | [], [d], x, l, _ => rfl
  | y :: L, e :: V, x, l, h => by
    have := svs_text L V x l (by simpa using h)
    simp only [List.cons_append, svs, this, List.length_cons]
    rw [show (L.length + 1) * 3 + 2 = L.length * 3 + 2 + 3 by omega]
    simp
/-- Blocks of texts stay. -/
structure St9 (w w' : World) : Prop where
  row : ∀ g L, Row w g 9 L → Row w' g 9 L
theorem St9.refl (w : World) : St9 w w := ⟨fun _ _ h => h⟩
theorem St9.trans {a b c : World} (h : St9 a b) (k : St9 b c) : St9 a c := ⟨fun g L r => k.row g L (h.row g L r)⟩
theorem St9.of {w w' : World} (h : Below w.heap.size w w') : St9 w w' := ⟨fun _ _ r => r.below h r.lt⟩
theorem St9.s9 {w w' : World} {v : Value} {D : List Bs} (h : St9 w w') (s : S9 w v D) : S9 w' v D := by
  refine ⟨s.len, ?_⟩
  rcases s.shape with h' | ⟨g, e, hr⟩
  · exact .inl h'
  · exact .inr ⟨g, e, h.row _ _ hr⟩
theorem St9.setCell {w : World} {g j t : Nat} {L : List Value} {v : Value} (h : Row w g t L) (ht : t ≠ 9) : St9 w (w.setCell ⟨g, j, none⟩ v) := by
  refine ⟨fun k M r => r.other (fun e => ?_) v⟩
  subst e
  have := h.heap.symm.trans r.heap
  simp only [Option.some.injEq, Obj.cells.injEq] at this
  exact ht this.2.1
theorem St9.grown {w w' : World} {row : Option Nat} (h : w.grownBy w' row) (hr : ∀ k, row = some k → ∃ c, w.heap[k]? = some (.cells c 43 (0, 0))) : St9 w w' := by
  refine ⟨fun g L r => ⟨?_⟩⟩
  rw [h.block g r.lt ?_]
  · exact r.heap
  · intro e
    obtain ⟨c, hc⟩ := hr g e.symm
    have := hc.symm.trans r.heap
    simp at this
theorem St9.setRow {w : World} {g t : Nat} {L : List Value} (h : Row w g t L) (ht : t ≠ 9) (M : Array Value) : St9 w (w.setRow g M) := by
  refine ⟨fun k N r => r.setRow_other (fun e => ?_) M⟩
  subst e
  have := h.heap.symm.trans r.heap
  simp only [Option.some.injEq, Obj.cells.injEq] at this
  exact ht this.2.1
theorem below_setRow {B : Nat} {w w' : World} {g : Nat} (h : Below B w w') (hg : B ≤ g) (M : Array Value) : Below B w (w'.setRow g M) := by
  refine ⟨h.os, h.tape, h.output, ?_, fun k hk => ?_⟩
  · have := h.size; simpa [World.setRow] using this
  · rw [← h.block k hk]
    simp only [World.setRow, Array.getElem?_modify]
    rw [if_neg (by omega)]

theorem Srs.ofOwn {w : World} {B : Nat} {v : Value} {L : List Src} {V : List Value} (h : w.ownsRow B 43 3 v L.length (svs L V)) (hV : V.length = L.length) (hl : L.length ≤ 46912496118442) (hd : ∀ i, i < L.length → S9 w (V.getD i undef) (L.getD i Src.zero).deps) : Srs w v L := by
  rcases h.2 with ⟨rfl, h0⟩ | ⟨g, cap, cur, rfl, hrest⟩
  · obtain rfl := List.eq_nil_of_length_eq_zero h0
    exact Srs.nil _ _ _
  · refine ⟨_, _, rfl, hrest.2.2.1, hl, fun i hi => ?_⟩
    obtain ⟨e0, e1, e2⟩ := svs_get L V i hV hi
    have r := own_range h
    exact ⟨g, 0, V.getD i undef, rfl, r _ _ e0, by have := r _ _ e1; rwa [← Nat.add_assoc] at this, by have := r _ _ e2; rwa [← Nat.add_assoc] at this, (hd i hi).ss⟩

/-- One more crate: a slice of one, and append. -/
theorem build43 {ops : Array Oper} {rest : List Oper} {o : Oper} {a : Act} {w : World} {Q : Exit → Act → World → Prop} (hgd : o.guard = none) (x : Operand) (ho : o.op = .buildSlice 24 1 #[(0, x)])
    (p q r : Value) (hx : a.eval x = .agg #[p, q, r])
    (k : wpList Tryd.prog ops Q rest (a.put o.dst (.slice (some ⟨w.heap.size, 0, none⟩) 1 1)) (w.alloc (.cells #[p, q, r] 43))) : wpList Tryd.prog ops Q (o :: rest) a w := by
  obtain ⟨i0, hi, hz0, hz1, hz2⟩ := info_parts Tryd.info43z
  refine wpList_plain hgd fun _ hK => wp_buildSlice 24 43 1 _ ho #[p, q, r] i0 (.agg #[.string ⟨#[]⟩, .slice none 0 0, .string ⟨#[]⟩]) Tryd.underlying24 hi hz0 (by rw [hz1]; decide) (by rw [hz1]; decide) ?_ (hK _ _ k)
  have hw := Go.Great.fill_whole (s := 3) (by decide) [.agg #[p, q, r]] ((Array.range (1 * 3)).map ((Value.agg #[.string ⟨#[]⟩, .slice none 0 0, .string ⟨#[]⟩]).cells[· % (Value.agg #[.string ⟨#[]⟩, .slice none 0 0, .string ⟨#[]⟩]).cells.size]!)) (by simp [Value.cells]) (by simp)
  rw [hz1]
  simp only [List.map_toArray, List.map_cons, List.map_nil, hx]
  simp only [List.zipIdx_cons, List.zipIdx_nil, List.map_cons, List.map_nil] at hw
  refine Eq.trans hw ?_
  simp [Value.cells]
theorem app43 {ops : Array Oper} {rest : List Oper} {o : Oper} {a : Act} {w : World} {Q : Exit → Act → World → Prop} {B : Nat} {v : Value} {L : List Src} {V : List Value} (hgd : o.guard = none) (s x : Operand)
    (ho : o.op = .call { callee := .builtin .append, args := #[s, x], argTypes := #[24, 24] }) (hs : a.eval s = v) (hown : w.ownsRow B 43 3 v L.length (svs L V)) (hV : V.length = L.length) (hB : B ≤ w.heap.size)
    (g c : Nat) (y : Src) (d : Value) (hd : d.oneCell' = true) (hx : a.eval x = .slice (some ⟨g, 0, none⟩) 1 c) (hr : w.rangeAt g 0 [.string (str y.name), d, .string (str y.text)]) (hn : L.length ≤ 10000000)
    (k : ∀ v' w', w'.ownsRow B 43 3 v' (L ++ [y]).length (svs (L ++ [y]) (V ++ [d])) → Below B w w' → w.grownBy w' v.ownBlock → wpList Tryd.prog ops Q rest (a.put o.dst v') w') :
    wpList Tryd.prog ops Q (o :: rest) a w := by
  obtain ⟨i0, hi, hz0, hz1, hz2⟩ := info_parts Tryd.info43z
  refine wpList_append_own_at (w := w) hgd s x 24 ho B 43 i0 (.agg #[.string ⟨#[]⟩, .slice none 0 0, .string ⟨#[]⟩]) 3 56 Tryd.underlying24 hi hz0 hz1 hz2 rfl (by decide) _ L.length _ hs hown ⟨g, 0, none⟩ 1 c [.string (str y.name), d, .string (str y.text)] hx rfl (fun j u hj => by rw [addr_add]; exact hr j u hj) ?_ (by unfold maxLen; omega) (by omega) hB ?_
  · intro u hu
    simp only [List.mem_cons, List.not_mem_nil, or_false] at hu
    rcases hu with rfl | rfl | rfl
    · rfl
    · exact hd
    · rfl
  intro v' w' hown' hgrow _ _
  refine k v' w' ?_ (below_grown hgrow hB (fun k e => (hown.lt k e).1)) hgrow
  rw [List.length_append, svs_snoc L V y d hV]
  exact hown'
end Go.Proofs.YtmfdmpfeoppnfaaDoor
