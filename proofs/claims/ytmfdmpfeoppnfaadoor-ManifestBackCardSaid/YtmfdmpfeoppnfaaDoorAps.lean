/-
  Crates put behind crates.
-/
import Derived.Test.YtmfdmpfeoppnfaaDoorSam
namespace Go.Proofs.YtmfdmpfeoppnfaaDoor
open Go.RowKit

theorem wanted_plain {P : Program} {ops : Array Oper} {rest : List Oper} {o : Oper} {a : Act} {w : World} {Q : Exit → Act → World → Prop} (hgd : Region.wanted o (yielded ops a.tmps) = true)
    (h : ∀ K : Act → World → Prop, (∀ a w, wpList P ops Q rest a w → K a w) → o.wp P a w K Q) : wpList P ops Q (o :: rest) a w :=
  wpList_step fun K hK => by rw [if_pos hgd]; exact h K hK
/-- Own memory behind w0 that holds crates whose dependencies lay there at w0. -/
structure Ow (w0 w : World) (v : Value) (L : List Src) : Prop where
  below : Below w0.heap.size w0 w
  ex : ∃ V, w.ownsRow w0.heap.size 43 3 v L.length (svs L V) ∧ V.length = L.length ∧ ∀ i, i < L.length → Ss w0 (V.getD i undef) (L.getD i Src.zero).deps
theorem Ss.one {w : World} {v : Value} {D : List Bs} (h : Ss w v D) : v.oneCell' = true := by
  obtain ⟨_, _, rfl, _⟩ := h.shape; rfl
theorem Ow.srs {w0 w : World} {v : Value} {L : List Src} (h : Ow w0 w v L) (hl : L.length ≤ 46912496118442) : Srs w v L := by
  obtain ⟨V, o, hV, hs⟩ := h.ex
  rcases o.2 with ⟨rfl, h0⟩ | ⟨g, cap, cur, rfl, hrest⟩
  · obtain rfl := List.eq_nil_of_length_eq_zero h0
    exact Srs.nil _ _ _
  · refine ⟨_, _, rfl, hrest.2.2.1, hl, fun i hi => ?_⟩
    obtain ⟨e0, e1, e2⟩ := svs_get L V i hV hi
    have r := own_range o
    exact ⟨g, 0, V.getD i undef, rfl, r _ _ e0, by have := r _ _ e1; rwa [← Nat.add_assoc] at this, by have := r _ _ e2; rwa [← Nat.add_assoc] at this, (hs i hi).below h.below⟩
theorem svs_app : ∀ (A : List Src) (V : List Value) (L : List Src) (U : List Value), V.length = A.length → svs (A ++ L) (V ++ U) = svs A V ++ svs L U
  | [], [], L, U, _ => rfl
  | x :: A, d :: V, L, U, h => by simp [svs, svs_app A V L U (by simpa using h)]
theorem svs_one : ∀ (L : List Src) (V : List Value), (∀ d ∈ V, d.oneCell' = true) → ∀ u ∈ svs L V, u.oneCell' = true
  | [], V, _, u, hu => by cases V <;> simp [svs] at hu
  | x :: L, [], _, u, hu => by simp [svs] at hu
  | x :: L, d :: V, h, u, hu => by
    simp only [svs, List.mem_cons] at hu
    rcases hu with rfl | rfl | rfl | hu
    · rfl
    · exact h _ List.mem_cons_self
    · rfl
    · exact svs_one L V (fun e he => h e (List.mem_cons_of_mem _ he)) u hu
/-- A slice's crates as cells. -/
theorem Srs.cells {w : World} {v : Value} {L : List Src} (h : Srs w v L) : ∃ ao cap V, v = .slice ao L.length cap ∧ V.length = L.length ∧ (∀ i, i < L.length → Ss w (V.getD i undef) (L.getD i Src.zero).deps) ∧ (∀ j u, (svs L V)[j]? = some u → ∃ b o, ao = some ⟨b, o, none⟩ ∧ w.cell? ⟨b, o + j, none⟩ = some u) := by
  obtain ⟨ao, cap, rfl, h1, h2, h3⟩ := h.shape
  have hV : ∀ n, n ≤ L.length → ∃ V : List Value, V.length = n ∧ ∀ i, i < n → ∃ b o, ao = some ⟨b, o, none⟩ ∧ w.cell? ⟨b, o + i * 3, none⟩ = some (.string (str (L.getD i Src.zero).name)) ∧ w.cell? ⟨b, o + i * 3 + 1, none⟩ = some (V.getD i undef) ∧ w.cell? ⟨b, o + i * 3 + 2, none⟩ = some (.string (str (L.getD i Src.zero).text)) ∧ Ss w (V.getD i undef) (L.getD i Src.zero).deps := by
    intro n
    induction n with
    | zero => exact fun _ => ⟨[], rfl, fun i hi => by omega⟩
    | succ n ih =>
      intro hn
      obtain ⟨V, hl, hc⟩ := ih (by omega)
      obtain ⟨b, o, dv, e, c0, c1, c2, cs⟩ := h3 n (by omega)
      refine ⟨V ++ [dv], by simp [hl], fun i hi => ?_⟩
      rcases Nat.lt_or_ge i n with h' | h'
      · have e1 : (V ++ [dv]).getD i undef = V.getD i undef := by simp [List.getD, List.getElem?_append_left (show i < V.length by omega)]
        rw [e1]; exact hc i h'
      · obtain rfl : i = n := by omega
        have e1 : (V ++ [dv]).getD i undef = dv := by simp [List.getD, ← hl]
        rw [e1]; exact ⟨b, o, e, c0, c1, c2, cs⟩
  obtain ⟨V, hl, hc⟩ := hV L.length (Nat.le_refl _)
  refine ⟨ao, cap, V, rfl, hl, fun i hi => ?_, fun j u hj => ?_⟩
  · obtain ⟨_, _, _, _, _, _, hs⟩ := hc i hi; exact hs
  · have hjl : j < L.length * 3 := by
      rcases Nat.lt_or_ge j (L.length * 3) with h' | h'
      · exact h'
      · rw [List.getElem?_eq_none (by rw [svs_len L V hl]; exact h')] at hj; cases hj
    have hi : j / 3 < L.length := by omega
    obtain ⟨b, o, e, c0, c1, c2, -⟩ := hc (j / 3) hi
    obtain ⟨e0, e1, e2⟩ := svs_get L V (j / 3) hl hi
    refine ⟨b, o, e, ?_⟩
    have : j = j / 3 * 3 ∨ j = j / 3 * 3 + 1 ∨ j = j / 3 * 3 + 2 := by omega
    rcases this with h' | h' | h'
    · rw [h', e0] at hj; rw [h', c0]; exact hj
    · rw [h', e1] at hj; rw [h', ← Nat.add_assoc, c1]; exact hj
    · rw [h', e2] at hj; rw [h', ← Nat.add_assoc, c2]; exact hj
theorem app24 {ops : Array Oper} {rest : List Oper} {o : Oper} {a : Act} {w0 w : World} {Q : Exit → Act → World → Prop} {v u : Value} {A L : List Src} (hgd : Region.wanted o (yielded ops a.tmps) = true) (s x : Operand)
    (ho : o.op = .call { callee := .builtin .append, args := #[s, x], argTypes := #[24, 24] }) (hs : a.eval s = v) (hown : Ow w0 w v A) (hx : a.eval x = u) (hL : Srs w0 u L) (hn : A.length + L.length ≤ 1000000)
    (k : ∀ v' w', Ow w0 w' v' (A ++ L) → wpList Tryd.prog ops Q rest (a.put o.dst v') w') :
    wpList Tryd.prog ops Q (o :: rest) a w := by
  obtain ⟨i0, hi, hz0, hz1, hz2⟩ := info_parts Tryd.info43z
  obtain ⟨VA, oA, hVA, hsA⟩ := hown.ex
  obtain ⟨ao, cap, V, rfl, hV, hsL, hc⟩ := hL.cells
  have hB := hown.below.size
  refine wanted_plain hgd fun K hK => ?_
  have hone : ∀ d ∈ V, d.oneCell' = true := by
    intro d hd
    obtain ⟨j, hj, rfl⟩ := List.getElem_of_mem hd
    have := (hsL j (by omega)).one
    rwa [getD_eq V j _ hj] at this
  have fin : ∀ v' w', w'.ownsRow w0.heap.size 43 3 v' (A.length + L.length) (svs A VA ++ svs L V) → Below w0.heap.size w w' → Ow w0 w' v' (A ++ L) := by
    intro v' w' o' b'
    refine ⟨hown.below.trans b', VA ++ V, ?_, by simp [hVA, hV], fun i hi => ?_⟩
    · rw [List.length_append, svs_app A VA L V hVA]; exact o'
    · rw [List.length_append] at hi
      rcases Nat.lt_or_ge i A.length with h' | h'
      · have e1 : (VA ++ V).getD i undef = VA.getD i undef := by simp [List.getD, List.getElem?_append_left (show i < VA.length by omega)]
        have e2 : (A ++ L).getD i Src.zero = A.getD i Src.zero := by simp [List.getD, List.getElem?_append_left h']
        rw [e1, e2]; exact hsA i h'
      · have e1 : (VA ++ V).getD i undef = V.getD (i - A.length) undef := by simp [List.getD, List.getElem?_append_right (show VA.length ≤ i by omega), hVA]
        have e2 : (A ++ L).getD i Src.zero = L.getD (i - A.length) Src.zero := by simp [List.getD, List.getElem?_append_right h']
        rw [e1, e2]; exact hsL _ (by omega)
  cases ao with
  | some ad =>
    obtain ⟨v', w', hr, h2, h3, h4, h5⟩ := run_append_own_at (P := Tryd.prog) w w0.heap.size 24 o.type 43 i0 (.agg #[.string ⟨#[]⟩, .slice none 0 0, .string ⟨#[]⟩]) 3 56 Tryd.underlying24 hi hz0 hz1 hz2 rfl (by decide) v A.length (svs A VA) oA ad L.length cap (svs L V) (svs_len L V hV)
      (fun j u hj => by
        obtain ⟨b, oo, e, hcc⟩ := hc j u hj
        cases e
        rw [addr_add]
        exact Below.cellOf hown.below hcc) (svs_one L V hone) (by unfold maxLen; omega) (by omega) hB
    unfold Oper.wp execOp
    simp only [ho, resolve, invoke, builtin, Sem.run_bind, Sem.run_pure, Result.andThen_ok, List.map_toArray, List.map_cons, List.map_nil, hs, hx, hr]
    exact hK _ _ (k v' w' (fin v' w' h2 (below_grown h3 hB (fun k e => (oA.lt k e).1))))
  | none =>
    have h0 : L = [] := by
      cases L with
      | nil => rfl
      | cons x L =>
        cases V with
        | nil => simp at hV
        | cons d V =>
          obtain ⟨_, _, e, _⟩ := hc 0 _ rfl
          cases e
    subst h0
    obtain ⟨va, vc, rfl⟩ := own_slice oA
    have hvc : ¬ vc < A.length := by
      rcases oA.2 with ⟨e, e2⟩ | ⟨g, cap, cur, e, hr⟩
      · simp only [Value.slice.injEq] at e; omega
      · simp only [Value.slice.injEq] at e; have := hr.2.2.1; omega
    have hbig : ¬ (9223372036854775807 < (A.length : Int)) := by omega
    have hr : (Builtin.append_ #[24, 24] o.type #[.slice va A.length vc, .slice none 0 cap]).run Tryd.prog w = .ok (.slice va A.length vc) w := by
      cases va <;> simp [Builtin.append_, run_underlying Tryd.underlying24, sizeOf, typeInfo, hi, storeCells, Builtin.lenOf, Builtin.firstCells, hvc, hbig]
    unfold Oper.wp execOp
    simp only [ho, resolve, invoke, builtin, Sem.run_bind, Sem.run_pure, Result.andThen_ok, List.map_toArray, List.map_cons, List.map_nil, hs, hx]
    simp only [List.length_nil, hr]
    refine hK _ _ (k _ _ ?_)
    rw [List.append_nil]; exact hown
end Go.Proofs.YtmfdmpfeoppnfaaDoor
