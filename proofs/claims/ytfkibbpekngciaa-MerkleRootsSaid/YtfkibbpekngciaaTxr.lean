/-
  Rows of slices of one's own.
-/
import Derived.Test.YtfkibbpekngciaaTcl
namespace Go.Proofs.Ytfkibbpekngciaa
open Go.RowKit

/-- Two rows of unlike types are not one. -/
theorem own_two {w : World} {B B' t t' s s' n m : Nat} {u v : Value} {xs ys : List Value} (h : w.ownsRow B t s u n xs) (h' : w.ownsRow B' t' s' v m ys) (hne : t ≠ t') (k : Nat) (hk : u.ownBlock = some k) : v.ownBlock ≠ some k := fun hv => by
  rcases h.2 with ⟨rfl, _⟩ | ⟨g, cap, cur, rfl, _, hg, _⟩
  · simp [Value.ownBlock] at hk
  · rcases h'.2 with ⟨rfl, _⟩ | ⟨g', cap', cur', rfl, _, hg', _⟩
    · simp [Value.ownBlock] at hv
    · simp [Value.ownBlock] at hk hv
      subst hk
      subst hv
      rw [hg] at hg'
      cases hg'
      exact hne rfl
/-- A row of texts, all of one's own. -/
structure Tx (B : Nat) (v : Value) (T : List Bys) (w : World) : Prop where
  st : ∃ vs : List Value, w.ownsRow B 39 1 v T.length vs ∧ ∀ j, j < T.length → ∃ ao cap, vs[j]? = some (.slice ao (T.getD j []).length cap) ∧ w.ownsRow B 5 1 (.slice ao (T.getD j []).length cap) (T.getD j []).length (bys (T.getD j []))
theorem Tx.below {B : Nat} {v : Value} {T : List Bys} {w w' : World} (h : Tx B v T w) (hb : Below w.heap.size w w') : Tx B v T w' := by
  obtain ⟨vs, ho, he⟩ := h.st
  exact ⟨vs, own_past' ho hb, fun j hj => by
    obtain ⟨ao, cap, h1, h2⟩ := he j hj
    exact ⟨ao, cap, h1, own_past' h2 hb⟩⟩
/-- Another block has turned. -/
theorem Tx.other {B g t : Nat} {v : Value} {T : List Bys} {L : List Value} {w w' : World} (h : Tx B v T w) (r : Row w g t L) (h1 : t ≠ 39) (h2 : t ≠ 5) (hg : w.grownBy w' (some g)) : Tx B v T w' := by
  obtain ⟨vs, ho, he⟩ := h.st
  have key : ∀ {e n : Nat} {u : Value} {xs : List Value}, w.ownsRow B e 1 u n xs → t ≠ e → w'.ownsRow B e 1 u n xs := fun hu hne =>
    own_same' hu (fun k ek => hg.block k (hu.lt k ek).2 (fun e => own_apart hu r (Ne.symm hne) k ek (Option.some.inj e)))
  exact ⟨vs, key ho h1, fun j hj => by
    obtain ⟨ao, cap, h3, h4⟩ := he j hj
    exact ⟨ao, cap, h3, key h4 h2⟩⟩
theorem Tx.slice {B : Nat} {v : Value} {T : List Bys} {w : World} (h : Tx B v T w) : ∃ ao cap, v = .slice ao T.length cap := by
  obtain ⟨vs, ho, _⟩ := h.st
  exact own_shape' ho
theorem Tx.elem {B : Nat} {v : Value} {T : List Bys} {w : World} (h : Tx B v T w) (j : Nat) (hj : j < T.length) :
    ∃ g cap ao c, v = .slice (some ⟨g, 0, none⟩) T.length cap ∧ T.length ≤ cap ∧ w.cell? ⟨g, j, none⟩ = some (.slice ao (T.getD j []).length c) ∧ Sl w (.slice ao (T.getD j []).length c) (T.getD j []) := by
  obtain ⟨vs, ho, he⟩ := h.st
  obtain ⟨ao, c, h1, h2⟩ := he j hj
  rcases ho.2 with ⟨_, h0⟩ | ⟨g, cap, cur, rfl, _, _, hc, _⟩
  · omega
  · exact ⟨g, cap, ao, c, rfl, hc, by rw [ho.cellAt j (by omega)]; exact h1, Sl.ofRow h2⟩
theorem Tx.ls {B : Nat} {v : Value} {T : List Bys} {w : World} (h : Tx B v T w) : Ls w v T := by
  refine ⟨?_⟩
  rcases Nat.eq_zero_or_pos T.length with h0 | h0
  · obtain ⟨ao, cap, rfl⟩ := h.slice
    exact .inl ⟨ao, cap, by rw [h0], List.eq_nil_of_length_eq_zero h0⟩
  · obtain ⟨vs, ho, he⟩ := h.st
    rcases ho.2 with ⟨_, h1⟩ | ⟨g, cap, cur, rfl, _, _, hc, _⟩
    · omega
    · refine .inr ⟨g, 0, cap, fun j => vs.getD j undef, rfl, hc, fun j hj => ?_⟩
      obtain ⟨ao, c, h1, h2⟩ := he j hj
      have e : vs.getD j undef = .slice ao (T.getD j []).length c := by simp [List.getD, h1]
      show w.cell? ⟨g, 0 + j, none⟩ = some (vs.getD j undef) ∧ Sl w (vs.getD j undef) (T.getD j [])
      rw [e, Nat.zero_add, ho.cellAt j (by omega)]
      exact ⟨h1, Sl.ofRow h2⟩
/-- A new row of one text. -/
theorem Tx.one {B : Nat} {u : Value} {t : Bys} {w : World} (hB : B ≤ w.heap.size) (h : w.ownsRow B 5 1 u t.length (bys t)) : Tx B (.slice (some ⟨w.heap.size, 0, none⟩) 1 1) [t] (w.alloc (.cells #[u] 39)) := by
  have hb : Below w.heap.size w (w.alloc (.cells #[u] 39)) := (Below.refl _ _).alloc (Nat.le_refl _) _
  refine ⟨[u], ⟨rfl, .inr ⟨w.heap.size, 1, #[u], rfl, hB, heap_alloc_new w _, Nat.le_refl _, by unfold maxLen; omega, rfl, rfl⟩⟩, fun j hj => ?_⟩
  obtain rfl : j = 0 := by simp at hj; omega
  obtain ⟨ao, cap, rfl⟩ := own_shape h
  exact ⟨ao, cap, rfl, own_past h hb⟩
/-- One text more, at the operation itself. -/
theorem wpo_app39 {o : Oper} {a : Act} {K : Act → World → Prop} {Q : Exit → Act → World → Prop} {w : World} {B : Nat} {v u : Value} {T : List Bys} {t : Bys} (s x : Operand)
    (ho : o.op = .call { callee := .builtin .append, args := #[s, x], argTypes := #[22, 22] }) (hs : a.eval s = v) (hT : Tx B v T w) (hB : B ≤ w.heap.size)
    (g c : Nat) (hx : a.eval x = .slice (some ⟨g, 0, none⟩) 1 c) (hc : w.cell? ⟨g, 0, none⟩ = some u) (hu : w.ownsRow B 5 1 u t.length (bys t)) (hn : T.length ≤ 1000000)
    (k : ∀ v' w', Tx B v' (T ++ [t]) w' → Below B w w' → w.grownBy w' v.ownBlock → K (a.put o.dst v') w') :
    Oper.wp Try.prog o a w K Q := by
  obtain ⟨i0, hi, hz0, hz1, hz2⟩ := info_parts Try.info39
  obtain ⟨vs, how, he⟩ := hT.st
  obtain ⟨ao, cp, rfl⟩ := own_shape hu
  obtain ⟨v', w', hr, h2, h3, h4, h5⟩ := run_append_own_at (P := Try.prog) w B 22 o.type 39 i0 (.slice none 0 0) 1 24 Try.underlying22 hi hz0 hz1 hz2 rfl (by decide) _ _ _ how ⟨g, 0, none⟩ 1 c [.slice ao t.length cp] rfl (fun j u hj => by
    obtain rfl : j = 0 := by
      rcases j with _ | j
      · rfl
      · simp at hj
    simp at hj
    rw [← hj, addr_add]; exact hc) (fun u hu => by simp at hu; rw [hu]; rfl) (by unfold maxLen; omega) (by omega) hB
  unfold Oper.wp execOp
  simp only [ho, resolve, invoke, builtin, Sem.run_bind, Sem.run_pure, Result.andThen_ok, List.map_toArray, List.map_cons, List.map_nil, hs, hx, hr]
  have hlen : vs.length = T.length := by have := how.1; omega
  have key : ∀ {n : Nat} {y : Value} {xs : List Value}, w.ownsRow B 5 1 y n xs → w'.ownsRow B 5 1 y n xs := fun {n y xs} hy =>
    own_same' hy (fun q eq => h3.block q (hy.lt q eq).2 (fun e => own_two hy how (by decide) q eq e.symm))
  refine k v' w' ⟨vs ++ [.slice ao t.length cp], by rw [List.length_append]; exact h2, fun j hj => ?_⟩ (below_grown h3 hB (fun k e => (how.lt k e).1)) h3
  rcases Nat.lt_or_ge j T.length with hj' | hj'
  · obtain ⟨a1, c1, e1, e2⟩ := he j hj'
    have e3 : (T ++ [t]).getD j [] = T.getD j [] := by simp [List.getD, List.getElem?_append_left hj']
    rw [e3, List.getElem?_append_left (by omega)]
    exact ⟨a1, c1, e1, key e2⟩
  · obtain rfl : j = T.length := by simp at hj; omega
    have e3 : (T ++ [t]).getD T.length [] = t := by simp [List.getD]
    rw [e3, ← hlen, List.getElem?_append_right (Nat.le_refl _), Nat.sub_self]
    exact ⟨ao, cp, rfl, key hu⟩
theorem app39 {ops : Array Oper} {rest : List Oper} {o : Oper} {a : Act} {Q : Exit → Act → World → Prop} {w : World} {B : Nat} {v u : Value} {T : List Bys} {t : Bys} (hgd : o.guard = none) (s x : Operand)
    (ho : o.op = .call { callee := .builtin .append, args := #[s, x], argTypes := #[22, 22] }) (hs : a.eval s = v) (hT : Tx B v T w) (hB : B ≤ w.heap.size)
    (g c : Nat) (hx : a.eval x = .slice (some ⟨g, 0, none⟩) 1 c) (hc : w.cell? ⟨g, 0, none⟩ = some u) (hu : w.ownsRow B 5 1 u t.length (bys t)) (hn : T.length ≤ 1000000)
    (k : ∀ v' w', Tx B v' (T ++ [t]) w' → Below B w w' → w.grownBy w' v.ownBlock → wpList Try.prog ops Q rest (a.put o.dst v') w') :
    wpList Try.prog ops Q (o :: rest) a w :=
  wpList_plain hgd fun _ hK => wpo_app39 s x ho hs hT hB g c hx hc hu hn (fun v' w' h1 h2 h3 => hK _ _ (k v' w' h1 h2 h3))
theorem step_app39 {ops : Array Oper} {o : Oper} {a : Act} {K : Act → World → Prop} {Q : Exit → Act → World → Prop} {E : Prop} {w : World} {B : Nat} {v u : Value} {T : List Bys} {t : Bys} (hgd : o.guard = none) (s x : Operand)
    (ho : o.op = .call { callee := .builtin .append, args := #[s, x], argTypes := #[22, 22] }) (hs : a.eval s = v) (hT : Tx B v T w) (hB : B ≤ w.heap.size)
    (g c : Nat) (hx : a.eval x = .slice (some ⟨g, 0, none⟩) 1 c) (hc : w.cell? ⟨g, 0, none⟩ = some u) (hu : w.ownsRow B 5 1 u t.length (bys t)) (hn : T.length ≤ 1000000)
    (k : ∀ v' w', Tx B v' (T ++ [t]) w' → Below B w w' → w.grownBy w' v.ownBlock → K (a.put o.dst v') w') :
    if Region.wanted o (yielded ops a.tmps) = true then Oper.wp Try.prog o a w K Q else E := by
  rw [if_pos (by simp [Region.wanted, hgd])]
  exact wpo_app39 s x ho hs hT hB g c hx hc hu hn k
theorem Tx.own {B : Nat} {v : Value} {T : List Bys} {w : World} (h : Tx B v T w) : ∃ vs, w.ownsRow B 39 1 v T.length vs := by
  obtain ⟨vs, ho, _⟩ := h.st
  exact ⟨vs, ho⟩
/-- The texts, turned round. -/
theorem revT_any (w : World) (B : Nat) (v : Value) (T : List Bys) (h : Tx B v T w) (h0 : 0 < T.length) (hfew : T.length ≤ 1000000) :
    Calls Try.prog 59 #[v] w fun ev w' => ev = .returned (.tuple #[]) ∧ Tx B v T.reverse w' ∧ Below B w w' := by
  obtain ⟨vs, how, he⟩ := h.st
  have hlen : vs.length = T.length := by have := how.1; omega
  have hB : B ≤ w.heap.size := by
    rcases how.2 with ⟨_, h1⟩ | ⟨g, cap, cur, rfl, hb, _⟩
    · omega
    · have := (how.lt g rfl).2; omega
  have hsl : ∀ u ∈ vs, ∃ a n c, u = Value.slice a n c := fun u hu => by
    obtain ⟨j, hj, rfl⟩ := List.mem_iff_getElem.1 hu
    obtain ⟨ao, c, h1, _⟩ := he j (by omega)
    rw [List.getElem?_eq_getElem hj] at h1
    exact ⟨ao, _, c, Option.some.inj h1⟩
  refine (revS_any w B v vs T.length hlen how hsl h0 hfew).mono ?_
  rintro ev w' ⟨rfl, ho', hg⟩
  have key : ∀ {n : Nat} {y : Value} {xs : List Value}, w.ownsRow B 5 1 y n xs → w'.ownsRow B 5 1 y n xs := fun {n y xs} hy =>
    own_same' hy (fun q eq => hg.block q (hy.lt q eq).2 (fun e => own_two hy how (by decide) q eq e.symm))
  have hl : T.reverse.length = T.length := by simp
  refine ⟨rfl, ⟨vs.reverse, by rw [hl]; exact ho', fun j hj => ?_⟩, below_grown hg hB (fun k e => (how.lt k e).1)⟩
  have hj' : j < T.length := by omega
  obtain ⟨ao, c, h1, h2⟩ := he (T.length - 1 - j) (by omega)
  have e1 : T.reverse.getD j [] = T.getD (T.length - 1 - j) [] := by simp [List.getD, List.getElem?_reverse hj']
  have e2 : vs.reverse[j]? = vs[T.length - 1 - j]? := by rw [List.getElem?_reverse (by omega), hlen]
  rw [e1, e2]
  exact ⟨ao, c, h1, key h2⟩
end Go.Proofs.Ytfkibbpekngciaa
