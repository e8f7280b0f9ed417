/-
  The texts Tcl, Txr, joined.
-/
import Derived.Test.YtfkibbpekngciaaQPrPrv
/- The closure of textsBy; rows of slices. -/
namespace Go.Proofs.Ytfkibbpekngciaa
open Go.RowKit

theorem Try.info4 : (Try.prog.info? 4).map (fun i => (i.zero, i.size, i.bytes)) = some (some (.bool false), 1, 1) := by kernel_rfl
theorem Try.info39 : (Try.prog.info? 39).map (fun i => (i.zero, i.size, i.bytes)) = some (some (.slice none 0 0), 1, 24) := by kernel_rfl
theorem bos_one (l : List Bool) : ∀ u ∈ bos l, u.oneCell' = true := fun u hu => by
  obtain ⟨b, _, rfl⟩ := List.mem_map.1 hu
  rfl
/-- One more bool. -/
theorem app4 {ops : Array Oper} {rest : List Oper} {o : Oper} {a : Act} {Q : Exit → Act → World → Prop} {w : World} {B : Nat} {v : Value} {l : List Bool} (x : Bool) (hgd : o.guard = none) (s y : Operand)
    (ho : o.op = .call { callee := .builtin .append, args := #[s, y], argTypes := #[88, 88] }) (hs : a.eval s = v) (hown : w.ownsRow B 4 1 v l.length (bos l)) (hB : B ≤ w.heap.size)
    (g c : Nat) (hy : a.eval y = .slice (some ⟨g, 0, none⟩) 1 c) (hc : w.cell? ⟨g, 0, none⟩ = some (.bool x)) (hl : l.length ≤ 1000000)
    (h : ∀ v' w', w'.ownsRow B 4 1 v' (l ++ [x]).length (bos (l ++ [x])) → Below B w w' → w.grownBy w' v.ownBlock → wpList Try.prog ops Q rest (a.put o.dst v') w') :
    wpList Try.prog ops Q (o :: rest) a w := by
  obtain ⟨i0, hi, hz0, hz1, hz2⟩ := info_parts Try.info4
  refine wpList_append_own_at w hgd s y 88 ho B 4 i0 (.bool false) 1 1 Try.underlying88 hi hz0 hz1 hz2 rfl (by decide) _ _ _ hs hown ⟨g, 0, none⟩ 1 c [.bool x] hy rfl (fun j u hj => ?_) (fun u hu => ?_) (by unfold maxLen; omega) (by omega) hB ?_
  · obtain rfl : j = 0 := by
      rcases j with _ | j
      · rfl
      · simp at hj
    simp at hj
    rw [← hj, addr_add]; exact hc
  · simp at hu; rw [hu]; rfl
  · intro v' w' hown' hgrow _ _
    refine h v' w' ?_ (below_grown hgrow hB (fun k e => (hown.lt k e).1)) hgrow
    rw [List.length_append, List.length_singleton, bos, List.map_append]; exact hown'
/-- The variables of textsBy that its closure has. -/
structure TvS (w : World) (go gp : Nat) (ov pv : Value) (i n : Int) (z : World) : Prop where
  below : Below w.heap.size w z
  ois : Row z go 88 [ov]
  prf : Row z gp 30 [.int .i64 i, .int .i64 n, pv]
theorem TvS.next {w z z' : World} {go gp : Nat} {ov pv : Value} {i n : Int} (h : TvS w go gp ov pv i n z) (hb : Below z.heap.size z z') : TvS w go gp ov pv i n z' :=
  ⟨nextB h.below hb, h.ois.below hb h.ois.lt, h.prf.below hb h.prf.lt⟩
theorem TvS.grown {w z z' : World} {go gp t s m : Nat} {ov pv u : Value} {i n : Int} {xs : List Value} (h : TvS w go gp ov pv i n z) (ho : z.ownsRow w.heap.size t s u m xs) (h1 : t ≠ 88) (h2 : t ≠ 30) (hg : z.grownBy z' u.ownBlock) : TvS w go gp ov pv i n z' :=
  ⟨h.below.trans (below_grown hg h.below.size (fun k e => (ho.lt k e).1)), h.ois.grown hg (fun e => own_apart ho h.ois h1 go e rfl), h.prf.grown hg (fun e => own_apart ho h.prf h2 gp e rfl)⟩
theorem TvS.store {w z : World} {go gp : Nat} {ov pv : Value} {i n : Int} (h : TvS w go gp ov pv i n z) (h0 : w.heap.size ≤ go) (v : Value) : TvS w go gp v pv i n (z.setCell ⟨go, 0, none⟩ v) := by
  have e1 : go ≠ gp := fun e => by have a := h.ois.heap; rw [e, h.prf.heap] at a; cases a
  exact ⟨h.below.setCell (p := ⟨go, 0, none⟩) h0 v, h.ois.set 0 v, h.prf.other (fun e => e1 e.symm) v⟩
def sidesOf (i : Int) (d : List (Nat × Nat)) : List Bool := d.map fun p => decide ((p.1 : Int) < i)
theorem sidesOf_snoc (i : Int) (d : List (Nat × Nat)) (p : Nat × Nat) : sidesOf i (d ++ [p]) = sidesOf i d ++ [decide ((p.1 : Int) < i)] := by simp [sidesOf]
theorem sidesOf_len (i : Int) (d : List (Nat × Nat)) : (sidesOf i d).length = d.length := by simp [sidesOf]
structure TvRel (w : World) (go gp : Nat) (pv : Value) (i n : Int) (d : List (Nat × Nat)) (z : World) : Prop where
  st : ∃ ov, TvS w go gp ov pv i n z ∧ z.ownsRow w.heap.size 4 1 ov (sidesOf i d).length (bos (sidesOf i d))

set_option maxHeartbeats 4000000 in
set_option maxRecDepth 20000 in
theorem clo57_any (w : World) (go gp : Nat) (pv : Value) (i n : Int) (h0 : w.heap.size ≤ go) (d : List (Nat × Nat)) (a b : Nat) (z : World) (H : TvRel w go gp pv i n d z) (hd : d.length < 64) :
    Calls Try.prog 57 #[.int .i64 (a : Int), .int .i64 (b : Int), .pointer (some ⟨go, 0, none⟩), .pointer (some ⟨gp, 0, none⟩)] z fun ev z' => ev = .returned (.tuple #[]) ∧ TvRel w go gp pv i n (d ++ [(a, b)]) z' := by
  obtain ⟨ov, hS, how⟩ := H.st
  obtain ⟨ao, cp, rfl⟩ := own_shape how
  have c1 := hS.ois.cell 0
  have c2 := hS.prf.cell 0
  simp only [List.getElem?_cons_zero] at c1 c2
  have hl : (sidesOf i d).length ≤ 1000000 := by rw [sidesOf_len]; omega
  obtain ⟨x, hx⟩ : ∃ x : Bool, x = decide ((a : Int) < i) := ⟨_, rfl⟩
  have HE : Hid (∀ v3 w3, TvS w go gp (.slice ao (sidesOf i d).length cp) pv i n w3 → w3.ownsRow w.heap.size 4 1 v3 (sidesOf i d ++ [x]).length (bos (sidesOf i d ++ [x])) → TvRel w go gp pv i n (d ++ [(a, b)]) (w3.setCell ⟨go, 0, none⟩ v3)) := fun v3 w3 hS3 ho3 => by
    refine ⟨⟨v3, hS3.store h0 v3, ?_⟩⟩
    rw [sidesOf_snoc, ← hx]
    exact own_setCell ho3 hS3.ois (by decide)
  have hB := hS.below.size
  have HS : Hid (TvS w go gp (.slice ao (sidesOf i d).length cp) pv i n z) := hS
  have HX : Hid (x = decide ((a : Int) < i)) := hx
  generalize sidesOf i d = l at *
  clear H hx
  have HN : Hid (∀ y : Bool, y = x → (z.alloc (.cells #[.bool y] 4)).ownsRow w.heap.size 4 1 (.slice ao l.length cp) l.length (bos l) ∧ w.heap.size ≤ (z.alloc (.cells #[.bool y] 4)).heap.size ∧ (z.alloc (.cells #[.bool y] 4)).cell? ⟨z.heap.size, 0, none⟩ = some (.bool x) ∧ TvS w go gp (.slice ao l.length cp) pv i n (z.alloc (.cells #[.bool y] 4))) := fun y hy => by
    have hb : Below z.heap.size z (z.alloc (.cells #[.bool y] 4)) := (Below.refl _ _).alloc (Nat.le_refl _) _
    refine ⟨own_past how hb, Nat.le_trans hB hb.size, ?_, hS.next hb⟩
    have := (Row.new z 4 [.bool y]).cell 0
    rw [hy] at this ⊢
    exact this
  clear how hS
  obtain ⟨h1, h2, h3, h4⟩ := HN.out _ HX.out.symm
  go_enter Try.func57, Try.ntmps57
  go_wp2_with (at_builtin; refine app4 x rfl _ _ rfl rfl h1 h2 z.heap.size 1 rfl h3 hl ?_; intro v3 w3 ho3 hb3 hg3; have hS3 := h4.grown h1 (by decide) (by decide) hg3; have cx := hS3.ois.cell 0; have fx := hS3.ois.fz 0; simp only [List.getElem?_cons_zero] at cx; obtain ⟨ao3, cp3, rfl⟩ := own_shape ho3)
  go_end0
  have hfin := HE.out _ _ hS3 ho3
  rw [show (l ++ [x]).length = l.length + 1 by simp] at hfin
  exact ⟨rfl, hfin⟩
end Go.Proofs.Ytfkibbpekngciaa

/- Rows of slices of one's own. -/
namespace Go.Proofs.Ytfkibbpekngciaa
open Go.RowKit

/-- Two rows of unlike types are not one. -/
theorem own_two {w : World} {B B' t t' s s' n m : Nat} {u v : Value} {xs ys : List Value} (h : w.ownsRow B t s u n xs) (h' : w.ownsRow B' t' s' v m ys) (hne : t ≠ t') (k : Nat) (hk : u.ownBlock = some k) : v.ownBlock ≠ some k := fun hv => by
  rcases h.2 with ⟨rfl, _⟩ | ⟨g, cap, cur, rfl, _, hg, _⟩
  · simp [Value.ownBlock] at hk
  · rcases h'.2 with ⟨rfl, _⟩ | ⟨g', cap', cur', rfl, _, hg', _⟩
    · simp [Value.ownBlock] at hv
    · simp [Value.ownBlock] at hk hv
      subst hk
      subst hv
      rw [hg] at hg'
      cases hg'
      exact hne rfl
/-- A row of texts, all of one's own. -/
structure Tx (B : Nat) (v : Value) (T : List Bys) (w : World) : Prop where
  st : ∃ vs : List Value, w.ownsRow B 39 1 v T.length vs ∧ ∀ j, j < T.length → ∃ ao cap, vs[j]? = some (.slice ao (T.getD j []).length cap) ∧ w.ownsRow B 5 1 (.slice ao (T.getD j []).length cap) (T.getD j []).length (bys (T.getD j []))
theorem Tx.below {B : Nat} {v : Value} {T : List Bys} {w w' : World} (h : Tx B v T w) (hb : Below w.heap.size w w') : Tx B v T w' := by
  obtain ⟨vs, ho, he⟩ := h.st
  exact ⟨vs, own_past' ho hb, fun j hj => by
    obtain ⟨ao, cap, h1, h2⟩ := he j hj
    exact ⟨ao, cap, h1, own_past' h2 hb⟩⟩
/-- Another block has turned. -/
theorem Tx.other {B g t : Nat} {v : Value} {T : List Bys} {L : List Value} {w w' : World} (h : Tx B v T w) (r : Row w g t L) (h1 : t ≠ 39) (h2 : t ≠ 5) (hg : w.grownBy w' (some g)) : Tx B v T w' := by
  obtain ⟨vs, ho, he⟩ := h.st
  have key : ∀ {e n : Nat} {u : Value} {xs : List Value}, w.ownsRow B e 1 u n xs → t ≠ e → w'.ownsRow B e 1 u n xs := fun hu hne =>
    own_same' hu (fun k ek => hg.block k (hu.lt k ek).2 (fun e => own_apart hu r (Ne.symm hne) k ek (Option.some.inj e)))
  exact ⟨vs, key ho h1, fun j hj => by
    obtain ⟨ao, cap, h3, h4⟩ := he j hj
    exact ⟨ao, cap, h3, key h4 h2⟩⟩
theorem Tx.slice {B : Nat} {v : Value} {T : List Bys} {w : World} (h : Tx B v T w) : ∃ ao cap, v = .slice ao T.length cap := by
  obtain ⟨vs, ho, _⟩ := h.st
  exact own_shape' ho
theorem Tx.elem {B : Nat} {v : Value} {T : List Bys} {w : World} (h : Tx B v T w) (j : Nat) (hj : j < T.length) :
    ∃ g cap ao c, v = .slice (some ⟨g, 0, none⟩) T.length cap ∧ T.length ≤ cap ∧ w.cell? ⟨g, j, none⟩ = some (.slice ao (T.getD j []).length c) ∧ Sl w (.slice ao (T.getD j []).length c) (T.getD j []) := by
  obtain ⟨vs, ho, he⟩ := h.st
  obtain ⟨ao, c, h1, h2⟩ := he j hj
  rcases ho.2 with ⟨_, h0⟩ | ⟨g, cap, cur, rfl, _, _, hc, _⟩
  · omega
  · exact ⟨g, cap, ao, c, rfl, hc, by rw [ho.cellAt j (by omega)]; exact h1, Sl.ofRow h2⟩
theorem Tx.ls {B : Nat} {v : Value} {T : List Bys} {w : World} (h : Tx B v T w) : Ls w v T := by
  refine ⟨?_⟩
  rcases Nat.eq_zero_or_pos T.length with h0 | h0
  · obtain ⟨ao, cap, rfl⟩ := h.slice
    exact .inl ⟨ao, cap, by rw [h0], List.eq_nil_of_length_eq_zero h0⟩
  · obtain ⟨vs, ho, he⟩ := h.st
    rcases ho.2 with ⟨_, h1⟩ | ⟨g, cap, cur, rfl, _, _, hc, _⟩
    · omega
    · refine .inr ⟨g, 0, cap, fun j => vs.getD j undef, rfl, hc, fun j hj => ?_⟩
      obtain ⟨ao, c, h1, h2⟩ := he j hj
      have e : vs.getD j undef = .slice ao (T.getD j []).length c := by simp [List.getD, h1]
      show w.cell? ⟨g, 0 + j, none⟩ = some (vs.getD j undef) ∧ Sl w (vs.getD j undef) (T.getD j [])
      rw [e, Nat.zero_add, ho.cellAt j (by omega)]
      exact ⟨h1, Sl.ofRow h2⟩
/-- A new row of one text. -/
theorem Tx.one {B : Nat} {u : Value} {t : Bys} {w : World} (hB : B ≤ w.heap.size) (h : w.ownsRow B 5 1 u t.length (bys t)) : Tx B (.slice (some ⟨w.heap.size, 0, none⟩) 1 1) [t] (w.alloc (.cells #[u] 39)) := by
  have hb : Below w.heap.size w (w.alloc (.cells #[u] 39)) := (Below.refl _ _).alloc (Nat.le_refl _) _
  refine ⟨[u], ⟨rfl, .inr ⟨w.heap.size, 1, #[u], rfl, hB, heap_alloc_new w _, Nat.le_refl _, by unfold maxLen; omega, rfl, rfl⟩⟩, fun j hj => ?_⟩
  obtain rfl : j = 0 := by simp at hj; omega
  obtain ⟨ao, cap, rfl⟩ := own_shape h
  exact ⟨ao, cap, rfl, own_past h hb⟩
/-- One text more, at the operation itself. -/
theorem wpo_app39 {o : Oper} {a : Act} {K : Act → World → Prop} {Q : Exit → Act → World → Prop} {w : World} {B : Nat} {v u : Value} {T : List Bys} {t : Bys} (s x : Operand)
    (ho : o.op = .call { callee := .builtin .append, args := #[s, x], argTypes := #[22, 22] }) (hs : a.eval s = v) (hT : Tx B v T w) (hB : B ≤ w.heap.size)
    (g c : Nat) (hx : a.eval x = .slice (some ⟨g, 0, none⟩) 1 c) (hc : w.cell? ⟨g, 0, none⟩ = some u) (hu : w.ownsRow B 5 1 u t.length (bys t)) (hn : T.length ≤ 1000000)
    (k : ∀ v' w', Tx B v' (T ++ [t]) w' → Below B w w' → w.grownBy w' v.ownBlock → K (a.put o.dst v') w') :
    Oper.wp Try.prog o a w K Q := by
  obtain ⟨i0, hi, hz0, hz1, hz2⟩ := info_parts Try.info39
  obtain ⟨vs, how, he⟩ := hT.st
  obtain ⟨ao, cp, rfl⟩ := own_shape hu
  obtain ⟨v', w', hr, h2, h3, h4, h5⟩ := run_append_own_at (P := Try.prog) w B 22 o.type 39 i0 (.slice none 0 0) 1 24 Try.underlying22 hi hz0 hz1 hz2 rfl (by decide) _ _ _ how ⟨g, 0, none⟩ 1 c [.slice ao t.length cp] rfl (fun j u hj => by
    obtain rfl : j = 0 := by
      rcases j with _ | j
      · rfl
      · simp at hj
    simp at hj
    rw [← hj, addr_add]; exact hc) (fun u hu => by simp at hu; rw [hu]; rfl) (by unfold maxLen; omega) (by omega) hB
  unfold Oper.wp execOp
  simp only [ho, resolve, invoke, builtin, Sem.run_bind, Sem.run_pure, Result.andThen_ok, List.map_toArray, List.map_cons, List.map_nil, hs, hx, hr]
  have hlen : vs.length = T.length := by have := how.1; omega
  have key : ∀ {n : Nat} {y : Value} {xs : List Value}, w.ownsRow B 5 1 y n xs → w'.ownsRow B 5 1 y n xs := fun {n y xs} hy =>
    own_same' hy (fun q eq => h3.block q (hy.lt q eq).2 (fun e => own_two hy how (by decide) q eq e.symm))
  refine k v' w' ⟨vs ++ [.slice ao t.length cp], by rw [List.length_append]; exact h2, fun j hj => ?_⟩ (below_grown h3 hB (fun k e => (how.lt k e).1)) h3
  rcases Nat.lt_or_ge j T.length with hj' | hj'
  · obtain ⟨a1, c1, e1, e2⟩ := he j hj'
    have e3 : (T ++ [t]).getD j [] = T.getD j [] := by simp [List.getD, List.getElem?_append_left hj']
    rw [e3, List.getElem?_append_left (by omega)]
    exact ⟨a1, c1, e1, key e2⟩
  · obtain rfl : j = T.length := by simp at hj; omega
    have e3 : (T ++ [t]).getD T.length [] = t := by simp [List.getD]
    rw [e3, ← hlen, List.getElem?_append_right (Nat.le_refl _), Nat.sub_self]
    exact ⟨ao, cp, rfl, key hu⟩
theorem app39 {ops : Array Oper} {rest : List Oper} {o : Oper} {a : Act} {Q : Exit → Act → World → Prop} {w : World} {B : Nat} {v u : Value} {T : List Bys} {t : Bys} (hgd : o.guard = none) (s x : Operand)
    (ho : o.op = .call { callee := .builtin .append, args := #[s, x], argTypes := #[22, 22] }) (hs : a.eval s = v) (hT : Tx B v T w) (hB : B ≤ w.heap.size)
    (g c : Nat) (hx : a.eval x = .slice (some ⟨g, 0, none⟩) 1 c) (hc : w.cell? ⟨g, 0, none⟩ = some u) (hu : w.ownsRow B 5 1 u t.length (bys t)) (hn : T.length ≤ 1000000)
    (k : ∀ v' w', Tx B v' (T ++ [t]) w' → Below B w w' → w.grownBy w' v.ownBlock → wpList Try.prog ops Q rest (a.put o.dst v') w') :
    wpList Try.prog ops Q (o :: rest) a w :=
  wpList_plain hgd fun _ hK => wpo_app39 s x ho hs hT hB g c hx hc hu hn (fun v' w' h1 h2 h3 => hK _ _ (k v' w' h1 h2 h3))
theorem step_app39 {ops : Array Oper} {o : Oper} {a : Act} {K : Act → World → Prop} {Q : Exit → Act → World → Prop} {E : Prop} {w : World} {B : Nat} {v u : Value} {T : List Bys} {t : Bys} (hgd : o.guard = none) (s x : Operand)
    (ho : o.op = .call { callee := .builtin .append, args := #[s, x], argTypes := #[22, 22] }) (hs : a.eval s = v) (hT : Tx B v T w) (hB : B ≤ w.heap.size)
    (g c : Nat) (hx : a.eval x = .slice (some ⟨g, 0, none⟩) 1 c) (hc : w.cell? ⟨g, 0, none⟩ = some u) (hu : w.ownsRow B 5 1 u t.length (bys t)) (hn : T.length ≤ 1000000)
    (k : ∀ v' w', Tx B v' (T ++ [t]) w' → Below B w w' → w.grownBy w' v.ownBlock → K (a.put o.dst v') w') :
    if Region.wanted o (yielded ops a.tmps) = true then Oper.wp Try.prog o a w K Q else E := by
  rw [if_pos (by simp [Region.wanted, hgd])]
  exact wpo_app39 s x ho hs hT hB g c hx hc hu hn k
theorem Tx.own {B : Nat} {v : Value} {T : List Bys} {w : World} (h : Tx B v T w) : ∃ vs, w.ownsRow B 39 1 v T.length vs := by
  obtain ⟨vs, ho, _⟩ := h.st
  exact ⟨vs, ho⟩
/-- The texts, turned round. -/
theorem revT_any (w : World) (B : Nat) (v : Value) (T : List Bys) (h : Tx B v T w) (h0 : 0 < T.length) (hfew : T.length ≤ 1000000) :
    Calls Try.prog 59 #[v] w fun ev w' => ev = .returned (.tuple #[]) ∧ Tx B v T.reverse w' ∧ Below B w w' := by
  obtain ⟨vs, how, he⟩ := h.st
  have hlen : vs.length = T.length := by have := how.1; omega
  have hB : B ≤ w.heap.size := by
    rcases how.2 with ⟨_, h1⟩ | ⟨g, cap, cur, rfl, hb, _⟩
    · omega
    · have := (how.lt g rfl).2; omega
  have hsl : ∀ u ∈ vs, ∃ a n c, u = Value.slice a n c := fun u hu => by
    obtain ⟨j, hj, rfl⟩ := List.mem_iff_getElem.1 hu
    obtain ⟨ao, c, h1, _⟩ := he j (by omega)
    rw [List.getElem?_eq_getElem hj] at h1
    exact ⟨ao, _, c, Option.some.inj h1⟩
  refine (revS_any w B v vs T.length hlen how hsl h0 hfew).mono ?_
  rintro ev w' ⟨rfl, ho', hg⟩
  have key : ∀ {n : Nat} {y : Value} {xs : List Value}, w.ownsRow B 5 1 y n xs → w'.ownsRow B 5 1 y n xs := fun {n y xs} hy =>
    own_same' hy (fun q eq => hg.block q (hy.lt q eq).2 (fun e => own_two hy how (by decide) q eq e.symm))
  have hl : T.reverse.length = T.length := by simp
  refine ⟨rfl, ⟨vs.reverse, by rw [hl]; exact ho', fun j hj => ?_⟩, below_grown hg hB (fun k e => (how.lt k e).1)⟩
  have hj' : j < T.length := by omega
  obtain ⟨ao, c, h1, h2⟩ := he (T.length - 1 - j) (by omega)
  have e1 : T.reverse.getD j [] = T.getD (T.length - 1 - j) [] := by simp [List.getD, List.getElem?_reverse hj']
  have e2 : vs.reverse[j]? = vs[T.length - 1 - j]? := by rw [List.getElem?_reverse (by omega), hlen]
  rw [e1, e2]
  exact ⟨ao, c, h1, key h2⟩
end Go.Proofs.Ytfkibbpekngciaa
