/-
  SigApart: the region that makes both sigs, whatever order is drawn.
-/
import Derived.Test.YtmopffaocamieaaGreatJapLas3
import Derived.Test.YtmopffaocamieaaGreatQapSof
namespace Go.Proofs.YtmopffaocamieaaGreat
open Go.RowKit

def ops3 : Array Oper := #[{ dst := some 18, op := Op.load 25 (Operand.tmp 2), type := 25, pos := "more.go:15", after := #[], guard := none }, { dst := some 19, op := Op.call { callee := Callee.value (Operand.func 10), args := #[Operand.const (Value.string { data := #[97] }), Operand.tmp 18], argTypes := #[9, 25] }, type := 27, pos := "more.go:15", after := #[{ on := 0, ground := Ground.data }], guard := none }, { dst := some 20, op := Op.load 25 (Operand.tmp 3), type := 25, pos := "more.go:15", after := #[], guard := none }, { dst := some 21, op := Op.call { callee := Callee.value (Operand.func 10), args := #[Operand.const (Value.string { data := #[97] }), Operand.tmp 20], argTypes := #[9, 25] }, type := 27, pos := "more.go:15", after := #[{ on := 2, ground := Ground.data }, { on := 1, ground := Ground.chain }], guard := none }, { dst := some 5, op := Op.alloc 27, type := 0, pos := "more.go:15", after := #[], guard := none }, { dst := some 6, op := Op.alloc 27, type := 0, pos := "more.go:15", after := #[], guard := none }, { dst := none, op := Op.store 27 (Operand.tmp 5) (Operand.tmp 19), type := 0, pos := "more.go:15", after := #[{ on := 4, ground := Ground.data }, { on := 1, ground := Ground.data }, { on := 3, ground := Ground.chain }, { on := 0, ground := Ground.phase }, { on := 1, ground := Ground.phase }, { on := 2, ground := Ground.textOnly Departure.lateStores }, { on := 3, ground := Ground.textOnly Departure.lateStoresUnsure }, { on := 4, ground := Ground.phase }, { on := 5, ground := Ground.phase }], guard := none }, { dst := none, op := Op.store 27 (Operand.tmp 6) (Operand.tmp 21), type := 0, pos := "more.go:15", after := #[{ on := 5, ground := Ground.data }, { on := 3, ground := Ground.data }, { on := 6, ground := Ground.chain }, { on := 0, ground := Ground.phase }, { on := 1, ground := Ground.phase }, { on := 2, ground := Ground.phase }, { on := 3, ground := Ground.phase }, { on := 4, ground := Ground.phase }, { on := 5, ground := Ground.phase }, { on := 6, ground := Ground.phase }], guard := none }]
def z27 : List Value := [.string ⟨#[]⟩, .slice none 0 0, .slice none 0 0]
def In (lo hi b : Nat) : Prop := lo ≤ b ∧ b < hi
theorem rld25 (ev : Operand → Value) (k g : Nat) (a0 a1 : Option Addr) (n0 c0 n1 c1 : Nat) (h : ev (.tmp k) = .pointer (some ⟨g, 0, none⟩)) (w : World) (r : Row w g 25 [.slice a0 n0 c0, .slice a1 n1 c1]) (d : Option Nat) (ty : Nat) (p : String) (af : Array _) : (execOp ev { dst := d, op := .load 25 (.tmp k), type := ty, pos := p, after := af, guard := none }).run Tryz.prog w = .ok (.value (.agg #[.slice a0 n0 c0, .slice a1 n1 c1])) w := by
  have c0 := r.cell 0
  have c1 := r.cell 1
  simp only [List.getElem?_cons_zero, List.getElem?_cons_succ] at c0 c1
  unfold execOp
  simp only [h]
  go_simp
theorem ral27 (ev : Operand → Value) (w : World) (d : Option Nat) (ty : Nat) (p : String) (af : Array _) : (execOp ev { dst := d, op := .alloc 27, type := ty, pos := p, after := af, guard := none }).run Tryz.prog w = .ok (.value (.pointer (some ⟨w.heap.size, 0, none⟩))) (w.alloc (.cells z27.toArray 27)) := by
  unfold execOp z27
  go_simp
theorem rst27 (ev : Operand → Value) (k x g : Nat) (S : ByteArray) (x1 : Option Addr) (n1 c1 : Nat) (y1 : Option Addr) (n2 c2 : Nat) (h : ev (.tmp k) = .pointer (some ⟨g, 0, none⟩)) (h2 : ev (.tmp x) = .agg #[.string S, .slice x1 n1 c1, .slice y1 n2 c2]) (w : World) (r : Row w g 27 z27) (ty : Nat) (p : String) (af : Array _) : (execOp ev { dst := none, op := .store 27 (.tmp k) (.tmp x), type := ty, pos := p, after := af, guard := none }).run Tryz.prog w = .ok .skip (((w.setCell ⟨g, 0, none⟩ (.string S)).setCell ⟨g, 1, none⟩ (.slice x1 n1 c1)).setCell ⟨g, 2, none⟩ (.slice y1 n2 c2)) := by
  unfold z27 at r
  have d0 := r.cell 0
  have d1 := (r.set 0 (.string S)).cell 1
  have d2 := ((r.set 0 (.string S)).set 1 (.slice x1 n1 c1)).cell 2
  have f0 := r.fz 0
  have f1 := (r.set 0 (.string S)).fz 1
  have f2 := ((r.set 0 (.string S)).set 1 (.slice x1 n1 c1)).fz 2
  have g1 := r.fz 1
  have g2 := r.fz 2
  have k1 := r.cell 1
  have k2 := r.cell 2
  simp only [List.getElem?_cons_zero, List.getElem?_cons_succ, List.set_cons_zero, List.set_cons_succ] at d0 d1 d2 k1 k2
  unfold execOp
  simp only [h, h2]
  go_simp
/-- How far it has come. -/
structure Mid3 (n B C : Nat) (w0 : World) (X Y : Crt) (cs ds : List Value) (d : Nat → Bool) (f : Nat → Value) (w : World) (lA hA lB hB gs gt : Nat) : Prop where
  bel : Below C w0 w
  q0 : d 0 = true → f 18 = .agg cs.toArray
  q1 : d 1 = true → ∃ u0 u1, f 19 = .agg #[.string (str [97]), u0, u1] ∧ C ≤ lA ∧ hA ≤ w.heap.size ∧ CrtQ n (In lA hA) B w [u0, u1] X
  q2 : d 2 = true → f 20 = .agg ds.toArray
  q3 : d 3 = true → ∃ u0 u1, f 21 = .agg #[.string (str [97]), u0, u1] ∧ C ≤ lB ∧ hB ≤ w.heap.size ∧ CrtQ n (In lB hB) B w [u0, u1] Y
  q4 : d 4 = true → f 5 = .pointer (some ⟨gs, 0, none⟩) ∧ C ≤ gs ∧ gs < w.heap.size
  q5 : d 5 = true → f 6 = .pointer (some ⟨gt, 0, none⟩) ∧ C ≤ gt ∧ gt < w.heap.size
  r4 : d 4 = true → d 6 = false → Row w gs 27 z27
  r5 : d 5 = true → d 7 = false → Row w gt 27 z27
  e45 : d 4 = true → d 5 = true → gs ≠ gt
  a14 : d 1 = true → d 4 = true → ¬ In lA hA gs
  a15 : d 1 = true → d 5 = true → ¬ In lA hA gt
  a34 : d 3 = true → d 4 = true → ¬ In lB hB gs
  a35 : d 3 = true → d 5 = true → ¬ In lB hB gt
  q6 : d 6 = true → ∃ u0 u1, f 19 = .agg #[.string (str [97]), u0, u1] ∧ Row w gs 27 [.string (str [97]), u0, u1]
  q7 : d 7 = true → ∃ u0 u1, f 21 = .agg #[.string (str [97]), u0, u1] ∧ Row w gt 27 [.string (str [97]), u0, u1]
section
variable {n B C : Nat} {w0 w w' : World} {X Y : Crt} {cs ds : List Value} {d : Nat → Bool} {f : Nat → Value} {lA hA lB hB gs gt : Nat}
theorem kp_of {lo hi : Nat} (hb : Below w.heap.size w w') (h : hi ≤ w.heap.size) : Kp (In lo hi) (In lo hi) w w' := ⟨fun _ h => h, fun b hb' => hb.block b (Nat.lt_of_lt_of_le hb'.2 h)⟩
/-- Memory that is new turns nothing of it. -/
theorem Mid3.move (H : Mid3 n B C w0 X Y cs ds d f w lA hA lB hB gs gt) (hC : C ≤ w.heap.size) (h6 : d 6 = false) (h7 : d 7 = false) (hb : Below w.heap.size w w') : Mid3 n B C w0 X Y cs ds d f w' lA hA lB hB gs gt :=
  ⟨H.bel.trans (below_le hb hC), H.q0,
    fun h => by obtain ⟨u0, u1, e, h1, h2, h3⟩ := H.q1 h; exact ⟨u0, u1, e, h1, Nat.le_trans h2 hb.size, h3.mono (kp_of hb h2)⟩, H.q2,
    fun h => by obtain ⟨u0, u1, e, h1, h2, h3⟩ := H.q3 h; exact ⟨u0, u1, e, h1, Nat.le_trans h2 hb.size, h3.mono (kp_of hb h2)⟩,
    fun h => ⟨(H.q4 h).1, (H.q4 h).2.1, Nat.lt_of_lt_of_le (H.q4 h).2.2 hb.size⟩, fun h => ⟨(H.q5 h).1, (H.q5 h).2.1, Nat.lt_of_lt_of_le (H.q5 h).2.2 hb.size⟩,
    fun h h' => (H.r4 h h').below hb (H.q4 h).2.2, fun h h' => (H.r5 h h').below hb (H.q5 h).2.2, H.e45, H.a14, H.a15, H.a34, H.a35,
    fun h => absurd h (by rw [h6]; simp), fun h => absurd h (by rw [h7]; simp)⟩
end
theorem rcl10 (a : Act) (k : Nat) (v : Value) (h : a.eval (.tmp k) = v) (w : World) (d : Option Nat) (ty : Nat) (p : String) (af : Array _) : (execOp a.eval { dst := d, op := .call { callee := .value (.func 10), args := #[.const (.string ⟨#[97]⟩), .tmp k], argTypes := #[9, 25] }, type := ty, pos := p, after := af, guard := none }).run Tryz.prog w = .ok (.enter 10 #[.string (str [97]), v]) w := by
  unfold execOp
  simp only [← h]
  go_simp
  rfl
theorem crtQ_form {n B : Nat} {Q : Nat → Prop} {w : World} {u0 u1 : Value} {c : Crt} (h : CrtQ n Q B w [u0, u1] c) : ∃ x1 n1 c1 y1 n2 c2, u0 = .slice x1 n1 c1 ∧ u1 = .slice y1 n2 c2 := by
  obtain ⟨v0, v1, e, h0, h1⟩ := h
  cases e
  obtain ⟨a0, c0, rfl⟩ := h0.form
  obtain ⟨a1, c1, rfl⟩ := h1.form
  exact ⟨_, _, _, _, _, _, rfl, rfl⟩
theorem st_row (w : World) (g : Nat) (x y z : Value) : Stay (fun k => k = g) w (((w.setCell ⟨g, 0, none⟩ x).setCell ⟨g, 1, none⟩ y).setCell ⟨g, 2, none⟩ z) :=
  (((Stay.refl (fun k => k = g) w).set (fun _ => rfl) 0 x).set (fun _ => rfl) 1 y).set (fun _ => rfl) 2 z
theorem row_three {w : World} {g : Nat} (r : Row w g 27 z27) (x y z : Value) : Row (((w.setCell ⟨g, 0, none⟩ x).setCell ⟨g, 1, none⟩ y).setCell ⟨g, 2, none⟩ z) g 27 [x, y, z] := by
  unfold z27 at r
  exact ((r.set 0 x).set 1 y).set 2 z
theorem kp_st {lo hi g : Nat} {w w' : World} (hs : Stay (fun k => k = g) w w') (h : hi ≤ w.heap.size) (hn : ¬ In lo hi g) : Kp (In lo hi) (In lo hi) w w' := ⟨fun _ h => h, fun b hb => hs.block b (Nat.lt_of_lt_of_le hb.2 h) (fun e => hn (e ▸ hb))⟩
set_option maxHeartbeats 4000000 in
set_option maxRecDepth 20000 in
theorem reg3 {Q : Exit → Act → World → Prop} {a0 : Act} {w0 : World} {n gA gB : Nat} {K : Ctx} {c d : Crt} {A0 A1 D0 D1 : Option Addr} {an0 ac0 an1 ac1 bn0 bc0 bn1 bc1 : Nat}
    (h2 : a0.eval (.tmp 2) = .pointer (some ⟨gA, 0, none⟩)) (h3 : a0.eval (.tmp 3) = .pointer (some ⟨gB, 0, none⟩)) (hsz : a0.tmps.size = 51)
    (rA : Row w0 gA 25 [.slice A0 an0 ac0, .slice A1 an1 ac1]) (rB : Row w0 gB 25 [.slice D0 bn0 bc0, .slice D1 bn1 bc1])
    (hC : K.C ≤ w0.heap.size) (hc : CrtAt n K w0 [.slice A0 an0 ac0, .slice A1 an1 ac1] c) (hd : CrtAt n K w0 [.slice D0 bn0 bc0, .slice D1 bn1 bc1] d)
    (l1 : c.structs.length ≤ 1000) (l2 : c.funcs.length ≤ 1000) (l3 : d.structs.length ≤ 1000) (l4 : d.funcs.length ≤ 1000)
    (hQ : ∀ (f : Nat → Value) (w : World) (gs gt : Nat) (u0 u1 v0 v1 : Value), Below w0.heap.size w0 w → f 5 = .pointer (some ⟨gs, 0, none⟩) → f 6 = .pointer (some ⟨gt, 0, none⟩) → w0.heap.size ≤ gs → w0.heap.size ≤ gt → Row w gs 27 [.string (str [97]), u0, u1] → Row w gt 27 [.string (str [97]), v0, v1] →
      CrtAt n (K.up w.heap.size) w [u0, u1] (ofC n c) → CrtAt n (K.up w.heap.size) w [v0, v1] (ofC n d) →
      Q .normal { tmps := [18, 19, 20, 21, 5, 6].foldl (fun t k => t.setIfInBounds k (f k)) a0.tmps, defers := a0.defers } w) :
    (Code.region 3 ops3 true).wp Tryz.prog Q a0 w0 := by
  refine wp_region_inv (ops := ops3) (Inv := fun dn a w => ∃ f lA hA lB hB gs gt, Slo [18, 19, 20, 21, 5, 6] a0 a f ∧ Cls ops3 dn ∧ Mid3 n K.B w0.heap.size w0 (ofC n c) (ofC n d) [.slice A0 an0 ac0, .slice A1 an1 ac1] [.slice D0 bn0 bc0, .slice D1 bn1 bc1] dn f w lA hA lB hB gs gt) (by kernel_rfl) (hed_of (by kernel_rfl)) ?_ ?_ ?_
  · refine ⟨_, 0, 0, 0, 0, 0, 0, Slo.start (fun k hk => by simp at hk; omega), Cls.start, ?_⟩
    refine ⟨(Below.refl _ _).drew, ?_, ?_, ?_, ?_, ?_, ?_, ?_, ?_, ?_, ?_, ?_, ?_, ?_, ?_, ?_⟩ <;> exact fun h => by simp [ops3] at h
  · intro dn a w i o ho hI hdi hed
    obtain ⟨f, lA, hA, lB, hB, gs, gt, hs, hcl, H⟩ := hI
    have hcl' := hcl.step ho hed
    have hi : i < 8 := by
      rcases Nat.lt_or_ge i ops3.size with h | h
      · exact h
      · rw [Array.getElem?_eq_none h] at ho; cases ho
    have e2 : a.eval (.tmp 2) = .pointer (some ⟨gA, 0, none⟩) := (hs.old (by decide)).trans h2
    have e3 : a.eval (.tmp 3) = .pointer (some ⟨gB, 0, none⟩) := (hs.old (by decide)).trans h3
    have hsw := H.bel.size
    match i, hi with
    | 0, _ =>
      obtain rfl := Option.some.inj ho
      have h6 := hcl.no 6 rfl ⟨0, .phase⟩ (by simp [ops3]) rfl hdi
      have h7 := hcl.no 7 rfl ⟨0, .phase⟩ (by simp [ops3]) rfl hdi
      refine wpOp_run rfl rfl (rld25 _ 2 gA _ _ _ _ _ _ e2 _ (rA.below H.bel rA.lt) _ _ _ _) ⟨upd f 18 _, lA, hA, lB, hB, gs, gt, hs.put (by decide) _, hcl', ?_⟩
      exact ⟨H.bel,
        fun _ => upd_at _ _ _,
        fun h => by rw [upd_ne _ _ (by decide)]; exact H.q1 (by simpa using h),
        fun h => by rw [upd_ne _ _ (by decide)]; exact H.q2 (by simpa using h),
        fun h => by rw [upd_ne _ _ (by decide)]; exact H.q3 (by simpa using h),
        fun h => by rw [upd_ne _ _ (by decide)]; exact H.q4 (by simpa using h),
        fun h => by rw [upd_ne _ _ (by decide)]; exact H.q5 (by simpa using h),
        fun h h' => H.r4 (by simpa using h) (by simpa using h'),
        fun h h' => H.r5 (by simpa using h) (by simpa using h'),
        fun h h' => H.e45 (by simpa using h) (by simpa using h'),
        fun h h' => H.a14 (by simpa using h) (by simpa using h'),
        fun h h' => H.a15 (by simpa using h) (by simpa using h'),
        fun h h' => H.a34 (by simpa using h) (by simpa using h'),
        fun h h' => H.a35 (by simpa using h) (by simpa using h'),
        fun h => by simp [h6] at h,
        fun h => by simp [h7] at h⟩
    | 2, _ =>
      obtain rfl := Option.some.inj ho
      have h33 := hcl.no 3 rfl ⟨2, .data⟩ (by simp [ops3]) rfl hdi
      have h6 := hcl.no 6 rfl ⟨3, .chain⟩ (by simp [ops3]) rfl h33
      have h7 := hcl.no 7 rfl ⟨2, .phase⟩ (by simp [ops3]) rfl hdi
      refine wpOp_run rfl rfl (rld25 _ 3 gB _ _ _ _ _ _ e3 _ (rB.below H.bel rB.lt) _ _ _ _) ⟨upd f 20 _, lA, hA, lB, hB, gs, gt, hs.put (by decide) _, hcl', ?_⟩
      exact ⟨H.bel,
        fun h => by rw [upd_ne _ _ (by decide)]; exact H.q0 (by simpa using h),
        fun h => by rw [upd_ne _ _ (by decide)]; exact H.q1 (by simpa using h),
        fun _ => upd_at _ _ _,
        fun h => by rw [upd_ne _ _ (by decide)]; exact H.q3 (by simpa using h),
        fun h => by rw [upd_ne _ _ (by decide)]; exact H.q4 (by simpa using h),
        fun h => by rw [upd_ne _ _ (by decide)]; exact H.q5 (by simpa using h),
        fun h h' => H.r4 (by simpa using h) (by simpa using h'),
        fun h h' => H.r5 (by simpa using h) (by simpa using h'),
        fun h h' => H.e45 (by simpa using h) (by simpa using h'),
        fun h h' => H.a14 (by simpa using h) (by simpa using h'),
        fun h h' => H.a15 (by simpa using h) (by simpa using h'),
        fun h h' => H.a34 (by simpa using h) (by simpa using h'),
        fun h h' => H.a35 (by simpa using h) (by simpa using h'),
        fun h => by simp [h6] at h,
        fun h => by simp [h7] at h⟩
    | 4, _ =>
      obtain rfl := Option.some.inj ho
      have h6 := hcl.no 6 rfl ⟨4, .phase⟩ (by simp [ops3]) rfl hdi
      have h7 := hcl.no 7 rfl ⟨4, .phase⟩ (by simp [ops3]) rfl hdi
      refine wpOp_run rfl rfl (ral27 _ _ _ _ _ _) ⟨upd f 5 _, lA, hA, lB, hB, w.heap.size, gt, hs.put (by decide) _, hcl', ?_⟩
      have hgt : dn 5 = true → gt < w.heap.size := fun h => (H.q5 h).2.2
      have hAw : dn 1 = true → hA ≤ w.heap.size := fun h => by obtain ⟨_, _, _, _, h, _⟩ := H.q1 h; exact h
      have hBw : dn 3 = true → hB ≤ w.heap.size := fun h => by obtain ⟨_, _, _, _, h, _⟩ := H.q3 h; exact h
      have H := H.move hsw h6 h7 (alloc_one w (.cells z27.toArray 27))
      exact ⟨H.bel,
        fun h => by rw [upd_ne _ _ (by decide)]; exact H.q0 (by simpa using h),
        fun h => by rw [upd_ne _ _ (by decide)]; exact H.q1 (by simpa using h),
        fun h => by rw [upd_ne _ _ (by decide)]; exact H.q2 (by simpa using h),
        fun h => by rw [upd_ne _ _ (by decide)]; exact H.q3 (by simpa using h),
        fun _ => ⟨upd_at _ _ _, hsw, by rw [size_alloc]; omega⟩,
        fun h => by rw [upd_ne _ _ (by decide)]; exact H.q5 (by simpa using h),
        fun _ _ => Row.new w 27 z27,
        fun h h' => H.r5 (by simpa using h) (by simpa using h'),
        fun _ h' => fun e => by have := hgt (by simpa using h'); omega,
        fun h _ hin => by have := hAw (by simpa using h); have := hin.2; omega,
        fun h h' => H.a15 (by simpa using h) (by simpa using h'),
        fun h _ hin => by have := hBw (by simpa using h); have := hin.2; omega,
        fun h h' => H.a35 (by simpa using h) (by simpa using h'),
        fun h => by simp [h6] at h,
        fun h => by simp [h7] at h⟩
    | 5, _ =>
      obtain rfl := Option.some.inj ho
      have h6 := hcl.no 6 rfl ⟨5, .phase⟩ (by simp [ops3]) rfl hdi
      have h7 := hcl.no 7 rfl ⟨5, .phase⟩ (by simp [ops3]) rfl hdi
      refine wpOp_run rfl rfl (ral27 _ _ _ _ _ _) ⟨upd f 6 _, lA, hA, lB, hB, gs, w.heap.size, hs.put (by decide) _, hcl', ?_⟩
      have hgs : dn 4 = true → gs < w.heap.size := fun h => (H.q4 h).2.2
      have hAw : dn 1 = true → hA ≤ w.heap.size := fun h => by obtain ⟨_, _, _, _, h, _⟩ := H.q1 h; exact h
      have hBw : dn 3 = true → hB ≤ w.heap.size := fun h => by obtain ⟨_, _, _, _, h, _⟩ := H.q3 h; exact h
      have H := H.move hsw h6 h7 (alloc_one w (.cells z27.toArray 27))
      exact ⟨H.bel,
        fun h => by rw [upd_ne _ _ (by decide)]; exact H.q0 (by simpa using h),
        fun h => by rw [upd_ne _ _ (by decide)]; exact H.q1 (by simpa using h),
        fun h => by rw [upd_ne _ _ (by decide)]; exact H.q2 (by simpa using h),
        fun h => by rw [upd_ne _ _ (by decide)]; exact H.q3 (by simpa using h),
        fun h => by rw [upd_ne _ _ (by decide)]; exact H.q4 (by simpa using h),
        fun _ => ⟨upd_at _ _ _, hsw, by rw [size_alloc]; omega⟩,
        fun h h' => H.r4 (by simpa using h) (by simpa using h'),
        fun _ _ => Row.new w 27 z27,
        fun h _ => fun e => by have := hgs (by simpa using h); omega,
        fun h h' => H.a14 (by simpa using h) (by simpa using h'),
        fun h _ hin => by have := hAw (by simpa using h); have := hin.2; omega,
        fun h h' => H.a34 (by simpa using h) (by simpa using h'),
        fun h _ hin => by have := hBw (by simpa using h); have := hin.2; omega,
        fun h => by simp [h6] at h,
        fun h => by simp [h7] at h⟩
    | 1, _ =>
      obtain rfl := Option.some.inj ho
      have h6 := hcl.no 6 rfl ⟨1, .phase⟩ (by simp [ops3]) rfl hdi
      have h7 := hcl.no 7 rfl ⟨1, .phase⟩ (by simp [ops3]) rfl hdi
      have hv := H.q0 (hed ⟨0, .data⟩ (by simp [ops3]) rfl)
      have ev : a.eval (.tmp 18) = .agg [.slice A0 an0 ac0, .slice A1 an1 ac1].toArray := (hs.at_ (by decide)).trans hv
      refine wpOp_call rfl rfl (rcl10 _ 18 _ ev _ _ _ _ _) ?_
      refine (of_any (K := K) (Nat.le_trans hC hsw) (hc.below (below_le H.bel hC)) [97] (by decide) l1 l2).mono ?_
      rintro _ w1 ⟨u0, u1, rfl, hb1, hq1⟩
      refine ⟨_, rfl, upd f 19 _, w.heap.size, w1.heap.size, lB, hB, gs, gt, hs.put (by decide) _, hcl', ?_⟩
      have hgs : dn 4 = true → gs < w.heap.size := fun h => (H.q4 h).2.2
      have hgt : dn 5 = true → gt < w.heap.size := fun h => (H.q5 h).2.2
      have H := H.move hsw h6 h7 hb1
      exact ⟨H.bel,
        fun h => by rw [upd_ne _ _ (by decide)]; exact H.q0 (by simpa using h),
        fun _ => ⟨u0, u1, upd_at _ _ _, hsw, Nat.le_refl _, hq1⟩,
        fun h => by rw [upd_ne _ _ (by decide)]; exact H.q2 (by simpa using h),
        fun h => by rw [upd_ne _ _ (by decide)]; exact H.q3 (by simpa using h),
        fun h => by rw [upd_ne _ _ (by decide)]; exact H.q4 (by simpa using h),
        fun h => by rw [upd_ne _ _ (by decide)]; exact H.q5 (by simpa using h),
        fun h h' => H.r4 (by simpa using h) (by simpa using h'),
        fun h h' => H.r5 (by simpa using h) (by simpa using h'),
        fun h h' => H.e45 (by simpa using h) (by simpa using h'),
        fun _ h hin => by have := hgs (by simpa using h); have := hin.1; omega,
        fun _ h hin => by have := hgt (by simpa using h); have := hin.1; omega,
        fun h h' => H.a34 (by simpa using h) (by simpa using h'),
        fun h h' => H.a35 (by simpa using h) (by simpa using h'),
        fun h => by simp [h6] at h,
        fun h => by simp [h7] at h⟩
    | 3, _ =>
      obtain rfl := Option.some.inj ho
      have h6 := hcl.no 6 rfl ⟨3, .chain⟩ (by simp [ops3]) rfl hdi
      have h7 := hcl.no 7 rfl ⟨3, .phase⟩ (by simp [ops3]) rfl hdi
      have hv := H.q2 (hed ⟨2, .data⟩ (by simp [ops3]) rfl)
      have ev : a.eval (.tmp 20) = .agg [.slice D0 bn0 bc0, .slice D1 bn1 bc1].toArray := (hs.at_ (by decide)).trans hv
      refine wpOp_call rfl rfl (rcl10 _ 20 _ ev _ _ _ _ _) ?_
      refine (of_any (K := K) (Nat.le_trans hC hsw) (hd.below (below_le H.bel hC)) [97] (by decide) l3 l4).mono ?_
      rintro _ w1 ⟨u0, u1, rfl, hb1, hq1⟩
      refine ⟨_, rfl, upd f 21 _, lA, hA, w.heap.size, w1.heap.size, gs, gt, hs.put (by decide) _, hcl', ?_⟩
      have hgs : dn 4 = true → gs < w.heap.size := fun h => (H.q4 h).2.2
      have hgt : dn 5 = true → gt < w.heap.size := fun h => (H.q5 h).2.2
      have H := H.move hsw h6 h7 hb1
      exact ⟨H.bel,
        fun h => by rw [upd_ne _ _ (by decide)]; exact H.q0 (by simpa using h),
        fun h => by rw [upd_ne _ _ (by decide)]; exact H.q1 (by simpa using h),
        fun h => by rw [upd_ne _ _ (by decide)]; exact H.q2 (by simpa using h),
        fun _ => ⟨u0, u1, upd_at _ _ _, hsw, Nat.le_refl _, hq1⟩,
        fun h => by rw [upd_ne _ _ (by decide)]; exact H.q4 (by simpa using h),
        fun h => by rw [upd_ne _ _ (by decide)]; exact H.q5 (by simpa using h),
        fun h h' => H.r4 (by simpa using h) (by simpa using h'),
        fun h h' => H.r5 (by simpa using h) (by simpa using h'),
        fun h h' => H.e45 (by simpa using h) (by simpa using h'),
        fun h h' => H.a14 (by simpa using h) (by simpa using h'),
        fun h h' => H.a15 (by simpa using h) (by simpa using h'),
        fun _ h hin => by have := hgs (by simpa using h); have := hin.1; omega,
        fun _ h hin => by have := hgt (by simpa using h); have := hin.1; omega,
        fun h => by simp [h6] at h,
        fun h => by simp [h7] at h⟩
    | 6, _ =>
      obtain rfl := Option.some.inj ho
      have h7 := hcl.no 7 rfl ⟨6, .phase⟩ (by simp [ops3]) rfl hdi
      have d1 := hed ⟨1, .data⟩ (by simp [ops3]) rfl
      have d3 := hed ⟨3, .chain⟩ (by simp [ops3]) rfl
      have d4 := hed ⟨4, .data⟩ (by simp [ops3]) rfl
      have d5 := hed ⟨5, .phase⟩ (by simp [ops3]) rfl
      obtain ⟨u0, u1, ef, hl, hh, hq⟩ := H.q1 d1
      obtain ⟨x1, n1, c1, y1, n2, c2, rfl, rfl⟩ := crtQ_form hq
      have e4 : a.eval (.tmp 5) = .pointer (some ⟨gs, 0, none⟩) := (hs.at_ (by decide)).trans (H.q4 d4).1
      have e19 : a.eval (.tmp 19) = .agg #[.string (str [97]), .slice x1 n1 c1, .slice y1 n2 c2] := (hs.at_ (by decide)).trans ef
      have R := H.r4 d4 hdi
      refine wpOp_skip rfl rfl (rst27 _ 5 19 gs _ _ _ _ _ _ _ e4 e19 _ R _ _ _) ⟨f, lA, hA, lB, hB, gs, gt, hs.none _, hcl', ?_⟩
      have hst := st_row w gs (.string (str [97])) (.slice x1 n1 c1) (.slice y1 n2 c2)
      have R' := row_three R (.string (str [97])) (.slice x1 n1 c1) (.slice y1 n2 c2)
      generalize (((w.setCell ⟨gs, 0, none⟩ (.string (str [97]))).setCell ⟨gs, 1, none⟩ (.slice x1 n1 c1)).setCell ⟨gs, 2, none⟩ (.slice y1 n2 c2)) = w1 at *
      obtain ⟨v0, v1, eg, hl3, hh3, hq3⟩ := H.q3 d3
      have hgs := H.q4 d4
      have hne := H.e45 d4 d5
      have n1' := H.a14 d1 d4
      have n3' := H.a34 d3 d4
      exact ⟨H.bel.trans (hst.below hsw (fun k hk => by omega)), fun h => H.q0 (by simpa using h),
        fun _ => ⟨_, _, ef, hl, Nat.le_trans hh hst.size, hq.mono (kp_st hst hh n1')⟩, fun h => H.q2 (by simpa using h),
        fun _ => ⟨_, _, eg, hl3, Nat.le_trans hh3 hst.size, hq3.mono (kp_st hst hh3 n3')⟩,
        fun h => ⟨hgs.1, hgs.2.1, Nat.lt_of_lt_of_le hgs.2.2 hst.size⟩, fun h => ⟨(H.q5 d5).1, (H.q5 d5).2.1, Nat.lt_of_lt_of_le (H.q5 d5).2.2 hst.size⟩,
        fun _ h => by simp at h, fun _ _ => hst.row (H.r5 d5 h7) (fun e => hne e.symm), fun _ _ => hne,
        fun _ _ => n1', fun _ _ => H.a15 d1 d5, fun _ _ => n3', fun _ _ => H.a35 d3 d5,
        fun _ => ⟨_, _, ef, R'⟩, fun h => by simp [h7] at h⟩
    | 7, _ =>
      obtain rfl := Option.some.inj ho
      have d1 := hed ⟨1, .phase⟩ (by simp [ops3]) rfl
      have d3 := hed ⟨3, .data⟩ (by simp [ops3]) rfl
      have d4 := hed ⟨4, .phase⟩ (by simp [ops3]) rfl
      have d5 := hed ⟨5, .data⟩ (by simp [ops3]) rfl
      have d6 := hed ⟨6, .phase⟩ (by simp [ops3]) rfl
      obtain ⟨u0, u1, ef, hl, hh, hq⟩ := H.q3 d3
      obtain ⟨x1, n1, c1, y1, n2, c2, rfl, rfl⟩ := crtQ_form hq
      have e4 : a.eval (.tmp 6) = .pointer (some ⟨gt, 0, none⟩) := (hs.at_ (by decide)).trans (H.q5 d5).1
      have e19 : a.eval (.tmp 21) = .agg #[.string (str [97]), .slice x1 n1 c1, .slice y1 n2 c2] := (hs.at_ (by decide)).trans ef
      have R := H.r5 d5 hdi
      refine wpOp_skip rfl rfl (rst27 _ 6 21 gt _ _ _ _ _ _ _ e4 e19 _ R _ _ _) ⟨f, lA, hA, lB, hB, gs, gt, hs.none _, hcl', ?_⟩
      have hst := st_row w gt (.string (str [97])) (.slice x1 n1 c1) (.slice y1 n2 c2)
      have R' := row_three R (.string (str [97])) (.slice x1 n1 c1) (.slice y1 n2 c2)
      generalize (((w.setCell ⟨gt, 0, none⟩ (.string (str [97]))).setCell ⟨gt, 1, none⟩ (.slice x1 n1 c1)).setCell ⟨gt, 2, none⟩ (.slice y1 n2 c2)) = w1 at *
      obtain ⟨v0, v1, eg, hl3, hh3, hq3⟩ := H.q1 d1
      have hgt := H.q5 d5
      have hne := H.e45 d4 d5
      have n1' := H.a15 d1 d5
      have n3' := H.a35 d3 d5
      obtain ⟨w0', w1', e6, R6⟩ := H.q6 d6
      exact ⟨H.bel.trans (hst.below hsw (fun k hk => by omega)), fun h => H.q0 (by simpa using h),
        fun _ => ⟨_, _, eg, hl3, Nat.le_trans hh3 hst.size, hq3.mono (kp_st hst hh3 n1')⟩, fun h => H.q2 (by simpa using h),
        fun _ => ⟨_, _, ef, hl, Nat.le_trans hh hst.size, hq.mono (kp_st hst hh n3')⟩,
        fun h => ⟨(H.q4 d4).1, (H.q4 d4).2.1, Nat.lt_of_lt_of_le (H.q4 d4).2.2 hst.size⟩, fun h => ⟨hgt.1, hgt.2.1, Nat.lt_of_lt_of_le hgt.2.2 hst.size⟩,
        fun _ h => by simp [d6] at h, fun _ h => by simp at h, fun _ _ => hne,
        fun _ _ => H.a14 d1 d4, fun _ _ => n1', fun _ _ => H.a34 d3 d4, fun _ _ => n3',
        fun _ => ⟨_, _, e6, hst.row R6 hne⟩, fun _ => ⟨_, _, ef, R'⟩⟩
  · rintro a w ⟨f, lA, hA, lB, hB, gs, gt, hs, hcl, H⟩
    obtain ⟨u0, u1, ef, hl, hh, hq⟩ := H.q1 rfl
    obtain ⟨v0, v1, eg, hl3, hh3, hq3⟩ := H.q3 rfl
    obtain ⟨x0, x1, e6, R6⟩ := H.q6 rfl
    obtain ⟨y0, y1, e7, R7⟩ := H.q7 rfl
    rw [ef] at e6
    rw [eg] at e7
    simp only [Value.agg.injEq, Array.mk.injEq, List.cons.injEq, and_true, true_and] at e6 e7
    obtain ⟨rfl, rfl⟩ := e6
    obtain ⟨rfl, rfl⟩ := e7
    rw [hs.eq]
    exact hQ f w gs gt _ _ _ _ H.bel (H.q4 rfl).1 (H.q5 rfl).1 (H.q4 rfl).2.1 (H.q5 rfl).2.1 R6 R7 (hq.to (K := K.up w.heap.size) fun b hb => Nat.lt_of_lt_of_le hb.2 hh) (hq3.to (K := K.up w.heap.size) fun b hb => Nat.lt_of_lt_of_le hb.2 hh3)
end Go.Proofs.YtmopffaocamieaaGreat
