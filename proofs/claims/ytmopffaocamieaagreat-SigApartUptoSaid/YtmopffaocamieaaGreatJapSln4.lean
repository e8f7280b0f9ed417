/-
  The texts Sln, Pmy, Inj, Grw, joined.
-/
import Derived.Test.YtmopffaocamieaaGreatQapPsg
import Derived.Test.YtmopffaocamieaaGreatJapBar2
namespace Go.Proofs.YtmopffaocamieaaGreat
open Go.RowKit

theorem name_len {l : Bs} (h : nameB l = true) : l.length ≤ 32 := by
  unfold nameB at h
  simp only [Bool.and_eq_true, decide_eq_true_eq] at h
  have := (nameF_le l).2
  omega
theorem life_len {l : Bs} (h : lifeB l = true) : l.length ≤ 32 := by
  unfold lifeB at h
  simp only [Bool.and_eq_true, decide_eq_true_eq] at h
  omega
theorem far_len {l : Bs} (h : farB l = true) : l.length ≤ 66 := by
  unfold farB Lib.cut at h
  split at h
  · simp only [Bool.and_eq_true, Bool.not_true, Bool.false_or] at h
    have h1 := name_len h.1
    have h2 := name_len h.2
    simp only [List.length_take, List.length_drop, List.length_cons, List.length_nil] at h1 h2
    omega
  · simp only [Bool.and_eq_true] at h
    have := name_len h.1
    omega
theorem lens_of {f : Bs → Bool} (hf : ∀ l, f l = true → l.length ≤ 32) {l : List Bs} (h : l.all f = true) : ∀ x ∈ l, x.length ≤ 32 := fun x hx => hf x (List.all_eq_true.1 h x hx)
theorem txB_len {s : Bs} {b : Nat} (h : s.length ≤ b) (hb : b ≤ 1000000) : (txB s).length ≤ b + 10 := by
  have := enc_len_10 (v := s.length) (by omega)
  unfold txB; rw [List.length_append]; omega
theorem flat_len_le {α : Type} {f : α → Bs} {b : Nat} : ∀ {l : List α}, (∀ x ∈ l, (f x).length ≤ b) → ((l.map f).flatten).length ≤ l.length * b
  | [], _ => by simp
  | x :: l, h => by
    have h1 := h x (by simp)
    have h2 := flat_len_le (l := l) (fun y hy => h y (List.mem_cons_of_mem _ hy))
    rw [List.map_cons, List.flatten_cons, List.length_append, List.length_cons, Nat.add_mul]
    omega
theorem lsB_len {α : Type} {f : α → Bs} {l : List α} {n b : Nat} (hn : l.length ≤ n) (hn2 : n ≤ 1000000) (h : ∀ x ∈ l, (f x).length ≤ b) : (lsB f l).length ≤ 10 + n * b := by
  have h1 := enc_len_10 (v := l.length) (by omega)
  have h2 := flat_len_le h
  have h3 : l.length * b ≤ n * b := Nat.mul_le_mul_right _ hn
  unfold lsB; rw [List.length_append]; omega
theorem lives_len {l : List Bs} {n : Nat} (hn : l.length ≤ n) (hn2 : n ≤ 1000000) (h : l.all lifeB = true) : (lsB txB l).length ≤ 10 + n * 42 :=
  lsB_len hn hn2 fun _ hx => txB_len (lens_of (fun _ h => life_len h) h _ hx) (by decide)
theorem tyB_len : ∀ {r : Nat} {t : Ty}, MayTy r t → (tyB r t).length ≤ 2900 + r * 70
  | 0, _, h => h.elim
  | r + 1, t, h => by
    have he : (enc t.kind.toNat).length ≤ 10 := by
      rcases h with ⟨hk, _⟩ | ⟨hk, _⟩ | ⟨hk, _⟩ <;> exact enc_len_10 (by omega)
    show (enc t.kind.toNat ++ (kiB t ++ (t.elem.map (tyB r)).flatten)).length ≤ _
    rw [List.length_append, List.length_append]
    rcases h with ⟨hk, _, _, he0⟩ | ⟨hk, hf, hl, ha, he0⟩ | ⟨hk, _, hl, ha, e, he0, hm⟩
    · have : kiB t = [] := by unfold kiB; rw [if_neg (by omega), if_neg (by omega)]
      rw [this, he0]; simp only [List.map_nil, List.flatten_nil, List.length_nil]; omega
    · have : kiB t = txB t.name ++ lsB txB t.lives := by unfold kiB; rw [if_pos hk]
      have h1 := txB_len (far_len hf) (by decide)
      have h2 := lives_len hl (by decide) ha
      rw [this, he0, List.length_append]; simp only [List.map_nil, List.flatten_nil, List.length_nil]; omega
    · have : kiB t = lsB txB t.lives := by unfold kiB; rw [if_neg (by omega), if_pos hk]
      have h2 := lives_len hl (by decide) ha
      have h3 := tyB_len hm
      rw [this, he0]; simp only [List.map_cons, List.map_nil, List.flatten_cons, List.flatten_nil, List.append_nil]; omega
theorem fldB_len {x : Fld} (h : MayPar x) : (fldB x).length ≤ 7500 := by
  have h1 := txB_len (name_len h.1) (by decide)
  have h2 := tyB_len h.2
  unfold fldB; rw [List.length_append]; omega
theorem parB_len {x : Fld} (h : MayPar x) : (parB x).length ≤ 7501 := by
  have h1 := fldB_len h
  unfold parB muB; rw [List.length_append, List.length_singleton]; omega
theorem and_parts {n : Nat} {l : List Bs} (h : (decide (l.length ≤ n) && l.all lifeB) = true) : l.length ≤ n ∧ l.all lifeB = true := by
  simpa using h
theorem lfeB_len {x : Lfe} (h : MayLfe x) : (lfeB x).length ≤ 2800 := by
  have h1 := txB_len (life_len h.1) (by decide)
  obtain ⟨k1, k2⟩ := and_parts h.2
  have h2 := lives_len k1 (by decide) k2
  unfold lfeB; rw [List.length_append]; omega
theorem sctB_len {x : Sct} (h : MaySct x) : (sctB x).length ≤ 500000 := by
  have h1 := txB_len (name_len h.1) (by decide)
  obtain ⟨k1, k2⟩ := and_parts h.2.1
  have h2 := lives_len k1 (by decide) k2
  have h3 := lsB_len (f := fldB) h.2.2.1 (by decide) (fun f hf => fldB_len (h.2.2.2 f hf).2)
  unfold sctB; rw [List.length_append, List.length_append]; omega
theorem fncB_len {x : Fnc} (h : MayFn0 x) : (fncB x).length ≤ 700000 := by
  have h1 := txB_len (name_len h.1) (by decide)
  have h2 := lsB_len (f := lfeB) h.2.1.1 (by decide) (fun l hl => lfeB_len (h.2.1.2 l hl))
  have h3 := lsB_len (f := parB) h.2.2.1.1 (by decide) (fun f hf => parB_len (h.2.2.1.2 f hf))
  have h4 : (tyB 64 x.result).length ≤ 7400 := by
    rcases h.2.2.2 with hz | hm
    · rw [hz]
      show (enc 0 ++ (kiB Ty.zero ++ [])).length ≤ 7400
      have := enc_len_10 (v := 0) (by decide)
      have e : kiB Ty.zero = [] := by unfold kiB; rw [if_neg (by decide), if_neg (by decide)]
      rw [e]; simp only [List.append_nil]; omega
    · have := tyB_len hm; omega
  unfold fncB; rw [List.length_append, List.length_append, List.length_append]; omega
theorem sigB_len {s : Bs} {c : Crt} (h : MaySig s c) : (sigB s c).length ≤ 400000000 := by
  have h1 := txB_len (name_len h.1) (by decide)
  have h0 := txB_len (s := [85, 83, 73, 71]) (b := 4) (by decide) (by decide)
  have h2 := lsB_len (f := sctB) (l := c.structs) (n := 256) (by have := h.2.2.2.1; omega) (by decide) (fun x hx => sctB_len (h.2.2.2.2.1 x hx))
  have h3 := lsB_len (f := fncB) (l := c.funcs) (n := 256) (by have := h.2.2.2.1; omega) (by decide) (fun x hx => fncB_len (h.2.2.2.2.2 x hx))
  unfold sigB; rw [List.length_append, List.length_append, List.length_append]; omega
end Go.Proofs.YtmopffaocamieaaGreat

namespace Go.Proofs.YtmopffaocamieaaGreat
open Go.RowKit

set_option maxHeartbeats 4000000 in
theorem put_no {n : Nat} {K : Ctx} {w : World} (he : Env K w) {c : Crt} {u0 u1 : Value} (hx : CrtAt n K w [u0, u1] c) (s : Bs) (hs : s.length ≤ 140737488355328) (hm : ¬ MaySig s c) :
    Calls Tryz.prog 13 #[.agg #[.string (str s), u0, u1]] w fun ev w' => ∃ e, ev = .returned (.tuple #[.slice none 0 0, e]) ∧ Er w' e 1 0 ∧ Below w.heap.size w w' := by
  have hA := alloc_one w (.cells #[.string (str s), u0, u1] 27)
  have C1 : Hid (Calls Tryz.prog 18 #[.agg #[.string (str s), u0, u1]] (w.alloc (.cells #[.string (str s), u0, u1] 27)) fun ev w' => ev = .returned (.bool false) ∧ Below w.heap.size w w') := by
    have hK := below_le hA he.C
    refine (sigMay_any (he.below hK) (hx.below hK) s hs false ⟨fun h => (by cases h), fun h => absurd h hm⟩).mono ?_
    rintro _ w1 ⟨rfl, h1⟩
    exact ⟨rfl, hA.trans (h1.mono hA.size)⟩
  have C2 : Hid (∀ w1, Below w.heap.size w w1 → Calls Tryz.prog 28 #[.int .i64 1, .int .i64 0] w1 fun ev w' => ∃ e, ev = .returned e ∧ Er w' e 1 0 ∧ Below w.heap.size w w') := fun w1 h1 =>
    (new_any w1 1 0 (by decide)).mono fun _ w2 ⟨e, a1, a2, a3⟩ => ⟨e, a1, a2, h1.trans (a3.mono h1.size)⟩
  obtain ⟨x0, x1, e, h0, h1⟩ := hx
  cases e
  obtain ⟨a0, c0, rfl⟩ := h0.form
  obtain ⟨a1, c1, rfl⟩ := h1.form
  clear h0 h1 he hA hm
  generalize c.structs.length = n0 at *
  generalize c.funcs.length = n1 at *
  generalize str s = SS at *
  go_enter Tryz.func13, Tryz.ntmps13
  go_wp2_with fail
  refine C1.out.mono ?_
  rintro _ w1 ⟨rfl, h1⟩
  have D := hidS (C2.out w1 h1)
  clear C1 C2 h1
  go_wp2_with fail
  refine D.out.mono ?_
  rintro _ w2 ⟨e, rfl, hE, hb⟩
  clear D
  go_wp2_with fail
  go_ret2
  exact ⟨e, rfl, hE, hb⟩

set_option maxHeartbeats 4000000 in
theorem put_yes {n : Nat} {K : Ctx} {w : World} (he : Env K w) {c : Crt} {u0 u1 : Value} (hx : CrtAt n K w [u0, u1] c) (s : Bs) (hs : s.length ≤ 140737488355328) (hm : MaySig s c) :
    Calls Tryz.prog 13 #[.agg #[.string (str s), u0, u1]] w fun ev w' => ∃ ao k e, ev = .returned (.tuple #[.slice ao k e, .nilIface]) ∧ Sw w' (.slice ao k e) (sigB s c) ∧ Below w.heap.size w w' := by
  have hA := alloc_one w (.cells #[.string (str s), u0, u1] 27)
  have hx0 := sigB_len hm
  have C1 : Hid (Calls Tryz.prog 18 #[.agg #[.string (str s), u0, u1]] (w.alloc (.cells #[.string (str s), u0, u1] 27)) fun ev w' => ev = .returned (.bool true) ∧ Below w.heap.size w w' ∧ Row w' w.heap.size 27 [.string (str s), u0, u1]) := by
    have hK := below_le hA he.C
    refine (sigMay_any (he.below hK) (hx.below hK) s hs true ⟨fun _ => hm, fun _ => rfl⟩).mono ?_
    rintro _ w1 ⟨rfl, h1⟩
    have R := Row.new w 27 [.string (str s), u0, u1]
    exact ⟨rfl, hA.trans (h1.mono hA.size), R.below h1 R.lt⟩
  have C2 : Hid (∀ w1, Below w.heap.size w w1 → Row w1 w.heap.size 27 [.string (str s), u0, u1] → Calls Tryz.prog 29 #[] w1 fun ev w' => ∃ wb, ev = .returned (.agg #[.pointer (some ⟨wb, 0, none⟩)]) ∧ Wr w1.heap.size w' wb (.slice none 0 0) [] ∧ Below w.heap.size w w' ∧ Row w' w.heap.size 27 [.string (str s), u0, u1] ∧ w.heap.size < w1.heap.size) := by
    intro w1 h1 r1
    refine (newSw_any w1).mono ?_
    rintro _ w2 ⟨wb, rfl, h2, h3⟩
    exact ⟨wb, rfl, h2, h1.trans (h3.mono h1.size), r1.below h3 r1.lt, r1.lt⟩
  have C3 : Hid (∀ (w1 w2 : World) wb, Wr w1.heap.size w2 wb (.slice none 0 0) [] → Below w.heap.size w w2 → w.heap.size < w1.heap.size → Calls Tryz.prog 30 #[.agg #[.pointer (some ⟨wb, 0, none⟩)], .agg #[.string (str s), u0, u1]] (w2.alloc (.cells #[.pointer (some ⟨wb, 0, none⟩)] 75)) fun ev w' => ev = .returned (.tuple #[]) ∧ ∃ v', Wr w1.heap.size w' wb v' (sigB s c) ∧ Below w.heap.size w w' ∧ Row w' w2.heap.size 75 [.pointer (some ⟨wb, 0, none⟩)]) := by
    intro w1 w2 wb h1 h2 h3
    have hB := alloc_one w2 (.cells #[.pointer (some ⟨wb, 0, none⟩)] 75)
    have hlt := h1.lt
    have hz := h2.alloc h2.size (.cells #[.pointer (some ⟨wb, 0, none⟩)] 75)
    have hk := below_le hz he.C
    refine (putSig_any (K := K) (B := w1.heap.size) (Nat.le_trans he.C (by omega)) s (hx.below hk) hm.2.2.2 (.slice none 0 0) [] (h1.past hB) (by simp only [List.length_nil]; omega)).mono ?_
    rintro _ w3 ⟨rfl, v', k1, k2⟩
    have R := Row.new w2 75 [.pointer (some ⟨wb, 0, none⟩)]
    rw [List.nil_append] at k1
    exact ⟨rfl, v', k1, hz.trans ((k2.below (h1.past hB)).mono (by omega)), ⟨(k2.keep R.lt (by omega) (by simp [Value.ownBlock])).trans R.heap⟩⟩
  generalize sigB s c = X at *
  have C4 : Hid (∀ (w1 w3 : World) wb v', Wr w1.heap.size w3 wb v' X → Below w.heap.size w w3 → Calls Tryz.prog 31 #[.pointer (some ⟨wb, 0, none⟩)] w3 fun ev w' => ∃ ao k e, ev = .returned (.slice ao k e) ∧ Sw w' (.slice ao k e) X ∧ Below w.heap.size w w') := by
    intro w1 w3 wb v' h1 h2
    refine (wBytes_any _ wb v' X w3 h1 (by omega)).mono ?_
    rintro _ w4 ⟨y, rfl, ho, hb⟩
    obtain ⟨ao, e, rfl⟩ := own_shape ho
    exact ⟨ao, _, e, rfl, Sw.ofOwn ho, h2.trans (hb.mono h2.size)⟩
  obtain ⟨x0, x1, e, h0, h1⟩ := hx
  cases e
  obtain ⟨a0, c0, rfl⟩ := h0.form
  obtain ⟨a1, c1, rfl⟩ := h1.form
  clear h0 h1 he hA hm hx0
  generalize c.structs.length = n0 at *
  generalize c.funcs.length = n1 at *
  generalize str s = SS at *
  go_enter Tryz.func13, Tryz.ntmps13
  go_wp2_with fail
  refine C1.out.mono ?_
  rintro _ w1 ⟨rfl, h1, r1⟩
  have D2 := hidS (C2.out w1 h1 r1)
  clear C1 C2 h1 r1
  go_wp2_with fail
  refine D2.out.mono ?_
  rintro _ w2 ⟨wb, rfl, h2, h3, r2, hlt⟩
  have D3 := hidS (C3.out w1 w2 wb h2 h3 hlt)
  have b0 : ∀ o, (w2.alloc o).cell? ⟨w.heap.size, 0, none⟩ = some (.string SS) := fun o => (r2.alloc o).cell 0
  have b1 : ∀ o, (w2.alloc o).cell? ⟨w.heap.size, 1, none⟩ = some (.slice a0 n0 c0) := fun o => (r2.alloc o).cell 1
  have b2 : ∀ o, (w2.alloc o).cell? ⟨w.heap.size, 2, none⟩ = some (.slice a1 n1 c1) := fun o => (r2.alloc o).cell 2
  clear C3 D2 h2 h3 r2
  go_wp2_with fail
  refine D3.out.mono ?_
  rintro _ w3 ⟨rfl, v3, k1, k2, k3⟩
  have c0' := k3.cell 0
  simp only [List.getElem?_cons_zero] at c0'
  have D4 := hidS (C4.out w1 w3 wb v3 k1 k2)
  clear C4 D3 k1 k2 k3 b0 b1 b2
  go_wp2_with fail
  refine D4.out.mono ?_
  rintro _ w4 ⟨ao, k, e, rfl, g1, g2⟩
  clear D4
  go_wp2_with fail
  go_ret2
  exact ⟨ao, k, e, rfl, g1, g2⟩
end Go.Proofs.YtmopffaocamieaaGreat

namespace Go.Proofs.YtmopffaocamieaaGreat
open Go.RowKit

/-- Of things of P the bytes tell which one it is, and where they end. -/
def Pfx {α : Type} (P : α → Prop) (f : α → Bs) : Prop := ∀ x y r s, P x → P y → f x ++ r = f y ++ s → x = y ∧ r = s
theorem pfx_enc : Pfx (fun n => n < 18446744073709551616) enc := by
  intro x y r s hx hy h
  have h1 := scan_of_enc x hx r
  have h2 := scan_of_enc y hy s
  rw [h] at h1
  rw [h1] at h2
  obtain rfl : x = y := by injection h2
  exact ⟨rfl, List.append_cancel_left h⟩
theorem pfx_tx : Pfx (fun s => s.length ≤ 1000000) txB := by
  intro x y r s hx hy h
  unfold txB at h
  rw [List.append_assoc, List.append_assoc] at h
  obtain ⟨hl, h⟩ := pfx_enc _ _ _ _ (by omega) (by omega) h
  exact List.append_inj h hl
theorem pfx_flat {α : Type} {P : α → Prop} {f : α → Bs} (hf : Pfx P f) : ∀ (l m : List α) (r s : Bs), l.length = m.length → (∀ x ∈ l, P x) → (∀ x ∈ m, P x) → (l.map f).flatten ++ r = (m.map f).flatten ++ s → l = m ∧ r = s
  | [], [], _, _, _, _, _, h => ⟨rfl, h⟩
  | [], _ :: _, _, _, hl, _, _, _ => by cases hl
  | _ :: _, [], _, _, hl, _, _, _ => by cases hl
  | x :: l, y :: m, r, s, hl, hp, hq, h => by
    rw [List.map_cons, List.map_cons, List.flatten_cons, List.flatten_cons, List.append_assoc, List.append_assoc] at h
    obtain ⟨e1, k1⟩ := hf _ _ _ _ (hp x (by simp)) (hq y (by simp)) h
    obtain ⟨e2, k2⟩ := pfx_flat hf l m r s (by simpa using hl) (fun z hz => hp z (List.mem_cons_of_mem _ hz)) (fun z hz => hq z (List.mem_cons_of_mem _ hz)) k1
    exact ⟨by rw [e1, e2], k2⟩
theorem pfx_ls {α : Type} {P : α → Prop} {f : α → Bs} (hf : Pfx P f) : Pfx (fun l => l.length ≤ 1000000 ∧ ∀ x ∈ l, P x) (lsB f) := by
  intro x y r s hx hy h
  unfold lsB at h
  rw [List.append_assoc, List.append_assoc] at h
  obtain ⟨hl, h⟩ := pfx_enc _ _ _ _ (by omega) (by omega) h
  exact pfx_flat hf x y r s hl hx.2 hy.2 h
/-- Lists of lifetimes. -/
theorem pfx_lives : Pfx (fun l : List Bs => l.length ≤ 64 ∧ l.all lifeB = true) (lsB txB) := by
  intro x y r s hx hy h
  have key : ∀ l : List Bs, l.length ≤ 64 ∧ l.all lifeB = true → l.length ≤ 1000000 ∧ ∀ z ∈ l, z.length ≤ 1000000 := fun l hl =>
    ⟨by omega, fun z hz => Nat.le_trans (lens_of (fun _ h => life_len h) hl.2 z hz) (by decide)⟩
  exact pfx_ls pfx_tx x y r s (key x hx) (key y hy) h
theorem pfx_ty : ∀ m : Nat, Pfx (MayTy m) (tyB m)
  | 0 => fun _ _ _ _ h => h.elim
  | m + 1 => by
    intro x y r s hx hy h
    have h' : (enc x.kind.toNat ++ (kiB x ++ (x.elem.map (tyB m)).flatten)) ++ r = (enc y.kind.toNat ++ (kiB y ++ (y.elem.map (tyB m)).flatten)) ++ s := h
    have kx : 0 ≤ x.kind ∧ x.kind ≤ 5 := by rcases hx with ⟨hk, _⟩ | ⟨hk, _⟩ | ⟨hk, _⟩ <;> omega
    have ky : 0 ≤ y.kind ∧ y.kind ≤ 5 := by rcases hy with ⟨hk, _⟩ | ⟨hk, _⟩ | ⟨hk, _⟩ <;> omega
    rw [List.append_assoc, List.append_assoc, List.append_assoc, List.append_assoc] at h'
    obtain ⟨ek, h'⟩ := pfx_enc _ _ _ _ (by omega) (by omega) h'
    have ek : x.kind = y.kind := by omega
    cases x with | mk xk xn xl xe =>
    cases y with | mk yk yn yl ye =>
    simp only at ek kx ky
    subst ek
    rcases hx with ⟨hk, h1, h2, h3⟩ | ⟨hk, h1, h2, h3, h4⟩ | ⟨hk, h1, h2, h3, e, h4, h5⟩
    · rcases hy with ⟨_, g1, g2, g3⟩ | ⟨gk, _⟩ | ⟨gk, _⟩
      · simp only at h1 h2 h3 g1 g2 g3 hk
        subst h1 h2 h3 g1 g2 g3
        exact ⟨rfl, List.append_cancel_left h'⟩
      · simp only at hk gk; omega
      · simp only at hk gk; omega
    · rcases hy with ⟨gk, _⟩ | ⟨_, g1, g2, g3, g4⟩ | ⟨gk, _⟩
      · simp only at hk gk; omega
      · simp only at h1 h2 h3 h4 g1 g2 g3 g4 hk
        subst h4 g4
        have e1 : kiB ⟨xk, xn, xl, []⟩ = txB xn ++ lsB txB xl := by unfold kiB; rw [if_pos hk]
        have e2 : kiB ⟨xk, yn, yl, []⟩ = txB yn ++ lsB txB yl := by unfold kiB; rw [if_pos hk]
        rw [e1, e2] at h'
        simp only [List.map_nil, List.flatten_nil, List.nil_append, List.append_assoc] at h'
        obtain ⟨q1, k1⟩ := pfx_tx _ _ _ _ (Nat.le_trans (far_len h1) (by decide)) (Nat.le_trans (far_len g1) (by decide)) h'
        obtain ⟨q2, k2⟩ := pfx_lives _ _ _ _ ⟨h2, h3⟩ ⟨g2, g3⟩ k1
        exact ⟨by rw [q1, q2], k2⟩
      · simp only at hk gk; omega
    · rcases hy with ⟨gk, _⟩ | ⟨gk, _⟩ | ⟨_, g1, g2, g3, e', g4, g5⟩
      · simp only at hk gk; omega
      · simp only at hk gk; omega
      · simp only at h1 h2 h3 h4 g1 g2 g3 g4 hk
        subst h1 h4 g1 g4
        have e1 : kiB ⟨xk, [], xl, [e]⟩ = lsB txB xl := by unfold kiB; rw [if_neg (by simp only; omega), if_pos hk]
        have e2 : kiB ⟨xk, [], yl, [e']⟩ = lsB txB yl := by unfold kiB; rw [if_neg (by simp only; omega), if_pos hk]
        rw [e1, e2] at h'
        simp only [List.map_cons, List.map_nil, List.flatten_cons, List.flatten_nil, List.append_nil] at h'
        obtain ⟨q1, k1⟩ := pfx_lives _ _ _ _ ⟨by omega, h3⟩ ⟨by omega, g3⟩ h'
        obtain ⟨q2, k2⟩ := pfx_ty m _ _ _ _ h5 g5 k1
        exact ⟨by rw [q1, q2], k2⟩
theorem pfx_res : Pfx MayRes (tyB 64) := by
  intro x y r s hx hy h
  have z : ∀ (t : Ty) (r s : Bs), MayTy 64 t → tyB 64 t ++ r = tyB 64 Ty.zero ++ s → False := by
    intro t r s ht he
    have he' : (enc t.kind.toNat ++ (kiB t ++ (t.elem.map (tyB 63)).flatten)) ++ r = (enc 0 ++ (kiB Ty.zero ++ [])) ++ s := he
    have kt : 1 ≤ t.kind ∧ t.kind ≤ 5 := by rcases ht with ⟨hk, _⟩ | ⟨hk, _⟩ | ⟨hk, _⟩ <;> omega
    rw [List.append_assoc, List.append_assoc] at he'
    obtain ⟨ek, _⟩ := pfx_enc t.kind.toNat 0 _ _ (show t.kind.toNat < 18446744073709551616 by omega) (show 0 < 18446744073709551616 by decide) he'
    omega
  rcases hx with hx | hx
  · rcases hy with hy | hy
    · subst hx hy; exact ⟨rfl, List.append_cancel_left h⟩
    · subst hx; exact (z y s r hy h.symm).elim
  · rcases hy with hy | hy
    · subst hy; exact (z x r s hx h).elim
    · exact pfx_ty 64 x y r s hx hy h
theorem le_name {s : Bs} (h : nameB s = true) : s.length ≤ 1000000 := Nat.le_trans (name_len h) (by decide)
theorem pfx_fld : Pfx (fun f : Fld => MayFld f) fldB := by
  intro x y r s hx hy h
  unfold fldB at h
  rw [List.append_assoc, List.append_assoc] at h
  obtain ⟨q1, k1⟩ := pfx_tx _ _ _ _ (le_name hx.2.1) (le_name hy.2.1) h
  obtain ⟨q2, k2⟩ := pfx_ty 64 _ _ _ _ hx.2.2 hy.2.2 k1
  refine ⟨?_, k2⟩
  have m1 := hx.1
  have m2 := hy.1
  cases x; cases y
  simp only at q1 q2 m1 m2
  rw [q1, q2, m1, m2]
theorem pfx_par : Pfx (fun f : Fld => MayPar f) parB := by
  intro x y r s hx hy h
  unfold parB muB fldB at h
  rw [List.append_assoc, List.append_assoc, List.append_assoc, List.append_assoc] at h
  obtain ⟨q0, k0⟩ := List.append_inj h rfl
  obtain ⟨q1, k1⟩ := pfx_tx _ _ _ _ (le_name hx.1) (le_name hy.1) k0
  obtain ⟨q2, k2⟩ := pfx_ty 64 _ _ _ _ hx.2 hy.2 k1
  refine ⟨?_, k2⟩
  have q3 : x.mu = y.mu := by
    cases hx' : x.mu <;> cases hy' : y.mu <;> simp [hx', hy'] at q0 ⊢
  cases x; cases y
  simp only at q1 q2 q3
  rw [q1, q2, q3]
theorem pfx_lfe : Pfx (fun x : Lfe => MayLfe x) lfeB := by
  intro x y r s hx hy h
  unfold lfeB at h
  rw [List.append_assoc, List.append_assoc] at h
  obtain ⟨q1, k1⟩ := pfx_tx _ _ _ _ (Nat.le_trans (life_len hx.1) (by decide)) (Nat.le_trans (life_len hy.1) (by decide)) h
  obtain ⟨q2, k2⟩ := pfx_lives _ _ _ _ (and_parts hx.2) (and_parts hy.2) k1
  refine ⟨?_, k2⟩
  cases x; cases y
  simp only at q1 q2
  rw [q1, q2]
theorem pfx_sct : Pfx (fun x : Sct => OkS x ∧ MaySct x) sctB := by
  intro x y r s hx hy h
  unfold sctB at h
  simp only [List.append_assoc] at h
  obtain ⟨q1, k1⟩ := pfx_tx _ _ _ _ (le_name hx.2.1) (le_name hy.2.1) h
  obtain ⟨q2, k2⟩ := pfx_lives _ _ _ _ (and_parts hx.2.2.1) (and_parts hy.2.2.1) k1
  obtain ⟨q3, k3⟩ := pfx_ls pfx_fld _ _ _ _ ⟨Nat.le_trans hx.2.2.2.1 (by decide), hx.2.2.2.2⟩ ⟨Nat.le_trans hy.2.2.2.1 (by decide), hy.2.2.2.2⟩ k2
  refine ⟨?_, k3⟩
  obtain ⟨p1, p2⟩ := hx.1
  obtain ⟨p3, p4⟩ := hy.1
  cases x; cases y
  simp only at q1 q2 q3 p1 p2 p3 p4
  rw [q1, q2, q3, p1, p2, p3, p4]
theorem pfx_fnc : Pfx (fun x : Fnc => OkF x ∧ MayFn0 x) fncB := by
  intro x y r s hx hy h
  unfold fncB at h
  simp only [List.append_assoc] at h
  obtain ⟨q1, k1⟩ := pfx_tx _ _ _ _ (le_name hx.2.1) (le_name hy.2.1) h
  obtain ⟨q2, k2⟩ := pfx_ls pfx_lfe _ _ _ _ ⟨Nat.le_trans hx.2.2.1.1 (by decide), hx.2.2.1.2⟩ ⟨Nat.le_trans hy.2.2.1.1 (by decide), hy.2.2.1.2⟩ k1
  obtain ⟨q3, k3⟩ := pfx_ls pfx_par _ _ _ _ ⟨Nat.le_trans hx.2.2.2.1.1 (by decide), hx.2.2.2.1.2⟩ ⟨Nat.le_trans hy.2.2.2.1.1 (by decide), hy.2.2.2.1.2⟩ k2
  obtain ⟨q4, k4⟩ := pfx_res _ _ _ _ hx.2.2.2.2 hy.2.2.2.2 k3
  refine ⟨?_, k4⟩
  obtain ⟨p1, p2, p3⟩ := hx.1
  obtain ⟨p4, p5, p6⟩ := hy.1
  cases x; cases y
  simp only at q1 q2 q3 q4 p1 p2 p3 p4 p5 p6
  rw [q1, q2, q3, q4, p1, p2, p3, p4, p5, p6]
/-- Of two sigs that may be the bytes tell which is which. -/
theorem sig_inj {s t : Bs} {x y : Crt} (hx : MaySig s x) (hy : MaySig t y) (h : sigB s x = sigB t y) : s = t ∧ x = y := by
  have h' : sigB s x ++ [] = sigB t y ++ [] := by rw [h]
  unfold sigB at h'
  simp only [List.append_assoc] at h'
  obtain ⟨_, k0⟩ := pfx_tx _ _ _ _ (by decide) (by decide) h'
  obtain ⟨q1, k1⟩ := pfx_tx _ _ _ _ (le_name hx.1) (le_name hy.1) k0
  have hc : ∀ {s : Bs} {c : Crt}, MaySig s c → (c.structs.length ≤ 1000000 ∧ ∀ z ∈ c.structs, OkS z ∧ MaySct z) ∧ (c.funcs.length ≤ 1000000 ∧ ∀ z ∈ c.funcs, OkF z ∧ MayFn0 z) := fun hm =>
    ⟨⟨by have := hm.2.2.2.1; omega, fun z hz => ⟨hm.2.1 z hz, hm.2.2.2.2.1 z hz⟩⟩, ⟨by have := hm.2.2.2.1; omega, fun z hz => ⟨hm.2.2.1 z hz, hm.2.2.2.2.2 z hz⟩⟩⟩
  obtain ⟨q2, k2⟩ := pfx_ls pfx_sct _ _ _ _ (hc hx).1 (hc hy).1 k1
  obtain ⟨q3, k3⟩ := pfx_ls pfx_fnc _ _ _ _ (hc hx).2 (hc hy).2 k2
  refine ⟨q1, ?_⟩
  cases x; cases y
  simp only at q2 q3
  rw [q2, q3]
end Go.Proofs.YtmopffaocamieaaGreat

namespace Go.Proofs.YtmopffaocamieaaGreat
open Go.RowKit

/-- Since Wb only the crate at block g has turned, and new memory; in it the row v is one's own and holds l. -/
structure Grw {α : Type} (z t : Nat) (P : List Value → α → Prop) (Wb wr : World) (g : Nat) (R : Value → List Value) (v : Value) (l : List α) : Prop where
  st : Stay (fun k => k = g) Wb wr
  row : Row wr g 25 (R v)
  rw : Rws z t P Wb.heap.size wr v l
  lt : g < Wb.heap.size
theorem Grw.past {α : Type} {z t : Nat} {P : List Value → α → Prop} {Wb wr wr' : World} {g : Nat} {R : Value → List Value} {v : Value} {l : List α} (h : Grw z t P Wb wr g R v l) (hb : Below wr.heap.size wr wr') : Grw z t P Wb wr' g R v l :=
  ⟨h.st.trans (Stay.of_below hb), h.row.below hb h.row.lt, h.rw.past hb, h.lt⟩
theorem Grw.put {α : Type} {z t : Nat} {P : List Value → α → Prop} {Wb wr w6 : World} {g : Nat} {R : Value → List Value} {v v' : Value} {l l' : List α} (h : Grw z t P Wb wr g R v l) (j : Nat) (hR : (R v).set j v' = R v') (hr : Rws z t P Wb.heap.size w6 v' l') (hb : Below Wb.heap.size wr w6) : Grw z t P Wb (w6.setCell ⟨g, j, none⟩ v') g R v' l' := by
  have hs : Stay (fun k => k = g) w6 (w6.setCell ⟨g, j, none⟩ v') := Stay.set (X := fun k => k = g) (Stay.refl _ _) (fun _ => rfl) _ _
  have hlt := h.lt
  refine ⟨⟨hb.os.trans h.st.os, hb.tape.trans h.st.tape, hb.output.trans h.st.output, Nat.le_trans h.st.size (Nat.le_trans hb.size hs.size), fun k hk hn => ?_⟩, ?_, hr.stay hs (fun k e => by omega), h.lt⟩
  · rw [hs.block k (Nat.lt_of_lt_of_le hk (Nat.le_trans h.st.size hb.size)) hn, hb.block k hk]
    exact h.st.block k hk hn
  · have := (h.row.below hb h.lt).set j v'
    rw [hR] at this
    exact this
theorem Grw.first {α : Type} {z t : Nat} {P : List Value → α → Prop} {Wb : World} {g : Nat} {R : Value → List Value} (hr : Row Wb g 25 (R (.slice none 0 0))) : Grw z t P Wb Wb g R (.slice none 0 0) ([] : List α) :=
  ⟨Stay.refl _ _, hr, Rws.nil, hr.lt⟩
theorem filter_snoc {α : Type} (p : α → Bool) (l : List α) (k : Nat) (h : k < l.length) : (l.take (k + 1)).filter p = if p l[k] then (l.take k).filter p ++ [l[k]] else (l.take k).filter p := by
  rw [List.take_succ_eq_append_getElem h, List.filter_append]
  by_cases hp : p l[k] = true
  · simp [hp]
  · simp [hp]
end Go.Proofs.YtmopffaocamieaaGreat
