/-
  The document's parser: types.
-/
import Derived.Test.YtldbbkheemnnhaaGreatDoorJpGro84
namespace Go.Proofs.YtldbbkheemnnhaaGreatDoor
open Go.RowKit
theorem kp_stay {X : Nat -> Prop} {w0 wa a b : World} (h : Stay X a b) (hX : ∀ k, X k -> k < wa.heap.size) (h0 : w0.heap.size <= wa.heap.size) : Kp (Fr wa a) (Fr w0 b) a b :=
 ⟨fun _ hk => ⟨Nat.le_trans h0 hk.1, Nat.lt_of_lt_of_le hk.2 h.size⟩, fun k hk => h.block k hk.2 (fun hx => by have := hX k hx; have := hk.1; omega)⟩
theorem Kp.stayT {X : Nat -> Prop} {wa a b : World} (h : Stay X a b) (hX : ∀ k, X k -> k < wa.heap.size) : Kp (Fr wa a) (Fr wa b) a b := kp_stay h hX (Nat.le_refl _)
theorem arq_one {α : Type} {z bz t gE : Nat} {P : List Value -> α -> Prop} {Q : Nat -> Prop} {w : World} {cs : List Value} {x : α} (r : Row w gE t cs) (hl : cs.length = z) (hp : P cs x) (hq : Q gE) (hb : bz <= 140737488355328) : ArQ z bz P Q w (.slice (some ⟨gE, 0, none⟩) 1 1) [x] := by
 refine ⟨some ⟨gE, 0, none⟩, 1, rfl, Nat.le_refl _, by simp; omega, fun i hi => ?_⟩
 obtain rfl : i = 0 := by simp at hi; omega
 exact ⟨gE, 0, rfl, hq, cs, hl, fun j _ => by rw [Nat.zero_mul, Nat.zero_add]; exact r.cell j, hp⟩
theorem Tryz.sz49 : (Tryz.prog.info? 36).map (·.size) = some 4 := by kernel_rfl
def tz : List Value := [.int .i64 0, .string ⟨#[]⟩, .slice none 0 0, .slice none 0 0]
theorem Tryz.info49T : (Tryz.prog.info? 36).map (fun i => (i.zero, i.size, i.bytes)) = some (some (.agg tz.toArray), 4, 72) := by kernel_rfl
theorem row_four {w : World} {g t : Nat} {p q r u : Value} (h : Row w g t [p, q, r, u]) (a b c d : Value) : Row ((((w.setCell ⟨g, 0, none⟩ a).setCell ⟨g, 1, none⟩ b).setCell ⟨g, 2, none⟩ c).setCell ⟨g, 3, none⟩ d) g t [a, b, c, d] /\ Stay (fun k => k = g) w ((((w.setCell ⟨g, 0, none⟩ a).setCell ⟨g, 1, none⟩ b).setCell ⟨g, 2, none⟩ c).setCell ⟨g, 3, none⟩ d) :=
 ⟨(((h.set 0 a).set 1 b).set 2 c).set 3 d, ((((Stay.refl (fun k => k = g) w).set (fun _ => rfl) 0 a).set (fun _ => rfl) 1 b).set (fun _ => rfl) 2 c).set (fun _ => rfl) 3 d⟩
section
variable {T : List Tok} {tb cap g : Nat} {w w1 w2 : World} {s : Ps}
theorem PSt.other {X : Nat -> Prop} (h : PSt T tb cap g w w1 s) (hs : Stay X w1 w2) (hg : g < w.heap.size) (ht : tb < w.heap.size) (hX : ∀ k, X k -> w.heap.size <= k) : PSt T tb cap g w w2 s :=
 h.low hg ht (hs.below h.2.size hX)
end
theorem fail_not {T : List Tok} {c : Nat} {s : Ps} (hc : c ≠ 0) : (failF T c s).code ≠ 0 := by
 unfold failF
 split
 ·exact hc
 ·assumption
theorem deep_zero {T : List Tok} {s : Ps} : deepF T 65 s = failF T 6 s := by
 unfold deepF failF
 by_cases h : s.code = 0
 ·rw [if_pos ⟨h, by decide⟩]
 ·rw [if_neg (fun e => h e.1), if_neg h]
theorem deep_no {T : List Tok} {n : Nat} {s : Ps} (h : n <= 64) : deepF T n s = s := if_neg (fun e => by omega)
theorem ty_kind (n : Nat) (Q : Nat -> Prop) (w : World) (k : Int) : TyQ (n + 1) Q 100 w [.int .i64 k, .string ⟨#[]⟩, .slice none 0 0, .slice none 0 0] ⟨k, [], [], []⟩ := ⟨_, _, rfl, by simp, nil_arQ, nil_arQ⟩
theorem far_len {T : List Tok} (h : TokOk T) (s : Ps) : (farF T s).1.length <= 100 := by
 have h1 := text_len h 1 s
 have h2 := text_len h 1 (optF T [58, 58] (textF T 1 s).2).2
 unfold farF
 split
 ·simp only [List.length_append]; simp; omega
 ·simp only; omega
set_option maxHeartbeats 8000000 in
set_option maxRecDepth 20000 in
theorem typ_zero {T : List Tok} {tb cap g : Nat} {w : World} {s : Ps} (h : PAt T tb cap g w s) (n : Nat) (hz : (deepF T n s).code ≠ 0) (F : Nat) :
  Calls Tryz.prog 92 #[.pointer (some ⟨g, 0, none⟩), .int .i64 (n : Int)] w fun ev w' => ∃ c : List Value, ev = .returned (.agg c.toArray) /\ PSt T tb cap g w w' (deepF T n s) /\ TyQ (F + 1) (Fr w w') 100 w' c Ty.zero := by
 have hg := h.row.lt
 have htb := h.tlt
 have hA := alloc_one w (.cells tz.toArray 36)
 have D : Hid (Calls Tryz.prog 117 #[.pointer (some ⟨g, 0, none⟩), .int .i64 (n : Int)] (w.alloc (.cells tz.toArray 36)) fun ev w' => ev = .returned (.tuple #[]) /\ PSt T tb cap g w w' (deepF T n s) /\ Row w' w.heap.size 36 tz) := (deep_any (h.past hA) n).mono fun _ _ q => ⟨q.1, (PSt.refl h hA).trans q.2, q.2.2.row (Row.new w 36 tz) (by omega)⟩
 generalize hS : deepF T n s = S' at *
 unfold tz at D
 clear hA hS
 go_enter Tryz.func92, Tryz.ntmps92
 go_wp2_with fail
 refine D.out.mono ?_
 rintro _ w1 ⟨rfl, z, r⟩
 have x2 := z.1.row.cell 2
 have c0 := r.cell 0
 have c1 := r.cell 1
 have c2 := r.cell 2
 have c3 := r.cell 3
 have f0 := r.fz 0
 have f1 := r.fz 1
 have f2 := r.fz 2
 have f3 := r.fz 3
 simp only [List.getElem?_cons_zero, List.getElem?_cons_succ] at x2 c0 c1 c2 c3
 have q0 : ((S'.code : Int) != 0) = true := by simp; omega
 have FN := hidP (fun a b c d => (row_four r a b c d))
 replace z := hidP z
 clear D r hz
 generalize S'.code = co at *
 go_wp2_with fail
 have R := FN.out (.int .i64 0) (.string ⟨#[]⟩) (.slice none 0 0) (.slice none 0 0)
 exact bodyPost_ret (v := .agg #[.int .i64 0, .string ⟨#[]⟩, .slice none 0 0, .slice none 0 0]) (results_cell_row Tryz.results92 _ _ w.heap.size 36 _ (0, 0) _ rfl R.1.heap Tryz.underlying36 rfl (by kernel_rfl)) rfl ⟨[.int .i64 0, .string ⟨#[]⟩, .slice none 0 0, .slice none 0 0], rfl, z.out.other R.2 hg htb (fun k e => by omega), ty_kind _ _ _ 0⟩
set_option maxHeartbeats 16000000 in
set_option maxRecDepth 20000 in
theorem typ_main {T : List Tok} {tb cap g : Nat} {w : World} {s : Ps} (h : PAt T tb cap g w s) (f n : Nat) (hn : n + 1 = 65 - f) (hf : f <= 63) (hc : s.code = 0)
  (IH : ∀ (w : World) (s : Ps), PAt T tb cap g w s -> Calls Tryz.prog 92 #[.pointer (some ⟨g, 0, none⟩), .int .i64 ((n : Int) + 1)] w fun ev w' => ∃ c : List Value, ev = .returned (.agg c.toArray) /\ PSt T tb cap g w w' (typF T f s).2 /\ TyQ (f + 1) (Fr w w') 100 w' c (typF T f s).1) :
  Calls Tryz.prog 92 #[.pointer (some ⟨g, 0, none⟩), .int .i64 (n : Int)] w fun ev w' => ∃ c : List Value, ev = .returned (.agg c.toArray) /\ PSt T tb cap g w w' (typF T (f + 1) s).2 /\ TyQ (f + 2) (Fr w w') 100 w' c (typF T (f + 1) s).1 := by
 have hg := h.row.lt
 have htb := h.tlt
 have hok := hidP h.ok
 have hA := alloc_one w (.cells tz.toArray 36)
 have D : Hid (Calls Tryz.prog 117 #[.pointer (some ⟨g, 0, none⟩), .int .i64 (n : Int)] (w.alloc (.cells tz.toArray 36)) fun ev w' => ev = .returned (.tuple #[]) /\ PSt T tb cap g w w' s /\ Row w' w.heap.size 36 tz) := (deep_any (h.past hA) n).mono fun _ _ q => by
  have q2 := q.2
  rw [deep_no (by omega)] at q2
  exact ⟨q.1, (PSt.refl h hA).trans q2, q2.2.row (Row.new w 36 tz) (by omega)⟩
 have hT : typF T (f + 1) s = if s.code = 0 then
   if (optF T [105, 110, 116] s).1 = true then (⟨1, [], [], []⟩, (optF T [105, 110, 116] s).2)
   else if (optF T [98, 111, 111, 108] s).1 = true then (⟨2, [], [], []⟩, (optF T [98, 111, 111, 108] s).2)
   else if (optF T [38] s).1 = true then
    let l := if kindF T 3 (optF T [38] s).2 = true then ([(textF T 3 (optF T [38] s).2).1], (textF T 3 (optF T [38] s).2).2) else ([], (optF T [38] s).2)
    let m := optF T [109, 117, 116] l.2
    let e := typF T f m.2
    (⟨if m.1 = true then 5 else 4, [], l.1, [e.1]⟩, e.2)
   else
    let n := farF T s
    let l := if n.2.code = 0 then lifesF T n.2 else ([], n.2)
    (⟨3, n.1, l.1, []⟩, l.2)
  else (Ty.zero, s) := rfl
 rw [if_pos hc] at hT
 obtain ⟨R, hR⟩ : ∃ R, R = typF T (f + 1) s := ⟨_, rfl⟩
 rw [← hR] at hT ⊢
 clear hR
 have HT := hidP hT
 have IH := hidP IH
 have hcc := hidP hc
 have q0 : ((s.code : Int) != 0) = false := by rw [hc]; rfl
 unfold tz at D
 have hne := h.ne
 clear hA hT hc h
 go_enter Tryz.func92, Tryz.ntmps92
 go_wp2_with fail
 refine D.out.mono ?_
 rintro _ w1 ⟨rfl, z, r⟩
 have x2 := z.1.row.cell 2
 simp only [List.getElem?_cons_zero, List.getElem?_cons_succ] at x2
 replace z := hidP z
 replace r := hidP r
 clear D
 have O : Hid (Calls Tryz.prog 58 #[.pointer (some ⟨g, 0, none⟩), .string ⟨#[105, 110, 116]⟩] w1 fun ev w' => ev = .returned (.bool (optF T [105, 110, 116] s).1) /\ Stay (fun k => k = g) w1 w' /\ PSt T tb cap g w w' (optF T [105, 110, 116] s).2) := (opt_any z.out.1 [105, 110, 116]).mono fun _ _ q => ⟨q.1, q.2.2, z.out.trans q.2⟩
 have OH := hidP (fun hb => opt_no (T := T) (m := [105, 110, 116]) (s := s) hb)
 generalize optF T [105, 110, 116] s = b at *
 obtain ⟨b1, b2⟩ := b
 simp only at O OH
 generalize hco : s.code = co at q0 x2
 clear hco
 cases b1 with
 | true =>
  clear IH OH
  go_wp2_with fail
  refine O.out.mono ?_
  rintro _ w2 ⟨rfl, st, z'⟩
  replace r := hidP (st.row r.out (by omega))
  have hR := hidP (show R = _ from HT.out.trans (if_pos (by trivial)))
  clear O z st HT x2 q0
  have FN := hidP (row_four r.out (.int .i64 1) (.string ⟨#[]⟩) (.slice none 0 0) (.slice none 0 0))
  have rc0 := r.out.cell 0
  have rc1 := r.out.cell 1
  have rc2 := r.out.cell 2
  have rc3 := r.out.cell 3
  have rf0 := r.out.fz 0
  have rf1 := r.out.fz 1
  have rf2 := r.out.fz 2
  have rf3 := r.out.fz 3
  simp only [List.getElem?_cons_zero, List.getElem?_cons_succ] at rc0 rc1 rc2 rc3
  clear r
  go_wp2_with fail
  exact bodyPost_ret (v := .agg #[.int .i64 1, .string ⟨#[]⟩, .slice none 0 0, .slice none 0 0]) (results_cell_row Tryz.results92 _ _ w.heap.size 36 _ (0, 0) _ rfl FN.out.1.heap Tryz.underlying36 rfl (by kernel_rfl)) rfl ⟨[.int .i64 1, .string ⟨#[]⟩, .slice none 0 0, .slice none 0 0], rfl, by rw [hR.out]; exact z'.other FN.out.2 hg htb (fun k e => by omega), by rw [hR.out]; exact ty_kind _ _ _ 1⟩
 | false =>
 obtain rfl := (OH.out rfl).symm
 clear OH
 replace HT := hidP (show R = _ from HT.out.trans (if_neg (by simp)))
 go_wp2_with fail
 refine O.out.mono ?_
 rintro _ w2 ⟨rfl, st, z'⟩
 replace r := hidP (st.row r.out (by omega))
 replace z := hidP z'
 clear O z' st
 have O : Hid (Calls Tryz.prog 58 #[.pointer (some ⟨g, 0, none⟩), .string ⟨#[98, 111, 111, 108]⟩] w2 fun ev w' => ev = .returned (.bool (optF T [98, 111, 111, 108] s).1) /\ Stay (fun k => k = g) w2 w' /\ PSt T tb cap g w w' (optF T [98, 111, 111, 108] s).2) := (opt_any z.out.1 [98, 111, 111, 108]).mono fun _ _ q => ⟨q.1, q.2.2, z.out.trans q.2⟩
 have OH := hidP (fun hb => opt_no (T := T) (m := [98, 111, 111, 108]) (s := s) hb)
 generalize optF T [98, 111, 111, 108] s = b at *
 obtain ⟨b1, b2⟩ := b
 simp only at O OH
 cases b1 with
 | true =>
  clear IH OH
  go_wp2_with fail
  refine O.out.mono ?_
  rintro _ w3 ⟨rfl, st, z'⟩
  replace r := hidP (st.row r.out (by omega))
  have hR := hidP (show R = _ from HT.out.trans (if_pos (by trivial)))
  clear O z st HT x2 q0
  have FN := hidP (row_four r.out (.int .i64 2) (.string ⟨#[]⟩) (.slice none 0 0) (.slice none 0 0))
  have rc0 := r.out.cell 0
  have rc1 := r.out.cell 1
  have rc2 := r.out.cell 2
  have rc3 := r.out.cell 3
  have rf0 := r.out.fz 0
  have rf1 := r.out.fz 1
  have rf2 := r.out.fz 2
  have rf3 := r.out.fz 3
  simp only [List.getElem?_cons_zero, List.getElem?_cons_succ] at rc0 rc1 rc2 rc3
  clear r
  go_wp2_with fail
  exact bodyPost_ret (v := .agg #[.int .i64 2, .string ⟨#[]⟩, .slice none 0 0, .slice none 0 0]) (results_cell_row Tryz.results92 _ _ w.heap.size 36 _ (0, 0) _ rfl FN.out.1.heap Tryz.underlying36 rfl (by kernel_rfl)) rfl ⟨[.int .i64 2, .string ⟨#[]⟩, .slice none 0 0, .slice none 0 0], rfl, by rw [hR.out]; exact z'.other FN.out.2 hg htb (fun k e => by omega), by rw [hR.out]; exact ty_kind _ _ _ 2⟩
 | false =>
 obtain rfl := (OH.out rfl).symm
 clear OH
 replace HT := hidP (show R = _ from HT.out.trans (if_neg (by simp)))
 go_wp2_with fail
 refine O.out.mono ?_
 rintro _ w3 ⟨rfl, st, z'⟩
 replace r := hidP (st.row r.out (by omega))
 replace z := hidP z'
 clear O z' st
 have O : Hid (Calls Tryz.prog 58 #[.pointer (some ⟨g, 0, none⟩), .string ⟨#[38]⟩] w3 fun ev w' => ev = .returned (.bool (optF T [38] s).1) /\ Stay (fun k => k = g) w3 w' /\ PSt T tb cap g w w' (optF T [38] s).2) := (opt_any z.out.1 [38]).mono fun _ _ q => ⟨q.1, q.2.2, z.out.trans q.2⟩
 have OH := hidP (fun hb => opt_no (T := T) (m := [38]) (s := s) hb)
 generalize optF T [38] s = b at *
 obtain ⟨b1, b2⟩ := b
 simp only at O OH
 cases b1 with
 | true =>
  replace HT := hidP (show R = _ from HT.out.trans (if_pos (by trivial)))
  clear OH
  go_wp2_with fail
  refine O.out.mono ?_
  rintro _ w4 ⟨rfl, st, z4⟩
  replace r := hidP (st.row r.out (by omega))
  clear O z st x2 q0
  have hA4 := alloc_one w4 (.cells #[.int .i64 4, .string ⟨#[]⟩, .slice none 0 0, .slice none 0 0] 36)
  have z5 := hidP (z4.low hg htb (below_le hA4 z4.2.size))
  have r5 := hidP (r.out.below hA4 r.out.lt)
  have l5 : Hid (Row (w4.alloc (.cells #[.int .i64 4, .string ⟨#[]⟩, .slice none 0 0, .slice none 0 0] 36)) w4.heap.size 36 [.int .i64 4, .string ⟨#[]⟩, .slice none 0 0, .slice none 0 0]) := Row.new w4 36 [.int .i64 4, .string ⟨#[]⟩, .slice none 0 0, .slice none 0 0]
  have s4 := z4.2.size
  have s4' := r.out.lt
  have sz5 : (w4.alloc (.cells #[.int .i64 4, .string ⟨#[]⟩, .slice none 0 0, .slice none 0 0] 36)).heap.size = w4.heap.size + 1 := size_alloc _ _
  have KC := hidP (kind_any z5.out.1 3)
  generalize hW4 : w4.alloc (.cells #[.int .i64 4, .string ⟨#[]⟩, .slice none 0 0, .slice none 0 0] 36) = W4 at z5 r5 l5 sz5 KC
  have HW4 := hidP hW4
  clear hW4 z4 r hA4
  cases hk : kindF T 3 b2 with
  | true =>
   rw [hk] at KC
   replace HT := hidP (show R = _ from by have := HT.out; simp only [hk, if_true] at this; exact this)
   have TX := hidP (fun y p => text_any (T := T) (tb := tb) (cap := cap) (g := g) (w := y) (s := b2) p 3 (by decide))
   have LT := hidP (text_len hok.out 3 b2)
   clear hk
   generalize textF T 3 b2 = a at *
   obtain ⟨tx, s6⟩ := a
   simp only at TX LT
   go_wp2_with fail
   rw [HW4.out]
   refine KC.out.mono ?_
   rintro _ w5 ⟨rfl, hb5⟩
   have z6 := hidP (z5.out.low hg htb (below_le hb5 (by omega)))
   have r6 := hidP (r5.out.below hb5 r5.out.lt)
   have l6 := hidP (l5.out.below hb5 l5.out.lt)
   have s6' := hb5.size
   have T6 := hidP (TX.out w5 z6.out.1)
   clear KC TX hb5 z5 r5 l5 HW4
   go_wp2_with fail
   refine T6.out.mono ?_
   rintro _ w6 ⟨rfl, z7⟩
   have st7 := z7.2
   have r7 := hidP (st7.row r6.out (by omega))
   have l7 := hidP (st7.row l6.out (by omega))
   have z8 := hidP (z6.out.trans z7)
   have s7 := st7.size
   clear T6 z7 st7 z6 r6 l6
   go_wp2_with (first | (refine bsliceU rfl 33 9 1 16 _ _ (.tmp 28) rfl Tryz.underlying33 Tryz.info9S (by decide) (by decide) rfl [.string (str tx)] rfl rfl rfl ?_; intro w7 hR7 hB7 hz7; apply shut))
   show wpList _ _ _ _ _ _
   have r8 := hidP (r7.out.below hB7 r7.out.lt)
   have l8 := hidP (l7.out.below hB7 l7.out.lt)
   have z9 := hidP (z8.out.low hg htb (below_le hB7 (by omega)))
   have s8 := hB7.size
   replace hR7 := hidP hR7
   clear r7 l7 z8 hB7
   go_wp2_with (first | (refine stC rfl 33 (.tmp 30) (.tmp 29) rfl rfl rfl l8.out (sv22 l8.out rfl _ _ _) ?_; intro wL lL stL; apply shut))
   show wpList _ _ _ _ _ _
   simp only [List.set_cons_zero, List.set_cons_succ] at lL
   have zL := hidP (z9.out.other stL hg htb (fun k e => by omega))
   have rL := hidP (stL.row r8.out (by omega))
   have eL := stL.row hR7.out (by omega)
   have sL := stL.size
   have qL : Hid (StrQ (Fr W4 wL) 100 wL (.slice (some ⟨w6.heap.size, 0, none⟩) 1 1) [tx]) := arq_one eL rfl (show TxQ 100 [.string (str tx)] tx from ⟨rfl, Nat.le_trans LT.out (by decide)⟩) ⟨by omega, eL.lt⟩ (by decide)
   replace lL := hidP lL
   clear r8 z9 l8 stL eL hR7 LT
   have M : Hid (Calls Tryz.prog 58 #[.pointer (some ⟨g, 0, none⟩), .string ⟨#[109, 117, 116]⟩] wL fun ev w' => ev = .returned (.bool (optF T [109, 117, 116] s6).1) /\ Stay (fun k => k = g) wL w' /\ PSt T tb cap g w w' (optF T [109, 117, 116] s6).2) := (opt_any zL.out.1 [109, 117, 116]).mono fun _ _ q => ⟨q.1, q.2.2, zL.out.trans q.2⟩
   generalize optF T [109, 117, 116] s6 = m at *
   obtain ⟨m1, m2⟩ := m
   simp only at M
   cases m1 with
   | true =>
    go_wp2_with fail
    refine M.out.mono ?_
    rintro _ w9 ⟨rfl, st9, z9⟩
    have r9 := hidP (st9.row rL.out (by omega))
    have l9 := hidP (st9.row lL.out (by omega))
    have q9 := hidP ((qL.out).mono (Kp.stayT st9 (fun k e => by omega)))
    have sz9 := hidP st9.size
    replace z9 := hidP z9
    clear M st9 zL rL lL qL
    go_wp2_with (first | (refine stC rfl 3 (.tmp 33) (.const (.int .i64 5)) rfl rfl rfl l9.out (sv3 l9.out rfl 5) ?_; intro wM lM stM; apply shut))
    show wpList _ _ _ _ _ _
    have lA := hidP lM
    have rA := hidP (stM.row r9.out (by omega))
    have zA := hidP (z9.out.other stM hg htb (fun k e => by omega))
    have qA := hidP ((q9.out).mono (Kp.stayT stM (fun k e => by omega)))
    have szA := Nat.le_trans sz9.out stM.size
    clear lM stM
    have C := hidP (IH.out _ _ zA.out.1)
    have hR := hidP (show R = (⟨5, [], [tx], [(typF T f m2).1]⟩, (typF T f m2).2) from HT.out)
    clear IH HT r9 q9 z9 sz9 l9
    go_wp2_with fail
    refine C.out.mono ?_
    rintro _ wA ⟨cA, rfl, zB, qB⟩
    have stB := zB.2
    have szD := zA.out.2.size
    have rB := hidP (stB.row rA.out (by omega))
    have lB := hidP (stB.row lA.out (by omega))
    have qC := hidP (qA.out.mono (Kp.stayT stB (fun k e => by omega)))
    have zC := hidP (zA.out.trans zB)
    have szB := stB.size
    have hFrB := hidP (fun (b : World) (X : Nat -> Prop) (hs : Stay X wA b) (hX : ∀ k, X k -> k < wM.heap.size) => TyQ.mono (kp_stay hs hX (w0 := w) (by omega)) qB)
    have hl4 : Hid (cA.length = 4 /\ ∀ u ∈ cA, u.oneCell' = true) := by
     obtain ⟨v2, v3, e, _, h2, h3⟩ := qB
     obtain ⟨_, _, e2⟩ := ArQ.form h2
     obtain ⟨_, _, e3⟩ := ArQ.form h3
     rw [e, e2, e3]
     refine ⟨rfl, ?_⟩
     intro u hu
     simp only [List.mem_cons, List.not_mem_nil, or_false] at hu
     rcases hu with rfl | rfl | rfl | rfl <;> rfl
    clear zB qB stB C rA lA qA zA
    go_wp2_with (first | (refine bsliceU rfl 34 36 4 72 _ (.agg cA.toArray) (.tmp 37) rfl Tryz.underlying34 Tryz.info49T (by decide) (by decide) rfl cA rfl hl4.out.1 rfl ?_; intro wB hRB hBB hzB; apply shut))
    show wpList _ _ _ _ _ _
    have lE := hidP (lB.out.below hBB lB.out.lt)
    have rE := hidP (rB.out.below hBB rB.out.lt)
    have zE := hidP (zC.out.low hg htb (below_le hBB (by omega)))
    have qE := hidP (qC.out.mono (Kp.stayT (X := fun _ => False) (Stay.of_below hBB) (by simp)))
    have stE := hidP (Stay.of_below (X := fun k => k = w4.heap.size ∨ k = w.heap.size) hBB)
    replace hRB := hidP hRB
    clear lB rB zC qC hBB
    go_wp2_with (first | (refine stC rfl 34 (.tmp 39) (.tmp 38) rfl rfl rfl lE.out (sv47 lE.out rfl _ _ _) ?_; intro wC lF stF; apply shut))
    show wpList _ _ _ _ _ _
    have rF := hidP (stF.row rE.out (by omega))
    have eF := hidP (stF.row hRB.out (by have := lE.out.lt; omega))
    have zF := hidP (zE.out.other stF hg htb (fun k e => by omega))
    have qF := hidP ((qE.out).mono (Kp.stayT stF (fun k e => by omega)))
    have stG := hidP (stE.out.step stF (fun i hi e => .inl e))
    replace lF := hidP lF
    clear zE lE rE qE hRB stE stF
    go_wp2_with (first | (refine ldR rfl 36 (.tmp 5) rfl rfl lF.out Tryz.underlying36 rfl Tryz.sz49 ?_; apply shut))
    show wpList _ _ _ _ _ _
    refine stR rfl 36 (.tmp 4) (.tmp 40) rfl (cs := [.int .i64 5, .string ⟨#[]⟩, .slice (some ⟨w6.heap.size, 0, none⟩) 1 1, .slice (some ⟨wA.heap.size, 0, none⟩) 1 1]) rfl rfl rF.out Tryz.sz49 rfl (by intro u hu; simp only [List.mem_cons, List.not_mem_nil, or_false] at hu; rcases hu with rfl | rfl | rfl | rfl <;> rfl) ?_
    intro wF FN stN
    have HZ := hidP (zF.out.other stN hg htb (fun k e => by omega))
    have HE := hidP (stN.row eF.out (by omega))
    have HV := hidP ((qF.out).mono (Q' := Fr w _) (kp_stay stN (fun k e => by omega) (by omega)))
    have HX := hidP (hFrB.out _ (fun k => k = w4.heap.size ∨ k = w.heap.size) (stG.out.step stN (fun i hi e => .inr e)) (fun k e => by omega))
    replace FN := hidP FN
    clear zF eF qF hFrB stG rF lF stN
    go_wp2_with fail
    exact bodyPost_ret (v := .agg #[.int .i64 5, .string ⟨#[]⟩, .slice (some ⟨w6.heap.size, 0, none⟩) 1 1, .slice (some ⟨wA.heap.size, 0, none⟩) 1 1]) (results_cell_row Tryz.results92 _ _ w.heap.size 36 _ (0, 0) _ rfl FN.out.heap Tryz.underlying36 rfl (by kernel_rfl)) rfl ⟨[.int .i64 5, .string ⟨#[]⟩, .slice (some ⟨w6.heap.size, 0, none⟩) 1 1, .slice (some ⟨wA.heap.size, 0, none⟩) 1 1], rfl, by rw [hR.out]; exact HZ.out, by rw [hR.out]; exact ⟨_, _, rfl, by simp, HV.out, arq_one HE.out hl4.out.1 HX.out ⟨by omega, HE.out.lt⟩ (by decide)⟩⟩
   | false =>
    go_wp2_with fail
    refine M.out.mono ?_
    rintro _ w9 ⟨rfl, st9, z9⟩
    have r9 := hidP (st9.row rL.out (by omega))
    have l9 := hidP (st9.row lL.out (by omega))
    have q9 := hidP ((qL.out).mono (Kp.stayT st9 (fun k e => by omega)))
    have sz9 := hidP st9.size
    replace z9 := hidP z9
    clear M st9 zL rL lL qL
    have lA := l9
    have rA := r9
    have zA := z9
    have qA := q9
    have szA := sz9.out
    have C := hidP (IH.out _ _ zA.out.1)
    have hR := hidP (show R = (⟨4, [], [tx], [(typF T f m2).1]⟩, (typF T f m2).2) from HT.out)
    clear IH HT r9 q9 z9 sz9 l9
    go_wp2_with fail
    refine C.out.mono ?_
    rintro _ wA ⟨cA, rfl, zB, qB⟩
    have stB := zB.2
    have szD := zA.out.2.size
    have rB := hidP (stB.row rA.out (by omega))
    have lB := hidP (stB.row lA.out (by omega))
    have qC := hidP (qA.out.mono (Kp.stayT stB (fun k e => by omega)))
    have zC := hidP (zA.out.trans zB)
    have szB := stB.size
    have hFrB := hidP (fun (b : World) (X : Nat -> Prop) (hs : Stay X wA b) (hX : ∀ k, X k -> k < w9.heap.size) => TyQ.mono (kp_stay hs hX (w0 := w) (by omega)) qB)
    have hl4 : Hid (cA.length = 4 /\ ∀ u ∈ cA, u.oneCell' = true) := by
     obtain ⟨v2, v3, e, _, h2, h3⟩ := qB
     obtain ⟨_, _, e2⟩ := ArQ.form h2
     obtain ⟨_, _, e3⟩ := ArQ.form h3
     rw [e, e2, e3]
     refine ⟨rfl, ?_⟩
     intro u hu
     simp only [List.mem_cons, List.not_mem_nil, or_false] at hu
     rcases hu with rfl | rfl | rfl | rfl <;> rfl
    clear zB qB stB C rA lA qA zA
    go_wp2_with (first | (refine bsliceU rfl 34 36 4 72 _ (.agg cA.toArray) (.tmp 37) rfl Tryz.underlying34 Tryz.info49T (by decide) (by decide) rfl cA rfl hl4.out.1 rfl ?_; intro wB hRB hBB hzB; apply shut))
    show wpList _ _ _ _ _ _
    have lE := hidP (lB.out.below hBB lB.out.lt)
    have rE := hidP (rB.out.below hBB rB.out.lt)
    have zE := hidP (zC.out.low hg htb (below_le hBB (by omega)))
    have qE := hidP (qC.out.mono (Kp.stayT (X := fun _ => False) (Stay.of_below hBB) (by simp)))
    have stE := hidP (Stay.of_below (X := fun k => k = w4.heap.size ∨ k = w.heap.size) hBB)
    replace hRB := hidP hRB
    clear lB rB zC qC hBB
    go_wp2_with (first | (refine stC rfl 34 (.tmp 39) (.tmp 38) rfl rfl rfl lE.out (sv47 lE.out rfl _ _ _) ?_; intro wC lF stF; apply shut))
    show wpList _ _ _ _ _ _
    have rF := hidP (stF.row rE.out (by omega))
    have eF := hidP (stF.row hRB.out (by have := lE.out.lt; omega))
    have zF := hidP (zE.out.other stF hg htb (fun k e => by omega))
    have qF := hidP ((qE.out).mono (Kp.stayT stF (fun k e => by omega)))
    have stG := hidP (stE.out.step stF (fun i hi e => .inl e))
    replace lF := hidP lF
    clear zE lE rE qE hRB stE stF
    go_wp2_with (first | (refine ldR rfl 36 (.tmp 5) rfl rfl lF.out Tryz.underlying36 rfl Tryz.sz49 ?_; apply shut))
    show wpList _ _ _ _ _ _
    refine stR rfl 36 (.tmp 4) (.tmp 40) rfl (cs := [.int .i64 4, .string ⟨#[]⟩, .slice (some ⟨w6.heap.size, 0, none⟩) 1 1, .slice (some ⟨wA.heap.size, 0, none⟩) 1 1]) rfl rfl rF.out Tryz.sz49 rfl (by intro u hu; simp only [List.mem_cons, List.not_mem_nil, or_false] at hu; rcases hu with rfl | rfl | rfl | rfl <;> rfl) ?_
    intro wF FN stN
    have HZ := hidP (zF.out.other stN hg htb (fun k e => by omega))
    have HE := hidP (stN.row eF.out (by omega))
    have HV := hidP ((qF.out).mono (Q' := Fr w _) (kp_stay stN (fun k e => by omega) (by omega)))
    have HX := hidP (hFrB.out _ (fun k => k = w4.heap.size ∨ k = w.heap.size) (stG.out.step stN (fun i hi e => .inr e)) (fun k e => by omega))
    replace FN := hidP FN
    clear zF eF qF hFrB stG rF lF stN
    go_wp2_with fail
    exact bodyPost_ret (v := .agg #[.int .i64 4, .string ⟨#[]⟩, .slice (some ⟨w6.heap.size, 0, none⟩) 1 1, .slice (some ⟨wA.heap.size, 0, none⟩) 1 1]) (results_cell_row Tryz.results92 _ _ w.heap.size 36 _ (0, 0) _ rfl FN.out.heap Tryz.underlying36 rfl (by kernel_rfl)) rfl ⟨[.int .i64 4, .string ⟨#[]⟩, .slice (some ⟨w6.heap.size, 0, none⟩) 1 1, .slice (some ⟨wA.heap.size, 0, none⟩) 1 1], rfl, by rw [hR.out]; exact HZ.out, by rw [hR.out]; exact ⟨_, _, rfl, by simp, HV.out, arq_one HE.out hl4.out.1 HX.out ⟨by omega, HE.out.lt⟩ (by decide)⟩⟩
  | false =>
   rw [hk] at KC
   replace HT := hidP (show R = _ from by have := HT.out; simp only [hk, Bool.false_eq_true, if_false] at this; exact this)
   clear hk
   go_wp2_with fail
   rw [HW4.out]
   refine KC.out.mono ?_
   rintro _ w5 ⟨rfl, hb5⟩
   have zL := hidP (z5.out.low hg htb (below_le hb5 (by omega)))
   have rL := hidP (r5.out.below hb5 r5.out.lt)
   have lL := hidP (l5.out.below hb5 l5.out.lt)
   have sL := hb5.size
   have qL : Hid (StrQ (Fr W4 w5) 100 w5 (.slice none 0 0) []) := nil_arQ
   clear KC hb5 z5 r5 l5 HW4
   have M : Hid (Calls Tryz.prog 58 #[.pointer (some ⟨g, 0, none⟩), .string ⟨#[109, 117, 116]⟩] w5 fun ev w' => ev = .returned (.bool (optF T [109, 117, 116] b2).1) /\ Stay (fun k => k = g) w5 w' /\ PSt T tb cap g w w' (optF T [109, 117, 116] b2).2) := (opt_any zL.out.1 [109, 117, 116]).mono fun _ _ q => ⟨q.1, q.2.2, zL.out.trans q.2⟩
   generalize optF T [109, 117, 116] b2 = m at *
   obtain ⟨m1, m2⟩ := m
   simp only at M
   cases m1 with
   | true =>
    go_wp2_with fail
    refine M.out.mono ?_
    rintro _ w9 ⟨rfl, st9, z9⟩
    have r9 := hidP (st9.row rL.out (by omega))
    have l9 := hidP (st9.row lL.out (by omega))
    have q9 := hidP ((qL.out).mono (Kp.stayT st9 (fun k e => by omega)))
    have sz9 := hidP st9.size
    replace z9 := hidP z9
    clear M st9 zL rL lL qL
    go_wp2_with (first | (refine stC rfl 3 (.tmp 33) (.const (.int .i64 5)) rfl rfl rfl l9.out (sv3 l9.out rfl 5) ?_; intro wM lM stM; apply shut))
    show wpList _ _ _ _ _ _
    have lA := hidP lM
    have rA := hidP (stM.row r9.out (by omega))
    have zA := hidP (z9.out.other stM hg htb (fun k e => by omega))
    have qA := hidP ((q9.out).mono (Kp.stayT stM (fun k e => by omega)))
    have szA := Nat.le_trans sz9.out stM.size
    clear lM stM
    have C := hidP (IH.out _ _ zA.out.1)
    have hR := hidP (show R = (⟨5, [], [], [(typF T f m2).1]⟩, (typF T f m2).2) from HT.out)
    clear IH HT r9 q9 z9 sz9 l9
    go_wp2_with fail
    refine C.out.mono ?_
    rintro _ wA ⟨cA, rfl, zB, qB⟩
    have stB := zB.2
    have szD := zA.out.2.size
    have rB := hidP (stB.row rA.out (by omega))
    have lB := hidP (stB.row lA.out (by omega))
    have qC := hidP (qA.out.mono (Kp.stayT stB (fun k e => by omega)))
    have zC := hidP (zA.out.trans zB)
    have szB := stB.size
    have hFrB := hidP (fun (b : World) (X : Nat -> Prop) (hs : Stay X wA b) (hX : ∀ k, X k -> k < wM.heap.size) => TyQ.mono (kp_stay hs hX (w0 := w) (by omega)) qB)
    have hl4 : Hid (cA.length = 4 /\ ∀ u ∈ cA, u.oneCell' = true) := by
     obtain ⟨v2, v3, e, _, h2, h3⟩ := qB
     obtain ⟨_, _, e2⟩ := ArQ.form h2
     obtain ⟨_, _, e3⟩ := ArQ.form h3
     rw [e, e2, e3]
     refine ⟨rfl, ?_⟩
     intro u hu
     simp only [List.mem_cons, List.not_mem_nil, or_false] at hu
     rcases hu with rfl | rfl | rfl | rfl <;> rfl
    clear zB qB stB C rA lA qA zA
    go_wp2_with (first | (refine bsliceU rfl 34 36 4 72 _ (.agg cA.toArray) (.tmp 37) rfl Tryz.underlying34 Tryz.info49T (by decide) (by decide) rfl cA rfl hl4.out.1 rfl ?_; intro wB hRB hBB hzB; apply shut))
    show wpList _ _ _ _ _ _
    have lE := hidP (lB.out.below hBB lB.out.lt)
    have rE := hidP (rB.out.below hBB rB.out.lt)
    have zE := hidP (zC.out.low hg htb (below_le hBB (by omega)))
    have qE := hidP (qC.out.mono (Kp.stayT (X := fun _ => False) (Stay.of_below hBB) (by simp)))
    have stE := hidP (Stay.of_below (X := fun k => k = w4.heap.size ∨ k = w.heap.size) hBB)
    replace hRB := hidP hRB
    clear lB rB zC qC hBB
    go_wp2_with (first | (refine stC rfl 34 (.tmp 39) (.tmp 38) rfl rfl rfl lE.out (sv47 lE.out rfl _ _ _) ?_; intro wC lF stF; apply shut))
    show wpList _ _ _ _ _ _
    have rF := hidP (stF.row rE.out (by omega))
    have eF := hidP (stF.row hRB.out (by have := lE.out.lt; omega))
    have zF := hidP (zE.out.other stF hg htb (fun k e => by omega))
    have qF := hidP ((qE.out).mono (Kp.stayT stF (fun k e => by omega)))
    have stG := hidP (stE.out.step stF (fun i hi e => .inl e))
    replace lF := hidP lF
    clear zE lE rE qE hRB stE stF
    go_wp2_with (first | (refine ldR rfl 36 (.tmp 5) rfl rfl lF.out Tryz.underlying36 rfl Tryz.sz49 ?_; apply shut))
    show wpList _ _ _ _ _ _
    refine stR rfl 36 (.tmp 4) (.tmp 40) rfl (cs := [.int .i64 5, .string ⟨#[]⟩, .slice none 0 0, .slice (some ⟨wA.heap.size, 0, none⟩) 1 1]) rfl rfl rF.out Tryz.sz49 rfl (by intro u hu; simp only [List.mem_cons, List.not_mem_nil, or_false] at hu; rcases hu with rfl | rfl | rfl | rfl <;> rfl) ?_
    intro wF FN stN
    have HZ := hidP (zF.out.other stN hg htb (fun k e => by omega))
    have HE := hidP (stN.row eF.out (by omega))
    have HV := hidP ((qF.out).mono (Q' := Fr w _) (kp_stay stN (fun k e => by omega) (by omega)))
    have HX := hidP (hFrB.out _ (fun k => k = w4.heap.size ∨ k = w.heap.size) (stG.out.step stN (fun i hi e => .inr e)) (fun k e => by omega))
    replace FN := hidP FN
    clear zF eF qF hFrB stG rF lF stN
    go_wp2_with fail
    exact bodyPost_ret (v := .agg #[.int .i64 5, .string ⟨#[]⟩, .slice none 0 0, .slice (some ⟨wA.heap.size, 0, none⟩) 1 1]) (results_cell_row Tryz.results92 _ _ w.heap.size 36 _ (0, 0) _ rfl FN.out.heap Tryz.underlying36 rfl (by kernel_rfl)) rfl ⟨[.int .i64 5, .string ⟨#[]⟩, .slice none 0 0, .slice (some ⟨wA.heap.size, 0, none⟩) 1 1], rfl, by rw [hR.out]; exact HZ.out, by rw [hR.out]; exact ⟨_, _, rfl, by simp, HV.out, arq_one HE.out hl4.out.1 HX.out ⟨by omega, HE.out.lt⟩ (by decide)⟩⟩
   | false =>
    go_wp2_with fail
    refine M.out.mono ?_
    rintro _ w9 ⟨rfl, st9, z9⟩
    have r9 := hidP (st9.row rL.out (by omega))
    have l9 := hidP (st9.row lL.out (by omega))
    have q9 := hidP ((qL.out).mono (Kp.stayT st9 (fun k e => by omega)))
    have sz9 := hidP st9.size
    replace z9 := hidP z9
    clear M st9 zL rL lL qL
    have lA := l9
    have rA := r9
    have zA := z9
    have qA := q9
    have szA := sz9.out
    have C := hidP (IH.out _ _ zA.out.1)
    have hR := hidP (show R = (⟨4, [], [], [(typF T f m2).1]⟩, (typF T f m2).2) from HT.out)
    clear IH HT r9 q9 z9 sz9 l9
    go_wp2_with fail
    refine C.out.mono ?_
    rintro _ wA ⟨cA, rfl, zB, qB⟩
    have stB := zB.2
    have szD := zA.out.2.size
    have rB := hidP (stB.row rA.out (by omega))
    have lB := hidP (stB.row lA.out (by omega))
    have qC := hidP (qA.out.mono (Kp.stayT stB (fun k e => by omega)))
    have zC := hidP (zA.out.trans zB)
    have szB := stB.size
    have hFrB := hidP (fun (b : World) (X : Nat -> Prop) (hs : Stay X wA b) (hX : ∀ k, X k -> k < w9.heap.size) => TyQ.mono (kp_stay hs hX (w0 := w) (by omega)) qB)
    have hl4 : Hid (cA.length = 4 /\ ∀ u ∈ cA, u.oneCell' = true) := by
     obtain ⟨v2, v3, e, _, h2, h3⟩ := qB
     obtain ⟨_, _, e2⟩ := ArQ.form h2
     obtain ⟨_, _, e3⟩ := ArQ.form h3
     rw [e, e2, e3]
     refine ⟨rfl, ?_⟩
     intro u hu
     simp only [List.mem_cons, List.not_mem_nil, or_false] at hu
     rcases hu with rfl | rfl | rfl | rfl <;> rfl
    clear zB qB stB C rA lA qA zA
    go_wp2_with (first | (refine bsliceU rfl 34 36 4 72 _ (.agg cA.toArray) (.tmp 37) rfl Tryz.underlying34 Tryz.info49T (by decide) (by decide) rfl cA rfl hl4.out.1 rfl ?_; intro wB hRB hBB hzB; apply shut))
    show wpList _ _ _ _ _ _
    have lE := hidP (lB.out.below hBB lB.out.lt)
    have rE := hidP (rB.out.below hBB rB.out.lt)
    have zE := hidP (zC.out.low hg htb (below_le hBB (by omega)))
    have qE := hidP (qC.out.mono (Kp.stayT (X := fun _ => False) (Stay.of_below hBB) (by simp)))
    have stE := hidP (Stay.of_below (X := fun k => k = w4.heap.size ∨ k = w.heap.size) hBB)
    replace hRB := hidP hRB
    clear lB rB zC qC hBB
    go_wp2_with (first | (refine stC rfl 34 (.tmp 39) (.tmp 38) rfl rfl rfl lE.out (sv47 lE.out rfl _ _ _) ?_; intro wC lF stF; apply shut))
    show wpList _ _ _ _ _ _
    have rF := hidP (stF.row rE.out (by omega))
    have eF := hidP (stF.row hRB.out (by have := lE.out.lt; omega))
    have zF := hidP (zE.out.other stF hg htb (fun k e => by omega))
    have qF := hidP ((qE.out).mono (Kp.stayT stF (fun k e => by omega)))
    have stG := hidP (stE.out.step stF (fun i hi e => .inl e))
    replace lF := hidP lF
    clear zE lE rE qE hRB stE stF
    go_wp2_with (first | (refine ldR rfl 36 (.tmp 5) rfl rfl lF.out Tryz.underlying36 rfl Tryz.sz49 ?_; apply shut))
    show wpList _ _ _ _ _ _
    refine stR rfl 36 (.tmp 4) (.tmp 40) rfl (cs := [.int .i64 4, .string ⟨#[]⟩, .slice none 0 0, .slice (some ⟨wA.heap.size, 0, none⟩) 1 1]) rfl rfl rF.out Tryz.sz49 rfl (by intro u hu; simp only [List.mem_cons, List.not_mem_nil, or_false] at hu; rcases hu with rfl | rfl | rfl | rfl <;> rfl) ?_
    intro wF FN stN
    have HZ := hidP (zF.out.other stN hg htb (fun k e => by omega))
    have HE := hidP (stN.row eF.out (by omega))
    have HV := hidP ((qF.out).mono (Q' := Fr w _) (kp_stay stN (fun k e => by omega) (by omega)))
    have HX := hidP (hFrB.out _ (fun k => k = w4.heap.size ∨ k = w.heap.size) (stG.out.step stN (fun i hi e => .inr e)) (fun k e => by omega))
    replace FN := hidP FN
    clear zF eF qF hFrB stG rF lF stN
    go_wp2_with fail
    exact bodyPost_ret (v := .agg #[.int .i64 4, .string ⟨#[]⟩, .slice none 0 0, .slice (some ⟨wA.heap.size, 0, none⟩) 1 1]) (results_cell_row Tryz.results92 _ _ w.heap.size 36 _ (0, 0) _ rfl FN.out.heap Tryz.underlying36 rfl (by kernel_rfl)) rfl ⟨[.int .i64 4, .string ⟨#[]⟩, .slice none 0 0, .slice (some ⟨wA.heap.size, 0, none⟩) 1 1], rfl, by rw [hR.out]; exact HZ.out, by rw [hR.out]; exact ⟨_, _, rfl, by simp, HV.out, arq_one HE.out hl4.out.1 HX.out ⟨by omega, HE.out.lt⟩ (by decide)⟩⟩
 | false =>
  obtain rfl := (OH.out rfl).symm
  clear OH IH
  replace HT := hidP (show R = _ from HT.out.trans (if_neg (by simp)))
  go_wp2_with fail
  refine O.out.mono ?_
  rintro _ w4 ⟨rfl, st, z4⟩
  replace r := hidP (st.row r.out (by omega))
  have s4 := z4.2.size
  have s4' := r.out.lt
  have NM := hidP (farP_any z4.1)
  replace z4 := hidP z4
  have NL := hidP (far_len hok.out s)
  clear O z st x2 q0
  generalize farF T s = nn at *
  obtain ⟨tx, s5⟩ := nn
  simp only at NM NL
  go_wp2_with fail
  refine NM.out.mono ?_
  rintro _ w5 ⟨rfl, z5⟩
  have r5 := z5.2.row r.out (by omega)
  have s5' := z5.2.size
  replace z5 := z4.out.trans z5
  have hA5 := alloc_one w5 (.cells #[.int .i64 3, .string (str tx), .slice none 0 0, .slice none 0 0] 36)
  have z6 := hidP (z5.low hg htb (below_le hA5 z5.2.size))
  have r6 := hidP (r5.below hA5 r5.lt)
  have l6 : Hid (Row (w5.alloc (.cells #[.int .i64 3, .string (str tx), .slice none 0 0, .slice none 0 0] 36)) w5.heap.size 36 [.int .i64 3, .string (str tx), .slice none 0 0, .slice none 0 0]) := Row.new w5 36 [.int .i64 3, .string (str tx), .slice none 0 0, .slice none 0 0]
  have sz6 : (w5.alloc (.cells #[.int .i64 3, .string (str tx), .slice none 0 0, .slice none 0 0] 36)).heap.size = w5.heap.size + 1 := size_alloc _ _
  have x2 := z6.out.1.row.cell 2
  simp only [List.getElem?_cons_zero, List.getElem?_cons_succ] at x2
  have LF := hidP (lifes_any z6.out.1)
  have r6lt := r6.out.lt
  generalize hW6 : w5.alloc (.cells #[.int .i64 3, .string (str tx), .slice none 0 0, .slice none 0 0] 36) = W6 at z6 r6 l6 sz6 LF x2 r6lt
  have HW6 := hidP hW6
  have hx2 := hidP x2
  clear z4 r NM z5 r5 hA5 x2
  by_cases hc5 : s5.code = 0
  ·have q5 : ((s5.code : Int) == 0) = true := by rw [hc5]; rfl
   have x2 : (w5.alloc (.cells #[.int .i64 3, .string (str tx), .slice none 0 0, .slice none 0 0] 36)).cell? ⟨g, 2, none⟩ = some (.int .i64 (s5.code : Int)) := by rw [hW6]; exact hx2.out
   replace HT := hidP (show R = _ from by have := HT.out; simp only [hc5, if_true] at this; exact this)
   clear hW6 hx2 hc5
   generalize s5.code = co5 at *
   generalize lifesF T s5 = LFF at *
   obtain ⟨LS, s6⟩ := LFF
   simp only at LF
   go_wp2_with fail
   rw [HW6.out]
   refine LF.out.mono ?_
   rintro _ w7 ⟨v, rfl, z7, q7⟩
   obtain ⟨vo, vc, hv⟩ := ArQ.form q7
   subst hv
   have st7 := z7.2
   have z8 := hidP (z6.out.trans z7)
   have r8 := st7.row r6.out (by omega)
   have l8 := st7.row l6.out (by omega)
   have s7 := st7.size
   have q8 := hidP q7
   have hR := hidP (show R = (⟨3, tx, LS, []⟩, s6) from HT.out)
   replace r8 := hidP r8
   replace l8 := hidP l8
   clear LF q7 z7 st7 HT x2
   obtain ⟨stx, hstx⟩ : ∃ stx, stx = str tx := ⟨_, rfl⟩
   rw [← hstx] at l8 ⊢
   replace hstx := hidP hstx
   obtain ⟨nL, hnL⟩ : ∃ nL, nL = LS.length := ⟨_, rfl⟩
   rw [← hnL] at q8 ⊢
   clear hnL
   go_wp2_with (first | (refine stC rfl 33 (.tmp 51) (.tmp 50) rfl rfl rfl l8.out (sv22 l8.out rfl _ _ _) ?_; intro wL lL stL; apply shut))
   show wpList _ _ _ _ _ _
   simp only [List.set_cons_zero, List.set_cons_succ] at lL
   have zL := hidP (z8.out.other stL hg htb (fun k e => by omega))
   have rL := hidP (stL.row r8.out (by omega))
   have qL := hidP (StrQ.mono q8.out (Kp.stayT stL (fun k e => by omega)))
   have sL := stL.size
   replace lL := hidP lL
   clear z8 r8 l8 q8 stL
   go_wp2_with (first | (refine ldR rfl 36 (.tmp 6) rfl rfl lL.out Tryz.underlying36 rfl Tryz.sz49 ?_; apply shut))
   show wpList _ _ _ _ _ _
   refine stR rfl 36 (.tmp 4) (.tmp 52) rfl (cs := [.int .i64 3, .string stx, .slice vo nL vc, .slice none 0 0]) rfl rfl rL.out Tryz.sz49 rfl (by intro u hu; simp only [List.mem_cons, List.not_mem_nil, or_false] at hu; rcases hu with rfl | rfl | rfl | rfl <;> rfl) ?_
   intro wF FN stN
   have HZ := hidP (zL.out.other stN hg htb (fun k e => by omega))
   have HV := hidP ((StrQ.mono qL.out (kp_stay stN (fun k e => by omega) (by omega)) : StrQ (Fr w wF) 100 wF _ LS))
   replace FN := hidP FN
   clear zL rL qL lL stN
   go_wp2_with fail
   exact bodyPost_ret (v := .agg #[.int .i64 3, .string stx, .slice vo nL vc, .slice none 0 0]) (results_cell_row Tryz.results92 _ _ w.heap.size 36 _ (0, 0) _ rfl FN.out.heap Tryz.underlying36 rfl (by kernel_rfl)) rfl ⟨[.int .i64 3, .string stx, .slice vo nL vc, .slice none 0 0], rfl, by rw [hR.out]; exact HZ.out, by rw [hR.out]; exact ⟨_, _, by rw [hstx.out], NL.out, HV.out, nil_arQ⟩⟩
  ·have q5 : ((s5.code : Int) == 0) = false := by simp; omega
   have x2 : (w5.alloc (.cells #[.int .i64 3, .string (str tx), .slice none 0 0, .slice none 0 0] 36)).cell? ⟨g, 2, none⟩ = some (.int .i64 (s5.code : Int)) := by rw [hW6]; exact hx2.out
   replace HT := hidP (show R = _ from by have := HT.out; simp only [hc5, if_false] at this; exact this)
   have hR := hidP (show R = (⟨3, tx, [], []⟩, s5) from HT.out)
   clear hW6 hx2 hc5 LF HT
   generalize s5.code = co5 at q5 x2
   obtain ⟨stx, hstx⟩ : ∃ stx, stx = str tx := ⟨_, rfl⟩
   rw [← hstx] at l6 HW6 x2 ⊢
   replace hstx := hidP hstx
   go_wp2_with (first | (rw [HW6.out]; refine ldR rfl 36 (.tmp 6) rfl rfl l6.out Tryz.underlying36 rfl Tryz.sz49 ?_; apply shut))
   show wpList _ _ _ _ _ _
   refine stR rfl 36 (.tmp 4) (.tmp 52) rfl (cs := [.int .i64 3, .string stx, .slice none 0 0, .slice none 0 0]) rfl rfl r6.out Tryz.sz49 rfl (by intro u hu; simp only [List.mem_cons, List.not_mem_nil, or_false] at hu; rcases hu with rfl | rfl | rfl | rfl <;> rfl) ?_
   intro wF FN stN
   have HZ := hidP (z6.out.other stN hg htb (fun k e => by omega))
   replace FN := hidP FN
   clear z6 r6 l6 HW6 stN
   go_wp2_with fail
   exact bodyPost_ret (v := .agg #[.int .i64 3, .string stx, .slice none 0 0, .slice none 0 0]) (results_cell_row Tryz.results92 _ _ w.heap.size 36 _ (0, 0) _ rfl FN.out.heap Tryz.underlying36 rfl (by kernel_rfl)) rfl ⟨[.int .i64 3, .string stx, .slice none 0 0, .slice none 0 0], rfl, by rw [hR.out]; exact HZ.out, by rw [hR.out]; exact ⟨_, _, by rw [hstx.out], NL.out, nil_arQ, nil_arQ⟩⟩
theorem typ_any {T : List Tok} {tb cap g : Nat} : ∀ (f : Nat), f <= 64 -> ∀ (w : World) (s : Ps), PAt T tb cap g w s -> ∀ n, n = 65 - f -> Calls Tryz.prog 92 #[.pointer (some ⟨g, 0, none⟩), .int .i64 (n : Int)] w fun ev w' => ∃ c : List Value, ev = .returned (.agg c.toArray) /\ PSt T tb cap g w w' (typF T f s).2 /\ TyQ (f + 1) (Fr w w') 100 w' c (typF T f s).1 := by
 intro f
 induction f with
 | zero =>
  intro _ w s h n hn
  subst hn
  have := typ_zero h 65 (by rw [deep_zero]; exact fail_not (by decide)) 0
  rw [deep_zero] at this
  exact this
 | succ f ih =>
  intro hf w s h n hn
  by_cases hc : s.code = 0
  ·exact typ_main h f n (by omega) (by omega) hc (fun w s h => by have := ih (by omega) w s h (n + 1) (by omega); simpa using this)
  ·have := typ_zero h n (by rw [deep_no (by omega)]; exact hc) (f + 1)
   rw [deep_no (by omega)] at this
   have e : typF T (f + 1) s = (Ty.zero, s) := by rw [typF, if_neg hc]
   rw [e]
   exact this
end Go.Proofs.YtldbbkheemnnhaaGreatDoor
