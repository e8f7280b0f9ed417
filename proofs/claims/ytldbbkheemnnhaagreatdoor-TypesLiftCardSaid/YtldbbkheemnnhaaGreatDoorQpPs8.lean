/-
  The document's parser: structs.
-/
import Derived.Test.YtldbbkheemnnhaaGreatDoorQpPv8
namespace Go.Proofs.YtldbbkheemnnhaaGreatDoor
open Go.RowKit
def PFd (Q : Nat -> Prop) (w : World) (cs : List Value) (x : Fld) : Prop := FldQ Q 100 w cs x
theorem moFd : Mo PFd := ⟨fun h hk => FldQ.mono h hk⟩
theorem Tryz.sz52 : (Tryz.prog.info? 84).map (·.size) = some 5 := by kernel_rfl
theorem Tryz.sz74 : (Tryz.prog.info? 145).map (·.size) = some 6 := by kernel_rfl
theorem Tryz.info74S : (Tryz.prog.info? 145).map (fun i => (i.zero, i.size, i.bytes)) = some (some (.agg [Value.bool false, .string ⟨#[]⟩, .int .i64 0, .string ⟨#[]⟩, .slice none 0 0, .slice none 0 0].toArray), 6, 96) := by kernel_rfl
theorem sv50 {g t : Nat} {w : World} {j : Nat} {L : List Value} {u : Value} (r : Row w g t L) (hj : L[j]? = some u) (ao : Option Addr) (n c : Nat) : (storeVar 82 ⟨g, j, none⟩ (.slice ao n c)).run Tryz.prog w = .ok () (w.setCell ⟨g, j, none⟩ (.slice ao n c)) := by
 have c0 := r.cell j
 have f0 := r.fz j
 rw [hj] at c0
 go_simp
theorem st46 {ops : Array Oper} {rest : List Oper} {o : Oper} {a : Act} {w : World} {Q : Exit -> Act -> World -> Prop} {g t : Nat} (hgd : o.guard = none) (ty : TypeId) (x y : Operand) (ho : o.op = .store ty x y) {p q l0 l1 l2 l3 c0 c1 c2 c3 : Value} (hx : a.eval x = .pointer (some ⟨g, 2, none⟩)) (hy : a.eval y = .agg [c0, c1, c2, c3].toArray) (r : Row w g t [p, q, l0, l1, l2, l3])
  (hi : (Tryz.prog.info? ty).map (·.size) = some 4) (h1 : ∀ u ∈ [c0, c1, c2, c3], u.oneCell' = true)
  (k : ∀ w', Row w' g t [p, q, c0, c1, c2, c3] -> Stay (fun k => k = g) w w' -> wpList Tryz.prog ops Q rest (a.put o.dst undef) w') : wpList Tryz.prog ops Q (o :: rest) a w := by
 refine wpList_store_mid hgd ty x y ho g 2 [c0, c1, c2, c3].toArray hx hy (fun j hj => ⟨?_, r.fz _⟩) (by simpa using hi) (by rw [Array.all_eq_true_iff_forall_mem]; intro v hv; exact h1 v (by simpa using hv)) (k _ ((((r.set 2 c0).set 3 c1).set 4 c2).set 5 c3) ((((((Stay.refl (fun k => k = g) w).set (fun _ => rfl) 2 c0).set (fun _ => rfl) 3 c1).set (fun _ => rfl) 4 c2).set (fun _ => rfl) 5 c3)))
 have hj4 : j < 4 := by simpa using hj
 rw [r.cell]
 match j, hj4 with
 | 0, _ => rfl
 | 1, _ => rfl
 | 2, _ => rfl
 | 3, _ => rfl
theorem take_code {T : List Tok} {m : Bs} {s : Ps} (h : (takeF T m s).code = 0) : s.code = 0 := by
 unfold takeF at h
 split at h
 ·assumption
 ·exact h
theorem typ_code {T : List Tok} : ∀ (f : Nat) (s : Ps), (typF T f s).2.code = 0 -> s.code = 0
 | 0, s, h => by
  by_cases hc : s.code = 0
  ·exact hc
  ·unfold typF failF at h
   simp only at h
   rw [if_neg hc] at h
   exact h
 | f + 1, s, h => by
  rw [typF] at h
  by_cases hc : s.code = 0
  ·exact hc
  ·rw [if_neg hc] at h; exact h
theorem field_more {T : List Tok} {m : Bs} {n : Nat} {s : Ps} (h : (optF T m (fieldF T (longF T n s)).2).1 = true) : n < 64 :=
 (long_code (text_code (take_code (typ_code 64 _ (opt_yes h).1)))).2
theorem fieldsL_on {T : List Tok} {f : Nat} {out : List Fld} {s : Ps} (h : s.code = 0) (hb : (optF T [44] (fieldF T (longF T out.length s)).2).1 = true) : fieldsL T (f + 1) out s = fieldsL T f (out ++ [(fieldF T (longF T out.length s)).1]) (optF T [44] (fieldF T (longF T out.length s)).2).2 := by
 rw [fieldsL, if_pos h]
 simp only [hb, if_true]
theorem fieldsL_end {T : List Tok} {f : Nat} {out : List Fld} {s : Ps} (h : s.code = 0) (hb : (optF T [44] (fieldF T (longF T out.length s)).2).1 = false) : fieldsL T (f + 1) out s = (out ++ [(fieldF T (longF T out.length s)).1], (optF T [44] (fieldF T (longF T out.length s)).2).2) := by
 rw [fieldsL, if_pos h]
 simp only [hb]
 rfl
theorem fieldsL_no {T : List Tok} {f : Nat} {out : List Fld} {s : Ps} (h : s.code ≠ 0) : fieldsL T (f + 1) out s = (out, s) := by
 rw [fieldsL, if_neg h]
def z52 : List Value := [.bool false, .string ⟨#[]⟩, .slice none 0 0, .slice none 0 0, .int .i64 0]
set_option maxHeartbeats 16000000 in
set_option maxRecDepth 20000 in
theorem structs_any {T : List Tok} {tb cap g : Nat} {w : World} {s : Ps} (h : PAt T tb cap g w s) (pub : Bool) (at_ : Int) :
  Calls Tryz.prog 59 #[.pointer (some ⟨g, 0, none⟩), .bool pub, .int .i64 at_] w fun ev w' => ∃ c : List Value, ev = .returned (.agg c.toArray) /\ PSt T tb cap g w w' (structF T pub at_ s).2 /\ SctQ (Fr w w') 100 w' c (structF T pub at_ s).1 := by
 have hg := h.row.lt
 have htb := h.tlt
 have hok := hidP h.ok
 have hne := h.ne
 have hA := alloc_one w (.cells #[.bool false, .string ⟨#[]⟩, .slice none 0 0, .slice none 0 0, .int .i64 0] 84)
 have r0 : Hid (Row (w.alloc (.cells #[.bool false, .string ⟨#[]⟩, .slice none 0 0, .slice none 0 0, .int .i64 0] 84)) w.heap.size 84 z52) := Row.new w 84 z52
 have z0 := hidP (PSt.refl h hA)
 have T0 := hidP (text_any z0.out.1 1 (by decide))
 have LT : Hid ((textF T 1 s).1.length <= 100) := Nat.le_trans (text_len hok.out 1 s) (by decide)
 have sz0 : (w.alloc (.cells #[.bool false, .string ⟨#[]⟩, .slice none 0 0, .slice none 0 0, .int .i64 0] 84)).heap.size = w.heap.size + 1 := size_alloc _ _
 generalize hW0 : w.alloc (.cells #[.bool false, .string ⟨#[]⟩, .slice none 0 0, .slice none 0 0, .int .i64 0] 84) = W0 at r0 z0 T0 sz0
 have HW0 := hidP hW0
 obtain ⟨R, hR⟩ : ∃ R, R = structF T pub at_ s := ⟨_, rfl⟩
 rw [← hR]
 unfold structF at hR
 simp only at hR
 have HT := hidP hR
 clear hR h hA hW0
 generalize textF T 1 s = a at *
 obtain ⟨tx, s1⟩ := a
 simp only at T0 LT HT
 go_enter Tryz.func59, Tryz.ntmps59
 go_wp2_with fail
 rw [HW0.out]
 refine T0.out.mono ?_
 rintro _ w1 ⟨rfl, z1⟩
 have st1 := z1.2
 have r1 := st1.row r0.out (by omega)
 have hs1 := Nat.le_trans (Nat.le_of_eq sz0.symm) st1.size
 have zz1 := z0.out.trans z1
 obtain ⟨stx, hstx⟩ : ∃ stx, stx = str tx := ⟨_, rfl⟩
 rw [← hstx]
 replace hstx := hidP hstx
 have hA := alloc_one w1 (.cells #[.bool pub, .string stx, .slice none 0 0, .slice none 0 0, .int .i64 at_] 84)
 have sn : Hid (Row (w1.alloc (.cells #[.bool pub, .string stx, .slice none 0 0, .slice none 0 0, .int .i64 at_] 84)) w1.heap.size 84 [.bool pub, .string stx, .slice none 0 0, .slice none 0 0, .int .i64 at_]) := Row.new w1 84 _
 have rn := hidP (r1.below hA r1.lt)
 have zn := hidP (zz1.low hg htb (below_le hA (by omega)))
 have hszW1 : (w1.alloc (.cells #[.bool pub, .string stx, .slice none 0 0, .slice none 0 0, .int .i64 at_] 84)).heap.size = w1.heap.size + 1 := size_alloc _ _
 have x2 := zn.out.1.row.cell 2
 simp only [List.getElem?_cons_zero, List.getElem?_cons_succ] at x2
 have LF := hidP (lifes_any zn.out.1)
 have hx2 := hidP x2
 generalize hW1 : w1.alloc (.cells #[.bool pub, .string stx, .slice none 0 0, .slice none 0 0, .int .i64 at_] 84) = W1 at sn rn zn hszW1 LF x2
 have HW1 := hidP hW1
 clear T0 z1 st1 r1 zz1 hA r0 z0 HW0 sz0 x2
 have hszC : w.heap.size <= w1.heap.size := by omega
 by_cases hc1 : s1.code = 0
 ·have q1 : ((s1.code : Int) == 0) = true := by rw [hc1]; rfl
  have x2 := hx2.out
  replace HT := hidP (show R = _ from by have := HT.out; simp only [hc1, if_true] at this; exact this)
  clear hc1 hW1 hx2
  generalize s1.code = co1 at q1 x2
  generalize lifesF T s1 = LFF at *
  obtain ⟨LV, sL⟩ := LFF
  simp only at LF HT
  go_wp2_with fail
  rw [HW1.out]
  refine LF.out.mono ?_
  rintro _ w2 ⟨v, rfl, z2, q2⟩
  obtain ⟨vo, vc, hv⟩ := ArQ.form q2
  subst hv
  have st2 := z2.2
  have zB := hidP (zn.out.trans z2)
  have rB := hidP (st2.row rn.out (by omega))
  have sB := hidP (st2.row sn.out (by omega))
  have qB := hidP q2
  have szB := st2.size
  clear LF z2 q2 st2 zn rn sn x2 HW1
  obtain ⟨nL, hnL⟩ : ∃ nL, nL = LV.length := ⟨_, rfl⟩
  rw [← hnL] at qB ⊢
  clear hnL
  go_wp2_with (first | (refine stC rfl 33 (.tmp 21) (.tmp 20) rfl rfl rfl sB.out (sv22 sB.out rfl _ _ _) ?_; intro wL lL stL; apply shut))
  show wpList _ _ _ _ _ _
  simp only [List.set_cons_zero, List.set_cons_succ] at lL
  have zn := hidP (zB.out.other stL hg htb (fun k e => by omega))
  have rn := hidP (stL.row rB.out (by omega))
  have qn := hidP (StrQ.mono qB.out (Kp.stayT stL (fun k e => by omega)))
  have szn := Nat.le_trans szB stL.size
  have sn := hidP lL
  have TK := hidP (take_any zn.out.1 [123])
  clear zB rB sB qB lL stL szB
  go_wp2_with fail
  refine TK.out.mono ?_
  rintro _ wa ⟨rfl, za⟩
  have sta := za.2
  have ra := hidP (sta.row rn.out (by omega))
  have sa := hidP (sta.row sn.out (by omega))
  have qa := hidP (StrQ.mono qn.out (Kp.stayT sta (fun k e => by omega)))
  have zza := hidP (zn.out.trans za)
  have sza := Nat.le_trans szn sta.size
  have O1 := hidP (opt_any zza.out.1 [125])
  clear TK za sta rn sn qn zn szn
  generalize takeF T [123] sL = tb1 at *
  generalize optF T [125] tb1 = c at *
  obtain ⟨c1, c2⟩ := c
  simp only at O1
  cases c1 with
  | true =>
   have hR := hidP (show R = (⟨pub, tx, LV, [], at_⟩, c2) from by have := HT.out; simpa using this)
   clear HT
   go_wp2_with fail
   refine O1.out.mono ?_
   rintro _ wb ⟨rfl, zb⟩
   have stb := zb.2
   have rE := hidP (stb.row ra.out (by omega))
   have sE := hidP (stb.row sa.out (by omega))
   have qE := hidP (StrQ.mono qa.out (Kp.stayT stb (fun k e => by omega)))
   have zE := hidP (zza.out.trans zb)
   clear O1 zb ra sa qa zza stb
   go_wp2_with (first | (refine ldR rfl 84 (.tmp 7) rfl rfl sE.out Tryz.underlying84 rfl Tryz.sz52 ?_; apply shut))
   show wpList _ _ _ _ _ _
   refine stR rfl 84 (.tmp 6) (.tmp 26) rfl (cs := [.bool pub, .string stx, .slice vo nL vc, .slice none 0 0, .int .i64 at_]) rfl rfl rE.out Tryz.sz52 rfl (by intro u hu; simp only [List.mem_cons, List.not_mem_nil, or_false] at hu; rcases hu with rfl | rfl | rfl | rfl | rfl <;> rfl) ?_
   intro wF FN stN
   have HZ := hidP (zE.out.other stN hg htb (fun k e => by omega))
   have HV := hidP ((StrQ.mono qE.out (kp_stay stN (fun k e => by omega) (by omega)) : StrQ (Fr w wF) 100 wF _ _))
   have HF : Hid (ArQ 6 96 (FldQ (Fr w wF) 100 wF) (Fr w wF) wF (.slice none 0 0) []) := nil_arQ
   replace FN := hidP FN
   clear zE rE sE qE stN
   go_wp2_with fail
   exact bodyPost_ret (v := .agg #[.bool pub, .string stx, .slice vo nL vc, .slice none 0 0, .int .i64 at_]) (results_cell_row Tryz.results59 _ _ w.heap.size 84 _ (0, 0) _ rfl FN.out.heap Tryz.underlying84 rfl (by kernel_rfl)) rfl ⟨[.bool pub, .string stx, .slice vo nL vc, .slice none 0 0, .int .i64 at_], rfl, by rw [hR.out]; exact HZ.out, by rw [hR.out]; exact ⟨_, _, by rw [hstx.out], LT.out, HV.out, HF.out⟩⟩
  | false =>
   have hRL := hidP (show R = (⟨pub, tx, LV, (fieldsL T 66 [] c2).1, at_⟩, takeF T [125] (fieldsL T 66 [] c2).2) from by have := HT.out; simpa using this)
   clear HT
   go_wp2_with fail
   refine O1.out.mono ?_
   rintro _ wb ⟨rfl, zb⟩
   have stb := zb.2
   have rb := hidP (stb.row ra.out (by omega))
   have sb := hidP (stb.row sa.out (by omega))
   have qb := hidP (StrQ.mono qa.out (Kp.stayT stb (fun k e => by omega)))
   have zzb := hidP (zza.out.trans zb)
   have szb := hidP (Nat.le_trans sza stb.size)
   have hS1 := hidP hs1
   have hW1 := hidP hszW1
   have hC2 := hidP hszC
   clear O1 zb ra sa qa zza stb sza hs1 hszW1 hszC
   go_wp2_with fail
   go_loopw [28] (fun _ wr => ∃ (f : Nat) (out : List Fld) (s2 : Ps) (v : Value), Row wr w1.heap.size 84 [.bool pub, .string stx, .slice vo nL vc, v, .int .i64 at_] /\ Row wr w.heap.size 84 z52 /\ Gro 6 145 PFd wb wr v out /\ PSt T tb cap g w wr s2 /\ Lw W1 wb wr /\ wb.heap.size <= wr.heap.size /\ fieldsL T 66 [] c2 = fieldsL T f out s2 /\ f + out.length = 66 /\ out.length <= 64) (fun _ wr => 66 - lenV ((wr.cell? ⟨w1.heap.size, 3, none⟩).getD undef))
   case atStart => exact ⟨66, [], c2, _, sb.out, rb.out, Gro.nil, zzb.out, Lw.refl _ _, Nat.le_refl _, rfl, rfl, by simp⟩
   case round =>
    obtain ⟨f, out, s2, v, hs, hr, hG, hp, hlw, hsz, he, hf, ho⟩ := hrel
    obtain ⟨f, rfl⟩ : ∃ f', f = f' + 1 := ⟨f - 1, by omega⟩
    obtain ⟨ao, cp, rfl⟩ := hG.form
    have hs1 := hS1.out
    have hszW1 := hW1.out
    have hszC := hC2.out
    have szb' := szb.out
    have x2 := hp.1.row.cell 2
    have y3 := hs.cell 3
    simp only [List.getElem?_cons_zero, List.getElem?_cons_succ] at x2 y3
    have hm0 : Hid (wr.cell? ⟨w1.heap.size, 3, none⟩ = some (.slice ao out.length cp)) := y3
    replace he := hidP he
    replace hp := hidP hp
    replace hG := hidP hG
    replace hs := hidP hs
    replace hr := hidP hr
    replace hlw := hidP hlw
    by_cases hc : s2.code = 0
    ·have q0 : ((s2.code : Int) == 0) = true := by rw [hc]; rfl
     have LL := hidP (long_any hp.out.1 out.length)
     have MO := hidP (fun hh => field_more (T := T) (m := [44]) (n := out.length) (s := s2) hh)
     have HE := hidP (fun hb => fieldsL_on (T := T) (f := f) (out := out) hc hb)
     have HN := hidP (fun hb => fieldsL_end (T := T) (f := f) (out := out) hc hb)
     have HFD := hidP (show fieldF T (longF T out.length s2) = (⟨false, (textF T 1 (longF T out.length s2)).1, (typF T 64 (takeF T [58] (textF T 1 (longF T out.length s2)).2)).1⟩, (typF T 64 (takeF T [58] (textF T 1 (longF T out.length s2)).2)).2) from rfl)
     have LTF := hidP (text_len hok.out 1 (longF T out.length s2))
     clear hc
     generalize s2.code = co at q0 x2
     go_wp2_with fail
     refine LL.out.mono ?_
     rintro _ wA ⟨rfl, zA⟩
     have stA := zA.2
     have sA := hidP (stA.row hs.out (by omega))
     have rA := hidP (stA.row hr.out (by omega))
     have gA := hidP (hG.out.stay moFd stA (fun k e => by omega))
     have lA := hidP (hlw.out.stay stA (fun k e => .inl (by omega)))
     have szA := Nat.le_trans hsz stA.size
     have TX := hidP (text_any zA.1 1 (by decide))
     have zzA := hidP (hp.out.trans zA)
     clear LL hs hr hG hlw hp zA stA x2 y3 hsz
     generalize fieldF T (longF T out.length s2) = FD at *
     generalize longF T out.length s2 = sLo at *
     generalize textF T 1 sLo = a4 at *
     obtain ⟨tn, s5⟩ := a4
     simp only at TX LTF HFD
     go_wp2_with fail
     refine TX.out.mono ?_
     rintro _ wB ⟨rfl, zB⟩
     have stB := zB.2
     have sB := hidP (stB.row sA.out (by omega))
     have rB := hidP (stB.row rA.out (by omega))
     have gB := hidP (gA.out.stay moFd stB (fun k e => by omega))
     have lB := hidP (lA.out.stay stB (fun k e => .inl (by omega)))
     have szB := Nat.le_trans szA stB.size
     have zzB := zzA.out.trans zB
     obtain ⟨stn, hstn⟩ : ∃ stn, stn = str tn := ⟨_, rfl⟩
     rw [← hstn]
     replace hstn := hidP hstn
     have hAB := alloc_one wB (.cells #[.bool false, .string stn, .int .i64 0, .string ⟨#[]⟩, .slice none 0 0, .slice none 0 0] 145)
     have fB : Hid (Row (wB.alloc (.cells #[.bool false, .string stn, .int .i64 0, .string ⟨#[]⟩, .slice none 0 0, .slice none 0 0] 145)) wB.heap.size 145 [.bool false, .string stn, .int .i64 0, .string ⟨#[]⟩, .slice none 0 0, .slice none 0 0]) := Row.new wB 145 _
     have sC := hidP (sB.out.below hAB sB.out.lt)
     have rC := hidP (rB.out.below hAB rB.out.lt)
     have lC := hidP (lB.out.below hAB (by omega))
     have mC := hidP ((Lw.refl wb wB).below hAB (Nat.le_refl _))
     have zC := hidP (zzB.low hg htb (below_le hAB (by omega)))
     have szC : (wB.alloc (.cells #[.bool false, .string stn, .int .i64 0, .string ⟨#[]⟩, .slice none 0 0, .slice none 0 0] 145)).heap.size = wB.heap.size + 1 := size_alloc _ _
     have TC := hidP (take_any zC.out.1 [58])
     generalize hWB : wB.alloc (.cells #[.bool false, .string stn, .int .i64 0, .string ⟨#[]⟩, .slice none 0 0, .slice none 0 0] 145) = WB at fB sC rC lC mC zC szC TC
     have HWB := hidP hWB
     clear TX zB stB sA rA gA lA szA zzA zzB hWB hAB sB rB lB
     generalize takeF T [58] s5 = s7 at *
     go_wp2_with fail
     rw [HWB.out]
     refine TC.out.mono ?_
     rintro _ wC ⟨rfl, zD⟩
     have stC := zD.2
     have sD := hidP (stC.row sC.out (by omega))
     have rD := hidP (stC.row rC.out (by omega))
     have fD := hidP (stC.row fB.out (by omega))
     have lD := hidP (lC.out.stay stC (fun k e => .inl (by omega)))
     have mD := hidP (mC.out.stay stC (fun k e => .inl (by omega)))
     have szD := stC.size
     have TY : Hid (Calls Tryz.prog 92 #[.pointer (some ⟨g, 0, none⟩), .int .i64 1] wC fun ev w' => ∃ c : List Value, ev = .returned (.agg c.toArray) /\ PSt T tb cap g wC w' (typF T 64 s7).2 /\ TyQ 65 (Fr wC w') 100 w' c (typF T 64 s7).1) := typ_any 64 (by decide) wC s7 zD.1 1 rfl
     have zzD := hidP (zC.out.trans zD)
     clear TC zD stC sC rC fB lC mC zC HWB
     generalize typF T 64 s7 = ty at *
     obtain ⟨ty1, s8⟩ := ty
     simp only at TY HFD
     go_wp2_with fail
     refine TY.out.mono ?_
     rintro _ wD ⟨cD, rfl, zE, qD⟩
     obtain ⟨d2, d3, ed, hd1, hd2, hd3⟩ := qD
     obtain ⟨da, db, e2⟩ := ArQ.form hd2
     obtain ⟨dc, dd, e3⟩ := ArQ.form hd3
     subst e2 e3 ed
     have stE := zE.2
     have sE := hidP (stE.row sD.out (by omega))
     have rE := hidP (stE.row rD.out (by omega))
     have fE := hidP (stE.row fD.out (by omega))
     have lE := hidP (lD.out.stay stE (fun k e => .inl (by omega)))
     have mE := hidP (mD.out.stay stE (fun k e => .inl (by omega)))
     have szE := stE.size
     have zzE := hidP (zzD.out.trans zE)
     have HQ : Hid (∀ (b : World) (X : Nat -> Prop), Stay X wD b -> (∀ k, X k -> k < wC.heap.size) -> TyQ 65 (Fr wC b) 100 b [.int .i64 ty1.kind, .string (str ty1.name), .slice da ty1.lives.length db, .slice dc ty1.elem.length dd] ty1) := fun b X hs hX => TyQ.mono (Kp.stayT hs hX) ⟨_, _, rfl, hd1, hd2, hd3⟩
     clear TY zE stE sD rD fD lD mD zzD hd1 hd2 hd3
     go_wp2_with (first | (refine st46 rfl 36 (.tmp 44) (.tmp 43) rfl rfl rfl fE.out Tryz.sz49 (by intro u hu; simp only [List.mem_cons, List.not_mem_nil, or_false] at hu; rcases hu with rfl | rfl | rfl | rfl <;> rfl) ?_; intro wE fF stF; apply shut))
     show wpList _ _ _ _ _ _
     have sF := hidP (stF.row sE.out (by omega))
     have rF := hidP (stF.row rE.out (by omega))
     have lF := hidP (lE.out.stay stF (fun k e => .inr (by omega)))
     have mF := hidP (mE.out.stay stF (fun k e => .inr (by omega)))
     have zF := hidP (zzE.out.other stF hg htb (fun k e => by omega))
     have szF := stF.size
     have y3 := sF.out.cell 3
     simp only [List.getElem?_cons_zero, List.getElem?_cons_succ] at y3
     replace fF := hidP fF
     replace stF := hidP stF
     clear sE rE fE lE mE zzE
     go_wp2_with (first | (refine ldR rfl 145 (.tmp 8) rfl rfl fF.out Tryz.underlying145 rfl Tryz.sz74 ?_; refine bsliceU rfl 82 145 6 96 _ (.agg [.bool false, .string stn, .int .i64 ty1.kind, .string (str ty1.name), .slice da ty1.lives.length db, .slice dc ty1.elem.length dd].toArray) (.tmp 47) rfl Tryz.underlying82 Tryz.info74S (by decide) (by decide) rfl [.bool false, .string stn, .int .i64 ty1.kind, .string (str ty1.name), .slice da ty1.lives.length db, .slice dc ty1.elem.length dd] rfl rfl rfl ?_; intro wG hRG hBG hzG; apply shut))
     show wpList _ _ _ _ _ _
     have GG := hidP (gB.out.low moFd (mF.out.below hBG (by omega)))
     have sG := hidP (sF.out.below hBG sF.out.lt)
     have rG := hidP (rF.out.below hBG rF.out.lt)
     have lG := hidP (lF.out.below hBG (by omega))
     have zG := hidP (zF.out.low hg htb (below_le hBG (by omega)))
     have szG := hBG.size
     refine wpl_gro rfl (.tmp 46) (.tmp 48) moFd rfl Tryz.underlying82 Tryz.info74S rfl (by decide) rfl rfl GG.out (by omega) hRG rfl (by intro u hu; simp only [List.mem_cons, List.not_mem_nil, or_false] at hu; rcases hu with rfl | rfl | rfl | rfl | rfl | rfl <;> rfl) (x := ⟨false, tn, ty1⟩) ?_ (by omega) (by decide) ?_
     ·refine ⟨_, by rw [hstn.out], Nat.le_trans LTF.out (by decide), 65, ?_⟩
      refine (HQ.out wG (fun k => k = wB.heap.size) (stF.out.trans (Stay.of_below hBG)) (fun k e => by omega)).mono ⟨fun b hb => ⟨⟨by have := hb.1; omega, hb.2⟩, fun e => ?_⟩, fun _ _ => rfl⟩
      obtain ⟨Lx, _, hox⟩ := gB.out.ex
      have h3 := (hox.lt b e).2
      have h2 := hb.1
      omega
     intro ao6 cp6 wH hGH hbH
     have sH := hidP (sG.out.below hbH (by omega))
     have rH := hidP (rG.out.below hbH (by omega))
     have lH := hidP (lG.out.below hbH (by omega))
     have zH := hidP (zG.out.low hg htb (below_le hbH (by omega)))
     have szH := Nat.le_trans (show wb.heap.size <= wG.heap.size by omega) hbH.size
     replace hGH := hidP hGH
     clear GG sG rG lG zG hRG hBG hzG HQ stF fF sF rF lF mF zF gB y3 hbH
     go_wp2_with (first | (refine stC (v := .slice ao6 (out.length + 1) cp6) rfl 82 (.tmp 50) (.tmp 49) rfl rfl rfl sH.out (sv50 sH.out rfl _ _ _) ?_; intro wI sI stI; apply shut))
     show wpList _ _ _ _ _ _
     simp only [List.set_cons_zero, List.set_cons_succ] at sI
     have rI := hidP (stI.row rH.out (by omega))
     have lI := hidP (lH.out.stay stI (fun k e => .inl (by omega)))
     have gI := hidP (hGH.out.stay moFd stI (fun k e => by omega))
     have zI := hidP (zH.out.other stI hg htb (fun k e => by omega))
     have szI := Nat.le_trans szH stI.size
     replace sI := hidP sI
     have OO := hidP (opt_any zI.out.1 [44])
     clear sH rH lH zH hGH stI
     have hFD := HFD.out
     subst hFD
     generalize optF T [44] s8 = b at *
     obtain ⟨b1, s9⟩ := b
     simp only at OO MO HE HN
     cases b1 with
     | true =>
      have h64 := MO.out rfl
      have he2 := hidP (he.out.trans (HE.out rfl))
      clear MO HE HN he hRL
      go_wp2_with fail
      refine OO.out.mono ?_
      rintro _ wJ ⟨rfl, zJ⟩
      have stJ := zJ.2
      have sJ := hidP (stJ.row sI.out (by omega))
      have rJ := hidP (stJ.row rI.out (by omega))
      have gJ := hidP (gI.out.stay moFd stJ (fun k e => by omega))
      have lJ := hidP (lI.out.stay stJ (fun k e => .inl (by omega)))
      have szJ := hidP (Nat.le_trans szI stJ.size)
      have zzJ := hidP (zI.out.trans zJ)
      have d1 : Hid (wJ.cell? ⟨w1.heap.size, 3, none⟩ = some (.slice ao6 (out.length + 1) cp6)) := sJ.out.cell 3
      clear OO zJ stJ sI rI gI lI zI
      go_wp2_with fail
      go_roundw
      case rel => exact ⟨f, out ++ [⟨false, tn, ty1⟩], s9, _, sJ.out, rJ.out, gJ.out, zzJ.out, lJ.out, szJ.out, he2.out, by rw [List.length_append]; simp; omega, by rw [List.length_append]; simp; omega⟩
      case measure =>
       show 66 - lenV ((wJ.cell? ⟨w1.heap.size, 3, none⟩).getD undef) < 66 - lenV ((wr.cell? ⟨w1.heap.size, 3, none⟩).getD undef)
       rw [d1.out, hm0.out]
       show 66 - (out.length + 1) < 66 - out.length
       omega
     | false =>
      have he2 := he.out.trans (HN.out rfl)
      have hR := hRL.out
      rw [he2] at hR
      replace hR := hidP hR
      clear MO HE HN he hRL he2
      go_wp2_with fail
      refine OO.out.mono ?_
      rintro _ wJ ⟨rfl, zJ⟩
      have stJ := zJ.2
      have sJ := hidP (stJ.row sI.out (by omega))
      have rJ := hidP (stJ.row rI.out (by omega))
      have gJ := hidP (gI.out.stay moFd stJ (fun k e => by omega))
      have lJ := hidP (lI.out.stay stJ (fun k e => .inl (by omega)))
      have szJ := Nat.le_trans szI stJ.size
      have zzJ := hidP (zI.out.trans zJ)
      have TK := hidP (take_any zzJ.out.1 [125])
      clear OO zJ stJ sI rI gI lI zI
      generalize takeF T [125] s9 = sX at *
      go_wp2_with fail
      refine TK.out.mono ?_
      rintro _ wX ⟨rfl, zX⟩
      have stX := zX.2
      have sE := hidP (stX.row sJ.out (by omega))
      have rE := hidP (stX.row rJ.out (by omega))
      have gE := hidP (gJ.out.stay moFd stX (fun k e => by omega))
      have lE := hidP (lJ.out.stay stX (fun k e => .inl (by omega)))
      have qE := hidP (StrQ.mono qb.out (⟨fun b hb => ⟨hb.1, Nat.lt_of_lt_of_le hb.2 lE.out.2⟩, fun b hb => lE.out.1 b hb.1 hb.2⟩ : Kp (Fr W1 wb) (Fr W1 _) _ _))
      have zE := hidP (zzJ.out.trans zX)
      have szE := lE.out.2
      clear TK zX stX sJ rJ gJ lJ zzJ lE
      go_wp2_with (first | (refine ldR rfl 84 (.tmp 7) rfl rfl sE.out Tryz.underlying84 rfl Tryz.sz52 ?_; apply shut))
      show wpList _ _ _ _ _ _
      refine stR rfl 84 (.tmp 6) (.tmp 56) rfl (cs := [.bool pub, .string stx, .slice vo nL vc, .slice ao6 (out.length + 1) cp6, .int .i64 at_]) rfl rfl rE.out Tryz.sz52 rfl (by intro u hu; simp only [List.mem_cons, List.not_mem_nil, or_false] at hu; rcases hu with rfl | rfl | rfl | rfl | rfl <;> rfl) ?_
      intro wF FN stN
      have HZ := hidP (zE.out.other stN hg htb (fun k e => by omega))
      have HV := hidP ((StrQ.mono qE.out (kp_stay stN (fun k e => by omega) (by omega)) : StrQ (Fr w wF) 100 wF _ _))
      have HF : Hid (ArQ 6 96 (FldQ (Fr w wF) 100 wF) (Fr w wF) wF (.slice ao6 (out.length + 1) cp6) (out ++ [⟨false, tn, ty1⟩])) := (gE.out.done (bz := 96) moFd (by first | (rw [List.length_append]; simp; omega) | omega)).mono (kp_stay stN (fun k e => by omega) (by omega)) (fun _ _ _ h => FldQ.mono h (kp_stay stN (fun k e => by omega) (by omega)))
      replace FN := hidP FN
      clear zE rE sE qE stN
      go_wp2_with fail
      exact bodyPost_ret (v := .agg #[.bool pub, .string stx, .slice vo nL vc, .slice ao6 (out.length + 1) cp6, .int .i64 at_]) (results_cell_row Tryz.results59 _ _ w.heap.size 84 _ (0, 0) _ rfl FN.out.heap Tryz.underlying84 rfl (by kernel_rfl)) rfl ⟨[.bool pub, .string stx, .slice vo nL vc, .slice ao6 (out.length + 1) cp6, .int .i64 at_], rfl, by rw [hR.out]; exact HZ.out, by rw [hR.out]; exact ⟨_, _, by rw [hstx.out], LT.out, HV.out, HF.out⟩⟩
    ·have q0 : ((s2.code : Int) == 0) = false := by simp; omega
     have he2 := he.out.trans (fieldsL_no hc)
     have hR := hRL.out
     rw [he2] at hR
     replace hR := hidP hR
     have TK := hidP (take_any hp.out.1 [125])
     clear he hRL he2 y3 hc
     generalize s2.code = co at q0 x2
     generalize takeF T [125] s2 = sX at *
     go_wp2_with fail
     refine TK.out.mono ?_
     rintro _ wX ⟨rfl, zX⟩
     have stX := zX.2
     have sE := hidP (stX.row hs.out (by omega))
     have rE := hidP (stX.row hr.out (by omega))
     have gE := hidP (hG.out.stay moFd stX (fun k e => by omega))
     have lE := hidP (hlw.out.stay stX (fun k e => .inl (by omega)))
     have qE := hidP (StrQ.mono qb.out (⟨fun b hb => ⟨hb.1, Nat.lt_of_lt_of_le hb.2 lE.out.2⟩, fun b hb => lE.out.1 b hb.1 hb.2⟩ : Kp (Fr W1 wb) (Fr W1 _) _ _))
     have zE := hidP (hp.out.trans zX)
     have szE := lE.out.2
     clear TK zX stX hs hr hG hlw hp lE
     go_wp2_with (first | (refine ldR rfl 84 (.tmp 7) rfl rfl sE.out Tryz.underlying84 rfl Tryz.sz52 ?_; apply shut))
     show wpList _ _ _ _ _ _
     refine stR rfl 84 (.tmp 6) (.tmp 56) rfl (cs := [.bool pub, .string stx, .slice vo nL vc, .slice ao out.length cp, .int .i64 at_]) rfl rfl rE.out Tryz.sz52 rfl (by intro u hu; simp only [List.mem_cons, List.not_mem_nil, or_false] at hu; rcases hu with rfl | rfl | rfl | rfl | rfl <;> rfl) ?_
     intro wF FN stN
     have HZ := hidP (zE.out.other stN hg htb (fun k e => by omega))
     have HV := hidP ((StrQ.mono qE.out (kp_stay stN (fun k e => by omega) (by omega)) : StrQ (Fr w wF) 100 wF _ _))
     have HF : Hid (ArQ 6 96 (FldQ (Fr w wF) 100 wF) (Fr w wF) wF (.slice ao out.length cp) out) := (gE.out.done (bz := 96) moFd (by first | (rw [List.length_append]; simp; omega) | omega)).mono (kp_stay stN (fun k e => by omega) (by omega)) (fun _ _ _ h => FldQ.mono h (kp_stay stN (fun k e => by omega) (by omega)))
     replace FN := hidP FN
     clear zE rE sE qE stN
     go_wp2_with fail
     exact bodyPost_ret (v := .agg #[.bool pub, .string stx, .slice vo nL vc, .slice ao out.length cp, .int .i64 at_]) (results_cell_row Tryz.results59 _ _ w.heap.size 84 _ (0, 0) _ rfl FN.out.heap Tryz.underlying84 rfl (by kernel_rfl)) rfl ⟨[.bool pub, .string stx, .slice vo nL vc, .slice ao out.length cp, .int .i64 at_], rfl, by rw [hR.out]; exact HZ.out, by rw [hR.out]; exact ⟨_, _, by rw [hstx.out], LT.out, HV.out, HF.out⟩⟩
 ·have q1 : ((s1.code : Int) == 0) = false := by simp; omega
  have x2 := hx2.out
  replace HT := hidP (show R = _ from by have := HT.out; simp only [hc1, if_false] at this; exact this)
  clear hc1 hW1 hx2 LF
  have qn : Hid (StrQ (Fr W1 W1) 100 W1 (.slice none 0 0) []) := nil_arQ
  have szn := Nat.le_refl W1.heap.size
  have TK := hidP (take_any zn.out.1 [123])
  generalize s1.code = co1 at q1 x2
  go_wp2_with fail
  rw [HW1.out]
  refine TK.out.mono ?_
  rintro _ wa ⟨rfl, za⟩
  have sta := za.2
  have ra := hidP (sta.row rn.out (by omega))
  have sa := hidP (sta.row sn.out (by omega))
  have qa := hidP (StrQ.mono qn.out (Kp.stayT sta (fun k e => by omega)))
  have zza := hidP (zn.out.trans za)
  have sza := Nat.le_trans szn sta.size
  have O1 := hidP (opt_any zza.out.1 [125])
  clear TK za sta rn sn qn zn szn
  generalize takeF T [123] s1 = tb1 at *
  generalize optF T [125] tb1 = c at *
  obtain ⟨c1, c2⟩ := c
  simp only at O1
  cases c1 with
  | true =>
   have hR := hidP (show R = (⟨pub, tx, [], [], at_⟩, c2) from by have := HT.out; simpa using this)
   clear HT
   go_wp2_with fail
   refine O1.out.mono ?_
   rintro _ wb ⟨rfl, zb⟩
   have stb := zb.2
   have rE := hidP (stb.row ra.out (by omega))
   have sE := hidP (stb.row sa.out (by omega))
   have qE := hidP (StrQ.mono qa.out (Kp.stayT stb (fun k e => by omega)))
   have zE := hidP (zza.out.trans zb)
   clear O1 zb ra sa qa zza stb
   go_wp2_with (first | (refine ldR rfl 84 (.tmp 7) rfl rfl sE.out Tryz.underlying84 rfl Tryz.sz52 ?_; apply shut))
   show wpList _ _ _ _ _ _
   refine stR rfl 84 (.tmp 6) (.tmp 26) rfl (cs := [.bool pub, .string stx, .slice none 0 0, .slice none 0 0, .int .i64 at_]) rfl rfl rE.out Tryz.sz52 rfl (by intro u hu; simp only [List.mem_cons, List.not_mem_nil, or_false] at hu; rcases hu with rfl | rfl | rfl | rfl | rfl <;> rfl) ?_
   intro wF FN stN
   have HZ := hidP (zE.out.other stN hg htb (fun k e => by omega))
   have HV := hidP ((StrQ.mono qE.out (kp_stay stN (fun k e => by omega) (by omega)) : StrQ (Fr w wF) 100 wF _ _))
   have HF : Hid (ArQ 6 96 (FldQ (Fr w wF) 100 wF) (Fr w wF) wF (.slice none 0 0) []) := nil_arQ
   replace FN := hidP FN
   clear zE rE sE qE stN
   go_wp2_with fail
   exact bodyPost_ret (v := .agg #[.bool pub, .string stx, .slice none 0 0, .slice none 0 0, .int .i64 at_]) (results_cell_row Tryz.results59 _ _ w.heap.size 84 _ (0, 0) _ rfl FN.out.heap Tryz.underlying84 rfl (by kernel_rfl)) rfl ⟨[.bool pub, .string stx, .slice none 0 0, .slice none 0 0, .int .i64 at_], rfl, by rw [hR.out]; exact HZ.out, by rw [hR.out]; exact ⟨_, _, by rw [hstx.out], LT.out, HV.out, HF.out⟩⟩
  | false =>
   have hRL := hidP (show R = (⟨pub, tx, [], (fieldsL T 66 [] c2).1, at_⟩, takeF T [125] (fieldsL T 66 [] c2).2) from by have := HT.out; simpa using this)
   clear HT
   go_wp2_with fail
   refine O1.out.mono ?_
   rintro _ wb ⟨rfl, zb⟩
   have stb := zb.2
   have rb := hidP (stb.row ra.out (by omega))
   have sb := hidP (stb.row sa.out (by omega))
   have qb := hidP (StrQ.mono qa.out (Kp.stayT stb (fun k e => by omega)))
   have zzb := hidP (zza.out.trans zb)
   have szb := hidP (Nat.le_trans sza stb.size)
   have hS1 := hidP hs1
   have hW1 := hidP hszW1
   have hC2 := hidP hszC
   clear O1 zb ra sa qa zza stb sza hs1 hszW1 hszC
   go_wp2_with fail
   go_loopw [28] (fun _ wr => ∃ (f : Nat) (out : List Fld) (s2 : Ps) (v : Value), Row wr w1.heap.size 84 [.bool pub, .string stx, .slice none 0 0, v, .int .i64 at_] /\ Row wr w.heap.size 84 z52 /\ Gro 6 145 PFd wb wr v out /\ PSt T tb cap g w wr s2 /\ Lw W1 wb wr /\ wb.heap.size <= wr.heap.size /\ fieldsL T 66 [] c2 = fieldsL T f out s2 /\ f + out.length = 66 /\ out.length <= 64) (fun _ wr => 66 - lenV ((wr.cell? ⟨w1.heap.size, 3, none⟩).getD undef))
   case atStart => exact ⟨66, [], c2, _, sb.out, rb.out, Gro.nil, zzb.out, Lw.refl _ _, Nat.le_refl _, rfl, rfl, by simp⟩
   case round =>
    obtain ⟨f, out, s2, v, hs, hr, hG, hp, hlw, hsz, he, hf, ho⟩ := hrel
    obtain ⟨f, rfl⟩ : ∃ f', f = f' + 1 := ⟨f - 1, by omega⟩
    obtain ⟨ao, cp, rfl⟩ := hG.form
    have hs1 := hS1.out
    have hszW1 := hW1.out
    have hszC := hC2.out
    have szb' := szb.out
    have x2 := hp.1.row.cell 2
    have y3 := hs.cell 3
    simp only [List.getElem?_cons_zero, List.getElem?_cons_succ] at x2 y3
    have hm0 : Hid (wr.cell? ⟨w1.heap.size, 3, none⟩ = some (.slice ao out.length cp)) := y3
    replace he := hidP he
    replace hp := hidP hp
    replace hG := hidP hG
    replace hs := hidP hs
    replace hr := hidP hr
    replace hlw := hidP hlw
    by_cases hc : s2.code = 0
    ·have q0 : ((s2.code : Int) == 0) = true := by rw [hc]; rfl
     have LL := hidP (long_any hp.out.1 out.length)
     have MO := hidP (fun hh => field_more (T := T) (m := [44]) (n := out.length) (s := s2) hh)
     have HE := hidP (fun hb => fieldsL_on (T := T) (f := f) (out := out) hc hb)
     have HN := hidP (fun hb => fieldsL_end (T := T) (f := f) (out := out) hc hb)
     have HFD := hidP (show fieldF T (longF T out.length s2) = (⟨false, (textF T 1 (longF T out.length s2)).1, (typF T 64 (takeF T [58] (textF T 1 (longF T out.length s2)).2)).1⟩, (typF T 64 (takeF T [58] (textF T 1 (longF T out.length s2)).2)).2) from rfl)
     have LTF := hidP (text_len hok.out 1 (longF T out.length s2))
     clear hc
     generalize s2.code = co at q0 x2
     go_wp2_with fail
     refine LL.out.mono ?_
     rintro _ wA ⟨rfl, zA⟩
     have stA := zA.2
     have sA := hidP (stA.row hs.out (by omega))
     have rA := hidP (stA.row hr.out (by omega))
     have gA := hidP (hG.out.stay moFd stA (fun k e => by omega))
     have lA := hidP (hlw.out.stay stA (fun k e => .inl (by omega)))
     have szA := Nat.le_trans hsz stA.size
     have TX := hidP (text_any zA.1 1 (by decide))
     have zzA := hidP (hp.out.trans zA)
     clear LL hs hr hG hlw hp zA stA x2 y3 hsz
     generalize fieldF T (longF T out.length s2) = FD at *
     generalize longF T out.length s2 = sLo at *
     generalize textF T 1 sLo = a4 at *
     obtain ⟨tn, s5⟩ := a4
     simp only at TX LTF HFD
     go_wp2_with fail
     refine TX.out.mono ?_
     rintro _ wB ⟨rfl, zB⟩
     have stB := zB.2
     have sB := hidP (stB.row sA.out (by omega))
     have rB := hidP (stB.row rA.out (by omega))
     have gB := hidP (gA.out.stay moFd stB (fun k e => by omega))
     have lB := hidP (lA.out.stay stB (fun k e => .inl (by omega)))
     have szB := Nat.le_trans szA stB.size
     have zzB := zzA.out.trans zB
     obtain ⟨stn, hstn⟩ : ∃ stn, stn = str tn := ⟨_, rfl⟩
     rw [← hstn]
     replace hstn := hidP hstn
     have hAB := alloc_one wB (.cells #[.bool false, .string stn, .int .i64 0, .string ⟨#[]⟩, .slice none 0 0, .slice none 0 0] 145)
     have fB : Hid (Row (wB.alloc (.cells #[.bool false, .string stn, .int .i64 0, .string ⟨#[]⟩, .slice none 0 0, .slice none 0 0] 145)) wB.heap.size 145 [.bool false, .string stn, .int .i64 0, .string ⟨#[]⟩, .slice none 0 0, .slice none 0 0]) := Row.new wB 145 _
     have sC := hidP (sB.out.below hAB sB.out.lt)
     have rC := hidP (rB.out.below hAB rB.out.lt)
     have lC := hidP (lB.out.below hAB (by omega))
     have mC := hidP ((Lw.refl wb wB).below hAB (Nat.le_refl _))
     have zC := hidP (zzB.low hg htb (below_le hAB (by omega)))
     have szC : (wB.alloc (.cells #[.bool false, .string stn, .int .i64 0, .string ⟨#[]⟩, .slice none 0 0, .slice none 0 0] 145)).heap.size = wB.heap.size + 1 := size_alloc _ _
     have TC := hidP (take_any zC.out.1 [58])
     generalize hWB : wB.alloc (.cells #[.bool false, .string stn, .int .i64 0, .string ⟨#[]⟩, .slice none 0 0, .slice none 0 0] 145) = WB at fB sC rC lC mC zC szC TC
     have HWB := hidP hWB
     clear TX zB stB sA rA gA lA szA zzA zzB hWB hAB sB rB lB
     generalize takeF T [58] s5 = s7 at *
     go_wp2_with fail
     rw [HWB.out]
     refine TC.out.mono ?_
     rintro _ wC ⟨rfl, zD⟩
     have stC := zD.2
     have sD := hidP (stC.row sC.out (by omega))
     have rD := hidP (stC.row rC.out (by omega))
     have fD := hidP (stC.row fB.out (by omega))
     have lD := hidP (lC.out.stay stC (fun k e => .inl (by omega)))
     have mD := hidP (mC.out.stay stC (fun k e => .inl (by omega)))
     have szD := stC.size
     have TY : Hid (Calls Tryz.prog 92 #[.pointer (some ⟨g, 0, none⟩), .int .i64 1] wC fun ev w' => ∃ c : List Value, ev = .returned (.agg c.toArray) /\ PSt T tb cap g wC w' (typF T 64 s7).2 /\ TyQ 65 (Fr wC w') 100 w' c (typF T 64 s7).1) := typ_any 64 (by decide) wC s7 zD.1 1 rfl
     have zzD := hidP (zC.out.trans zD)
     clear TC zD stC sC rC fB lC mC zC HWB
     generalize typF T 64 s7 = ty at *
     obtain ⟨ty1, s8⟩ := ty
     simp only at TY HFD
     go_wp2_with fail
     refine TY.out.mono ?_
     rintro _ wD ⟨cD, rfl, zE, qD⟩
     obtain ⟨d2, d3, ed, hd1, hd2, hd3⟩ := qD
     obtain ⟨da, db, e2⟩ := ArQ.form hd2
     obtain ⟨dc, dd, e3⟩ := ArQ.form hd3
     subst e2 e3 ed
     have stE := zE.2
     have sE := hidP (stE.row sD.out (by omega))
     have rE := hidP (stE.row rD.out (by omega))
     have fE := hidP (stE.row fD.out (by omega))
     have lE := hidP (lD.out.stay stE (fun k e => .inl (by omega)))
     have mE := hidP (mD.out.stay stE (fun k e => .inl (by omega)))
     have szE := stE.size
     have zzE := hidP (zzD.out.trans zE)
     have HQ : Hid (∀ (b : World) (X : Nat -> Prop), Stay X wD b -> (∀ k, X k -> k < wC.heap.size) -> TyQ 65 (Fr wC b) 100 b [.int .i64 ty1.kind, .string (str ty1.name), .slice da ty1.lives.length db, .slice dc ty1.elem.length dd] ty1) := fun b X hs hX => TyQ.mono (Kp.stayT hs hX) ⟨_, _, rfl, hd1, hd2, hd3⟩
     clear TY zE stE sD rD fD lD mD zzD hd1 hd2 hd3
     go_wp2_with (first | (refine st46 rfl 36 (.tmp 44) (.tmp 43) rfl rfl rfl fE.out Tryz.sz49 (by intro u hu; simp only [List.mem_cons, List.not_mem_nil, or_false] at hu; rcases hu with rfl | rfl | rfl | rfl <;> rfl) ?_; intro wE fF stF; apply shut))
     show wpList _ _ _ _ _ _
     have sF := hidP (stF.row sE.out (by omega))
     have rF := hidP (stF.row rE.out (by omega))
     have lF := hidP (lE.out.stay stF (fun k e => .inr (by omega)))
     have mF := hidP (mE.out.stay stF (fun k e => .inr (by omega)))
     have zF := hidP (zzE.out.other stF hg htb (fun k e => by omega))
     have szF := stF.size
     have y3 := sF.out.cell 3
     simp only [List.getElem?_cons_zero, List.getElem?_cons_succ] at y3
     replace fF := hidP fF
     replace stF := hidP stF
     clear sE rE fE lE mE zzE
     go_wp2_with (first | (refine ldR rfl 145 (.tmp 8) rfl rfl fF.out Tryz.underlying145 rfl Tryz.sz74 ?_; refine bsliceU rfl 82 145 6 96 _ (.agg [.bool false, .string stn, .int .i64 ty1.kind, .string (str ty1.name), .slice da ty1.lives.length db, .slice dc ty1.elem.length dd].toArray) (.tmp 47) rfl Tryz.underlying82 Tryz.info74S (by decide) (by decide) rfl [.bool false, .string stn, .int .i64 ty1.kind, .string (str ty1.name), .slice da ty1.lives.length db, .slice dc ty1.elem.length dd] rfl rfl rfl ?_; intro wG hRG hBG hzG; apply shut))
     show wpList _ _ _ _ _ _
     have GG := hidP (gB.out.low moFd (mF.out.below hBG (by omega)))
     have sG := hidP (sF.out.below hBG sF.out.lt)
     have rG := hidP (rF.out.below hBG rF.out.lt)
     have lG := hidP (lF.out.below hBG (by omega))
     have zG := hidP (zF.out.low hg htb (below_le hBG (by omega)))
     have szG := hBG.size
     refine wpl_gro rfl (.tmp 46) (.tmp 48) moFd rfl Tryz.underlying82 Tryz.info74S rfl (by decide) rfl rfl GG.out (by omega) hRG rfl (by intro u hu; simp only [List.mem_cons, List.not_mem_nil, or_false] at hu; rcases hu with rfl | rfl | rfl | rfl | rfl | rfl <;> rfl) (x := ⟨false, tn, ty1⟩) ?_ (by omega) (by decide) ?_
     ·refine ⟨_, by rw [hstn.out], Nat.le_trans LTF.out (by decide), 65, ?_⟩
      refine (HQ.out wG (fun k => k = wB.heap.size) (stF.out.trans (Stay.of_below hBG)) (fun k e => by omega)).mono ⟨fun b hb => ⟨⟨by have := hb.1; omega, hb.2⟩, fun e => ?_⟩, fun _ _ => rfl⟩
      obtain ⟨Lx, _, hox⟩ := gB.out.ex
      have h3 := (hox.lt b e).2
      have h2 := hb.1
      omega
     intro ao6 cp6 wH hGH hbH
     have sH := hidP (sG.out.below hbH (by omega))
     have rH := hidP (rG.out.below hbH (by omega))
     have lH := hidP (lG.out.below hbH (by omega))
     have zH := hidP (zG.out.low hg htb (below_le hbH (by omega)))
     have szH := Nat.le_trans (show wb.heap.size <= wG.heap.size by omega) hbH.size
     replace hGH := hidP hGH
     clear GG sG rG lG zG hRG hBG hzG HQ stF fF sF rF lF mF zF gB y3 hbH
     go_wp2_with (first | (refine stC (v := .slice ao6 (out.length + 1) cp6) rfl 82 (.tmp 50) (.tmp 49) rfl rfl rfl sH.out (sv50 sH.out rfl _ _ _) ?_; intro wI sI stI; apply shut))
     show wpList _ _ _ _ _ _
     simp only [List.set_cons_zero, List.set_cons_succ] at sI
     have rI := hidP (stI.row rH.out (by omega))
     have lI := hidP (lH.out.stay stI (fun k e => .inl (by omega)))
     have gI := hidP (hGH.out.stay moFd stI (fun k e => by omega))
     have zI := hidP (zH.out.other stI hg htb (fun k e => by omega))
     have szI := Nat.le_trans szH stI.size
     replace sI := hidP sI
     have OO := hidP (opt_any zI.out.1 [44])
     clear sH rH lH zH hGH stI
     have hFD := HFD.out
     subst hFD
     generalize optF T [44] s8 = b at *
     obtain ⟨b1, s9⟩ := b
     simp only at OO MO HE HN
     cases b1 with
     | true =>
      have h64 := MO.out rfl
      have he2 := hidP (he.out.trans (HE.out rfl))
      clear MO HE HN he hRL
      go_wp2_with fail
      refine OO.out.mono ?_
      rintro _ wJ ⟨rfl, zJ⟩
      have stJ := zJ.2
      have sJ := hidP (stJ.row sI.out (by omega))
      have rJ := hidP (stJ.row rI.out (by omega))
      have gJ := hidP (gI.out.stay moFd stJ (fun k e => by omega))
      have lJ := hidP (lI.out.stay stJ (fun k e => .inl (by omega)))
      have szJ := hidP (Nat.le_trans szI stJ.size)
      have zzJ := hidP (zI.out.trans zJ)
      have d1 : Hid (wJ.cell? ⟨w1.heap.size, 3, none⟩ = some (.slice ao6 (out.length + 1) cp6)) := sJ.out.cell 3
      clear OO zJ stJ sI rI gI lI zI
      go_wp2_with fail
      go_roundw
      case rel => exact ⟨f, out ++ [⟨false, tn, ty1⟩], s9, _, sJ.out, rJ.out, gJ.out, zzJ.out, lJ.out, szJ.out, he2.out, by rw [List.length_append]; simp; omega, by rw [List.length_append]; simp; omega⟩
      case measure =>
       show 66 - lenV ((wJ.cell? ⟨w1.heap.size, 3, none⟩).getD undef) < 66 - lenV ((wr.cell? ⟨w1.heap.size, 3, none⟩).getD undef)
       rw [d1.out, hm0.out]
       show 66 - (out.length + 1) < 66 - out.length
       omega
     | false =>
      have he2 := he.out.trans (HN.out rfl)
      have hR := hRL.out
      rw [he2] at hR
      replace hR := hidP hR
      clear MO HE HN he hRL he2
      go_wp2_with fail
      refine OO.out.mono ?_
      rintro _ wJ ⟨rfl, zJ⟩
      have stJ := zJ.2
      have sJ := hidP (stJ.row sI.out (by omega))
      have rJ := hidP (stJ.row rI.out (by omega))
      have gJ := hidP (gI.out.stay moFd stJ (fun k e => by omega))
      have lJ := hidP (lI.out.stay stJ (fun k e => .inl (by omega)))
      have szJ := Nat.le_trans szI stJ.size
      have zzJ := hidP (zI.out.trans zJ)
      have TK := hidP (take_any zzJ.out.1 [125])
      clear OO zJ stJ sI rI gI lI zI
      generalize takeF T [125] s9 = sX at *
      go_wp2_with fail
      refine TK.out.mono ?_
      rintro _ wX ⟨rfl, zX⟩
      have stX := zX.2
      have sE := hidP (stX.row sJ.out (by omega))
      have rE := hidP (stX.row rJ.out (by omega))
      have gE := hidP (gJ.out.stay moFd stX (fun k e => by omega))
      have lE := hidP (lJ.out.stay stX (fun k e => .inl (by omega)))
      have qE := hidP (StrQ.mono qb.out (⟨fun b hb => ⟨hb.1, Nat.lt_of_lt_of_le hb.2 lE.out.2⟩, fun b hb => lE.out.1 b hb.1 hb.2⟩ : Kp (Fr W1 wb) (Fr W1 _) _ _))
      have zE := hidP (zzJ.out.trans zX)
      have szE := lE.out.2
      clear TK zX stX sJ rJ gJ lJ zzJ lE
      go_wp2_with (first | (refine ldR rfl 84 (.tmp 7) rfl rfl sE.out Tryz.underlying84 rfl Tryz.sz52 ?_; apply shut))
      show wpList _ _ _ _ _ _
      refine stR rfl 84 (.tmp 6) (.tmp 56) rfl (cs := [.bool pub, .string stx, .slice none 0 0, .slice ao6 (out.length + 1) cp6, .int .i64 at_]) rfl rfl rE.out Tryz.sz52 rfl (by intro u hu; simp only [List.mem_cons, List.not_mem_nil, or_false] at hu; rcases hu with rfl | rfl | rfl | rfl | rfl <;> rfl) ?_
      intro wF FN stN
      have HZ := hidP (zE.out.other stN hg htb (fun k e => by omega))
      have HV := hidP ((StrQ.mono qE.out (kp_stay stN (fun k e => by omega) (by omega)) : StrQ (Fr w wF) 100 wF _ _))
      have HF : Hid (ArQ 6 96 (FldQ (Fr w wF) 100 wF) (Fr w wF) wF (.slice ao6 (out.length + 1) cp6) (out ++ [⟨false, tn, ty1⟩])) := (gE.out.done (bz := 96) moFd (by first | (rw [List.length_append]; simp; omega) | omega)).mono (kp_stay stN (fun k e => by omega) (by omega)) (fun _ _ _ h => FldQ.mono h (kp_stay stN (fun k e => by omega) (by omega)))
      replace FN := hidP FN
      clear zE rE sE qE stN
      go_wp2_with fail
      exact bodyPost_ret (v := .agg #[.bool pub, .string stx, .slice none 0 0, .slice ao6 (out.length + 1) cp6, .int .i64 at_]) (results_cell_row Tryz.results59 _ _ w.heap.size 84 _ (0, 0) _ rfl FN.out.heap Tryz.underlying84 rfl (by kernel_rfl)) rfl ⟨[.bool pub, .string stx, .slice none 0 0, .slice ao6 (out.length + 1) cp6, .int .i64 at_], rfl, by rw [hR.out]; exact HZ.out, by rw [hR.out]; exact ⟨_, _, by rw [hstx.out], LT.out, HV.out, HF.out⟩⟩
    ·have q0 : ((s2.code : Int) == 0) = false := by simp; omega
     have he2 := he.out.trans (fieldsL_no hc)
     have hR := hRL.out
     rw [he2] at hR
     replace hR := hidP hR
     have TK := hidP (take_any hp.out.1 [125])
     clear he hRL he2 y3 hc
     generalize s2.code = co at q0 x2
     generalize takeF T [125] s2 = sX at *
     go_wp2_with fail
     refine TK.out.mono ?_
     rintro _ wX ⟨rfl, zX⟩
     have stX := zX.2
     have sE := hidP (stX.row hs.out (by omega))
     have rE := hidP (stX.row hr.out (by omega))
     have gE := hidP (hG.out.stay moFd stX (fun k e => by omega))
     have lE := hidP (hlw.out.stay stX (fun k e => .inl (by omega)))
     have qE := hidP (StrQ.mono qb.out (⟨fun b hb => ⟨hb.1, Nat.lt_of_lt_of_le hb.2 lE.out.2⟩, fun b hb => lE.out.1 b hb.1 hb.2⟩ : Kp (Fr W1 wb) (Fr W1 _) _ _))
     have zE := hidP (hp.out.trans zX)
     have szE := lE.out.2
     clear TK zX stX hs hr hG hlw hp lE
     go_wp2_with (first | (refine ldR rfl 84 (.tmp 7) rfl rfl sE.out Tryz.underlying84 rfl Tryz.sz52 ?_; apply shut))
     show wpList _ _ _ _ _ _
     refine stR rfl 84 (.tmp 6) (.tmp 56) rfl (cs := [.bool pub, .string stx, .slice none 0 0, .slice ao out.length cp, .int .i64 at_]) rfl rfl rE.out Tryz.sz52 rfl (by intro u hu; simp only [List.mem_cons, List.not_mem_nil, or_false] at hu; rcases hu with rfl | rfl | rfl | rfl | rfl <;> rfl) ?_
     intro wF FN stN
     have HZ := hidP (zE.out.other stN hg htb (fun k e => by omega))
     have HV := hidP ((StrQ.mono qE.out (kp_stay stN (fun k e => by omega) (by omega)) : StrQ (Fr w wF) 100 wF _ _))
     have HF : Hid (ArQ 6 96 (FldQ (Fr w wF) 100 wF) (Fr w wF) wF (.slice ao out.length cp) out) := (gE.out.done (bz := 96) moFd (by first | (rw [List.length_append]; simp; omega) | omega)).mono (kp_stay stN (fun k e => by omega) (by omega)) (fun _ _ _ h => FldQ.mono h (kp_stay stN (fun k e => by omega) (by omega)))
     replace FN := hidP FN
     clear zE rE sE qE stN
     go_wp2_with fail
     exact bodyPost_ret (v := .agg #[.bool pub, .string stx, .slice none 0 0, .slice ao out.length cp, .int .i64 at_]) (results_cell_row Tryz.results59 _ _ w.heap.size 84 _ (0, 0) _ rfl FN.out.heap Tryz.underlying84 rfl (by kernel_rfl)) rfl ⟨[.bool pub, .string stx, .slice none 0 0, .slice ao out.length cp, .int .i64 at_], rfl, by rw [hR.out]; exact HZ.out, by rw [hR.out]; exact ⟨_, _, by rw [hstx.out], LT.out, HV.out, HF.out⟩⟩
end Go.Proofs.YtldbbkheemnnhaaGreatDoor
