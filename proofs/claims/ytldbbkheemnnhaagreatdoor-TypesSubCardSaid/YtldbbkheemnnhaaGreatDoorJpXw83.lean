/-
  The texts Xw8, Fo8, Xu8, joined.
-/
import Derived.Test.YtldbbkheemnnhaaGreatDoorJpPn82
import Derived.Test.YtldbbkheemnnhaaGreatDoorJpRq83
import Derived.Test.YtldbbkheemnnhaaGreatDoorJpRg83
import Derived.Test.YtldbbkheemnnhaaGreatDoorQpSu8
import Derived.Test.YtldbbkheemnnhaaGreatDoorJpBt82
namespace Go.Proofs.YtldbbkheemnnhaaGreatDoor
open Go.RowKit
theorem pvs_len (l:List (Int × Int)):(pvs l).length=l.length * 2:=by
 induction l with
 | nil=>rfl
 | cons x l ih =>
  have:pvs (x :: l)=[.int .i64 x.1,.int .i64 x.2] ++ pvs l:=rfl
  rw [this,List.length_append,ih,List.length_cons]
  simp only [List.length_cons,List.length_nil]
  omega
theorem ar_nth {α:Type} {z bz:Nat} {P:List Value->α->Prop} {K:Ctx} {w:World} {a:Option Addr} {n p:Nat} {l:List α} (h:Ar z bz P K w (.slice a n p) l) (i:Nat) (hi:i<l.length) :
  ∃ x,l[i]?=some x/\∃ b o,a=some ⟨b,o,none⟩/\b<K.C/\∃ cs,cs.length=z/\w.rangeAt b (o+i * z) cs/\P cs x:=⟨l[i],List.getElem?_eq_getElem hi,h.each i hi⟩
theorem own_souZ {w:World} {B e z n:Nat} {v:Value} {xs:List Value} (h:w.ownsRow B e z v n xs):Sou w v n xs:=by
 obtain ⟨ao,cap,rfl⟩:=own_slice h
 refine ⟨ao,cap,rfl,fun e0=>?_,fun j u hj=>?_⟩
 ·rcases h.2 with ⟨_,h0⟩|⟨g,cap',cur,e1,_⟩
  ·exact h0
  ·subst e0;cases e1
 ·rcases h.2 with ⟨_,h0⟩|⟨g,cap',cur,e1,_⟩
  ·have:=h.1
   rw [h0,Nat.zero_mul] at this
   rw [List.getElem?_eq_none (by omega)] at hj;cases hj
  ·cases e1
   exact ⟨g,0,rfl,own_range h j u hj⟩
set_option maxHeartbeats 32000000 in
set_option maxRecDepth 20000 in
theorem xwell34 {K:Ctx}:∀ (n:Nat) {w:World} {cs:List Value} {t:RTy},RtAt n K w cs t->K.C<=w.heap.size->(regL n t).length<=50000->(wellL n t).length<=50000 ->
  Calls Tryz.prog 34 #[.agg cs.toArray] w fun ev w'=>∃ v,ev=.returned v/\Below w.heap.size w w'/\w'.ownsRow w.heap.size 32 2 v (wellL n t).length (pvs (wellL n t))
 | 0,_,_,_,h,_,_,_=>h.elim
 | n+1,w,cs,t,ht,hC,hn,hw=>by
  have IH:=hidP (fun (y:World) (hy:Below w.heap.size w y) (cs:List Value) (e:RTy) (he:RtAt n K y cs e) (hl:(regL n e).length<=50000) (hw:(wellL n e).length<=50000)=>xwell34 n he (Nat.le_trans hC hy.size) hl hw)
  obtain ⟨v2,v3,rfl,_,h2,h3⟩:=ht
  obtain ⟨a2,p2,rfl⟩:=Ar.form h2
  obtain ⟨a3,p3,rfl⟩:=Ar.form h3
  have A2:=hidP (fun i hi=>nms_cell h2 i hi)
  have AN:=hidP (fun i hi=>ar_nth h3 i hi)
  have HA:=hidP (alloc_one w (.cells #[.int .i64 t.kind,.string (str t.name),.slice a2 t.regs.length p2,.slice a3 t.elem.length p3] 25))
  have R0:=hidP (Row.new w 25 [.int .i64 t.kind,.string (str t.name),.slice a2 t.regs.length p2,.slice a3 t.elem.length p3])
  have HZ:=hidP (size_alloc w (.cells #[.int .i64 t.kind,.string (str t.name),.slice a2 t.regs.length p2,.slice a3 t.elem.length p3] 25))
  have HC:=hidP hC
  have HWE:=hidP (show wellL (n+1) t=match nxtR t with|none=>[]|some e=>((ownR t).flatMap fun a=>(regL n e).map fun v=>(v,a)) ++ wellL n e from rfl)
  have HRE:=hidP (regL_succ n t)
  have hNX:=hidP (show nxtR t=if t.kind=4∨t.kind=5 then t.elem.head? else none from rfl)
  have hOR:=hidP (show t.kind=4∨t.kind=5->ownR t=t.regs.take 1 from fun k=>by unfold ownR;rw [if_neg (by omega),if_pos k])
  have HN:=hidP hn
  have HW:=hidP hw
  have y0:=R0.out.cell 0
  have y2:=R0.out.cell 2
  have y3:=R0.out.cell 3
  simp only [List.getElem?_cons_zero,List.getElem?_cons_succ] at y0 y2 y3
  clear h2 h3 hC hn hw
  generalize hne:t.elem.length=ne at *
  have HNE:=hidP hne
  clear hne
  generalize hnr:t.regs.length=nr at *
  have HNR:=hidP hnr
  clear hnr
  generalize str t.name=SN at *
  generalize t.kind=kd at *
  by_cases hx:(kd=4∨kd=5)/\0<ne
  ·obtain ⟨k,h0⟩:=hx
   obtain ⟨e,te,hte⟩:∃ e te,t.elem=e :: te:=by
    rcases hl:t.elem with _|⟨e,te⟩
    ·have:=HNE.out;rw [hl] at this;simp only [List.length_nil] at this;omega
    ·exact ⟨e,te,rfl⟩
   have hnx:nxtR t=some e:=by rw [hNX.out,if_pos k,hte];rfl
   have HW1:=hidP (show wellL (n+1) t=((t.regs.take 1).flatMap fun a=>(regL n e).map fun v=>(v,a)) ++ wellL n e by rw [HWE.out,hnx,hOR.out k])
   have hle:(regL n e).length<=50000:=by
    have:=HN.out
    rw [HRE.out,hnx,List.length_append] at this
    simp only [resL] at this
    omega
   have hlw:(wellL n e).length<=50000:=by
    have:=HW.out
    rw [HW1.out,List.length_append] at this
    omega
   have hl0:0<t.elem.length:=by rw [hte];simp
   obtain ⟨e',hte0,b1,o1,rfl,hb1,c1,hl1,hc1,hp1⟩:=AN.out 0 (by have:=HNE.out;omega)
   rw [hte,List.getElem?_cons_zero] at hte0
   cases hte0
   rw [Nat.zero_mul,Nat.add_zero] at hc1
   have HC1:=hidP hc1
   have HB1:=hidP hb1
   have s1:=hidP (show (Tryz.prog.info? 25).map (·.size)=some c1.length by rw [hl1];exact Tryz.sz25)
   have RG:=hidP (regions14 n (hp1.below (below_le HA.out HC.out)) (Nat.le_trans HC.out HA.out.size) hle)
   have CALL:=hidP (fun (y:World) (hy:Below w.heap.size w y)=>IH.out y hy c1 e (hp1.below (below_le hy HC.out)) hle hlw)
   have r1:=hidP (range_le hc1 HA.out (Nat.lt_of_lt_of_le hb1 HC.out))
   have l0:(0:Int)<(ne:Int):=by omega
   have l0':((ne:Int) == 0)=false:=by simp;omega
   have HLE:=hidP hle
   have HLW:=hidP hlw
   clear hte hnx hp1 hc1 hb1 hl1 hl0 AN IH HWE HRE hNX hOR hle hlw HN
   rcases k with rfl|rfl
   ·go_enter Tryz.func34,Tryz.ntmps34
    go_wp2_with (first|(refine wpList_load_mid rfl 25 (.tmp 22) rfl b1 o1 rfl c1 _ r1.out Tryz.underlying25 rfl s1.out ?_))
    refine RG.out.mono ?_
    rintro _ w2 ⟨v4,rfl,hb2,ho2⟩
    have N4:=hidP (own_nms (K:=K.up w2.heap.size) ho2 (Nat.le_refl _) HLE.out)
    obtain ⟨a4,p4,rfl⟩:=own_slice ho2
    have B2:=hidP (HA.out.trans (below_le hb2 HA.out.size))
    have R2:=hidP (R0.out.below hb2 R0.out.lt)
    have hz2:=hidP (show w.heap.size+1<=w2.heap.size by have:=hb2.size;have:=HZ.out;omega)
    clear RG R0 HA HZ hb2 ho2 y0 y2 y3 r1
    generalize hnq:(regL n e).length=nq at *
    have HNQ:=hidP hnq
    clear hnq
    go_wp2_with fail
    go_loopg [3,5] (if 0<nr then nq else 0) (fun q v3 v5 wr=>∃ (i:Nat) (acc:List (Int × Int)),i+q=(if 0<nr then nq else 0)/\v5=.int .i64 (i:Int)/\acc=((regL n e).take i).map (fun v=>(v,t.regs.getD 0 0))/\wr.ownsRow w2.heap.size 32 2 v3 acc.length (pvs acc)/\Below w2.heap.size w2 wr)
    case atStart=>exact ⟨0,[],by omega,rfl,rfl,⟨rfl,.inl ⟨rfl,rfl⟩⟩,Below.refl _ _⟩
    case round =>
     obtain ⟨i,acc,hi,rfl,ha,ho,hb⟩:=hrel
     have HAC:=hidP ha
     have HO:=hidP ho
     have HB:=hidP hb
     have HI:=hidP hi
     have RB:=hidP (R2.out.below hb R2.out.lt)
     obtain ⟨aa,pp,rfl⟩:=own_slice ho
     have y2:=RB.out.cell 2
     have y3:=RB.out.cell 3
     simp only [List.getElem?_cons_zero,List.getElem?_cons_succ] at y2 y3
     clear ha ho hb
     by_cases hg:i<nq/\0<nr
     ·obtain ⟨hlt,hr0⟩:=hg
      have hi2:i+gk=nq:=by have:=HI.out;rw [if_pos hr0] at this;exact this
      have hnq5:nq<=50000:=by have:=HNQ.out;have:=HLE.out;omega
      clear hi
      obtain ⟨b2,o2,rfl,hb2,hc2⟩:=A2.out 0 hr0
      obtain ⟨b4,o4,rfl,hb4,hc4⟩:=nms_cell N4.out i (by rw [HNQ.out];exact hlt)
      have l1:(i:Int)<(nq:Int):=by omega
      have l2:(0:Int)<(nr:Int):=by omega
      rw [Nat.add_zero] at hc2
      have HTS:=hidP (show ((regL n e).take (i+1)).map (fun v=>(v,t.regs.getD 0 0))=acc ++ [((regL n e).getD i 0,t.regs.getD 0 0)] by
       have hjj:i<(regL n e).length:=by rw [HNQ.out];exact hlt
       rw [HAC.out,List.take_succ_eq_append_getElem hjj,List.map_append]
       simp [List.getD,List.getElem?_eq_getElem hjj])
      have HLA:=hidP (show acc.length<=50000 by
       rw [HAC.out,List.length_map,List.length_take];have:=HLE.out;omega)
      have BW:=hidP (B2.out.trans (below_le HB.out B2.out.size))
      have hS0:wr.drew.cell? ⟨b4,o4+i,none⟩=some (.int .i64 ((regL n e).getD i 0))/\Row wr.drew w.heap.size 25 [.int .i64 4,.string SN,.slice (some ⟨b2,o2,none⟩) nr p2,.slice (some ⟨b1,o1,none⟩) ne p3]/\wr.drew.cell? ⟨b2,o2,none⟩=some (.int .i64 (t.regs.getD 0 0)):=⟨(HB.out.drew.cell (p:=⟨b4,o4+i,none⟩) hb4).trans hc4,RB.out.drew,(BW.out.drew.cell (p:=⟨b2,o2,none⟩) (Nat.lt_of_lt_of_le hb2 HC.out)).trans hc2⟩
      generalize (regL n e).getD i 0=x at *
      generalize t.regs.getD 0 0=r at *
      have OD:=hidP (own_sameR (w':=wr.drew) HO.out (fun q eq=>rfl))
      have BD:=hidP (HB.out.drew)
      have ZD:=hidP (show w2.heap.size<=wr.drew.heap.size from BD.out.size)
      have hbs:=hidP (show b2<w2.heap.size from Nat.lt_of_lt_of_le (Nat.lt_of_lt_of_le hb2 HC.out) B2.out.size)
      have hb4s:=hidP (show b4<w2.heap.size from hb4)
      clear hc2 hc4 hb2 hb4 HO HB RB BW y3
      go_wp2_with fail
      refine beginL (fun y=>y.cell? ⟨b4,o4+i,none⟩=some (.int .i64 x)/\Row y w.heap.size 25 [.int .i64 4,.string SN,.slice (some ⟨b2,o2,none⟩) nr p2,.slice (some ⟨b1,o1,none⟩) ne p3]/\y.cell? ⟨b2,o2,none⟩=some (.int .i64 r)) 13 (by kernel_rfl) hS0 (fun hSS=>?_)
      refine takeL 0 (v:=?_) rfl (some 37) rfl (by decide) (by kernel_rfl) (by kernel_rfl) (by kernel_rfl) (by kernel_rfl) (fun _ _ _ h=>h) (Or.inl ⟨by rfl,?_⟩) hSS ?_
      rotate_left
      ·(intro y hy;go_simp;with_reducible rfl)
      try simp only [Act.put,List.setIfInBounds_toArray,List.set_cons_succ,List.set_cons_zero]
      refine takeL 1 (v:=?_) rfl (some 38) rfl (by decide) (by kernel_rfl) (by kernel_rfl) (by kernel_rfl) (by kernel_rfl) (fun _ _ _ h=>h) (Or.inl ⟨by rfl,?_⟩) hSS ?_
      rotate_left
      ·(intro y hy;go_simp;with_reducible rfl)
      try simp only [Act.put,List.setIfInBounds_toArray,List.set_cons_succ,List.set_cons_zero]
      refine takeL 2 (v:=?_) rfl (some 39) rfl (by decide) (by kernel_rfl) (by kernel_rfl) (by kernel_rfl) (by kernel_rfl) (fun _ _ _ h=>h) (Or.inl ⟨by rfl,?_⟩) hSS ?_
      rotate_left
      ·(intro y hy;go_simp;with_reducible rfl)
      try simp only [Act.put,List.setIfInBounds_toArray,List.set_cons_succ,List.set_cons_zero]
      refine takeL 3 (v:=?_) rfl (some 40) rfl (by decide) (by kernel_rfl) (by kernel_rfl) (by kernel_rfl) (by kernel_rfl) (fun _ _ _ h=>h) (Or.inl ⟨by rfl,?_⟩) hSS ?_
      rotate_left
      ·(intro y hy;go_simp;with_reducible rfl)
      try simp only [Act.put,List.setIfInBounds_toArray,List.set_cons_succ,List.set_cons_zero]
      refine takeL 4 (v:=?_) rfl (some 41) rfl (by decide) (by kernel_rfl) (by kernel_rfl) (by kernel_rfl) (by kernel_rfl) (fun _ _ _ h=>h) (Or.inl ⟨by rfl,?_⟩) hSS ?_
      rotate_left
      ·(intro y hy;have q0:=hy.1;have q1:=hy.2.1.cell 2;have q2:=hy.2.2;simp only [List.getElem?_cons_zero,List.getElem?_cons_succ] at q1;go_simp;with_reducible rfl)
      try simp only [Act.put,List.setIfInBounds_toArray,List.set_cons_succ,List.set_cons_zero]
      refine takeL 5 (v:=?_) rfl (some 42) rfl (by decide) (by kernel_rfl) (by kernel_rfl) (by kernel_rfl) (by kernel_rfl) (fun _ _ _ h=>h) (Or.inl ⟨by rfl,?_⟩) hSS ?_
      rotate_left
      ·(intro y hy;go_simp;with_reducible rfl)
      try simp only [Act.put,List.setIfInBounds_toArray,List.set_cons_succ,List.set_cons_zero]
      refine takeL 6 (v:=?_) rfl (some 43) rfl (by decide) (by kernel_rfl) (by kernel_rfl) (by kernel_rfl) (by kernel_rfl) (fun _ _ _ h=>h) (Or.inl ⟨by rfl,?_⟩) hSS ?_
      rotate_left
      ·(intro y hy;have q0:=hy.1;have q1:=hy.2.1.cell 2;have q2:=hy.2.2;simp only [List.getElem?_cons_zero,List.getElem?_cons_succ] at q1;go_simp;with_reducible rfl)
      try simp only [Act.put,List.setIfInBounds_toArray,List.set_cons_succ,List.set_cons_zero]
      refine takeL 7 (v:=?_) rfl (some 44) rfl (by decide) (by kernel_rfl) (by kernel_rfl) (by kernel_rfl) (by kernel_rfl) (fun _ _ _ h=>h) (Or.inl ⟨by rfl,?_⟩) hSS ?_
      rotate_left
      ·(intro y hy;go_simp;with_reducible rfl)
      try simp only [Act.put,List.setIfInBounds_toArray,List.set_cons_succ,List.set_cons_zero]
      refine takeL 8 (v:=?_) rfl (some 45) rfl (by decide) (by kernel_rfl) (by kernel_rfl) (by kernel_rfl) (by kernel_rfl) (fun _ _ _ h=>h) (Or.inl ⟨by rfl,?_⟩) hSS ?_
      rotate_left
      ·(intro y hy;have q0:=hy.1;have q1:=hy.2.1.cell 2;have q2:=hy.2.2;simp only [List.getElem?_cons_zero,List.getElem?_cons_succ] at q1;go_simp;with_reducible rfl)
      try simp only [Act.put,List.setIfInBounds_toArray,List.set_cons_succ,List.set_cons_zero]
      refine takeL 9 (v:=?_) rfl (some 46) rfl (by decide) (by kernel_rfl) (by kernel_rfl) (by kernel_rfl) (by kernel_rfl) (fun _ _ _ h=>h) (Or.inl ⟨by rfl,?_⟩) hSS ?_
      rotate_left
      ·(intro y hy;go_simp;with_reducible rfl)
      try simp only [Act.put,List.setIfInBounds_toArray,List.set_cons_succ,List.set_cons_zero]
      refine readyL (rs:=[10]) (by kernel_rfl) (by simp) ?_
      refine ReadyL.cons rfl (fun KK hK=>?_) ReadyL.nil
      refine wantR (by rfl) ?_
      refine wpo_bsU 29 32 2 16 _ (.agg #[.int .i64 x,.int .i64 r]) (.tmp 46) rfl Tryz.underlying29 Tryz.info32 (by decide) (by decide) rfl [.int .i64 x,.int .i64 r] rfl rfl rfl ?_
      intro w7 hR7 hB7 hz7
      have hSS2:=(⟨(hB7.cell (p:=⟨b4,o4+i,none⟩) (World.block_lt_of_cell? _ _ hSS.1)).trans hSS.1,hSS.2.1.below hB7 hSS.2.1.lt,(hB7.cell (p:=⟨b2,o2,none⟩) (World.block_lt_of_cell? _ _ hSS.2.2)).trans hSS.2.2⟩:w7.cell? ⟨b4,o4+i,none⟩=some (.int .i64 x)/\Row w7 w.heap.size 25 [.int .i64 4,.string SN,.slice (some ⟨b2,o2,none⟩) nr p2,.slice (some ⟨b1,o1,none⟩) ne p3]/\w7.cell? ⟨b2,o2,none⟩=some (.int .i64 r))
      have hOW:=hidP (own_sameR OD.out (fun q eq=>hB7.block q (OD.out.lt q eq).2))
      have hSR:=hidP (sou_row2 (c:=1) hR7)
      have HB7:=hidP (BD.out.trans (below_le hB7 ZD.out))
      have hz8:=hidP (Nat.le_trans ZD.out hB7.size)
      refine hK.out (Act.put _ (some 47) _) _ (fun _=>hSS2) (fun _=>?_)
      clear hK KK hSS hR7 hB7 hz7 OD BD ZD
      have hSS:=hSS2
      clear hSS2
      try simp only [Act.put,List.setIfInBounds_toArray,List.set_cons_succ,List.set_cons_zero]
      refine readyL (rs:=[11]) (by kernel_rfl) (by simp) ?_
      refine ReadyL.cons rfl (fun KK hK=>?_) ReadyL.nil
      refine wantR (by rfl) ?_
      refine wpo_appS (bz:=16) (.tmp 37) (.tmp 47) rfl Tryz.underlying29 Tryz.info32 rfl (by decide) rfl rfl hOW.out hz8.out hSR.out rfl (by intro u hu;simp at hu;rcases hu with rfl|rfl <;> rfl) (by have:=HLA.out;omega) (by decide) ?_
      intro v9 w9 ho9 hg9
      have hb9:=grown_le hg9 hz8.out (fun k e=>(hOW.out.lt k e).1)
      have hSS2:=(⟨(hb9.cell (p:=⟨b4,o4+i,none⟩) hb4s.out).trans hSS.1,hSS.2.1.below hb9 R2.out.lt,(hb9.cell (p:=⟨b2,o2,none⟩) hbs.out).trans hSS.2.2⟩:w9.cell? ⟨b4,o4+i,none⟩=some (.int .i64 x)/\Row w9 w.heap.size 25 [.int .i64 4,.string SN,.slice (some ⟨b2,o2,none⟩) nr p2,.slice (some ⟨b1,o1,none⟩) ne p3]/\w9.cell? ⟨b2,o2,none⟩=some (.int .i64 r))
      obtain ⟨a9,c9,rfl⟩:=own_slice ho9
      have HO9:=hidP ho9
      have HB9:=hidP (HB7.out.trans hb9)
      refine hK.out (Act.put _ (some 48) _) _ (fun _=>hSS2) (fun _=>?_)
      clear hK KK hSS hOW hSR HB7 hz8 ho9 hg9 hb9
      have hSS:=hSS2
      clear hSS2
      try simp only [Act.put,List.setIfInBounds_toArray,List.set_cons_succ,List.set_cons_zero]
      refine takeL 12 (v:=?_) rfl (some 3) rfl (by decide) (by kernel_rfl) (by kernel_rfl) (by kernel_rfl) (by kernel_rfl) (fun _ _ _ h=>h) (Or.inl ⟨by rfl,?_⟩) hSS ?_
      rotate_left
      ·(intro y hy;go_simp;with_reducible rfl)
      try simp only [Act.put,List.setIfInBounds_toArray,List.set_cons_succ,List.set_cons_zero]
      refine doneL (by kernel_rfl) ?_ _
      go_wp2_with fail
      go_roundg (gk - 1)
      case measure=>omega
      case rel =>
       refine ⟨i+1,acc ++ [(x,r)],by rw [if_pos hr0];omega,by go_num,HTS.out.symm,?_,HB9.out⟩
       rw [List.length_append,pvs_app]
       exact HO9.out
     ·have HF:=hidP (show acc=(t.regs.take 1).flatMap fun a=>(regL n e).map fun v=>(v,a) by
       rw [HAC.out]
       rcases hr:t.regs with _|⟨r,rs⟩
       ·have h0:nr=0:=by have:=HNR.out;rw [hr] at this;exact this.symm
        have:i=0:=by have:=HI.out;rw [if_neg (by omega)] at this;omega
        subst this
        rfl
       ·have h0:0<nr:=by have:=HNR.out;rw [hr] at this;rw [← this];simp
        have:i=nq:=by have:=HI.out;rw [if_pos h0] at this;have:=fun h=>hg ⟨h,h0⟩;omega
        have h2:=HNQ.out
        rw [this,← h2,List.take_length]
        simp)
      have BW:=hidP (B2.out.trans (below_le HB.out B2.out.size))
      have r1:=hidP (range_le HC1.out BW.out (Nat.lt_of_lt_of_le HB1.out HC.out))
      have CL:=hidP (CALL.out _ BW.out)
      have HLA:=hidP (show acc.length<=50000 by have:=HW.out;rw [HW1.out,← HF.out,List.length_append] at this;omega)
      have ZB:=hidP (show w2.heap.size<=wr.heap.size from HB.out.size)
      have hor:((i:Int)<(nq:Int)/\nr=0)∨¬ (i:Int)<(nq:Int):=by
       by_cases h:i<nq
       ·exact .inl ⟨by omega,by have:=fun h2=>hg ⟨h,h2⟩;omega⟩
       ·exact .inr (by omega)
      clear hg HB HI HNR N4 R2 CALL A2 HNQ RB
      rcases hor with ⟨l1,rfl⟩|l1
      all_goals
       go_wp2_with (first|(refine wpList_load_mid rfl 25 (.tmp 52) rfl b1 o1 rfl c1 _ r1.out Tryz.underlying25 rfl s1.out ?_))
       refine CL.out.mono ?_
       rintro _ w7 ⟨v7,rfl,hb7,ho7⟩
       have O7:=hidP (own_sameR HO.out (fun k e=>hb7.block k (HO.out.lt k e).2))
       have HB7:=hidP (BW.out.trans (below_le hb7 BW.out.size))
       have HS7:=hidP (own_souZ ho7)
       have HP7:=hidP (pvs_len (wellL n e))
       have HO7:=hidP (pvs_ones (wellL n e))
       obtain ⟨a7,p7,rfl⟩:=own_slice ho7
       have hz7:=hidP (show w2.heap.size<=w7.heap.size from Nat.le_trans ZB.out hb7.size)
       clear CL hb7 ho7 HO r1 y2 y3 BW
       generalize hlx:(wellL n e).length=lx at *
       have HLX:=hidP hlx
       clear hlx
       go_wp2_with (first|(refine wpl_appS (bz:=16) rfl (.tmp 49) (.tmp 54) rfl Tryz.underlying29 Tryz.info32 rfl (by decide) rfl rfl O7.out hz7.out HS7.out HP7.out HO7.out (by have:=HLA.out;have:=HLW.out;omega) (by decide) ?_;intro v8 w8 ho8 hb8 hf8;apply shut))
       show wpList _ _ _ _ _ _
       obtain ⟨a8,p8,rfl⟩:=hf8
       have HO8:=hidP (own_base ho8 B2.out.size)
       have HB8:=hidP (HB7.out.trans (below_le hb8 B2.out.size))
       clear O7 HS7 HB7 ho8 hb8
       go_wp2_with fail
       go_ret
       exact ⟨_,rfl,HB8.out,by rw [HW1.out,← HF.out,List.length_append,HLX.out,pvs_app];exact HO8.out⟩
   ·go_enter Tryz.func34,Tryz.ntmps34
    go_wp2_with (first|(refine wpList_load_mid rfl 25 (.tmp 22) rfl b1 o1 rfl c1 _ r1.out Tryz.underlying25 rfl s1.out ?_))
    refine RG.out.mono ?_
    rintro _ w2 ⟨v4,rfl,hb2,ho2⟩
    have N4:=hidP (own_nms (K:=K.up w2.heap.size) ho2 (Nat.le_refl _) HLE.out)
    obtain ⟨a4,p4,rfl⟩:=own_slice ho2
    have B2:=hidP (HA.out.trans (below_le hb2 HA.out.size))
    have R2:=hidP (R0.out.below hb2 R0.out.lt)
    have hz2:=hidP (show w.heap.size+1<=w2.heap.size by have:=hb2.size;have:=HZ.out;omega)
    clear RG R0 HA HZ hb2 ho2 y0 y2 y3 r1
    generalize hnq:(regL n e).length=nq at *
    have HNQ:=hidP hnq
    clear hnq
    go_wp2_with fail
    go_loopg [3,5] (if 0<nr then nq else 0) (fun q v3 v5 wr=>∃ (i:Nat) (acc:List (Int × Int)),i+q=(if 0<nr then nq else 0)/\v5=.int .i64 (i:Int)/\acc=((regL n e).take i).map (fun v=>(v,t.regs.getD 0 0))/\wr.ownsRow w2.heap.size 32 2 v3 acc.length (pvs acc)/\Below w2.heap.size w2 wr)
    case atStart=>exact ⟨0,[],by omega,rfl,rfl,⟨rfl,.inl ⟨rfl,rfl⟩⟩,Below.refl _ _⟩
    case round =>
     obtain ⟨i,acc,hi,rfl,ha,ho,hb⟩:=hrel
     have HAC:=hidP ha
     have HO:=hidP ho
     have HB:=hidP hb
     have HI:=hidP hi
     have RB:=hidP (R2.out.below hb R2.out.lt)
     obtain ⟨aa,pp,rfl⟩:=own_slice ho
     have y2:=RB.out.cell 2
     have y3:=RB.out.cell 3
     simp only [List.getElem?_cons_zero,List.getElem?_cons_succ] at y2 y3
     clear ha ho hb
     by_cases hg:i<nq/\0<nr
     ·obtain ⟨hlt,hr0⟩:=hg
      have hi2:i+gk=nq:=by have:=HI.out;rw [if_pos hr0] at this;exact this
      have hnq5:nq<=50000:=by have:=HNQ.out;have:=HLE.out;omega
      clear hi
      obtain ⟨b2,o2,rfl,hb2,hc2⟩:=A2.out 0 hr0
      obtain ⟨b4,o4,rfl,hb4,hc4⟩:=nms_cell N4.out i (by rw [HNQ.out];exact hlt)
      have l1:(i:Int)<(nq:Int):=by omega
      have l2:(0:Int)<(nr:Int):=by omega
      rw [Nat.add_zero] at hc2
      have HTS:=hidP (show ((regL n e).take (i+1)).map (fun v=>(v,t.regs.getD 0 0))=acc ++ [((regL n e).getD i 0,t.regs.getD 0 0)] by
       have hjj:i<(regL n e).length:=by rw [HNQ.out];exact hlt
       rw [HAC.out,List.take_succ_eq_append_getElem hjj,List.map_append]
       simp [List.getD,List.getElem?_eq_getElem hjj])
      have HLA:=hidP (show acc.length<=50000 by
       rw [HAC.out,List.length_map,List.length_take];have:=HLE.out;omega)
      have BW:=hidP (B2.out.trans (below_le HB.out B2.out.size))
      have hS0:wr.drew.cell? ⟨b4,o4+i,none⟩=some (.int .i64 ((regL n e).getD i 0))/\Row wr.drew w.heap.size 25 [.int .i64 5,.string SN,.slice (some ⟨b2,o2,none⟩) nr p2,.slice (some ⟨b1,o1,none⟩) ne p3]/\wr.drew.cell? ⟨b2,o2,none⟩=some (.int .i64 (t.regs.getD 0 0)):=⟨(HB.out.drew.cell (p:=⟨b4,o4+i,none⟩) hb4).trans hc4,RB.out.drew,(BW.out.drew.cell (p:=⟨b2,o2,none⟩) (Nat.lt_of_lt_of_le hb2 HC.out)).trans hc2⟩
      generalize (regL n e).getD i 0=x at *
      generalize t.regs.getD 0 0=r at *
      have OD:=hidP (own_sameR (w':=wr.drew) HO.out (fun q eq=>rfl))
      have BD:=hidP (HB.out.drew)
      have ZD:=hidP (show w2.heap.size<=wr.drew.heap.size from BD.out.size)
      have hbs:=hidP (show b2<w2.heap.size from Nat.lt_of_lt_of_le (Nat.lt_of_lt_of_le hb2 HC.out) B2.out.size)
      have hb4s:=hidP (show b4<w2.heap.size from hb4)
      clear hc2 hc4 hb2 hb4 HO HB RB BW y3
      go_wp2_with fail
      refine beginL (fun y=>y.cell? ⟨b4,o4+i,none⟩=some (.int .i64 x)/\Row y w.heap.size 25 [.int .i64 5,.string SN,.slice (some ⟨b2,o2,none⟩) nr p2,.slice (some ⟨b1,o1,none⟩) ne p3]/\y.cell? ⟨b2,o2,none⟩=some (.int .i64 r)) 13 (by kernel_rfl) hS0 (fun hSS=>?_)
      refine takeL 0 (v:=?_) rfl (some 37) rfl (by decide) (by kernel_rfl) (by kernel_rfl) (by kernel_rfl) (by kernel_rfl) (fun _ _ _ h=>h) (Or.inl ⟨by rfl,?_⟩) hSS ?_
      rotate_left
      ·(intro y hy;go_simp;with_reducible rfl)
      try simp only [Act.put,List.setIfInBounds_toArray,List.set_cons_succ,List.set_cons_zero]
      refine takeL 1 (v:=?_) rfl (some 38) rfl (by decide) (by kernel_rfl) (by kernel_rfl) (by kernel_rfl) (by kernel_rfl) (fun _ _ _ h=>h) (Or.inl ⟨by rfl,?_⟩) hSS ?_
      rotate_left
      ·(intro y hy;go_simp;with_reducible rfl)
      try simp only [Act.put,List.setIfInBounds_toArray,List.set_cons_succ,List.set_cons_zero]
      refine takeL 2 (v:=?_) rfl (some 39) rfl (by decide) (by kernel_rfl) (by kernel_rfl) (by kernel_rfl) (by kernel_rfl) (fun _ _ _ h=>h) (Or.inl ⟨by rfl,?_⟩) hSS ?_
      rotate_left
      ·(intro y hy;go_simp;with_reducible rfl)
      try simp only [Act.put,List.setIfInBounds_toArray,List.set_cons_succ,List.set_cons_zero]
      refine takeL 3 (v:=?_) rfl (some 40) rfl (by decide) (by kernel_rfl) (by kernel_rfl) (by kernel_rfl) (by kernel_rfl) (fun _ _ _ h=>h) (Or.inl ⟨by rfl,?_⟩) hSS ?_
      rotate_left
      ·(intro y hy;go_simp;with_reducible rfl)
      try simp only [Act.put,List.setIfInBounds_toArray,List.set_cons_succ,List.set_cons_zero]
      refine takeL 4 (v:=?_) rfl (some 41) rfl (by decide) (by kernel_rfl) (by kernel_rfl) (by kernel_rfl) (by kernel_rfl) (fun _ _ _ h=>h) (Or.inl ⟨by rfl,?_⟩) hSS ?_
      rotate_left
      ·(intro y hy;have q0:=hy.1;have q1:=hy.2.1.cell 2;have q2:=hy.2.2;simp only [List.getElem?_cons_zero,List.getElem?_cons_succ] at q1;go_simp;with_reducible rfl)
      try simp only [Act.put,List.setIfInBounds_toArray,List.set_cons_succ,List.set_cons_zero]
      refine takeL 5 (v:=?_) rfl (some 42) rfl (by decide) (by kernel_rfl) (by kernel_rfl) (by kernel_rfl) (by kernel_rfl) (fun _ _ _ h=>h) (Or.inl ⟨by rfl,?_⟩) hSS ?_
      rotate_left
      ·(intro y hy;go_simp;with_reducible rfl)
      try simp only [Act.put,List.setIfInBounds_toArray,List.set_cons_succ,List.set_cons_zero]
      refine takeL 6 (v:=?_) rfl (some 43) rfl (by decide) (by kernel_rfl) (by kernel_rfl) (by kernel_rfl) (by kernel_rfl) (fun _ _ _ h=>h) (Or.inl ⟨by rfl,?_⟩) hSS ?_
      rotate_left
      ·(intro y hy;have q0:=hy.1;have q1:=hy.2.1.cell 2;have q2:=hy.2.2;simp only [List.getElem?_cons_zero,List.getElem?_cons_succ] at q1;go_simp;with_reducible rfl)
      try simp only [Act.put,List.setIfInBounds_toArray,List.set_cons_succ,List.set_cons_zero]
      refine takeL 7 (v:=?_) rfl (some 44) rfl (by decide) (by kernel_rfl) (by kernel_rfl) (by kernel_rfl) (by kernel_rfl) (fun _ _ _ h=>h) (Or.inl ⟨by rfl,?_⟩) hSS ?_
      rotate_left
      ·(intro y hy;go_simp;with_reducible rfl)
      try simp only [Act.put,List.setIfInBounds_toArray,List.set_cons_succ,List.set_cons_zero]
      refine takeL 8 (v:=?_) rfl (some 45) rfl (by decide) (by kernel_rfl) (by kernel_rfl) (by kernel_rfl) (by kernel_rfl) (fun _ _ _ h=>h) (Or.inl ⟨by rfl,?_⟩) hSS ?_
      rotate_left
      ·(intro y hy;have q0:=hy.1;have q1:=hy.2.1.cell 2;have q2:=hy.2.2;simp only [List.getElem?_cons_zero,List.getElem?_cons_succ] at q1;go_simp;with_reducible rfl)
      try simp only [Act.put,List.setIfInBounds_toArray,List.set_cons_succ,List.set_cons_zero]
      refine takeL 9 (v:=?_) rfl (some 46) rfl (by decide) (by kernel_rfl) (by kernel_rfl) (by kernel_rfl) (by kernel_rfl) (fun _ _ _ h=>h) (Or.inl ⟨by rfl,?_⟩) hSS ?_
      rotate_left
      ·(intro y hy;go_simp;with_reducible rfl)
      try simp only [Act.put,List.setIfInBounds_toArray,List.set_cons_succ,List.set_cons_zero]
      refine readyL (rs:=[10]) (by kernel_rfl) (by simp) ?_
      refine ReadyL.cons rfl (fun KK hK=>?_) ReadyL.nil
      refine wantR (by rfl) ?_
      refine wpo_bsU 29 32 2 16 _ (.agg #[.int .i64 x,.int .i64 r]) (.tmp 46) rfl Tryz.underlying29 Tryz.info32 (by decide) (by decide) rfl [.int .i64 x,.int .i64 r] rfl rfl rfl ?_
      intro w7 hR7 hB7 hz7
      have hSS2:=(⟨(hB7.cell (p:=⟨b4,o4+i,none⟩) (World.block_lt_of_cell? _ _ hSS.1)).trans hSS.1,hSS.2.1.below hB7 hSS.2.1.lt,(hB7.cell (p:=⟨b2,o2,none⟩) (World.block_lt_of_cell? _ _ hSS.2.2)).trans hSS.2.2⟩:w7.cell? ⟨b4,o4+i,none⟩=some (.int .i64 x)/\Row w7 w.heap.size 25 [.int .i64 5,.string SN,.slice (some ⟨b2,o2,none⟩) nr p2,.slice (some ⟨b1,o1,none⟩) ne p3]/\w7.cell? ⟨b2,o2,none⟩=some (.int .i64 r))
      have hOW:=hidP (own_sameR OD.out (fun q eq=>hB7.block q (OD.out.lt q eq).2))
      have hSR:=hidP (sou_row2 (c:=1) hR7)
      have HB7:=hidP (BD.out.trans (below_le hB7 ZD.out))
      have hz8:=hidP (Nat.le_trans ZD.out hB7.size)
      refine hK.out (Act.put _ (some 47) _) _ (fun _=>hSS2) (fun _=>?_)
      clear hK KK hSS hR7 hB7 hz7 OD BD ZD
      have hSS:=hSS2
      clear hSS2
      try simp only [Act.put,List.setIfInBounds_toArray,List.set_cons_succ,List.set_cons_zero]
      refine readyL (rs:=[11]) (by kernel_rfl) (by simp) ?_
      refine ReadyL.cons rfl (fun KK hK=>?_) ReadyL.nil
      refine wantR (by rfl) ?_
      refine wpo_appS (bz:=16) (.tmp 37) (.tmp 47) rfl Tryz.underlying29 Tryz.info32 rfl (by decide) rfl rfl hOW.out hz8.out hSR.out rfl (by intro u hu;simp at hu;rcases hu with rfl|rfl <;> rfl) (by have:=HLA.out;omega) (by decide) ?_
      intro v9 w9 ho9 hg9
      have hb9:=grown_le hg9 hz8.out (fun k e=>(hOW.out.lt k e).1)
      have hSS2:=(⟨(hb9.cell (p:=⟨b4,o4+i,none⟩) hb4s.out).trans hSS.1,hSS.2.1.below hb9 R2.out.lt,(hb9.cell (p:=⟨b2,o2,none⟩) hbs.out).trans hSS.2.2⟩:w9.cell? ⟨b4,o4+i,none⟩=some (.int .i64 x)/\Row w9 w.heap.size 25 [.int .i64 5,.string SN,.slice (some ⟨b2,o2,none⟩) nr p2,.slice (some ⟨b1,o1,none⟩) ne p3]/\w9.cell? ⟨b2,o2,none⟩=some (.int .i64 r))
      obtain ⟨a9,c9,rfl⟩:=own_slice ho9
      have HO9:=hidP ho9
      have HB9:=hidP (HB7.out.trans hb9)
      refine hK.out (Act.put _ (some 48) _) _ (fun _=>hSS2) (fun _=>?_)
      clear hK KK hSS hOW hSR HB7 hz8 ho9 hg9 hb9
      have hSS:=hSS2
      clear hSS2
      try simp only [Act.put,List.setIfInBounds_toArray,List.set_cons_succ,List.set_cons_zero]
      refine takeL 12 (v:=?_) rfl (some 3) rfl (by decide) (by kernel_rfl) (by kernel_rfl) (by kernel_rfl) (by kernel_rfl) (fun _ _ _ h=>h) (Or.inl ⟨by rfl,?_⟩) hSS ?_
      rotate_left
      ·(intro y hy;go_simp;with_reducible rfl)
      try simp only [Act.put,List.setIfInBounds_toArray,List.set_cons_succ,List.set_cons_zero]
      refine doneL (by kernel_rfl) ?_ _
      go_wp2_with fail
      go_roundg (gk - 1)
      case measure=>omega
      case rel =>
       refine ⟨i+1,acc ++ [(x,r)],by rw [if_pos hr0];omega,by go_num,HTS.out.symm,?_,HB9.out⟩
       rw [List.length_append,pvs_app]
       exact HO9.out
     ·have HF:=hidP (show acc=(t.regs.take 1).flatMap fun a=>(regL n e).map fun v=>(v,a) by
       rw [HAC.out]
       rcases hr:t.regs with _|⟨r,rs⟩
       ·have h0:nr=0:=by have:=HNR.out;rw [hr] at this;exact this.symm
        have:i=0:=by have:=HI.out;rw [if_neg (by omega)] at this;omega
        subst this
        rfl
       ·have h0:0<nr:=by have:=HNR.out;rw [hr] at this;rw [← this];simp
        have:i=nq:=by have:=HI.out;rw [if_pos h0] at this;have:=fun h=>hg ⟨h,h0⟩;omega
        have h2:=HNQ.out
        rw [this,← h2,List.take_length]
        simp)
      have BW:=hidP (B2.out.trans (below_le HB.out B2.out.size))
      have r1:=hidP (range_le HC1.out BW.out (Nat.lt_of_lt_of_le HB1.out HC.out))
      have CL:=hidP (CALL.out _ BW.out)
      have HLA:=hidP (show acc.length<=50000 by have:=HW.out;rw [HW1.out,← HF.out,List.length_append] at this;omega)
      have ZB:=hidP (show w2.heap.size<=wr.heap.size from HB.out.size)
      have hor:((i:Int)<(nq:Int)/\nr=0)∨¬ (i:Int)<(nq:Int):=by
       by_cases h:i<nq
       ·exact .inl ⟨by omega,by have:=fun h2=>hg ⟨h,h2⟩;omega⟩
       ·exact .inr (by omega)
      clear hg HB HI HNR N4 R2 CALL A2 HNQ RB
      rcases hor with ⟨l1,rfl⟩|l1
      all_goals
       go_wp2_with (first|(refine wpList_load_mid rfl 25 (.tmp 52) rfl b1 o1 rfl c1 _ r1.out Tryz.underlying25 rfl s1.out ?_))
       refine CL.out.mono ?_
       rintro _ w7 ⟨v7,rfl,hb7,ho7⟩
       have O7:=hidP (own_sameR HO.out (fun k e=>hb7.block k (HO.out.lt k e).2))
       have HB7:=hidP (BW.out.trans (below_le hb7 BW.out.size))
       have HS7:=hidP (own_souZ ho7)
       have HP7:=hidP (pvs_len (wellL n e))
       have HO7:=hidP (pvs_ones (wellL n e))
       obtain ⟨a7,p7,rfl⟩:=own_slice ho7
       have hz7:=hidP (show w2.heap.size<=w7.heap.size from Nat.le_trans ZB.out hb7.size)
       clear CL hb7 ho7 HO r1 y2 y3 BW
       generalize hlx:(wellL n e).length=lx at *
       have HLX:=hidP hlx
       clear hlx
       go_wp2_with (first|(refine wpl_appS (bz:=16) rfl (.tmp 49) (.tmp 54) rfl Tryz.underlying29 Tryz.info32 rfl (by decide) rfl rfl O7.out hz7.out HS7.out HP7.out HO7.out (by have:=HLA.out;have:=HLW.out;omega) (by decide) ?_;intro v8 w8 ho8 hb8 hf8;apply shut))
       show wpList _ _ _ _ _ _
       obtain ⟨a8,p8,rfl⟩:=hf8
       have HO8:=hidP (own_base ho8 B2.out.size)
       have HB8:=hidP (HB7.out.trans (below_le hb8 B2.out.size))
       clear O7 HS7 HB7 ho8 hb8
       go_wp2_with fail
       go_ret
       exact ⟨_,rfl,HB8.out,by rw [HW1.out,← HF.out,List.length_append,HLX.out,pvs_app];exact HO8.out⟩
  ·have HW0:=hidP (show wellL (n+1) t=[] by
    have:nxtR t=none:=by
     rw [hNX.out]
     by_cases k:kd=4∨kd=5
     ·rw [if_pos k,List.eq_nil_of_length_eq_zero (show t.elem.length=0 by have:=HNE.out;have:=fun q=>hx ⟨k,q⟩;omega)]
      rfl
     ·rw [if_neg k]
    rw [HWE.out,this])
   clear HWE HRE hNX hOR HN HW AN A2 IH HC HZ R0 HNE HNR
   by_cases k:kd=4∨kd=5
   ·have h0:ne=0:=by have:=fun q=>hx ⟨k,q⟩;omega
    subst h0
    clear hx
    rcases k with rfl|rfl
    all_goals
     go_enter Tryz.func34,Tryz.ntmps34
     go_wp2_with fail
     go_ret
     exact ⟨_,rfl,HA.out,by rw [HW0.out];exact ⟨rfl,.inl ⟨rfl,rfl⟩⟩⟩
   ·have e4:(kd == 4)=false:=by simp;omega
    have e5:(kd == 5)=false:=by simp;omega
    clear hx k
    go_enter Tryz.func34,Tryz.ntmps34
    go_wp2_with fail
    go_ret
    exact ⟨_,rfl,HA.out,by rw [HW0.out];exact ⟨rfl,.inl ⟨rfl,rfl⟩⟩⟩
end Go.Proofs.YtldbbkheemnnhaaGreatDoor

namespace Go.Proofs.YtldbbkheemnnhaaGreatDoor
open Go.RowKit
theorem own_types {w : World} {B C e f z y n m : Nat} {v u : Value} {xs ys : List Value} (h : w.ownsRow B e z v n xs) (h' : w.ownsRow C f y u m ys) (hef : e ≠ f) {k : Nat} (hv : v.ownBlock = some k) : some k ≠ u.ownBlock := by
 intro hu
 rcases h.2 with ⟨h1, _⟩ | ⟨g, cap, cur, h1, _, hg, _⟩
 ·subst h1; cases hv
 ·rcases h'.2 with ⟨h2, _⟩ | ⟨g', cap', cur', h2, _, hg', _⟩
  ·subst h2; cases hu
  ·subst h1 h2
   have e1 : some g = some k := hv
   have e2 : some k = some g' := hu
   cases e1
   cases e2
   rw [hg] at hg'
   cases hg'
   exact hef rfl
theorem own_cell {w : World} {B g n p : Nat} {l : List Int} (h : w.ownsRow B 3 1 (.slice (some ⟨g, 0, none⟩) n p) n (iv l)) {i : Nat} (hi : i < l.length) : w.cell? ⟨g, i, none⟩ = some (.int .i64 (l.getD i 0)) := by
 have := own_range h i (.int .i64 (l.getD i 0)) (by
  unfold iv
  rw [List.getElem?_map, List.getD_eq_getElem?_getD, List.getElem?_eq_getElem hi]
  rfl)
 rw [Nat.zero_add] at this
 exact this
theorem own_some {w : World} {B e z n : Nat} {v : Value} {xs : List Value} (h : w.ownsRow B e z v n xs) (hn : 0 < n) : ∃ g p, v = .slice (some ⟨g, 0, none⟩) n p /\ g < w.heap.size := by
 rcases h.2 with ⟨_, h0⟩ | ⟨g, cap, cur, h1, _, hg, _⟩
 ·omega
 ·refine ⟨g, cap, h1, ?_⟩
  rcases Nat.lt_or_ge g w.heap.size with h | h
  ·exact h
  ·rw [Array.getElem?_eq_none h] at hg; cases hg
theorem count_le {l : List (Int × Int)} {got : List Int} {y : Int} : l.countP (fun q => decide (q.2 ∉ got ++ [y])) <= l.countP (fun q => decide (q.2 ∉ got)) :=
 List.countP_mono_left fun q _ h => by
  simp only [decide_eq_true_eq, List.mem_append, not_or] at h ⊢
  exact h.1
theorem count_drop {got : List Int} {y : Int} (hy : y ∉ got) : ∀ {l : List (Int × Int)}, (∃ q ∈ l, q.2 = y) -> l.countP (fun q => decide (q.2 ∉ got ++ [y])) + 1 <= l.countP (fun q => decide (q.2 ∉ got))
 | [], h => by obtain ⟨_, h, _⟩ := h; cases h
 | z :: l, h => by
  by_cases hz : z.2 = y
  ·rw [List.countP_cons_of_neg (by simp [hz]), List.countP_cons_of_pos (by simp [hz, hy])]
   exact Nat.succ_le_succ count_le
  ·have h' : ∃ q ∈ l, q.2 = y := by
    obtain ⟨q, hq, e⟩ := h
    rcases List.mem_cons.1 hq with rfl | hq
    ·exact absurd e hz
    ·exact ⟨q, hq, e⟩
   have := count_drop hy h'
   by_cases hg : z.2 ∈ got
   ·rw [List.countP_cons_of_neg (by simp [hg]), List.countP_cons_of_neg (by simp [hg])]
    exact this
   ·rw [List.countP_cons_of_pos (by simp [hg, hz]), List.countP_cons_of_pos (by simp [hg])]
    omega
structure Fol (l : List (Int × Int)) (p0 p1 : Int) (got : List Int) (i : Nat) : Prop where
 first : p0 ∈ got
 closed : ∀ a, a < i -> ∀ q ∈ l, q.1 = got.getD a 0 -> q.2 ∈ got
 notyet : ∀ a, a < i -> got.getD a 0 ≠ p1
 bound : got.length + l.countP (fun q => decide (q.2 ∉ got)) <= l.length + 1
theorem getD_app {got ext : List Int} {a : Nat} (h : a < got.length) : (got ++ ext).getD a 0 = got.getD a 0 := by
 rw [List.getD_eq_getElem?_getD, List.getElem?_append_left h, List.getD_eq_getElem?_getD]
theorem Fol.start {l : List (Int × Int)} {p0 p1 : Int} : Fol l p0 p1 [p0] 0 :=
 ⟨List.mem_singleton.2 rfl, fun _ h => absurd h (Nat.not_lt_zero _), fun _ h => absurd h (Nat.not_lt_zero _), by
  have : l.countP (fun q => decide (q.2 ∉ [p0])) <= l.length := List.countP_le_length
  simp only [List.length_cons, List.length_nil]
  omega⟩
theorem Fol.app {l : List (Int × Int)} {p0 p1 y : Int} {got : List Int} {i : Nat} (h : Fol l p0 p1 got i) (hi : i <= got.length) (hy : y ∉ got) (hq : ∃ q ∈ l, q.2 = y) : Fol l p0 p1 (got ++ [y]) i :=
 ⟨List.mem_append_left _ h.first, fun a ha q hq e => List.mem_append_left _ (h.closed a ha q hq (by rw [getD_app (by omega)] at e; exact e)), fun a ha => by rw [getD_app (by omega)]; exact h.notyet a ha, by
  have h1 := count_drop hy hq
  have h2 := h.bound
  rw [List.length_append]
  simp only [List.length_cons, List.length_nil]
  omega⟩
theorem Fol.next {l : List (Int × Int)} {p0 p1 : Int} {got : List Int} {i : Nat} (h : Fol l p0 p1 got i) (hx : got.getD i 0 ≠ p1) (hc : ∀ q ∈ l, q.1 = got.getD i 0 -> q.2 ∈ got) : Fol l p0 p1 got (i + 1) :=
 ⟨h.first, fun a ha => by
  rcases Nat.lt_succ_iff_lt_or_eq.1 ha with h1 | rfl
  ·exact h.closed a h1
  ·exact hc, fun a ha => by
  rcases Nat.lt_succ_iff_lt_or_eq.1 ha with h1 | rfl
  ·exact h.notyet a h1
  ·exact hx, h.bound⟩
theorem Fol.done {l : List (Int × Int)} {p0 p1 : Int} {got : List Int} (h : Fol l p0 p1 got got.length) (hch : p0 = p1 ∨ ∃ r, (p0, r) ∈ l /\ (r, p1) ∈ l) : False := by
 have hne : ∀ x ∈ got, x ≠ p1 := fun x hx => by
  obtain ⟨a, ha, e⟩ := List.getElem_of_mem hx
  have := h.notyet a ha
  rw [List.getD_eq_getElem?_getD, List.getElem?_eq_getElem ha] at this
  rw [← e]; exact this
 have hcl : ∀ x ∈ got, ∀ q ∈ l, q.1 = x -> q.2 ∈ got := fun x hx q hq e => by
  obtain ⟨a, ha, e2⟩ := List.getElem_of_mem hx
  exact h.closed a ha q hq (by rw [List.getD_eq_getElem?_getD, List.getElem?_eq_getElem ha]; rw [e, ← e2]; rfl)
 rcases hch with rfl | ⟨r, h1, h2⟩
 ·exact hne _ h.first rfl
 ·exact hne _ (hcl _ (hcl _ h.first _ h1 rfl) _ h2 rfl) rfl
end Go.Proofs.YtldbbkheemnnhaaGreatDoor

namespace Go.Proofs.YtldbbkheemnnhaaGreatDoor
open Go.RowKit
set_option maxHeartbeats 32000000 in
set_option maxRecDepth 20000 in
theorem xsubst20 {K:Ctx}:∀ (n:Nat) {w:World} {cs:List Value} {t:RTy} {vm:Value} {m:List Int},RtAt n K w cs t->Fit n t->Nms K w vm m->K.C<=w.heap.size ->
  Calls Tryz.prog 20 #[.agg cs.toArray,vm] w fun ev w'=>∃ c,ev=.returned (.agg c.toArray)/\Below w.heap.size w w'/\RtQ n (Fr w w') K.B w' c (subN n m t)
 | 0,_,_,_,_,_,h,_,_,_=>h.elim
 | n+1,w,cs,t,vm,m,ht,hf,hm,hC=>by
  have IH:=hidP (fun (y:World) (hy:Below w.heap.size w y) (cs:List Value) (e:RTy) (he:RtAt n K y cs e) (hf:Fit n e)=>xsubst20 n he hf (hm.mono (below_le hy hC) fun _ _ _ h=>h) (Nat.le_trans hC hy.size))
  obtain ⟨hf1,hf2,hf3⟩:=hf
  have HF3:=hidP hf3
  obtain ⟨v2,v3,rfl,hB,h2,h3⟩:=ht
  obtain ⟨a2,p2,rfl⟩:=Ar.form h2
  obtain ⟨a3,p3,rfl⟩:=Ar.form h3
  obtain ⟨a1,p1,rfl⟩:=Ar.form hm
  have hm9:m.length<=140737488355328:=by obtain ⟨_,_,_,_,z1,_⟩:=hm.shape;omega
  have A2:=hidP (fun i hi=>nms_cell h2 i hi)
  have AM:=hidP (fun i hi=>nms_cell hm i hi)
  have A3:=hidP (fun i hi=>Ar.nth h3 i hi)
  have HC:=hidP hC
  have hsm:=K.small
  have HBN:=hidP hB
  have PN:=hidP (show ∀ x:Int,putN m x=if 0<=x/\x<(m.length:Int) then m.getD x.toNat 0 else x from fun _=>rfl)
  have HSB:=hidP (show subN (n+1) m t=⟨t.kind,t.name,t.regs.map (putN m),t.elem.map (subN n m)⟩ from rfl)
  clear h2 h3 hm hC hf3 hB
  generalize hnr:t.regs.length=nr at *
  have HNR:=hidP hnr
  clear hnr
  generalize hne:t.elem.length=ne at *
  have HNE:=hidP hne
  clear hne
  generalize hnm:m.length=nm at *
  have HNM:=hidP hnm
  clear hnm
  generalize hsn:str t.name=SN at *
  have HSN:=hidP hsn
  clear hsn
  generalize hkd:t.kind=kd at *
  have HKD:=hidP hkd
  clear hkd
  have HA:=hidP (alloc_two w (.cells #[.int .i64 kd,.string SN,.slice a2 nr p2,.slice a3 ne p3] 25) (.cells z25.toArray 25))
  have R2:=hidP ((Row.new w 25 [.int .i64 kd,.string SN,.slice a2 nr p2,.slice a3 ne p3]).alloc (.cells z25.toArray 25))
  have R4:=hidP (Row.new (w.alloc (.cells #[.int .i64 kd,.string SN,.slice a2 nr p2,.slice a3 ne p3] 25)) 25 z25)
  have HZ:=hidP (size_two w (.cells #[.int .i64 kd,.string SN,.slice a2 nr p2,.slice a3 ne p3] 25) (.cells z25.toArray 25))
  rw [size_alloc] at R4
  go_enter Tryz.func20,Tryz.ntmps20
  unfold z25 at R2 R4 HA HZ
  have rz:=Row.new ((w.alloc (.cells #[.int .i64 kd,.string SN,.slice a2 nr p2,.slice a3 ne p3] 25)).alloc (.cells #[.int .i64 0,.string ⟨#[]⟩,.slice none 0 0,.slice none 0 0] 25)) 25 [.int .i64 0,.string ⟨#[]⟩,.slice none 0 0,.slice none 0 0]
  have BZ:=hidP (alloc_one ((w.alloc (.cells #[.int .i64 kd,.string SN,.slice a2 nr p2,.slice a3 ne p3] 25)).alloc (.cells #[.int .i64 0,.string ⟨#[]⟩,.slice none 0 0,.slice none 0 0] 25)) (.cells #[.int .i64 0,.string ⟨#[]⟩,.slice none 0 0,.slice none 0 0] 25))
  rw [HZ.out] at rz
  have RZ:=hidP rz
  have x0:=R2.out.cell 0
  have x1:=R2.out.cell 1
  simp only [List.getElem?_cons_zero,List.getElem?_cons_succ] at x0 x1
  clear rz
  go_wp2_with (first|(refine stR rfl 25 (.tmp 5) (.tmp 13) rfl (cs:=[.int .i64 kd,.string SN,.slice none 0 0,.slice none 0 0]) rfl rfl RZ.out Tryz.sz25 rfl (ones_cons rfl (ones_cons rfl (ones_cons rfl (ones_cons rfl ones_nil)))) ?_;intro w5 RO5 S5;apply shut))
  show wpList _ _ _ _ _ _
  have HB5:=hidP (BZ.out.trans (S5.below (C:=((w.alloc (.cells #[.int .i64 kd,.string SN,.slice a2 nr p2,.slice a3 ne p3] 25)).alloc (.cells #[.int .i64 0,.string ⟨#[]⟩,.slice none 0 0,.slice none 0 0] 25)).heap.size) BZ.out.size (fun q hq=>by have:q=w.heap.size+2:=hq;have:=HZ.out;omega)))
  clear RZ BZ S5 x0 x1
  generalize hW:(w.alloc (.cells #[.int .i64 kd,.string SN,.slice a2 nr p2,.slice a3 ne p3] 25)).alloc (.cells #[.int .i64 0,.string ⟨#[]⟩,.slice none 0 0,.slice none 0 0] 25)=W at R2 R4 HA HZ HB5
  have hg5:=hidP (show W.heap.size<=w.heap.size+2 from Nat.le_of_eq HZ.out)
  generalize w.heap.size+2=g5 at RO5 hg5 ⊢
  replace RO5:=hidP RO5
  have RI:=hidP (R2.out.below HB5.out (by have:=HZ.out;omega))
  have RR:=hidP (R4.out.below HB5.out (by have:=HZ.out;omega))
  have HBW:=hidP (HA.out.trans (below_le HB5.out HA.out.size))
  clear R2 R4
  go_wp2_with fail
  go_loopg [6] nr (fun k v6 wr=>∃ (i:Nat) (v:Value),i+k=nr/\v6=.int .i64 (i:Int)/\Stay (fun k=>k=g5) w5 wr/\Row wr g5 25 [.int .i64 kd,.string SN,v,.slice none 0 0]/\Gro 1 3 PNm w5 wr v ((t.regs.take i).map (putN m)))
  case atStart=>exact ⟨0,_,by omega,rfl,Stay.refl _ _,RO5.out,Gro.nil⟩
  case round =>
   obtain ⟨i,v,hi,rfl,hst,hro,hgr⟩:=hrel
   have ST:=hidP hst
   have RO:=hidP hro
   have GR:=hidP hgr
   obtain ⟨ao,cp,rfl⟩:=hgr.form
   have hlt5:=hidP RO5.out.lt
   have RIw:=hidP (ST.out.row RI.out (by have:=hg5.out;have:=HZ.out;omega))
   have x2:=RIw.out.cell 2
   simp only [List.getElem?_cons_zero,List.getElem?_cons_succ] at x2
   clear hst hro hgr RO5
   by_cases hlt:i<nr
   ·obtain ⟨b1,o1,rfl,hb1,hc1⟩:=A2.out i (by have:=HNR.out;omega)
    have SO:=hidP (fun (k:Nat) (hk:k<w.heap.size)=>show ¬ (k=g5) from by have:=hg5.out;have:=HZ.out;omega)
    have WC:=hidP (fun (k o:Nat) (u:Value) (hk:k<K.C) (h:w.cell? ⟨k,o,none⟩=some u)=>show wr.cell? ⟨k,o,none⟩=some u from by
     have hkw:=Nat.lt_of_lt_of_le hk HC.out
     have e5:=(HBW.out.cell (p:=⟨k,o,none⟩) hkw).trans h
     have e6:=ST.out.block k (Nat.lt_of_lt_of_le hkw HBW.out.size) (SO.out k hkw)
     unfold World.cell? at e5 ⊢
     simp only at e5 ⊢
     rw [e6];exact e5)
    have hc1':=WC.out _ _ _ hb1 hc1
    have l1:(i:Int)<(nr:Int):=by omega
    have HL:=hidP (show ((t.regs.take i).map (putN m)).length=i by rw [List.length_map,List.length_take,HNR.out];omega)
    have HG:=hidP (show (t.regs.take (i+1)).map (putN m)=(t.regs.take i).map (putN m) ++ [putN m (t.regs.getD i 0)] by
     rw [List.take_succ_eq_append_getElem (by have:=HNR.out;omega),List.map_append]
     simp [List.getD,List.getElem?_eq_getElem (show i<t.regs.length by have:=HNR.out;omega)])
    have PX:=hidP (PN.out (t.regs.getD i 0))
    generalize (t.regs.take i).map (putN m)=acc at *
    rw [HL.out] at RO GR
    generalize t.regs.getD i 0=x at *
    have y2:=RO.out.cell 2
    simp only [List.getElem?_cons_zero,List.getElem?_cons_succ] at y2
    have hsz5:=hidP ST.out.size
    clear hb1 hc1
    have HX:Hid ((∃ j:Nat,x=j/\(j:Int)<(nm:Int)/\putN m x=m.getD j 0)∨(0<=x/\¬ x<(nm:Int)/\putN m x=x)∨(¬ 0<=x/\putN m x=x)):=by
     show _∨_∨_
     have h1:=PX.out
     rcases Int.lt_or_le x 0 with h|h
     ·exact .inr (.inr ⟨by omega,by rw [h1,if_neg (by omega)]⟩)
     ·rcases Int.lt_or_le x (nm:Int) with h'|h'
      ·refine .inl ⟨x.toNat,by omega,by omega,?_⟩
       rw [h1,if_pos ⟨h,h'⟩]
      ·exact .inr (.inl ⟨h,by omega,by rw [h1,if_neg (by omega)]⟩)
    clear PX
    have FIN:=hidP (fun (y:Int) (hy:putN m x=y)=>(hy ▸ HG.out:(t.regs.take (i+1)).map (putN m)=acc ++ [y]))
    rcases HX.out with ⟨j,rfl,hj,hy⟩|⟨hx1,hx2,hy⟩|⟨hx1,hy⟩
    case inl =>
     obtain ⟨b4,o4,rfl,hb4,hc4⟩:=AM.out j (by have:=HNM.out;omega)
     have hc4':=WC.out _ _ _ hb4 hc4
     have F1:=hidP (FIN.out _ hy)
     generalize m.getD j 0=y at *
     clear hb4 hc4 hy FIN HX HG
     have l2:(0:Int)<=(j:Int):=by omega
     go_wp2_with (first|(refine bsliceU rfl 22 3 1 8 _ (.int .i64 y) (.tmp 40) rfl Tryz.underlying22 Tryz.info3I (by decide) (by decide) rfl [.int .i64 y] rfl rfl rfl ?_;intro w7 hR7 hB7 hz7;apply shut))
     show wpList _ _ _ _ _ _
     have R7:=hidP (RO.out.below hB7 RO.out.lt)
     have G7:=hidP (GR.out.past moNm hB7)
     have S7:=hidP (ST.out.trans (Stay.of_below hB7))
     have hz8:=hidP (show w5.heap.size<=w7.heap.size from Nat.le_trans hsz5.out hB7.size)
     have RN:=hidP hR7
     clear RO GR ST hR7 hB7 hz7 y2 x2
     go_wp2_with (first|(refine wpl_gro rfl (.tmp 39) (.tmp 41) moNm rfl Tryz.underlying22 Tryz.info3I rfl (by decide) rfl rfl G7.out hz8.out RN.out rfl (ones_cons rfl ones_nil) (x:=y) (show NmAt _ _ from rfl) (by have:=HL.out;omega) (by decide) ?_;intro eo ep w8 G8 B8;apply shut))
     show wpList _ _ _ _ _ _
     rw [HL.out] at G8
     try rw [HL.out]
     have R8:=hidP (R7.out.below B8 hlt5.out)
     have S8:=hidP (S7.out.step (stay_up B8) (fun i hi hy=>absurd hi (Nat.not_lt.2 hy)))
     replace G8:=hidP G8
     have hz9:=hidP (Nat.le_trans hz8.out B8.size)
     clear R7 G7 S7 RN B8 hz8
     go_wp2_with (first|(refine stC rfl 22 (.tmp 43) (.tmp 42) rfl rfl rfl R8.out (svN R8.out rfl _ _ _) ?_;intro w9 R9 S9;apply shut))
     show wpList _ _ _ _ _ _
     simp only [List.set_cons_zero,List.set_cons_succ] at R9
     have G9:=hidP (G8.out.stay moNm S9 (fun k e=>by have:k=g5:=e;have:=hlt5.out;omega))
     have ST9:=hidP (S8.out.trans S9)
     replace R9:=hidP R9
     clear R8 S8 G8 S9
     go_wp2_with fail
     go_roundg (gk - 1)
     case measure=>omega
     case rel=>exact ⟨i+1,_,by omega,by go_num,ST9.out,R9.out,by rw [F1.out];exact G9.out⟩
    case inr.inl =>
     have F1:=hidP (FIN.out _ hy)
     clear hy FIN HX HG
     go_wp2_with (first|(refine bsliceU rfl 22 3 1 8 _ (.int .i64 x) (.tmp 40) rfl Tryz.underlying22 Tryz.info3I (by decide) (by decide) rfl [.int .i64 x] rfl rfl rfl ?_;intro w7 hR7 hB7 hz7;apply shut))
     show wpList _ _ _ _ _ _
     have R7:=hidP (RO.out.below hB7 RO.out.lt)
     have G7:=hidP (GR.out.past moNm hB7)
     have S7:=hidP (ST.out.trans (Stay.of_below hB7))
     have hz8:=hidP (show w5.heap.size<=w7.heap.size from Nat.le_trans hsz5.out hB7.size)
     have RN:=hidP hR7
     clear RO GR ST hR7 hB7 hz7 y2 x2
     go_wp2_with (first|(refine wpl_gro rfl (.tmp 39) (.tmp 41) moNm rfl Tryz.underlying22 Tryz.info3I rfl (by decide) rfl rfl G7.out hz8.out RN.out rfl (ones_cons rfl ones_nil) (x:=x) (show NmAt _ _ from rfl) (by have:=HL.out;omega) (by decide) ?_;intro eo ep w8 G8 B8;apply shut))
     show wpList _ _ _ _ _ _
     rw [HL.out] at G8
     try rw [HL.out]
     have R8:=hidP (R7.out.below B8 hlt5.out)
     have S8:=hidP (S7.out.step (stay_up B8) (fun i hi hy=>absurd hi (Nat.not_lt.2 hy)))
     replace G8:=hidP G8
     have hz9:=hidP (Nat.le_trans hz8.out B8.size)
     clear R7 G7 S7 RN B8 hz8
     go_wp2_with (first|(refine stC rfl 22 (.tmp 43) (.tmp 42) rfl rfl rfl R8.out (svN R8.out rfl _ _ _) ?_;intro w9 R9 S9;apply shut))
     show wpList _ _ _ _ _ _
     simp only [List.set_cons_zero,List.set_cons_succ] at R9
     have G9:=hidP (G8.out.stay moNm S9 (fun k e=>by have:k=g5:=e;have:=hlt5.out;omega))
     have ST9:=hidP (S8.out.trans S9)
     replace R9:=hidP R9
     clear R8 S8 G8 S9
     go_wp2_with fail
     go_roundg (gk - 1)
     case measure=>omega
     case rel=>exact ⟨i+1,_,by omega,by go_num,ST9.out,R9.out,by rw [F1.out];exact G9.out⟩
    case inr.inr =>
     have F1:=hidP (FIN.out _ hy)
     clear hy FIN HX HG
     go_wp2_with (first|(refine bsliceU rfl 22 3 1 8 _ (.int .i64 x) (.tmp 40) rfl Tryz.underlying22 Tryz.info3I (by decide) (by decide) rfl [.int .i64 x] rfl rfl rfl ?_;intro w7 hR7 hB7 hz7;apply shut))
     show wpList _ _ _ _ _ _
     have R7:=hidP (RO.out.below hB7 RO.out.lt)
     have G7:=hidP (GR.out.past moNm hB7)
     have S7:=hidP (ST.out.trans (Stay.of_below hB7))
     have hz8:=hidP (show w5.heap.size<=w7.heap.size from Nat.le_trans hsz5.out hB7.size)
     have RN:=hidP hR7
     clear RO GR ST hR7 hB7 hz7 y2 x2
     go_wp2_with (first|(refine wpl_gro rfl (.tmp 39) (.tmp 41) moNm rfl Tryz.underlying22 Tryz.info3I rfl (by decide) rfl rfl G7.out hz8.out RN.out rfl (ones_cons rfl ones_nil) (x:=x) (show NmAt _ _ from rfl) (by have:=HL.out;omega) (by decide) ?_;intro eo ep w8 G8 B8;apply shut))
     show wpList _ _ _ _ _ _
     rw [HL.out] at G8
     try rw [HL.out]
     have R8:=hidP (R7.out.below B8 hlt5.out)
     have S8:=hidP (S7.out.step (stay_up B8) (fun i hi hy=>absurd hi (Nat.not_lt.2 hy)))
     replace G8:=hidP G8
     have hz9:=hidP (Nat.le_trans hz8.out B8.size)
     clear R7 G7 S7 RN B8 hz8
     go_wp2_with (first|(refine stC rfl 22 (.tmp 43) (.tmp 42) rfl rfl rfl R8.out (svN R8.out rfl _ _ _) ?_;intro w9 R9 S9;apply shut))
     show wpList _ _ _ _ _ _
     simp only [List.set_cons_zero,List.set_cons_succ] at R9
     have G9:=hidP (G8.out.stay moNm S9 (fun k e=>by have:k=g5:=e;have:=hlt5.out;omega))
     have ST9:=hidP (S8.out.trans S9)
     replace R9:=hidP R9
     clear R8 S8 G8 S9
     go_wp2_with fail
     go_roundg (gk - 1)
     case measure=>omega
     case rel=>exact ⟨i+1,_,by omega,by go_num,ST9.out,R9.out,by rw [F1.out];exact G9.out⟩
   ·have e:i=nr:=by omega
    subst e
    have HT:=hidP (show t.regs.take i=t.regs by rw [← HNR.out,List.take_length])
    rw [HT.out] at GR
    have HLr:=hidP (show (t.regs.map (putN m)).length=i by rw [List.length_map,HNR.out])
    have DN:=hidP (GR.out.done (bz:=8) moNm (by have:=HLr.out;omega))
    have RIr:=hidP (ST.out.row RI.out (by have:=hg5.out;have:=HZ.out;omega))
    have RRr:=hidP (ST.out.row RR.out (by have:=hg5.out;have:=HZ.out;omega))
    have BW:=hidP (HBW.out.trans (ST.out.below (C:=w.heap.size) HBW.out.size (fun q hq=>by have:q=g5:=hq;have:=hg5.out;have:=HZ.out;omega)))
    have hz5:=hidP ST.out.size
    have HBW5:=hidP (show w.heap.size<=w5.heap.size from HBW.out.size)
    generalize wr=wc at *
    have e7:(t.regs.map (putN m)).length=i:=HLr.out
    rw [HT.out] at RO
    rw [e7] at RO DN
    clear hlt GR ST RI RR HBW A2 AM PN e7
    go_wp2_with fail
    go_loopg [8] ne (fun k v8 wr=>∃ (i2:Nat) (v:Value),i2+k=ne/\v8=.int .i64 (i2:Int)/\Stay (fun k=>k=g5) wc wr/\Row wr g5 25 [.int .i64 kd,.string SN,.slice ao i cp,v]/\Gro 4 25 (PRt n K.B) wc wr v ((t.elem.take i2).map (subN n m)))
    case atStart=>exact ⟨0,_,by omega,rfl,Stay.refl _ _,RO.out,Gro.nil⟩
    case round =>
     obtain ⟨i2,v,hi,rfl,hst,hro,hgr⟩:=hrel
     have ST:=hidP hst
     have RW:=hidP hro
     have GR:=hidP hgr
     obtain ⟨eo,ep,rfl⟩:=hgr.form
     have hltc:=hidP RO.out.lt
     have RIw2:=hidP (ST.out.row RIr.out (by have:=hg5.out;have:=HZ.out;omega))
     have x3:=RIw2.out.cell 3
     simp only [List.getElem?_cons_zero,List.getElem?_cons_succ] at x3
     clear hst hro hgr RO
     by_cases hlt:i2<ne
     ·obtain ⟨e,hie,b1,o1,rfl,hb1,c1,hl1,hr1,hp1⟩:=A3.out i2 hlt
      have hmem:e∈t.elem:=List.mem_of_getElem? hie
      have HFe:=hidP (HF3.out e hmem)
      have BWr:=hidP (BW.out.trans (ST.out.below (C:=w.heap.size) BW.out.size (fun q hq=>by have:q=g5:=hq;have:=hg5.out;have:=HZ.out;omega)))
      have hr2:=hidP (range_le hr1 BWr.out (Nat.lt_of_lt_of_le hb1 HC.out))
      have HPe:=hidP (fun (y:World) (hy:Below w.heap.size w y)=>hp1.below (below_le hy HC.out))
      have HLe:=hidP (show ((t.elem.take i2).map (subN n m)).length=i2 by rw [List.length_map,List.length_take,HNE.out];omega)
      have HGe:=hidP (show (t.elem.take (i2+1)).map (subN n m)=(t.elem.take i2).map (subN n m) ++ [subN n m e] by
       rw [List.take_add_one,hie,List.map_append];rfl)
      have s1:=hidP (show (Tryz.prog.info? 25).map (·.size)=some c1.length by rw [hl1];exact Tryz.sz25)
      have s1':=hidP (show (Tryz.prog.info? 25).map (·.size)=some c1.toArray.size by rw [List.size_toArray];exact s1.out)
      have e1:=hidP (show (4:Nat)=c1.toArray.size by rw [List.size_toArray];exact hl1.symm)
      have n1:=hidP (one_mem hp1.ones)
      generalize (t.elem.take i2).map (subN n m)=acc at *
      rw [HLe.out] at RW GR
      have hszc:=hidP ST.out.size
      have l1:(i2:Int)<(ne:Int):=by omega
      obtain ⟨ca,cb,cc,cd,rfl⟩:=hp1.four
      have hb1':=hb1
      clear hp1 hr1 hb1 hl1 hmem hie
      have GR9:=hidP GR.out
      have ST9:=hidP ST.out
      have hz9:=hidP hszc.out
      have hbK:=hidP (show b1<w.heap.size from Nat.lt_of_lt_of_le hb1' HC.out)
      have hwc:=hidP (show w.heap.size<wc.heap.size from RIr.out.lt)
      clear s1' e1 n1
      go_wp2_with fail
      have hS1:Row wr.drew g5 25 [.int .i64 kd,.string SN,.slice ao i cp,.slice eo i2 ep]/\Row wr.drew w.heap.size 25 [.int .i64 kd,.string SN,.slice a2 i p2,.slice (some ⟨b1,o1,none⟩) ne p3]/\wr.drew.rangeAt b1 (o1+i2 * 4) [ca,cb,cc,cd]:=⟨RW.out.drew,RIw2.out.drew,range_le hr2.out (Below.refl wr.heap.size wr).drew (World.block_lt_of_cell? wr _ (hr2.out 0 ca rfl))⟩
      have BD:=hidP (BWr.out.drew)
      have ID:=hidP (IH.out _ BD.out [ca,cb,cc,cd] e (HPe.out _ BD.out) HFe.out)
      have GD:=hidP (GR9.out.stay (moRt n K.B) ((Stay.refl (fun _=>False) wr).drew) (fun _ h=>h.elim))
      have SD:=hidP (ST9.out.trans ((Stay.refl (fun k=>k=g5) wr).drew))
      have BES:=hidP (fun (y:World)=>(GD.out.beside (w:=y) (show wc.heap.size<=wr.drew.heap.size from hz9.out):Kp (Fr wr.drew y) (Qv wc y (.slice eo i2 ep)) y y))
      have ZD:=hidP (show wc.heap.size<=wr.drew.heap.size from hz9.out)
      clear RW RIw2 GR9 ST9 BWr hz9 GR ST hr2 hszc x3 hb1'
      refine beginL (fun y=>Row y g5 25 [.int .i64 kd,.string SN,.slice ao i cp,.slice eo i2 ep]/\Row y w.heap.size 25 [.int .i64 kd,.string SN,.slice a2 i p2,.slice (some ⟨b1,o1,none⟩) ne p3]/\y.rangeAt b1 (o1+i2 * 4) [ca,cb,cc,cd]) 12 (by kernel_rfl) hS1 (fun hSS=>?_)
      refine takeL 0 (v:=?_) rfl (some 51) rfl (by decide) (by kernel_rfl) (by kernel_rfl) (by kernel_rfl) (by kernel_rfl) (fun _ _ _ h=>h) (Or.inl ⟨by rfl,?_⟩) hSS ?_
      rotate_left
      ·(intro y hy;go_simp;with_reducible rfl)
      try simp only [Act.put,List.setIfInBounds_toArray,List.set_cons_succ,List.set_cons_zero]
      refine takeL 1 (v:=?_) rfl (some 52) rfl (by decide) (by kernel_rfl) (by kernel_rfl) (by kernel_rfl) (by kernel_rfl) (fun _ _ _ h=>h) (Or.inl ⟨by rfl,?_⟩) hSS ?_
      rotate_left
      ·(intro y hy;obtain ⟨_,_,_,j3⟩:=hy.1.c4;obtain ⟨_,_,_,k3⟩:=hy.2.1.c4;obtain ⟨q0,q1,q2,q3⟩:=rg4 hy.2.2;go_simp;with_reducible rfl)
      try simp only [Act.put,List.setIfInBounds_toArray,List.set_cons_succ,List.set_cons_zero]
      refine takeL 2 (v:=?_) rfl (some 53) rfl (by decide) (by kernel_rfl) (by kernel_rfl) (by kernel_rfl) (by kernel_rfl) (fun _ _ _ h=>h) (Or.inl ⟨by rfl,?_⟩) hSS ?_
      rotate_left
      ·(intro y hy;go_simp;with_reducible rfl)
      try simp only [Act.put,List.setIfInBounds_toArray,List.set_cons_succ,List.set_cons_zero]
      refine takeL 3 (v:=?_) rfl (some 54) rfl (by decide) (by kernel_rfl) (by kernel_rfl) (by kernel_rfl) (by kernel_rfl) (fun _ _ _ h=>h) (Or.inl ⟨by rfl,?_⟩) hSS ?_
      rotate_left
      ·(intro y hy;obtain ⟨_,_,_,j3⟩:=hy.1.c4;obtain ⟨_,_,_,k3⟩:=hy.2.1.c4;obtain ⟨q0,q1,q2,q3⟩:=rg4 hy.2.2;go_simp;with_reducible rfl)
      try simp only [Act.put,List.setIfInBounds_toArray,List.set_cons_succ,List.set_cons_zero]
      refine takeL 4 (v:=?_) rfl (some 55) rfl (by decide) (by kernel_rfl) (by kernel_rfl) (by kernel_rfl) (by kernel_rfl) (fun _ _ _ h=>h) (Or.inl ⟨by rfl,?_⟩) hSS ?_
      rotate_left
      ·(intro y hy;go_simp;with_reducible rfl)
      try simp only [Act.put,List.setIfInBounds_toArray,List.set_cons_succ,List.set_cons_zero]
      refine takeL 5 (v:=?_) rfl (some 56) rfl (by decide) (by kernel_rfl) (by kernel_rfl) (by kernel_rfl) (by kernel_rfl) (fun _ _ _ h=>h) (Or.inl ⟨by rfl,?_⟩) hSS ?_
      rotate_left
      ·(intro y hy;go_simp;with_reducible rfl)
      try simp only [Act.put,List.setIfInBounds_toArray,List.set_cons_succ,List.set_cons_zero]
      refine takeL 6 (v:=?_) rfl (some 57) rfl (by decide) (by kernel_rfl) (by kernel_rfl) (by kernel_rfl) (by kernel_rfl) (fun _ _ _ h=>h) (Or.inl ⟨by rfl,?_⟩) hSS ?_
      rotate_left
      ·(intro y hy;obtain ⟨_,_,_,j3⟩:=hy.1.c4;obtain ⟨_,_,_,k3⟩:=hy.2.1.c4;obtain ⟨q0,q1,q2,q3⟩:=rg4 hy.2.2;go_simp;with_reducible rfl)
      try simp only [Act.put,List.setIfInBounds_toArray,List.set_cons_succ,List.set_cons_zero]
      refine takeL 7 (v:=?_) rfl (some 58) rfl (by decide) (by kernel_rfl) (by kernel_rfl) (by kernel_rfl) (by kernel_rfl) (fun _ _ _ h=>h) (Or.inl ⟨by rfl,?_⟩) hSS ?_
      rotate_left
      ·(intro y hy;go_simp;with_reducible rfl)
      try simp only [Act.put,List.setIfInBounds_toArray,List.set_cons_succ,List.set_cons_zero]
      refine readyL (rs:=[8]) (by kernel_rfl) (by simp) ?_
      refine ReadyL.cons rfl (fun KK hK=>?_) ReadyL.nil
      refine wantR (by rfl) ?_
      go_simp
      refine ID.out.mono ?_
      rintro _ w6 ⟨c6,rfl,hb6,hq6⟩
      have hSS2:=(⟨hSS.1.below hb6 hSS.1.lt,hSS.2.1.below hb6 hSS.2.1.lt,range_le hSS.2.2 hb6 (World.block_lt_of_cell? _ _ (hSS.2.2 0 ca rfl))⟩:Row w6 g5 25 [.int .i64 kd,.string SN,.slice ao i cp,.slice eo i2 ep]/\Row w6 w.heap.size 25 [.int .i64 kd,.string SN,.slice a2 i p2,.slice (some ⟨b1,o1,none⟩) ne p3]/\w6.rangeAt b1 (o1+i2 * 4) [ca,cb,cc,cd])
      have hz6:=hb6.size
      have G6:=hidP (GD.out.past (moRt n K.B) hb6)
      have T6:=hidP (SD.out.trans (Stay.of_below hb6))
      have Z6:=hidP (Nat.le_trans ZD.out hz6)
      have Q6:=hidP hq6
      refine hK.out _ _ (fun _=>hSS2) (fun _=>?_)
      clear hK KK hSS hb6 hq6 GD SD ID BD hz6
      have hSS:=hSS2
      clear hSS2
      try simp only [Act.put,List.setIfInBounds_toArray,List.set_cons_succ,List.set_cons_zero]
      refine readyL (rs:=[9]) (by kernel_rfl) (by simp) ?_
      refine ReadyL.cons rfl (fun KK hK=>?_) ReadyL.nil
      refine wantR (by rfl) ?_
      refine wpo_bsU 23 25 4 72 _ (.agg c6.toArray) (.tmp 59) rfl Tryz.underlying23 Tryz.info25S (by decide) (by decide) rfl c6 rfl Q6.out.len rfl ?_
      intro w7 hR7 hB7 hz7
      have hSS2:=(⟨hSS.1.below hB7 hSS.1.lt,hSS.2.1.below hB7 hSS.2.1.lt,range_le hSS.2.2 hB7 (World.block_lt_of_cell? _ _ (hSS.2.2 0 ca rfl))⟩:Row w7 g5 25 [.int .i64 kd,.string SN,.slice ao i cp,.slice eo i2 ep]/\Row w7 w.heap.size 25 [.int .i64 kd,.string SN,.slice a2 i p2,.slice (some ⟨b1,o1,none⟩) ne p3]/\w7.rangeAt b1 (o1+i2 * 4) [ca,cb,cc,cd])
      have G7:=hidP (G6.out.past (moRt n K.B) hB7)
      have T7:=hidP (T6.out.trans (Stay.of_below hB7))
      have Z7:=hidP (Nat.le_trans Z6.out hB7.size)
      have Q7:=hidP (show RtQ n (Fr wr.drew w7) K.B w7 c6 (subN n m e) from Q6.out.mono (kp_stay (X:=fun _=>False) (Stay.of_below hB7) (fun _ h=>h.elim) (Nat.le_refl _)))
      have R7:=hidP hR7
      refine hK.out (Act.put _ (some 60) _) _ (fun _=>hSS2) (fun _=>?_)
      clear hK KK hSS hB7 hR7 hz7 G6 T6 Z6 Q6
      have hSS:=hSS2
      clear hSS2
      try simp only [Act.put,List.setIfInBounds_toArray,List.set_cons_succ,List.set_cons_zero]
      refine readyL (rs:=[10]) (by kernel_rfl) (by simp) ?_
      refine ReadyL.cons rfl (fun KK hK=>?_) ReadyL.nil
      refine wantR (by rfl) ?_
      refine wpo_groK (.tmp 52) (.tmp 60) (moRt n K.B) rfl Tryz.underlying23 Tryz.info25S rfl (by decide) rfl rfl G7.out Z7.out R7.out Q7.out.len Q7.out.ones (x:=subN n m e) (Q7.out.mono (BES.out w7)) (by have:=HLe.out;omega) (by decide) ?_
      intro fo fp w8 G8 B8 K8
      rw [HLe.out] at G8
      have hSS2:=(⟨hSS.1.below B8 hltc.out,hSS.2.1.below B8 hwc.out,range_le hSS.2.2 B8 (Nat.lt_trans hbK.out hwc.out)⟩:Row w8 g5 25 [.int .i64 kd,.string SN,.slice ao i cp,.slice eo i2 ep]/\Row w8 w.heap.size 25 [.int .i64 kd,.string SN,.slice a2 i p2,.slice (some ⟨b1,o1,none⟩) ne p3]/\w8.rangeAt b1 (o1+i2 * 4) [ca,cb,cc,cd])
      have T8:=hidP (T7.out.step (stay_up B8) (fun i hi hy=>absurd hi (Nat.not_lt.2 hy)))
      replace G8:=hidP G8
      try rw [HLe.out]
      refine hK.out (Act.put _ (some 61) _) _ (fun _=>hSS2) (fun _=>?_)
      clear hK KK hSS B8 K8 G7 T7 Z7 Q7 R7
      have hSS:=hSS2
      clear hSS2
      try simp only [Act.put,List.setIfInBounds_toArray,List.set_cons_succ,List.set_cons_zero]
      refine takeL 11 (v:=?_) rfl (some 62) rfl (by decide) (by kernel_rfl) (by kernel_rfl) (by kernel_rfl) (by kernel_rfl) (fun _ _ _ h=>h) (Or.inl ⟨by rfl,?_⟩) hSS ?_
      rotate_left
      ·(intro y hy;go_simp;with_reducible rfl)
      try simp only [Act.put,List.setIfInBounds_toArray,List.set_cons_succ,List.set_cons_zero]
      refine readyL (rs:=[12]) (by kernel_rfl) (by simp) ?_
      refine ReadyL.cons rfl (fun KK hK=>?_) ReadyL.nil
      refine wantR (by rfl) ?_
      refine wpo_stC (v:=.slice fo (i2+1) fp) 23 (.tmp 62) (.tmp 61) rfl rfl rfl hSS.1 (sv23 hSS.1 rfl _ _ _) ?_
      intro w9 R9 S9
      simp only [List.set_cons_zero,List.set_cons_succ] at R9
      have G9:=hidP (G8.out.stay (moRt n K.B) S9 (fun k e=>by have:k=g5:=e;have:=hltc.out;omega))
      have T9:=hidP (T8.out.trans S9)
      replace R9:=hidP R9
      refine hK.out (Act.put _ none _) _ (fun h=>absurd rfl h) (fun _=>?_)
      clear hK KK hSS T8 G8 S9
      refine doneL (by kernel_rfl) ?_ _
      go_wp2_with fail
      go_roundg (gk - 1)
      case measure=>omega
      case rel=>exact ⟨i2+1,_,by omega,by go_num,T9.out,R9.out,by rw [HGe.out];exact G9.out⟩
     ·have e:ne=i2:=by omega
      have HT:=hidP (show t.elem.take i2=t.elem by rw [← e,← HNE.out,List.take_length])
      rw [HT.out] at GR RW
      have HLe:=hidP (show (t.elem.map (subN n m)).length=ne by rw [List.length_map,HNE.out])
      have DE:=hidP (GR.out.done (bz:=72) (moRt n K.B) (by have:=HLe.out;omega))
      rw [HLe.out] at DE RW
      have RI2:=hidP (ST.out.row RIr.out (by have:=hg5.out;have:=HZ.out;omega))
      have RR2:=hidP (ST.out.row RRr.out (by have:=hg5.out;have:=HZ.out;omega))
      have BW2:=hidP (BW.out.trans (ST.out.below (C:=w.heap.size) BW.out.size (fun q hq=>by have:q=g5:=hq;have:=hg5.out;have:=HZ.out;omega)))
      have K2:=hidP (show Kp (Fr w5 wc) (Fr w5 wr) wc wr from kp_stay ST.out (fun k e=>by have:k=g5:=e;have:=hlt5.out;omega) (Nat.le_refl _))
      have hzc:=hidP ST.out.size
      clear GR ST RIr RRr BW HT A3 IH
      go_wp2_with (first|(refine ldR rfl 25 (.tmp 5) rfl rfl RW.out Tryz.underlying25 rfl Tryz.sz25 ?_)|(refine stR rfl 25 (.tmp 4) (.tmp 63) rfl (cs:=[.int .i64 kd,.string SN,.slice ao i cp,.slice eo ne ep]) rfl rfl RR2.out Tryz.sz25 rfl (ones_cons rfl (ones_cons rfl (ones_cons rfl (ones_cons rfl ones_nil)))) ?_;intro wF RF SF;apply shut))
      show wpList _ _ _ _ _ _
      have BF:=hidP (BW2.out.trans (SF.below (C:=w.heap.size) BW2.out.size (fun q hq=>by have:q=w.heap.size+1:=hq;omega)))
      have hne9:∀ k,k=w.heap.size+1->k<w5.heap.size:=fun k e=>by have:=hlt5.out;have:=hg5.out;have:=HZ.out;omega
      have KA:=hidP (show Kp (Fr w5 wr) (Fr w wF) wr wF from kp_stay SF (fun k e=>hne9 k e) (by have:=HBW5.out;omega))
      have KB:=hidP (show Kp (Fr wc wr) (Fr w wF) wr wF from kp_stay SF (fun k e=>Nat.lt_of_lt_of_le (hne9 k e) hz5.out) (by have:=HBW5.out;have:=hz5.out;omega))
      have DA:=hidP (show ArQ 1 8 NmAt (Fr w wF) wF (.slice ao i cp) (t.regs.map (putN m)) from (DN.out.mono K2.out fun _ _ _ h=>h).mono KA.out fun _ _ _ h=>h)
      have DB:=hidP (show ArQ 4 72 (RtQ n (Fr w wF) K.B wF) (Fr w wF) wF (.slice eo ne ep) (t.elem.map (subN n m)) from DE.out.mono KB.out fun _ _ _ h=>RtQ.mono KB.out h)
      replace RF:=hidP RF
      clear SF KA KB DN DE K2 hne9 RW RR2
      go_wp2_with fail
      exact bodyPost_ret (v:=.agg #[.int .i64 kd,.string SN,.slice ao i cp,.slice eo ne ep]) (results_cell_row Tryz.results20 _ _ (w.heap.size+1) 25 _ (0,0) _ rfl RF.out.heap Tryz.underlying25 rfl (by kernel_rfl)) rfl ⟨[.int .i64 kd,.string SN,.slice ao i cp,.slice eo ne ep],rfl,BF.out,by
       rw [HSB.out]
       exact ⟨_,_,by rw [HSN.out],HBN.out,DA.out,DB.out⟩⟩
end Go.Proofs.YtldbbkheemnnhaaGreatDoor
