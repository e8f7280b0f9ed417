/-
  The document's Sub.
-/
import Derived.Test.YtldbbkheemnnhaaGreatDoorJpBt82
import Derived.Test.YtldbbkheemnnhaaGreatDoorJpXw83
import Derived.Test.YtldbbkheemnnhaaGreatDoorQpSk8
namespace Go.Proofs.YtldbbkheemnnhaaGreatDoor
open Go.RowKit Go.Maps
theorem pairL_app {both:Bool}:∀ {l l' m m':List Int},l.length=l'.length->pairL both (l ++ m) (l' ++ m')=pairL both l l' ++ pairL both m m'
 | [],[],_,_,_=>by simp [pairL]
 | [],_ :: _,_,_,h=>by cases h
 | _ :: _,[],_,_,h=>by cases h
 | x :: l,y :: l',m,m',h=>by
  simp only [List.cons_append,pairL]
  rw [pairL_app (by simpa using h),List.append_assoc]
theorem ask_true:∀ {n:Nat} {a b:RTy},sameN n a b=true->askL n true a b=pairL true (regL n a) (regL n b)
 | 0,_,_,h=>by cases h
 | n+1,a,b,h=>by
  rw [askL_succ,regL_succ,regL_succ,pairL_app (sameN_own h),Bool.true_or]
  have h2:=sameN_next h
  have h1:ownP true a b=pairL true (ownR a) (ownR b):=by
   unfold ownP
   split
   ·rfl
   ·rename_i h3
    split
    ·rfl
    ·rename_i h4
     unfold ownR
     rw [if_neg h3,if_neg h4]
     rfl
  rw [h1]
  generalize nxtR a=x at h2
  generalize nxtR b=y at h2
  match x,y,h2 with
  | none,none,_=>simp only [resA,resL,pairL]
  | some x,some y,h2=>simp only [resA,resL];rw [ask_true h2]
theorem region_cutV {P:Program} {c:Code} {Q:Exit->Act->World->Prop} {a:Act} {w:World} {A:Value->Value->Act} {F:Value->Value->World->Prop} (h:c.wp P (fun e a' w'=>∃ u v,e=.normal/\a'=A u v/\F u v w') a w) (k:∀ u v w',F u v w'->Q .normal (A u v) w'):c.wp P Q a w :=
 Code.wp_mono (by rintro e a' w' ⟨u,v,rfl,rfl,hf⟩;exact k u v w' hf) h
theorem sou_row4 {w:World} {g:Nat} {a b c d:Value} {p:Nat} (h:Row w g 32 [a,b,c,d]):Sou w (.slice (some ⟨g,0,none⟩) 2 p) 2 [a,b,c,d] :=
 ⟨some ⟨g,0,none⟩,p,rfl,(fun e=>by cases e),fun j u hj=>⟨g,0,rfl,h.range j u hj⟩⟩
theorem regL_same:∀ {n:Nat} {a b:RTy},sameN n a b=true->(regL n a).length=(regL n b).length
 | 0,_,_,h=>by cases h
 | n+1,a,b,h=>by
  rw [regL_succ,regL_succ,List.length_append,List.length_append,sameN_own h]
  have h2:=sameN_next h
  generalize nxtR a=x at h2
  generalize nxtR b=y at h2
  match x,y,h2 with
  | none,none,_=>rfl
  | some x,some y,h2=>have:=regL_same (n:=n) (a:=x) (b:=y) h2;simp only [resL];omega
theorem allS_right {p:RTy->RTy->Bool}:∀ {l m:List RTy},allS p l m=true->∀ y∈m,∃ x,p x y=true
 | [],[],_,_,h=>by cases h
 | [],_ :: _,h,_,_=>by cases h
 | _ :: _,[],h,_,_=>by cases h
 | x :: l,y :: m,h,z,hz=>by
  simp only [allS,Bool.and_eq_true] at h
  rcases List.mem_cons.1 hz with rfl|hz
  ·exact ⟨x,h.1⟩
  ·exact allS_right h.2 z hz
theorem RtAt.of_same {K:Ctx} {w:World}:∀ {n m:Nat} {cs:List Value} {e f:RTy},sameN n e f=true->RtAt m K w cs f->RtAt n K w cs f
 | 0,_,_,_,_,h,_=>by cases h
 | _+1,0,_,_,_,_,h=>h.elim
 | n+1,m+1,_,_,_,hs,h=>by
  obtain ⟨v2,v3,e,h1,h2,h3⟩:=h
  exact ⟨v2,v3,e,h1,h2,h3.mono (Below.refl _ _) fun _ x hx h=>by
   obtain ⟨y,hy⟩:=allS_right (sameN_parts hs).2.2.2 x hx
   exact RtAt.of_same hy h⟩
set_option maxHeartbeats 64000000 in
set_option maxRecDepth 20000 in
theorem xsub33 {K:Ctx}:∀ (n:Nat) {m:Nat} {w:World} {cs ds:List Value} {t u:RTy},RtAt n K w cs t->RtAt m K w ds u->K.C<=w.heap.size->(sameN n t u=true->(askL n false t u).length<=40000) ->
  Calls Tryz.prog 33 #[.agg cs.toArray,.agg ds.toArray] w fun ev w'=>∃ v,ev=.returned v/\Below w.heap.size w w'/\w'.ownsRow w.heap.size 32 2 v (subL n t u).length (pvs (subL n t u))
 | 0,_,_,_,_,_,_,h,_,_,_=>h.elim
 | n+1,m,w,cs,ds,t,u,ht,hu,hC,hl=>by
  have IH:=hidP (fun (y:World) (hy:Below w.heap.size w y) (cs ds:List Value) (e f:RTy) (m:Nat) (he:RtAt n K y cs e) (hf:RtAt m K y ds f) (hl:sameN n e f=true->(askL n false e f).length<=40000)=>xsub33 n he hf (Nat.le_trans hC hy.size) hl)
  obtain ⟨m,rfl⟩:∃ j,m=j+1:=by
   cases m with
   | zero=>exact hu.elim
   | succ j=>exact ⟨j,rfl⟩
  have OA:=hidP (fun (y:World) (hy:Below w.heap.size w y)=>own38 (ht.below (below_le hy hC)) (Nat.le_trans hC hy.size))
  have OB:=hidP (fun (y:World) (hy:Below w.heap.size w y)=>own38 (hu.below (below_le hy hC)) (Nat.le_trans hC hy.size))
  have SM0:=hidP (fun (y:World) (hy:Below w.heap.size w y)=>xsameG28 (n+1) (ht.below (below_le hy hC)) (hu.below (below_le hy hC)) (Nat.le_trans hC hy.size))
  obtain ⟨v2,v3,rfl,_,h2,h3⟩:=ht
  obtain ⟨u2,u3,rfl,_,k2,k3⟩:=hu
  obtain ⟨a2,p2,rfl⟩:=Ar.form h2
  obtain ⟨f2,g2,rfl⟩:=Ar.form k2
  obtain ⟨a3,p3,rfl⟩:=Ar.form h3
  obtain ⟨f3,g3,rfl⟩:=Ar.form k3
  have AN:=hidP (fun i hi=>ar_nth h3 i hi)
  have BN:=hidP (fun i hi=>ar_nth k3 i hi)
  have HC:=hidP hC
  have HL:=hidP hl
  have HA:=hidP (alloc_two w (.cells #[.int .i64 t.kind,.string (str t.name),.slice a2 t.regs.length p2,.slice a3 t.elem.length p3] 25) (.cells #[.int .i64 u.kind,.string (str u.name),.slice f2 u.regs.length g2,.slice f3 u.elem.length g3] 25))
  have R0:=hidP ((Row.new w 25 [.int .i64 t.kind,.string (str t.name),.slice a2 t.regs.length p2,.slice a3 t.elem.length p3]).alloc (.cells #[.int .i64 u.kind,.string (str u.name),.slice f2 u.regs.length g2,.slice f3 u.elem.length g3] 25))
  have r1:=Row.new (w.alloc (.cells #[.int .i64 t.kind,.string (str t.name),.slice a2 t.regs.length p2,.slice a3 t.elem.length p3] 25)) 25 [.int .i64 u.kind,.string (str u.name),.slice f2 u.regs.length g2,.slice f3 u.elem.length g3]
  have HZ:=hidP (size_two w (.cells #[.int .i64 t.kind,.string (str t.name),.slice a2 t.regs.length p2,.slice a3 t.elem.length p3] 25) (.cells #[.int .i64 u.kind,.string (str u.name),.slice f2 u.regs.length g2,.slice f3 u.elem.length g3] 25))
  rw [size_alloc] at r1
  have R1:=hidP r1
  have SM:=hidP (SM0.out _ HA.out)
  have HNX:=hidP (show nxtR t=if t.kind=4∨t.kind=5 then t.elem.head? else none from rfl)
  have HNU:=hidP (show nxtR u=if u.kind=4∨u.kind=5 then u.elem.head? else none from rfl)
  have HOP:=hidP (show ownP false t u=if t.kind=3 then pairL true (ownR t) (ownR u) else if t.kind=4∨t.kind=5 then pairL false (ownR t) (ownR u) else [] from rfl)
  have HAS:=hidP (askL_succ n false t u)
  have HPT:=hidP (fun h=>sameN_parts (n:=n) (a:=t) (b:=u) h)
  clear h2 h3 k2 k3 hC hl r1 SM0
  generalize hn1:t.elem.length=n1 at *
  have HN1:=hidP hn1
  clear hn1
  generalize hn2:u.elem.length=n2 at *
  have HN2:=hidP hn2
  clear hn2
  generalize str t.name=S0 at *
  generalize str u.name=S1 at *
  generalize t.kind=kd at *
  generalize u.kind=ku at *
  generalize t.regs.length=r1 at *
  generalize u.regs.length=r2 at *
  go_enter Tryz.func33,Tryz.ntmps33
  go_wp2_with (first|(refine ldR rfl 25 (.tmp 2) rfl rfl R0.out Tryz.underlying25 rfl Tryz.sz25 ?_)|(refine ldR rfl 25 (.tmp 3) rfl rfl R1.out Tryz.underlying25 rfl Tryz.sz25 ?_))
  refine SM.out.mono ?_
  rintro _ w3 ⟨rfl,hb3⟩
  have R03:=hidP (R0.out.below hb3 (by have:=HZ.out;omega))
  have R13:=hidP (R1.out.below hb3 (by have:=HZ.out;omega))
  have HZ3:=hidP (show w.heap.size+2<=w3.heap.size by have:=HZ.out;have:=hb3.size;omega)
  have HB3:=hidP (HA.out.trans (below_le hb3 HA.out.size))
  clear SM R0 R1 HA HZ hb3
  rcases hsn:sameN (n+1) t u with _|_
  ·have HX:=hidP (show subL (n+1) t u=[] from if_neg (by rw [hsn];decide))
   clear hsn
   go_wp2_with fail
   go_ret
   exact ⟨_,rfl,HB3.out,by rw [HX.out];exact ⟨rfl,.inl ⟨rfl,rfl⟩⟩⟩
  ·have HX:=hidP ((show subL (n+1) t u=askL (n+1) false t u from if_pos hsn).trans HAS.out)
   have HLL:=hidP (show (ownP false t u ++ resA n (false || kd == 5) (nxtR t) (nxtR u)).length<=40000 by rw [← HAS.out];exact HL.out hsn)
   have HOL:=hidP (sameN_own hsn)
   have HSO:=hidP (sameN_next hsn)
   obtain ⟨hk,-,-,hal⟩:=HPT.out hsn
   subst hk
   have HE12:=hidP (show n1=n2 from (Nat.decEq n1 n2).byContradiction fun h=>by
    have:=allS_len (p:=sameN n) (show t.elem.length≠u.elem.length by rw [HN1.out,HN2.out];exact h)
    rw [this] at hal
    cases hal)
   clear hsn hal HAS HL HPT
   go_wp2_with fail
   refine region_cutV (A:=?_) (F:=fun va vb w'=>Nms K w' va (ownR t)/\Nms K w' vb (ownR u)/\Below w3.heap.size w3 w') ?_ ?_
   rotate_left
   ·have hS0:Row w3.drew w.heap.size 25 [.int .i64 kd,.string S0,.slice a2 r1 p2,.slice a3 n1 p3]/\Row w3.drew (w.heap.size+1) 25 [.int .i64 kd,.string S1,.slice f2 r2 g2,.slice f3 n2 g3]:=⟨R03.out.drew,R13.out.drew⟩
    have BX:=hidP (show Below w3.heap.size w3 w3.drew from (Below.refl _ _).drew)
    refine beginL (fun y=>Row y w.heap.size 25 [.int .i64 kd,.string S0,.slice a2 r1 p2,.slice a3 n1 p3]/\Row y (w.heap.size+1) 25 [.int .i64 kd,.string S1,.slice f2 r2 g2,.slice f3 n2 g3]) 6 (by kernel_rfl) hS0 (fun hSS=>?_)
    refine takeL 0 (v:=?_) rfl (some 17) rfl (by decide) (by kernel_rfl) (by kernel_rfl) (by kernel_rfl) (by kernel_rfl) (fun _ _ _ h=>by obtain ⟨_,_,h,_⟩:=h;cases h) (Or.inl ⟨by rfl,?_⟩) hSS ?_
    rotate_left
    ·(intro y hy;obtain ⟨j0,j1,j2,j3⟩:=hy.1.c4;obtain ⟨q0,q1,q2,q3⟩:=hy.2.c4;go_simp;with_reducible rfl)
    try simp only [Act.put,List.setIfInBounds_toArray,List.set_cons_succ,List.set_cons_zero]
    refine takeL 2 (v:=?_) rfl (some 19) rfl (by decide) (by kernel_rfl) (by kernel_rfl) (by kernel_rfl) (by kernel_rfl) (fun _ _ _ h=>by obtain ⟨_,_,h,_⟩:=h;cases h) (Or.inl ⟨by rfl,?_⟩) hSS ?_
    rotate_left
    ·(intro y hy;obtain ⟨j0,j1,j2,j3⟩:=hy.1.c4;obtain ⟨q0,q1,q2,q3⟩:=hy.2.c4;go_simp;with_reducible rfl)
    try simp only [Act.put,List.setIfInBounds_toArray,List.set_cons_succ,List.set_cons_zero]
    generalize w3.drew=wS at *
    refine readyL (rs:=[1]) (by kernel_rfl) (by simp) ?_
    refine ReadyL.cons rfl (fun KK hK=>?_) ReadyL.nil
    refine wantR (by rfl) ?_
    go_simp
    refine (OA.out wS (HB3.out.trans (below_le BX.out HB3.out.size))).mono ?_
    rintro _ wP ⟨va,rfl,hbz,hva⟩
    have hSS2:=(⟨hSS.1.below hbz hSS.1.lt,hSS.2.below hbz hSS.2.lt⟩:Row wP w.heap.size 25 [.int .i64 kd,.string S0,.slice a2 r1 p2,.slice a3 n1 p3]/\Row wP (w.heap.size+1) 25 [.int .i64 kd,.string S1,.slice f2 r2 g2,.slice f3 n2 g3])
    have BX2:=hidP (BX.out.trans (below_le hbz BX.out.size))
    have Nva:=hidP hva
    refine hK.out _ _ (fun _=>hSS2) (fun _=>?_)
    clear hK KK hSS BX hbz hva
    have hSS:=hSS2
    have BX:=BX2
    clear hSS2 BX2
    try simp only [Act.put,List.setIfInBounds_toArray,List.set_cons_succ,List.set_cons_zero]
    refine readyL (rs:=[3]) (by kernel_rfl) (by simp) ?_
    refine ReadyL.cons rfl (fun KK hK=>?_) ReadyL.nil
    refine wantR (by rfl) ?_
    go_simp
    refine (OB.out wP (HB3.out.trans (below_le BX.out HB3.out.size))).mono ?_
    rintro _ wQ ⟨vb,rfl,hbz,hvb⟩
    have hSS2:=(⟨hSS.1.below hbz hSS.1.lt,hSS.2.below hbz hSS.2.lt⟩:Row wQ w.heap.size 25 [.int .i64 kd,.string S0,.slice a2 r1 p2,.slice a3 n1 p3]/\Row wQ (w.heap.size+1) 25 [.int .i64 kd,.string S1,.slice f2 r2 g2,.slice f3 n2 g3])
    have BX2:=hidP (BX.out.trans (below_le hbz BX.out.size))
    have Nvb:=hidP hvb
    have Nva2:=hidP (show Nms K wQ _ _ from Nva.out.mono (below_le hbz (Nat.le_trans HC.out (HB3.out.trans (below_le BX.out HB3.out.size)).size)) fun _ _ _ h=>h)
    clear Nva
    have Nva:=Nva2
    clear Nva2
    refine hK.out _ _ (fun _=>hSS2) (fun _=>?_)
    clear hK KK hSS BX hbz hvb
    have hSS:=hSS2
    have BX:=BX2
    clear hSS2 BX2
    try simp only [Act.put,List.setIfInBounds_toArray,List.set_cons_succ,List.set_cons_zero]
    refine takeL 4 (v:=?_) rfl (some 6) rfl (by decide) (by kernel_rfl) (by kernel_rfl) (by kernel_rfl) (by kernel_rfl) (fun _ _ _ h=>by obtain ⟨_,_,h,_⟩:=h;cases h) (Or.inl ⟨by rfl,?_⟩) hSS ?_
    rotate_left
    ·(intro y hy;go_simp;with_reducible rfl)
    try simp only [Act.put,List.setIfInBounds_toArray,List.set_cons_succ,List.set_cons_zero]
    refine takeL 5 (v:=?_) rfl (some 7) rfl (by decide) (by kernel_rfl) (by kernel_rfl) (by kernel_rfl) (by kernel_rfl) (fun _ _ _ h=>by obtain ⟨_,_,h,_⟩:=h;cases h) (Or.inl ⟨by rfl,?_⟩) hSS ?_
    rotate_left
    ·(intro y hy;go_simp;with_reducible rfl)
    try simp only [Act.put,List.setIfInBounds_toArray,List.set_cons_succ,List.set_cons_zero]
    refine doneL (by kernel_rfl) ?_ _
    refine ⟨va,vb,rfl,?_,Nva.out,Nvb.out,BX.out⟩
    with_reducible rfl
   ·rintro va vb w4 ⟨hva,hvb,hb4⟩
    have R04:=hidP (R03.out.below hb4 R03.out.lt)
    have R14:=hidP (R13.out.below hb4 R13.out.lt)
    have B4:=hidP (HB3.out.trans (below_le hb4 HB3.out.size))
    have HZ4:=hidP (Nat.le_trans HZ3.out hb4.size)
    obtain ⟨a6,p6,rfl⟩:=Ar.form hva
    obtain ⟨a7,p7,rfl⟩:=Ar.form hvb
    have A6:=hidP (fun i hi=>nms_cell hva i hi)
    have A7:=hidP (fun i hi=>nms_cell hvb i hi)
    have y0:=R04.out.cell 0
    simp only [List.getElem?_cons_zero] at y0
    clear hva hvb hb4 R03 R13 HB3 HZ3 OA OB
    generalize hna:(ownR t).length=na at *
    have HNA:=hidP hna
    clear hna
    generalize hnb:(ownR u).length=nb at *
    have HNB:=hidP hnb
    clear hnb
    have hab:=HOL.out
    subst hab
    by_cases k3:kd=3
    ·have HP:=hidP (show subL (n+1) t u=pairL true (ownR t) (ownR u) by
      rw [HX.out,HNX.out,if_neg (by omega),HOP.out,if_pos k3]
      exact List.append_nil _)
     have HLP:=hidP (show (pairL true (ownR t) (ownR u)).length<=40000 by
      have:=HLL.out
      rw [HOP.out,if_pos k3,List.length_append] at this
      omega)
     clear HX HLL HNX HNU HOP HSO IH AN BN HE12 HN1 HN2
     subst k3
     go_wp2_with fail
     have HTK:=hidP (pairL_take (both:=true) (show (ownR t).length<=(ownR u).length by rw [HNA.out,HNB.out];exact Nat.le_refl _))
     have HN5:=hidP (show na<=40000 by
      have h1:=pairL_ge (both:=true) (show (ownR t).length<=(ownR u).length by rw [HNA.out,HNB.out];exact Nat.le_refl _)
      have:=HLP.out
      have:=HNA.out
      omega)
     clear y0
     go_loopg [5,8] na (fun r v5 vc wr=>∃ (i:Nat) (acc2:List (Int × Int)),i+r=na/\vc=.int .i64 (i:Int)/\acc2=pairL true ((ownR t).take i) ((ownR u).take i)/\wr.ownsRow w4.heap.size 32 2 v5 acc2.length (pvs acc2)/\Below w4.heap.size w4 wr)
     case atStart=>exact ⟨0,[],by omega,rfl,by simp [pairL],⟨rfl,.inl ⟨rfl,rfl⟩⟩,Below.refl _ _⟩
     case round =>
      obtain ⟨i,acc2,hi,rfl,ha2,ho2,hb2⟩:=hrel
      have HA2:=hidP ha2
      have HO2:=hidP ho2
      have HB2:=hidP hb2
      obtain ⟨aa2,pp2,rfl⟩:=own_slice ho2
      clear ha2 ho2 hb2
      by_cases hlt:i<na
      ·obtain ⟨b1,o1,rfl,hb1,hc1⟩:=A6.out i (by have:=HNA.out;omega)
       obtain ⟨b2,o2,rfl,hb2,hc2⟩:=A7.out i (by have:=HNB.out;omega)
       have HA3:=hidP (show acc2.length<=2 * i by
        rw [HA2.out]
        have:=pairL_len (both:=true) (l:=(ownR t).take i) (m:=(ownR u).take i)
        rw [List.length_take] at this
        omega)
       have HXN:=hidP (pairL_next (both:=true) (l:=ownR t) (m:=ownR u) (i:=i) (by have:=HNA.out;omega) (by have:=HNB.out;omega))
       generalize (ownR t).getD i 0=x at *
       generalize (ownR u).getD i 0=y at *
       have l1:(i:Int)<(na:Int):=by omega
       have hn9:na<=40000:=HN5.out
       have hk1:=hidP (show b1<w4.heap.size from Nat.lt_of_lt_of_le hb1 (Nat.le_trans HC.out B4.out.size))
       have hk2:=hidP (show b2<w4.heap.size from Nat.lt_of_lt_of_le hb2 (Nat.le_trans HC.out B4.out.size))
       have hS0:wr.drew.cell? ⟨b1,o1+i,none⟩=some (.int .i64 x)/\wr.drew.cell? ⟨b2,o2+i,none⟩=some (.int .i64 y):=⟨(HB2.out.drew.cell (p:=⟨b1,o1+i,none⟩) hk1.out).trans hc1,(HB2.out.drew.cell (p:=⟨b2,o2+i,none⟩) hk2.out).trans hc2⟩
       have HKP:=hidP (fun (y1 y2:World) (h:Below w4.heap.size y1 y2) (hs:y1.cell? ⟨b1,o1+i,none⟩=some (.int .i64 x)/\y1.cell? ⟨b2,o2+i,none⟩=some (.int .i64 y))=>show y2.cell? ⟨b1,o1+i,none⟩=some (.int .i64 x)/\y2.cell? ⟨b2,o2+i,none⟩=some (.int .i64 y) from ⟨(h.cell (p:=⟨b1,o1+i,none⟩) hk1.out).trans hs.1,(h.cell (p:=⟨b2,o2+i,none⟩) hk2.out).trans hs.2⟩)
       have OD:=hidP (own_sameR (w':=wr.drew) HO2.out (fun q eq=>rfl))
       have BD:=hidP (HB2.out.drew)
       have ZD:=hidP (show w4.heap.size<=wr.drew.heap.size from BD.out.size)
       clear hc1 hc2 hb1 hb2 HO2 HB2
       go_wp2_with fail
       refine beginL (fun y0=>y0.cell? ⟨b1,o1+i,none⟩=some (.int .i64 x)/\y0.cell? ⟨b2,o2+i,none⟩=some (.int .i64 y)) 22 (by kernel_rfl) hS0 (fun hSS=>?_)
       refine takeL 0 (v:=?_) rfl (some 31) rfl (by decide) (by kernel_rfl) (by kernel_rfl) (by kernel_rfl) (by kernel_rfl) (fun _ _ _ h=>h) (Or.inl ⟨by rfl,?_⟩) hSS ?_
       rotate_left
       ·(intro y0 hy;go_simp;with_reducible rfl)
       try simp only [Act.put,List.setIfInBounds_toArray,List.set_cons_succ,List.set_cons_zero]
       refine takeL 1 (v:=?_) rfl (some 32) rfl (by decide) (by kernel_rfl) (by kernel_rfl) (by kernel_rfl) (by kernel_rfl) (fun _ _ _ h=>h) (Or.inl ⟨by rfl,?_⟩) hSS ?_
       rotate_left
       ·(intro y0 hy;go_simp;with_reducible rfl)
       try simp only [Act.put,List.setIfInBounds_toArray,List.set_cons_succ,List.set_cons_zero]
       refine takeL 2 (v:=?_) rfl (some 33) rfl (by decide) (by kernel_rfl) (by kernel_rfl) (by kernel_rfl) (by kernel_rfl) (fun _ _ _ h=>h) (Or.inl ⟨by rfl,?_⟩) hSS ?_
       rotate_left
       ·(intro y0 hy;go_simp;with_reducible rfl)
       try simp only [Act.put,List.setIfInBounds_toArray,List.set_cons_succ,List.set_cons_zero]
       refine takeL 3 (v:=?_) rfl (some 34) rfl (by decide) (by kernel_rfl) (by kernel_rfl) (by kernel_rfl) (by kernel_rfl) (fun _ _ _ h=>h) (Or.inl ⟨by rfl,?_⟩) hSS ?_
       rotate_left
       ·(intro y0 hy;go_simp;with_reducible rfl)
       try simp only [Act.put,List.setIfInBounds_toArray,List.set_cons_succ,List.set_cons_zero]
       refine takeL 4 (v:=?_) rfl (some 35) rfl (by decide) (by kernel_rfl) (by kernel_rfl) (by kernel_rfl) (by kernel_rfl) (fun _ _ _ h=>h) (Or.inl ⟨by rfl,?_⟩) hSS ?_
       rotate_left
       ·(intro y0 hy;have hk0:=hy.1;have hk1:=hy.2;go_simp;with_reducible rfl)
       try simp only [Act.put,List.setIfInBounds_toArray,List.set_cons_succ,List.set_cons_zero]
       refine takeL 5 (v:=?_) rfl (some 36) rfl (by decide) (by kernel_rfl) (by kernel_rfl) (by kernel_rfl) (by kernel_rfl) (fun _ _ _ h=>h) (Or.inl ⟨by rfl,?_⟩) hSS ?_
       rotate_left
       ·(intro y0 hy;go_simp;with_reducible rfl)
       try simp only [Act.put,List.setIfInBounds_toArray,List.set_cons_succ,List.set_cons_zero]
       refine takeL 6 (v:=?_) rfl (some 37) rfl (by decide) (by kernel_rfl) (by kernel_rfl) (by kernel_rfl) (by kernel_rfl) (fun _ _ _ h=>h) (Or.inl ⟨by rfl,?_⟩) hSS ?_
       rotate_left
       ·(intro y0 hy;go_simp;with_reducible rfl)
       try simp only [Act.put,List.setIfInBounds_toArray,List.set_cons_succ,List.set_cons_zero]
       refine takeL 7 (v:=?_) rfl (some 38) rfl (by decide) (by kernel_rfl) (by kernel_rfl) (by kernel_rfl) (by kernel_rfl) (fun _ _ _ h=>h) (Or.inl ⟨by rfl,?_⟩) hSS ?_
       rotate_left
       ·(intro y0 hy;go_simp;with_reducible rfl)
       try simp only [Act.put,List.setIfInBounds_toArray,List.set_cons_succ,List.set_cons_zero]
       refine takeL 8 (v:=?_) rfl (some 39) rfl (by decide) (by kernel_rfl) (by kernel_rfl) (by kernel_rfl) (by kernel_rfl) (fun _ _ _ h=>h) (Or.inl ⟨by rfl,?_⟩) hSS ?_
       rotate_left
       ·(intro y0 hy;have hk0:=hy.1;have hk1:=hy.2;go_simp;with_reducible rfl)
       try simp only [Act.put,List.setIfInBounds_toArray,List.set_cons_succ,List.set_cons_zero]
       refine takeL 9 (v:=?_) rfl (some 40) rfl (by decide) (by kernel_rfl) (by kernel_rfl) (by kernel_rfl) (by kernel_rfl) (fun _ _ _ h=>h) (Or.inl ⟨by rfl,?_⟩) hSS ?_
       rotate_left
       ·(intro y0 hy;go_simp;with_reducible rfl)
       try simp only [Act.put,List.setIfInBounds_toArray,List.set_cons_succ,List.set_cons_zero]
       refine takeL 10 (v:=?_) rfl (some 41) rfl (by decide) (by kernel_rfl) (by kernel_rfl) (by kernel_rfl) (by kernel_rfl) (fun _ _ _ h=>h) (Or.inl ⟨by rfl,?_⟩) hSS ?_
       rotate_left
       ·(intro y0 hy;go_simp;with_reducible rfl)
       try simp only [Act.put,List.setIfInBounds_toArray,List.set_cons_succ,List.set_cons_zero]
       refine takeL 11 (v:=?_) rfl (some 42) rfl (by decide) (by kernel_rfl) (by kernel_rfl) (by kernel_rfl) (by kernel_rfl) (fun _ _ _ h=>h) (Or.inl ⟨by rfl,?_⟩) hSS ?_
       rotate_left
       ·(intro y0 hy;go_simp;with_reducible rfl)
       try simp only [Act.put,List.setIfInBounds_toArray,List.set_cons_succ,List.set_cons_zero]
       refine takeL 12 (v:=?_) rfl (some 43) rfl (by decide) (by kernel_rfl) (by kernel_rfl) (by kernel_rfl) (by kernel_rfl) (fun _ _ _ h=>h) (Or.inl ⟨by rfl,?_⟩) hSS ?_
       rotate_left
       ·(intro y0 hy;go_simp;with_reducible rfl)
       try simp only [Act.put,List.setIfInBounds_toArray,List.set_cons_succ,List.set_cons_zero]
       refine takeL 13 (v:=?_) rfl (some 44) rfl (by decide) (by kernel_rfl) (by kernel_rfl) (by kernel_rfl) (by kernel_rfl) (fun _ _ _ h=>h) (Or.inl ⟨by rfl,?_⟩) hSS ?_
       rotate_left
       ·(intro y0 hy;have hk0:=hy.1;have hk1:=hy.2;go_simp;with_reducible rfl)
       try simp only [Act.put,List.setIfInBounds_toArray,List.set_cons_succ,List.set_cons_zero]
       refine takeL 14 (v:=?_) rfl (some 45) rfl (by decide) (by kernel_rfl) (by kernel_rfl) (by kernel_rfl) (by kernel_rfl) (fun _ _ _ h=>h) (Or.inl ⟨by rfl,?_⟩) hSS ?_
       rotate_left
       ·(intro y0 hy;go_simp;with_reducible rfl)
       try simp only [Act.put,List.setIfInBounds_toArray,List.set_cons_succ,List.set_cons_zero]
       refine takeL 15 (v:=?_) rfl (some 46) rfl (by decide) (by kernel_rfl) (by kernel_rfl) (by kernel_rfl) (by kernel_rfl) (fun _ _ _ h=>h) (Or.inl ⟨by rfl,?_⟩) hSS ?_
       rotate_left
       ·(intro y0 hy;go_simp;with_reducible rfl)
       try simp only [Act.put,List.setIfInBounds_toArray,List.set_cons_succ,List.set_cons_zero]
       refine takeL 16 (v:=?_) rfl (some 47) rfl (by decide) (by kernel_rfl) (by kernel_rfl) (by kernel_rfl) (by kernel_rfl) (fun _ _ _ h=>h) (Or.inl ⟨by rfl,?_⟩) hSS ?_
       rotate_left
       ·(intro y0 hy;go_simp;with_reducible rfl)
       try simp only [Act.put,List.setIfInBounds_toArray,List.set_cons_succ,List.set_cons_zero]
       refine takeL 17 (v:=?_) rfl (some 48) rfl (by decide) (by kernel_rfl) (by kernel_rfl) (by kernel_rfl) (by kernel_rfl) (fun _ _ _ h=>h) (Or.inl ⟨by rfl,?_⟩) hSS ?_
       rotate_left
       ·(intro y0 hy;have hk0:=hy.1;have hk1:=hy.2;go_simp;with_reducible rfl)
       try simp only [Act.put,List.setIfInBounds_toArray,List.set_cons_succ,List.set_cons_zero]
       refine takeL 18 (v:=?_) rfl (some 49) rfl (by decide) (by kernel_rfl) (by kernel_rfl) (by kernel_rfl) (by kernel_rfl) (fun _ _ _ h=>h) (Or.inl ⟨by rfl,?_⟩) hSS ?_
       rotate_left
       ·(intro y0 hy;go_simp;with_reducible rfl)
       try simp only [Act.put,List.setIfInBounds_toArray,List.set_cons_succ,List.set_cons_zero]
       refine readyL (rs:=[19]) (by kernel_rfl) (by simp) ?_
       refine ReadyL.cons rfl (fun KK hK=>?_) ReadyL.nil
       refine wantR (by rfl) ?_
       refine wpo_bsU2 29 32 2 16 _ (.agg #[.int .i64 x,.int .i64 y]) (.agg #[.int .i64 y,.int .i64 x]) (.tmp 40) (.tmp 49) rfl Tryz.underlying29 Tryz.info32 (by decide) (by decide) rfl [.int .i64 x,.int .i64 y] [.int .i64 y,.int .i64 x] rfl rfl rfl rfl rfl rfl ?_
       intro w7 hR7 hB7 hz7
       have hSS2:=HKP.out _ _ (below_le hB7 ZD.out) hSS
       have hOW:=hidP (own_sameR OD.out (fun q eq=>hB7.block q (OD.out.lt q eq).2))
       have hSR:=hidP (sou_row4 (p:=2) hR7)
       have HB7:=hidP (BD.out.trans (below_le hB7 ZD.out))
       have hz8:=hidP (Nat.le_trans ZD.out hB7.size)
       refine hK.out (Act.put _ (some 50) _) _ (fun _=>hSS2) (fun _=>?_)
       clear hK KK hSS hR7 hB7 hz7 OD BD ZD
       have hSS:=hSS2
       clear hSS2
       try simp only [Act.put,List.setIfInBounds_toArray,List.set_cons_succ,List.set_cons_zero]
       refine readyL (rs:=[20]) (by kernel_rfl) (by simp) ?_
       refine ReadyL.cons rfl (fun KK hK=>?_) ReadyL.nil
       refine wantR (by rfl) ?_
       refine wpo_appS (bz:=16) (.tmp 31) (.tmp 50) rfl Tryz.underlying29 Tryz.info32 rfl (by decide) rfl rfl hOW.out hz8.out hSR.out rfl (by intro u hu;simp at hu;rcases hu with rfl|rfl|rfl|rfl <;> rfl) (by have:=HA3.out;have:=HN5.out;omega) (by decide) ?_
       intro v9 w9 ho9 hg9
       have hb9:=grown_le hg9 hz8.out (fun k e=>(hOW.out.lt k e).1)
       have hSS2:=HKP.out _ _ hb9 hSS
       obtain ⟨a9,c9,rfl⟩:=own_slice ho9
       have HO9:=hidP ho9
       have HB9:=hidP (HB7.out.trans hb9)
       have HZ9:=hidP (Nat.le_trans hz8.out hb9.size)
       refine hK.out (Act.put _ (some 51) _) _ (fun _=>hSS2) (fun _=>?_)
       clear hK KK hSS hOW hSR HB7 hz8 ho9 hg9 hb9
       have hSS:=hSS2
       clear hSS2
       try simp only [Act.put,List.setIfInBounds_toArray,List.set_cons_succ,List.set_cons_zero]
       refine takeL 21 (v:=?_) rfl (some 5) rfl (by decide) (by kernel_rfl) (by kernel_rfl) (by kernel_rfl) (by kernel_rfl) (fun _ _ _ h=>h) (Or.inl ⟨by rfl,?_⟩) hSS ?_
       rotate_left
       ·(intro y0 hy;go_simp;with_reducible rfl)
       try simp only [Act.put,List.setIfInBounds_toArray,List.set_cons_succ,List.set_cons_zero]
       refine doneL (by kernel_rfl) ?_ _
       go_wp2_with fail
       go_roundg (gk - 1)
       case measure=>omega
       case rel =>
        refine ⟨i+1,acc2 ++ [(x,y),(y,x)],by omega,by go_num,by rw [HXN.out,HA2.out];rfl,?_,HB9.out⟩
        rw [List.length_append,pvs_app]
        exact HO9.out
      ·have hi2:i=na:=by omega
       subst hi2
       have HF:=hidP (show acc2=pairL true (ownR t) (ownR u) by
        rw [HA2.out]
        have:=HTK.out
        rw [← HNA.out,List.take_length]
        exact this)
       clear hlt hi HTK A6 A7 HA2
       go_wp2_with fail
       go_ret
       exact ⟨_,rfl,B4.out.trans (below_le HB2.out B4.out.size),by rw [HP.out,← HF.out];exact own_base HO2.out B4.out.size⟩
    ·by_cases k45:kd=4∨kd=5
     ·have hop:ownP false t u=pairL false (ownR t) (ownR u):=by rw [HOP.out,if_neg k3,if_pos k45]
      have HP0:=hidP hop
      have HLP:=hidP (show (pairL false (ownR t) (ownR u)).length<=40000 by
       have:=HLL.out
       rw [hop,List.length_append] at this
       omega)
      have HNT:=hidP (show nxtR t=t.elem.head? by rw [HNX.out,if_pos k45])
      have HNV:=hidP (show nxtR u=u.elem.head? by rw [HNU.out,if_pos k45])
      clear hop HNX HNU HOP k3
      rcases k45 with rfl|rfl
      ·go_wp2_with fail
       have HTK:=hidP (pairL_take (both:=false) (show (ownR t).length<=(ownR u).length by rw [HNA.out,HNB.out];exact Nat.le_refl _))
       have HN5:=hidP (show na<=40000 by
        have h1:=pairL_ge (both:=false) (show (ownR t).length<=(ownR u).length by rw [HNA.out,HNB.out];exact Nat.le_refl _)
        have:=HLP.out
        have:=HNA.out
        omega)
       clear y0
       go_loopg [5,9] na (fun r v5 vc wr=>∃ (i:Nat) (acc2:List (Int × Int)),i+r=na/\vc=.int .i64 (i:Int)/\acc2=pairL false ((ownR t).take i) ((ownR u).take i)/\wr.ownsRow w4.heap.size 32 2 v5 acc2.length (pvs acc2)/\Below w4.heap.size w4 wr)
       case atStart=>exact ⟨0,[],by omega,rfl,by simp [pairL],⟨rfl,.inl ⟨rfl,rfl⟩⟩,Below.refl _ _⟩
       case round =>
        obtain ⟨i,acc2,hi,rfl,ha2,ho2,hb2⟩:=hrel
        have HA2:=hidP ha2
        have HO2:=hidP ho2
        have HB2:=hidP hb2
        obtain ⟨aa2,pp2,rfl⟩:=own_slice ho2
        clear ha2 ho2 hb2
        by_cases hlt:i<na
        ·obtain ⟨b1,o1,rfl,hb1,hc1⟩:=A6.out i (by have:=HNA.out;omega)
         obtain ⟨b2,o2,rfl,hb2,hc2⟩:=A7.out i (by have:=HNB.out;omega)
         have HA3:=hidP (show acc2.length<=2 * i by
          rw [HA2.out]
          have:=pairL_len (both:=false) (l:=(ownR t).take i) (m:=(ownR u).take i)
          rw [List.length_take] at this
          omega)
         have HXN:=hidP (pairL_next (both:=false) (l:=ownR t) (m:=ownR u) (i:=i) (by have:=HNA.out;omega) (by have:=HNB.out;omega))
         generalize (ownR t).getD i 0=x at *
         generalize (ownR u).getD i 0=y at *
         have l1:(i:Int)<(na:Int):=by omega
         have hn9:na<=40000:=HN5.out
         have hk1:=hidP (show b1<w4.heap.size from Nat.lt_of_lt_of_le hb1 (Nat.le_trans HC.out B4.out.size))
         have hk2:=hidP (show b2<w4.heap.size from Nat.lt_of_lt_of_le hb2 (Nat.le_trans HC.out B4.out.size))
         have hS0:wr.drew.cell? ⟨b1,o1+i,none⟩=some (.int .i64 x)/\wr.drew.cell? ⟨b2,o2+i,none⟩=some (.int .i64 y):=⟨(HB2.out.drew.cell (p:=⟨b1,o1+i,none⟩) hk1.out).trans hc1,(HB2.out.drew.cell (p:=⟨b2,o2+i,none⟩) hk2.out).trans hc2⟩
         have HKP:=hidP (fun (y1 y2:World) (h:Below w4.heap.size y1 y2) (hs:y1.cell? ⟨b1,o1+i,none⟩=some (.int .i64 x)/\y1.cell? ⟨b2,o2+i,none⟩=some (.int .i64 y))=>show y2.cell? ⟨b1,o1+i,none⟩=some (.int .i64 x)/\y2.cell? ⟨b2,o2+i,none⟩=some (.int .i64 y) from ⟨(h.cell (p:=⟨b1,o1+i,none⟩) hk1.out).trans hs.1,(h.cell (p:=⟨b2,o2+i,none⟩) hk2.out).trans hs.2⟩)
         have OD:=hidP (own_sameR (w':=wr.drew) HO2.out (fun q eq=>rfl))
         have BD:=hidP (HB2.out.drew)
         have ZD:=hidP (show w4.heap.size<=wr.drew.heap.size from BD.out.size)
         clear hc1 hc2 hb1 hb2 HO2 HB2
         go_wp2_with fail
         refine beginL (fun y0=>y0.cell? ⟨b1,o1+i,none⟩=some (.int .i64 x)/\y0.cell? ⟨b2,o2+i,none⟩=some (.int .i64 y)) 13 (by kernel_rfl) hS0 (fun hSS=>?_)
         refine takeL 0 (v:=?_) rfl (some 61) rfl (by decide) (by kernel_rfl) (by kernel_rfl) (by kernel_rfl) (by kernel_rfl) (fun _ _ _ h=>h) (Or.inl ⟨by rfl,?_⟩) hSS ?_
         rotate_left
         ·(intro y0 hy;go_simp;with_reducible rfl)
         try simp only [Act.put,List.setIfInBounds_toArray,List.set_cons_succ,List.set_cons_zero]
         refine takeL 1 (v:=?_) rfl (some 62) rfl (by decide) (by kernel_rfl) (by kernel_rfl) (by kernel_rfl) (by kernel_rfl) (fun _ _ _ h=>h) (Or.inl ⟨by rfl,?_⟩) hSS ?_
         rotate_left
         ·(intro y0 hy;go_simp;with_reducible rfl)
         try simp only [Act.put,List.setIfInBounds_toArray,List.set_cons_succ,List.set_cons_zero]
         refine takeL 2 (v:=?_) rfl (some 63) rfl (by decide) (by kernel_rfl) (by kernel_rfl) (by kernel_rfl) (by kernel_rfl) (fun _ _ _ h=>h) (Or.inl ⟨by rfl,?_⟩) hSS ?_
         rotate_left
         ·(intro y0 hy;go_simp;with_reducible rfl)
         try simp only [Act.put,List.setIfInBounds_toArray,List.set_cons_succ,List.set_cons_zero]
         refine takeL 3 (v:=?_) rfl (some 64) rfl (by decide) (by kernel_rfl) (by kernel_rfl) (by kernel_rfl) (by kernel_rfl) (fun _ _ _ h=>h) (Or.inl ⟨by rfl,?_⟩) hSS ?_
         rotate_left
         ·(intro y0 hy;go_simp;with_reducible rfl)
         try simp only [Act.put,List.setIfInBounds_toArray,List.set_cons_succ,List.set_cons_zero]
         refine takeL 4 (v:=?_) rfl (some 65) rfl (by decide) (by kernel_rfl) (by kernel_rfl) (by kernel_rfl) (by kernel_rfl) (fun _ _ _ h=>h) (Or.inl ⟨by rfl,?_⟩) hSS ?_
         rotate_left
         ·(intro y0 hy;have hk0:=hy.1;have hk1:=hy.2;go_simp;with_reducible rfl)
         try simp only [Act.put,List.setIfInBounds_toArray,List.set_cons_succ,List.set_cons_zero]
         refine takeL 5 (v:=?_) rfl (some 66) rfl (by decide) (by kernel_rfl) (by kernel_rfl) (by kernel_rfl) (by kernel_rfl) (fun _ _ _ h=>h) (Or.inl ⟨by rfl,?_⟩) hSS ?_
         rotate_left
         ·(intro y0 hy;go_simp;with_reducible rfl)
         try simp only [Act.put,List.setIfInBounds_toArray,List.set_cons_succ,List.set_cons_zero]
         refine takeL 6 (v:=?_) rfl (some 67) rfl (by decide) (by kernel_rfl) (by kernel_rfl) (by kernel_rfl) (by kernel_rfl) (fun _ _ _ h=>h) (Or.inl ⟨by rfl,?_⟩) hSS ?_
         rotate_left
         ·(intro y0 hy;go_simp;with_reducible rfl)
         try simp only [Act.put,List.setIfInBounds_toArray,List.set_cons_succ,List.set_cons_zero]
         refine takeL 7 (v:=?_) rfl (some 68) rfl (by decide) (by kernel_rfl) (by kernel_rfl) (by kernel_rfl) (by kernel_rfl) (fun _ _ _ h=>h) (Or.inl ⟨by rfl,?_⟩) hSS ?_
         rotate_left
         ·(intro y0 hy;go_simp;with_reducible rfl)
         try simp only [Act.put,List.setIfInBounds_toArray,List.set_cons_succ,List.set_cons_zero]
         refine takeL 8 (v:=?_) rfl (some 69) rfl (by decide) (by kernel_rfl) (by kernel_rfl) (by kernel_rfl) (by kernel_rfl) (fun _ _ _ h=>h) (Or.inl ⟨by rfl,?_⟩) hSS ?_
         rotate_left
         ·(intro y0 hy;have hk0:=hy.1;have hk1:=hy.2;go_simp;with_reducible rfl)
         try simp only [Act.put,List.setIfInBounds_toArray,List.set_cons_succ,List.set_cons_zero]
         refine takeL 9 (v:=?_) rfl (some 70) rfl (by decide) (by kernel_rfl) (by kernel_rfl) (by kernel_rfl) (by kernel_rfl) (fun _ _ _ h=>h) (Or.inl ⟨by rfl,?_⟩) hSS ?_
         rotate_left
         ·(intro y0 hy;go_simp;with_reducible rfl)
         try simp only [Act.put,List.setIfInBounds_toArray,List.set_cons_succ,List.set_cons_zero]
         refine readyL (rs:=[10]) (by kernel_rfl) (by simp) ?_
         refine ReadyL.cons rfl (fun KK hK=>?_) ReadyL.nil
         refine wantR (by rfl) ?_
         refine wpo_bsU 29 32 2 16 _ (.agg #[.int .i64 x,.int .i64 y]) (.tmp 70) rfl Tryz.underlying29 Tryz.info32 (by decide) (by decide) rfl [.int .i64 x,.int .i64 y] rfl rfl rfl ?_
         intro w7 hR7 hB7 hz7
         have hSS2:=HKP.out _ _ (below_le hB7 ZD.out) hSS
         have hOW:=hidP (own_sameR OD.out (fun q eq=>hB7.block q (OD.out.lt q eq).2))
         have hSR:=hidP (sou_row2 (c:=1) hR7)
         have HB7:=hidP (BD.out.trans (below_le hB7 ZD.out))
         have hz8:=hidP (Nat.le_trans ZD.out hB7.size)
         refine hK.out (Act.put _ (some 71) _) _ (fun _=>hSS2) (fun _=>?_)
         clear hK KK hSS hR7 hB7 hz7 OD BD ZD
         have hSS:=hSS2
         clear hSS2
         try simp only [Act.put,List.setIfInBounds_toArray,List.set_cons_succ,List.set_cons_zero]
         refine readyL (rs:=[11]) (by kernel_rfl) (by simp) ?_
         refine ReadyL.cons rfl (fun KK hK=>?_) ReadyL.nil
         refine wantR (by rfl) ?_
         refine wpo_appS (bz:=16) (.tmp 61) (.tmp 71) rfl Tryz.underlying29 Tryz.info32 rfl (by decide) rfl rfl hOW.out hz8.out hSR.out rfl (by intro u hu;simp at hu;rcases hu with rfl|rfl <;> rfl) (by have:=HA3.out;have:=HN5.out;omega) (by decide) ?_
         intro v9 w9 ho9 hg9
         have hb9:=grown_le hg9 hz8.out (fun k e=>(hOW.out.lt k e).1)
         have hSS2:=HKP.out _ _ hb9 hSS
         obtain ⟨a9,c9,rfl⟩:=own_slice ho9
         have HO9:=hidP ho9
         have HB9:=hidP (HB7.out.trans hb9)
         have HZ9:=hidP (Nat.le_trans hz8.out hb9.size)
         refine hK.out (Act.put _ (some 72) _) _ (fun _=>hSS2) (fun _=>?_)
         clear hK KK hSS hOW hSR HB7 hz8 ho9 hg9 hb9
         have hSS:=hSS2
         clear hSS2
         try simp only [Act.put,List.setIfInBounds_toArray,List.set_cons_succ,List.set_cons_zero]
         refine takeL 12 (v:=?_) rfl (some 5) rfl (by decide) (by kernel_rfl) (by kernel_rfl) (by kernel_rfl) (by kernel_rfl) (fun _ _ _ h=>h) (Or.inl ⟨by rfl,?_⟩) hSS ?_
         rotate_left
         ·(intro y0 hy;go_simp;with_reducible rfl)
         try simp only [Act.put,List.setIfInBounds_toArray,List.set_cons_succ,List.set_cons_zero]
         refine doneL (by kernel_rfl) ?_ _
         go_wp2_with fail
         go_roundg (gk - 1)
         case measure=>omega
         case rel =>
          refine ⟨i+1,acc2 ++ [(x,y)],by omega,by go_num,by rw [HXN.out,HA2.out];rfl,?_,HB9.out⟩
          rw [List.length_append,pvs_app]
          exact HO9.out
        ·have hi2:i=na:=by omega
         subst hi2
         have HF:=hidP (show acc2=pairL false (ownR t) (ownR u) by
          rw [HA2.out]
          have:=HTK.out
          rw [← HNA.out,List.take_length]
          exact this)
         clear hlt hi HTK A6 A7 HA2
         have BW:=hidP (B4.out.trans (below_le HB2.out B4.out.size))
         have RA:=hidP (R04.out.below HB2.out R04.out.lt)
         have RB:=hidP (R14.out.below HB2.out R14.out.lt)
         have y0:=RA.out.cell 0
         have y3:=RA.out.cell 3
         simp only [List.getElem?_cons_zero,List.getElem?_cons_succ] at y0 y3
         clear R04 R14
         have hE12:=HE12.out
         subst hE12
         by_cases hne:n1=0
         ·subst hne
          have HP:=hidP (show subL (n+1) t u=acc2 by
           rw [HX.out,HP0.out,HNT.out,List.eq_nil_of_length_eq_zero HN1.out,HF.out]
           exact List.append_nil _)
          clear HX HP0 HNT HNV HSO IH AN BN HLL RA RB
          go_wp2_with fail
          go_ret
          exact ⟨_,rfl,BW.out,by rw [HP.out];exact own_base HO2.out B4.out.size⟩
         ·obtain ⟨e,te,hte⟩:∃ e te,t.elem=e :: te:=by
           rcases hl:t.elem with _|⟨e,te⟩
           ·have:=HN1.out;rw [hl] at this;exact absurd this.symm hne
           ·exact ⟨e,te,rfl⟩
          obtain ⟨f,tf,htf⟩:∃ f tf,u.elem=f :: tf:=by
           rcases hl:u.elem with _|⟨f,tf⟩
           ·have:=HN2.out;rw [hl] at this;exact absurd this.symm hne
           ·exact ⟨f,tf,rfl⟩
          have hx1:nxtR t=some e:=by rw [HNT.out,hte];rfl
          have hx2:nxtR u=some f:=by rw [HNV.out,htf];rfl
          have hsm:sameN n e f=true:=by have:=HSO.out;rw [hx1,hx2] at this;exact this
          have HSM:=hidP hsm
          have HXA:=hidP (show subL (n+1) t u=acc2 ++ askL n false e f by rw [HX.out,HP0.out,hx1,hx2,HF.out];rfl)
          have HLA:=hidP (show acc2.length+(askL n false e f).length<=40000 by
           have:=HLL.out
           rw [HP0.out,hx1,hx2,List.length_append,← HF.out] at this
           exact this)
          obtain ⟨e',he',b1,o1,rfl,hb1,c1,hl1,hc1,hp1⟩:=AN.out 0 (by have:=HN1.out;omega)
          rw [hte,List.getElem?_cons_zero] at he'
          cases he'
          obtain ⟨f',hf',b2,o2,rfl,hb2,c2,hl2,hc2,hp2⟩:=BN.out 0 (by have:=HN2.out;omega)
          rw [htf,List.getElem?_cons_zero] at hf'
          cases hf'
          rw [Nat.zero_mul,Nat.add_zero] at hc1 hc2
          obtain ⟨ca,cb,cc,cd,rfl⟩:=hp1.four
          obtain ⟨da,db,dc,dd,rfl⟩:=hp2.four
          have l0:(0:Int)<(n1:Int):=by omega
          have l1:¬ (n1:Int)=0:=by omega
          have l0n:0<n1:=by omega
          have RGE:=hidP (fun (y:World) (hy:Below w.heap.size w y)=>show y.rangeAt b1 o1 [ca,cb,cc,cd]/\y.rangeAt b2 o2 [da,db,dc,dd] from ⟨range_le hc1 hy (Nat.lt_of_lt_of_le hb1 HC.out),range_le hc2 hy (Nat.lt_of_lt_of_le hb2 HC.out)⟩)
          have HE1:=hidP (fun (y:World) (hy:Below w.heap.size w y)=>hp1.below (below_le hy HC.out))
          have HE2:=hidP (fun (y:World) (hy:Below w.heap.size w y)=>(hp2.of_same hsm).below (below_le hy HC.out))
          clear HX HP0 HNT HNV HSO AN BN HLL hte htf hx1 hx2 hsm hc1 hc2 hp1 hp2 hl1 hl2 hne HF HLP
          have hS0:Row wr.drew w.heap.size 25 [.int .i64 4,.string S0,.slice a2 r1 p2,.slice (some ⟨b1,o1,none⟩) n1 p3]/\Row wr.drew (w.heap.size+1) 25 [.int .i64 4,.string S1,.slice f2 r2 g2,.slice (some ⟨b2,o2,none⟩) n1 g3]/\wr.drew.rangeAt b1 o1 [ca,cb,cc,cd]/\wr.drew.rangeAt b2 o2 [da,db,dc,dd]:=⟨RA.out.drew,RB.out.drew,(RGE.out _ BW.out.drew).1,(RGE.out _ BW.out.drew).2⟩
          have BD:=hidP BW.out.drew
          have OD:=hidP (own_sameR (w':=wr.drew) HO2.out (fun q eq=>rfl))
          have ZD:=hidP (show w4.heap.size<=wr.drew.heap.size from HB2.out.size)
          clear RA RB BW HO2
          go_wp2_with fail
          refine beginL (fun y=>Row y w.heap.size 25 [.int .i64 4,.string S0,.slice a2 r1 p2,.slice (some ⟨b1,o1,none⟩) n1 p3]/\Row y (w.heap.size+1) 25 [.int .i64 4,.string S1,.slice f2 r2 g2,.slice (some ⟨b2,o2,none⟩) n1 g3]/\y.rangeAt b1 o1 [ca,cb,cc,cd]/\y.rangeAt b2 o2 [da,db,dc,dd]) 12 (by kernel_rfl) hS0 (fun hSS=>?_)
          refine takeL 0 (v:=?_) rfl (some 81) rfl (by decide) (by kernel_rfl) (by kernel_rfl) (by kernel_rfl) (by kernel_rfl) (fun _ _ _ h=>h) (Or.inl ⟨by rfl,?_⟩) hSS ?_
          rotate_left
          ·(intro y hy;go_simp;with_reducible rfl)
          try simp only [Act.put,List.setIfInBounds_toArray,List.set_cons_succ,List.set_cons_zero]
          refine takeL 1 (v:=?_) rfl (some 82) rfl (by decide) (by kernel_rfl) (by kernel_rfl) (by kernel_rfl) (by kernel_rfl) (fun _ _ _ h=>h) (Or.inl ⟨by rfl,?_⟩) hSS ?_
          rotate_left
          ·(intro y hy;go_simp;with_reducible rfl)
          try simp only [Act.put,List.setIfInBounds_toArray,List.set_cons_succ,List.set_cons_zero]
          refine takeL 2 (v:=?_) rfl (some 83) rfl (by decide) (by kernel_rfl) (by kernel_rfl) (by kernel_rfl) (by kernel_rfl) (fun _ _ _ h=>h) (Or.inl ⟨by rfl,?_⟩) hSS ?_
          rotate_left
          ·(intro y hy;obtain ⟨_,_,_,j3⟩:=hy.1.c4;obtain ⟨_,_,_,k3⟩:=hy.2.1.c4;obtain ⟨p0,p1,p2,p3⟩:=rg4 hy.2.2.1;obtain ⟨s0,s1,s2,s3⟩:=rg4 hy.2.2.2;go_simp;with_reducible rfl)
          try simp only [Act.put,List.setIfInBounds_toArray,List.set_cons_succ,List.set_cons_zero]
          refine takeL 3 (v:=?_) rfl (some 84) rfl (by decide) (by kernel_rfl) (by kernel_rfl) (by kernel_rfl) (by kernel_rfl) (fun _ _ _ h=>h) (Or.inl ⟨by rfl,?_⟩) hSS ?_
          rotate_left
          ·(intro y hy;go_simp;with_reducible rfl)
          try simp only [Act.put,List.setIfInBounds_toArray,List.set_cons_succ,List.set_cons_zero]
          refine takeL 4 (v:=?_) rfl (some 85) rfl (by decide) (by kernel_rfl) (by kernel_rfl) (by kernel_rfl) (by kernel_rfl) (fun _ _ _ h=>h) (Or.inl ⟨by rfl,?_⟩) hSS ?_
          rotate_left
          ·(intro y hy;obtain ⟨_,_,_,j3⟩:=hy.1.c4;obtain ⟨_,_,_,k3⟩:=hy.2.1.c4;obtain ⟨p0,p1,p2,p3⟩:=rg4 hy.2.2.1;obtain ⟨s0,s1,s2,s3⟩:=rg4 hy.2.2.2;go_simp;with_reducible rfl)
          try simp only [Act.put,List.setIfInBounds_toArray,List.set_cons_succ,List.set_cons_zero]
          refine takeL 5 (v:=?_) rfl (some 86) rfl (by decide) (by kernel_rfl) (by kernel_rfl) (by kernel_rfl) (by kernel_rfl) (fun _ _ _ h=>h) (Or.inl ⟨by rfl,?_⟩) hSS ?_
          rotate_left
          ·(intro y hy;go_simp;with_reducible rfl)
          try simp only [Act.put,List.setIfInBounds_toArray,List.set_cons_succ,List.set_cons_zero]
          refine takeL 6 (v:=?_) rfl (some 87) rfl (by decide) (by kernel_rfl) (by kernel_rfl) (by kernel_rfl) (by kernel_rfl) (fun _ _ _ h=>h) (Or.inl ⟨by rfl,?_⟩) hSS ?_
          rotate_left
          ·(intro y hy;obtain ⟨_,_,_,j3⟩:=hy.1.c4;obtain ⟨_,_,_,k3⟩:=hy.2.1.c4;obtain ⟨p0,p1,p2,p3⟩:=rg4 hy.2.2.1;obtain ⟨s0,s1,s2,s3⟩:=rg4 hy.2.2.2;go_simp;with_reducible rfl)
          try simp only [Act.put,List.setIfInBounds_toArray,List.set_cons_succ,List.set_cons_zero]
          refine takeL 7 (v:=?_) rfl (some 88) rfl (by decide) (by kernel_rfl) (by kernel_rfl) (by kernel_rfl) (by kernel_rfl) (fun _ _ _ h=>h) (Or.inl ⟨by rfl,?_⟩) hSS ?_
          rotate_left
          ·(intro y hy;go_simp;with_reducible rfl)
          try simp only [Act.put,List.setIfInBounds_toArray,List.set_cons_succ,List.set_cons_zero]
          refine takeL 8 (v:=?_) rfl (some 89) rfl (by decide) (by kernel_rfl) (by kernel_rfl) (by kernel_rfl) (by kernel_rfl) (fun _ _ _ h=>h) (Or.inl ⟨by rfl,?_⟩) hSS ?_
          rotate_left
          ·(intro y hy;obtain ⟨_,_,_,j3⟩:=hy.1.c4;obtain ⟨_,_,_,k3⟩:=hy.2.1.c4;obtain ⟨p0,p1,p2,p3⟩:=rg4 hy.2.2.1;obtain ⟨s0,s1,s2,s3⟩:=rg4 hy.2.2.2;go_simp;with_reducible rfl)
          try simp only [Act.put,List.setIfInBounds_toArray,List.set_cons_succ,List.set_cons_zero]
          refine readyL (rs:=[9]) (by kernel_rfl) (by simp) ?_
          refine ReadyL.cons rfl (fun KK hK=>?_) ReadyL.nil
          refine wantR (by rfl) ?_
          go_simp
          refine (IH.out _ BD.out _ _ e f n (HE1.out _ BD.out) (HE2.out _ BD.out) (fun _=>by have:=HLA.out;omega)).mono ?_
          rintro _ w6 ⟨v6,rfl,hb6,ho6⟩
          have hSS2:=(⟨hSS.1.below hb6 hSS.1.lt,hSS.2.1.below hb6 hSS.2.1.lt,range_le hSS.2.2.1 hb6 (World.block_lt_of_cell? _ _ (hSS.2.2.1 0 ca rfl)),range_le hSS.2.2.2 hb6 (World.block_lt_of_cell? _ _ (hSS.2.2.2 0 da rfl))⟩:Row w6 w.heap.size 25 [.int .i64 4,.string S0,.slice a2 r1 p2,.slice (some ⟨b1,o1,none⟩) n1 p3]/\Row w6 (w.heap.size+1) 25 [.int .i64 4,.string S1,.slice f2 r2 g2,.slice (some ⟨b2,o2,none⟩) n1 g3]/\w6.rangeAt b1 o1 [ca,cb,cc,cd]/\w6.rangeAt b2 o2 [da,db,dc,dd])
          have O6:=hidP (own_sameR OD.out (fun q eq=>hb6.block q (OD.out.lt q eq).2))
          have B6:=hidP (BD.out.trans (below_le hb6 BD.out.size))
          have Z6:=hidP (Nat.le_trans ZD.out hb6.size)
          have HSB:=hidP (show subL n e f=askL n false e f from if_pos HSM.out)
          rw [HSB.out] at ho6
          have S6:=hidP (own_souZ ho6)
          obtain ⟨a9,p9,rfl⟩:=own_slice ho6
          refine hK.out _ _ (fun _=>hSS2) (fun _=>?_)
          clear hK KK hSS hb6 ho6 OD BD ZD
          have hSS:=hSS2
          clear hSS2
          try simp only [Act.put,List.setIfInBounds_toArray,List.set_cons_succ,List.set_cons_zero]
          refine readyL (rs:=[10]) (by kernel_rfl) (by simp) ?_
          refine ReadyL.cons rfl (fun KK hK=>?_) ReadyL.nil
          refine wantR (by rfl) ?_
          refine wpo_appS (bz:=16) (.tmp 81) (.tmp 90) rfl Tryz.underlying29 Tryz.info32 rfl (by decide) rfl rfl O6.out Z6.out S6.out (pvs_len _) (pvs_ones _) (by have:=HLA.out;omega) (by decide) ?_
          intro v9 w9 ho9 hg9
          have hb9:=grown_le hg9 Z6.out (fun k e=>(O6.out.lt k e).1)
          have hSS2:=(⟨hSS.1.below hb9 (by have:=HZ4.out;omega),hSS.2.1.below hb9 (by have:=HZ4.out;omega),range_le hSS.2.2.1 hb9 (by have:=HC.out;have:=HZ4.out;omega),range_le hSS.2.2.2 hb9 (by have:=HC.out;have:=HZ4.out;omega)⟩:Row w9 w.heap.size 25 [.int .i64 4,.string S0,.slice a2 r1 p2,.slice (some ⟨b1,o1,none⟩) n1 p3]/\Row w9 (w.heap.size+1) 25 [.int .i64 4,.string S1,.slice f2 r2 g2,.slice (some ⟨b2,o2,none⟩) n1 g3]/\w9.rangeAt b1 o1 [ca,cb,cc,cd]/\w9.rangeAt b2 o2 [da,db,dc,dd])
          obtain ⟨a10,c10,rfl⟩:=own_slice ho9
          have HO9:=hidP (own_base ho9 B4.out.size)
          have HB9:=hidP (B6.out.trans (below_le hb9 B4.out.size))
          refine hK.out (Act.put _ (some 91) _) _ (fun _=>hSS2) (fun _=>?_)
          clear hK KK hSS O6 Z6 S6 B6 ho9 hg9 hb9
          have hSS:=hSS2
          clear hSS2
          try simp only [Act.put,List.setIfInBounds_toArray,List.set_cons_succ,List.set_cons_zero]
          refine takeL 11 (v:=?_) rfl (some 4) rfl (by decide) (by kernel_rfl) (by kernel_rfl) (by kernel_rfl) (by kernel_rfl) (fun _ _ _ h=>h) (Or.inl ⟨by rfl,?_⟩) hSS ?_
          rotate_left
          ·(intro y hy;go_simp;with_reducible rfl)
          try simp only [Act.put,List.setIfInBounds_toArray,List.set_cons_succ,List.set_cons_zero]
          refine doneL (by kernel_rfl) ?_ _
          go_wp2_with fail
          go_ret
          exact ⟨_,rfl,HB9.out,by rw [HXA.out,List.length_append,pvs_app];exact HO9.out⟩
      ·go_wp2_with fail
       have HTK:=hidP (pairL_take (both:=false) (show (ownR t).length<=(ownR u).length by rw [HNA.out,HNB.out];exact Nat.le_refl _))
       have HN5:=hidP (show na<=40000 by
        have h1:=pairL_ge (both:=false) (show (ownR t).length<=(ownR u).length by rw [HNA.out,HNB.out];exact Nat.le_refl _)
        have:=HLP.out
        have:=HNA.out
        omega)
       clear y0
       go_loopg [5,9] na (fun r v5 vc wr=>∃ (i:Nat) (acc2:List (Int × Int)),i+r=na/\vc=.int .i64 (i:Int)/\acc2=pairL false ((ownR t).take i) ((ownR u).take i)/\wr.ownsRow w4.heap.size 32 2 v5 acc2.length (pvs acc2)/\Below w4.heap.size w4 wr)
       case atStart=>exact ⟨0,[],by omega,rfl,by simp [pairL],⟨rfl,.inl ⟨rfl,rfl⟩⟩,Below.refl _ _⟩
       case round =>
        obtain ⟨i,acc2,hi,rfl,ha2,ho2,hb2⟩:=hrel
        have HA2:=hidP ha2
        have HO2:=hidP ho2
        have HB2:=hidP hb2
        obtain ⟨aa2,pp2,rfl⟩:=own_slice ho2
        clear ha2 ho2 hb2
        by_cases hlt:i<na
        ·obtain ⟨b1,o1,rfl,hb1,hc1⟩:=A6.out i (by have:=HNA.out;omega)
         obtain ⟨b2,o2,rfl,hb2,hc2⟩:=A7.out i (by have:=HNB.out;omega)
         have HA3:=hidP (show acc2.length<=2 * i by
          rw [HA2.out]
          have:=pairL_len (both:=false) (l:=(ownR t).take i) (m:=(ownR u).take i)
          rw [List.length_take] at this
          omega)
         have HXN:=hidP (pairL_next (both:=false) (l:=ownR t) (m:=ownR u) (i:=i) (by have:=HNA.out;omega) (by have:=HNB.out;omega))
         generalize (ownR t).getD i 0=x at *
         generalize (ownR u).getD i 0=y at *
         have l1:(i:Int)<(na:Int):=by omega
         have hn9:na<=40000:=HN5.out
         have hk1:=hidP (show b1<w4.heap.size from Nat.lt_of_lt_of_le hb1 (Nat.le_trans HC.out B4.out.size))
         have hk2:=hidP (show b2<w4.heap.size from Nat.lt_of_lt_of_le hb2 (Nat.le_trans HC.out B4.out.size))
         have hS0:wr.drew.cell? ⟨b1,o1+i,none⟩=some (.int .i64 x)/\wr.drew.cell? ⟨b2,o2+i,none⟩=some (.int .i64 y):=⟨(HB2.out.drew.cell (p:=⟨b1,o1+i,none⟩) hk1.out).trans hc1,(HB2.out.drew.cell (p:=⟨b2,o2+i,none⟩) hk2.out).trans hc2⟩
         have HKP:=hidP (fun (y1 y2:World) (h:Below w4.heap.size y1 y2) (hs:y1.cell? ⟨b1,o1+i,none⟩=some (.int .i64 x)/\y1.cell? ⟨b2,o2+i,none⟩=some (.int .i64 y))=>show y2.cell? ⟨b1,o1+i,none⟩=some (.int .i64 x)/\y2.cell? ⟨b2,o2+i,none⟩=some (.int .i64 y) from ⟨(h.cell (p:=⟨b1,o1+i,none⟩) hk1.out).trans hs.1,(h.cell (p:=⟨b2,o2+i,none⟩) hk2.out).trans hs.2⟩)
         have OD:=hidP (own_sameR (w':=wr.drew) HO2.out (fun q eq=>rfl))
         have BD:=hidP (HB2.out.drew)
         have ZD:=hidP (show w4.heap.size<=wr.drew.heap.size from BD.out.size)
         clear hc1 hc2 hb1 hb2 HO2 HB2
         go_wp2_with fail
         refine beginL (fun y0=>y0.cell? ⟨b1,o1+i,none⟩=some (.int .i64 x)/\y0.cell? ⟨b2,o2+i,none⟩=some (.int .i64 y)) 13 (by kernel_rfl) hS0 (fun hSS=>?_)
         refine takeL 0 (v:=?_) rfl (some 61) rfl (by decide) (by kernel_rfl) (by kernel_rfl) (by kernel_rfl) (by kernel_rfl) (fun _ _ _ h=>h) (Or.inl ⟨by rfl,?_⟩) hSS ?_
         rotate_left
         ·(intro y0 hy;go_simp;with_reducible rfl)
         try simp only [Act.put,List.setIfInBounds_toArray,List.set_cons_succ,List.set_cons_zero]
         refine takeL 1 (v:=?_) rfl (some 62) rfl (by decide) (by kernel_rfl) (by kernel_rfl) (by kernel_rfl) (by kernel_rfl) (fun _ _ _ h=>h) (Or.inl ⟨by rfl,?_⟩) hSS ?_
         rotate_left
         ·(intro y0 hy;go_simp;with_reducible rfl)
         try simp only [Act.put,List.setIfInBounds_toArray,List.set_cons_succ,List.set_cons_zero]
         refine takeL 2 (v:=?_) rfl (some 63) rfl (by decide) (by kernel_rfl) (by kernel_rfl) (by kernel_rfl) (by kernel_rfl) (fun _ _ _ h=>h) (Or.inl ⟨by rfl,?_⟩) hSS ?_
         rotate_left
         ·(intro y0 hy;go_simp;with_reducible rfl)
         try simp only [Act.put,List.setIfInBounds_toArray,List.set_cons_succ,List.set_cons_zero]
         refine takeL 3 (v:=?_) rfl (some 64) rfl (by decide) (by kernel_rfl) (by kernel_rfl) (by kernel_rfl) (by kernel_rfl) (fun _ _ _ h=>h) (Or.inl ⟨by rfl,?_⟩) hSS ?_
         rotate_left
         ·(intro y0 hy;go_simp;with_reducible rfl)
         try simp only [Act.put,List.setIfInBounds_toArray,List.set_cons_succ,List.set_cons_zero]
         refine takeL 4 (v:=?_) rfl (some 65) rfl (by decide) (by kernel_rfl) (by kernel_rfl) (by kernel_rfl) (by kernel_rfl) (fun _ _ _ h=>h) (Or.inl ⟨by rfl,?_⟩) hSS ?_
         rotate_left
         ·(intro y0 hy;have hk0:=hy.1;have hk1:=hy.2;go_simp;with_reducible rfl)
         try simp only [Act.put,List.setIfInBounds_toArray,List.set_cons_succ,List.set_cons_zero]
         refine takeL 5 (v:=?_) rfl (some 66) rfl (by decide) (by kernel_rfl) (by kernel_rfl) (by kernel_rfl) (by kernel_rfl) (fun _ _ _ h=>h) (Or.inl ⟨by rfl,?_⟩) hSS ?_
         rotate_left
         ·(intro y0 hy;go_simp;with_reducible rfl)
         try simp only [Act.put,List.setIfInBounds_toArray,List.set_cons_succ,List.set_cons_zero]
         refine takeL 6 (v:=?_) rfl (some 67) rfl (by decide) (by kernel_rfl) (by kernel_rfl) (by kernel_rfl) (by kernel_rfl) (fun _ _ _ h=>h) (Or.inl ⟨by rfl,?_⟩) hSS ?_
         rotate_left
         ·(intro y0 hy;go_simp;with_reducible rfl)
         try simp only [Act.put,List.setIfInBounds_toArray,List.set_cons_succ,List.set_cons_zero]
         refine takeL 7 (v:=?_) rfl (some 68) rfl (by decide) (by kernel_rfl) (by kernel_rfl) (by kernel_rfl) (by kernel_rfl) (fun _ _ _ h=>h) (Or.inl ⟨by rfl,?_⟩) hSS ?_
         rotate_left
         ·(intro y0 hy;go_simp;with_reducible rfl)
         try simp only [Act.put,List.setIfInBounds_toArray,List.set_cons_succ,List.set_cons_zero]
         refine takeL 8 (v:=?_) rfl (some 69) rfl (by decide) (by kernel_rfl) (by kernel_rfl) (by kernel_rfl) (by kernel_rfl) (fun _ _ _ h=>h) (Or.inl ⟨by rfl,?_⟩) hSS ?_
         rotate_left
         ·(intro y0 hy;have hk0:=hy.1;have hk1:=hy.2;go_simp;with_reducible rfl)
         try simp only [Act.put,List.setIfInBounds_toArray,List.set_cons_succ,List.set_cons_zero]
         refine takeL 9 (v:=?_) rfl (some 70) rfl (by decide) (by kernel_rfl) (by kernel_rfl) (by kernel_rfl) (by kernel_rfl) (fun _ _ _ h=>h) (Or.inl ⟨by rfl,?_⟩) hSS ?_
         rotate_left
         ·(intro y0 hy;go_simp;with_reducible rfl)
         try simp only [Act.put,List.setIfInBounds_toArray,List.set_cons_succ,List.set_cons_zero]
         refine readyL (rs:=[10]) (by kernel_rfl) (by simp) ?_
         refine ReadyL.cons rfl (fun KK hK=>?_) ReadyL.nil
         refine wantR (by rfl) ?_
         refine wpo_bsU 29 32 2 16 _ (.agg #[.int .i64 x,.int .i64 y]) (.tmp 70) rfl Tryz.underlying29 Tryz.info32 (by decide) (by decide) rfl [.int .i64 x,.int .i64 y] rfl rfl rfl ?_
         intro w7 hR7 hB7 hz7
         have hSS2:=HKP.out _ _ (below_le hB7 ZD.out) hSS
         have hOW:=hidP (own_sameR OD.out (fun q eq=>hB7.block q (OD.out.lt q eq).2))
         have hSR:=hidP (sou_row2 (c:=1) hR7)
         have HB7:=hidP (BD.out.trans (below_le hB7 ZD.out))
         have hz8:=hidP (Nat.le_trans ZD.out hB7.size)
         refine hK.out (Act.put _ (some 71) _) _ (fun _=>hSS2) (fun _=>?_)
         clear hK KK hSS hR7 hB7 hz7 OD BD ZD
         have hSS:=hSS2
         clear hSS2
         try simp only [Act.put,List.setIfInBounds_toArray,List.set_cons_succ,List.set_cons_zero]
         refine readyL (rs:=[11]) (by kernel_rfl) (by simp) ?_
         refine ReadyL.cons rfl (fun KK hK=>?_) ReadyL.nil
         refine wantR (by rfl) ?_
         refine wpo_appS (bz:=16) (.tmp 61) (.tmp 71) rfl Tryz.underlying29 Tryz.info32 rfl (by decide) rfl rfl hOW.out hz8.out hSR.out rfl (by intro u hu;simp at hu;rcases hu with rfl|rfl <;> rfl) (by have:=HA3.out;have:=HN5.out;omega) (by decide) ?_
         intro v9 w9 ho9 hg9
         have hb9:=grown_le hg9 hz8.out (fun k e=>(hOW.out.lt k e).1)
         have hSS2:=HKP.out _ _ hb9 hSS
         obtain ⟨a9,c9,rfl⟩:=own_slice ho9
         have HO9:=hidP ho9
         have HB9:=hidP (HB7.out.trans hb9)
         have HZ9:=hidP (Nat.le_trans hz8.out hb9.size)
         refine hK.out (Act.put _ (some 72) _) _ (fun _=>hSS2) (fun _=>?_)
         clear hK KK hSS hOW hSR HB7 hz8 ho9 hg9 hb9
         have hSS:=hSS2
         clear hSS2
         try simp only [Act.put,List.setIfInBounds_toArray,List.set_cons_succ,List.set_cons_zero]
         refine takeL 12 (v:=?_) rfl (some 5) rfl (by decide) (by kernel_rfl) (by kernel_rfl) (by kernel_rfl) (by kernel_rfl) (fun _ _ _ h=>h) (Or.inl ⟨by rfl,?_⟩) hSS ?_
         rotate_left
         ·(intro y0 hy;go_simp;with_reducible rfl)
         try simp only [Act.put,List.setIfInBounds_toArray,List.set_cons_succ,List.set_cons_zero]
         refine doneL (by kernel_rfl) ?_ _
         go_wp2_with fail
         go_roundg (gk - 1)
         case measure=>omega
         case rel =>
          refine ⟨i+1,acc2 ++ [(x,y)],by omega,by go_num,by rw [HXN.out,HA2.out];rfl,?_,HB9.out⟩
          rw [List.length_append,pvs_app]
          exact HO9.out
        ·have hi2:i=na:=by omega
         subst hi2
         have HF:=hidP (show acc2=pairL false (ownR t) (ownR u) by
          rw [HA2.out]
          have:=HTK.out
          rw [← HNA.out,List.take_length]
          exact this)
         clear hlt hi HTK A6 A7 HA2
         have BW:=hidP (B4.out.trans (below_le HB2.out B4.out.size))
         have RA:=hidP (R04.out.below HB2.out R04.out.lt)
         have RB:=hidP (R14.out.below HB2.out R14.out.lt)
         have y0:=RA.out.cell 0
         have y3:=RA.out.cell 3
         simp only [List.getElem?_cons_zero,List.getElem?_cons_succ] at y0 y3
         clear R04 R14
         have hE12:=HE12.out
         subst hE12
         by_cases hne:n1=0
         ·subst hne
          have HP:=hidP (show subL (n+1) t u=acc2 by
           rw [HX.out,HP0.out,HNT.out,List.eq_nil_of_length_eq_zero HN1.out,HF.out]
           exact List.append_nil _)
          clear HX HP0 HNT HNV HSO IH AN BN HLL RA RB
          go_wp2_with fail
          go_ret
          exact ⟨_,rfl,BW.out,by rw [HP.out];exact own_base HO2.out B4.out.size⟩
         ·obtain ⟨e,te,hte⟩:∃ e te,t.elem=e :: te:=by
           rcases hl:t.elem with _|⟨e,te⟩
           ·have:=HN1.out;rw [hl] at this;exact absurd this.symm hne
           ·exact ⟨e,te,rfl⟩
          obtain ⟨f,tf,htf⟩:∃ f tf,u.elem=f :: tf:=by
           rcases hl:u.elem with _|⟨f,tf⟩
           ·have:=HN2.out;rw [hl] at this;exact absurd this.symm hne
           ·exact ⟨f,tf,rfl⟩
          have hx1:nxtR t=some e:=by rw [HNT.out,hte];rfl
          have hx2:nxtR u=some f:=by rw [HNV.out,htf];rfl
          have hsm:sameN n e f=true:=by have:=HSO.out;rw [hx1,hx2] at this;exact this
          have HSM:=hidP hsm
          have HXA:=hidP (show subL (n+1) t u=acc2 ++ askL n true e f by rw [HX.out,HP0.out,hx1,hx2,HF.out];rfl)
          have HLA:=hidP (show acc2.length+(askL n true e f).length<=40000 by
           have:=HLL.out
           rw [HP0.out,hx1,hx2,List.length_append,← HF.out] at this
           exact this)
          obtain ⟨e',he',b1,o1,rfl,hb1,c1,hl1,hc1,hp1⟩:=AN.out 0 (by have:=HN1.out;omega)
          rw [hte,List.getElem?_cons_zero] at he'
          cases he'
          obtain ⟨f',hf',b2,o2,rfl,hb2,c2,hl2,hc2,hp2⟩:=BN.out 0 (by have:=HN2.out;omega)
          rw [htf,List.getElem?_cons_zero] at hf'
          cases hf'
          rw [Nat.zero_mul,Nat.add_zero] at hc1 hc2
          obtain ⟨ca,cb,cc,cd,rfl⟩:=hp1.four
          obtain ⟨da,db,dc,dd,rfl⟩:=hp2.four
          have l0:(0:Int)<(n1:Int):=by omega
          have l1:¬ (n1:Int)=0:=by omega
          have l0n:0<n1:=by omega
          have RGE:=hidP (fun (y:World) (hy:Below w.heap.size w y)=>show y.rangeAt b1 o1 [ca,cb,cc,cd]/\y.rangeAt b2 o2 [da,db,dc,dd] from ⟨range_le hc1 hy (Nat.lt_of_lt_of_le hb1 HC.out),range_le hc2 hy (Nat.lt_of_lt_of_le hb2 HC.out)⟩)
          have HE1:=hidP (fun (y:World) (hy:Below w.heap.size w y)=>hp1.below (below_le hy HC.out))
          have HE2:=hidP (fun (y:World) (hy:Below w.heap.size w y)=>(hp2.of_same hsm).below (below_le hy HC.out))
          clear HX HP0 HNT HNV HSO AN BN HLL hte htf hx1 hx2 hsm hc1 hc2 hp1 hp2 hl1 hl2 hne HF HLP
          have hS0:Row wr.drew w.heap.size 25 [.int .i64 5,.string S0,.slice a2 r1 p2,.slice (some ⟨b1,o1,none⟩) n1 p3]/\Row wr.drew (w.heap.size+1) 25 [.int .i64 5,.string S1,.slice f2 r2 g2,.slice (some ⟨b2,o2,none⟩) n1 g3]/\wr.drew.rangeAt b1 o1 [ca,cb,cc,cd]/\wr.drew.rangeAt b2 o2 [da,db,dc,dd]:=⟨RA.out.drew,RB.out.drew,(RGE.out _ BW.out.drew).1,(RGE.out _ BW.out.drew).2⟩
          have BD:=hidP BW.out.drew
          have OD:=hidP (own_sameR (w':=wr.drew) HO2.out (fun q eq=>rfl))
          have ZD:=hidP (show w4.heap.size<=wr.drew.heap.size from HB2.out.size)
          clear RA RB OD
          have HSL:=hidP (show (regL n e).length=(regL n f).length from regL_same HSM.out)
          have HAT:=hidP (ask_true HSM.out)
          have HLE:=hidP (show (regL n e).length<=50000 by
           have h1:=pairL_ge (both:=true) (Nat.le_of_eq HSL.out)
           rw [← HAT.out] at h1
           have:=HLA.out
           omega)
          have HLF:=hidP (show (regL n f).length<=50000 by have:=HSL.out;have:=HLE.out;omega)
          go_wp2_with fail
          refine region_cutV (A:=?_) (F:=fun va vb w'=>w'.ownsRow wr.heap.size 3 1 va (regL n e).length (iv (regL n e))/\w'.ownsRow wr.heap.size 3 1 vb (regL n f).length (iv (regL n f))/\Below wr.heap.size wr w') ?_ ?_
          rotate_left
          ·have BX:=hidP (show Below wr.heap.size wr wr.drew from (Below.refl _ _).drew)
           refine beginL (fun y=>Row y w.heap.size 25 [.int .i64 5,.string S0,.slice a2 r1 p2,.slice (some ⟨b1,o1,none⟩) n1 p3]/\Row y (w.heap.size+1) 25 [.int .i64 5,.string S1,.slice f2 r2 g2,.slice (some ⟨b2,o2,none⟩) n1 g3]/\y.rangeAt b1 o1 [ca,cb,cc,cd]/\y.rangeAt b2 o2 [da,db,dc,dd]) 12 (by kernel_rfl) hS0 (fun hSS=>?_)
           refine takeL 0 (v:=?_) rfl (some 92) rfl (by decide) (by kernel_rfl) (by kernel_rfl) (by kernel_rfl) (by kernel_rfl) (fun _ _ _ h=>by obtain ⟨_,_,h,_⟩:=h;cases h) (Or.inl ⟨by rfl,?_⟩) hSS ?_
           rotate_left
           ·(intro y hy;go_simp;with_reducible rfl)
           try simp only [Act.put,List.setIfInBounds_toArray,List.set_cons_succ,List.set_cons_zero]
           refine takeL 1 (v:=?_) rfl (some 93) rfl (by decide) (by kernel_rfl) (by kernel_rfl) (by kernel_rfl) (by kernel_rfl) (fun _ _ _ h=>by obtain ⟨_,_,h,_⟩:=h;cases h) (Or.inl ⟨by rfl,?_⟩) hSS ?_
           rotate_left
           ·(intro y hy;obtain ⟨_,_,_,j3⟩:=hy.1.c4;obtain ⟨_,_,_,k3⟩:=hy.2.1.c4;obtain ⟨p0,p1,p2,p3⟩:=rg4 hy.2.2.1;obtain ⟨s0,s1,s2,s3⟩:=rg4 hy.2.2.2;go_simp;with_reducible rfl)
           try simp only [Act.put,List.setIfInBounds_toArray,List.set_cons_succ,List.set_cons_zero]
           refine takeL 2 (v:=?_) rfl (some 94) rfl (by decide) (by kernel_rfl) (by kernel_rfl) (by kernel_rfl) (by kernel_rfl) (fun _ _ _ h=>by obtain ⟨_,_,h,_⟩:=h;cases h) (Or.inl ⟨by rfl,?_⟩) hSS ?_
           rotate_left
           ·(intro y hy;go_simp;with_reducible rfl)
           try simp only [Act.put,List.setIfInBounds_toArray,List.set_cons_succ,List.set_cons_zero]
           refine takeL 3 (v:=?_) rfl (some 95) rfl (by decide) (by kernel_rfl) (by kernel_rfl) (by kernel_rfl) (by kernel_rfl) (fun _ _ _ h=>by obtain ⟨_,_,h,_⟩:=h;cases h) (Or.inl ⟨by rfl,?_⟩) hSS ?_
           rotate_left
           ·(intro y hy;obtain ⟨_,_,_,j3⟩:=hy.1.c4;obtain ⟨_,_,_,k3⟩:=hy.2.1.c4;obtain ⟨p0,p1,p2,p3⟩:=rg4 hy.2.2.1;obtain ⟨s0,s1,s2,s3⟩:=rg4 hy.2.2.2;go_simp;with_reducible rfl)
           try simp only [Act.put,List.setIfInBounds_toArray,List.set_cons_succ,List.set_cons_zero]
           refine takeL 5 (v:=?_) rfl (some 97) rfl (by decide) (by kernel_rfl) (by kernel_rfl) (by kernel_rfl) (by kernel_rfl) (fun _ _ _ h=>by obtain ⟨_,_,h,_⟩:=h;cases h) (Or.inl ⟨by rfl,?_⟩) hSS ?_
           rotate_left
           ·(intro y hy;go_simp;with_reducible rfl)
           try simp only [Act.put,List.setIfInBounds_toArray,List.set_cons_succ,List.set_cons_zero]
           refine takeL 6 (v:=?_) rfl (some 98) rfl (by decide) (by kernel_rfl) (by kernel_rfl) (by kernel_rfl) (by kernel_rfl) (fun _ _ _ h=>by obtain ⟨_,_,h,_⟩:=h;cases h) (Or.inl ⟨by rfl,?_⟩) hSS ?_
           rotate_left
           ·(intro y hy;obtain ⟨_,_,_,j3⟩:=hy.1.c4;obtain ⟨_,_,_,k3⟩:=hy.2.1.c4;obtain ⟨p0,p1,p2,p3⟩:=rg4 hy.2.2.1;obtain ⟨s0,s1,s2,s3⟩:=rg4 hy.2.2.2;go_simp;with_reducible rfl)
           try simp only [Act.put,List.setIfInBounds_toArray,List.set_cons_succ,List.set_cons_zero]
           refine takeL 7 (v:=?_) rfl (some 99) rfl (by decide) (by kernel_rfl) (by kernel_rfl) (by kernel_rfl) (by kernel_rfl) (fun _ _ _ h=>by obtain ⟨_,_,h,_⟩:=h;cases h) (Or.inl ⟨by rfl,?_⟩) hSS ?_
           rotate_left
           ·(intro y hy;go_simp;with_reducible rfl)
           try simp only [Act.put,List.setIfInBounds_toArray,List.set_cons_succ,List.set_cons_zero]
           refine takeL 8 (v:=?_) rfl (some 100) rfl (by decide) (by kernel_rfl) (by kernel_rfl) (by kernel_rfl) (by kernel_rfl) (fun _ _ _ h=>by obtain ⟨_,_,h,_⟩:=h;cases h) (Or.inl ⟨by rfl,?_⟩) hSS ?_
           rotate_left
           ·(intro y hy;obtain ⟨_,_,_,j3⟩:=hy.1.c4;obtain ⟨_,_,_,k3⟩:=hy.2.1.c4;obtain ⟨p0,p1,p2,p3⟩:=rg4 hy.2.2.1;obtain ⟨s0,s1,s2,s3⟩:=rg4 hy.2.2.2;go_simp;with_reducible rfl)
           try simp only [Act.put,List.setIfInBounds_toArray,List.set_cons_succ,List.set_cons_zero]
           refine readyL (rs:=[4]) (by kernel_rfl) (by simp) ?_
           refine ReadyL.cons rfl (fun KK hK=>?_) ReadyL.nil
           refine wantR (by rfl) ?_
           go_simp
           refine (regions14 n (HE1.out wr.drew (BW.out.trans (below_le BX.out BW.out.size))) (Nat.le_trans HC.out (BW.out.trans (below_le BX.out BW.out.size)).size) HLE.out).mono ?_
           rintro _ wP ⟨va,rfl,hbz,hva⟩
           have hSS2:=(⟨hSS.1.below hbz hSS.1.lt,hSS.2.1.below hbz hSS.2.1.lt,range_le hSS.2.2.1 hbz (World.block_lt_of_cell? _ _ (hSS.2.2.1 0 ca rfl)),range_le hSS.2.2.2 hbz (World.block_lt_of_cell? _ _ (hSS.2.2.2 0 da rfl))⟩:Row wP w.heap.size 25 [.int .i64 5,.string S0,.slice a2 r1 p2,.slice (some ⟨b1,o1,none⟩) n1 p3]/\Row wP (w.heap.size+1) 25 [.int .i64 5,.string S1,.slice f2 r2 g2,.slice (some ⟨b2,o2,none⟩) n1 g3]/\wP.rangeAt b1 o1 [ca,cb,cc,cd]/\wP.rangeAt b2 o2 [da,db,dc,dd])
           have BX2:=hidP (BX.out.trans (below_le hbz BX.out.size))
           have Nva:=hidP (own_base hva (show wr.heap.size<=wr.drew.heap.size from BX.out.size))
           refine hK.out _ _ (fun _=>hSS2) (fun _=>?_)
           clear hK KK hSS BX hbz hva
           have hSS:=hSS2
           have BX:=BX2
           clear hSS2 BX2
           try simp only [Act.put,List.setIfInBounds_toArray,List.set_cons_succ,List.set_cons_zero]
           refine readyL (rs:=[9]) (by kernel_rfl) (by simp) ?_
           refine ReadyL.cons rfl (fun KK hK=>?_) ReadyL.nil
           refine wantR (by rfl) ?_
           go_simp
           refine (regions14 n (HE2.out wP (BW.out.trans (below_le BX.out BW.out.size))) (Nat.le_trans HC.out (BW.out.trans (below_le BX.out BW.out.size)).size) HLF.out).mono ?_
           rintro _ wQ ⟨vb,rfl,hbz,hvb⟩
           have hSS2:=(⟨hSS.1.below hbz hSS.1.lt,hSS.2.1.below hbz hSS.2.1.lt,range_le hSS.2.2.1 hbz (World.block_lt_of_cell? _ _ (hSS.2.2.1 0 ca rfl)),range_le hSS.2.2.2 hbz (World.block_lt_of_cell? _ _ (hSS.2.2.2 0 da rfl))⟩:Row wQ w.heap.size 25 [.int .i64 5,.string S0,.slice a2 r1 p2,.slice (some ⟨b1,o1,none⟩) n1 p3]/\Row wQ (w.heap.size+1) 25 [.int .i64 5,.string S1,.slice f2 r2 g2,.slice (some ⟨b2,o2,none⟩) n1 g3]/\wQ.rangeAt b1 o1 [ca,cb,cc,cd]/\wQ.rangeAt b2 o2 [da,db,dc,dd])
           have BX2:=hidP (BX.out.trans (below_le hbz BX.out.size))
           have Nvb:=hidP (own_base hvb (show wr.heap.size<=wP.heap.size from BX.out.size))
           have Nva2:=hidP (own_sameR Nva.out (fun q eq=>hbz.block q (Nva.out.lt q eq).2))
           clear Nva
           have Nva:=Nva2
           clear Nva2
           refine hK.out _ _ (fun _=>hSS2) (fun _=>?_)
           clear hK KK hSS BX hbz hvb
           have hSS:=hSS2
           have BX:=BX2
           clear hSS2 BX2
           try simp only [Act.put,List.setIfInBounds_toArray,List.set_cons_succ,List.set_cons_zero]
           refine takeL 10 (v:=?_) rfl (some 10) rfl (by decide) (by kernel_rfl) (by kernel_rfl) (by kernel_rfl) (by kernel_rfl) (fun _ _ _ h=>by obtain ⟨_,_,h,_⟩:=h;cases h) (Or.inl ⟨by rfl,?_⟩) hSS ?_
           rotate_left
           ·(intro y hy;go_simp;with_reducible rfl)
           try simp only [Act.put,List.setIfInBounds_toArray,List.set_cons_succ,List.set_cons_zero]
           refine takeL 11 (v:=?_) rfl (some 11) rfl (by decide) (by kernel_rfl) (by kernel_rfl) (by kernel_rfl) (by kernel_rfl) (fun _ _ _ h=>by obtain ⟨_,_,h,_⟩:=h;cases h) (Or.inl ⟨by rfl,?_⟩) hSS ?_
           rotate_left
           ·(intro y hy;go_simp;with_reducible rfl)
           try simp only [Act.put,List.setIfInBounds_toArray,List.set_cons_succ,List.set_cons_zero]
           refine doneL (by kernel_rfl) ?_ _
           refine ⟨va,vb,rfl,?_,Nva.out,Nvb.out,BX.out⟩
           with_reducible rfl
          ·rintro va vb w6 ⟨hva,hvb,hb6⟩
           have B6:=hidP (BW.out.trans (below_le hb6 BW.out.size))
           have O6:=hidP (own_sameR HO2.out (fun q eq=>hb6.block q (HO2.out.lt q eq).2))
           have NA:=hidP hva
           have NB:=hidP hvb
           obtain ⟨ax,px,rfl⟩:=own_slice hva
           obtain ⟨bx,qx,rfl⟩:=own_slice hvb
           have Z6:=hidP (show w4.heap.size<=w6.heap.size from Nat.le_trans HB2.out.size hb6.size)
           have HPA:=hidP (show acc2.length<=40000 by have:=HLA.out;omega)
           have HPR:=hidP (show subL (n+1) t u=acc2 ++ pairL true (regL n e) (regL n f) by rw [HXA.out,HAT.out])
           have HTK:=hidP (pairL_take (both:=true) (Nat.le_of_eq HSL.out))
           have HLG:=hidP (show acc2.length+2 * (regL n e).length<=80000 by
            have h1:=pairL_ge (both:=true) (Nat.le_of_eq HSL.out)
            rw [← HAT.out] at h1
            have:=HLA.out
            omega)
           clear hva hvb hb6 BD ZD hS0 HO2 HB2 BW RGE HE1 HE2 HXA HAT HLA IH
           generalize hnx:(regL n e).length=nx at *
           have HNX:=hidP hnx
           clear hnx
           generalize hny:(regL n f).length=ny at *
           have HNY:=hidP hny
           clear hny
           have hxy:=HSL.out
           subst hxy
           generalize wr=wL at *
           go_wp2_with fail
           generalize Value.agg #[.int .i64 5,.string S0,.slice a2 r1 p2,.slice (some ⟨b1,o1,none⟩) n1 p3]=z1
           generalize Value.agg #[.int .i64 5,.string S1,.slice f2 r2 g2,.slice (some ⟨b2,o2,none⟩) n1 g3]=z2
           generalize Value.agg #[ca,cb,cc,cd]=z3
           generalize Value.agg #[da,db,dc,dd]=z4
           generalize Value.slice a6 i p6=z5
           generalize Value.slice a7 i p7=z6
           generalize Value.pointer (some ⟨w.heap.size,0,none⟩)=z7
           generalize Value.pointer (some ⟨w.heap.size+1,0,none⟩)=z8
           generalize Value.pointer (some ⟨w.heap.size,3,none⟩)=z9
           generalize Value.pointer (some ⟨w.heap.size+1,3,none⟩)=z10
           generalize Value.slice (some ⟨b1,o1,none⟩) n1 p3=z11
           generalize Value.slice (some ⟨b2,o2,none⟩) n1 g3=z12
           generalize Value.pointer (some ⟨b1,o1,none⟩)=z13
           generalize Value.pointer (some ⟨b2,o2,none⟩)=z14
           generalize Value.int .i64 (n1:Int)=z15
           generalize Value.int .i64 (i:Int)=z16
           clear y0 y3 HSL HE12 HOL
           go_loopg [5,12] nx (fun r v5 vc wr2=>∃ (i:Nat) (acc3:List (Int × Int)),i+r=nx/\vc=.int .i64 (i:Int)/\acc3=acc2 ++ pairL true ((regL n e).take i) ((regL n f).take i)/\wr2.ownsRow w4.heap.size 32 2 v5 acc3.length (pvs acc3)/\Below w4.heap.size w6 wr2/\wr2.ownsRow wL.heap.size 3 1 (.slice ax nx px) nx (iv (regL n e))/\wr2.ownsRow wL.heap.size 3 1 (.slice bx nx qx) nx (iv (regL n f)))
           case atStart=>exact ⟨0,acc2,by omega,rfl,by simp [pairL],O6.out,Below.refl _ _,NA.out,NB.out⟩
           case round =>
            obtain ⟨i,acc3,hi,rfl,ha3,ho3,hb3,hxa,hxb⟩:=hrel
            clear O6 NA NB
            have HAC:=hidP ha3
            have HO3:=hidP ho3
            have HB3:=hidP hb3
            obtain ⟨aa3,pp3,rfl⟩:=own_slice ho3
            clear ha3 ho3 hb3
            by_cases hlt:i<nx
            ·obtain ⟨bA,pA,eA,hbA⟩:=own_some hxa (by omega)
             cases eA
             obtain ⟨bB,pB,eB,hbB⟩:=own_some hxb (by omega)
             cases eB
             have HA3:=hidP (show acc3.length<=acc2.length+2 * i by
              rw [HAC.out,List.length_append]
              have:=pairL_len (both:=true) (l:=(regL n e).take i) (m:=(regL n f).take i)
              rw [List.length_take] at this
              omega)
             have HXN:=hidP (pairL_next (both:=true) (l:=regL n e) (m:=regL n f) (i:=i) (by have:=HNX.out;omega) (by have:=HNY.out;omega))
             have c1:=own_cell hxa (i:=i) (by have:=HNX.out;omega)
             have c2:=own_cell hxb (i:=i) (by have:=HNY.out;omega)
             generalize hxx:(regL n e).getD i 0=x at *
             generalize hyy:(regL n f).getD i 0=y at *
             have EX:=hidP hxx
             have EY:=hidP hyy
             clear hxx hyy
             have l1:(i:Int)<(nx:Int):=by omega
             have hn9:nx<=50000:=HLE.out
             have hS1:wr.drew.cell? ⟨bA,i,none⟩=some (.int .i64 x)/\wr.drew.cell? ⟨bB,i,none⟩=some (.int .i64 y):=⟨c1,c2⟩
             have OD:=hidP (own_sameR (w':=wr.drew) HO3.out (fun q eq=>rfl))
             have XA:=hidP (own_sameR (w':=wr.drew) hxa (fun q eq=>rfl))
             have XB:=hidP (own_sameR (w':=wr.drew) hxb (fun q eq=>rfl))
             have BD:=hidP (HB3.out.drew)
             have ZD:=hidP (show w4.heap.size<=wr.drew.heap.size from Nat.le_trans Z6.out HB3.out.size)
             clear c1 c2 hxa hxb hbA hbB HO3 HB3
             go_wp2_with fail
             refine beginL (fun y0=>y0.cell? ⟨bA,i,none⟩=some (.int .i64 x)/\y0.cell? ⟨bB,i,none⟩=some (.int .i64 y)) 22 (by kernel_rfl) hS1 (fun hSS=>?_)
             refine takeL 0 (v:=?_) rfl (some 114) rfl (by decide) (by kernel_rfl) (by kernel_rfl) (by kernel_rfl) (by kernel_rfl) (fun _ _ _ h=>h) (Or.inl ⟨by rfl,?_⟩) hSS ?_
             rotate_left
             ·(intro y0 hy;go_simp;with_reducible rfl)
             try simp only [Act.put,List.setIfInBounds_toArray,List.set_cons_succ,List.set_cons_zero]
             refine takeL 1 (v:=?_) rfl (some 115) rfl (by decide) (by kernel_rfl) (by kernel_rfl) (by kernel_rfl) (by kernel_rfl) (fun _ _ _ h=>h) (Or.inl ⟨by rfl,?_⟩) hSS ?_
             rotate_left
             ·(intro y0 hy;go_simp;with_reducible rfl)
             try simp only [Act.put,List.setIfInBounds_toArray,List.set_cons_succ,List.set_cons_zero]
             refine takeL 2 (v:=?_) rfl (some 116) rfl (by decide) (by kernel_rfl) (by kernel_rfl) (by kernel_rfl) (by kernel_rfl) (fun _ _ _ h=>h) (Or.inl ⟨by rfl,?_⟩) hSS ?_
             rotate_left
             ·(intro y0 hy;go_simp;with_reducible rfl)
             try simp only [Act.put,List.setIfInBounds_toArray,List.set_cons_succ,List.set_cons_zero]
             refine takeL 3 (v:=?_) rfl (some 117) rfl (by decide) (by kernel_rfl) (by kernel_rfl) (by kernel_rfl) (by kernel_rfl) (fun _ _ _ h=>h) (Or.inl ⟨by rfl,?_⟩) hSS ?_
             rotate_left
             ·(intro y0 hy;go_simp;with_reducible rfl)
             try simp only [Act.put,List.setIfInBounds_toArray,List.set_cons_succ,List.set_cons_zero]
             refine takeL 4 (v:=?_) rfl (some 118) rfl (by decide) (by kernel_rfl) (by kernel_rfl) (by kernel_rfl) (by kernel_rfl) (fun _ _ _ h=>h) (Or.inl ⟨by rfl,?_⟩) hSS ?_
             rotate_left
             ·(intro y0 hy;have hk0:=hy.1;have hk1:=hy.2;go_simp;with_reducible rfl)
             try simp only [Act.put,List.setIfInBounds_toArray,List.set_cons_succ,List.set_cons_zero]
             refine takeL 5 (v:=?_) rfl (some 119) rfl (by decide) (by kernel_rfl) (by kernel_rfl) (by kernel_rfl) (by kernel_rfl) (fun _ _ _ h=>h) (Or.inl ⟨by rfl,?_⟩) hSS ?_
             rotate_left
             ·(intro y0 hy;go_simp;with_reducible rfl)
             try simp only [Act.put,List.setIfInBounds_toArray,List.set_cons_succ,List.set_cons_zero]
             refine takeL 6 (v:=?_) rfl (some 120) rfl (by decide) (by kernel_rfl) (by kernel_rfl) (by kernel_rfl) (by kernel_rfl) (fun _ _ _ h=>h) (Or.inl ⟨by rfl,?_⟩) hSS ?_
             rotate_left
             ·(intro y0 hy;go_simp;with_reducible rfl)
             try simp only [Act.put,List.setIfInBounds_toArray,List.set_cons_succ,List.set_cons_zero]
             refine takeL 7 (v:=?_) rfl (some 121) rfl (by decide) (by kernel_rfl) (by kernel_rfl) (by kernel_rfl) (by kernel_rfl) (fun _ _ _ h=>h) (Or.inl ⟨by rfl,?_⟩) hSS ?_
             rotate_left
             ·(intro y0 hy;go_simp;with_reducible rfl)
             try simp only [Act.put,List.setIfInBounds_toArray,List.set_cons_succ,List.set_cons_zero]
             refine takeL 8 (v:=?_) rfl (some 122) rfl (by decide) (by kernel_rfl) (by kernel_rfl) (by kernel_rfl) (by kernel_rfl) (fun _ _ _ h=>h) (Or.inl ⟨by rfl,?_⟩) hSS ?_
             rotate_left
             ·(intro y0 hy;have hk0:=hy.1;have hk1:=hy.2;go_simp;with_reducible rfl)
             try simp only [Act.put,List.setIfInBounds_toArray,List.set_cons_succ,List.set_cons_zero]
             refine takeL 9 (v:=?_) rfl (some 123) rfl (by decide) (by kernel_rfl) (by kernel_rfl) (by kernel_rfl) (by kernel_rfl) (fun _ _ _ h=>h) (Or.inl ⟨by rfl,?_⟩) hSS ?_
             rotate_left
             ·(intro y0 hy;go_simp;with_reducible rfl)
             try simp only [Act.put,List.setIfInBounds_toArray,List.set_cons_succ,List.set_cons_zero]
             refine takeL 10 (v:=?_) rfl (some 124) rfl (by decide) (by kernel_rfl) (by kernel_rfl) (by kernel_rfl) (by kernel_rfl) (fun _ _ _ h=>h) (Or.inl ⟨by rfl,?_⟩) hSS ?_
             rotate_left
             ·(intro y0 hy;go_simp;with_reducible rfl)
             try simp only [Act.put,List.setIfInBounds_toArray,List.set_cons_succ,List.set_cons_zero]
             refine takeL 11 (v:=?_) rfl (some 125) rfl (by decide) (by kernel_rfl) (by kernel_rfl) (by kernel_rfl) (by kernel_rfl) (fun _ _ _ h=>h) (Or.inl ⟨by rfl,?_⟩) hSS ?_
             rotate_left
             ·(intro y0 hy;go_simp;with_reducible rfl)
             try simp only [Act.put,List.setIfInBounds_toArray,List.set_cons_succ,List.set_cons_zero]
             refine takeL 12 (v:=?_) rfl (some 126) rfl (by decide) (by kernel_rfl) (by kernel_rfl) (by kernel_rfl) (by kernel_rfl) (fun _ _ _ h=>h) (Or.inl ⟨by rfl,?_⟩) hSS ?_
             rotate_left
             ·(intro y0 hy;go_simp;with_reducible rfl)
             try simp only [Act.put,List.setIfInBounds_toArray,List.set_cons_succ,List.set_cons_zero]
             refine takeL 13 (v:=?_) rfl (some 127) rfl (by decide) (by kernel_rfl) (by kernel_rfl) (by kernel_rfl) (by kernel_rfl) (fun _ _ _ h=>h) (Or.inl ⟨by rfl,?_⟩) hSS ?_
             rotate_left
             ·(intro y0 hy;have hk0:=hy.1;have hk1:=hy.2;go_simp;with_reducible rfl)
             try simp only [Act.put,List.setIfInBounds_toArray,List.set_cons_succ,List.set_cons_zero]
             refine takeL 14 (v:=?_) rfl (some 128) rfl (by decide) (by kernel_rfl) (by kernel_rfl) (by kernel_rfl) (by kernel_rfl) (fun _ _ _ h=>h) (Or.inl ⟨by rfl,?_⟩) hSS ?_
             rotate_left
             ·(intro y0 hy;go_simp;with_reducible rfl)
             try simp only [Act.put,List.setIfInBounds_toArray,List.set_cons_succ,List.set_cons_zero]
             refine takeL 15 (v:=?_) rfl (some 129) rfl (by decide) (by kernel_rfl) (by kernel_rfl) (by kernel_rfl) (by kernel_rfl) (fun _ _ _ h=>h) (Or.inl ⟨by rfl,?_⟩) hSS ?_
             rotate_left
             ·(intro y0 hy;go_simp;with_reducible rfl)
             try simp only [Act.put,List.setIfInBounds_toArray,List.set_cons_succ,List.set_cons_zero]
             refine takeL 16 (v:=?_) rfl (some 130) rfl (by decide) (by kernel_rfl) (by kernel_rfl) (by kernel_rfl) (by kernel_rfl) (fun _ _ _ h=>h) (Or.inl ⟨by rfl,?_⟩) hSS ?_
             rotate_left
             ·(intro y0 hy;go_simp;with_reducible rfl)
             try simp only [Act.put,List.setIfInBounds_toArray,List.set_cons_succ,List.set_cons_zero]
             refine takeL 17 (v:=?_) rfl (some 131) rfl (by decide) (by kernel_rfl) (by kernel_rfl) (by kernel_rfl) (by kernel_rfl) (fun _ _ _ h=>h) (Or.inl ⟨by rfl,?_⟩) hSS ?_
             rotate_left
             ·(intro y0 hy;have hk0:=hy.1;have hk1:=hy.2;go_simp;with_reducible rfl)
             try simp only [Act.put,List.setIfInBounds_toArray,List.set_cons_succ,List.set_cons_zero]
             refine takeL 18 (v:=?_) rfl (some 132) rfl (by decide) (by kernel_rfl) (by kernel_rfl) (by kernel_rfl) (by kernel_rfl) (fun _ _ _ h=>h) (Or.inl ⟨by rfl,?_⟩) hSS ?_
             rotate_left
             ·(intro y0 hy;go_simp;with_reducible rfl)
             try simp only [Act.put,List.setIfInBounds_toArray,List.set_cons_succ,List.set_cons_zero]
             refine readyL (rs:=[19]) (by kernel_rfl) (by simp) ?_
             refine ReadyL.cons rfl (fun KK hK=>?_) ReadyL.nil
             refine wantR (by rfl) ?_
             refine wpo_bsU2 29 32 2 16 _ (.agg #[.int .i64 x,.int .i64 y]) (.agg #[.int .i64 y,.int .i64 x]) (.tmp 123) (.tmp 132) rfl Tryz.underlying29 Tryz.info32 (by decide) (by decide) rfl [.int .i64 x,.int .i64 y] [.int .i64 y,.int .i64 x] rfl rfl rfl rfl rfl rfl ?_
             intro w7 hR7 hB7 hz7
             have hSS2:=(⟨(hB7.cell (p:=⟨bA,i,none⟩) (World.block_lt_of_cell? _ _ hSS.1)).trans hSS.1,(hB7.cell (p:=⟨bB,i,none⟩) (World.block_lt_of_cell? _ _ hSS.2)).trans hSS.2⟩:w7.cell? ⟨bA,i,none⟩=some (.int .i64 x)/\w7.cell? ⟨bB,i,none⟩=some (.int .i64 y))
             have hOW:=hidP (own_sameR OD.out (fun q eq=>hB7.block q (OD.out.lt q eq).2))
             have XA7:=hidP (own_sameR XA.out (fun q eq=>hB7.block q (XA.out.lt q eq).2))
             have XB7:=hidP (own_sameR XB.out (fun q eq=>hB7.block q (XB.out.lt q eq).2))
             have hSR:=hidP (sou_row4 (p:=2) hR7)
             have HB7:=hidP (BD.out.trans (below_le hB7 ZD.out))
             have hz8:=hidP (Nat.le_trans ZD.out hB7.size)
             refine hK.out (Act.put _ (some 133) _) _ (fun _=>hSS2) (fun _=>?_)
             clear hK KK hSS hR7 hB7 hz7 OD BD ZD XA XB
             have hSS:=hSS2
             clear hSS2
             try simp only [Act.put,List.setIfInBounds_toArray,List.set_cons_succ,List.set_cons_zero]
             refine readyL (rs:=[20]) (by kernel_rfl) (by simp) ?_
             refine ReadyL.cons rfl (fun KK hK=>?_) ReadyL.nil
             refine wantR (by rfl) ?_
             refine wpo_appS (bz:=16) (.tmp 114) (.tmp 133) rfl Tryz.underlying29 Tryz.info32 rfl (by decide) rfl rfl hOW.out hz8.out hSR.out rfl (by intro u hu;simp at hu;rcases hu with rfl|rfl|rfl|rfl <;> rfl) (by have:=HA3.out;have:=HLG.out;omega) (by decide) ?_
             intro v9 w9 ho9 hg9
             have hb9:=grown_le hg9 hz8.out (fun k e=>(hOW.out.lt k e).1)
             have XA9:=hidP (own_sameR XA7.out (fun q eq=>hg9.block q (XA7.out.lt q eq).2 (own_types XA7.out hOW.out (by decide) eq)))
             have XB9:=hidP (own_sameR XB7.out (fun q eq=>hg9.block q (XB7.out.lt q eq).2 (own_types XB7.out hOW.out (by decide) eq)))
             have hSS2:=(⟨by rw [← EX.out];exact own_cell XA9.out (by have:=HNX.out;omega),by rw [← EY.out];exact own_cell XB9.out (by have:=HNY.out;omega)⟩:w9.cell? ⟨bA,i,none⟩=some (.int .i64 x)/\w9.cell? ⟨bB,i,none⟩=some (.int .i64 y))
             obtain ⟨a9,c9,rfl⟩:=own_slice ho9
             have HO9:=hidP ho9
             have HB9:=hidP (HB7.out.trans hb9)
             refine hK.out (Act.put _ (some 134) _) _ (fun _=>hSS2) (fun _=>?_)
             clear hK KK hSS hOW hSR HB7 hz8 ho9 hg9 hb9 XA7 XB7
             have hSS:=hSS2
             clear hSS2
             try simp only [Act.put,List.setIfInBounds_toArray,List.set_cons_succ,List.set_cons_zero]
             refine takeL 21 (v:=?_) rfl (some 5) rfl (by decide) (by kernel_rfl) (by kernel_rfl) (by kernel_rfl) (by kernel_rfl) (fun _ _ _ h=>h) (Or.inl ⟨by rfl,?_⟩) hSS ?_
             rotate_left
             ·(intro y0 hy;go_simp;with_reducible rfl)
             try simp only [Act.put,List.setIfInBounds_toArray,List.set_cons_succ,List.set_cons_zero]
             refine doneL (by kernel_rfl) ?_ _
             go_wp2_with fail
             go_roundg (gk - 1)
             case measure=>omega
             case rel =>
              refine ⟨i+1,acc3 ++ [(x,y),(y,x)],by omega,by go_num,by rw [HXN.out,HAC.out,List.append_assoc];rfl,?_,HB9.out,XA9.out,XB9.out⟩
              rw [List.length_append,pvs_app]
              exact HO9.out
            ·have hi2:i=nx:=by omega
             subst hi2
             have HF3:=hidP (show acc3=acc2 ++ pairL true (regL n e) (regL n f) by
              rw [HAC.out]
              congr 1
              have:=HTK.out
              have h1:=HNX.out
              rw [← h1,List.take_length,h1]
              exact this)
             clear hlt hxa hxb
             go_wp2_with fail
             go_ret
             exact ⟨_,rfl,B6.out.trans (below_le HB3.out B4.out.size),by rw [HPR.out,← HF3.out];exact own_base HO3.out B4.out.size⟩
     ·have HP:=hidP (show subL (n+1) t u=[] by
       rw [HX.out,HNX.out,if_neg k45,HOP.out,if_neg k3,if_neg k45]
       rfl)
      have e3:(kd == 3)=false:=by simpa using k3
      have e4:(kd == 4)=false:=by simp;omega
      have e5:(kd == 5)=false:=by simp;omega
      clear HX HLL HNX HNU HOP HSO IH AN BN HE12 HN1 HN2 k3 k45
      go_wp2_with fail
      go_ret
      exact ⟨_,rfl,B4.out,by rw [HP.out];exact ⟨rfl,.inl ⟨rfl,rfl⟩⟩⟩
end Go.Proofs.YtldbbkheemnnhaaGreatDoor
