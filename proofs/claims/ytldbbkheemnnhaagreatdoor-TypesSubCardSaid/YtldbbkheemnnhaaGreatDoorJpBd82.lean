/-
  The texts Bd8, Sb8, joined.
-/
import Derived.Test.YtldbbkheemnnhaaGreatDoorJpWrd3
import Derived.Test.YtldbbkheemnnhaaGreatDoorQpSk8
import Derived.Test.YtldbbkheemnnhaaGreatDoorQpYs8
import Derived.Test.YtldbbkheemnnhaaGreatDoorJpXw83
namespace Go.Proofs.YtldbbkheemnnhaaGreatDoor
open Go.RowKit
theorem regL_le2 : ∀ {k : Nat} {t : RTy}, Fit k t -> (regL k t).length <= 70 + k
 | 0, _, h => h.elim
 | k + 1, t, h => by
  rw [regL_succ, List.length_append]
  have := ownR_le h.1
  rcases hx : nxtR t with _ | e
  ·simp only [resL, List.length_nil]; omega
  ·have h1 := regL_le2 (h.2.2 e (nxtR_mem hx).1)
   have h2 := (nxtR_mem hx).2
   simp only [resL]; omega
theorem wellL_le2 : ∀ {k : Nat} {t : RTy}, Fit k t -> (wellL k t).length <= k * (70 + k)
 | 0, _, h => h.elim
 | k + 1, t, h => by
  simp only [wellL]
  rcases hx : nxtR t with _ | e
  ·simp
  ·have h1 := regL_le2 (h.2.2 e (nxtR_mem hx).1)
   have h2 := wellL_le2 (h.2.2 e (nxtR_mem hx).1)
   have h3 := (nxtR_mem hx).2
   have h4 : ((ownR t).flatMap fun a => (regL k e).map fun v => (v, a)).length <= (regL k e).length := by
    rcases ho : ownR t with _ | ⟨a, l⟩
    ·simp
    ·have : l = [] := by rw [ho] at h3; exact List.eq_nil_of_length_eq_zero (by simpa using h3)
     subst this
     simp
   rw [List.length_append]
   have e1 : (k + 1) * (70 + (k + 1)) = k * (70 + k) + k + (70 + (k + 1)) := by
    rw [Nat.add_mul, Nat.one_mul, show 70 + (k + 1) = (70 + k) + 1 from rfl, Nat.mul_add, Nat.mul_one]
   omega
theorem askL_le : ∀ {n : Nat} {both : Bool} {t u : RTy}, (askL n both t u).length <= 2 * (regL n t).length
 | 0, _, _, _ => by simp [askL]
 | n + 1, both, t, u => by
  rw [askL_succ, regL_succ, List.length_append, List.length_append]
  have h1 : (ownP both t u).length <= 2 * (ownR t).length := by
   unfold ownP
   split
   ·exact pairL_len
   ·split
    ·exact pairL_len
    ·exact Nat.zero_le _
  have h2 : (resA n (both || t.kind == 5) (nxtR t) (nxtR u)).length <= 2 * (resL n (nxtR t)).length := by
   cases nxtR t with
   | none => simp [resA]
   | some x =>
    cases nxtR u with
    | none => simp [resA]
    | some y => exact askL_le
  omega
theorem RtAt.heads {K : Ctx} {w : World} : ∀ {n : Nat} {cs : List Value} {t : RTy}, RtAt n K w cs t -> ∃ k s a2 l2 p2 a3 l3 p3, cs = [.int .i64 k, .string s, .slice a2 l2 p2, .slice a3 l3 p3]
 | 0, _, _, h => h.elim
 | n + 1, _, _, h => by
  obtain ⟨v2, v3, rfl, _, h2, h3⟩ := h
  obtain ⟨a2, p2, rfl⟩ := Ar.form h2
  obtain ⟨a3, p3, rfl⟩ := Ar.form h3
  exact ⟨_, _, _, _, _, _, _, _, rfl⟩
end Go.Proofs.YtldbbkheemnnhaaGreatDoor

namespace Go.Proofs.YtldbbkheemnnhaaGreatDoor
open Go.RowKit Go.Maps
theorem ar_two {α:Type} {P:List Value->α->Prop} {K:Ctx} {w:World} {g t:Nat} {cs ds:List Value} {x y:α} (h:Row w g t (cs ++ ds)) (h1:cs.length=4) (h2:ds.length=4) (hp:P cs x) (hq:P ds y) (hg:g<K.C):Ar 4 72 P K w (.slice (some ⟨g,0,none⟩) 2 2) [x,y] :=
 ⟨some ⟨g,0,none⟩,2,rfl,Nat.le_refl _,by simp,fun i hi=>by
  match i,hi with
  | 0,_ =>
   refine ⟨g,0,rfl,hg,cs,h1,fun j hj=>?_,hp⟩
   rw [h.cell,show 0+0 * 4+j=j by omega,List.getElem?_append_left (by omega)]
  | 1,_ =>
   refine ⟨g,0,rfl,hg,ds,h2,fun j hj=>?_,hq⟩
   rw [h.cell,show 0+1 * 4+j=cs.length+j by omega,List.getElem?_append_right (by omega)]
   congr 1
   omega⟩
set_option maxHeartbeats 64000000 in
set_option maxRecDepth 20000 in
theorem sub_walk {K:Ctx} {w:World} {n n2:Nat} {cs ds:List Value} {t u:RTy} {vm:Value} {m:List Int} (hG:Glo w) (_hKB:100<=K.B) (hC:K.C<=w.heap.size) (ht:RtAt n K w cs t) (hu:RtAt n2 K w ds u) (hm:Nms K w vm m) :
  Calls Tryz.prog 6 #[.agg cs.toArray,.agg ds.toArray,vm] w fun ev w'=>ev=.returned (.bool true)/\Below w.heap.size w w':=by
 obtain ⟨am,pm,rfl⟩:=Ar.form hm
 obtain ⟨kt,st,y2,m2,r2,y3,m3,r3,rfl⟩:=ht.heads
 obtain ⟨ku,su,x2,l2,q2,x3,l3,q3,rfl⟩:=hu.heads
 have HG:=hidP hG
 have HC:=hidP hC
 have HT:=hidP (fun (y:World) (hy:Below w.heap.size w y)=>ht.below (below_le hy hC))
 have HU:=hidP (fun (y:World) (hy:Below w.heap.size w y)=>hu.below (below_le hy hC))
 have HM:=hidP (fun (y:World) (hy:Below w.heap.size w y)=>show Nms K y (.slice am m.length pm) m from hm.mono (below_le hy hC) fun _ _ _ h=>h)
 have HA:=hidP (alloc_two w (.cells #[.int .i64 kt,.string st,.slice y2 m2 r2,.slice y3 m3 r3] 25) (.cells #[.int .i64 ku,.string su,.slice x2 l2 q2,.slice x3 l3 q3] 25))
 have R3:=hidP ((Row.new w 25 [.int .i64 kt,.string st,.slice y2 m2 r2,.slice y3 m3 r3]).alloc (.cells #[.int .i64 ku,.string su,.slice x2 l2 q2,.slice x3 l3 q3] 25))
 have r4:=Row.new (w.alloc (.cells #[.int .i64 kt,.string st,.slice y2 m2 r2,.slice y3 m3 r3] 25)) 25 [.int .i64 ku,.string su,.slice x2 l2 q2,.slice x3 l3 q3]
 have HZ:=hidP (size_two w (.cells #[.int .i64 kt,.string st,.slice y2 m2 r2,.slice y3 m3 r3] 25) (.cells #[.int .i64 ku,.string su,.slice x2 l2 q2,.slice x3 l3 q3] 25))
 rw [size_alloc] at r4
 have R4:=hidP r4
 have DP:=hidP (deep10 60 (m:=60) (by decide) (by decide) (HT.out _ HA.out) (Nat.le_trans HC.out HA.out.size))
 clear ht hu hm hG hC r4
 generalize hnm:m.length=nm at *
 have HNM:=hidP hnm
 clear hnm
 go_enter Tryz.func6,Tryz.ntmps6
 go_wp2_with (first|(refine ldR rfl 25 (.tmp 3) rfl rfl R3.out Tryz.underlying25 rfl Tryz.sz25 ?_))
 refine DP.out.mono ?_
 rintro _ w2 ⟨rfl,hb2⟩
 have B2:=hidP (HA.out.trans (below_le hb2 HA.out.size))
 have R32:=hidP (R3.out.below hb2 (by have:=HZ.out;omega))
 have R42:=hidP (R4.out.below hb2 (by have:=HZ.out;omega))
 have HZ2:=hidP (show w.heap.size+2<=w2.heap.size by have:=HZ.out;have:=hb2.size;omega)
 have T2:=hidP (told12 (HG.out.below B2.out))
 clear DP HA R3 R4 HZ hb2
 rcases hdd:deepB 60 t with _|_
 ·have HFT:=hidP (deepB_fit hdd)
  clear hdd T2
  have DP:=hidP (deep10 60 (m:=60) (by decide) (by decide) (HU.out _ B2.out) (Nat.le_trans HC.out B2.out.size))
  have z0:=R42.out.cell 0
  have z1:=R42.out.cell 1
  have z2:=R42.out.cell 2
  have z3:=R42.out.cell 3
  simp only [List.getElem?_cons_zero,List.getElem?_cons_succ] at z0 z1 z2 z3
  go_wp2_with fail
  refine DP.out.mono ?_
  rintro _ w3 ⟨rfl,hb3⟩
  have B3:=hidP (B2.out.trans (below_le hb3 B2.out.size))
  have R33:=hidP (R32.out.below hb3 R32.out.lt)
  have R43:=hidP (R42.out.below hb3 R42.out.lt)
  have HZ3:=hidP (Nat.le_trans HZ2.out hb3.size)
  have T3:=hidP (told12 (HG.out.below B3.out))
  clear DP B2 R32 R42 HZ2 hb3 z0 z1 z2 z3
  rcases hdu:deepB 60 u with _|_
  ·have HFU:=hidP (deepB_fit hdu)
   clear hdu
   by_cases hl7:70<nm
   ·have l1:(70:Int)<(nm:Int):=by omega
    clear hl7
    go_wp2_with fail
    refine T3.out.mono ?_
    rintro _ wT ⟨rfl,hbT⟩
    have BT:=hidP (B3.out.trans (below_le hbT B3.out.size))
    clear T3 hbT
    go_wp2_with fail
    go_ret
    exact ⟨rfl,BT.out⟩
   ·have l1:¬ (70:Int)<(nm:Int):=by omega
    clear T3 hl7
    go_wp2_with fail
    have hS0:Row w3.drew w.heap.size 25 [.int .i64 kt,.string st,.slice y2 m2 r2,.slice y3 m3 r3]/\Row w3.drew (w.heap.size+1) 25 [.int .i64 ku,.string su,.slice x2 l2 q2,.slice x3 l3 q3]:=⟨R33.out.drew,R43.out.drew⟩
    have BD:=hidP B3.out.drew
    clear R33 R43 B3
    refine beginL (fun y=>Row y w.heap.size 25 [.int .i64 kt,.string st,.slice y2 m2 r2,.slice y3 m3 r3]/\Row y (w.heap.size+1) 25 [.int .i64 ku,.string su,.slice x2 l2 q2,.slice x3 l3 q3]) 7 (by kernel_rfl) hS0 (fun hSS=>?_)
    refine takeL 0 (v:=?_) rfl (some 21) rfl (by decide) (by kernel_rfl) (by kernel_rfl) (by kernel_rfl) (by kernel_rfl) (fun _ _ _ h=>h) (Or.inl ⟨by rfl,?_⟩) hSS ?_
    rotate_left
    ·(intro y hy;obtain ⟨j0,j1,j2,j3⟩:=hy.1.c4;obtain ⟨q0,q1,q2,q3⟩:=hy.2.c4;go_simp;with_reducible rfl)
    try simp only [Act.put,List.setIfInBounds_toArray,List.set_cons_succ,List.set_cons_zero]
    refine takeL 1 (v:=?_) rfl (some 22) rfl (by decide) (by kernel_rfl) (by kernel_rfl) (by kernel_rfl) (by kernel_rfl) (fun _ _ _ h=>h) (Or.inl ⟨by rfl,?_⟩) hSS ?_
    rotate_left
    ·(intro y hy;obtain ⟨j0,j1,j2,j3⟩:=hy.1.c4;obtain ⟨q0,q1,q2,q3⟩:=hy.2.c4;go_simp;with_reducible rfl)
    try simp only [Act.put,List.setIfInBounds_toArray,List.set_cons_succ,List.set_cons_zero]
    refine takeL 2 (v:=?_) rfl (some 23) rfl (by decide) (by kernel_rfl) (by kernel_rfl) (by kernel_rfl) (by kernel_rfl) (fun _ _ _ h=>h) (Or.inl ⟨by rfl,?_⟩) hSS ?_
    rotate_left
    ·(intro y hy;go_simp;with_reducible rfl)
    try simp only [Act.put,List.setIfInBounds_toArray,List.set_cons_succ,List.set_cons_zero]
    refine takeL 6 (v:=?_) rfl (some 27) rfl (by decide) (by kernel_rfl) (by kernel_rfl) (by kernel_rfl) (by kernel_rfl) (fun _ _ _ h=>h) (Or.inl ⟨by rfl,?_⟩) hSS ?_
    rotate_left
    ·(intro y hy;go_simp;with_reducible rfl)
    try simp only [Act.put,List.setIfInBounds_toArray,List.set_cons_succ,List.set_cons_zero]
    refine readyL (rs:=[3]) (by kernel_rfl) (by simp) ?_
    refine ReadyL.cons rfl (fun KK hK=>?_) ReadyL.nil
    refine wantR (by rfl) ?_
    have SC:=xsubst20 60 ((HT.out _ BD.out).fit HFT.out) HFT.out (by have:=HM.out _ BD.out;exact this) (Nat.le_trans HC.out BD.out.size)
    go_simp
    refine SC.mono ?_
    rintro _ w4 ⟨d',rfl,hb4,hq4⟩
    obtain ⟨e0,e1,e2,e3,rfl⟩:∃ f0 f1 f2 f3,d'=[f0,f1,f2,f3]:=by
     match d',hq4.len with
     | [f0,f1,f2,f3],_=>exact ⟨_,_,_,_,rfl⟩
    have hSS2:=(⟨hSS.1.below hb4 hSS.1.lt,hSS.2.below hb4 hSS.2.lt⟩:Row w4 w.heap.size 25 [.int .i64 kt,.string st,.slice y2 m2 r2,.slice y3 m3 r3]/\Row w4 (w.heap.size+1) 25 [.int .i64 ku,.string su,.slice x2 l2 q2,.slice x3 l3 q3])
    have B4:=hidP (BD.out.trans (below_le hb4 BD.out.size))
    have Q4:=hidP hq4
    refine hK.out _ _ (fun _=>hSS2) (fun _=>?_)
    clear hb4 hq4 SC BD
    clear hK KK hSS
    have hSS:=hSS2
    clear hSS2
    try simp only [Act.put,List.setIfInBounds_toArray,List.set_cons_succ,List.set_cons_zero]
    refine readyL (rs:=[4]) (by kernel_rfl) (by simp) ?_
    refine ReadyL.cons rfl (fun KK hK=>?_) ReadyL.nil
    refine wantR (by rfl) ?_
    refine wpo_bsU2 23 25 4 72 _ (.agg #[.int .i64 ku,.string su,.slice x2 l2 q2,.slice x3 l3 q3]) (.agg #[e0,e1,e2,e3]) (.tmp 21) (.tmp 24) rfl Tryz.underlying23 Tryz.info25S (by decide) (by decide) rfl [.int .i64 ku,.string su,.slice x2 l2 q2,.slice x3 l3 q3] [e0,e1,e2,e3] rfl rfl rfl rfl rfl rfl ?_
    intro w5 hR5 hB5 hz5
    have hSS2:=(⟨hSS.1.below hB5 hSS.1.lt,hSS.2.below hB5 hSS.2.lt⟩:Row w5 w.heap.size 25 [.int .i64 kt,.string st,.slice y2 m2 r2,.slice y3 m3 r3]/\Row w5 (w.heap.size+1) 25 [.int .i64 ku,.string su,.slice x2 l2 q2,.slice x3 l3 q3])
    have B5:=hidP (B4.out.trans (below_le hB5 B4.out.size))
    have AR:=hidP (ar_two (P:=RtAt 60 (K.up w5.heap.size) w5) (K:=K.up w5.heap.size) hR5 rfl rfl (RtAt.up (show K.C<=w5.heap.size from Nat.le_trans HC.out B5.out.size) ((HU.out _ B5.out).fit HFU.out)) (RtQ.to (K:=K.up w5.heap.size) rfl (fun k hk=>hk.2) (Q4.out.mono (kp_stay (X:=fun _=>False) (Stay.of_below hB5) (fun _ h=>h.elim) (Nat.le_refl _)))) hz5)
    refine hK.out (Act.put _ (some 25) _) _ (fun _=>hSS2) (fun _=>?_)
    clear hR5 hB5 hz5 B4 Q4
    clear hK KK hSS
    have hSS:=hSS2
    clear hSS2
    generalize w4.heap.size=g at *
    try simp only [Act.put,List.setIfInBounds_toArray,List.set_cons_succ,List.set_cons_zero]
    refine takeL 5 (v:=?_) rfl (some 26) rfl (by decide) (by kernel_rfl) (by kernel_rfl) (by kernel_rfl) (by kernel_rfl) (fun _ _ _ h=>h) (Or.inl ⟨by rfl,?_⟩) hSS ?_
    rotate_left
    ·(intro y hy;go_simp;with_reducible rfl)
    try simp only [Act.put,List.setIfInBounds_toArray,List.set_cons_succ,List.set_cons_zero]
    refine doneL (by kernel_rfl) ?_ _
    have R35:=hidP hSS.1
    have HZ5:=hidP (show w.heap.size+2<=w5.heap.size by have:=hSS.2.lt;have:=B5.out.size;have:=HZ3.out;omega)
    have HFX:=hidP (show ∀ x∈[u,subN 60 m t],Fit 60 x from fun x hx=>by
     rcases List.mem_cons.1 hx with rfl|hx
     ·exact HFU.out
     ·rw [List.mem_singleton] at hx;subst hx;exact Fit.sub HFT.out)
    have HRL:=hidP (show (regL 60 t).length<=130 from regL_le2 HFT.out)
    clear hSS hS0 HU HM HNM HFU HZ3
    go_wp2_with fail
    go_loopg [27] 2 (fun q v27 wr=>∃ i:Nat,i+q=2/\v27=.int .i64 (i:Int)/\Row wr w.heap.size 25 [.int .i64 kt,.string st,.slice y2 m2 r2,.slice y3 m3 r3]/\Below w5.heap.size w5 wr)
    case atStart=>exact ⟨0,rfl,rfl,R35.out,Below.refl _ _⟩
    case round =>
     obtain ⟨i,hi,rfl,hr3,hb⟩:=hrel
     have R3r:=hidP hr3
     have HB:=hidP hb
     have BW:=hidP (B5.out.trans (below_le hb B5.out.size))
     clear hr3 hb R35
     by_cases hlt:i<2
     ·obtain ⟨x,hix,b1,o1,hbe,hb1,c1,hl1,hr1,hp1⟩:=ar_nth AR.out i hlt
      cases hbe
      have HFx:=hidP (HFX.out x (List.mem_of_getElem? hix))
      obtain ⟨ca,cb,cc,cd,rfl⟩:=hp1.four
      have hr2:=hidP (range_le hr1 HB.out hb1)
      have HX:=hidP (fun (y:World) (hy:Below w5.heap.size w5 y)=>RtAt.below (K:=K.up w5.heap.size) hy hp1)
      have s1:=hidP (show (Tryz.prog.info? 25).map (·.size)=some [ca,cb,cc,cd].length from Tryz.sz25)
      have s1':=hidP (show (Tryz.prog.info? 25).map (·.size)=some #[ca,cb,cc,cd].size from Tryz.sz25)
      have e1:=hidP (show (4:Nat)=#[ca,cb,cc,cd].size from rfl)
      have n1:=hidP (one_mem hp1.ones)
      have l1:(i:Int)<2:=by omega
      clear hp1 hr1 hb1 hl1 hix
      go_wp2_with (first|(refine wpList_load_mid rfl 25 (.tmp 29) rfl g (0+i * 4) rfl [ca,cb,cc,cd] _ hr2.out Tryz.underlying25 rfl s1.out ?_)|(refine wpList_load_mid rfl 25 (.tmp 29) rfl g (i * 4) rfl [ca,cb,cc,cd] _ (by have:=hr2.out;rw [Nat.zero_add] at this;exact this) Tryz.underlying25 rfl s1.out ?_)|(refine store_new rfl 25 (.tmp 8) (.tmp 30) rfl #[ca,cb,cc,cd] _ 25 rfl rfl s1'.out e1.out n1.out ?_;apply shut))
      show wpList _ _ _ _ _ _
      have hB9:=alloc_one wr (.cells #[ca,cb,cc,cd] 25)
      have R9:=hidP (Row.new wr 25 [ca,cb,cc,cd])
      have R39:=hidP (R3r.out.below hB9 R3r.out.lt)
      have HB9:=hidP (HB.out.trans (below_le hB9 HB.out.size))
      have BW9:=hidP (BW.out.trans (below_le hB9 BW.out.size))
      generalize wr.alloc (.cells #[ca,cb,cc,cd] 25)=wA at *
      generalize wr.heap.size=g9 at *
      clear hB9 hr2 s1 s1' e1 n1 R3r HB BW
      go_wp2_with fail
      have hS0:Row wA.drew w.heap.size 25 [.int .i64 kt,.string st,.slice y2 m2 r2,.slice y3 m3 r3]/\Row wA.drew g9 25 [ca,cb,cc,cd]:=⟨R39.out.drew,R9.out.drew⟩
      have HBD:=hidP HB9.out.drew
      have BWD:=hidP BW9.out.drew
      clear R39 R9 HB9 BW9
      refine beginL (fun y=>Row y w.heap.size 25 [.int .i64 kt,.string st,.slice y2 m2 r2,.slice y3 m3 r3]/\Row y g9 25 [ca,cb,cc,cd]) 8 (by kernel_rfl) hS0 (fun hSS=>?_)
      refine takeL 0 (v:=?_) rfl (some 31) rfl (by decide) (by kernel_rfl) (by kernel_rfl) (by kernel_rfl) (by kernel_rfl) (fun _ _ _ h=>h) (Or.inl ⟨by rfl,?_⟩) hSS ?_
      rotate_left
      ·(intro y hy;obtain ⟨j0,j1,j2,j3⟩:=hy.1.c4;obtain ⟨q0,q1,q2,q3⟩:=hy.2.c4;go_simp;with_reducible rfl)
      try simp only [Act.put,List.setIfInBounds_toArray,List.set_cons_succ,List.set_cons_zero]
      refine takeL 1 (v:=?_) rfl (some 32) rfl (by decide) (by kernel_rfl) (by kernel_rfl) (by kernel_rfl) (by kernel_rfl) (fun _ _ _ h=>h) (Or.inl ⟨by rfl,?_⟩) hSS ?_
      rotate_left
      ·(intro y hy;obtain ⟨j0,j1,j2,j3⟩:=hy.1.c4;obtain ⟨q0,q1,q2,q3⟩:=hy.2.c4;go_simp;with_reducible rfl)
      try simp only [Act.put,List.setIfInBounds_toArray,List.set_cons_succ,List.set_cons_zero]
      refine takeL 3 (v:=?_) rfl (some 34) rfl (by decide) (by kernel_rfl) (by kernel_rfl) (by kernel_rfl) (by kernel_rfl) (fun _ _ _ h=>h) (Or.inl ⟨by rfl,?_⟩) hSS ?_
      rotate_left
      ·(intro y hy;obtain ⟨j0,j1,j2,j3⟩:=hy.1.c4;obtain ⟨q0,q1,q2,q3⟩:=hy.2.c4;go_simp;with_reducible rfl)
      try simp only [Act.put,List.setIfInBounds_toArray,List.set_cons_succ,List.set_cons_zero]
      refine takeL 4 (v:=?_) rfl (some 35) rfl (by decide) (by kernel_rfl) (by kernel_rfl) (by kernel_rfl) (by kernel_rfl) (fun _ _ _ h=>h) (Or.inl ⟨by rfl,?_⟩) hSS ?_
      rotate_left
      ·(intro y hy;obtain ⟨j0,j1,j2,j3⟩:=hy.1.c4;obtain ⟨q0,q1,q2,q3⟩:=hy.2.c4;go_simp;with_reducible rfl)
      try simp only [Act.put,List.setIfInBounds_toArray,List.set_cons_succ,List.set_cons_zero]
      refine readyL (rs:=[2]) (by kernel_rfl) (by simp) ?_
      refine ReadyL.cons rfl (fun KK hK=>?_) ReadyL.nil
      refine wantR (by rfl) ?_
      have SC:=sub32 (K:=K.up w5.heap.size) (n:=60) (n2:=60) (RtAt.up (K:=K) (show K.C<=w5.heap.size from Nat.le_trans HC.out B5.out.size) ((HT.out _ BWD.out).fit HFT.out)) (HX.out _ HBD.out) (show w5.heap.size<=_ from HBD.out.size) (fun _=>by have:=askL_le (n:=60) (both:=false) (t:=t) (u:=x);have:=HRL.out;omega)
      go_simp
      refine SC.mono ?_
      rintro _ w6 ⟨v6,rfl,hb6,ho6⟩
      have hSS2:=(⟨hSS.1.below hb6 hSS.1.lt,hSS.2.below hb6 hSS.2.lt⟩:Row w6 w.heap.size 25 [.int .i64 kt,.string st,.slice y2 m2 r2,.slice y3 m3 r3]/\Row w6 g9 25 [ca,cb,cc,cd])
      have HB6:=hidP (HBD.out.trans (below_le hb6 HBD.out.size))
      have BW6:=hidP (BWD.out.trans (below_le hb6 BWD.out.size))
      have O6:=hidP ho6
      refine hK.out _ _ (fun _=>hSS2) (fun _=>?_)
      clear hb6 ho6 SC HBD BWD
      clear hK KK hSS
      have hSS:=hSS2
      clear hSS2
      try simp only [Act.put,List.setIfInBounds_toArray,List.set_cons_succ,List.set_cons_zero]
      refine readyL (rs:=[5]) (by kernel_rfl) (by simp) ?_
      refine ReadyL.cons rfl (fun KK hK=>?_) ReadyL.nil
      refine wantR (by rfl) ?_
      have SC:=xsub33 (K:=K.up w5.heap.size) 60 (m:=60) (RtAt.up (K:=K) (show K.C<=w5.heap.size from Nat.le_trans HC.out B5.out.size) ((HT.out _ BW6.out).fit HFT.out)) (HX.out _ HB6.out) (show w5.heap.size<=_ from HB6.out.size) (fun _=>by have:=askL_le (n:=60) (both:=false) (t:=t) (u:=x);have:=HRL.out;omega)
      go_simp
      refine SC.mono ?_
      rintro _ w7 ⟨v7,rfl,hb7,ho7⟩
      have hSS2:=(⟨hSS.1.below hb7 hSS.1.lt,hSS.2.below hb7 hSS.2.lt⟩:Row w7 w.heap.size 25 [.int .i64 kt,.string st,.slice y2 m2 r2,.slice y3 m3 r3]/\Row w7 g9 25 [ca,cb,cc,cd])
      have HB7:=hidP (HB6.out.trans (below_le hb7 HB6.out.size))
      have BW7:=hidP (BW6.out.trans (below_le hb7 BW6.out.size))
      have HSL:=hidP (show (subL 60 t x).length<=40000 by
       unfold subL
       split
       ·have:=askL_le (n:=60) (both:=false) (t:=t) (u:=x);have:=HRL.out;omega
       ·exact Nat.zero_le _)
      have P6:=hidP (own_prs (K:=K.up w7.heap.size) (own_sameR O6.out (fun q eq=>hb7.block q (O6.out.lt q eq).2)) (Nat.le_refl _) (by have:=HSL.out;omega))
      have P7:=hidP (own_prs (K:=K.up w7.heap.size) ho7 (Nat.le_refl _) (by have:=HSL.out;omega))
      refine hK.out _ _ (fun _=>hSS2) (fun _=>?_)
      clear hb7 ho7 SC HB6 BW6 O6 HSL
      clear hK KK hSS
      have hSS:=hSS2
      clear hSS2
      try simp only [Act.put,List.setIfInBounds_toArray,List.set_cons_succ,List.set_cons_zero]
      refine readyL (rs:=[6]) (by kernel_rfl) (by simp) ?_
      refine ReadyL.cons rfl (fun KK hK=>?_) ReadyL.nil
      refine wantR (by rfl) ?_
      have SC:=pairs31 P6.out P7.out
      go_simp
      refine SC.mono ?_
      rintro _ w8 ⟨rfl,hb8⟩
      have hSS2:=(⟨hSS.1.below hb8 hSS.1.lt,hSS.2.below hb8 hSS.2.lt⟩:Row w8 w.heap.size 25 [.int .i64 kt,.string st,.slice y2 m2 r2,.slice y3 m3 r3]/\Row w8 g9 25 [ca,cb,cc,cd])
      have HB6:=hidP (HB7.out.trans (below_le hb8 HB7.out.size))
      refine hK.out _ _ (fun _=>hSS2) (fun _=>?_)
      clear hb8 SC HB7 P6 P7
      clear hK KK hSS
      have hSS:=hSS2
      clear hSS2
      try simp only [Act.put,List.setIfInBounds_toArray,List.set_cons_succ,List.set_cons_zero]
      refine takeL 7 (v:=?_) rfl (some 38) rfl (by decide) (by kernel_rfl) (by kernel_rfl) (by kernel_rfl) (by kernel_rfl) (fun _ _ _ h=>h) (Or.inl ⟨by rfl,?_⟩) hSS ?_
      rotate_left
      ·(intro y hy;go_simp;with_reducible rfl)
      try simp only [Act.put,List.setIfInBounds_toArray,List.set_cons_succ,List.set_cons_zero]
      refine doneL (by kernel_rfl) ?_ _
      go_wp2_with fail
      go_roundg (gk - 1)
      case measure=>omega
      case rel=>exact ⟨i+1,by omega,by go_num,hSS.1,HB6.out⟩
     ·have hi2:i=2:=by omega
      subst hi2
      clear hlt hi
      go_wp2_with fail
      have hS0:Row wr.drew w.heap.size 25 [.int .i64 kt,.string st,.slice y2 m2 r2,.slice y3 m3 r3]:=R3r.out.drew
      have BD:=hidP BW.out.drew
      clear R3r BW HB AR HFX
      refine beginL (fun y=>Row y w.heap.size 25 [.int .i64 kt,.string st,.slice y2 m2 r2,.slice y3 m3 r3]) 9 (by kernel_rfl) hS0 (fun hSS=>?_)
      refine readyL (rs:=[0]) (by kernel_rfl) (by simp) ?_
      refine ReadyL.cons rfl (fun KK hK=>?_) ReadyL.nil
      refine wantR (by rfl) ?_
      have SC:=told12 (HG.out.below BD.out)
      go_simp
      refine SC.mono ?_
      rintro _ w6 ⟨rfl,hb6⟩
      have hSS2:=(hSS.below hb6 hSS.lt:Row w6 w.heap.size 25 [.int .i64 kt,.string st,.slice y2 m2 r2,.slice y3 m3 r3])
      have B6:=hidP (BD.out.trans (below_le hb6 BD.out.size))
      refine hK.out _ _ (fun _=>hSS2) (fun _=>?_)
      clear hb6 SC BD
      clear hK KK hSS
      have hSS:=hSS2
      clear hSS2
      try simp only [Act.put,List.setIfInBounds_toArray,List.set_cons_succ,List.set_cons_zero]
      refine takeL 1 (v:=?_) rfl (some 41) rfl (by decide) (by kernel_rfl) (by kernel_rfl) (by kernel_rfl) (by kernel_rfl) (fun _ _ _ h=>h) (Or.inl ⟨by rfl,?_⟩) hSS ?_
      rotate_left
      ·(intro y hy;go_simp;with_reducible rfl)
      try simp only [Act.put,List.setIfInBounds_toArray,List.set_cons_succ,List.set_cons_zero]
      refine takeL 2 (v:=?_) rfl (some 42) rfl (by decide) (by kernel_rfl) (by kernel_rfl) (by kernel_rfl) (by kernel_rfl) (fun _ _ _ h=>h) (Or.inl ⟨by rfl,?_⟩) hSS ?_
      rotate_left
      ·(intro y hy;obtain ⟨j0,j1,j2,j3⟩:=hy.c4;go_simp;with_reducible rfl)
      try simp only [Act.put,List.setIfInBounds_toArray,List.set_cons_succ,List.set_cons_zero]
      refine takeL 4 (v:=?_) rfl (some 44) rfl (by decide) (by kernel_rfl) (by kernel_rfl) (by kernel_rfl) (by kernel_rfl) (fun _ _ _ h=>h) (Or.inl ⟨by rfl,?_⟩) hSS ?_
      rotate_left
      ·(intro y hy;obtain ⟨j0,j1,j2,j3⟩:=hy.c4;go_simp;with_reducible rfl)
      try simp only [Act.put,List.setIfInBounds_toArray,List.set_cons_succ,List.set_cons_zero]
      refine readyL (rs:=[3]) (by kernel_rfl) (by simp) ?_
      refine ReadyL.cons rfl (fun KK hK=>?_) ReadyL.nil
      refine wantR (by rfl) ?_
      have SC:=well13 ((HT.out _ B6.out).fit HFT.out) (Nat.le_trans HC.out B6.out.size) (by have:=HRL.out;omega) (by have:=wellL_le2 HFT.out;omega)
      go_simp
      refine SC.mono ?_
      rintro _ w7 ⟨v7,rfl,hb7,ho7⟩
      have hSS2:=(hSS.below hb7 hSS.lt:Row w7 w.heap.size 25 [.int .i64 kt,.string st,.slice y2 m2 r2,.slice y3 m3 r3])
      have B7:=hidP (B6.out.trans (below_le hb7 B6.out.size))
      have O7:=hidP ho7
      refine hK.out _ _ (fun _=>hSS2) (fun _=>?_)
      clear hb7 ho7 SC B6
      clear hK KK hSS
      have hSS:=hSS2
      clear hSS2
      try simp only [Act.put,List.setIfInBounds_toArray,List.set_cons_succ,List.set_cons_zero]
      refine readyL (rs:=[5]) (by kernel_rfl) (by simp) ?_
      refine ReadyL.cons rfl (fun KK hK=>?_) ReadyL.nil
      refine wantR (by rfl) ?_
      have SC:=xwell34 60 ((HT.out _ B7.out).fit HFT.out) (Nat.le_trans HC.out B7.out.size) (by have:=HRL.out;omega) (by have:=wellL_le2 HFT.out;omega)
      go_simp
      refine SC.mono ?_
      rintro _ w8 ⟨v8,rfl,hb8,ho8⟩
      have hSS2:=(hSS.below hb8 hSS.lt:Row w8 w.heap.size 25 [.int .i64 kt,.string st,.slice y2 m2 r2,.slice y3 m3 r3])
      have B8:=hidP (B7.out.trans (below_le hb8 B7.out.size))
      have HWL:=hidP (wellL_le2 HFT.out)
      have P7:=hidP (own_prs (K:=K.up w8.heap.size) (own_sameR O7.out (fun q eq=>hb8.block q (O7.out.lt q eq).2)) (Nat.le_refl _) (by have:=HWL.out;omega))
      have P8:=hidP (own_prs (K:=K.up w8.heap.size) ho8 (Nat.le_refl _) (by have:=HWL.out;omega))
      refine hK.out _ _ (fun _=>hSS2) (fun _=>?_)
      clear hb8 ho8 SC B7 O7 HWL
      clear hK KK hSS
      have hSS:=hSS2
      clear hSS2
      try simp only [Act.put,List.setIfInBounds_toArray,List.set_cons_succ,List.set_cons_zero]
      refine readyL (rs:=[6]) (by kernel_rfl) (by simp) ?_
      refine ReadyL.cons rfl (fun KK hK=>?_) ReadyL.nil
      refine wantR (by rfl) ?_
      have SC:=pairs31 P7.out P8.out
      go_simp
      refine SC.mono ?_
      rintro _ w9 ⟨rfl,hb9⟩
      have hSS2:=(hSS.below hb9 hSS.lt:Row w9 w.heap.size 25 [.int .i64 kt,.string st,.slice y2 m2 r2,.slice y3 m3 r3])
      have B9:=hidP (B8.out.trans (below_le hb9 B8.out.size))
      refine hK.out _ _ (fun _=>hSS2) (fun _=>?_)
      clear hb9 SC B8 P7 P8
      clear hK KK hSS
      have hSS:=hSS2
      clear hSS2
      try simp only [Act.put,List.setIfInBounds_toArray,List.set_cons_succ,List.set_cons_zero]
      refine takeL 7 (v:=?_) rfl (some 47) rfl (by decide) (by kernel_rfl) (by kernel_rfl) (by kernel_rfl) (by kernel_rfl) (fun _ _ _ h=>h) (Or.inl ⟨by rfl,?_⟩) hSS ?_
      rotate_left
      ·(intro y hy;go_simp;with_reducible rfl)
      try simp only [Act.put,List.setIfInBounds_toArray,List.set_cons_succ,List.set_cons_zero]
      refine takeL 8 (v:=?_) rfl (some 6) rfl (by decide) (by kernel_rfl) (by kernel_rfl) (by kernel_rfl) (by kernel_rfl) (fun _ _ _ h=>h) (Or.inl ⟨by rfl,?_⟩) hSS ?_
      rotate_left
      ·(intro y hy;go_simp;with_reducible rfl)
      try simp only [Act.put,List.setIfInBounds_toArray,List.set_cons_succ,List.set_cons_zero]
      refine doneL (by kernel_rfl) ?_ _
      go_wp2_with fail
      go_ret
      exact ⟨rfl,B9.out⟩
  ·clear hdu
   go_wp2_with fail
   refine T3.out.mono ?_
   rintro _ wT ⟨rfl,hbT⟩
   have BT:=hidP (B3.out.trans (below_le hbT B3.out.size))
   clear T3 hbT
   go_wp2_with fail
   go_ret
   exact ⟨rfl,BT.out⟩
 ·clear hdd
  go_wp2_with fail
  refine T2.out.mono ?_
  rintro _ wT ⟨rfl,hbT⟩
  have BT:=hidP (B2.out.trans (below_le hbT B2.out.size))
  clear T2 hbT
  go_wp2_with fail
  go_ret
  exact ⟨rfl,BT.out⟩
end Go.Proofs.YtldbbkheemnnhaaGreatDoor
