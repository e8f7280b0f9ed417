/-
  The texts Bt8, Xu8, Om8, joined.
-/
import Derived.Test.YtldbbkheemnnhaaGreatDoorJpGro84
import Derived.Test.YtldbbkheemnnhaaGreatDoorQpSu8
import Derived.Test.YtldbbkheemnnhaaGreatDoorQpSk8
import Derived.Test.YtldbbkheemnnhaaGreatDoorJpRq83
namespace Go.Proofs.YtldbbkheemnnhaaGreatDoor
open Go.RowKit
theorem Row.c4 {w : World} {g t : Nat} {a b c d : Value} (h : Row w g t [a, b, c, d]) : w.cell? ⟨g, 0, none⟩ = some a /\ w.cell? ⟨g, 1, none⟩ = some b /\ w.cell? ⟨g, 2, none⟩ = some c /\ w.cell? ⟨g, 3, none⟩ = some d :=
 ⟨h.cell 0, h.cell 1, h.cell 2, h.cell 3⟩
theorem rg4 {w : World} {g o : Nat} {a b c d : Value} (h : w.rangeAt g o [a, b, c, d]) : w.cell? ⟨g, o, none⟩ = some a /\ w.cell? ⟨g, o + 1, none⟩ = some b /\ w.cell? ⟨g, o + 2, none⟩ = some c /\ w.cell? ⟨g, o + 3, none⟩ = some d :=
 ⟨h 0 _ rfl, h 1 _ rfl, h 2 _ rfl, h 3 _ rfl⟩
end Go.Proofs.YtldbbkheemnnhaaGreatDoor

namespace Go.Proofs.YtldbbkheemnnhaaGreatDoor
open Go.RowKit
set_option maxHeartbeats 32000000 in
set_option maxRecDepth 20000 in
theorem xsubst20 {K:Ctx}:∀ (n:Nat) {w:World} {cs:List Value} {t:RTy} {vm:Value} {m:List Int},RtAt n K w cs t->Fit n t->Nms K w vm m->K.C<=w.heap.size ->
  Calls Tryz.prog 20 #[.agg cs.toArray,vm] w fun ev w'=>∃ c,ev=.returned (.agg c.toArray)/\Below w.heap.size w w'/\RtQ n (Fr w w') K.B w' c (subN n m t)
 | 0,_,_,_,_,_,h,_,_,_=>h.elim
 | n+1,w,cs,t,vm,m,ht,hf,hm,hC=>by
  have IH:=hidP (fun (y:World) (hy:Below w.heap.size w y) (cs:List Value) (e:RTy) (he:RtAt n K y cs e) (hf:Fit n e)=>xsubst20 n he hf (hm.mono (below_le hy hC) fun _ _ _ h=>h) (Nat.le_trans hC hy.size))
  obtain ⟨hf1,hf2,hf3⟩:=hf
  have HF3:=hidP hf3
  obtain ⟨v2,v3,rfl,hB,h2,h3⟩:=ht
  obtain ⟨a2,p2,rfl⟩:=Ar.form h2
  obtain ⟨a3,p3,rfl⟩:=Ar.form h3
  obtain ⟨a1,p1,rfl⟩:=Ar.form hm
  have hm9:m.length<=140737488355328:=by obtain ⟨_,_,_,_,z1,_⟩:=hm.shape;omega
  have A2:=hidP (fun i hi=>nms_cell h2 i hi)
  have AM:=hidP (fun i hi=>nms_cell hm i hi)
  have A3:=hidP (fun i hi=>Ar.nth h3 i hi)
  have HC:=hidP hC
  have hsm:=K.small
  have HBN:=hidP hB
  have PN:=hidP (show ∀ x:Int,putN m x=if 0<=x/\x<(m.length:Int) then m.getD x.toNat 0 else x from fun _=>rfl)
  have HSB:=hidP (show subN (n+1) m t=⟨t.kind,t.name,t.regs.map (putN m),t.elem.map (subN n m)⟩ from rfl)
  clear h2 h3 hm hC hf3 hB
  generalize hnr:t.regs.length=nr at *
  have HNR:=hidP hnr
  clear hnr
  generalize hne:t.elem.length=ne at *
  have HNE:=hidP hne
  clear hne
  generalize hnm:m.length=nm at *
  have HNM:=hidP hnm
  clear hnm
  generalize hsn:str t.name=SN at *
  have HSN:=hidP hsn
  clear hsn
  generalize hkd:t.kind=kd at *
  have HKD:=hidP hkd
  clear hkd
  have HA:=hidP (alloc_two w (.cells #[.int .i64 kd,.string SN,.slice a2 nr p2,.slice a3 ne p3] 25) (.cells z25.toArray 25))
  have R2:=hidP ((Row.new w 25 [.int .i64 kd,.string SN,.slice a2 nr p2,.slice a3 ne p3]).alloc (.cells z25.toArray 25))
  have R4:=hidP (Row.new (w.alloc (.cells #[.int .i64 kd,.string SN,.slice a2 nr p2,.slice a3 ne p3] 25)) 25 z25)
  have HZ:=hidP (size_two w (.cells #[.int .i64 kd,.string SN,.slice a2 nr p2,.slice a3 ne p3] 25) (.cells z25.toArray 25))
  rw [size_alloc] at R4
  go_enter Tryz.func20,Tryz.ntmps20
  unfold z25 at R2 R4 HA HZ
  have rz:=Row.new ((w.alloc (.cells #[.int .i64 kd,.string SN,.slice a2 nr p2,.slice a3 ne p3] 25)).alloc (.cells #[.int .i64 0,.string ⟨#[]⟩,.slice none 0 0,.slice none 0 0] 25)) 25 [.int .i64 0,.string ⟨#[]⟩,.slice none 0 0,.slice none 0 0]
  have BZ:=hidP (alloc_one ((w.alloc (.cells #[.int .i64 kd,.string SN,.slice a2 nr p2,.slice a3 ne p3] 25)).alloc (.cells #[.int .i64 0,.string ⟨#[]⟩,.slice none 0 0,.slice none 0 0] 25)) (.cells #[.int .i64 0,.string ⟨#[]⟩,.slice none 0 0,.slice none 0 0] 25))
  rw [HZ.out] at rz
  have RZ:=hidP rz
  have x0:=R2.out.cell 0
  have x1:=R2.out.cell 1
  simp only [List.getElem?_cons_zero,List.getElem?_cons_succ] at x0 x1
  clear rz
  go_wp2_with (first|(refine stR rfl 25 (.tmp 5) (.tmp 13) rfl (cs:=[.int .i64 kd,.string SN,.slice none 0 0,.slice none 0 0]) rfl rfl RZ.out Tryz.sz25 rfl (ones_cons rfl (ones_cons rfl (ones_cons rfl (ones_cons rfl ones_nil)))) ?_;intro w5 RO5 S5;apply shut))
  show wpList _ _ _ _ _ _
  have HB5:=hidP (BZ.out.trans (S5.below (C:=((w.alloc (.cells #[.int .i64 kd,.string SN,.slice a2 nr p2,.slice a3 ne p3] 25)).alloc (.cells #[.int .i64 0,.string ⟨#[]⟩,.slice none 0 0,.slice none 0 0] 25)).heap.size) BZ.out.size (fun q hq=>by have:q=w.heap.size+2:=hq;have:=HZ.out;omega)))
  clear RZ BZ S5 x0 x1
  generalize hW:(w.alloc (.cells #[.int .i64 kd,.string SN,.slice a2 nr p2,.slice a3 ne p3] 25)).alloc (.cells #[.int .i64 0,.string ⟨#[]⟩,.slice none 0 0,.slice none 0 0] 25)=W at R2 R4 HA HZ HB5
  have hg5:=hidP (show W.heap.size<=w.heap.size+2 from Nat.le_of_eq HZ.out)
  generalize w.heap.size+2=g5 at RO5 hg5 ⊢
  replace RO5:=hidP RO5
  have RI:=hidP (R2.out.below HB5.out (by have:=HZ.out;omega))
  have RR:=hidP (R4.out.below HB5.out (by have:=HZ.out;omega))
  have HBW:=hidP (HA.out.trans (below_le HB5.out HA.out.size))
  clear R2 R4
  go_wp2_with fail
  go_loopg [6] nr (fun k v6 wr=>∃ (i:Nat) (v:Value),i+k=nr/\v6=.int .i64 (i:Int)/\Stay (fun k=>k=g5) w5 wr/\Row wr g5 25 [.int .i64 kd,.string SN,v,.slice none 0 0]/\Gro 1 3 PNm w5 wr v ((t.regs.take i).map (putN m)))
  case atStart=>exact ⟨0,_,by omega,rfl,Stay.refl _ _,RO5.out,Gro.nil⟩
  case round =>
   obtain ⟨i,v,hi,rfl,hst,hro,hgr⟩:=hrel
   have ST:=hidP hst
   have RO:=hidP hro
   have GR:=hidP hgr
   obtain ⟨ao,cp,rfl⟩:=hgr.form
   have hlt5:=hidP RO5.out.lt
   have RIw:=hidP (ST.out.row RI.out (by have:=hg5.out;have:=HZ.out;omega))
   have x2:=RIw.out.cell 2
   simp only [List.getElem?_cons_zero,List.getElem?_cons_succ] at x2
   clear hst hro hgr RO5
   by_cases hlt:i<nr
   ·obtain ⟨b1,o1,rfl,hb1,hc1⟩:=A2.out i (by have:=HNR.out;omega)
    have SO:=hidP (fun (k:Nat) (hk:k<w.heap.size)=>show ¬ (k=g5) from by have:=hg5.out;have:=HZ.out;omega)
    have WC:=hidP (fun (k o:Nat) (u:Value) (hk:k<K.C) (h:w.cell? ⟨k,o,none⟩=some u)=>show wr.cell? ⟨k,o,none⟩=some u from by
     have hkw:=Nat.lt_of_lt_of_le hk HC.out
     have e5:=(HBW.out.cell (p:=⟨k,o,none⟩) hkw).trans h
     have e6:=ST.out.block k (Nat.lt_of_lt_of_le hkw HBW.out.size) (SO.out k hkw)
     unfold World.cell? at e5 ⊢
     simp only at e5 ⊢
     rw [e6];exact e5)
    have hc1':=WC.out _ _ _ hb1 hc1
    have l1:(i:Int)<(nr:Int):=by omega
    have HL:=hidP (show ((t.regs.take i).map (putN m)).length=i by rw [List.length_map,List.length_take,HNR.out];omega)
    have HG:=hidP (show (t.regs.take (i+1)).map (putN m)=(t.regs.take i).map (putN m) ++ [putN m (t.regs.getD i 0)] by
     rw [List.take_succ_eq_append_getElem (by have:=HNR.out;omega),List.map_append]
     simp [List.getD,List.getElem?_eq_getElem (show i<t.regs.length by have:=HNR.out;omega)])
    have PX:=hidP (PN.out (t.regs.getD i 0))
    generalize (t.regs.take i).map (putN m)=acc at *
    rw [HL.out] at RO GR
    generalize t.regs.getD i 0=x at *
    have y2:=RO.out.cell 2
    simp only [List.getElem?_cons_zero,List.getElem?_cons_succ] at y2
    have hsz5:=hidP ST.out.size
    clear hb1 hc1
    have HX:Hid ((∃ j:Nat,x=j/\(j:Int)<(nm:Int)/\putN m x=m.getD j 0)∨(0<=x/\¬ x<(nm:Int)/\putN m x=x)∨(¬ 0<=x/\putN m x=x)):=by
     show _∨_∨_
     have h1:=PX.out
     rcases Int.lt_or_le x 0 with h|h
     ·exact .inr (.inr ⟨by omega,by rw [h1,if_neg (by omega)]⟩)
     ·rcases Int.lt_or_le x (nm:Int) with h'|h'
      ·refine .inl ⟨x.toNat,by omega,by omega,?_⟩
       rw [h1,if_pos ⟨h,h'⟩]
      ·exact .inr (.inl ⟨h,by omega,by rw [h1,if_neg (by omega)]⟩)
    clear PX
    have FIN:=hidP (fun (y:Int) (hy:putN m x=y)=>(hy ▸ HG.out:(t.regs.take (i+1)).map (putN m)=acc ++ [y]))
    rcases HX.out with ⟨j,rfl,hj,hy⟩|⟨hx1,hx2,hy⟩|⟨hx1,hy⟩
    case inl =>
     obtain ⟨b4,o4,rfl,hb4,hc4⟩:=AM.out j (by have:=HNM.out;omega)
     have hc4':=WC.out _ _ _ hb4 hc4
     have F1:=hidP (FIN.out _ hy)
     generalize m.getD j 0=y at *
     clear hb4 hc4 hy FIN HX HG
     have l2:(0:Int)<=(j:Int):=by omega
     go_wp2_with (first|(refine bsliceU rfl 22 3 1 8 _ (.int .i64 y) (.tmp 40) rfl Tryz.underlying22 Tryz.info3I (by decide) (by decide) rfl [.int .i64 y] rfl rfl rfl ?_;intro w7 hR7 hB7 hz7;apply shut))
     show wpList _ _ _ _ _ _
     have R7:=hidP (RO.out.below hB7 RO.out.lt)
     have G7:=hidP (GR.out.past moNm hB7)
     have S7:=hidP (ST.out.trans (Stay.of_below hB7))
     have hz8:=hidP (show w5.heap.size<=w7.heap.size from Nat.le_trans hsz5.out hB7.size)
     have RN:=hidP hR7
     clear RO GR ST hR7 hB7 hz7 y2 x2
     go_wp2_with (first|(refine wpl_gro rfl (.tmp 39) (.tmp 41) moNm rfl Tryz.underlying22 Tryz.info3I rfl (by decide) rfl rfl G7.out hz8.out RN.out rfl (ones_cons rfl ones_nil) (x:=y) (show NmAt _ _ from rfl) (by have:=HL.out;omega) (by decide) ?_;intro eo ep w8 G8 B8;apply shut))
     show wpList _ _ _ _ _ _
     rw [HL.out] at G8
     try rw [HL.out]
     have R8:=hidP (R7.out.below B8 hlt5.out)
     have S8:=hidP (S7.out.step (stay_up B8) (fun i hi hy=>absurd hi (Nat.not_lt.2 hy)))
     replace G8:=hidP G8
     have hz9:=hidP (Nat.le_trans hz8.out B8.size)
     clear R7 G7 S7 RN B8 hz8
     go_wp2_with (first|(refine stC rfl 22 (.tmp 43) (.tmp 42) rfl rfl rfl R8.out (svN R8.out rfl _ _ _) ?_;intro w9 R9 S9;apply shut))
     show wpList _ _ _ _ _ _
     simp only [List.set_cons_zero,List.set_cons_succ] at R9
     have G9:=hidP (G8.out.stay moNm S9 (fun k e=>by have:k=g5:=e;have:=hlt5.out;omega))
     have ST9:=hidP (S8.out.trans S9)
     replace R9:=hidP R9
     clear R8 S8 G8 S9
     go_wp2_with fail
     go_roundg (gk - 1)
     case measure=>omega
     case rel=>exact ⟨i+1,_,by omega,by go_num,ST9.out,R9.out,by rw [F1.out];exact G9.out⟩
    case inr.inl =>
     have F1:=hidP (FIN.out _ hy)
     clear hy FIN HX HG
     go_wp2_with (first|(refine bsliceU rfl 22 3 1 8 _ (.int .i64 x) (.tmp 40) rfl Tryz.underlying22 Tryz.info3I (by decide) (by decide) rfl [.int .i64 x] rfl rfl rfl ?_;intro w7 hR7 hB7 hz7;apply shut))
     show wpList _ _ _ _ _ _
     have R7:=hidP (RO.out.below hB7 RO.out.lt)
     have G7:=hidP (GR.out.past moNm hB7)
     have S7:=hidP (ST.out.trans (Stay.of_below hB7))
     have hz8:=hidP (show w5.heap.size<=w7.heap.size from Nat.le_trans hsz5.out hB7.size)
     have RN:=hidP hR7
     clear RO GR ST hR7 hB7 hz7 y2 x2
     go_wp2_with (first|(refine wpl_gro rfl (.tmp 39) (.tmp 41) moNm rfl Tryz.underlying22 Tryz.info3I rfl (by decide) rfl rfl G7.out hz8.out RN.out rfl (ones_cons rfl ones_nil) (x:=x) (show NmAt _ _ from rfl) (by have:=HL.out;omega) (by decide) ?_;intro eo ep w8 G8 B8;apply shut))
     show wpList _ _ _ _ _ _
     rw [HL.out] at G8
     try rw [HL.out]
     have R8:=hidP (R7.out.below B8 hlt5.out)
     have S8:=hidP (S7.out.step (stay_up B8) (fun i hi hy=>absurd hi (Nat.not_lt.2 hy)))
     replace G8:=hidP G8
     have hz9:=hidP (Nat.le_trans hz8.out B8.size)
     clear R7 G7 S7 RN B8 hz8
     go_wp2_with (first|(refine stC rfl 22 (.tmp 43) (.tmp 42) rfl rfl rfl R8.out (svN R8.out rfl _ _ _) ?_;intro w9 R9 S9;apply shut))
     show wpList _ _ _ _ _ _
     simp only [List.set_cons_zero,List.set_cons_succ] at R9
     have G9:=hidP (G8.out.stay moNm S9 (fun k e=>by have:k=g5:=e;have:=hlt5.out;omega))
     have ST9:=hidP (S8.out.trans S9)
     replace R9:=hidP R9
     clear R8 S8 G8 S9
     go_wp2_with fail
     go_roundg (gk - 1)
     case measure=>omega
     case rel=>exact ⟨i+1,_,by omega,by go_num,ST9.out,R9.out,by rw [F1.out];exact G9.out⟩
    case inr.inr =>
     have F1:=hidP (FIN.out _ hy)
     clear hy FIN HX HG
     go_wp2_with (first|(refine bsliceU rfl 22 3 1 8 _ (.int .i64 x) (.tmp 40) rfl Tryz.underlying22 Tryz.info3I (by decide) (by decide) rfl [.int .i64 x] rfl rfl rfl ?_;intro w7 hR7 hB7 hz7;apply shut))
     show wpList _ _ _ _ _ _
     have R7:=hidP (RO.out.below hB7 RO.out.lt)
     have G7:=hidP (GR.out.past moNm hB7)
     have S7:=hidP (ST.out.trans (Stay.of_below hB7))
     have hz8:=hidP (show w5.heap.size<=w7.heap.size from Nat.le_trans hsz5.out hB7.size)
     have RN:=hidP hR7
     clear RO GR ST hR7 hB7 hz7 y2 x2
     go_wp2_with (first|(refine wpl_gro rfl (.tmp 39) (.tmp 41) moNm rfl Tryz.underlying22 Tryz.info3I rfl (by decide) rfl rfl G7.out hz8.out RN.out rfl (ones_cons rfl ones_nil) (x:=x) (show NmAt _ _ from rfl) (by have:=HL.out;omega) (by decide) ?_;intro eo ep w8 G8 B8;apply shut))
     show wpList _ _ _ _ _ _
     rw [HL.out] at G8
     try rw [HL.out]
     have R8:=hidP (R7.out.below B8 hlt5.out)
     have S8:=hidP (S7.out.step (stay_up B8) (fun i hi hy=>absurd hi (Nat.not_lt.2 hy)))
     replace G8:=hidP G8
     have hz9:=hidP (Nat.le_trans hz8.out B8.size)
     clear R7 G7 S7 RN B8 hz8
     go_wp2_with (first|(refine stC rfl 22 (.tmp 43) (.tmp 42) rfl rfl rfl R8.out (svN R8.out rfl _ _ _) ?_;intro w9 R9 S9;apply shut))
     show wpList _ _ _ _ _ _
     simp only [List.set_cons_zero,List.set_cons_succ] at R9
     have G9:=hidP (G8.out.stay moNm S9 (fun k e=>by have:k=g5:=e;have:=hlt5.out;omega))
     have ST9:=hidP (S8.out.trans S9)
     replace R9:=hidP R9
     clear R8 S8 G8 S9
     go_wp2_with fail
     go_roundg (gk - 1)
     case measure=>omega
     case rel=>exact ⟨i+1,_,by omega,by go_num,ST9.out,R9.out,by rw [F1.out];exact G9.out⟩
   ·have e:i=nr:=by omega
    subst e
    have HT:=hidP (show t.regs.take i=t.regs by rw [← HNR.out,List.take_length])
    rw [HT.out] at GR
    have HLr:=hidP (show (t.regs.map (putN m)).length=i by rw [List.length_map,HNR.out])
    have DN:=hidP (GR.out.done (bz:=8) moNm (by have:=HLr.out;omega))
    have RIr:=hidP (ST.out.row RI.out (by have:=hg5.out;have:=HZ.out;omega))
    have RRr:=hidP (ST.out.row RR.out (by have:=hg5.out;have:=HZ.out;omega))
    have BW:=hidP (HBW.out.trans (ST.out.below (C:=w.heap.size) HBW.out.size (fun q hq=>by have:q=g5:=hq;have:=hg5.out;have:=HZ.out;omega)))
    have hz5:=hidP ST.out.size
    have HBW5:=hidP (show w.heap.size<=w5.heap.size from HBW.out.size)
    generalize wr=wc at *
    have e7:(t.regs.map (putN m)).length=i:=HLr.out
    rw [HT.out] at RO
    rw [e7] at RO DN
    clear hlt GR ST RI RR HBW A2 AM PN e7
    go_wp2_with fail
    go_loopg [8] ne (fun k v8 wr=>∃ (i2:Nat) (v:Value),i2+k=ne/\v8=.int .i64 (i2:Int)/\Stay (fun k=>k=g5) wc wr/\Row wr g5 25 [.int .i64 kd,.string SN,.slice ao i cp,v]/\Gro 4 25 (PRt n K.B) wc wr v ((t.elem.take i2).map (subN n m)))
    case atStart=>exact ⟨0,_,by omega,rfl,Stay.refl _ _,RO.out,Gro.nil⟩
    case round =>
     obtain ⟨i2,v,hi,rfl,hst,hro,hgr⟩:=hrel
     have ST:=hidP hst
     have RW:=hidP hro
     have GR:=hidP hgr
     obtain ⟨eo,ep,rfl⟩:=hgr.form
     have hltc:=hidP RO.out.lt
     have RIw2:=hidP (ST.out.row RIr.out (by have:=hg5.out;have:=HZ.out;omega))
     have x3:=RIw2.out.cell 3
     simp only [List.getElem?_cons_zero,List.getElem?_cons_succ] at x3
     clear hst hro hgr RO
     by_cases hlt:i2<ne
     ·obtain ⟨e,hie,b1,o1,rfl,hb1,c1,hl1,hr1,hp1⟩:=A3.out i2 hlt
      have hmem:e∈t.elem:=List.mem_of_getElem? hie
      have HFe:=hidP (HF3.out e hmem)
      have BWr:=hidP (BW.out.trans (ST.out.below (C:=w.heap.size) BW.out.size (fun q hq=>by have:q=g5:=hq;have:=hg5.out;have:=HZ.out;omega)))
      have hr2:=hidP (range_le hr1 BWr.out (Nat.lt_of_lt_of_le hb1 HC.out))
      have HPe:=hidP (fun (y:World) (hy:Below w.heap.size w y)=>hp1.below (below_le hy HC.out))
      have HLe:=hidP (show ((t.elem.take i2).map (subN n m)).length=i2 by rw [List.length_map,List.length_take,HNE.out];omega)
      have HGe:=hidP (show (t.elem.take (i2+1)).map (subN n m)=(t.elem.take i2).map (subN n m) ++ [subN n m e] by
       rw [List.take_add_one,hie,List.map_append];rfl)
      have s1:=hidP (show (Tryz.prog.info? 25).map (·.size)=some c1.length by rw [hl1];exact Tryz.sz25)
      have s1':=hidP (show (Tryz.prog.info? 25).map (·.size)=some c1.toArray.size by rw [List.size_toArray];exact s1.out)
      have e1:=hidP (show (4:Nat)=c1.toArray.size by rw [List.size_toArray];exact hl1.symm)
      have n1:=hidP (one_mem hp1.ones)
      generalize (t.elem.take i2).map (subN n m)=acc at *
      rw [HLe.out] at RW GR
      have hszc:=hidP ST.out.size
      have l1:(i2:Int)<(ne:Int):=by omega
      obtain ⟨ca,cb,cc,cd,rfl⟩:=hp1.four
      have hb1':=hb1
      clear hp1 hr1 hb1 hl1 hmem hie
      have GR9:=hidP GR.out
      have ST9:=hidP ST.out
      have hz9:=hidP hszc.out
      have hbK:=hidP (show b1<w.heap.size from Nat.lt_of_lt_of_le hb1' HC.out)
      have hwc:=hidP (show w.heap.size<wc.heap.size from RIr.out.lt)
      clear s1' e1 n1
      go_wp2_with fail
      have hS1:Row wr.drew g5 25 [.int .i64 kd,.string SN,.slice ao i cp,.slice eo i2 ep]/\Row wr.drew w.heap.size 25 [.int .i64 kd,.string SN,.slice a2 i p2,.slice (some ⟨b1,o1,none⟩) ne p3]/\wr.drew.rangeAt b1 (o1+i2 * 4) [ca,cb,cc,cd]:=⟨RW.out.drew,RIw2.out.drew,range_le hr2.out (Below.refl wr.heap.size wr).drew (World.block_lt_of_cell? wr _ (hr2.out 0 ca rfl))⟩
      have BD:=hidP (BWr.out.drew)
      have ID:=hidP (IH.out _ BD.out [ca,cb,cc,cd] e (HPe.out _ BD.out) HFe.out)
      have GD:=hidP (GR9.out.stay (moRt n K.B) ((Stay.refl (fun _=>False) wr).drew) (fun _ h=>h.elim))
      have SD:=hidP (ST9.out.trans ((Stay.refl (fun k=>k=g5) wr).drew))
      have BES:=hidP (fun (y:World)=>(GD.out.beside (w:=y) (show wc.heap.size<=wr.drew.heap.size from hz9.out):Kp (Fr wr.drew y) (Qv wc y (.slice eo i2 ep)) y y))
      have ZD:=hidP (show wc.heap.size<=wr.drew.heap.size from hz9.out)
      clear RW RIw2 GR9 ST9 BWr hz9 GR ST hr2 hszc x3 hb1'
      refine beginL (fun y=>Row y g5 25 [.int .i64 kd,.string SN,.slice ao i cp,.slice eo i2 ep]/\Row y w.heap.size 25 [.int .i64 kd,.string SN,.slice a2 i p2,.slice (some ⟨b1,o1,none⟩) ne p3]/\y.rangeAt b1 (o1+i2 * 4) [ca,cb,cc,cd]) 12 (by kernel_rfl) hS1 (fun hSS=>?_)
      refine takeL 0 (v:=?_) rfl (some 51) rfl (by decide) (by kernel_rfl) (by kernel_rfl) (by kernel_rfl) (by kernel_rfl) (fun _ _ _ h=>h) (Or.inl ⟨by rfl,?_⟩) hSS ?_
      rotate_left
      ·(intro y hy;go_simp;with_reducible rfl)
      try simp only [Act.put,List.setIfInBounds_toArray,List.set_cons_succ,List.set_cons_zero]
      refine takeL 1 (v:=?_) rfl (some 52) rfl (by decide) (by kernel_rfl) (by kernel_rfl) (by kernel_rfl) (by kernel_rfl) (fun _ _ _ h=>h) (Or.inl ⟨by rfl,?_⟩) hSS ?_
      rotate_left
      ·(intro y hy;obtain ⟨_,_,_,j3⟩:=hy.1.c4;obtain ⟨_,_,_,k3⟩:=hy.2.1.c4;obtain ⟨q0,q1,q2,q3⟩:=rg4 hy.2.2;go_simp;with_reducible rfl)
      try simp only [Act.put,List.setIfInBounds_toArray,List.set_cons_succ,List.set_cons_zero]
      refine takeL 2 (v:=?_) rfl (some 53) rfl (by decide) (by kernel_rfl) (by kernel_rfl) (by kernel_rfl) (by kernel_rfl) (fun _ _ _ h=>h) (Or.inl ⟨by rfl,?_⟩) hSS ?_
      rotate_left
      ·(intro y hy;go_simp;with_reducible rfl)
      try simp only [Act.put,List.setIfInBounds_toArray,List.set_cons_succ,List.set_cons_zero]
      refine takeL 3 (v:=?_) rfl (some 54) rfl (by decide) (by kernel_rfl) (by kernel_rfl) (by kernel_rfl) (by kernel_rfl) (fun _ _ _ h=>h) (Or.inl ⟨by rfl,?_⟩) hSS ?_
      rotate_left
      ·(intro y hy;obtain ⟨_,_,_,j3⟩:=hy.1.c4;obtain ⟨_,_,_,k3⟩:=hy.2.1.c4;obtain ⟨q0,q1,q2,q3⟩:=rg4 hy.2.2;go_simp;with_reducible rfl)
      try simp only [Act.put,List.setIfInBounds_toArray,List.set_cons_succ,List.set_cons_zero]
      refine takeL 4 (v:=?_) rfl (some 55) rfl (by decide) (by kernel_rfl) (by kernel_rfl) (by kernel_rfl) (by kernel_rfl) (fun _ _ _ h=>h) (Or.inl ⟨by rfl,?_⟩) hSS ?_
      rotate_left
      ·(intro y hy;go_simp;with_reducible rfl)
      try simp only [Act.put,List.setIfInBounds_toArray,List.set_cons_succ,List.set_cons_zero]
      refine takeL 5 (v:=?_) rfl (some 56) rfl (by decide) (by kernel_rfl) (by kernel_rfl) (by kernel_rfl) (by kernel_rfl) (fun _ _ _ h=>h) (Or.inl ⟨by rfl,?_⟩) hSS ?_
      rotate_left
      ·(intro y hy;go_simp;with_reducible rfl)
      try simp only [Act.put,List.setIfInBounds_toArray,List.set_cons_succ,List.set_cons_zero]
      refine takeL 6 (v:=?_) rfl (some 57) rfl (by decide) (by kernel_rfl) (by kernel_rfl) (by kernel_rfl) (by kernel_rfl) (fun _ _ _ h=>h) (Or.inl ⟨by rfl,?_⟩) hSS ?_
      rotate_left
      ·(intro y hy;obtain ⟨_,_,_,j3⟩:=hy.1.c4;obtain ⟨_,_,_,k3⟩:=hy.2.1.c4;obtain ⟨q0,q1,q2,q3⟩:=rg4 hy.2.2;go_simp;with_reducible rfl)
      try simp only [Act.put,List.setIfInBounds_toArray,List.set_cons_succ,List.set_cons_zero]
      refine takeL 7 (v:=?_) rfl (some 58) rfl (by decide) (by kernel_rfl) (by kernel_rfl) (by kernel_rfl) (by kernel_rfl) (fun _ _ _ h=>h) (Or.inl ⟨by rfl,?_⟩) hSS ?_
      rotate_left
      ·(intro y hy;go_simp;with_reducible rfl)
      try simp only [Act.put,List.setIfInBounds_toArray,List.set_cons_succ,List.set_cons_zero]
      refine readyL (rs:=[8]) (by kernel_rfl) (by simp) ?_
      refine ReadyL.cons rfl (fun KK hK=>?_) ReadyL.nil
      refine wantR (by rfl) ?_
      go_simp
      refine ID.out.mono ?_
      rintro _ w6 ⟨c6,rfl,hb6,hq6⟩
      have hSS2:=(⟨hSS.1.below hb6 hSS.1.lt,hSS.2.1.below hb6 hSS.2.1.lt,range_le hSS.2.2 hb6 (World.block_lt_of_cell? _ _ (hSS.2.2 0 ca rfl))⟩:Row w6 g5 25 [.int .i64 kd,.string SN,.slice ao i cp,.slice eo i2 ep]/\Row w6 w.heap.size 25 [.int .i64 kd,.string SN,.slice a2 i p2,.slice (some ⟨b1,o1,none⟩) ne p3]/\w6.rangeAt b1 (o1+i2 * 4) [ca,cb,cc,cd])
      have hz6:=hb6.size
      have G6:=hidP (GD.out.past (moRt n K.B) hb6)
      have T6:=hidP (SD.out.trans (Stay.of_below hb6))
      have Z6:=hidP (Nat.le_trans ZD.out hz6)
      have Q6:=hidP hq6
      refine hK.out _ _ (fun _=>hSS2) (fun _=>?_)
      clear hK KK hSS hb6 hq6 GD SD ID BD hz6
      have hSS:=hSS2
      clear hSS2
      try simp only [Act.put,List.setIfInBounds_toArray,List.set_cons_succ,List.set_cons_zero]
      refine readyL (rs:=[9]) (by kernel_rfl) (by simp) ?_
      refine ReadyL.cons rfl (fun KK hK=>?_) ReadyL.nil
      refine wantR (by rfl) ?_
      refine wpo_bsU 23 25 4 72 _ (.agg c6.toArray) (.tmp 59) rfl Tryz.underlying23 Tryz.info25S (by decide) (by decide) rfl c6 rfl Q6.out.len rfl ?_
      intro w7 hR7 hB7 hz7
      have hSS2:=(⟨hSS.1.below hB7 hSS.1.lt,hSS.2.1.below hB7 hSS.2.1.lt,range_le hSS.2.2 hB7 (World.block_lt_of_cell? _ _ (hSS.2.2 0 ca rfl))⟩:Row w7 g5 25 [.int .i64 kd,.string SN,.slice ao i cp,.slice eo i2 ep]/\Row w7 w.heap.size 25 [.int .i64 kd,.string SN,.slice a2 i p2,.slice (some ⟨b1,o1,none⟩) ne p3]/\w7.rangeAt b1 (o1+i2 * 4) [ca,cb,cc,cd])
      have G7:=hidP (G6.out.past (moRt n K.B) hB7)
      have T7:=hidP (T6.out.trans (Stay.of_below hB7))
      have Z7:=hidP (Nat.le_trans Z6.out hB7.size)
      have Q7:=hidP (show RtQ n (Fr wr.drew w7) K.B w7 c6 (subN n m e) from Q6.out.mono (kp_stay (X:=fun _=>False) (Stay.of_below hB7) (fun _ h=>h.elim) (Nat.le_refl _)))
      have R7:=hidP hR7
      refine hK.out (Act.put _ (some 60) _) _ (fun _=>hSS2) (fun _=>?_)
      clear hK KK hSS hB7 hR7 hz7 G6 T6 Z6 Q6
      have hSS:=hSS2
      clear hSS2
      try simp only [Act.put,List.setIfInBounds_toArray,List.set_cons_succ,List.set_cons_zero]
      refine readyL (rs:=[10]) (by kernel_rfl) (by simp) ?_
      refine ReadyL.cons rfl (fun KK hK=>?_) ReadyL.nil
      refine wantR (by rfl) ?_
      refine wpo_groK (.tmp 52) (.tmp 60) (moRt n K.B) rfl Tryz.underlying23 Tryz.info25S rfl (by decide) rfl rfl G7.out Z7.out R7.out Q7.out.len Q7.out.ones (x:=subN n m e) (Q7.out.mono (BES.out w7)) (by have:=HLe.out;omega) (by decide) ?_
      intro fo fp w8 G8 B8 K8
      rw [HLe.out] at G8
      have hSS2:=(⟨hSS.1.below B8 hltc.out,hSS.2.1.below B8 hwc.out,range_le hSS.2.2 B8 (Nat.lt_trans hbK.out hwc.out)⟩:Row w8 g5 25 [.int .i64 kd,.string SN,.slice ao i cp,.slice eo i2 ep]/\Row w8 w.heap.size 25 [.int .i64 kd,.string SN,.slice a2 i p2,.slice (some ⟨b1,o1,none⟩) ne p3]/\w8.rangeAt b1 (o1+i2 * 4) [ca,cb,cc,cd])
      have T8:=hidP (T7.out.step (stay_up B8) (fun i hi hy=>absurd hi (Nat.not_lt.2 hy)))
      replace G8:=hidP G8
      try rw [HLe.out]
      refine hK.out (Act.put _ (some 61) _) _ (fun _=>hSS2) (fun _=>?_)
      clear hK KK hSS B8 K8 G7 T7 Z7 Q7 R7
      have hSS:=hSS2
      clear hSS2
      try simp only [Act.put,List.setIfInBounds_toArray,List.set_cons_succ,List.set_cons_zero]
      refine takeL 11 (v:=?_) rfl (some 62) rfl (by decide) (by kernel_rfl) (by kernel_rfl) (by kernel_rfl) (by kernel_rfl) (fun _ _ _ h=>h) (Or.inl ⟨by rfl,?_⟩) hSS ?_
      rotate_left
      ·(intro y hy;go_simp;with_reducible rfl)
      try simp only [Act.put,List.setIfInBounds_toArray,List.set_cons_succ,List.set_cons_zero]
      refine readyL (rs:=[12]) (by kernel_rfl) (by simp) ?_
      refine ReadyL.cons rfl (fun KK hK=>?_) ReadyL.nil
      refine wantR (by rfl) ?_
      refine wpo_stC (v:=.slice fo (i2+1) fp) 23 (.tmp 62) (.tmp 61) rfl rfl rfl hSS.1 (sv23 hSS.1 rfl _ _ _) ?_
      intro w9 R9 S9
      simp only [List.set_cons_zero,List.set_cons_succ] at R9
      have G9:=hidP (G8.out.stay (moRt n K.B) S9 (fun k e=>by have:k=g5:=e;have:=hltc.out;omega))
      have T9:=hidP (T8.out.trans S9)
      replace R9:=hidP R9
      refine hK.out (Act.put _ none _) _ (fun h=>absurd rfl h) (fun _=>?_)
      clear hK KK hSS T8 G8 S9
      refine doneL (by kernel_rfl) ?_ _
      go_wp2_with fail
      go_roundg (gk - 1)
      case measure=>omega
      case rel=>exact ⟨i2+1,_,by omega,by go_num,T9.out,R9.out,by rw [HGe.out];exact G9.out⟩
     ·have e:ne=i2:=by omega
      have HT:=hidP (show t.elem.take i2=t.elem by rw [← e,← HNE.out,List.take_length])
      rw [HT.out] at GR RW
      have HLe:=hidP (show (t.elem.map (subN n m)).length=ne by rw [List.length_map,HNE.out])
      have DE:=hidP (GR.out.done (bz:=72) (moRt n K.B) (by have:=HLe.out;omega))
      rw [HLe.out] at DE RW
      have RI2:=hidP (ST.out.row RIr.out (by have:=hg5.out;have:=HZ.out;omega))
      have RR2:=hidP (ST.out.row RRr.out (by have:=hg5.out;have:=HZ.out;omega))
      have BW2:=hidP (BW.out.trans (ST.out.below (C:=w.heap.size) BW.out.size (fun q hq=>by have:q=g5:=hq;have:=hg5.out;have:=HZ.out;omega)))
      have K2:=hidP (show Kp (Fr w5 wc) (Fr w5 wr) wc wr from kp_stay ST.out (fun k e=>by have:k=g5:=e;have:=hlt5.out;omega) (Nat.le_refl _))
      have hzc:=hidP ST.out.size
      clear GR ST RIr RRr BW HT A3 IH
      go_wp2_with (first|(refine ldR rfl 25 (.tmp 5) rfl rfl RW.out Tryz.underlying25 rfl Tryz.sz25 ?_)|(refine stR rfl 25 (.tmp 4) (.tmp 63) rfl (cs:=[.int .i64 kd,.string SN,.slice ao i cp,.slice eo ne ep]) rfl rfl RR2.out Tryz.sz25 rfl (ones_cons rfl (ones_cons rfl (ones_cons rfl (ones_cons rfl ones_nil)))) ?_;intro wF RF SF;apply shut))
      show wpList _ _ _ _ _ _
      have BF:=hidP (BW2.out.trans (SF.below (C:=w.heap.size) BW2.out.size (fun q hq=>by have:q=w.heap.size+1:=hq;omega)))
      have hne9:∀ k,k=w.heap.size+1->k<w5.heap.size:=fun k e=>by have:=hlt5.out;have:=hg5.out;have:=HZ.out;omega
      have KA:=hidP (show Kp (Fr w5 wr) (Fr w wF) wr wF from kp_stay SF (fun k e=>hne9 k e) (by have:=HBW5.out;omega))
      have KB:=hidP (show Kp (Fr wc wr) (Fr w wF) wr wF from kp_stay SF (fun k e=>Nat.lt_of_lt_of_le (hne9 k e) hz5.out) (by have:=HBW5.out;have:=hz5.out;omega))
      have DA:=hidP (show ArQ 1 8 NmAt (Fr w wF) wF (.slice ao i cp) (t.regs.map (putN m)) from (DN.out.mono K2.out fun _ _ _ h=>h).mono KA.out fun _ _ _ h=>h)
      have DB:=hidP (show ArQ 4 72 (RtQ n (Fr w wF) K.B wF) (Fr w wF) wF (.slice eo ne ep) (t.elem.map (subN n m)) from DE.out.mono KB.out fun _ _ _ h=>RtQ.mono KB.out h)
      replace RF:=hidP RF
      clear SF KA KB DN DE K2 hne9 RW RR2
      go_wp2_with fail
      exact bodyPost_ret (v:=.agg #[.int .i64 kd,.string SN,.slice ao i cp,.slice eo ne ep]) (results_cell_row Tryz.results20 _ _ (w.heap.size+1) 25 _ (0,0) _ rfl RF.out.heap Tryz.underlying25 rfl (by kernel_rfl)) rfl ⟨[.int .i64 kd,.string SN,.slice ao i cp,.slice eo ne ep],rfl,BF.out,by
       rw [HSB.out]
       exact ⟨_,_,by rw [HSN.out],HBN.out,DA.out,DB.out⟩⟩
end Go.Proofs.YtldbbkheemnnhaaGreatDoor

namespace Go.Proofs.YtldbbkheemnnhaaGreatDoor
open Go.RowKit
theorem pairL_self {both : Bool} : ∀ {l : List Int} {p : Int × Int}, p ∈ pairL both l l -> p.1 = p.2
 | [], _, h => by simp [pairL] at h
 | x :: l, p, h => by
  simp only [pairL, List.mem_append] at h
  rcases h with h | h
  ·cases both <;> simp at h
   ·rw [h]
   ·rw [h]
  ·exact pairL_self h
theorem ask_self : ∀ {n : Nat} {both : Bool} {t : RTy} {p : Int × Int}, p ∈ askL n both t t -> p.1 = p.2
 | 0, _, _, _, h => by simp [askL] at h
 | n + 1, both, t, p, h => by
  rw [askL_succ, List.mem_append] at h
  rcases h with h | h
  ·unfold ownP at h
   split at h
   ·exact pairL_self h
   ·split at h
    ·exact pairL_self h
    ·cases h
  ·cases hx : nxtR t with
   | none => rw [hx] at h; simp [resA] at h
   | some x => rw [hx] at h; exact ask_self h
theorem sub_self {n : Nat} {t : RTy} {p : Int × Int} (h : p ∈ subL n t t) : p.1 = p.2 := by
 unfold subL at h
 split at h
 ·exact ask_self h
 ·cases h
def Two (l : List (Int × Int)) (p : Int × Int) : Prop := ∃ r, (p.1, r) ∈ l /\ (r, p.2) ∈ l
theorem Two.mono {l k : List (Int × Int)} {p : Int × Int} (h : Two l p) (hs : ∀ q ∈ l, q ∈ k) : Two k p := by
 obtain ⟨r, h1, h2⟩ := h
 exact ⟨r, hs _ h1, hs _ h2⟩
theorem pair3 {both : Bool} : ∀ {la lb lc : List Int}, la.length = lb.length -> lb.length = lc.length -> ∀ {p : Int × Int}, p ∈ pairL both la lc -> Two (pairL both la lb ++ pairL both lb lc) p
 | [], _, _, _, _, _, h => by simp [pairL] at h
 | _ :: _, [], _, h, _, _, _ => by cases h
 | _ :: _, _ :: _, [], _, h, _, _ => by cases h
 | x :: la, y :: lb, z :: lc, h1, h2, p, h => by
  simp only [pairL, List.mem_append] at h
  rcases h with h | h
  ·cases both with
   | false =>
    have e : p = (x, z) := by simpa using h
    subst e
    exact ⟨y, by simp [pairL], by simp [pairL]⟩
   | true =>
    have e : p = (x, z) ∨ p = (z, x) := by simpa using h
    rcases e with rfl | rfl
    ·exact ⟨y, by simp [pairL], by simp [pairL]⟩
    ·exact ⟨y, by simp [pairL], by simp [pairL]⟩
  ·refine (pair3 (both := both) (by simpa using h1) (by simpa using h2) h).mono fun q hq => ?_
   simp only [pairL]
   rcases List.mem_append.1 hq with hq | hq
   ·exact List.mem_append_left _ (List.mem_append_right _ hq)
   ·exact List.mem_append_right _ (List.mem_append_right _ hq)
theorem ask3 : ∀ {n : Nat} {both : Bool} {a b c : RTy}, sameN n a b = true -> sameN n b c = true -> ∀ {p : Int × Int}, p ∈ askL n both a c -> Two (askL n both a b ++ askL n both b c) p
 | 0, _, _, _, _, h, _, _, _ => by cases h
 | n + 1, both, a, b, c, h1, h2, p, h => by
  have k1 := (sameN_parts h1).1
  have k2 := (sameN_parts h2).1
  rw [askL_succ, List.mem_append] at h
  rw [askL_succ, askL_succ, ← k1]
  rcases h with h | h
  ·have hm : Two (ownP both a b ++ ownP both b c) p := by
    unfold ownP at h ⊢
    rw [← k1]
    by_cases k3 : a.kind = 3
    ·rw [if_pos k3] at h
     rw [if_pos k3, if_pos k3]
     exact pair3 (sameN_own h1) (sameN_own h2) h
    ·rw [if_neg k3] at h
     rw [if_neg k3, if_neg k3]
     by_cases k4 : a.kind = 4 ∨ a.kind = 5
     ·rw [if_pos k4] at h
      rw [if_pos k4, if_pos k4]
      exact pair3 (sameN_own h1) (sameN_own h2) h
     ·rw [if_neg k4] at h
      cases h
   refine hm.mono fun q hq => ?_
   rcases List.mem_append.1 hq with hq | hq
   ·exact List.mem_append_left _ (List.mem_append_left _ hq)
   ·exact List.mem_append_right _ (List.mem_append_left _ hq)
  ·have s1 := sameN_next h1
   have s2 := sameN_next h2
   generalize nxtR a = x at h s1 ⊢
   generalize nxtR b = y at s1 s2 ⊢
   generalize nxtR c = z at h s2 ⊢
   match x, y, z, s1, s2, h with
   | some x, some y, some z, s1, s2, h =>
    refine (ask3 (n := n) s1 s2 h).mono fun q hq => ?_
    rcases List.mem_append.1 hq with hq | hq
    ·exact List.mem_append_left _ (List.mem_append_right _ hq)
    ·exact List.mem_append_right _ (List.mem_append_right _ hq)
   | none, none, none, _, _, h => cases h
theorem allS_map2 {p : RTy -> RTy -> Bool} {f g : RTy -> RTy} : ∀ {l : List RTy}, (∀ e ∈ l, p (f e) (g e) = true) -> allS p (l.map f) (l.map g) = true
 | [], _ => rfl
 | x :: l, h => by
  simp only [List.map_cons, allS, Bool.and_eq_true]
  exact ⟨h x List.mem_cons_self, allS_map2 fun e he => h e (List.mem_cons_of_mem _ he)⟩
theorem same_maps {m l : List Int} : ∀ {n : Nat} {t : RTy}, Fit n t -> sameN n (subN n m t) (subN n l t) = true
 | 0, _, h => h.elim
 | n + 1, t, h => by
  simp only [sameN, subN, List.length_map, beq_self_eq_true, decide_true, Bool.true_and]
  exact allS_map2 fun e he => same_maps (h.2.2 e he)
theorem same_left {m : List Int} : ∀ {n : Nat} {t : RTy}, Fit n t -> sameN n t (subN n m t) = true
 | 0, _, h => h.elim
 | n + 1, t, h => by
  simp only [sameN, subN, List.length_map, beq_self_eq_true, decide_true, Bool.true_and]
  have := allS_map2 (p := sameN n) (f := id) (g := subN n m) (l := t.elem) fun e he => same_left (h.2.2 e he)
  rwa [List.map_id] at this
theorem order_two {n : Nat} {m l : List Int} {t : RTy} (hf : Fit n t) {p : Int × Int} (h : p ∈ subL n t (subN n l t)) : Two (subL n t (subN n m t) ++ subL n (subN n m t) (subN n l t)) p := by
 have h1 : sameN n t (subN n m t) = true := same_left hf
 have h2 : sameN n (subN n m t) (subN n l t) = true := same_maps hf
 have h3 : sameN n t (subN n l t) = true := same_left hf
 unfold subL at h ⊢
 rw [if_pos h3] at h
 rw [if_pos h1, if_pos h2]
 exact ask3 h1 h2 h
end Go.Proofs.YtldbbkheemnnhaaGreatDoor
