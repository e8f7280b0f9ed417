/- Part of the proof. -/
import Derived.Test.YtjenmmkamhplkaaGreatJqspYv12
import Derived.Test.YtjenmmkamhplkaaGreatJqspYv32
import Derived.Test.YtjenmmkamhplkaaGreatQqspYv5
import Derived.Test.YtjenmmkamhplkaaGreatJqspYlv2
import Derived.Deep.RegionHeld3
import Derived.Test.YtjenmmkamhplkaaGreatJqspFew4
namespace Go.Proofs.YtjenmmkamhplkaaGreat
open Go.RowKit
set_option maxHeartbeats 8000000 in
set_option maxRecDepth 20000 in
theorem xval_none {K:Ctx} {w:World} {v:Va} {cs:List Value} (hx:VaAt K w cs v) (hk:¬ (v.kind=1∨v.kind=2∨v.kind=3∨v.kind=4∨v.kind=5∨v.kind=6∨v.kind=7)) (B:Bool) (hB:B=true↔MayVa v) :
  Calls Tryz.prog 93 #[.agg cs.toArray] w (Rb B w):=by
 obtain ⟨xa,xb,ps,vn,va,rfl,ha,hb,hp,hnl,hns,har⟩:=hx
 obtain ⟨pa,rfl,hpa⟩:=id ha
 obtain ⟨pb,rfl,hpb⟩:=id hb
 obtain ⟨va1,rfl,hla,hsa⟩:=id hpa
 obtain ⟨vb1,rfl,hlb,hsb⟩:=id hpb
 obtain ⟨vp1,rfl,hlp,hsp⟩:=id hp
 obtain ⟨aa,ca,rfl⟩:=hsa.form
 obtain ⟨ab,cb,rfl⟩:=hsb.form
 obtain ⟨ap,cp,rfl⟩:=hsp.form
 obtain ⟨an,cn,rfl⟩:=hns.form
 obtain ⟨ag,cg,rfl⟩:=har.form
 have HF:Hid (B=false):=bool_false hB (va_none hk)
 have HW:Hid (Below w.heap.size w ((w.alloc (.cells #[.int .i64 v.kind,.int .i64 v.a.kind,.int .i64 v.a.n,.string (str v.a.place.name),.slice aa v.a.place.path.length ca,.int .i64 v.b.kind,.int .i64 v.b.n,.string (str v.b.place.name),.slice ab v.b.place.path.length cb,.int .i64 v.op,.string (str v.place.name),.slice ap v.place.path.length cp,.string (str v.name),.slice an v.names.length cn,.slice ag v.args.length cg] 47)).alloc (.cells #[.int .i64 0,.int .i64 v.a.kind,.int .i64 v.a.n,.string (str v.a.place.name),.slice aa v.a.place.path.length ca,.int .i64 v.b.kind,.int .i64 v.b.n,.string (str v.b.place.name),.slice ab v.b.place.path.length cb,.int .i64 v.op,.string (str v.place.name),.slice ap v.place.path.length cp,.string (str v.name),.slice an v.names.length cn,.slice ag v.args.length cg] 47))):=alloc_two _ _ _
 have h01:(v.kind == 1)=false:=by simp;omega
 have h02:(v.kind == 2)=false:=by simp;omega
 have h03:(v.kind == 3)=false:=by simp;omega
 have h04:(v.kind == 4)=false:=by simp;omega
 have h05:(v.kind == 5)=false:=by simp;omega
 have h06:(v.kind == 6)=false:=by simp;omega
 have h07:(v.kind == 7)=false:=by simp;omega
 clear hk hB hpa hpb hla hlb hsa hsb hsp hns har ha hb hp hnl hlp
 go_enter Tryz.func93,Tryz.ntmps93
 go_wp2_with fail
 go_ret
 exact ⟨by rw [HF.out];rfl,HW.out⟩
theorem xval_any {K:Ctx} {w:World} (he:Env K w) {v:Va} {cs:List Value} (hx:VaAt K w cs v) (B:Bool) (hB:B=true↔MayVa v) :
  Calls Tryz.prog 93 #[.agg cs.toArray] w (Rb B w):=by
 by_cases h1:v.kind=1∨v.kind=4
 ·exact xval_oper he hx h1 B hB
 by_cases h2:v.kind=2∨v.kind=3
 ·exact xval_ref he hx h2 B hB
 by_cases h5:v.kind=5
 ·exact xval_op he hx h5 B hB
 by_cases h6:v.kind=6
 ·exact xval_call he hx h6 B hB
 by_cases h7:v.kind=7
 ·exact xval_make he hx h7 B hB
 exact xval_none hx (by omega) B hB

set_option maxHeartbeats 8000000 in
set_option maxRecDepth 20000 in
theorem xsameType_of {n:Nat} (ih:∀ {K:Ctx} {w:World},K.C<=w.heap.size->∀ {x y:Ty} {cs cs':List Value},TyAt n K w cs x->TyAt n K w cs' y->∀ (B:Bool),(B=true↔x=y)->Calls Tryz.prog 16 #[.agg cs.toArray,.agg cs'.toArray] w fun ev w'=>ev=.returned (.bool B)/\Below w.heap.size w w') {K:Ctx} {w:World} (hC:K.C<=w.heap.size) {x y:Ty} {cs cs':List Value} (hx:TyAt (n+1) K w cs x) (hy:TyAt (n+1) K w cs' y) (B:Bool) (hB:B=true↔x=y) :
  Calls Tryz.prog 16 #[.agg cs.toArray,.agg cs'.toArray] w fun ev w'=>ev=.returned (.bool B)/\Below w.heap.size w w':=by
 obtain ⟨v2,v3,rfl,hl1,h2,hsx⟩:=hx
 obtain ⟨u2,u3,rfl,hl2,g2,hsy⟩:=hy
 obtain ⟨a2,c2,e2'⟩:=h2.form
 obtain ⟨a2',c2',e3'⟩:=g2.form
 obtain ⟨a3,c3,e4'⟩:=hsx.form
 obtain ⟨a3',c3',e5'⟩:=hsy.form
 obtain ⟨w2,hw2⟩:∃ w2,w2=((w.alloc (.cells #[.int .i64 x.kind,.string (str x.name),v2,v3] 31)).alloc (.cells #[.int .i64 y.kind,.string (str y.name),u2,u3] 31)):=⟨_,rfl⟩
 have hA:Below w.heap.size w w2:=by rw [hw2];exact alloc_two w _ _
 have hsz:w2.heap.size=w.heap.size+2:=by rw [hw2,size_alloc,size_alloc]
 have R1:Row w2 w.heap.size 31 [.int .i64 x.kind,.string (str x.name),v2,v3]:=by rw [hw2];exact (Row.new w 31 [.int .i64 x.kind,.string (str x.name),v2,v3]).alloc _
 have R2:Row w2 (w.heap.size+1) 31 [.int .i64 y.kind,.string (str y.name),u2,u3]:=by
  have:=Row.new (w.alloc (.cells #[.int .i64 x.kind,.string (str x.name),v2,v3] 31)) 31 [.int .i64 y.kind,.string (str y.name),u2,u3]
  rw [size_alloc] at this;rw [hw2];exact this
 have HB0:Hid (Below (w.heap.size+2) w2 ((w.alloc (.cells #[.int .i64 x.kind,.string (str x.name),v2,v3] 31)).alloc (.cells #[.int .i64 y.kind,.string (str y.name),u2,u3] 31))):=by show Below _ _ _;rw [← hw2];exact Below.refl _ _
 clear hw2
 have HS:Hid (∀ W,Below (w.heap.size+2) w2 W->W.cell? ⟨w.heap.size,0,none⟩=some (.int .i64 x.kind)/\W.cell? ⟨w.heap.size,1,none⟩=some (.string (str x.name))/\W.cell? ⟨w.heap.size,2,none⟩=some (v2)/\W.cell? ⟨w.heap.size,3,none⟩=some (v3)/\W.cell? ⟨w.heap.size+1,0,none⟩=some (.int .i64 y.kind)/\W.cell? ⟨w.heap.size+1,1,none⟩=some (.string (str y.name))/\W.cell? ⟨w.heap.size+1,2,none⟩=some (u2)/\W.cell? ⟨w.heap.size+1,3,none⟩=some (u3)):=by
  intro W hb
  have r1:=R1.below hb (by omega)
  have r2:=R2.below hb (by omega)
  exact ⟨r1.cell 0,r1.cell 1,r1.cell 2,r1.cell 3,r2.cell 0,r2.cell 1,r2.cell 2,r2.cell 3⟩
 have HW:Hid (∀ W,Below (w.heap.size+2) w2 W->Below w.heap.size w W):=fun W hb=>hA.trans (below_le hb (by omega))
 have HK:∀ W,Below (w.heap.size+2) w2 W->Below K.C w W:=fun W hb=>below_le (HW.out W hb) hC
 have HC:∀ W,Below (w.heap.size+2) w2 W->K.C<=W.heap.size/\w.heap.size+2<=W.heap.size:=fun W hb=>by have:=hb.size;omega
 have HB:Hid (B=true↔x=y):=hB
 clear hB
 have q2:Hid (∀ (B:Bool),(B=true↔x.lives=y.lives)->∀ W,Below (w.heap.size+2) w2 W->Calls Tryz.prog 20 #[v2,u2] W fun ev w'=>ev=.returned (.bool B)/\Below (w.heap.size+2) w2 w'):=by
  intro B hB W hb
  refine (texts_any (h2.below (HK W hb)) (g2.below (HK W hb)) B hB).mono ?_
  rintro _ _ ⟨rfl,m,rfl⟩
  exact ⟨rfl,hb.trans (Below.drewN _ _ _)⟩
 by_cases e0:x.kind=y.kind
 rotate_left
 ·have HF:Hid (B=false):=bool_false HB.out (fun h=>e0 (by rw [h]))
  have p0:(x.kind != y.kind)=true:=by simp [e0]
  clear q2 e0 HB HK HC R1 R2 hA hsz hl1 hl2 h2 g2 hsx hsy ih
  subst e2' e3' e4' e5'
  generalize x.kind=s0,y.kind=t0,str x.name=S1,str y.name=S2,x.lives.length=n1,y.lives.length=n2,x.elem.length=n3,y.elem.length=n4 at *
  go_enter Tryz.func16,Tryz.ntmps16
  go_wp2_with fail
  go_ret
  exact ⟨by rw [HF.out];rfl,HW.out _ (by first|assumption|exact HB0.out)⟩
 by_cases e1:x.name=y.name
 rotate_left
 ·have HF:Hid (B=false):=bool_false HB.out (fun h=>e1 (by rw [h]))
  have p0:(x.kind != y.kind)=false:=by simp [e0]
  have p1':((str x.name).toList == (str y.name).toList)=false:=by rw [str_beq];simp [e1]
  have p1:((str x.name).toList != (str y.name).toList)=true:=by rw [bne,str_beq];simp [e1]
  clear q2 e0 e1 HB HK HC R1 R2 hA hsz hl1 hl2 h2 g2 hsx hsy ih
  subst e2' e3' e4' e5'
  generalize x.kind=s0,y.kind=t0,str x.name=S1,str y.name=S2,x.lives.length=n1,y.lives.length=n2,x.elem.length=n3,y.elem.length=n4 at *
  go_enter Tryz.func16,Tryz.ntmps16
  go_wp2_with fail
  go_ret
  exact ⟨by rw [HF.out];rfl,HW.out _ (by first|assumption|exact HB0.out)⟩
 by_cases e2:x.lives=y.lives
 rotate_left
 ·have HF:Hid (B=false):=bool_false HB.out (fun h=>e2 (by rw [h]))
  have p0:(x.kind != y.kind)=false:=by simp [e0]
  have p1':((str x.name).toList == (str y.name).toList)=true:=by rw [str_beq];simp [e1]
  have p1:((str x.name).toList != (str y.name).toList)=false:=by rw [bne,str_beq];simp [e1]
  have r2:=hid0 (q2.out false ⟨fun h=>(by cases h),fun h=>absurd h e2⟩)
  clear q2 e0 e1 e2 HB HK HC R1 R2 hA hsz hl1 hl2 h2 g2 hsx hsy ih
  subst e2' e3' e4' e5'
  generalize x.kind=s0,y.kind=t0,str x.name=S1,str y.name=S2,x.lives.length=n1,y.lives.length=n2,x.elem.length=n3,y.elem.length=n4 at *
  go_enter Tryz.func16,Tryz.ntmps16
  go_wp2_with fail
  refine (r2.out _ HB0.out).mono ?_
  rintro _ W2 ⟨rfl,hb2⟩
  obtain ⟨a0,a1,a2,a3,b0,b1,b2,b3⟩:=HS.out W2 hb2
  go_wp2_with fail
  go_ret
  exact ⟨by rw [HF.out];rfl,HW.out _ (by first|assumption|exact HB0.out)⟩
 by_cases e3:x.elem.length=y.elem.length
 rotate_left
 ·have HF:Hid (B=false):=bool_false HB.out (fun h=>e3 (by rw [h]))
  have p0:(x.kind != y.kind)=false:=by simp [e0]
  have p1':((str x.name).toList == (str y.name).toList)=true:=by rw [str_beq];simp [e1]
  have p1:((str x.name).toList != (str y.name).toList)=false:=by rw [bne,str_beq];simp [e1]
  have r2:=hid0 (q2.out true ⟨fun _=>e2,fun _=>rfl⟩)
  have p3:((x.elem.length:Int) != (y.elem.length:Int))=true:=by simp;omega
  clear q2 e0 e1 e2 e3 HB HK HC R1 R2 hA hsz hl1 hl2 h2 g2 hsx hsy ih
  subst e2' e3' e4' e5'
  generalize x.kind=s0,y.kind=t0,str x.name=S1,str y.name=S2,x.lives.length=n1,y.lives.length=n2,x.elem.length=n3,y.elem.length=n4 at *
  go_enter Tryz.func16,Tryz.ntmps16
  go_wp2_with fail
  refine (r2.out _ HB0.out).mono ?_
  rintro _ W2 ⟨rfl,hb2⟩
  obtain ⟨a0,a1,a2,a3,b0,b1,b2,b3⟩:=HS.out W2 hb2
  go_wp2_with fail
  go_ret
  exact ⟨by rw [HF.out];rfl,HW.out _ (by first|assumption|exact HB0.out)⟩
 have p0:(x.kind != y.kind)=false:=by simp [e0]
 have p1':((str x.name).toList == (str y.name).toList)=true:=by rw [str_beq];simp [e1]
 have p1:((str x.name).toList != (str y.name).toList)=false:=by rw [bne,str_beq];simp [e1]
 have r2:=hid0 (q2.out true ⟨fun _=>e2,fun _=>rfl⟩)
 have p3:((x.elem.length:Int) != (y.elem.length:Int))=false:=by simp;omega
 obtain ⟨ax,cx,ex,hcx,hbx,HAx⟩:=hsx.shape
 obtain ⟨ay,cy,ey,hcy,hby,HAy⟩:=hsy.shape
 have hl9:x.elem.length<=9223372036854775807:=by omega
 have HL:Hid (x.elem.length=y.elem.length):=e3
 have HE:Hid (∀ i (h:i<x.elem.length) (h':i<y.elem.length),∃ (b o b' o':Nat) (c0 c1 c2 c3 d0 d1 d2 d3:Value),ax=some ⟨b,o,none⟩/\ay=some ⟨b',o',none⟩/\(∀ W,Below (w.heap.size+2) w2 W->W.cell? ⟨b,o+i * 4,none⟩=some c0/\W.cell? ⟨b,o+i * 4+1,none⟩=some c1/\W.cell? ⟨b,o+i * 4+2,none⟩=some c2/\W.cell? ⟨b,o+i * 4+3,none⟩=some c3/\W.cell? ⟨b',o'+i * 4,none⟩=some d0/\W.cell? ⟨b',o'+i * 4+1,none⟩=some d1/\W.cell? ⟨b',o'+i * 4+2,none⟩=some d2/\W.cell? ⟨b',o'+i * 4+3,none⟩=some d3)/\(∀ W B,Below (w.heap.size+2) w2 W->(B=true↔x.elem[i]=y.elem[i])->Calls Tryz.prog 16 #[.agg #[c0,c1,c2,c3],.agg #[d0,d1,d2,d3]] W fun ev w'=>ev=.returned (.bool B)/\Below (w.heap.size+2) w2 w')):=by
  intro i h h'
  obtain ⟨b,o,e,hbC,cs,hl,hcs,kx⟩:=HAx i h
  obtain ⟨b',o',e',hbC',cs',hl',hcs',ky⟩:=HAy i h'
  obtain ⟨c0,c1,c2,c3,rfl⟩:=list4 hl
  obtain ⟨d0,d1,d2,d3,rfl⟩:=list4 hl'
  refine ⟨b,o,b',o',c0,c1,c2,c3,d0,d1,d2,d3,e,e',fun W hw=>?_,fun W B hw hB=>?_⟩
  ·exact ⟨((HK W hw).cell (p:=⟨b,o+i * 4,none⟩) hbC).trans (hcs 0 (by decide)),((HK W hw).cell (p:=⟨b,o+i * 4+1,none⟩) hbC).trans (hcs 1 (by decide)),((HK W hw).cell (p:=⟨b,o+i * 4+2,none⟩) hbC).trans (hcs 2 (by decide)),((HK W hw).cell (p:=⟨b,o+i * 4+3,none⟩) hbC).trans (hcs 3 (by decide)),((HK W hw).cell (p:=⟨b',o'+i * 4,none⟩) hbC').trans (hcs' 0 (by decide)),((HK W hw).cell (p:=⟨b',o'+i * 4+1,none⟩) hbC').trans (hcs' 1 (by decide)),((HK W hw).cell (p:=⟨b',o'+i * 4+2,none⟩) hbC').trans (hcs' 2 (by decide)),((HK W hw).cell (p:=⟨b',o'+i * 4+3,none⟩) hbC').trans (hcs' 3 (by decide))⟩
  ·refine (ih (HC W hw).1 (kx.below (HK W hw)) (ky.below (HK W hw)) B hB).mono ?_
   rintro _ _ ⟨rfl,h⟩
   exact ⟨rfl,hw.trans (below_le h (HC W hw).2)⟩
 have HQ:Hid ((∀ j (h:j<x.elem.length) (h':j<y.elem.length),x.elem[j]=y.elem[j])->B=true):=by
  intro hall
  refine HB.out.2 ?_
  have ee:x.elem=y.elem:=eq_upto HL.out hall
  clear q2 HB HS HW HK HC R1 R2 hA hsz HE hsx hsy;cases x;cases y;simp only at e0 e1 e2 ee;subst e0 e1 e2 ee;rfl
 have HN:Hid (∀ j (h:j<x.elem.length) (h':j<y.elem.length),x.elem[j]≠y.elem[j]->B=false):=fun j h h' hne=>bool_false HB.out (fun e=>hne (by subst e;rfl))
 clear q2 e0 e1 e2 e3 HB HK HC R1 R2 hA hsz hcx hcy hbx hby HAx HAy hsx hsy hl1 hl2 h2 g2 e4' e5' ih
 subst e2' e3'
 subst ex ey
 generalize x.kind=s0,y.kind=t0,str x.name=S1,str y.name=S2,x.lives.length=n1,y.lives.length=n2,hLX:x.elem=LX,hLY:y.elem=LY at *
 clear hLX hLY
 go_enter Tryz.func16,Tryz.ntmps16
 go_wp2_with fail
 refine (r2.out _ HB0.out).mono ?_
 rintro _ W2 ⟨rfl,hb2⟩
 obtain ⟨a0,a1,a2,a3,b0,b1,b2,b3⟩:=HS.out W2 hb2
 go_wp2_with fail
 go_loopw [5] (fun i wr=>∃ k:Nat,k<=LX.length/\i=.int .i64 k/\(∀ j (h:j<LX.length) (h':j<LY.length),j<k->LX[j]=LY[j])/\Below (w.heap.size+2) w2 wr) (fun i _=>LX.length - (intOf i).toNat)
 case atStart=>exact ⟨0,by omega,rfl,fun j _ _ h=>by omega,by first|assumption|exact HB0.out⟩
 case round =>
  obtain ⟨k,hk,rfl,hj,hbw⟩:=hrel
  have HJ:=hid0 hj
  have HBW:Hid (Below (w.heap.size+2) w2 wr):=hbw
  clear hj hbw HB0
  clear a0 b0 a1 b1 a2 b2 a3 b3 hb2 r2
  obtain ⟨a0,a1,a2,a3,b0,b1,b2,b3⟩:=HS.out wr HBW.out
  by_cases h3:k<LX.length
  ·have h4:k<LY.length:=by rw [← HL.out];exact h3
   obtain ⟨b,o,b',o',c0,c1,c2,c3,d0,d1,d2,d3,ex1,ey1,hcell,hcall⟩:=HE.out k h3 h4
   subst ex1 ey1
   have i1:(k:Int)<(LX.length:Int):=by omega
   have i2:(k:Int)<(LY.length:Int):=by omega
   have mkS:Hid (∀ z,Below (w.heap.size+2) w2 z->Below (w.heap.size+2) w2 z/\z.cell? ⟨w.heap.size,3,none⟩=some (.slice (some ⟨b,o,none⟩) (LX.length) cx)/\z.cell? ⟨w.heap.size+1,3,none⟩=some (.slice (some ⟨b',o',none⟩) (LY.length) cy)/\z.cell? ⟨b,o+k * 4,none⟩=some c0/\z.cell? ⟨b,o+k * 4+1,none⟩=some c1/\z.cell? ⟨b,o+k * 4+2,none⟩=some c2/\z.cell? ⟨b,o+k * 4+3,none⟩=some c3/\z.cell? ⟨b',o'+k * 4,none⟩=some d0/\z.cell? ⟨b',o'+k * 4+1,none⟩=some d1/\z.cell? ⟨b',o'+k * 4+2,none⟩=some d2/\z.cell? ⟨b',o'+k * 4+3,none⟩=some d3):=by
    intro z hb
    obtain ⟨x0,x1,x2,x3,y0,y1,y2,y3⟩:=HS.out z hb
    exact ⟨hb,x3,y3,hcell z hb⟩
   have HS0:=mkS.out wr.drew HBW.out.drew
   clear a0 b0 a1 b1 a2 b2 hcell
   by_cases he:LX[k]=LY[k]
   ·have D:Hid (∀ z,(Below (w.heap.size+2) w2 z/\z.cell? ⟨w.heap.size,3,none⟩=some (.slice (some ⟨b,o,none⟩) (LX.length) cx)/\z.cell? ⟨w.heap.size+1,3,none⟩=some (.slice (some ⟨b',o',none⟩) (LY.length) cy)/\z.cell? ⟨b,o+k * 4,none⟩=some c0/\z.cell? ⟨b,o+k * 4+1,none⟩=some c1/\z.cell? ⟨b,o+k * 4+2,none⟩=some c2/\z.cell? ⟨b,o+k * 4+3,none⟩=some c3/\z.cell? ⟨b',o'+k * 4,none⟩=some d0/\z.cell? ⟨b',o'+k * 4+1,none⟩=some d1/\z.cell? ⟨b',o'+k * 4+2,none⟩=some d2/\z.cell? ⟨b',o'+k * 4+3,none⟩=some d3)->Calls Tryz.prog 16 #[.agg #[c0,c1,c2,c3],.agg #[d0,d1,d2,d3]] z fun ev z'=>ev=.returned (.bool true)/\(Below (w.heap.size+2) w2 z'/\z'.cell? ⟨w.heap.size,3,none⟩=some (.slice (some ⟨b,o,none⟩) (LX.length) cx)/\z'.cell? ⟨w.heap.size+1,3,none⟩=some (.slice (some ⟨b',o',none⟩) (LY.length) cy)/\z'.cell? ⟨b,o+k * 4,none⟩=some c0/\z'.cell? ⟨b,o+k * 4+1,none⟩=some c1/\z'.cell? ⟨b,o+k * 4+2,none⟩=some c2/\z'.cell? ⟨b,o+k * 4+3,none⟩=some c3/\z'.cell? ⟨b',o'+k * 4,none⟩=some d0/\z'.cell? ⟨b',o'+k * 4+1,none⟩=some d1/\z'.cell? ⟨b',o'+k * 4+2,none⟩=some d2/\z'.cell? ⟨b',o'+k * 4+3,none⟩=some d3)):=by
     intro z hz
     refine (hcall z true hz.1 ⟨fun _=>he,fun _=>rfl⟩).mono ?_
     rintro _ z' ⟨rfl,hb⟩
     exact ⟨rfl,mkS.out z' hb⟩
    have HJ':Hid (∀ j (h:j<LX.length) (h':j<LY.length),j<k+1->LX[j]=LY[j]):=by
     intro j ha hb hjk
     rcases Nat.lt_or_ge j k with h|h
     ·exact HJ.out j ha hb h
     ·obtain rfl:j=k:=by omega
      exact he
    clear he hcall mkS HE HJ HQ HN HL
    go_wp2_with fail
    go_region_held3 (fun z=>Below (w.heap.size+2) w2 z/\z.cell? ⟨w.heap.size,3,none⟩=some (.slice (some ⟨b,o,none⟩) (LX.length) cx)/\z.cell? ⟨w.heap.size+1,3,none⟩=some (.slice (some ⟨b',o',none⟩) (LY.length) cy)/\z.cell? ⟨b,o+k * 4,none⟩=some c0/\z.cell? ⟨b,o+k * 4+1,none⟩=some c1/\z.cell? ⟨b,o+k * 4+2,none⟩=some c2/\z.cell? ⟨b,o+k * 4+3,none⟩=some c3/\z.cell? ⟨b',o'+k * 4,none⟩=some d0/\z.cell? ⟨b',o'+k * 4+1,none⟩=some d1/\z.cell? ⟨b',o'+k * 4+2,none⟩=some d2/\z.cell? ⟨b',o'+k * 4+3,none⟩=some d3) (assumption) (first|(go_at_call 16;refine (D.out _ (by assumption)).mono ?_;rintro _ z1 ⟨rfl,hS1⟩))
    go_wp2_with fail
    go_roundw
    case rel=>exact ⟨k+1,by omega,by go_num,HJ'.out,hS1.1⟩
    case measure=>simp [intOf];omega
   ·have D:Hid (∀ z,(Below (w.heap.size+2) w2 z/\z.cell? ⟨w.heap.size,3,none⟩=some (.slice (some ⟨b,o,none⟩) (LX.length) cx)/\z.cell? ⟨w.heap.size+1,3,none⟩=some (.slice (some ⟨b',o',none⟩) (LY.length) cy)/\z.cell? ⟨b,o+k * 4,none⟩=some c0/\z.cell? ⟨b,o+k * 4+1,none⟩=some c1/\z.cell? ⟨b,o+k * 4+2,none⟩=some c2/\z.cell? ⟨b,o+k * 4+3,none⟩=some c3/\z.cell? ⟨b',o'+k * 4,none⟩=some d0/\z.cell? ⟨b',o'+k * 4+1,none⟩=some d1/\z.cell? ⟨b',o'+k * 4+2,none⟩=some d2/\z.cell? ⟨b',o'+k * 4+3,none⟩=some d3)->Calls Tryz.prog 16 #[.agg #[c0,c1,c2,c3],.agg #[d0,d1,d2,d3]] z fun ev z'=>ev=.returned (.bool false)/\(Below (w.heap.size+2) w2 z'/\z'.cell? ⟨w.heap.size,3,none⟩=some (.slice (some ⟨b,o,none⟩) (LX.length) cx)/\z'.cell? ⟨w.heap.size+1,3,none⟩=some (.slice (some ⟨b',o',none⟩) (LY.length) cy)/\z'.cell? ⟨b,o+k * 4,none⟩=some c0/\z'.cell? ⟨b,o+k * 4+1,none⟩=some c1/\z'.cell? ⟨b,o+k * 4+2,none⟩=some c2/\z'.cell? ⟨b,o+k * 4+3,none⟩=some c3/\z'.cell? ⟨b',o'+k * 4,none⟩=some d0/\z'.cell? ⟨b',o'+k * 4+1,none⟩=some d1/\z'.cell? ⟨b',o'+k * 4+2,none⟩=some d2/\z'.cell? ⟨b',o'+k * 4+3,none⟩=some d3)):=by
     intro z hz
     refine (hcall z false hz.1 ⟨fun h=>(by cases h),fun h=>absurd h he⟩).mono ?_
     rintro _ z' ⟨rfl,hb⟩
     exact ⟨rfl,mkS.out z' hb⟩
    have HF:Hid (B=false):=HN.out k h3 h4 he
    clear he hcall mkS HE HJ HQ HN HL
    go_wp2_with fail
    go_region_held3 (fun z=>Below (w.heap.size+2) w2 z/\z.cell? ⟨w.heap.size,3,none⟩=some (.slice (some ⟨b,o,none⟩) (LX.length) cx)/\z.cell? ⟨w.heap.size+1,3,none⟩=some (.slice (some ⟨b',o',none⟩) (LY.length) cy)/\z.cell? ⟨b,o+k * 4,none⟩=some c0/\z.cell? ⟨b,o+k * 4+1,none⟩=some c1/\z.cell? ⟨b,o+k * 4+2,none⟩=some c2/\z.cell? ⟨b,o+k * 4+3,none⟩=some c3/\z.cell? ⟨b',o'+k * 4,none⟩=some d0/\z.cell? ⟨b',o'+k * 4+1,none⟩=some d1/\z.cell? ⟨b',o'+k * 4+2,none⟩=some d2/\z.cell? ⟨b',o'+k * 4+3,none⟩=some d3) (assumption) (first|(go_at_call 16;refine (D.out _ (by assumption)).mono ?_;rintro _ z1 ⟨rfl,hS1⟩))
    go_wp2_with fail
    go_ret
    exact ⟨by rw [HF.out];rfl,HW.out _ hS1.1⟩
  ·have i1:¬ (k:Int)<(LX.length:Int):=by omega
   have HF:Hid (B=true):=HQ.out (fun j h h'=>HJ.out j h h' (by omega))
   go_wp2_with fail
   go_ret
   exact ⟨by rw [HF.out];rfl,HW.out _ HBW.out⟩
theorem xsameType_at:∀ (n:Nat) {K:Ctx} {w:World},K.C<=w.heap.size->∀ {x y:Ty} {cs cs':List Value},TyAt n K w cs x->TyAt n K w cs' y->∀ (B:Bool),(B=true↔x=y)->Calls Tryz.prog 16 #[.agg cs.toArray,.agg cs'.toArray] w fun ev w'=>ev=.returned (.bool B)/\Below w.heap.size w w'
 | 0,_,_,_,_,_,_,_,hx,_,_,_=>hx.elim
 | n+1,_,_,hC,_,_,_,_,hx,hy,B,hB=>xsameType_of (xsameType_at n) hC hx hy B hB
theorem xsameType_any {K:Ctx} {w:World} (hC:K.C<=w.heap.size) {x y:Ty} {cs cs':List Value} (hx:IsTy K w cs x) (hy:IsTy K w cs' y) (B:Bool) (hB:B=true↔x=y):Calls Tryz.prog 16 #[.agg cs.toArray,.agg cs'.toArray] w fun ev w'=>ev=.returned (.bool B)/\Below w.heap.size w w':=by
 obtain ⟨n,hx⟩:=hx
 obtain ⟨m,hy⟩:=hy
 exact xsameType_at (max n m) hC (hx.upto (by omega)) (hy.upto (by omega)) B hB


theorem wpo_alloc49 {o:Oper} {a:Act} {K:Act->World->Prop} {Q:Exit->Act->World->Prop} {w:World} (ho:o.op=.alloc 49)
  (k:∀ w',Row w' w.heap.size 49 (stCells 0 0)->Below w.heap.size w w'->w'.heap.size=w.heap.size+1->K (a.put o.dst (.pointer (some ⟨w.heap.size,0,none⟩))) w'):Oper.wp Tryz.prog o a w K Q:=by
 obtain ⟨i0,hi,hz0,hz1,hz2⟩:=info_parts Tryz.info49z
 have h:=k _ (Row.new w 49 (stCells 0 0)) (alloc_one _ _) (size_alloc _ _)
 unfold Oper.wp execOp
 simp only [ho]
 go_simp
 exact h
theorem wpo_store49 {o:Oper} {a:Act} {K:Act->World->Prop} {Q:Exit->Act->World->Prop} {w:World} (x y:Operand) (ho:o.op=.store 49 x y) (g:Nat) (old cs:List Value) (hr:Row w g 49 old) (hl:old.length=32) (hc:cs.length=32)
  (hx:a.eval x=.pointer (some ⟨g,0,none⟩)) (hy:a.eval y=.agg cs.toArray) (h1:∀ u∈cs,u.oneCell'=true)
  (k:∀ w',Row w' g 49 cs->Stay (fun k=>k=g) w w'->K (a.put o.dst undef) w'):Oper.wp Tryz.prog o a w K Q:=by
 refine wp_store_row 49 x y ho g cs.toArray hx hy 49 old.toArray hr.heap (by rw [List.size_toArray,hc];kernel_rfl) (by simp [hl,hc]) (all_one h1) (k _ (hr.setRow cs) ?_)
 refine ⟨rfl,rfl,rfl,by simp [World.setRow],fun i hi hne=>?_⟩
 simp only [World.setRow,Array.getElem?_modify]
 rw [if_neg (fun e=>hne e.symm)]
set_option maxHeartbeats 8000000 in
set_option maxRecDepth 20000 in
theorem r77_any (w:World) (b o b' o' nx ny cx cy k:Nat) (csx csy:List Value) (hx:w.rangeAt b (o+k * 32) csx) (hy:w.rangeAt b' (o'+k * 32) csy) (hb:b<w.heap.size) (hb':b'<w.heap.size)
  (lx:csx.length=32) (ly:csy.length=32) (ox:∀ u∈csx,u.oneCell'=true) (oy:∀ u∈csy,u.oneCell'=true) (i1:(k:Int)<(nx:Int)) (i2:(k:Int)<(ny:Int))
  (u2 u3 u4 u6 u7 u8 u9 A8 A9 B0 B1 B2 B3 B4 B5 B6 J0 J1 J2 J3 J4 J5 J6 J7 B7 B8 B9 C0 C1 C2 C3 C4 C5 C6 C7 C8 C9 D0 D1 D2 D3 D4 D5 D6 D7 D8 D9 E0 E1 E2 E3 E4 E5 E6 E7 E8 E9 F0 F1 F2 F3 F4 F5 F6 F7 F8 F9 G0 G1 G2 G3 G4 G5 G6 G7 G8 G9 H0 H1 H2 H3 H4 H5 H6 H7 H8 H9 I0 I1 I2 I3 I4 I5 I6 I7 I8 I9 A0 A1 A2 A3 A4 A5 A6 A7:Value) :
  (Code.region 6 #[{ dst:=some 19,op:=Op.move (Operand.tmp 0),type:=38,pos:="ref.go:64",after:=#[],guard:=none },{ dst:=some 20,op:=Op.move (Operand.tmp 5),type:=3,pos:="ref.go:64",after:=#[],guard:=none },{ dst:=some 21,op:=Op.indexAddr 38 (Operand.tmp 19) (Operand.tmp 20),type:=0,pos:="ref.go:64",after:=#[{ on:=0,ground:=Ground.data },{ on:=1,ground:=Ground.data }],guard:=none },{ dst:=some 22,op:=Op.load 49 (Operand.tmp 21),type:=49,pos:="ref.go:64",after:=#[{ on:=2,ground:=Ground.data }],guard:=none },{ dst:=some 23,op:=Op.move (Operand.tmp 1),type:=38,pos:="ref.go:64",after:=#[{ on:=10,ground:=Ground.gcOnly Departure.lateStores }],guard:=none },{ dst:=some 24,op:=Op.move (Operand.tmp 5),type:=3,pos:="ref.go:64",after:=#[{ on:=10,ground:=Ground.gcOnly Departure.lateStores }],guard:=none },{ dst:=some 25,op:=Op.indexAddr 38 (Operand.tmp 23) (Operand.tmp 24),type:=0,pos:="ref.go:64",after:=#[{ on:=4,ground:=Ground.data },{ on:=5,ground:=Ground.data },{ on:=10,ground:=Ground.gcOnly Departure.lateStores }],guard:=none },{ dst:=some 26,op:=Op.load 49 (Operand.tmp 25),type:=49,pos:="ref.go:64",after:=#[{ on:=6,ground:=Ground.data },{ on:=10,ground:=Ground.gcOnly Departure.lateStores }],guard:=none },{ dst:=some 6,op:=Op.alloc 49,type:=0,pos:="ref.go:64",after:=#[],guard:=none },{ dst:=some 7,op:=Op.alloc 49,type:=0,pos:="ref.go:64",after:=#[],guard:=none },{ dst:=none,op:=Op.store 49 (Operand.tmp 6) (Operand.tmp 22),type:=0,pos:="ref.go:64",after:=#[{ on:=8,ground:=Ground.data },{ on:=3,ground:=Ground.data },{ on:=0,ground:=Ground.phase },{ on:=1,ground:=Ground.phase },{ on:=2,ground:=Ground.phase },{ on:=3,ground:=Ground.phase },{ on:=4,ground:=Ground.textOnly Departure.lateStores },{ on:=5,ground:=Ground.textOnly Departure.lateStores },{ on:=6,ground:=Ground.textOnly Departure.lateStores },{ on:=7,ground:=Ground.textOnly Departure.lateStores },{ on:=8,ground:=Ground.phase },{ on:=9,ground:=Ground.phase }],guard:=none },{ dst:=none,op:=Op.store 49 (Operand.tmp 7) (Operand.tmp 26),type:=0,pos:="ref.go:64",after:=#[{ on:=9,ground:=Ground.data },{ on:=7,ground:=Ground.data },{ on:=10,ground:=Ground.chain },{ on:=0,ground:=Ground.phase },{ on:=1,ground:=Ground.phase },{ on:=2,ground:=Ground.phase },{ on:=3,ground:=Ground.phase },{ on:=4,ground:=Ground.phase },{ on:=5,ground:=Ground.phase },{ on:=6,ground:=Ground.phase },{ on:=7,ground:=Ground.phase },{ on:=8,ground:=Ground.phase },{ on:=9,ground:=Ground.phase },{ on:=10,ground:=Ground.phase }],guard:=none }] true).wp Tryz.prog (fun e a' w'=>e=Exit.normal/\∃ gx gy,a'={ tmps:=#[.slice (some ⟨b,o,none⟩) nx cx,.slice (some ⟨b',o',none⟩) ny cy,u2,u3,u4,.int .i64 (k:Int),.pointer (some ⟨gx,0,none⟩),.pointer (some ⟨gy,0,none⟩),u8,u9,A8,A9,B0,B1,B2,B3,B4,B5,B6,.slice (some ⟨b,o,none⟩) nx cx,.int .i64 (k:Int),.pointer (some ⟨b,o+k * 32,none⟩),.agg csx.toArray,.slice (some ⟨b',o',none⟩) ny cy,.int .i64 (k:Int),.pointer (some ⟨b',o'+k * 32,none⟩),.agg csy.toArray,B7,B8,B9,C0,C1,C2,C3,C4,C5,C6,C7,C8,C9,D0,D1,D2,D3,D4,D5,D6,D7,D8,D9,E0,E1,E2,E3,E4,E5,E6,E7,E8,E9,F0,F1,F2,F3,F4,F5,F6,F7,F8,F9,G0,G1,G2,G3,G4,G5,G6,G7,G8,G9,H0,H1,H2,H3,H4,H5,H6,H7,H8,H9,I0,I1,I2,I3,I4,I5,I6,I7,I8,I9,A0,A1,A2,A3,A4,A5,A6,A7],defers:=[] }/\Row w' gx 49 csx/\Row w' gy 49 csy/\w.heap.size<=gx/\w.heap.size<=gy/\Below w.heap.size w w') { tmps:=#[.slice (some ⟨b,o,none⟩) nx cx,.slice (some ⟨b',o',none⟩) ny cy,u2,u3,u4,.int .i64 (k:Int),u6,u7,u8,u9,A8,A9,B0,B1,B2,B3,B4,B5,B6,J0,J1,J2,J3,J4,J5,J6,J7,B7,B8,B9,C0,C1,C2,C3,C4,C5,C6,C7,C8,C9,D0,D1,D2,D3,D4,D5,D6,D7,D8,D9,E0,E1,E2,E3,E4,E5,E6,E7,E8,E9,F0,F1,F2,F3,F4,F5,F6,F7,F8,F9,G0,G1,G2,G3,G4,G5,G6,G7,G8,G9,H0,H1,H2,H3,H4,H5,H6,H7,H8,H9,I0,I1,I2,I3,I4,I5,I6,I7,I8,I9,A0,A1,A2,A3,A4,A5,A6,A7],defers:=[] } w:=by
 have HX:∀ y,Below w.heap.size w y->y.rangeAt b (o+k * 32) csx:=fun y h j u hj=>by rw [h.cell (p:=⟨b,o+k * 32+j,none⟩) hb];exact hx j u hj
 have HY:∀ y,Below w.heap.size w y->y.rangeAt b' (o'+k * 32) csy:=fun y h j u hj=>by rw [h.cell (p:=⟨b',o'+k * 32+j,none⟩) hb'];exact hy j u hj
 have hi:(Tryz.prog.info? 49).map (·.size)=some csx.length:=by rw [lx];kernel_rfl
 have hi':(Tryz.prog.info? 49).map (·.size)=some csy.length:=by rw [ly];kernel_rfl
 clear hx hy
 refine wp_region_held_drew (S:=fun y=>Below w.heap.size w y) (by kernel_rfl) ((Below.refl _ _).drew) (fun hHeld=>?_)
 have hdz:w.drew.heap.size=w.heap.size:=rfl
 generalize w.drew=wd at *
 refine wpAnyH_take (i:=0) (oi:={ dst:=some 19,op:=Op.move (Operand.tmp 0),type:=38,pos:="ref.go:64",after:=#[],guard:=none }) (v:=?v0) rfl (by kernel_rfl) (by kernel_rfl) (by kernel_rfl) (fun _ _ _ h=>(by obtain ⟨h,_⟩:=h;cases h)) (Or.inl ⟨by rfl,?h0⟩) hHeld ?r0
 case h0=>(intro y hy;go_simp;with_reducible rfl)
 try simp only [Act.put,List.setIfInBounds_toArray,List.set_cons_zero,List.set_cons_succ]
 refine wpAnyH_take (i:=1) (oi:={ dst:=some 20,op:=Op.move (Operand.tmp 5),type:=3,pos:="ref.go:64",after:=#[],guard:=none }) (v:=?v1) rfl (by kernel_rfl) (by kernel_rfl) (by kernel_rfl) (fun _ _ _ h=>(by obtain ⟨h,_⟩:=h;cases h)) (Or.inl ⟨by rfl,?h1⟩) hHeld ?r1
 case h1=>(intro y hy;go_simp;with_reducible rfl)
 try simp only [Act.put,List.setIfInBounds_toArray,List.set_cons_zero,List.set_cons_succ]
 refine wpAnyH_take (i:=2) (oi:={ dst:=some 21,op:=Op.indexAddr 38 (Operand.tmp 19) (Operand.tmp 20),type:=0,pos:="ref.go:64",after:=#[{ on:=0,ground:=Ground.data },{ on:=1,ground:=Ground.data }],guard:=none }) (v:=?v2) rfl (by kernel_rfl) (by kernel_rfl) (by kernel_rfl) (fun _ _ _ h=>(by obtain ⟨h,_⟩:=h;cases h)) (Or.inl ⟨by rfl,?h2⟩) hHeld ?r2
 case h2=>(intro y hy;go_simp;with_reducible rfl)
 try simp only [Act.put,List.setIfInBounds_toArray,List.set_cons_zero,List.set_cons_succ]
 refine wpAnyH_take (i:=3) (oi:={ dst:=some 22,op:=Op.load 49 (Operand.tmp 21),type:=49,pos:="ref.go:64",after:=#[{ on:=2,ground:=Ground.data }],guard:=none }) (v:=_) rfl (by kernel_rfl) (by kernel_rfl) (by kernel_rfl) (fun _ _ _ h=>(by obtain ⟨h,_⟩:=h;cases h)) (yieldsIf_load_mid (by rfl) _ _ rfl _ _ rfl csx _ HX Tryz.underlying49 rfl hi) hHeld ?_
 try simp only [Act.put,List.setIfInBounds_toArray,List.set_cons_zero,List.set_cons_succ]
 refine wpAnyH_take (i:=4) (oi:={ dst:=some 23,op:=Op.move (Operand.tmp 1),type:=38,pos:="ref.go:64",after:=#[{ on:=10,ground:=Ground.gcOnly Departure.lateStores }],guard:=none }) (v:=?v4) rfl (by kernel_rfl) (by kernel_rfl) (by kernel_rfl) (fun _ _ _ h=>(by obtain ⟨h,_⟩:=h;cases h)) (Or.inl ⟨by rfl,?h4⟩) hHeld ?r4
 case h4=>(intro y hy;go_simp;with_reducible rfl)
 try simp only [Act.put,List.setIfInBounds_toArray,List.set_cons_zero,List.set_cons_succ]
 refine wpAnyH_take (i:=5) (oi:={ dst:=some 24,op:=Op.move (Operand.tmp 5),type:=3,pos:="ref.go:64",after:=#[{ on:=10,ground:=Ground.gcOnly Departure.lateStores }],guard:=none }) (v:=?v5) rfl (by kernel_rfl) (by kernel_rfl) (by kernel_rfl) (fun _ _ _ h=>(by obtain ⟨h,_⟩:=h;cases h)) (Or.inl ⟨by rfl,?h5⟩) hHeld ?r5
 case h5=>(intro y hy;go_simp;with_reducible rfl)
 try simp only [Act.put,List.setIfInBounds_toArray,List.set_cons_zero,List.set_cons_succ]
 refine wpAnyH_take (i:=6) (oi:={ dst:=some 25,op:=Op.indexAddr 38 (Operand.tmp 23) (Operand.tmp 24),type:=0,pos:="ref.go:64",after:=#[{ on:=4,ground:=Ground.data },{ on:=5,ground:=Ground.data },{ on:=10,ground:=Ground.gcOnly Departure.lateStores }],guard:=none }) (v:=?v6) rfl (by kernel_rfl) (by kernel_rfl) (by kernel_rfl) (fun _ _ _ h=>(by obtain ⟨h,_⟩:=h;cases h)) (Or.inl ⟨by rfl,?h6⟩) hHeld ?r6
 case h6=>(intro y hy;go_simp;with_reducible rfl)
 try simp only [Act.put,List.setIfInBounds_toArray,List.set_cons_zero,List.set_cons_succ]
 refine wpAnyH_take (i:=7) (oi:={ dst:=some 26,op:=Op.load 49 (Operand.tmp 25),type:=49,pos:="ref.go:64",after:=#[{ on:=6,ground:=Ground.data },{ on:=10,ground:=Ground.gcOnly Departure.lateStores }],guard:=none }) (v:=_) rfl (by kernel_rfl) (by kernel_rfl) (by kernel_rfl) (fun _ _ _ h=>(by obtain ⟨h,_⟩:=h;cases h)) (yieldsIf_load_mid (by rfl) _ _ rfl _ _ rfl csy _ HY Tryz.underlying49 rfl hi') hHeld ?_
 try simp only [Act.put,List.setIfInBounds_toArray,List.set_cons_zero,List.set_cons_succ]
 clear HX HY hi hi'
 refine wpAnyH_ready (rs:=[8,9]) (by kernel_rfl) (by simp) ?_
 refine AllReadyH.cons (o:={ dst:=some 6,op:=Op.alloc 49,type:=0,pos:="ref.go:64",after:=#[],guard:=none }) rfl (fun K hK=>?_) (AllReadyH.cons (o:={ dst:=some 7,op:=Op.alloc 49,type:=0,pos:="ref.go:64",after:=#[],guard:=none }) rfl (fun K hK=>?_) AllReadyH.nil)
 ·refine want (by rfl) ?_
  refine wpo_alloc49 rfl ?_
  intro w1 R1 b1 z1
  have hH1:Below w.heap.size w w1:=hHeld.trans (below_le b1 (by omega))
  refine hK.out _ _ hH1 (fun hHeld=>?_)
  clear hK K
  try simp only [Act.put,List.setIfInBounds_toArray,List.set_cons_zero,List.set_cons_succ]
  refine wpAnyH_ready (rs:=[9]) (by kernel_rfl) (by simp) ?_
  refine AllReadyH.cons (o:={ dst:=some 7,op:=Op.alloc 49,type:=0,pos:="ref.go:64",after:=#[],guard:=none }) rfl (fun K hK=>?_) AllReadyH.nil
  refine want (by rfl) ?_
  refine wpo_alloc49 rfl ?_
  intro w2 R2 b2 z2
  have R1b:=R1.below b2 R1.lt
  have hH2:Below w.heap.size w w2:=hHeld.trans (below_le b2 (by omega))
  refine hK.out _ _ hH2 (fun hHeld=>?_)
  clear hK K
  try simp only [Act.put,List.setIfInBounds_toArray,List.set_cons_zero,List.set_cons_succ]
  refine wpAnyH_ready (rs:=[10]) (by kernel_rfl) (by simp) ?_
  refine AllReadyH.cons (o:={ dst:=none,op:=Op.store 49 (Operand.tmp 6) (Operand.tmp 22),type:=0,pos:="ref.go:64",after:=#[{ on:=8,ground:=Ground.data },{ on:=3,ground:=Ground.data },{ on:=0,ground:=Ground.phase },{ on:=1,ground:=Ground.phase },{ on:=2,ground:=Ground.phase },{ on:=3,ground:=Ground.phase },{ on:=4,ground:=Ground.textOnly Departure.lateStores },{ on:=5,ground:=Ground.textOnly Departure.lateStores },{ on:=6,ground:=Ground.textOnly Departure.lateStores },{ on:=7,ground:=Ground.textOnly Departure.lateStores },{ on:=8,ground:=Ground.phase },{ on:=9,ground:=Ground.phase }],guard:=none }) rfl (fun K hK=>?_) AllReadyH.nil
  refine want (by rfl) ?_
  refine wpo_store49 (.tmp 6) (.tmp 22) rfl wd.heap.size _ csx R1b rfl lx rfl rfl ox ?_
  intro w3 R3 s3
  have R3b:=s3.row R2 (by omega)
  have z3:=s3.size
  have hH3:Below w.heap.size w w3:=hHeld.trans (s3.below (by omega) (by intro k hk;omega))
  refine hK.out _ _ hH3 (fun hHeld=>?_)
  clear hK K
  try simp only [Act.put]
  refine wpAnyH_ready (rs:=[11]) (by kernel_rfl) (by simp) ?_
  refine AllReadyH.cons (o:={ dst:=none,op:=Op.store 49 (Operand.tmp 7) (Operand.tmp 26),type:=0,pos:="ref.go:64",after:=#[{ on:=9,ground:=Ground.data },{ on:=7,ground:=Ground.data },{ on:=10,ground:=Ground.chain },{ on:=0,ground:=Ground.phase },{ on:=1,ground:=Ground.phase },{ on:=2,ground:=Ground.phase },{ on:=3,ground:=Ground.phase },{ on:=4,ground:=Ground.phase },{ on:=5,ground:=Ground.phase },{ on:=6,ground:=Ground.phase },{ on:=7,ground:=Ground.phase },{ on:=8,ground:=Ground.phase },{ on:=9,ground:=Ground.phase },{ on:=10,ground:=Ground.phase }],guard:=none }) rfl (fun K hK=>?_) AllReadyH.nil
  refine want (by rfl) ?_
  refine wpo_store49 (.tmp 7) (.tmp 26) rfl w1.heap.size _ csy R3b rfl ly rfl rfl oy ?_
  intro w4 R4 s4
  have R4b:=s4.row R3 (by omega)
  have hH4:Below w.heap.size w w4:=hHeld.trans (s4.below (by omega) (by intro k hk;omega))
  refine hK.out _ _ hH4 (fun hHeld=>?_)
  clear hK K
  try simp only [Act.put]
  refine wpAnyH_done (by kernel_rfl) ?_ _
  exact ⟨rfl,wd.heap.size,w1.heap.size,rfl,R4b,R4,by omega,by omega,hH4⟩
 ·refine want (by rfl) ?_
  refine wpo_alloc49 rfl ?_
  intro w1 R1 b1 z1
  have hH1:Below w.heap.size w w1:=hHeld.trans (below_le b1 (by omega))
  refine hK.out _ _ hH1 (fun hHeld=>?_)
  clear hK K
  try simp only [Act.put,List.setIfInBounds_toArray,List.set_cons_zero,List.set_cons_succ]
  refine wpAnyH_ready (rs:=[8]) (by kernel_rfl) (by simp) ?_
  refine AllReadyH.cons (o:={ dst:=some 6,op:=Op.alloc 49,type:=0,pos:="ref.go:64",after:=#[],guard:=none }) rfl (fun K hK=>?_) AllReadyH.nil
  refine want (by rfl) ?_
  refine wpo_alloc49 rfl ?_
  intro w2 R2 b2 z2
  have R1b:=R1.below b2 R1.lt
  have hH2:Below w.heap.size w w2:=hHeld.trans (below_le b2 (by omega))
  refine hK.out _ _ hH2 (fun hHeld=>?_)
  clear hK K
  try simp only [Act.put,List.setIfInBounds_toArray,List.set_cons_zero,List.set_cons_succ]
  refine wpAnyH_ready (rs:=[10]) (by kernel_rfl) (by simp) ?_
  refine AllReadyH.cons (o:={ dst:=none,op:=Op.store 49 (Operand.tmp 6) (Operand.tmp 22),type:=0,pos:="ref.go:64",after:=#[{ on:=8,ground:=Ground.data },{ on:=3,ground:=Ground.data },{ on:=0,ground:=Ground.phase },{ on:=1,ground:=Ground.phase },{ on:=2,ground:=Ground.phase },{ on:=3,ground:=Ground.phase },{ on:=4,ground:=Ground.textOnly Departure.lateStores },{ on:=5,ground:=Ground.textOnly Departure.lateStores },{ on:=6,ground:=Ground.textOnly Departure.lateStores },{ on:=7,ground:=Ground.textOnly Departure.lateStores },{ on:=8,ground:=Ground.phase },{ on:=9,ground:=Ground.phase }],guard:=none }) rfl (fun K hK=>?_) AllReadyH.nil
  refine want (by rfl) ?_
  refine wpo_store49 (.tmp 6) (.tmp 22) rfl w1.heap.size _ csx R2 rfl lx rfl rfl ox ?_
  intro w3 R3 s3
  have R3b:=s3.row R1b (by omega)
  have z3:=s3.size
  have hH3:Below w.heap.size w w3:=hHeld.trans (s3.below (by omega) (by intro k hk;omega))
  refine hK.out _ _ hH3 (fun hHeld=>?_)
  clear hK K
  try simp only [Act.put]
  refine wpAnyH_ready (rs:=[11]) (by kernel_rfl) (by simp) ?_
  refine AllReadyH.cons (o:={ dst:=none,op:=Op.store 49 (Operand.tmp 7) (Operand.tmp 26),type:=0,pos:="ref.go:64",after:=#[{ on:=9,ground:=Ground.data },{ on:=7,ground:=Ground.data },{ on:=10,ground:=Ground.chain },{ on:=0,ground:=Ground.phase },{ on:=1,ground:=Ground.phase },{ on:=2,ground:=Ground.phase },{ on:=3,ground:=Ground.phase },{ on:=4,ground:=Ground.phase },{ on:=5,ground:=Ground.phase },{ on:=6,ground:=Ground.phase },{ on:=7,ground:=Ground.phase },{ on:=8,ground:=Ground.phase },{ on:=9,ground:=Ground.phase },{ on:=10,ground:=Ground.phase }],guard:=none }) rfl (fun K hK=>?_) AllReadyH.nil
  refine want (by rfl) ?_
  refine wpo_store49 (.tmp 7) (.tmp 26) rfl wd.heap.size _ csy R3b rfl ly rfl rfl oy ?_
  intro w4 R4 s4
  have R4b:=s4.row R3 (by omega)
  have hH4:Below w.heap.size w w4:=hHeld.trans (s4.below (by omega) (by intro k hk;omega))
  refine hK.out _ _ hH4 (fun hHeld=>?_)
  clear hK K
  try simp only [Act.put]
  refine wpAnyH_done (by kernel_rfl) ?_ _
  exact ⟨rfl,w1.heap.size,wd.heap.size,rfl,R4b,R4,by omega,by omega,hH4⟩
end Go.Proofs.YtjenmmkamhplkaaGreat
