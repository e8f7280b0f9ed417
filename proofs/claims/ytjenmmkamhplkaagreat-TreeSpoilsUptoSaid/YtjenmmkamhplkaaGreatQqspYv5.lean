/- Part of the proof. -/
import Derived.Test.YtjenmmkamhplkaaGreatJqspYv32
namespace Go.Proofs.YtjenmmkamhplkaaGreat
open Go.RowKit
theorem va_kindM (v:Va):({ v with names:=[],name:=[],args:=[] }=Va.of v.kind)↔({ v with kind:=0,names:=[],name:=[],args:=[] }=Va.zero):=by
 cases v;simp [Va.of,Va.zero]
def OkMake (F:Bool) (l:List Opr) (ns:List Bs):Prop:=OkArgs F l/\ns.length=l.length/\∀ s∈ns,nameB s=true
set_option maxHeartbeats 8000000 in
set_option maxRecDepth 20000 in
theorem xval_make {K:Ctx} {w:World} (he:Env K w) {v:Va} {cs:List Value} (hx:VaAt K w cs v) (hk:v.kind=7) (B:Bool) (hB:B=true↔MayVa v) :
  Calls Tryz.prog 93 #[.agg cs.toArray] w (Rb B w):=by
 obtain ⟨xa,xb,ps,vn,va,rfl,ha,hb,hp,hnl,hns,har⟩:=hx
 obtain ⟨pa,rfl,hpa⟩:=id ha
 obtain ⟨pb,rfl,hpb⟩:=id hb
 obtain ⟨va1,rfl,hla,hsa⟩:=id hpa
 obtain ⟨vb1,rfl,hlb,hsb⟩:=id hpb
 obtain ⟨vp1,rfl,hlp,hsp⟩:=id hp
 obtain ⟨aa,ca,rfl⟩:=hsa.form
 obtain ⟨ab,cb,rfl⟩:=hsb.form
 obtain ⟨ap,cp,rfl⟩:=hsp.form
 obtain ⟨an,cn,rfl,hcn,hbn,hAn⟩:=id hns.shape
 obtain ⟨ag,cg,rfl,hcg,hbg,hAg⟩:=id har.shape
 have hB':B=true↔OkMake (farB v.name) v.args v.names/\{ v with kind:=0,names:=[],name:=[],args:=[] }=Va.zero:=by
  rw [hB,va_make hk,va_kindM v]
  unfold OkMake OkArgs
  constructor
  ·rintro ⟨h1,h2,h3,⟨h4,h5⟩,h6⟩
   rw [Bool.and_eq_true,List.all_eq_true] at h2
   exact ⟨⟨⟨h3,h4,h5⟩,h1,h2.2⟩,h6⟩
  ·rintro ⟨⟨⟨h3,h4,h5⟩,h1,h2⟩,h6⟩
   refine ⟨h1,?_,h3,⟨h4,h5⟩,h6⟩
   rw [Bool.and_eq_true,List.all_eq_true]
   exact ⟨decide_eq_true (by omega),h2⟩
 have HX1:Hid (∀ W,Below w.heap.size w W->VaAt K W [.int .i64 0,.int .i64 v.a.kind,.int .i64 v.a.n,.string (str v.a.place.name),.slice aa v.a.place.path.length ca,.int .i64 v.b.kind,.int .i64 v.b.n,.string (str v.b.place.name),.slice ab v.b.place.path.length cb,.int .i64 v.op,.string (str v.place.name),.slice ap v.place.path.length cp,.string ⟨#[]⟩,.slice none 0 0,.slice none 0 0] { v with kind:=0,names:=[],name:=[],args:=[] }):=fun W hW=>by
  have hK:=below_le hW he.C
  exact ⟨_,_,_,_,_,rfl,ha.below hK,hb.below hK,hp.below hK,by simp,nil_ar,nil_ar⟩
 have HV:Hid (∀ W,Below w.heap.size w W->∀ B1:Bool,(B1=true↔{ v with kind:=0,names:=[],name:=[],args:=[] }=Va.zero)->Calls Tryz.prog 103 #[.agg #[.int .i64 0,.int .i64 v.a.kind,.int .i64 v.a.n,.string (str v.a.place.name),.slice aa v.a.place.path.length ca,.int .i64 v.b.kind,.int .i64 v.b.n,.string (str v.b.place.name),.slice ab v.b.place.path.length cb,.int .i64 v.op,.string (str v.place.name),.slice ap v.place.path.length cp,.string ⟨#[]⟩,.slice none 0 0,.slice none 0 0],.agg (vaCells 0).toArray] W (Rb B1 w)):=by
  intro W hW B1 hB1
  refine (xvalue_any (Nat.le_trans he.C hW.size) (HX1.out W hW) (va_zero K W 0) B1 hB1).mono ?_
  rintro _ _ ⟨rfl,h⟩
  exact ⟨rfl,hW.trans (below_le h hW.size)⟩
 have P1:Hid (Calls Tryz.prog 91 #[.string (str v.name)] ((w.alloc (.cells #[.int .i64 v.kind,.int .i64 v.a.kind,.int .i64 v.a.n,.string (str v.a.place.name),.slice aa v.a.place.path.length ca,.int .i64 v.b.kind,.int .i64 v.b.n,.string (str v.b.place.name),.slice ab v.b.place.path.length cb,.int .i64 v.op,.string (str v.place.name),.slice ap v.place.path.length cp,.string (str v.name),.slice an v.names.length cn,.slice ag v.args.length cg] 47)).alloc (.cells #[.int .i64 0,.int .i64 v.a.kind,.int .i64 v.a.n,.string (str v.a.place.name),.slice aa v.a.place.path.length ca,.int .i64 v.b.kind,.int .i64 v.b.n,.string (str v.b.place.name),.slice ab v.b.place.path.length cb,.int .i64 v.op,.string (str v.place.name),.slice ap v.place.path.length cp,.string (str v.name),.slice an v.names.length cn,.slice ag v.args.length cg] 47)) fun ev w4=>ev=.returned (.bool (farB v.name))/\Vst w [.int .i64 v.kind,.int .i64 v.a.kind,.int .i64 v.a.n,.string (str v.a.place.name),.slice aa v.a.place.path.length ca,.int .i64 v.b.kind,.int .i64 v.b.n,.string (str v.b.place.name),.slice ab v.b.place.path.length cb,.int .i64 v.op,.string (str v.place.name),.slice ap v.place.path.length cp,.string (str v.name),.slice an v.names.length cn,.slice ag v.args.length cg] [.int .i64 0,.int .i64 v.a.kind,.int .i64 v.a.n,.string (str v.a.place.name),.slice aa v.a.place.path.length ca,.int .i64 v.b.kind,.int .i64 v.b.n,.string (str v.b.place.name),.slice ab v.b.place.path.length cb,.int .i64 v.op,.string (str v.place.name),.slice ap v.place.path.length cp,.string (str v.name),.slice an v.names.length cn,.slice ag v.args.length cg] w4):=by
  have h3:=Vst.start w [.int .i64 v.kind,.int .i64 v.a.kind,.int .i64 v.a.n,.string (str v.a.place.name),.slice aa v.a.place.path.length ca,.int .i64 v.b.kind,.int .i64 v.b.n,.string (str v.b.place.name),.slice ab v.b.place.path.length cb,.int .i64 v.op,.string (str v.place.name),.slice ap v.place.path.length cp,.string (str v.name),.slice an v.names.length cn,.slice ag v.args.length cg] [.int .i64 0,.int .i64 v.a.kind,.int .i64 v.a.n,.string (str v.a.place.name),.slice aa v.a.place.path.length ca,.int .i64 v.b.kind,.int .i64 v.b.n,.string (str v.b.place.name),.slice ab v.b.place.path.length cb,.int .i64 v.op,.string (str v.place.name),.slice ap v.place.path.length cp,.string (str v.name),.slice an v.names.length cn,.slice ag v.args.length cg]
  refine (xlong_any v.name (Nat.le_trans hnl he.B) _).mono ?_
  rintro _ w4 ⟨rfl,h⟩
  exact ⟨rfl,h3.call h⟩
 have HE:Hid (∀ i (h:i<v.args.length),∃ (b o:Nat) (c0 c1 c2 c3:Value),ag=some ⟨b,o,none⟩/\(∀ W,Below w.heap.size w W->W.cell? ⟨b,o+i * 4,none⟩=some c0/\W.cell? ⟨b,o+i * 4+1,none⟩=some c1/\W.cell? ⟨b,o+i * 4+2,none⟩=some c2/\W.cell? ⟨b,o+i * 4+3,none⟩=some c3) /\
   ∀ W,Vst w [.int .i64 v.kind,.int .i64 v.a.kind,.int .i64 v.a.n,.string (str v.a.place.name),.slice aa v.a.place.path.length ca,.int .i64 v.b.kind,.int .i64 v.b.n,.string (str v.b.place.name),.slice ab v.b.place.path.length cb,.int .i64 v.op,.string (str v.place.name),.slice ap v.place.path.length cp,.string (str v.name),.slice an v.names.length cn,.slice ag v.args.length cg] [.int .i64 0,.int .i64 v.a.kind,.int .i64 v.a.n,.string (str v.a.place.name),.slice aa v.a.place.path.length ca,.int .i64 v.b.kind,.int .i64 v.b.n,.string (str v.b.place.name),.slice ab v.b.place.path.length cb,.int .i64 v.op,.string (str v.place.name),.slice ap v.place.path.length cp,.string (str v.name),.slice an v.names.length cn,.slice ag v.args.length cg] W->∀ B1:Bool,(B1=true↔MayOpr v.args[i])->Calls Tryz.prog 94 #[.agg #[c0,c1,c2,c3]] W fun ev w'=>ev=.returned (.bool B1)/\Vst w [.int .i64 v.kind,.int .i64 v.a.kind,.int .i64 v.a.n,.string (str v.a.place.name),.slice aa v.a.place.path.length ca,.int .i64 v.b.kind,.int .i64 v.b.n,.string (str v.b.place.name),.slice ab v.b.place.path.length cb,.int .i64 v.op,.string (str v.place.name),.slice ap v.place.path.length cp,.string (str v.name),.slice an v.names.length cn,.slice ag v.args.length cg] [.int .i64 0,.int .i64 v.a.kind,.int .i64 v.a.n,.string (str v.a.place.name),.slice aa v.a.place.path.length ca,.int .i64 v.b.kind,.int .i64 v.b.n,.string (str v.b.place.name),.slice ab v.b.place.path.length cb,.int .i64 v.op,.string (str v.place.name),.slice ap v.place.path.length cp,.string (str v.name),.slice an v.names.length cn,.slice ag v.args.length cg] w'):=by
  intro i h
  obtain ⟨b,o,e,hbC,cs,hl,hcs,kx⟩:=hAg i h
  obtain ⟨c0,c1,c2,c3,rfl⟩:=list4 hl
  refine ⟨b,o,c0,c1,c2,c3,e,fun W hw=>?_,fun W hw B1 hB1=>?_⟩
  ·have hK:=below_le hw he.C
   have f:∀ j,j<4->W.cell? ⟨b,o+i * 4+j,none⟩=[c0,c1,c2,c3][j]?:=fun j hj=>(hK.cell (p:=⟨b,o+i * 4+j,none⟩) hbC).trans (hcs j hj)
   exact ⟨f 0 (by decide),f 1 (by decide),f 2 (by decide),f 3 (by decide)⟩
  ·have hK:=below_le hw.1 he.C
   refine (xoperMay_any (he.below hK) (kx.below hK) B1 hB1).mono ?_
   rintro _ w4 ⟨rfl,h⟩
   exact ⟨rfl,hw.call h⟩
 have HN1:Hid (∀ i (h:i<v.names.length),∃ (b o:Nat) (S:ByteArray),an=some ⟨b,o,none⟩/\(∀ W,Below w.heap.size w W->W.cell? ⟨b,o+i,none⟩=some (.string S)) /\
   ∀ W,Vst w [.int .i64 v.kind,.int .i64 v.a.kind,.int .i64 v.a.n,.string (str v.a.place.name),.slice aa v.a.place.path.length ca,.int .i64 v.b.kind,.int .i64 v.b.n,.string (str v.b.place.name),.slice ab v.b.place.path.length cb,.int .i64 v.op,.string (str v.place.name),.slice ap v.place.path.length cp,.string (str v.name),.slice an v.names.length cn,.slice ag v.args.length cg] [.int .i64 0,.int .i64 v.a.kind,.int .i64 v.a.n,.string (str v.a.place.name),.slice aa v.a.place.path.length ca,.int .i64 v.b.kind,.int .i64 v.b.n,.string (str v.b.place.name),.slice ab v.b.place.path.length cb,.int .i64 v.op,.string (str v.place.name),.slice ap v.place.path.length cp,.string (str v.name),.slice an v.names.length cn,.slice ag v.args.length cg] W->Calls Tryz.prog 26 #[.string S] W fun ev w'=>ev=.returned (.bool (nameB v.names[i]))/\Vst w [.int .i64 v.kind,.int .i64 v.a.kind,.int .i64 v.a.n,.string (str v.a.place.name),.slice aa v.a.place.path.length ca,.int .i64 v.b.kind,.int .i64 v.b.n,.string (str v.b.place.name),.slice ab v.b.place.path.length cb,.int .i64 v.op,.string (str v.place.name),.slice ap v.place.path.length cp,.string (str v.name),.slice an v.names.length cn,.slice ag v.args.length cg] [.int .i64 0,.int .i64 v.a.kind,.int .i64 v.a.n,.string (str v.a.place.name),.slice aa v.a.place.path.length ca,.int .i64 v.b.kind,.int .i64 v.b.n,.string (str v.b.place.name),.slice ab v.b.place.path.length cb,.int .i64 v.op,.string (str v.place.name),.slice ap v.place.path.length cp,.string (str v.name),.slice an v.names.length cn,.slice ag v.args.length cg] w'):=by
  intro i h
  obtain ⟨b,o,e,hbC,cs,hl,hc,hx⟩:=hAn i h
  refine ⟨b,o,str v.names[i],e,fun W hw=>?_,fun W hw=>?_⟩
  ·have hK:=below_le hw he.C
   have h0:=hc 0 (by omega)
   rw [hx.1] at h0
   have h1:=(hK.cell (p:=⟨b,o+i * 1+0,none⟩) hbC).trans h0
   simpa using h1
  ·refine (xname_any v.names[i] (Nat.le_trans hx.2 (Nat.le_trans he.B (by omega))) W).mono ?_
   rintro _ w4 ⟨rfl,h⟩
   exact ⟨rfl,hw.call h⟩
 have HBB:Hid (B=true↔OkMake (farB v.name) v.args v.names/\{ v with kind:=0,names:=[],name:=[],args:=[] }=Va.zero):=hB'
 have HV2:Hid (OkMake (farB v.name) v.args v.names->∀ W,Below w.heap.size w W->Calls Tryz.prog 103 #[.agg #[.int .i64 0,.int .i64 v.a.kind,.int .i64 v.a.n,.string (str v.a.place.name),.slice aa v.a.place.path.length ca,.int .i64 v.b.kind,.int .i64 v.b.n,.string (str v.b.place.name),.slice ab v.b.place.path.length cb,.int .i64 v.op,.string (str v.place.name),.slice ap v.place.path.length cp,.string ⟨#[]⟩,.slice none 0 0,.slice none 0 0],.agg (vaCells 0).toArray] W (Rb B w)):=fun ho W hW=>HV.out W hW B (by rw [HBB.out];exact ⟨fun h=>h.2,fun h=>⟨ho,h⟩⟩)
 have HF:Hid (¬ OkMake (farB v.name) v.args v.names->B=false):=fun hn=>bool_false HBB.out fun h=>hn h.1
 have hl9:v.args.length<=9223372036854775807:=by omega
 have hn9:v.names.length<=9223372036854775807:=by omega
 have h01:(v.kind == 1)=false:=by rw [hk];rfl
 have h02:(v.kind == 2)=false:=by rw [hk];rfl
 have h03:(v.kind == 3)=false:=by rw [hk];rfl
 have h04:(v.kind == 4)=false:=by rw [hk];rfl
 have h05:(v.kind == 5)=false:=by rw [hk];rfl
 have h06:(v.kind == 6)=false:=by rw [hk];rfl
 have h07:(v.kind == 7)=true:=by rw [hk];rfl
 clear hk hB hB' HBB HV hpa hpb hla hlb hsa hsb hsp hns har ha hb hp hnl hlp HX1 he hcg hbg hAg hcn hbn hAn
 generalize farB v.name=fb,v.kind=kd,v.a.kind=x1,v.a.n=x2,str v.a.place.name=x3,v.a.place.path.length=x4,v.b.kind=y1,v.b.n=y2,str v.b.place.name=y3,v.b.place.path.length=y4,v.op=z1,str v.place.name=z2,v.place.path.length=z3,str v.name=z4,hLA:v.args=LA,hLN:v.names=LN at *
 clear hLA hLN
 obtain ⟨CS,hCS⟩:∃ L:List Value,L=[.int .i64 kd,.int .i64 x1,.int .i64 x2,.string x3,.slice aa x4 ca,.int .i64 y1,.int .i64 y2,.string y3,.slice ab y4 cb,.int .i64 z1,.string z2,.slice ap z3 cp,.string z4,.slice an LN.length cn,.slice ag LA.length cg]:=⟨_,rfl⟩
 obtain ⟨X0,hX0⟩:∃ L:List Value,L=[.int .i64 0,.int .i64 x1,.int .i64 x2,.string x3,.slice aa x4 ca,.int .i64 y1,.int .i64 y2,.string y3,.slice ab y4 cb,.int .i64 z1,.string z2,.slice ap z3 cp,.string z4,.slice an LN.length cn,.slice ag LA.length cg]:=⟨_,rfl⟩
 rw [← hCS,← hX0] at HE HN1
 have HV4:Hid (∀ W,Vst w CS X0 W->W.cell? ⟨w.heap.size,14,none⟩=some (.slice ag LA.length cg)/\W.cell? ⟨w.heap.size,0,none⟩=some (.int .i64 kd)/\W.cell? ⟨w.heap.size,13,none⟩=some (.slice an LN.length cn)):=fun W h=>by
  have h':=h.2.1
  rw [hCS] at h'
  exact ⟨h'.cell 14,h'.cell 0,h'.cell 13⟩
 have P1':Hid (Calls Tryz.prog 91 #[.string z4] ((w.alloc (.cells #[.int .i64 kd,.int .i64 x1,.int .i64 x2,.string x3,.slice aa x4 ca,.int .i64 y1,.int .i64 y2,.string y3,.slice ab y4 cb,.int .i64 z1,.string z2,.slice ap z3 cp,.string z4,.slice an LN.length cn,.slice ag LA.length cg] 47)).alloc (.cells #[.int .i64 0,.int .i64 x1,.int .i64 x2,.string x3,.slice aa x4 ca,.int .i64 y1,.int .i64 y2,.string y3,.slice ab y4 cb,.int .i64 z1,.string z2,.slice ap z3 cp,.string z4,.slice an LN.length cn,.slice ag LA.length cg] 47)) fun ev w4=>ev=.returned (.bool fb)/\Vst w CS X0 w4):=by rw [hCS,hX0];exact P1.out
 clear P1
 have HW0:Hid (∀ W,Vst w CS X0 W->W.cell? ⟨w.heap.size+1,13,none⟩=some (.slice an LN.length cn)/\W.frozen? ⟨w.heap.size+1,13,none⟩=false/\(W.setCell ⟨w.heap.size+1,13,none⟩ (.slice none 0 0)).cell? ⟨w.heap.size+1,12,none⟩=some (.string z4)/\(W.setCell ⟨w.heap.size+1,13,none⟩ (.slice none 0 0)).frozen? ⟨w.heap.size+1,12,none⟩=false/\((W.setCell ⟨w.heap.size+1,13,none⟩ (.slice none 0 0)).setCell ⟨w.heap.size+1,12,none⟩ (.string ⟨#[]⟩)).cell? ⟨w.heap.size+1,14,none⟩=some (.slice ag LA.length cg)/\((W.setCell ⟨w.heap.size+1,13,none⟩ (.slice none 0 0)).setCell ⟨w.heap.size+1,12,none⟩ (.string ⟨#[]⟩)).frozen? ⟨w.heap.size+1,14,none⟩=false /\
   Vst w CS [.int .i64 0,.int .i64 x1,.int .i64 x2,.string x3,.slice aa x4 ca,.int .i64 y1,.int .i64 y2,.string y3,.slice ab y4 cb,.int .i64 z1,.string z2,.slice ap z3 cp,.string ⟨#[]⟩,.slice none 0 0,.slice none 0 0] (((W.setCell ⟨w.heap.size+1,13,none⟩ (.slice none 0 0)).setCell ⟨w.heap.size+1,12,none⟩ (.string ⟨#[]⟩)).setCell ⟨w.heap.size+1,14,none⟩ (.slice none 0 0))):=fun W h=>by
  have h0:=h.set 13 (.slice none 0 0)
  have h1:=h0.set 12 (.string ⟨#[]⟩)
  have h2:=h1.set 14 (.slice none 0 0)
  rw [hX0] at h h0 h1 h2
  exact ⟨h.2.2.cell 13,h.2.2.fz 13,h0.2.2.cell 12,h0.2.2.fz 12,h1.2.2.cell 14,h1.2.2.fz 14,h2⟩
 clear hCS hX0
 go_enter Tryz.func93,Tryz.ntmps93
 go_wp2_with fail
 refine P1'.out.mono ?_
 rintro _ w4 ⟨rfl,V4⟩
 obtain ⟨g14,-⟩:=HV4.out w4 V4
 clear P1'
 have H4:=hid V4
 clear V4
 cases fb
 ·go_wp2_with fail
  go_loopw [4,5] (fun ok i wr=>i=.int .i64 0/\ok=.bool false/\Vst w CS X0 wr) (fun _ i _=>0)
  case atStart=>exact ⟨rfl,rfl,H4.out⟩
  case round =>
   obtain ⟨rfl,rfl,hv⟩:=hrel
   have HVV:=hid hv
   clear hv H4 g14
   obtain ⟨g14,g00,g13⟩:=HV4.out wr HVV.out
   have HFF:=hid (HF.out fun h=>(by cases h.1.1))
   clear HE HN1 HV2 HF
   by_cases h3:0<LA.length
   ·have i1:(0:Int)<(LA.length:Int):=by omega
    go_wp2_with fail
    rename World=>wA
    go_loopw [4,6] (fun ok i wr=>i=.int .i64 0/\ok=.bool false/\Vst w CS X0 wr) (fun _ i _=>0)
    case atStart=>exact ⟨rfl,rfl,HVV.out⟩
    case round =>
     obtain ⟨rfl,rfl,hv⟩:=hrel
     have HVW:=hid hv
     clear hv g14 g00 g13
     obtain ⟨-,-,g13⟩:=HV4.out wr HVW.out
     obtain ⟨f1,f2,f3,f4,f5,f6,V9⟩:=HW0.out wr HVW.out
     have H9:=hid V9
     clear V9 HV4 HW0
     by_cases h0:0<LN.length
     ·have i0:(0:Int)<(LN.length:Int):=by omega
      go_wp2_with fail
      go_ret
      exact ⟨by rw [HFF.out];rfl,H9.out.1⟩
     ·have i0:¬ (0:Int)<(LN.length:Int):=by omega
      go_wp2_with fail
      go_ret
      exact ⟨by rw [HFF.out];rfl,H9.out.1⟩
   ·have i1:¬ (0:Int)<(LA.length:Int):=by omega
    go_wp2_with fail
    rename World=>wA
    go_loopw [4,6] (fun ok i wr=>i=.int .i64 0/\ok=.bool false/\Vst w CS X0 wr) (fun _ i _=>0)
    case atStart=>exact ⟨rfl,rfl,HVV.out⟩
    case round =>
     obtain ⟨rfl,rfl,hv⟩:=hrel
     have HVW:=hid hv
     clear hv g14 g00 g13
     obtain ⟨-,-,g13⟩:=HV4.out wr HVW.out
     obtain ⟨f1,f2,f3,f4,f5,f6,V9⟩:=HW0.out wr HVW.out
     have H9:=hid V9
     clear V9 HV4 HW0
     by_cases h0:0<LN.length
     ·have i0:(0:Int)<(LN.length:Int):=by omega
      go_wp2_with fail
      go_ret
      exact ⟨by rw [HFF.out];rfl,H9.out.1⟩
     ·have i0:¬ (0:Int)<(LN.length:Int):=by omega
      go_wp2_with fail
      go_ret
      exact ⟨by rw [HFF.out];rfl,H9.out.1⟩
 ·go_wp2_with fail
  go_loopw [4,5] (fun ok i wr=>∃ (k:Nat) (okb:Bool),k<=LA.length/\i=.int .i64 k/\ok=.bool okb/\(okb=true->LA.length<=64/\∀ j (h:j<LA.length),j<k->MayOpr LA[j])/\(okb=false->¬ OkArgs true LA)/\Vst w CS X0 wr) (fun _ i _=>LA.length - (intOf i).toNat)
  case atStart =>
   exact ⟨0,decide (LA.length<=64),by omega,rfl,by first|rfl|exact congrArg Value.bool (decide_eq_decide.2 (by omega)),fun h=>⟨of_decide_eq_true h,fun j _ h=>by omega⟩,fun h h'=>(of_decide_eq_false h h'.2.1),H4.out⟩
  case round =>
   obtain ⟨k,okb,hk,rfl,rfl,hy,hn,hv⟩:=hrel
   have HY:=hid hy
   have HN:=hid hn
   have HVV:=hid hv
   clear hy hn hv H4 g14
   obtain ⟨g14,g00,g13⟩:=HV4.out wr HVV.out
   cases okb with
   | false =>
    have HFF:=hid (HF.out fun h=>HN.out rfl h.1)
    clear HE HN1 HV2 HF
    by_cases h3:k<LA.length
    ·have i1:(k:Int)<(LA.length:Int):=by omega
     go_wp2_with fail
     rename World=>wA
     go_loopw [4,6] (fun ok i wr=>i=.int .i64 0/\ok=.bool false/\Vst w CS X0 wr) (fun _ i _=>0)
     case atStart=>exact ⟨rfl,rfl,HVV.out⟩
     case round =>
      obtain ⟨rfl,rfl,hv⟩:=hrel
      have HVW:=hid hv
      clear hv g14 g00 g13
      obtain ⟨-,-,g13⟩:=HV4.out wr HVW.out
      obtain ⟨f1,f2,f3,f4,f5,f6,V9⟩:=HW0.out wr HVW.out
      have H9:=hid V9
      clear V9 HV4 HW0
      by_cases h0:0<LN.length
      ·have i0:(0:Int)<(LN.length:Int):=by omega
       go_wp2_with fail
       go_ret
       exact ⟨by rw [HFF.out];rfl,H9.out.1⟩
      ·have i0:¬ (0:Int)<(LN.length:Int):=by omega
       go_wp2_with fail
       go_ret
       exact ⟨by rw [HFF.out];rfl,H9.out.1⟩
    ·have i1:¬ (k:Int)<(LA.length:Int):=by omega
     go_wp2_with fail
     rename World=>wA
     go_loopw [4,6] (fun ok i wr=>i=.int .i64 0/\ok=.bool false/\Vst w CS X0 wr) (fun _ i _=>0)
     case atStart=>exact ⟨rfl,rfl,HVV.out⟩
     case round =>
      obtain ⟨rfl,rfl,hv⟩:=hrel
      have HVW:=hid hv
      clear hv g14 g00 g13
      obtain ⟨-,-,g13⟩:=HV4.out wr HVW.out
      obtain ⟨f1,f2,f3,f4,f5,f6,V9⟩:=HW0.out wr HVW.out
      have H9:=hid V9
      clear V9 HV4 HW0
      by_cases h0:0<LN.length
      ·have i0:(0:Int)<(LN.length:Int):=by omega
       go_wp2_with fail
       go_ret
       exact ⟨by rw [HFF.out];rfl,H9.out.1⟩
      ·have i0:¬ (0:Int)<(LN.length:Int):=by omega
       go_wp2_with fail
       go_ret
       exact ⟨by rw [HFF.out];rfl,H9.out.1⟩
   | true =>
    by_cases h3:k<LA.length
    ·have i1:(k:Int)<(LA.length:Int):=by omega
     obtain ⟨b,o,c0,c1,c2,c3,rfl,hcell,hcall⟩:=HE.out k h3
     obtain ⟨m0,m1,m2,m3⟩:=hcell wr HVV.out.1
     by_cases e:MayOpr LA[k]
     ·have HC:=hid (hcall wr HVV.out true ⟨fun _=>e,fun _=>rfl⟩)
      have HY':Hid (LA.length<=64/\∀ j (h:j<LA.length),j<k+1->MayOpr LA[j]):=by
       refine ⟨(HY.out rfl).1,fun j h hjk=>?_⟩
       rcases Nat.lt_or_ge j k with h'|h'
       ·exact (HY.out rfl).2 j h h'
       ·obtain rfl:j=k:=by omega
        exact e
      clear hcell hcall e
      go_wp2_with fail
      refine HC.out.mono ?_
      rintro _ w8 ⟨rfl,V8⟩
      have H8:=hid V8
      clear V8
      go_wp2_with fail
      go_roundw
      case rel=>exact ⟨k+1,true,by omega,by go_num,rfl,fun _=>HY'.out,fun h=>(by cases h),H8.out⟩
      case measure=>simp [intOf];omega
     ·have HC:=hid (hcall wr HVV.out false ⟨fun h=>(by cases h),fun h=>absurd h e⟩)
      have HN':Hid (¬ OkArgs true LA):=fun h=>e (h.2.2 _ (List.getElem_mem h3))
      clear hcell hcall e
      go_wp2_with fail
      refine HC.out.mono ?_
      rintro _ w8 ⟨rfl,V8⟩
      have H8:=hid V8
      clear V8
      go_wp2_with fail
      go_roundw
      case rel=>exact ⟨k+1,false,by omega,by go_num,rfl,fun h=>(by cases h),fun _=>HN'.out,H8.out⟩
      case measure=>simp [intOf];omega
    ·have i1:¬ (k:Int)<(LA.length:Int):=by omega
     have HO:Hid (OkArgs true LA):=⟨rfl,(HY.out rfl).1,fun a ha=>by
      obtain ⟨j,hj,rfl⟩:=List.getElem_of_mem ha
      exact (HY.out rfl).2 j hj (by omega)⟩
     clear HE
     have hee:LN.length=LA.length∨LN.length≠LA.length:=by omega
     rcases hee with hee|hee
     rotate_left
     ·have i5:((LN.length:Int) == (LA.length:Int))=false:=by simp;omega
      have HFF:=hid (HF.out fun h=>hee h.2.1)
      clear hee
      go_wp2_with fail
      rename World=>wA
      go_loopw [4,6] (fun ok i wr=>i=.int .i64 0/\ok=.bool false/\Vst w CS X0 wr) (fun _ i _=>0)
      case atStart=>exact ⟨rfl,rfl,HVV.out⟩
      case round =>
       obtain ⟨rfl,rfl,hv⟩:=hrel
       have HVW:=hid hv
       clear hv g14 g00 g13
       obtain ⟨-,-,g13⟩:=HV4.out wr HVW.out
       obtain ⟨f1,f2,f3,f4,f5,f6,V9⟩:=HW0.out wr HVW.out
       have H9:=hid V9
       clear V9 HV4 HW0
       by_cases h0:0<LN.length
       ·have i0:(0:Int)<(LN.length:Int):=by omega
        go_wp2_with fail
        go_ret
        exact ⟨by rw [HFF.out];rfl,H9.out.1⟩
       ·have i0:¬ (0:Int)<(LN.length:Int):=by omega
        go_wp2_with fail
        go_ret
        exact ⟨by rw [HFF.out];rfl,H9.out.1⟩
     ·have i5:((LN.length:Int) == (LA.length:Int))=true:=by simp;omega
      have HEE:=hid hee
      clear hee
      go_wp2_with fail
      rename World=>wA
      go_loopw [4,6] (fun ok i wr=>∃ (q:Nat) (okb:Bool),q<=LN.length/\i=.int .i64 q/\ok=.bool okb/\(okb=true->∀ j (h:j<LN.length),j<q->nameB LN[j]=true)/\(okb=false->¬ OkMake true LA LN)/\Vst w CS X0 wr) (fun _ i _=>LN.length - (intOf i).toNat)
      case atStart=>exact ⟨0,true,by omega,rfl,rfl,fun _ j _ h=>by omega,fun h=>(by cases h),HVV.out⟩
      case round =>
       obtain ⟨q,okb,hq,rfl,rfl,hy,hn,hv⟩:=hrel
       have HYN:=hid hy
       have HNN:=hid hn
       have HVW:=hid hv
       clear hy hn hv g14 g00 g13
       obtain ⟨-,-,g13⟩:=HV4.out wr HVW.out
       cases okb with
       | false =>
        have HFF:=hid (HF.out (HNN.out rfl))
        obtain ⟨f1,f2,f3,f4,f5,f6,V9⟩:=HW0.out wr HVW.out
        have H9:=hid V9
        clear V9 HV4 HW0 HN1 HV2
        by_cases h3:q<LN.length
        ·have i1:(q:Int)<(LN.length:Int):=by omega
         go_wp2_with fail
         go_ret
         exact ⟨by rw [HFF.out];rfl,H9.out.1⟩
        ·have i1:¬ (q:Int)<(LN.length:Int):=by omega
         go_wp2_with fail
         go_ret
         exact ⟨by rw [HFF.out];rfl,H9.out.1⟩
       | true =>
        by_cases h3:q<LN.length
        ·have i1:(q:Int)<(LN.length:Int):=by omega
         obtain ⟨b,o,S,rfl,hcell,hcall⟩:=HN1.out q h3
         have m0:=hcell wr HVW.out.1
         have HC:=hid (hcall wr HVW.out)
         have HY':Hid (nameB LN[q]=true->∀ j (h:j<LN.length),j<q+1->nameB LN[j]=true):=by
          intro e j h hjq
          rcases Nat.lt_or_ge j q with h'|h'
          ·exact HYN.out rfl j h h'
          ·obtain rfl:j=q:=by omega
           exact e
         have HN':Hid (nameB LN[q]=false->¬ OkMake true LA LN):=fun e h=>by
          have:=h.2.2 _ (List.getElem_mem h3)
          rw [e] at this
          cases this
         clear hcell hcall
         generalize nameB LN[q]=nb at *
         go_wp2_with fail
         refine HC.out.mono ?_
         rintro _ w8 ⟨rfl,V8⟩
         have H8:=hid V8
         clear V8
         go_wp2_with fail
         go_roundw
         case rel=>exact ⟨q+1,nb,by omega,by go_num,rfl,fun h=>HY'.out h,fun h=>HN'.out h,H8.out⟩
         case measure=>simp [intOf];omega
        ·have i1:¬ (q:Int)<(LN.length:Int):=by omega
         have HO2:Hid (OkMake true LA LN):=⟨HO.out,HEE.out,fun s hs=>by
          obtain ⟨j,hj,rfl⟩:=List.getElem_of_mem hs
          exact HYN.out rfl j hj (by omega)⟩
         obtain ⟨f1,f2,f3,f4,f5,f6,V9⟩:=HW0.out wr HVW.out
         have H9:=hid V9
         have rg:=hid V9.2.2.range
         have HC:=hid (HV2.out HO2.out)
         clear V9 HV4 HW0 HV2 HN1
         go_wp2_with (refine load_midG rfl 47 (.tmp 3) rfl (w.heap.size+1) 0 rfl _ _ rg.out Tryz.underlying47 rfl (by kernel_rfl) ?_)
         refine (HC.out _ H9.out.1).mono ?_
         rintro _ w8 ⟨rfl,V8⟩
         go_wp2_with fail
         go_ret
         exact ⟨by cases B <;> rfl,V8⟩
end Go.Proofs.YtjenmmkamhplkaaGreat
