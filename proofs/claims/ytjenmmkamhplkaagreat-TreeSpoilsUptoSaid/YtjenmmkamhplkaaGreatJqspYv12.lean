/- Part of the proof. -/
import Derived.Test.YtjenmmkamhplkaaGreatJqspYpl2
import Derived.Test.YtjenmmkamhplkaaGreatQqspXsv
import Derived.Test.YtjenmmkamhplkaaGreatJqspFew4
namespace Go.Proofs.YtjenmmkamhplkaaGreat
open Go.RowKit
def Vst (w:World) (cs xs:List Value) (W:World):Prop:=Below w.heap.size w W/\Row W w.heap.size 47 cs/\Row W (w.heap.size+1) 47 xs
theorem Vst.start (w:World) (cs xs:List Value):Vst w cs xs ((w.alloc (.cells cs.toArray 47)).alloc (.cells xs.toArray 47)):=by
 have h:=Row.new (w.alloc (.cells cs.toArray 47)) 47 xs
 rw [size_alloc] at h
 exact ⟨alloc_two _ _ _,(Row.new w 47 cs).alloc _,h⟩
theorem Vst.call {w W W':World} {cs xs:List Value} (h:Vst w cs xs W) (hb:Below W.heap.size W W'):Vst w cs xs W' :=
 ⟨h.1.trans (below_le hb h.1.size),h.2.1.below hb h.2.1.lt,h.2.2.below hb h.2.2.lt⟩
theorem Vst.stay {w W W':World} {cs xs ys:List Value} (h:Vst w cs xs W) (hs:Stay (fun k=>k=w.heap.size+1) W W') (hr:Row W' (w.heap.size+1) 47 ys):Vst w cs ys W' :=
 ⟨h.1.trans (hs.below h.1.size (fun k hk=>by omega)),hs.rowNe h.2.1 (by omega),hr⟩
theorem Vst.set {w W:World} {cs xs:List Value} (h:Vst w cs xs W) (j:Nat) (v:Value):Vst w cs (xs.set j v) (W.setCell ⟨w.heap.size+1,j,none⟩ v) :=
 h.stay (Stay.set (X:=fun k=>k=w.heap.size+1) (Stay.refl _ _) (fun _=>rfl) j v) (h.2.2.set j v)
theorem va_kind (v:Va) (k:Int) (h:v.kind=k):({ v with a:=Opr.zero }=Va.of v.kind)↔({ v with kind:=0,a:=Opr.zero }=Va.zero):=by
 cases v;simp [Va.of,Va.zero]
set_option maxHeartbeats 8000000 in
set_option maxRecDepth 20000 in
theorem xval_oper {K:Ctx} {w:World} (he:Env K w) {v:Va} {cs:List Value} (hx:VaAt K w cs v) (hk:v.kind=1∨v.kind=4) (B:Bool) (hB:B=true↔MayVa v) :
  Calls Tryz.prog 93 #[.agg cs.toArray] w (Rb B w):=by
 obtain ⟨xa,xb,ps,vn,va,rfl,ha,hb,hp,hnl,hns,har⟩:=hx
 obtain ⟨pa,rfl,hpa⟩:=id ha
 obtain ⟨pb,rfl,hpb⟩:=id hb
 obtain ⟨va1,rfl,hla,hsa⟩:=id hpa
 obtain ⟨vb1,rfl,hlb,hsb⟩:=id hpb
 obtain ⟨vp1,rfl,hlp,hsp⟩:=id hp
 obtain ⟨aa,ca,rfl⟩:=hsa.form
 obtain ⟨ab,cb,rfl⟩:=hsb.form
 obtain ⟨ap,cp,rfl⟩:=hsp.form
 obtain ⟨an,cn,rfl⟩:=hns.form
 obtain ⟨ag,cg,rfl⟩:=har.form
 rw [va_oper hk,va_kind v _ rfl] at hB
 have HX1:Hid (∀ W,Below w.heap.size w W->VaAt K W [.int .i64 0,.int .i64 0,.int .i64 0,.string ⟨#[]⟩,.slice none 0 0,.int .i64 v.b.kind,.int .i64 v.b.n,.string (str v.b.place.name),.slice ab v.b.place.path.length cb,.int .i64 v.op,.string (str v.place.name),.slice ap v.place.path.length cp,.string (str v.name),.slice an v.names.length cn,.slice ag v.args.length cg] { v with kind:=0,a:=Opr.zero }):=fun W hW=>by
  have hK:=below_le hW he.C
  exact ⟨oprCells,_,_,_,_,rfl,opr_zero K W,hb.below hK,hp.below hK,hnl,hns.below hK,har.mono hK fun _ _ _ h=>h.below hK⟩
 have HV:Hid (∀ W,Below w.heap.size w W->∀ B1:Bool,(B1=true↔{ v with kind:=0,a:=Opr.zero }=Va.zero)->Calls Tryz.prog 103 #[.agg #[.int .i64 0,.int .i64 0,.int .i64 0,.string ⟨#[]⟩,.slice none 0 0,.int .i64 v.b.kind,.int .i64 v.b.n,.string (str v.b.place.name),.slice ab v.b.place.path.length cb,.int .i64 v.op,.string (str v.place.name),.slice ap v.place.path.length cp,.string (str v.name),.slice an v.names.length cn,.slice ag v.args.length cg],.agg (vaCells 0).toArray] W (Rb B1 w)):=by
  intro W hW B1 hB1
  refine (xvalue_any (Nat.le_trans he.C hW.size) (HX1.out W hW) (va_zero K W 0) B1 hB1).mono ?_
  rintro _ _ ⟨rfl,h⟩
  exact ⟨rfl,hW.trans (below_le h hW.size)⟩
 have HO:Hid (∀ W,Below w.heap.size w W->∀ B1:Bool,(B1=true↔MayOpr v.a)->Calls Tryz.prog 94 #[.agg #[.int .i64 v.a.kind,.int .i64 v.a.n,.string (str v.a.place.name),.slice aa v.a.place.path.length ca]] W (Rb B1 W)):=by
  intro W hW B1 hB1
  have hK:=below_le hW he.C
  exact xoperMay_any (he.below hK) (ha.below hK) B1 hB1
 have P1:Hid (∀ B1:Bool,(B1=true↔MayOpr v.a)->Calls Tryz.prog 94 #[.agg #[.int .i64 v.a.kind,.int .i64 v.a.n,.string (str v.a.place.name),.slice aa v.a.place.path.length ca]] ((w.alloc (.cells #[.int .i64 v.kind,.int .i64 v.a.kind,.int .i64 v.a.n,.string (str v.a.place.name),.slice aa v.a.place.path.length ca,.int .i64 v.b.kind,.int .i64 v.b.n,.string (str v.b.place.name),.slice ab v.b.place.path.length cb,.int .i64 v.op,.string (str v.place.name),.slice ap v.place.path.length cp,.string (str v.name),.slice an v.names.length cn,.slice ag v.args.length cg] 47)).alloc (.cells #[.int .i64 0,.int .i64 v.a.kind,.int .i64 v.a.n,.string (str v.a.place.name),.slice aa v.a.place.path.length ca,.int .i64 v.b.kind,.int .i64 v.b.n,.string (str v.b.place.name),.slice ab v.b.place.path.length cb,.int .i64 v.op,.string (str v.place.name),.slice ap v.place.path.length cp,.string (str v.name),.slice an v.names.length cn,.slice ag v.args.length cg] 47)) fun ev w4=>ev=.returned (.bool B1)/\Vst w [.int .i64 v.kind,.int .i64 v.a.kind,.int .i64 v.a.n,.string (str v.a.place.name),.slice aa v.a.place.path.length ca,.int .i64 v.b.kind,.int .i64 v.b.n,.string (str v.b.place.name),.slice ab v.b.place.path.length cb,.int .i64 v.op,.string (str v.place.name),.slice ap v.place.path.length cp,.string (str v.name),.slice an v.names.length cn,.slice ag v.args.length cg] [.int .i64 0,.int .i64 v.a.kind,.int .i64 v.a.n,.string (str v.a.place.name),.slice aa v.a.place.path.length ca,.int .i64 v.b.kind,.int .i64 v.b.n,.string (str v.b.place.name),.slice ab v.b.place.path.length cb,.int .i64 v.op,.string (str v.place.name),.slice ap v.place.path.length cp,.string (str v.name),.slice an v.names.length cn,.slice ag v.args.length cg] w4):=by
  intro B1 hB1
  have h3:=Vst.start w [.int .i64 v.kind,.int .i64 v.a.kind,.int .i64 v.a.n,.string (str v.a.place.name),.slice aa v.a.place.path.length ca,.int .i64 v.b.kind,.int .i64 v.b.n,.string (str v.b.place.name),.slice ab v.b.place.path.length cb,.int .i64 v.op,.string (str v.place.name),.slice ap v.place.path.length cp,.string (str v.name),.slice an v.names.length cn,.slice ag v.args.length cg] [.int .i64 0,.int .i64 v.a.kind,.int .i64 v.a.n,.string (str v.a.place.name),.slice aa v.a.place.path.length ca,.int .i64 v.b.kind,.int .i64 v.b.n,.string (str v.b.place.name),.slice ab v.b.place.path.length cb,.int .i64 v.op,.string (str v.place.name),.slice ap v.place.path.length cp,.string (str v.name),.slice an v.names.length cn,.slice ag v.args.length cg]
  refine (HO.out _ h3.1 B1 hB1).mono ?_
  rintro _ w4 ⟨rfl,h⟩
  exact ⟨rfl,h3.call h⟩
 have ONZ:Hid ([Value.int .i64 0,.int .i64 0,.string ⟨#[]⟩,.slice none 0 0].toArray.all (·.oneCell')=true):=all_one (by repeat (first|exact ones_nil|refine ones_cons rfl ?_))
 have HBB:=hid0 hB
 clear hB hpa hpb hla hlb hsa hsb hsp hns har ha hb hp hnl hlp HX1 HO he
 have hk1:(v.kind == 1)=true∨((v.kind == 1)=false/\(v.kind == 4)=true):=by
  rcases hk with h|h
  ·exact .inl (by rw [h];rfl)
  ·exact .inr ⟨by rw [h];rfl,by rw [h];rfl⟩
 clear hk
 by_cases e0:MayOpr v.a
 ·have P2:=hid (P1.out true ⟨fun _=>e0,fun _=>rfl⟩)
  have HV2:=hid fun W hW=>HV.out W hW B (by rw [HBB.out];exact ⟨fun h=>h.2,fun h=>⟨e0,h⟩⟩)
  clear P1 HBB e0 HV
  generalize v.kind=kd,v.a.kind=x1,v.a.n=x2,str v.a.place.name=x3,v.a.place.path.length=x4,v.b.kind=y1,v.b.n=y2,str v.b.place.name=y3,v.b.place.path.length=y4,v.op=z1,str v.place.name=z2,v.place.path.length=z3,str v.name=z4,v.names.length=z5,v.args.length=z6 at *
  rcases hk1 with hk1|⟨hk1,hk2⟩
  ·go_enter Tryz.func93,Tryz.ntmps93
   go_wp2_with fail
   refine P2.out.mono ?_
   rintro _ w4 ⟨rfl,V4⟩
   have H4:=hid V4
   have hr4:=hid V4.2.2
   clear V4 P2
   go_wp2_with (first|(refine store_midL rfl 44 (.tmp 18) (.tmp 17) rfl (w.heap.size+1) 47 1 [.int .i64 0] [.int .i64 x1,.int .i64 x2,.string x3,.slice aa x4 ca] [.int .i64 0,.int .i64 0,.string ⟨#[]⟩,.slice none 0 0] _ hr4.out rfl rfl rfl rfl (by kernel_rfl) ONZ.out ?_;intro w5 r5 s5;have V5:=hid (Vst.stay H4.out s5 r5);clear r5 s5 hr4;have rg:=hid V5.out.2.2.range)|(refine load_midG rfl 47 (.tmp 3) rfl (w.heap.size+1) 0 rfl _ _ rg.out Tryz.underlying47 rfl (by kernel_rfl) ?_))
   refine (HV2.out _ V5.out.1).mono ?_
   rintro _ w6 ⟨rfl,V6⟩
   go_wp2_with fail
   go_ret
   exact ⟨by cases B <;> rfl,V6⟩
  ·go_enter Tryz.func93,Tryz.ntmps93
   go_wp2_with fail
   refine P2.out.mono ?_
   rintro _ w4 ⟨rfl,V4⟩
   have H4:=hid V4
   have hr4:=hid V4.2.2
   clear V4 P2
   go_wp2_with (first|(refine store_midL rfl 44 (.tmp 18) (.tmp 17) rfl (w.heap.size+1) 47 1 [.int .i64 0] [.int .i64 x1,.int .i64 x2,.string x3,.slice aa x4 ca] [.int .i64 0,.int .i64 0,.string ⟨#[]⟩,.slice none 0 0] _ hr4.out rfl rfl rfl rfl (by kernel_rfl) ONZ.out ?_;intro w5 r5 s5;have V5:=hid (Vst.stay H4.out s5 r5);clear r5 s5 hr4;have rg:=hid V5.out.2.2.range)|(refine load_midG rfl 47 (.tmp 3) rfl (w.heap.size+1) 0 rfl _ _ rg.out Tryz.underlying47 rfl (by kernel_rfl) ?_))
   refine (HV2.out _ V5.out.1).mono ?_
   rintro _ w6 ⟨rfl,V6⟩
   go_wp2_with fail
   go_ret
   exact ⟨by cases B <;> rfl,V6⟩
 ·have HF:Hid (B=false):=bool_false HBB.out fun h=>e0 h.1
  have P2:=hid (P1.out false ⟨fun h=>(by cases h),fun h=>absurd h e0⟩)
  clear P1 HBB e0 HV
  generalize v.kind=kd,v.a.kind=x1,v.a.n=x2,str v.a.place.name=x3,v.a.place.path.length=x4,v.b.kind=y1,v.b.n=y2,str v.b.place.name=y3,v.b.place.path.length=y4,v.op=z1,str v.place.name=z2,v.place.path.length=z3,str v.name=z4,v.names.length=z5,v.args.length=z6 at *
  rcases hk1 with hk1|⟨hk1,hk2⟩
  ·go_enter Tryz.func93,Tryz.ntmps93
   go_wp2_with fail
   refine P2.out.mono ?_
   rintro _ w4 ⟨rfl,V4⟩
   have H4:=hid V4
   have hr4:=hid V4.2.2
   clear V4 P2
   go_wp2_with (refine store_midL rfl 44 (.tmp 18) (.tmp 17) rfl (w.heap.size+1) 47 1 [.int .i64 0] [.int .i64 x1,.int .i64 x2,.string x3,.slice aa x4 ca] [.int .i64 0,.int .i64 0,.string ⟨#[]⟩,.slice none 0 0] _ hr4.out rfl rfl rfl rfl (by kernel_rfl) ONZ.out ?_;intro w5 r5 s5;have V5:=hid (Vst.stay H4.out s5 r5);clear r5 s5 hr4)
   go_ret
   exact ⟨by rw [HF.out];rfl,V5.out.1⟩
  ·go_enter Tryz.func93,Tryz.ntmps93
   go_wp2_with fail
   refine P2.out.mono ?_
   rintro _ w4 ⟨rfl,V4⟩
   have H4:=hid V4
   have hr4:=hid V4.2.2
   clear V4 P2
   go_wp2_with (refine store_midL rfl 44 (.tmp 18) (.tmp 17) rfl (w.heap.size+1) 47 1 [.int .i64 0] [.int .i64 x1,.int .i64 x2,.string x3,.slice aa x4 ca] [.int .i64 0,.int .i64 0,.string ⟨#[]⟩,.slice none 0 0] _ hr4.out rfl rfl rfl rfl (by kernel_rfl) ONZ.out ?_;intro w5 r5 s5;have V5:=hid (Vst.stay H4.out s5 r5);clear r5 s5 hr4)
   go_ret
   exact ⟨by rw [HF.out];rfl,V5.out.1⟩

theorem va_kindP (v:Va) (k:Int) (h:v.kind=k):({ v with place:=Pl.zero }=Va.of v.kind)↔({ v with kind:=0,place:=Pl.zero }=Va.zero):=by
 cases v;simp [Va.of,Va.zero]
set_option maxHeartbeats 8000000 in
set_option maxRecDepth 20000 in
theorem xval_ref {K:Ctx} {w:World} (he:Env K w) {v:Va} {cs:List Value} (hx:VaAt K w cs v) (hk:v.kind=2∨v.kind=3) (B:Bool) (hB:B=true↔MayVa v) :
  Calls Tryz.prog 93 #[.agg cs.toArray] w (Rb B w):=by
 obtain ⟨xa,xb,ps,vn,va,rfl,ha,hb,hp,hnl,hns,har⟩:=hx
 obtain ⟨pa,rfl,hpa⟩:=id ha
 obtain ⟨pb,rfl,hpb⟩:=id hb
 obtain ⟨va1,rfl,hla,hsa⟩:=id hpa
 obtain ⟨vb1,rfl,hlb,hsb⟩:=id hpb
 obtain ⟨vp1,rfl,hlp,hsp⟩:=id hp
 obtain ⟨aa,ca,rfl⟩:=hsa.form
 obtain ⟨ab,cb,rfl⟩:=hsb.form
 obtain ⟨ap,cp,rfl⟩:=hsp.form
 obtain ⟨an,cn,rfl⟩:=hns.form
 obtain ⟨ag,cg,rfl⟩:=har.form
 rw [va_ref hk,va_kindP v _ rfl] at hB
 have HX1:Hid (∀ W,Below w.heap.size w W->VaAt K W [.int .i64 0,.int .i64 v.a.kind,.int .i64 v.a.n,.string (str v.a.place.name),.slice aa v.a.place.path.length ca,.int .i64 v.b.kind,.int .i64 v.b.n,.string (str v.b.place.name),.slice ab v.b.place.path.length cb,.int .i64 v.op,.string ⟨#[]⟩,.slice none 0 0,.string (str v.name),.slice an v.names.length cn,.slice ag v.args.length cg] { v with kind:=0,place:=Pl.zero }):=fun W hW=>by
  have hK:=below_le hW he.C
  exact ⟨_,_,plCells,_,_,rfl,ha.below hK,hb.below hK,pl_zero K W,hnl,hns.below hK,har.mono hK fun _ _ _ h=>h.below hK⟩
 have HV:Hid (∀ W,Below w.heap.size w W->∀ B1:Bool,(B1=true↔{ v with kind:=0,place:=Pl.zero }=Va.zero)->Calls Tryz.prog 103 #[.agg #[.int .i64 0,.int .i64 v.a.kind,.int .i64 v.a.n,.string (str v.a.place.name),.slice aa v.a.place.path.length ca,.int .i64 v.b.kind,.int .i64 v.b.n,.string (str v.b.place.name),.slice ab v.b.place.path.length cb,.int .i64 v.op,.string ⟨#[]⟩,.slice none 0 0,.string (str v.name),.slice an v.names.length cn,.slice ag v.args.length cg],.agg (vaCells 0).toArray] W (Rb B1 w)):=by
  intro W hW B1 hB1
  refine (xvalue_any (Nat.le_trans he.C hW.size) (HX1.out W hW) (va_zero K W 0) B1 hB1).mono ?_
  rintro _ _ ⟨rfl,h⟩
  exact ⟨rfl,hW.trans (below_le h hW.size)⟩
 have HO:Hid (∀ W,Below w.heap.size w W->∀ B1:Bool,(B1=true↔MayPl v.place)->Calls Tryz.prog 92 #[.agg #[.string (str v.place.name),.slice ap v.place.path.length cp]] W (Rb B1 W)):=by
  intro W hW B1 hB1
  have hK:=below_le hW he.C
  exact xplaceMay_any (he.below hK) (hp.below hK) B1 hB1
 have P1:Hid (∀ B1:Bool,(B1=true↔MayPl v.place)->Calls Tryz.prog 92 #[.agg #[.string (str v.place.name),.slice ap v.place.path.length cp]] ((w.alloc (.cells #[.int .i64 v.kind,.int .i64 v.a.kind,.int .i64 v.a.n,.string (str v.a.place.name),.slice aa v.a.place.path.length ca,.int .i64 v.b.kind,.int .i64 v.b.n,.string (str v.b.place.name),.slice ab v.b.place.path.length cb,.int .i64 v.op,.string (str v.place.name),.slice ap v.place.path.length cp,.string (str v.name),.slice an v.names.length cn,.slice ag v.args.length cg] 47)).alloc (.cells #[.int .i64 0,.int .i64 v.a.kind,.int .i64 v.a.n,.string (str v.a.place.name),.slice aa v.a.place.path.length ca,.int .i64 v.b.kind,.int .i64 v.b.n,.string (str v.b.place.name),.slice ab v.b.place.path.length cb,.int .i64 v.op,.string (str v.place.name),.slice ap v.place.path.length cp,.string (str v.name),.slice an v.names.length cn,.slice ag v.args.length cg] 47)) fun ev w4=>ev=.returned (.bool B1)/\Vst w [.int .i64 v.kind,.int .i64 v.a.kind,.int .i64 v.a.n,.string (str v.a.place.name),.slice aa v.a.place.path.length ca,.int .i64 v.b.kind,.int .i64 v.b.n,.string (str v.b.place.name),.slice ab v.b.place.path.length cb,.int .i64 v.op,.string (str v.place.name),.slice ap v.place.path.length cp,.string (str v.name),.slice an v.names.length cn,.slice ag v.args.length cg] [.int .i64 0,.int .i64 v.a.kind,.int .i64 v.a.n,.string (str v.a.place.name),.slice aa v.a.place.path.length ca,.int .i64 v.b.kind,.int .i64 v.b.n,.string (str v.b.place.name),.slice ab v.b.place.path.length cb,.int .i64 v.op,.string (str v.place.name),.slice ap v.place.path.length cp,.string (str v.name),.slice an v.names.length cn,.slice ag v.args.length cg] w4):=by
  intro B1 hB1
  have h3:=Vst.start w [.int .i64 v.kind,.int .i64 v.a.kind,.int .i64 v.a.n,.string (str v.a.place.name),.slice aa v.a.place.path.length ca,.int .i64 v.b.kind,.int .i64 v.b.n,.string (str v.b.place.name),.slice ab v.b.place.path.length cb,.int .i64 v.op,.string (str v.place.name),.slice ap v.place.path.length cp,.string (str v.name),.slice an v.names.length cn,.slice ag v.args.length cg] [.int .i64 0,.int .i64 v.a.kind,.int .i64 v.a.n,.string (str v.a.place.name),.slice aa v.a.place.path.length ca,.int .i64 v.b.kind,.int .i64 v.b.n,.string (str v.b.place.name),.slice ab v.b.place.path.length cb,.int .i64 v.op,.string (str v.place.name),.slice ap v.place.path.length cp,.string (str v.name),.slice an v.names.length cn,.slice ag v.args.length cg]
  refine (HO.out _ h3.1 B1 hB1).mono ?_
  rintro _ w4 ⟨rfl,h⟩
  exact ⟨rfl,h3.call h⟩
 have ONZ:Hid ([Value.string ⟨#[]⟩,.slice none 0 0].toArray.all (·.oneCell')=true):=all_one (by repeat (first|exact ones_nil|refine ones_cons rfl ?_))
 have HBB:=hid0 hB
 clear hB hpa hpb hla hlb hsa hsb hsp hns har ha hb hp hnl hlp HX1 HO he
 have h01:(v.kind == 1)=false:=by simp;omega
 have h04:(v.kind == 4)=false:=by simp;omega
 have hk1:(v.kind == 2)=true∨((v.kind == 2)=false/\(v.kind == 3)=true):=by
  rcases hk with h|h
  ·exact .inl (by rw [h];rfl)
  ·exact .inr ⟨by rw [h];rfl,by rw [h];rfl⟩
 clear hk
 by_cases e0:MayPl v.place
 ·have P2:=hid (P1.out true ⟨fun _=>e0,fun _=>rfl⟩)
  have HV2:=hid fun W hW=>HV.out W hW B (by rw [HBB.out];exact ⟨fun h=>h.2,fun h=>⟨e0,h⟩⟩)
  clear P1 HBB e0 HV
  generalize v.kind=kd,v.a.kind=x1,v.a.n=x2,str v.a.place.name=x3,v.a.place.path.length=x4,v.b.kind=y1,v.b.n=y2,str v.b.place.name=y3,v.b.place.path.length=y4,v.op=z1,str v.place.name=z2,v.place.path.length=z3,str v.name=z4,v.names.length=z5,v.args.length=z6 at *
  rcases hk1 with hk1|⟨hk1,hk2⟩
  ·go_enter Tryz.func93,Tryz.ntmps93
   go_wp2_with fail
   refine P2.out.mono ?_
   rintro _ w4 ⟨rfl,V4⟩
   have H4:=hid V4
   have hr4:=hid V4.2.2
   clear V4 P2
   go_wp2_with (first|(refine store_midL rfl 42 (.tmp 26) (.tmp 25) rfl (w.heap.size+1) 47 10 [.int .i64 0,.int .i64 x1,.int .i64 x2,.string x3,.slice aa x4 ca,.int .i64 y1,.int .i64 y2,.string y3,.slice ab y4 cb,.int .i64 z1] [.string z2,.slice ap z3 cp] [.string ⟨#[]⟩,.slice none 0 0] _ hr4.out rfl rfl rfl rfl (by kernel_rfl) ONZ.out ?_;intro w5 r5 s5;have V5:=hid (Vst.stay H4.out s5 r5);clear r5 s5 hr4;have rg:=hid V5.out.2.2.range)|(refine load_midG rfl 47 (.tmp 3) rfl (w.heap.size+1) 0 rfl _ _ rg.out Tryz.underlying47 rfl (by kernel_rfl) ?_))
   refine (HV2.out _ V5.out.1).mono ?_
   rintro _ w6 ⟨rfl,V6⟩
   go_wp2_with fail
   go_ret
   exact ⟨by cases B <;> rfl,V6⟩
  ·go_enter Tryz.func93,Tryz.ntmps93
   go_wp2_with fail
   refine P2.out.mono ?_
   rintro _ w4 ⟨rfl,V4⟩
   have H4:=hid V4
   have hr4:=hid V4.2.2
   clear V4 P2
   go_wp2_with (first|(refine store_midL rfl 42 (.tmp 26) (.tmp 25) rfl (w.heap.size+1) 47 10 [.int .i64 0,.int .i64 x1,.int .i64 x2,.string x3,.slice aa x4 ca,.int .i64 y1,.int .i64 y2,.string y3,.slice ab y4 cb,.int .i64 z1] [.string z2,.slice ap z3 cp] [.string ⟨#[]⟩,.slice none 0 0] _ hr4.out rfl rfl rfl rfl (by kernel_rfl) ONZ.out ?_;intro w5 r5 s5;have V5:=hid (Vst.stay H4.out s5 r5);clear r5 s5 hr4;have rg:=hid V5.out.2.2.range)|(refine load_midG rfl 47 (.tmp 3) rfl (w.heap.size+1) 0 rfl _ _ rg.out Tryz.underlying47 rfl (by kernel_rfl) ?_))
   refine (HV2.out _ V5.out.1).mono ?_
   rintro _ w6 ⟨rfl,V6⟩
   go_wp2_with fail
   go_ret
   exact ⟨by cases B <;> rfl,V6⟩
 ·have HF:Hid (B=false):=bool_false HBB.out fun h=>e0 h.1
  have P2:=hid (P1.out false ⟨fun h=>(by cases h),fun h=>absurd h e0⟩)
  clear P1 HBB e0 HV
  generalize v.kind=kd,v.a.kind=x1,v.a.n=x2,str v.a.place.name=x3,v.a.place.path.length=x4,v.b.kind=y1,v.b.n=y2,str v.b.place.name=y3,v.b.place.path.length=y4,v.op=z1,str v.place.name=z2,v.place.path.length=z3,str v.name=z4,v.names.length=z5,v.args.length=z6 at *
  rcases hk1 with hk1|⟨hk1,hk2⟩
  ·go_enter Tryz.func93,Tryz.ntmps93
   go_wp2_with fail
   refine P2.out.mono ?_
   rintro _ w4 ⟨rfl,V4⟩
   have H4:=hid V4
   have hr4:=hid V4.2.2
   clear V4 P2
   go_wp2_with (refine store_midL rfl 42 (.tmp 26) (.tmp 25) rfl (w.heap.size+1) 47 10 [.int .i64 0,.int .i64 x1,.int .i64 x2,.string x3,.slice aa x4 ca,.int .i64 y1,.int .i64 y2,.string y3,.slice ab y4 cb,.int .i64 z1] [.string z2,.slice ap z3 cp] [.string ⟨#[]⟩,.slice none 0 0] _ hr4.out rfl rfl rfl rfl (by kernel_rfl) ONZ.out ?_;intro w5 r5 s5;have V5:=hid (Vst.stay H4.out s5 r5);clear r5 s5 hr4)
   go_ret
   exact ⟨by rw [HF.out];rfl,V5.out.1⟩
  ·go_enter Tryz.func93,Tryz.ntmps93
   go_wp2_with fail
   refine P2.out.mono ?_
   rintro _ w4 ⟨rfl,V4⟩
   have H4:=hid V4
   have hr4:=hid V4.2.2
   clear V4 P2
   go_wp2_with (refine store_midL rfl 42 (.tmp 26) (.tmp 25) rfl (w.heap.size+1) 47 10 [.int .i64 0,.int .i64 x1,.int .i64 x2,.string x3,.slice aa x4 ca,.int .i64 y1,.int .i64 y2,.string y3,.slice ab y4 cb,.int .i64 z1] [.string z2,.slice ap z3 cp] [.string ⟨#[]⟩,.slice none 0 0] _ hr4.out rfl rfl rfl rfl (by kernel_rfl) ONZ.out ?_;intro w5 r5 s5;have V5:=hid (Vst.stay H4.out s5 r5);clear r5 s5 hr4)
   go_ret
   exact ⟨by rw [HF.out];rfl,V5.out.1⟩
end Go.Proofs.YtjenmmkamhplkaaGreat
