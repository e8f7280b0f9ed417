/- Part of the proof. -/
import Derived.Test.YtjenmmkamhplkaaGreatJqspYv12
namespace Go.Proofs.YtjenmmkamhplkaaGreat
open Go.RowKit
theorem va_kindO (v:Va):({ v with op:=0,b:=Opr.zero,a:=Opr.zero }=Va.of v.kind)↔({ v with kind:=0,op:=0,b:=Opr.zero,a:=Opr.zero }=Va.zero):=by
 cases v;simp [Va.of,Va.zero]
set_option maxHeartbeats 8000000 in
set_option maxRecDepth 20000 in
theorem xval_op {K:Ctx} {w:World} (he:Env K w) {v:Va} {cs:List Value} (hx:VaAt K w cs v) (hk:v.kind=5) (B:Bool) (hB:B=true↔MayVa v) :
  Calls Tryz.prog 93 #[.agg cs.toArray] w (Rb B w):=by
 obtain ⟨xa,xb,ps,vn,va,rfl,ha,hb,hp,hnl,hns,har⟩:=hx
 obtain ⟨pa,rfl,hpa⟩:=id ha
 obtain ⟨pb,rfl,hpb⟩:=id hb
 obtain ⟨va1,rfl,hla,hsa⟩:=id hpa
 obtain ⟨vb1,rfl,hlb,hsb⟩:=id hpb
 obtain ⟨vp1,rfl,hlp,hsp⟩:=id hp
 obtain ⟨aa,ca,rfl⟩:=hsa.form
 obtain ⟨ab,cb,rfl⟩:=hsb.form
 obtain ⟨ap,cp,rfl⟩:=hsp.form
 obtain ⟨an,cn,rfl⟩:=hns.form
 obtain ⟨ag,cg,rfl⟩:=har.form
 rw [va_op hk,va_kindO v] at hB
 have HX1:Hid (∀ W,Below w.heap.size w W->VaAt K W [.int .i64 0,.int .i64 0,.int .i64 0,.string ⟨#[]⟩,.slice none 0 0,.int .i64 0,.int .i64 0,.string ⟨#[]⟩,.slice none 0 0,.int .i64 0,.string (str v.place.name),.slice ap v.place.path.length cp,.string (str v.name),.slice an v.names.length cn,.slice ag v.args.length cg] { v with kind:=0,op:=0,b:=Opr.zero,a:=Opr.zero }):=fun W hW=>by
  have hK:=below_le hW he.C
  exact ⟨oprCells,oprCells,_,_,_,rfl,opr_zero K W,opr_zero K W,hp.below hK,hnl,hns.below hK,har.mono hK fun _ _ _ h=>h.below hK⟩
 have HV:Hid (∀ W,Below w.heap.size w W->∀ B1:Bool,(B1=true↔{ v with kind:=0,op:=0,b:=Opr.zero,a:=Opr.zero }=Va.zero)->Calls Tryz.prog 103 #[.agg #[.int .i64 0,.int .i64 0,.int .i64 0,.string ⟨#[]⟩,.slice none 0 0,.int .i64 0,.int .i64 0,.string ⟨#[]⟩,.slice none 0 0,.int .i64 0,.string (str v.place.name),.slice ap v.place.path.length cp,.string (str v.name),.slice an v.names.length cn,.slice ag v.args.length cg],.agg (vaCells 0).toArray] W (Rb B1 w)):=by
  intro W hW B1 hB1
  refine (xvalue_any (Nat.le_trans he.C hW.size) (HX1.out W hW) (va_zero K W 0) B1 hB1).mono ?_
  rintro _ _ ⟨rfl,h⟩
  exact ⟨rfl,hW.trans (below_le h hW.size)⟩
 have P1:Hid (∀ B1:Bool,(B1=true↔MayOpr v.a)->Calls Tryz.prog 94 #[.agg #[.int .i64 v.a.kind,.int .i64 v.a.n,.string (str v.a.place.name),.slice aa v.a.place.path.length ca]] ((w.alloc (.cells #[.int .i64 v.kind,.int .i64 v.a.kind,.int .i64 v.a.n,.string (str v.a.place.name),.slice aa v.a.place.path.length ca,.int .i64 v.b.kind,.int .i64 v.b.n,.string (str v.b.place.name),.slice ab v.b.place.path.length cb,.int .i64 v.op,.string (str v.place.name),.slice ap v.place.path.length cp,.string (str v.name),.slice an v.names.length cn,.slice ag v.args.length cg] 47)).alloc (.cells #[.int .i64 0,.int .i64 v.a.kind,.int .i64 v.a.n,.string (str v.a.place.name),.slice aa v.a.place.path.length ca,.int .i64 v.b.kind,.int .i64 v.b.n,.string (str v.b.place.name),.slice ab v.b.place.path.length cb,.int .i64 v.op,.string (str v.place.name),.slice ap v.place.path.length cp,.string (str v.name),.slice an v.names.length cn,.slice ag v.args.length cg] 47)) fun ev w4=>ev=.returned (.bool B1)/\Vst w [.int .i64 v.kind,.int .i64 v.a.kind,.int .i64 v.a.n,.string (str v.a.place.name),.slice aa v.a.place.path.length ca,.int .i64 v.b.kind,.int .i64 v.b.n,.string (str v.b.place.name),.slice ab v.b.place.path.length cb,.int .i64 v.op,.string (str v.place.name),.slice ap v.place.path.length cp,.string (str v.name),.slice an v.names.length cn,.slice ag v.args.length cg] [.int .i64 0,.int .i64 v.a.kind,.int .i64 v.a.n,.string (str v.a.place.name),.slice aa v.a.place.path.length ca,.int .i64 v.b.kind,.int .i64 v.b.n,.string (str v.b.place.name),.slice ab v.b.place.path.length cb,.int .i64 v.op,.string (str v.place.name),.slice ap v.place.path.length cp,.string (str v.name),.slice an v.names.length cn,.slice ag v.args.length cg] w4):=by
  intro B1 hB1
  have h3:=Vst.start w [.int .i64 v.kind,.int .i64 v.a.kind,.int .i64 v.a.n,.string (str v.a.place.name),.slice aa v.a.place.path.length ca,.int .i64 v.b.kind,.int .i64 v.b.n,.string (str v.b.place.name),.slice ab v.b.place.path.length cb,.int .i64 v.op,.string (str v.place.name),.slice ap v.place.path.length cp,.string (str v.name),.slice an v.names.length cn,.slice ag v.args.length cg] [.int .i64 0,.int .i64 v.a.kind,.int .i64 v.a.n,.string (str v.a.place.name),.slice aa v.a.place.path.length ca,.int .i64 v.b.kind,.int .i64 v.b.n,.string (str v.b.place.name),.slice ab v.b.place.path.length cb,.int .i64 v.op,.string (str v.place.name),.slice ap v.place.path.length cp,.string (str v.name),.slice an v.names.length cn,.slice ag v.args.length cg]
  have hK:=below_le h3.1 he.C
  refine (xoperMay_any (he.below hK) (ha.below hK) B1 hB1).mono ?_
  rintro _ w4 ⟨rfl,h⟩
  exact ⟨rfl,h3.call h⟩
 have P3:Hid (∀ B1:Bool,(B1=true↔MayOpr v.b)->∀ W,Vst w [.int .i64 v.kind,.int .i64 v.a.kind,.int .i64 v.a.n,.string (str v.a.place.name),.slice aa v.a.place.path.length ca,.int .i64 v.b.kind,.int .i64 v.b.n,.string (str v.b.place.name),.slice ab v.b.place.path.length cb,.int .i64 v.op,.string (str v.place.name),.slice ap v.place.path.length cp,.string (str v.name),.slice an v.names.length cn,.slice ag v.args.length cg] [.int .i64 0,.int .i64 v.a.kind,.int .i64 v.a.n,.string (str v.a.place.name),.slice aa v.a.place.path.length ca,.int .i64 v.b.kind,.int .i64 v.b.n,.string (str v.b.place.name),.slice ab v.b.place.path.length cb,.int .i64 v.op,.string (str v.place.name),.slice ap v.place.path.length cp,.string (str v.name),.slice an v.names.length cn,.slice ag v.args.length cg] W->Calls Tryz.prog 94 #[.agg #[.int .i64 v.b.kind,.int .i64 v.b.n,.string (str v.b.place.name),.slice ab v.b.place.path.length cb]] W fun ev w4=>ev=.returned (.bool B1)/\Vst w [.int .i64 v.kind,.int .i64 v.a.kind,.int .i64 v.a.n,.string (str v.a.place.name),.slice aa v.a.place.path.length ca,.int .i64 v.b.kind,.int .i64 v.b.n,.string (str v.b.place.name),.slice ab v.b.place.path.length cb,.int .i64 v.op,.string (str v.place.name),.slice ap v.place.path.length cp,.string (str v.name),.slice an v.names.length cn,.slice ag v.args.length cg] [.int .i64 0,.int .i64 v.a.kind,.int .i64 v.a.n,.string (str v.a.place.name),.slice aa v.a.place.path.length ca,.int .i64 v.b.kind,.int .i64 v.b.n,.string (str v.b.place.name),.slice ab v.b.place.path.length cb,.int .i64 v.op,.string (str v.place.name),.slice ap v.place.path.length cp,.string (str v.name),.slice an v.names.length cn,.slice ag v.args.length cg] w4):=by
  intro B1 hB1 W h3
  have hK:=below_le h3.1 he.C
  refine (xoperMay_any (he.below hK) (hb.below hK) B1 hB1).mono ?_
  rintro _ w4 ⟨rfl,h⟩
  exact ⟨rfl,h3.call h⟩
 have ONZ:Hid ([Value.int .i64 0,.int .i64 0,.string ⟨#[]⟩,.slice none 0 0].toArray.all (·.oneCell')=true):=all_one (by repeat (first|exact ones_nil|refine ones_cons rfl ?_))
 have HBB:=hid0 hB
 clear hB hpa hpb hla hlb hsa hsb hsp hns har ha hb hp hnl hlp HX1 he
 have h01:(v.kind == 1)=false:=by rw [hk];rfl
 have h02:(v.kind == 2)=false:=by rw [hk];rfl
 have h03:(v.kind == 3)=false:=by rw [hk];rfl
 have h04:(v.kind == 4)=false:=by rw [hk];rfl
 have h05:(v.kind == 5)=true:=by rw [hk];rfl
 clear hk
 by_cases e0:MayOpr v.a
 rotate_left
 ·have HF:Hid (B=false):=bool_false HBB.out fun h=>e0 h.2.2.1
  have P2:=hid (P1.out false ⟨fun h=>(by cases h),fun h=>absurd h e0⟩)
  clear P1 P3 HBB e0 HV
  generalize v.kind=kd,v.a.kind=x1,v.a.n=x2,str v.a.place.name=x3,v.a.place.path.length=x4,v.b.kind=y1,v.b.n=y2,str v.b.place.name=y3,v.b.place.path.length=y4,v.op=z1,str v.place.name=z2,v.place.path.length=z3,str v.name=z4,v.names.length=z5,v.args.length=z6 at *
  go_enter Tryz.func93,Tryz.ntmps93
  go_wp2_with fail
  refine P2.out.mono ?_
  rintro _ w4 ⟨rfl,V4⟩
  have H4:=hid V4
  have hr4:=hid V4.2.2
  clear V4 P2
  go_wp2_with (first|(refine store_midL rfl 44 (.tmp 49) (.tmp 47) rfl (w.heap.size+1) 47 1 [.int .i64 0] [.int .i64 x1,.int .i64 x2,.string x3,.slice aa x4 ca] [.int .i64 0,.int .i64 0,.string ⟨#[]⟩,.slice none 0 0] _ hr4.out rfl rfl rfl rfl (by kernel_rfl) ONZ.out ?_;intro w5 r5 s5;have V5:=hid (Vst.stay H4.out s5 r5);have hr5:=hid V5.out.2.2;clear r5 s5 hr4)|(refine store_midL rfl 44 (.tmp 50) (.tmp 48) rfl (w.heap.size+1) 47 5 [.int .i64 0,.int .i64 0,.int .i64 0,.string ⟨#[]⟩,.slice none 0 0] [.int .i64 y1,.int .i64 y2,.string y3,.slice ab y4 cb] [.int .i64 0,.int .i64 0,.string ⟨#[]⟩,.slice none 0 0] _ hr5.out rfl rfl rfl rfl (by kernel_rfl) ONZ.out ?_;intro w6 r6 s6;have V6:=hid (Vst.stay V5.out s6 r6);have f9:=V6.out.2.2.cell 9;have f8:=V6.out.2.2.fz 9;have V7:=hid (V6.out.set 9 (.int .i64 0));have rg:=hid V7.out.2.2.range;clear r6 s6 hr5))
  go_ret
  exact ⟨by rw [HF.out];rfl,V7.out.1⟩
 have P2:=hid (P1.out true ⟨fun _=>e0,fun _=>rfl⟩)
 clear P1
 by_cases e1:MayOpr v.b
 rotate_left
 ·have HF:Hid (B=false):=bool_false HBB.out fun h=>e1 h.2.1
  have P4:=hid (P3.out false ⟨fun h=>(by cases h),fun h=>absurd h e1⟩)
  clear P3 HBB e0 e1 HV
  generalize v.kind=kd,v.a.kind=x1,v.a.n=x2,str v.a.place.name=x3,v.a.place.path.length=x4,v.b.kind=y1,v.b.n=y2,str v.b.place.name=y3,v.b.place.path.length=y4,v.op=z1,str v.place.name=z2,v.place.path.length=z3,str v.name=z4,v.names.length=z5,v.args.length=z6 at *
  go_enter Tryz.func93,Tryz.ntmps93
  go_wp2_with fail
  refine P2.out.mono ?_
  rintro _ w4 ⟨rfl,V4⟩
  obtain ⟨g5,g6,g7,g8,g9⟩:w4.cell? ⟨w.heap.size,5,none⟩=some (.int .i64 y1)/\w4.cell? ⟨w.heap.size,5+1,none⟩=some (.int .i64 y2)/\w4.cell? ⟨w.heap.size,5+2,none⟩=some (.string y3)/\w4.cell? ⟨w.heap.size,5+3,none⟩=some (.slice ab y4 cb)/\w4.cell? ⟨w.heap.size,9,none⟩=some (.int .i64 z1):=⟨V4.2.1.cell 5,V4.2.1.cell 6,V4.2.1.cell 7,V4.2.1.cell 8,V4.2.1.cell 9⟩
  have P5:=hid (P4.out w4 V4)
  clear V4 P2 P4
  go_wp2_with fail
  refine P5.out.mono ?_
  rintro _ w4' ⟨rfl,V4⟩
  have g9':=V4.2.1.cell 9
  clear g5 g6 g7 g8 g9 P5
  have H4:=hid V4
  have hr4:=hid V4.2.2
  clear V4
  go_wp2_with (first|(refine store_midL rfl 44 (.tmp 49) (.tmp 47) rfl (w.heap.size+1) 47 1 [.int .i64 0] [.int .i64 x1,.int .i64 x2,.string x3,.slice aa x4 ca] [.int .i64 0,.int .i64 0,.string ⟨#[]⟩,.slice none 0 0] _ hr4.out rfl rfl rfl rfl (by kernel_rfl) ONZ.out ?_;intro w5 r5 s5;have V5:=hid (Vst.stay H4.out s5 r5);have hr5:=hid V5.out.2.2;clear r5 s5 hr4)|(refine store_midL rfl 44 (.tmp 50) (.tmp 48) rfl (w.heap.size+1) 47 5 [.int .i64 0,.int .i64 0,.int .i64 0,.string ⟨#[]⟩,.slice none 0 0] [.int .i64 y1,.int .i64 y2,.string y3,.slice ab y4 cb] [.int .i64 0,.int .i64 0,.string ⟨#[]⟩,.slice none 0 0] _ hr5.out rfl rfl rfl rfl (by kernel_rfl) ONZ.out ?_;intro w6 r6 s6;have V6:=hid (Vst.stay V5.out s6 r6);have f9:=V6.out.2.2.cell 9;have f8:=V6.out.2.2.fz 9;have V7:=hid (V6.out.set 9 (.int .i64 0));have rg:=hid V7.out.2.2.range;clear r6 s6 hr5))
  go_ret
  exact ⟨by rw [HF.out];rfl,V7.out.1⟩
 have P4:=hid (P3.out true ⟨fun _=>e1,fun _=>rfl⟩)
 clear P3
 by_cases e2:1<=v.op
 rotate_left
 ·have HF:Hid (B=false):=bool_false HBB.out fun h=>e2 h.1.1
  clear HBB e0 e1 HV
  generalize v.kind=kd,v.a.kind=x1,v.a.n=x2,str v.a.place.name=x3,v.a.place.path.length=x4,v.b.kind=y1,v.b.n=y2,str v.b.place.name=y3,v.b.place.path.length=y4,v.op=z1,str v.place.name=z2,v.place.path.length=z3,str v.name=z4,v.names.length=z5,v.args.length=z6 at *
  go_enter Tryz.func93,Tryz.ntmps93
  go_wp2_with fail
  refine P2.out.mono ?_
  rintro _ w4 ⟨rfl,V4⟩
  obtain ⟨g5,g6,g7,g8,g9⟩:w4.cell? ⟨w.heap.size,5,none⟩=some (.int .i64 y1)/\w4.cell? ⟨w.heap.size,5+1,none⟩=some (.int .i64 y2)/\w4.cell? ⟨w.heap.size,5+2,none⟩=some (.string y3)/\w4.cell? ⟨w.heap.size,5+3,none⟩=some (.slice ab y4 cb)/\w4.cell? ⟨w.heap.size,9,none⟩=some (.int .i64 z1):=⟨V4.2.1.cell 5,V4.2.1.cell 6,V4.2.1.cell 7,V4.2.1.cell 8,V4.2.1.cell 9⟩
  have P5:=hid (P4.out w4 V4)
  clear V4 P2 P4
  go_wp2_with fail
  refine P5.out.mono ?_
  rintro _ w4' ⟨rfl,V4⟩
  have g9':=V4.2.1.cell 9
  clear g5 g6 g7 g8 g9 P5
  have H4:=hid V4
  have hr4:=hid V4.2.2
  clear V4
  go_wp2_with (first|(refine store_midL rfl 44 (.tmp 49) (.tmp 47) rfl (w.heap.size+1) 47 1 [.int .i64 0] [.int .i64 x1,.int .i64 x2,.string x3,.slice aa x4 ca] [.int .i64 0,.int .i64 0,.string ⟨#[]⟩,.slice none 0 0] _ hr4.out rfl rfl rfl rfl (by kernel_rfl) ONZ.out ?_;intro w5 r5 s5;have V5:=hid (Vst.stay H4.out s5 r5);have hr5:=hid V5.out.2.2;clear r5 s5 hr4)|(refine store_midL rfl 44 (.tmp 50) (.tmp 48) rfl (w.heap.size+1) 47 5 [.int .i64 0,.int .i64 0,.int .i64 0,.string ⟨#[]⟩,.slice none 0 0] [.int .i64 y1,.int .i64 y2,.string y3,.slice ab y4 cb] [.int .i64 0,.int .i64 0,.string ⟨#[]⟩,.slice none 0 0] _ hr5.out rfl rfl rfl rfl (by kernel_rfl) ONZ.out ?_;intro w6 r6 s6;have V6:=hid (Vst.stay V5.out s6 r6);have f9:=V6.out.2.2.cell 9;have f8:=V6.out.2.2.fz 9;have V7:=hid (V6.out.set 9 (.int .i64 0));have rg:=hid V7.out.2.2.range;clear r6 s6 hr5))
  go_ret
  exact ⟨by rw [HF.out];rfl,V7.out.1⟩
 by_cases e3:v.op<=4
 rotate_left
 ·have HF:Hid (B=false):=bool_false HBB.out fun h=>e3 h.1.2
  clear HBB e0 e1 HV
  generalize v.kind=kd,v.a.kind=x1,v.a.n=x2,str v.a.place.name=x3,v.a.place.path.length=x4,v.b.kind=y1,v.b.n=y2,str v.b.place.name=y3,v.b.place.path.length=y4,v.op=z1,str v.place.name=z2,v.place.path.length=z3,str v.name=z4,v.names.length=z5,v.args.length=z6 at *
  go_enter Tryz.func93,Tryz.ntmps93
  go_wp2_with fail
  refine P2.out.mono ?_
  rintro _ w4 ⟨rfl,V4⟩
  obtain ⟨g5,g6,g7,g8,g9⟩:w4.cell? ⟨w.heap.size,5,none⟩=some (.int .i64 y1)/\w4.cell? ⟨w.heap.size,5+1,none⟩=some (.int .i64 y2)/\w4.cell? ⟨w.heap.size,5+2,none⟩=some (.string y3)/\w4.cell? ⟨w.heap.size,5+3,none⟩=some (.slice ab y4 cb)/\w4.cell? ⟨w.heap.size,9,none⟩=some (.int .i64 z1):=⟨V4.2.1.cell 5,V4.2.1.cell 6,V4.2.1.cell 7,V4.2.1.cell 8,V4.2.1.cell 9⟩
  have P5:=hid (P4.out w4 V4)
  clear V4 P2 P4
  go_wp2_with fail
  refine P5.out.mono ?_
  rintro _ w4' ⟨rfl,V4⟩
  have g9':=V4.2.1.cell 9
  clear g5 g6 g7 g8 g9 P5
  have H4:=hid V4
  have hr4:=hid V4.2.2
  clear V4
  go_wp2_with (first|(refine store_midL rfl 44 (.tmp 49) (.tmp 47) rfl (w.heap.size+1) 47 1 [.int .i64 0] [.int .i64 x1,.int .i64 x2,.string x3,.slice aa x4 ca] [.int .i64 0,.int .i64 0,.string ⟨#[]⟩,.slice none 0 0] _ hr4.out rfl rfl rfl rfl (by kernel_rfl) ONZ.out ?_;intro w5 r5 s5;have V5:=hid (Vst.stay H4.out s5 r5);have hr5:=hid V5.out.2.2;clear r5 s5 hr4)|(refine store_midL rfl 44 (.tmp 50) (.tmp 48) rfl (w.heap.size+1) 47 5 [.int .i64 0,.int .i64 0,.int .i64 0,.string ⟨#[]⟩,.slice none 0 0] [.int .i64 y1,.int .i64 y2,.string y3,.slice ab y4 cb] [.int .i64 0,.int .i64 0,.string ⟨#[]⟩,.slice none 0 0] _ hr5.out rfl rfl rfl rfl (by kernel_rfl) ONZ.out ?_;intro w6 r6 s6;have V6:=hid (Vst.stay V5.out s6 r6);have f9:=V6.out.2.2.cell 9;have f8:=V6.out.2.2.fz 9;have V7:=hid (V6.out.set 9 (.int .i64 0));have rg:=hid V7.out.2.2.range;clear r6 s6 hr5))
  go_ret
  exact ⟨by rw [HF.out];rfl,V7.out.1⟩
 ·have HV2:=hid fun W hW=>HV.out W hW B (by rw [HBB.out];exact ⟨fun h=>h.2.2.2,fun h=>⟨⟨e2,e3⟩,e1,e0,h⟩⟩)
  clear HBB e0 e1 HV
  generalize v.kind=kd,v.a.kind=x1,v.a.n=x2,str v.a.place.name=x3,v.a.place.path.length=x4,v.b.kind=y1,v.b.n=y2,str v.b.place.name=y3,v.b.place.path.length=y4,v.op=z1,str v.place.name=z2,v.place.path.length=z3,str v.name=z4,v.names.length=z5,v.args.length=z6 at *
  go_enter Tryz.func93,Tryz.ntmps93
  go_wp2_with fail
  refine P2.out.mono ?_
  rintro _ w4 ⟨rfl,V4⟩
  obtain ⟨g5,g6,g7,g8,g9⟩:w4.cell? ⟨w.heap.size,5,none⟩=some (.int .i64 y1)/\w4.cell? ⟨w.heap.size,5+1,none⟩=some (.int .i64 y2)/\w4.cell? ⟨w.heap.size,5+2,none⟩=some (.string y3)/\w4.cell? ⟨w.heap.size,5+3,none⟩=some (.slice ab y4 cb)/\w4.cell? ⟨w.heap.size,9,none⟩=some (.int .i64 z1):=⟨V4.2.1.cell 5,V4.2.1.cell 6,V4.2.1.cell 7,V4.2.1.cell 8,V4.2.1.cell 9⟩
  have P5:=hid (P4.out w4 V4)
  clear V4 P2 P4
  go_wp2_with fail
  refine P5.out.mono ?_
  rintro _ w4' ⟨rfl,V4⟩
  have g9':=V4.2.1.cell 9
  clear g5 g6 g7 g8 g9 P5
  have H4:=hid V4
  have hr4:=hid V4.2.2
  clear V4
  go_wp2_with (first|(refine store_midL rfl 44 (.tmp 49) (.tmp 47) rfl (w.heap.size+1) 47 1 [.int .i64 0] [.int .i64 x1,.int .i64 x2,.string x3,.slice aa x4 ca] [.int .i64 0,.int .i64 0,.string ⟨#[]⟩,.slice none 0 0] _ hr4.out rfl rfl rfl rfl (by kernel_rfl) ONZ.out ?_;intro w5 r5 s5;have V5:=hid (Vst.stay H4.out s5 r5);have hr5:=hid V5.out.2.2;clear r5 s5 hr4)|(refine store_midL rfl 44 (.tmp 50) (.tmp 48) rfl (w.heap.size+1) 47 5 [.int .i64 0,.int .i64 0,.int .i64 0,.string ⟨#[]⟩,.slice none 0 0] [.int .i64 y1,.int .i64 y2,.string y3,.slice ab y4 cb] [.int .i64 0,.int .i64 0,.string ⟨#[]⟩,.slice none 0 0] _ hr5.out rfl rfl rfl rfl (by kernel_rfl) ONZ.out ?_;intro w6 r6 s6;have V6:=hid (Vst.stay V5.out s6 r6);have f9:=V6.out.2.2.cell 9;have f8:=V6.out.2.2.fz 9;have V7:=hid (V6.out.set 9 (.int .i64 0));have rg:=hid V7.out.2.2.range;clear r6 s6 hr5)|(refine load_midG rfl 47 (.tmp 3) rfl (w.heap.size+1) 0 rfl _ _ rg.out Tryz.underlying47 rfl (by kernel_rfl) ?_))
  refine (HV2.out _ V7.out.1).mono ?_
  rintro _ w8 ⟨rfl,V8⟩
  go_wp2_with fail
  go_ret
  exact ⟨by cases B <;> rfl,V8⟩

theorem va_kindC (v:Va):({ v with name:=[],args:=[] }=Va.of v.kind)↔({ v with kind:=0,name:=[],args:=[] }=Va.zero):=by
 cases v;simp [Va.of,Va.zero]
def OkArgs (F:Bool) (l:List Opr):Prop:=F=true/\l.length<=64/\∀ a∈l,MayOpr a
set_option maxHeartbeats 8000000 in
set_option maxRecDepth 20000 in
theorem xval_call {K:Ctx} {w:World} (he:Env K w) {v:Va} {cs:List Value} (hx:VaAt K w cs v) (hk:v.kind=6) (B:Bool) (hB:B=true↔MayVa v) :
  Calls Tryz.prog 93 #[.agg cs.toArray] w (Rb B w):=by
 obtain ⟨xa,xb,ps,vn,va,rfl,ha,hb,hp,hnl,hns,har⟩:=hx
 obtain ⟨pa,rfl,hpa⟩:=id ha
 obtain ⟨pb,rfl,hpb⟩:=id hb
 obtain ⟨va1,rfl,hla,hsa⟩:=id hpa
 obtain ⟨vb1,rfl,hlb,hsb⟩:=id hpb
 obtain ⟨vp1,rfl,hlp,hsp⟩:=id hp
 obtain ⟨aa,ca,rfl⟩:=hsa.form
 obtain ⟨ab,cb,rfl⟩:=hsb.form
 obtain ⟨ap,cp,rfl⟩:=hsp.form
 obtain ⟨an,cn,rfl⟩:=hns.form
 obtain ⟨ag,cg,rfl,hcg,hbg,hAg⟩:=id har.shape
 have hB':B=true↔OkArgs (farB v.name) v.args/\{ v with kind:=0,name:=[],args:=[] }=Va.zero:=by
  rw [hB,va_call hk,va_kindC v]
  unfold OkArgs
  constructor
  ·rintro ⟨h1,⟨h2,h3⟩,h4⟩;exact ⟨⟨h1,h2,h3⟩,h4⟩
  ·rintro ⟨⟨h1,h2,h3⟩,h4⟩;exact ⟨h1,⟨h2,h3⟩,h4⟩
 have HX1:Hid (∀ W,Below w.heap.size w W->VaAt K W [.int .i64 0,.int .i64 v.a.kind,.int .i64 v.a.n,.string (str v.a.place.name),.slice aa v.a.place.path.length ca,.int .i64 v.b.kind,.int .i64 v.b.n,.string (str v.b.place.name),.slice ab v.b.place.path.length cb,.int .i64 v.op,.string (str v.place.name),.slice ap v.place.path.length cp,.string ⟨#[]⟩,.slice an v.names.length cn,.slice none 0 0] { v with kind:=0,name:=[],args:=[] }):=fun W hW=>by
  have hK:=below_le hW he.C
  exact ⟨_,_,_,_,_,rfl,ha.below hK,hb.below hK,hp.below hK,by simp,hns.below hK,nil_ar⟩
 have HV:Hid (∀ W,Below w.heap.size w W->∀ B1:Bool,(B1=true↔{ v with kind:=0,name:=[],args:=[] }=Va.zero)->Calls Tryz.prog 103 #[.agg #[.int .i64 0,.int .i64 v.a.kind,.int .i64 v.a.n,.string (str v.a.place.name),.slice aa v.a.place.path.length ca,.int .i64 v.b.kind,.int .i64 v.b.n,.string (str v.b.place.name),.slice ab v.b.place.path.length cb,.int .i64 v.op,.string (str v.place.name),.slice ap v.place.path.length cp,.string ⟨#[]⟩,.slice an v.names.length cn,.slice none 0 0],.agg (vaCells 0).toArray] W (Rb B1 w)):=by
  intro W hW B1 hB1
  refine (xvalue_any (Nat.le_trans he.C hW.size) (HX1.out W hW) (va_zero K W 0) B1 hB1).mono ?_
  rintro _ _ ⟨rfl,h⟩
  exact ⟨rfl,hW.trans (below_le h hW.size)⟩
 have P1:Hid (Calls Tryz.prog 91 #[.string (str v.name)] ((w.alloc (.cells #[.int .i64 v.kind,.int .i64 v.a.kind,.int .i64 v.a.n,.string (str v.a.place.name),.slice aa v.a.place.path.length ca,.int .i64 v.b.kind,.int .i64 v.b.n,.string (str v.b.place.name),.slice ab v.b.place.path.length cb,.int .i64 v.op,.string (str v.place.name),.slice ap v.place.path.length cp,.string (str v.name),.slice an v.names.length cn,.slice ag v.args.length cg] 47)).alloc (.cells #[.int .i64 0,.int .i64 v.a.kind,.int .i64 v.a.n,.string (str v.a.place.name),.slice aa v.a.place.path.length ca,.int .i64 v.b.kind,.int .i64 v.b.n,.string (str v.b.place.name),.slice ab v.b.place.path.length cb,.int .i64 v.op,.string (str v.place.name),.slice ap v.place.path.length cp,.string (str v.name),.slice an v.names.length cn,.slice ag v.args.length cg] 47)) fun ev w4=>ev=.returned (.bool (farB v.name))/\Vst w [.int .i64 v.kind,.int .i64 v.a.kind,.int .i64 v.a.n,.string (str v.a.place.name),.slice aa v.a.place.path.length ca,.int .i64 v.b.kind,.int .i64 v.b.n,.string (str v.b.place.name),.slice ab v.b.place.path.length cb,.int .i64 v.op,.string (str v.place.name),.slice ap v.place.path.length cp,.string (str v.name),.slice an v.names.length cn,.slice ag v.args.length cg] [.int .i64 0,.int .i64 v.a.kind,.int .i64 v.a.n,.string (str v.a.place.name),.slice aa v.a.place.path.length ca,.int .i64 v.b.kind,.int .i64 v.b.n,.string (str v.b.place.name),.slice ab v.b.place.path.length cb,.int .i64 v.op,.string (str v.place.name),.slice ap v.place.path.length cp,.string (str v.name),.slice an v.names.length cn,.slice ag v.args.length cg] w4):=by
  have h3:=Vst.start w [.int .i64 v.kind,.int .i64 v.a.kind,.int .i64 v.a.n,.string (str v.a.place.name),.slice aa v.a.place.path.length ca,.int .i64 v.b.kind,.int .i64 v.b.n,.string (str v.b.place.name),.slice ab v.b.place.path.length cb,.int .i64 v.op,.string (str v.place.name),.slice ap v.place.path.length cp,.string (str v.name),.slice an v.names.length cn,.slice ag v.args.length cg] [.int .i64 0,.int .i64 v.a.kind,.int .i64 v.a.n,.string (str v.a.place.name),.slice aa v.a.place.path.length ca,.int .i64 v.b.kind,.int .i64 v.b.n,.string (str v.b.place.name),.slice ab v.b.place.path.length cb,.int .i64 v.op,.string (str v.place.name),.slice ap v.place.path.length cp,.string (str v.name),.slice an v.names.length cn,.slice ag v.args.length cg]
  refine (xlong_any v.name (Nat.le_trans hnl he.B) _).mono ?_
  rintro _ w4 ⟨rfl,h⟩
  exact ⟨rfl,h3.call h⟩
 have HE:Hid (∀ i (h:i<v.args.length),∃ (b o:Nat) (c0 c1 c2 c3:Value),ag=some ⟨b,o,none⟩/\(∀ W,Below w.heap.size w W->W.cell? ⟨b,o+i * 4,none⟩=some c0/\W.cell? ⟨b,o+i * 4+1,none⟩=some c1/\W.cell? ⟨b,o+i * 4+2,none⟩=some c2/\W.cell? ⟨b,o+i * 4+3,none⟩=some c3) /\
   ∀ W,Vst w [.int .i64 v.kind,.int .i64 v.a.kind,.int .i64 v.a.n,.string (str v.a.place.name),.slice aa v.a.place.path.length ca,.int .i64 v.b.kind,.int .i64 v.b.n,.string (str v.b.place.name),.slice ab v.b.place.path.length cb,.int .i64 v.op,.string (str v.place.name),.slice ap v.place.path.length cp,.string (str v.name),.slice an v.names.length cn,.slice ag v.args.length cg] [.int .i64 0,.int .i64 v.a.kind,.int .i64 v.a.n,.string (str v.a.place.name),.slice aa v.a.place.path.length ca,.int .i64 v.b.kind,.int .i64 v.b.n,.string (str v.b.place.name),.slice ab v.b.place.path.length cb,.int .i64 v.op,.string (str v.place.name),.slice ap v.place.path.length cp,.string (str v.name),.slice an v.names.length cn,.slice ag v.args.length cg] W->∀ B1:Bool,(B1=true↔MayOpr v.args[i])->Calls Tryz.prog 94 #[.agg #[c0,c1,c2,c3]] W fun ev w'=>ev=.returned (.bool B1)/\Vst w [.int .i64 v.kind,.int .i64 v.a.kind,.int .i64 v.a.n,.string (str v.a.place.name),.slice aa v.a.place.path.length ca,.int .i64 v.b.kind,.int .i64 v.b.n,.string (str v.b.place.name),.slice ab v.b.place.path.length cb,.int .i64 v.op,.string (str v.place.name),.slice ap v.place.path.length cp,.string (str v.name),.slice an v.names.length cn,.slice ag v.args.length cg] [.int .i64 0,.int .i64 v.a.kind,.int .i64 v.a.n,.string (str v.a.place.name),.slice aa v.a.place.path.length ca,.int .i64 v.b.kind,.int .i64 v.b.n,.string (str v.b.place.name),.slice ab v.b.place.path.length cb,.int .i64 v.op,.string (str v.place.name),.slice ap v.place.path.length cp,.string (str v.name),.slice an v.names.length cn,.slice ag v.args.length cg] w'):=by
  intro i h
  obtain ⟨b,o,e,hbC,cs,hl,hcs,kx⟩:=hAg i h
  obtain ⟨c0,c1,c2,c3,rfl⟩:=list4 hl
  refine ⟨b,o,c0,c1,c2,c3,e,fun W hw=>?_,fun W hw B1 hB1=>?_⟩
  ·have hK:=below_le hw he.C
   have f:∀ j,j<4->W.cell? ⟨b,o+i * 4+j,none⟩=[c0,c1,c2,c3][j]?:=fun j hj=>(hK.cell (p:=⟨b,o+i * 4+j,none⟩) hbC).trans (hcs j hj)
   exact ⟨f 0 (by decide),f 1 (by decide),f 2 (by decide),f 3 (by decide)⟩
  ·have hK:=below_le hw.1 he.C
   refine (xoperMay_any (he.below hK) (kx.below hK) B1 hB1).mono ?_
   rintro _ w4 ⟨rfl,h⟩
   exact ⟨rfl,hw.call h⟩
 have HBB:Hid (B=true↔OkArgs (farB v.name) v.args/\{ v with kind:=0,name:=[],args:=[] }=Va.zero):=hB'
 have HV2:Hid (OkArgs (farB v.name) v.args->∀ W,Below w.heap.size w W->Calls Tryz.prog 103 #[.agg #[.int .i64 0,.int .i64 v.a.kind,.int .i64 v.a.n,.string (str v.a.place.name),.slice aa v.a.place.path.length ca,.int .i64 v.b.kind,.int .i64 v.b.n,.string (str v.b.place.name),.slice ab v.b.place.path.length cb,.int .i64 v.op,.string (str v.place.name),.slice ap v.place.path.length cp,.string ⟨#[]⟩,.slice an v.names.length cn,.slice none 0 0],.agg (vaCells 0).toArray] W (Rb B w)):=fun ho W hW=>HV.out W hW B (by rw [HBB.out];exact ⟨fun h=>h.2,fun h=>⟨ho,h⟩⟩)
 have HF:Hid (¬ OkArgs (farB v.name) v.args->B=false):=fun hn=>bool_false HBB.out fun h=>hn h.1
 have hl9:v.args.length<=9223372036854775807:=by omega
 have h01:(v.kind == 1)=false:=by rw [hk];rfl
 have h02:(v.kind == 2)=false:=by rw [hk];rfl
 have h03:(v.kind == 3)=false:=by rw [hk];rfl
 have h04:(v.kind == 4)=false:=by rw [hk];rfl
 have h05:(v.kind == 5)=false:=by rw [hk];rfl
 have h06:(v.kind == 6)=true:=by rw [hk];rfl
 have h07:(v.kind == 7)=false:=by rw [hk];rfl
 clear hk hB hB' HBB HV hpa hpb hla hlb hsa hsb hsp hns har ha hb hp hnl hlp HX1 he hcg hbg hAg
 generalize farB v.name=fb,v.kind=kd,v.a.kind=x1,v.a.n=x2,str v.a.place.name=x3,v.a.place.path.length=x4,v.b.kind=y1,v.b.n=y2,str v.b.place.name=y3,v.b.place.path.length=y4,v.op=z1,str v.place.name=z2,v.place.path.length=z3,str v.name=z4,v.names.length=z5,hLA:v.args=LA at *
 clear hLA
 obtain ⟨CS,hCS⟩:∃ L:List Value,L=[.int .i64 kd,.int .i64 x1,.int .i64 x2,.string x3,.slice aa x4 ca,.int .i64 y1,.int .i64 y2,.string y3,.slice ab y4 cb,.int .i64 z1,.string z2,.slice ap z3 cp,.string z4,.slice an z5 cn,.slice ag LA.length cg]:=⟨_,rfl⟩
 obtain ⟨X0,hX0⟩:∃ L:List Value,L=[.int .i64 0,.int .i64 x1,.int .i64 x2,.string x3,.slice aa x4 ca,.int .i64 y1,.int .i64 y2,.string y3,.slice ab y4 cb,.int .i64 z1,.string z2,.slice ap z3 cp,.string z4,.slice an z5 cn,.slice ag LA.length cg]:=⟨_,rfl⟩
 rw [← hCS,← hX0] at HE
 have HV4:Hid (∀ W,Vst w CS X0 W->W.cell? ⟨w.heap.size,14,none⟩=some (.slice ag LA.length cg)/\W.cell? ⟨w.heap.size,0,none⟩=some (.int .i64 kd)):=fun W h=>by
  have h':=h.2.1
  rw [hCS] at h'
  exact ⟨h'.cell 14,h'.cell 0⟩
 have P1':Hid (Calls Tryz.prog 91 #[.string z4] ((w.alloc (.cells #[.int .i64 kd,.int .i64 x1,.int .i64 x2,.string x3,.slice aa x4 ca,.int .i64 y1,.int .i64 y2,.string y3,.slice ab y4 cb,.int .i64 z1,.string z2,.slice ap z3 cp,.string z4,.slice an z5 cn,.slice ag LA.length cg] 47)).alloc (.cells #[.int .i64 0,.int .i64 x1,.int .i64 x2,.string x3,.slice aa x4 ca,.int .i64 y1,.int .i64 y2,.string y3,.slice ab y4 cb,.int .i64 z1,.string z2,.slice ap z3 cp,.string z4,.slice an z5 cn,.slice ag LA.length cg] 47)) fun ev w4=>ev=.returned (.bool fb)/\Vst w CS X0 w4):=by rw [hCS,hX0];exact P1.out
 clear P1
 have HW0:Hid (∀ W,Vst w CS X0 W->W.cell? ⟨w.heap.size+1,12,none⟩=some (.string z4)/\W.frozen? ⟨w.heap.size+1,12,none⟩=false/\(W.setCell ⟨w.heap.size+1,12,none⟩ (.string ⟨#[]⟩)).cell? ⟨w.heap.size+1,14,none⟩=some (.slice ag LA.length cg)/\(W.setCell ⟨w.heap.size+1,12,none⟩ (.string ⟨#[]⟩)).frozen? ⟨w.heap.size+1,14,none⟩=false /\
   Vst w CS [.int .i64 0,.int .i64 x1,.int .i64 x2,.string x3,.slice aa x4 ca,.int .i64 y1,.int .i64 y2,.string y3,.slice ab y4 cb,.int .i64 z1,.string z2,.slice ap z3 cp,.string ⟨#[]⟩,.slice an z5 cn,.slice none 0 0] ((W.setCell ⟨w.heap.size+1,12,none⟩ (.string ⟨#[]⟩)).setCell ⟨w.heap.size+1,14,none⟩ (.slice none 0 0))):=fun W h=>by
  have h1:=h.set 12 (.string ⟨#[]⟩)
  have h2:=h1.set 14 (.slice none 0 0)
  rw [hX0] at h h1 h2
  exact ⟨h.2.2.cell 12,h.2.2.fz 12,h1.2.2.cell 14,h1.2.2.fz 14,h2⟩
 clear hCS hX0
 go_enter Tryz.func93,Tryz.ntmps93
 go_wp2_with fail
 refine P1'.out.mono ?_
 rintro _ w4 ⟨rfl,V4⟩
 obtain ⟨g14,-⟩:=HV4.out w4 V4
 clear P1'
 have H4:=hid V4
 clear V4
 cases fb
 ·go_wp2_with fail
  go_loopw [4,5] (fun ok i wr=>∃ (k:Nat) (okb:Bool),k<=LA.length/\i=.int .i64 k/\ok=.bool okb/\(okb=true->false=true/\LA.length<=64/\∀ j (h:j<LA.length),j<k->MayOpr LA[j])/\(okb=false->¬ OkArgs false LA)/\Vst w CS X0 wr) (fun _ i _=>LA.length - (intOf i).toNat)
  case atStart =>
   exact ⟨0,false,by omega,rfl,rfl,fun h=>(by cases h),fun _ h=>(by cases h.1),H4.out⟩
  case round =>
   obtain ⟨k,okb,hk,rfl,rfl,hy,hn,hv⟩:=hrel
   have HY:=hid hy
   have HN:=hid hn
   have HVV:=hid hv
   clear hy hn hv H4 g14
   obtain ⟨g14,g00⟩:=HV4.out wr HVV.out
   cases okb with
   | false =>
    have HFF:=hid (HF.out (HN.out rfl))
    obtain ⟨f1,f2,f3,f4,V9⟩:=HW0.out wr HVV.out
    have H9:=hid V9
    clear V9 HE HV2 HV4 HW0
    by_cases h3:k<LA.length
    ·have i1:(k:Int)<(LA.length:Int):=by omega
     go_wp2_with fail
     go_ret
     exact ⟨by rw [HFF.out];rfl,H9.out.1⟩
    ·have i1:¬ (k:Int)<(LA.length:Int):=by omega
     go_wp2_with fail
     go_ret
     exact ⟨by rw [HFF.out];rfl,H9.out.1⟩
   | true =>
    by_cases h3:k<LA.length
    ·have i1:(k:Int)<(LA.length:Int):=by omega
     obtain ⟨b,o,c0,c1,c2,c3,rfl,hcell,hcall⟩:=HE.out k h3
     obtain ⟨m0,m1,m2,m3⟩:=hcell wr HVV.out.1
     by_cases e:MayOpr LA[k]
     ·have HC:=hid (hcall wr HVV.out true ⟨fun _=>e,fun _=>rfl⟩)
      have HY':Hid (false=true/\LA.length<=64/\∀ j (h:j<LA.length),j<k+1->MayOpr LA[j]):=by
       refine ⟨(HY.out rfl).1,(HY.out rfl).2.1,fun j h hjk=>?_⟩
       rcases Nat.lt_or_ge j k with h'|h'
       ·exact (HY.out rfl).2.2 j h h'
       ·obtain rfl:j=k:=by omega
        exact e
      clear hcell hcall e
      go_wp2_with fail
      refine HC.out.mono ?_
      rintro _ w8 ⟨rfl,V8⟩
      have H8:=hid V8
      clear V8
      go_wp2_with fail
      go_roundw
      case rel=>exact ⟨k+1,true,by omega,by go_num,rfl,fun _=>HY'.out,fun h=>(by cases h),H8.out⟩
      case measure=>simp [intOf];omega
     ·have HC:=hid (hcall wr HVV.out false ⟨fun h=>(by cases h),fun h=>absurd h e⟩)
      have HN':Hid (¬ OkArgs false LA):=fun h=>e (h.2.2 _ (List.getElem_mem h3))
      clear hcell hcall e
      go_wp2_with fail
      refine HC.out.mono ?_
      rintro _ w8 ⟨rfl,V8⟩
      have H8:=hid V8
      clear V8
      go_wp2_with fail
      go_roundw
      case rel=>exact ⟨k+1,false,by omega,by go_num,rfl,fun h=>(by cases h),fun _=>HN'.out,H8.out⟩
      case measure=>simp [intOf];omega
    ·have i1:¬ (k:Int)<(LA.length:Int):=by omega
     have HO:Hid (OkArgs false LA):=⟨(HY.out rfl).1,(HY.out rfl).2.1,fun a ha=>by
      obtain ⟨j,hj,rfl⟩:=List.getElem_of_mem ha
      exact (HY.out rfl).2.2 j hj (by omega)⟩
     obtain ⟨f1,f2,f3,f4,V9⟩:=HW0.out wr HVV.out
     have H9:=hid V9
     have rg:=hid V9.2.2.range
     have HC:=hid (HV2.out HO.out)
     clear V9 HE HV4 HW0 HV2
     go_wp2_with (refine load_midG rfl 47 (.tmp 3) rfl (w.heap.size+1) 0 rfl _ _ rg.out Tryz.underlying47 rfl (by kernel_rfl) ?_)
     refine (HC.out _ H9.out.1).mono ?_
     rintro _ w8 ⟨rfl,V8⟩
     go_wp2_with fail
     go_ret
     exact ⟨by cases B <;> rfl,V8⟩
 ·go_wp2_with fail
  go_loopw [4,5] (fun ok i wr=>∃ (k:Nat) (okb:Bool),k<=LA.length/\i=.int .i64 k/\ok=.bool okb/\(okb=true->true=true/\LA.length<=64/\∀ j (h:j<LA.length),j<k->MayOpr LA[j])/\(okb=false->¬ OkArgs true LA)/\Vst w CS X0 wr) (fun _ i _=>LA.length - (intOf i).toNat)
  case atStart =>
   exact ⟨0,decide (LA.length<=64),by omega,rfl,by first|rfl|exact congrArg Value.bool (decide_eq_decide.2 (by omega)),fun h=>⟨rfl,of_decide_eq_true h,fun j _ h=>by omega⟩,fun h h'=>(of_decide_eq_false h h'.2.1),H4.out⟩
  case round =>
   obtain ⟨k,okb,hk,rfl,rfl,hy,hn,hv⟩:=hrel
   have HY:=hid hy
   have HN:=hid hn
   have HVV:=hid hv
   clear hy hn hv H4 g14
   obtain ⟨g14,g00⟩:=HV4.out wr HVV.out
   cases okb with
   | false =>
    have HFF:=hid (HF.out (HN.out rfl))
    obtain ⟨f1,f2,f3,f4,V9⟩:=HW0.out wr HVV.out
    have H9:=hid V9
    clear V9 HE HV2 HV4 HW0
    by_cases h3:k<LA.length
    ·have i1:(k:Int)<(LA.length:Int):=by omega
     go_wp2_with fail
     go_ret
     exact ⟨by rw [HFF.out];rfl,H9.out.1⟩
    ·have i1:¬ (k:Int)<(LA.length:Int):=by omega
     go_wp2_with fail
     go_ret
     exact ⟨by rw [HFF.out];rfl,H9.out.1⟩
   | true =>
    by_cases h3:k<LA.length
    ·have i1:(k:Int)<(LA.length:Int):=by omega
     obtain ⟨b,o,c0,c1,c2,c3,rfl,hcell,hcall⟩:=HE.out k h3
     obtain ⟨m0,m1,m2,m3⟩:=hcell wr HVV.out.1
     by_cases e:MayOpr LA[k]
     ·have HC:=hid (hcall wr HVV.out true ⟨fun _=>e,fun _=>rfl⟩)
      have HY':Hid (true=true/\LA.length<=64/\∀ j (h:j<LA.length),j<k+1->MayOpr LA[j]):=by
       refine ⟨(HY.out rfl).1,(HY.out rfl).2.1,fun j h hjk=>?_⟩
       rcases Nat.lt_or_ge j k with h'|h'
       ·exact (HY.out rfl).2.2 j h h'
       ·obtain rfl:j=k:=by omega
        exact e
      clear hcell hcall e
      go_wp2_with fail
      refine HC.out.mono ?_
      rintro _ w8 ⟨rfl,V8⟩
      have H8:=hid V8
      clear V8
      go_wp2_with fail
      go_roundw
      case rel=>exact ⟨k+1,true,by omega,by go_num,rfl,fun _=>HY'.out,fun h=>(by cases h),H8.out⟩
      case measure=>simp [intOf];omega
     ·have HC:=hid (hcall wr HVV.out false ⟨fun h=>(by cases h),fun h=>absurd h e⟩)
      have HN':Hid (¬ OkArgs true LA):=fun h=>e (h.2.2 _ (List.getElem_mem h3))
      clear hcell hcall e
      go_wp2_with fail
      refine HC.out.mono ?_
      rintro _ w8 ⟨rfl,V8⟩
      have H8:=hid V8
      clear V8
      go_wp2_with fail
      go_roundw
      case rel=>exact ⟨k+1,false,by omega,by go_num,rfl,fun h=>(by cases h),fun _=>HN'.out,H8.out⟩
      case measure=>simp [intOf];omega
    ·have i1:¬ (k:Int)<(LA.length:Int):=by omega
     have HO:Hid (OkArgs true LA):=⟨(HY.out rfl).1,(HY.out rfl).2.1,fun a ha=>by
      obtain ⟨j,hj,rfl⟩:=List.getElem_of_mem ha
      exact (HY.out rfl).2.2 j hj (by omega)⟩
     obtain ⟨f1,f2,f3,f4,V9⟩:=HW0.out wr HVV.out
     have H9:=hid V9
     have rg:=hid V9.2.2.range
     have HC:=hid (HV2.out HO.out)
     clear V9 HE HV4 HW0 HV2
     go_wp2_with (refine load_midG rfl 47 (.tmp 3) rfl (w.heap.size+1) 0 rfl _ _ rg.out Tryz.underlying47 rfl (by kernel_rfl) ?_)
     refine (HC.out _ H9.out.1).mono ?_
     rintro _ w8 ⟨rfl,V8⟩
     go_wp2_with fail
     go_ret
     exact ⟨by cases B <;> rfl,V8⟩
end Go.Proofs.YtjenmmkamhplkaaGreat
