/- Part of the proof. -/
import Derived.Test.YtjenmmkamhplkaaGreatQqspVl1
namespace Go.Proofs.YtjenmmkamhplkaaGreat
open Go.RowKit
set_option maxHeartbeats 8000000 in
set_option maxRecDepth 20000 in
theorem mayVal_5 {K:Ctx} {w:World} (he:Env K w) {x:Va} {pa pb pp pn pv:Option Addr} {na nb np ca cb cp cn cv:Nat} (h1:OprAt K w [.int .i64 x.a.kind,.int .i64 x.a.n,.string (str x.a.place.name),.slice pa na ca] x.a) (h2:OprAt K w [.int .i64 x.b.kind,.int .i64 x.b.n,.string (str x.b.place.name),.slice pb nb cb] x.b) (h3:PlAt K w [.string (str x.place.name),.slice pp np cp] x.place) (hl:x.name.length<=K.B) (h4:Strs K w (.slice pn x.names.length cn) x.names) (h5:Ar 4 56 (OprAt K w) K w (.slice pv x.args.length cv) x.args) (k0:x.kind=5) (B:Bool) (hB:B=true↔MayVa x) :
  Calls Tryz.prog 112 #[.agg #[.int .i64 x.kind,.int .i64 x.a.kind,.int .i64 x.a.n,.string (str x.a.place.name),.slice pa na ca,.int .i64 x.b.kind,.int .i64 x.b.n,.string (str x.b.place.name),.slice pb nb cb,.int .i64 x.op,.string (str x.place.name),.slice pp np cp,.string (str x.name),.slice pn x.names.length cn,.slice pv x.args.length cv]] w fun ev w'=>ev=.returned (.bool B)/\Below w.heap.size w w':=by
 rw [va_op k0] at hB
 have hA:=alloc_one w (.cells #[.int .i64 x.kind,.int .i64 x.a.kind,.int .i64 x.a.n,.string (str x.a.place.name),.slice pa na ca,.int .i64 x.b.kind,.int .i64 x.b.n,.string (str x.b.place.name),.slice pb nb cb,.int .i64 x.op,.string (str x.place.name),.slice pp np cp,.string (str x.name),.slice pn x.names.length cn,.slice pv x.args.length cv] 47)
 have hK:=below_le hA he.C
 have r0:=Row.new w 47 [.int .i64 x.kind,.int .i64 x.a.kind,.int .i64 x.a.n,.string (str x.a.place.name),.slice pa na ca,.int .i64 x.b.kind,.int .i64 x.b.n,.string (str x.b.place.name),.slice pb nb cb,.int .i64 x.op,.string (str x.place.name),.slice pp np cp,.string (str x.name),.slice pn x.names.length cn,.slice pv x.args.length cv]
 have b5:(x.kind == 5)=true:=by rw [k0];rfl
 have HB:=hid0 hB
 clear hB
 have T0:Hid (∀ (a:World) (B:Bool),Below w.heap.size w a->Row a w.heap.size 47 [.int .i64 x.kind,.int .i64 x.a.kind,.int .i64 x.a.n,.string (str x.a.place.name),.slice pa na ca,.int .i64 x.b.kind,.int .i64 x.b.n,.string (str x.b.place.name),.slice pb nb cb,.int .i64 x.op,.string (str x.place.name),.slice pp np cp,.string (str x.name),.slice pn x.names.length cn,.slice pv x.args.length cv]->(B=true↔(1<=x.op/\x.op<=4))->Calls Tryz.prog 127 #[.pointer (some ⟨w.heap.size,9,none⟩),.func (.func 128) #[] #[]] a fun ev w'=>ev=.returned (.bool B)/\Row w' w.heap.size 47 [.int .i64 x.kind,.int .i64 x.a.kind,.int .i64 x.a.n,.string (str x.a.place.name),.slice pa na ca,.int .i64 x.b.kind,.int .i64 x.b.n,.string (str x.b.place.name),.slice pb nb cb,.int .i64 0,.string (str x.place.name),.slice pp np cp,.string (str x.name),.slice pn x.names.length cn,.slice pv x.args.length cv]/\Below w.heap.size w w'):=by
  intro a B hb hr hB
  have hKa:=below_le hb he.C
  exact (takeOp_any (A:=[.int .i64 x.kind,.int .i64 x.a.kind,.int .i64 x.a.n,.string (str x.a.place.name),.slice pa na ca,.int .i64 x.b.kind,.int .i64 x.b.n,.string (str x.b.place.name),.slice pb nb cb]) (R:=[.string (str x.place.name),.slice pp np cp,.string (str x.name),.slice pn x.names.length cn,.slice pv x.args.length cv]) hr rfl B hB).mono fun _ _ h=>⟨h.1,h.2.1,nxt hb h.2.2⟩
 have T1:Hid (∀ (a:World) (B:Bool),Below w.heap.size w a->Row a w.heap.size 47 [.int .i64 x.kind,.int .i64 x.a.kind,.int .i64 x.a.n,.string (str x.a.place.name),.slice pa na ca,.int .i64 x.b.kind,.int .i64 x.b.n,.string (str x.b.place.name),.slice pb nb cb,.int .i64 0,.string (str x.place.name),.slice pp np cp,.string (str x.name),.slice pn x.names.length cn,.slice pv x.args.length cv]->(B=true↔MayOpr x.b)->Calls Tryz.prog 118 #[.pointer (some ⟨w.heap.size,5,none⟩),.func (.func 119) #[] #[]] a fun ev w'=>ev=.returned (.bool B)/\Row w' w.heap.size 47 [.int .i64 x.kind,.int .i64 x.a.kind,.int .i64 x.a.n,.string (str x.a.place.name),.slice pa na ca,.int .i64 0,.int .i64 0,.string (str []),.slice none 0 0,.int .i64 0,.string (str x.place.name),.slice pp np cp,.string (str x.name),.slice pn x.names.length cn,.slice pv x.args.length cv]/\Below w.heap.size w w'):=by
  intro a B hb hr hB
  have hKa:=below_le hb he.C
  exact (takeOper_any (he.below hKa) (A:=[.int .i64 x.kind,.int .i64 x.a.kind,.int .i64 x.a.n,.string (str x.a.place.name),.slice pa na ca]) (cs:=[.int .i64 x.b.kind,.int .i64 x.b.n,.string (str x.b.place.name),.slice pb nb cb]) (R:=[.int .i64 0,.string (str x.place.name),.slice pp np cp,.string (str x.name),.slice pn x.names.length cn,.slice pv x.args.length cv]) hr rfl (h2.below hKa) B hB).mono fun _ _ h=>⟨h.1,h.2.1,nxt hb h.2.2⟩
 have T2:Hid (∀ (a:World) (B:Bool),Below w.heap.size w a->Row a w.heap.size 47 [.int .i64 x.kind,.int .i64 x.a.kind,.int .i64 x.a.n,.string (str x.a.place.name),.slice pa na ca,.int .i64 0,.int .i64 0,.string (str []),.slice none 0 0,.int .i64 0,.string (str x.place.name),.slice pp np cp,.string (str x.name),.slice pn x.names.length cn,.slice pv x.args.length cv]->(B=true↔MayOpr x.a)->Calls Tryz.prog 118 #[.pointer (some ⟨w.heap.size,1,none⟩),.func (.func 119) #[] #[]] a fun ev w'=>ev=.returned (.bool B)/\Row w' w.heap.size 47 [.int .i64 x.kind,.int .i64 0,.int .i64 0,.string (str []),.slice none 0 0,.int .i64 0,.int .i64 0,.string (str []),.slice none 0 0,.int .i64 0,.string (str x.place.name),.slice pp np cp,.string (str x.name),.slice pn x.names.length cn,.slice pv x.args.length cv]/\Below w.heap.size w w'):=by
  intro a B hb hr hB
  have hKa:=below_le hb he.C
  exact (takeOper_any (he.below hKa) (A:=[.int .i64 x.kind]) (cs:=[.int .i64 x.a.kind,.int .i64 x.a.n,.string (str x.a.place.name),.slice pa na ca]) (R:=[.int .i64 0,.int .i64 0,.string (str []),.slice none 0 0,.int .i64 0,.string (str x.place.name),.slice pp np cp,.string (str x.name),.slice pn x.names.length cn,.slice pv x.args.length cv]) hr rfl (h1.below hKa) B hB).mono fun _ _ h=>⟨h.1,h.2.1,nxt hb h.2.2⟩
 have L1:Hid (∀ (a:World) (B:Bool),Below w.heap.size w a->Row a w.heap.size 47 [.int .i64 x.kind,.int .i64 0,.int .i64 0,.string (str []),.slice none 0 0,.int .i64 0,.int .i64 0,.string (str []),.slice none 0 0,.int .i64 0,.string (str x.place.name),.slice pp np cp,.string (str x.name),.slice pn x.names.length cn,.slice pv x.args.length cv]->(B=true↔{ x with op:=0,b:=Opr.zero,a:=Opr.zero }=Va.of x.kind)->Calls Tryz.prog 100 #[.pointer (some ⟨w.heap.size,0,none⟩),.pointer (some ⟨a.heap.size,0,none⟩)] (a.alloc (.cells #[.int .i64 x.kind,.int .i64 0,.int .i64 0,.string ⟨#[]⟩,.slice none 0 0,.int .i64 0,.int .i64 0,.string ⟨#[]⟩,.slice none 0 0,.int .i64 0,.string ⟨#[]⟩,.slice none 0 0,.string ⟨#[]⟩,.slice none 0 0,.slice none 0 0] 47)) fun ev w'=>ev=.returned (.bool B)/\Below w.heap.size w w'):=by
  intro a B hb hr hB
  have hKa:=below_le hb he.C
  exact left_zero he hb x.kind hr (v:={ x with op:=0,b:=Opr.zero,a:=Opr.zero }) ⟨_,_,_,_,_,rfl,opr_zero K _,opr_zero K _,h3.below hKa,hl,h4.below hKa,h5.mono hKa fun _ _ _ h=>h.below hKa⟩ B hB
 have HA:=hid0 hA
 have R0:=hid0 r0
 clear h1 h2 h3 h4 h5 r0 hA hK he k0 hl
 by_cases f0:(1<=x.op/\x.op<=4)
 rotate_left
 ·obtain rfl:=bool_false HB.out (fun h=>f0 h.1)
  have U0:=fun a hb hr=>T0.out a false hb hr ⟨fun h=>(by cases h),fun h=>absurd h f0⟩
  have V0:Hid (∀ a,_):=U0
  clear U0
  clear HB L1 T0 T1 T2 f0
  generalize x.kind=kd,x.op=oo,x.a.kind=ak,x.a.n=an,str x.a.place.name=as1,x.b.kind=bk,x.b.n=bn,str x.b.place.name=bs1,str x.place.name=ps1,str x.name=ns1,x.names.length=l1,x.args.length=l2 at *
  go_enter Tryz.func112,Tryz.ntmps112
  go_wp2_with fail
  refine (V0.out _ (HA.out) (R0.out)).mono ?_
  rintro ev w1 ⟨rfl,r1,hb1⟩
  have c1:w1.cell? ⟨w.heap.size,0,none⟩=some (.int .i64 kd):=r1.cell 0
  go_wp2_with fail
  go_ret
  exact ⟨rfl,hb1⟩
 by_cases f1:MayOpr x.b
 rotate_left
 ·obtain rfl:=bool_false HB.out (fun h=>f1 h.2.1)
  have U0:=fun a hb hr=>T0.out a true hb hr ⟨fun _=>f0,fun _=>rfl⟩
  have V0:Hid (∀ a,_):=U0
  clear U0
  have U1:=fun a hb hr=>T1.out a false hb hr ⟨fun h=>(by cases h),fun h=>absurd h f1⟩
  have V1:Hid (∀ a,_):=U1
  clear U1
  clear HB L1 T0 T1 T2 f0 f1
  generalize x.kind=kd,x.op=oo,x.a.kind=ak,x.a.n=an,str x.a.place.name=as1,x.b.kind=bk,x.b.n=bn,str x.b.place.name=bs1,str x.place.name=ps1,str x.name=ns1,x.names.length=l1,x.args.length=l2 at *
  go_enter Tryz.func112,Tryz.ntmps112
  go_wp2_with fail
  refine (V0.out _ (HA.out) (R0.out)).mono ?_
  rintro ev w1 ⟨rfl,r1,hb1⟩
  have c1:w1.cell? ⟨w.heap.size,0,none⟩=some (.int .i64 kd):=r1.cell 0
  go_wp2_with fail
  refine (V1.out _ (hb1) (r1)).mono ?_
  rintro ev w2 ⟨rfl,r2,hb2⟩
  have c2:w2.cell? ⟨w.heap.size,0,none⟩=some (.int .i64 kd):=r2.cell 0
  go_wp2_with fail
  go_ret
  exact ⟨rfl,hb2⟩
 by_cases f2:MayOpr x.a
 rotate_left
 ·obtain rfl:=bool_false HB.out (fun h=>f2 h.2.2.1)
  have U0:=fun a hb hr=>T0.out a true hb hr ⟨fun _=>f0,fun _=>rfl⟩
  have V0:Hid (∀ a,_):=U0
  clear U0
  have U1:=fun a hb hr=>T1.out a true hb hr ⟨fun _=>f1,fun _=>rfl⟩
  have V1:Hid (∀ a,_):=U1
  clear U1
  have U2:=fun a hb hr=>T2.out a false hb hr ⟨fun h=>(by cases h),fun h=>absurd h f2⟩
  have V2:Hid (∀ a,_):=U2
  clear U2
  clear HB L1 T0 T1 T2 f0 f1 f2
  generalize x.kind=kd,x.op=oo,x.a.kind=ak,x.a.n=an,str x.a.place.name=as1,x.b.kind=bk,x.b.n=bn,str x.b.place.name=bs1,str x.place.name=ps1,str x.name=ns1,x.names.length=l1,x.args.length=l2 at *
  go_enter Tryz.func112,Tryz.ntmps112
  go_wp2_with fail
  refine (V0.out _ (HA.out) (R0.out)).mono ?_
  rintro ev w1 ⟨rfl,r1,hb1⟩
  have c1:w1.cell? ⟨w.heap.size,0,none⟩=some (.int .i64 kd):=r1.cell 0
  go_wp2_with fail
  refine (V1.out _ (hb1) (r1)).mono ?_
  rintro ev w2 ⟨rfl,r2,hb2⟩
  have c2:w2.cell? ⟨w.heap.size,0,none⟩=some (.int .i64 kd):=r2.cell 0
  go_wp2_with fail
  refine (V2.out _ (hb2) (r2)).mono ?_
  rintro ev w3 ⟨rfl,r3,hb3⟩
  have c3:w3.cell? ⟨w.heap.size,0,none⟩=some (.int .i64 kd):=r3.cell 0
  go_wp2_with fail
  go_ret
  exact ⟨rfl,hb3⟩
 have HBL:Hid (B=true↔{ x with op:=0,b:=Opr.zero,a:=Opr.zero }=Va.of x.kind):=by
  show _↔_
  rw [HB.out];exact ⟨fun h=>h.2.2.2,fun h=>⟨f0,f1,f2,h⟩⟩
 have U0:=fun a hb hr=>T0.out a true hb hr ⟨fun _=>f0,fun _=>rfl⟩
 have V0:Hid (∀ a,_):=U0
 clear U0
 have U1:=fun a hb hr=>T1.out a true hb hr ⟨fun _=>f1,fun _=>rfl⟩
 have V1:Hid (∀ a,_):=U1
 clear U1
 have U2:=fun a hb hr=>T2.out a true hb hr ⟨fun _=>f2,fun _=>rfl⟩
 have V2:Hid (∀ a,_):=U2
 clear U2
 have UL:=fun a hb hr=>L1.out a B hb hr HBL.out
 have VL:Hid (∀ a,_):=UL
 clear UL HBL
 clear HB L1 T0 T1 T2 f0 f1 f2
 generalize x.kind=kd,x.op=oo,x.a.kind=ak,x.a.n=an,str x.a.place.name=as1,x.b.kind=bk,x.b.n=bn,str x.b.place.name=bs1,str x.place.name=ps1,str x.name=ns1,x.names.length=l1,x.args.length=l2 at *
 go_enter Tryz.func112,Tryz.ntmps112
 go_wp2_with fail
 refine (V0.out _ (HA.out) (R0.out)).mono ?_
 rintro ev w1 ⟨rfl,r1,hb1⟩
 have c1:w1.cell? ⟨w.heap.size,0,none⟩=some (.int .i64 kd):=r1.cell 0
 go_wp2_with fail
 refine (V1.out _ (hb1) (r1)).mono ?_
 rintro ev w2 ⟨rfl,r2,hb2⟩
 have c2:w2.cell? ⟨w.heap.size,0,none⟩=some (.int .i64 kd):=r2.cell 0
 go_wp2_with fail
 refine (V2.out _ (hb2) (r2)).mono ?_
 rintro ev w3 ⟨rfl,r3,hb3⟩
 have c3:w3.cell? ⟨w.heap.size,0,none⟩=some (.int .i64 kd):=r3.cell 0
 have D:=VL.out _ hb3 r3
 go_wp2_with fail
 refine D.mono ?_
 rintro ev w7 ⟨rfl,hb7⟩
 go_wp2_with fail
 go_ret
 exact ⟨rfl,hb7⟩
end Go.Proofs.YtjenmmkamhplkaaGreat
