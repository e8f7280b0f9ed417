/- Part of the proof. -/
import Derived.Test.YtjenmmkamhplkaaGreatQqspVl1
namespace Go.Proofs.YtjenmmkamhplkaaGreat
open Go.RowKit
set_option maxHeartbeats 8000000
set_option maxRecDepth 20000
theorem mayVal_6 {K:Ctx} {w:World} (he:Env K w) {x:Va} {pa pb pp pn pv:Option Addr} {na nb np ca cb cp cn cv:Nat} (h1:OprAt K w [.int .i64 x.a.kind,.int .i64 x.a.n,.string (str x.a.place.name),.slice pa na ca] x.a) (h2:OprAt K w [.int .i64 x.b.kind,.int .i64 x.b.n,.string (str x.b.place.name),.slice pb nb cb] x.b) (h3:PlAt K w [.string (str x.place.name),.slice pp np cp] x.place) (hl:x.name.length<=K.B) (h4:Strs K w (.slice pn x.names.length cn) x.names) (h5:Ar 4 56 (OprAt K w) K w (.slice pv x.args.length cv) x.args) (k0:x.kind=6) (B:Bool) (hB:B=true↔MayVa x) :
  Calls Tryz.prog 112 #[.agg #[.int .i64 x.kind,.int .i64 x.a.kind,.int .i64 x.a.n,.string (str x.a.place.name),.slice pa na ca,.int .i64 x.b.kind,.int .i64 x.b.n,.string (str x.b.place.name),.slice pb nb cb,.int .i64 x.op,.string (str x.place.name),.slice pp np cp,.string (str x.name),.slice pn x.names.length cn,.slice pv x.args.length cv]] w fun ev w'=>ev=.returned (.bool B)/\Below w.heap.size w w':=by
 rw [va_call k0] at hB
 have hA:=alloc_one w (.cells #[.int .i64 x.kind,.int .i64 x.a.kind,.int .i64 x.a.n,.string (str x.a.place.name),.slice pa na ca,.int .i64 x.b.kind,.int .i64 x.b.n,.string (str x.b.place.name),.slice pb nb cb,.int .i64 x.op,.string (str x.place.name),.slice pp np cp,.string (str x.name),.slice pn x.names.length cn,.slice pv x.args.length cv] 47)
 have hK:=below_le hA he.C
 have r0:=Row.new w 47 [.int .i64 x.kind,.int .i64 x.a.kind,.int .i64 x.a.n,.string (str x.a.place.name),.slice pa na ca,.int .i64 x.b.kind,.int .i64 x.b.n,.string (str x.b.place.name),.slice pb nb cb,.int .i64 x.op,.string (str x.place.name),.slice pp np cp,.string (str x.name),.slice pn x.names.length cn,.slice pv x.args.length cv]
 have b5:(x.kind == 5)=false:=by rw [k0];rfl
 have b1:(x.kind == 1)=false:=by rw [k0];rfl
 have b4:(x.kind == 4)=false:=by rw [k0];rfl
 have b2:(x.kind == 2)=false:=by rw [k0];rfl
 have b3:(x.kind == 3)=false:=by rw [k0];rfl
 have b7:(x.kind == 7)=false:=by rw [k0];rfl
 have b6:(x.kind == 6)=true:=by rw [k0];rfl
 have HB:=hid0 hB
 clear hB
 have T0:Hid (∀ (a:World) (B:Bool),Below w.heap.size w a->Row a w.heap.size 47 [.int .i64 x.kind,.int .i64 x.a.kind,.int .i64 x.a.n,.string (str x.a.place.name),.slice pa na ca,.int .i64 x.b.kind,.int .i64 x.b.n,.string (str x.b.place.name),.slice pb nb cb,.int .i64 x.op,.string (str x.place.name),.slice pp np cp,.string (str x.name),.slice pn x.names.length cn,.slice pv x.args.length cv]->(B=true↔farB x.name=true)->Calls Tryz.prog 109 #[.pointer (some ⟨w.heap.size,12,none⟩),.func (.func 107) #[] #[]] a fun ev w'=>ev=.returned (.bool B)/\Row w' w.heap.size 47 [.int .i64 x.kind,.int .i64 x.a.kind,.int .i64 x.a.n,.string (str x.a.place.name),.slice pa na ca,.int .i64 x.b.kind,.int .i64 x.b.n,.string (str x.b.place.name),.slice pb nb cb,.int .i64 x.op,.string (str x.place.name),.slice pp np cp,.string (str []),.slice pn x.names.length cn,.slice pv x.args.length cv]/\Below w.heap.size w w'):=by
  intro a B hb hr hB
  have hKa:=below_le hb he.C
  exact (takeFar_any (A:=[.int .i64 x.kind,.int .i64 x.a.kind,.int .i64 x.a.n,.string (str x.a.place.name),.slice pa na ca,.int .i64 x.b.kind,.int .i64 x.b.n,.string (str x.b.place.name),.slice pb nb cb,.int .i64 x.op,.string (str x.place.name),.slice pp np cp]) (R:=[.slice pn x.names.length cn,.slice pv x.args.length cv]) hr rfl (by have:=he.B;omega) (he.below hKa).ml B hB).mono fun _ _ h=>⟨h.1,h.2.1,nxt hb h.2.2⟩
 have TA:Hid (∀ (a:World) (B:Bool),Below w.heap.size w a->Row a w.heap.size 47 [.int .i64 x.kind,.int .i64 x.a.kind,.int .i64 x.a.n,.string (str x.a.place.name),.slice pa na ca,.int .i64 x.b.kind,.int .i64 x.b.n,.string (str x.b.place.name),.slice pb nb cb,.int .i64 x.op,.string (str x.place.name),.slice pp np cp,.string (str []),.slice pn x.names.length cn,.slice pv x.args.length cv]->(B=true↔(x.args.length<=64/\∀ a∈x.args,MayOpr a))->Calls Tryz.prog 129 #[.slice pv x.args.length cv,.func (.func 119) #[] #[]] a fun ev w'=>ev=.returned (.bool B)/\Row w' w.heap.size 47 [.int .i64 x.kind,.int .i64 x.a.kind,.int .i64 x.a.n,.string (str x.a.place.name),.slice pa na ca,.int .i64 x.b.kind,.int .i64 x.b.n,.string (str x.b.place.name),.slice pb nb cb,.int .i64 x.op,.string (str x.place.name),.slice pp np cp,.string (str []),.slice pn x.names.length cn,.slice pv x.args.length cv]/\Below w.heap.size w w'):=by
  intro a B hb hr hB
  have hKa:=below_le hb he.C
  exact (partsOpers (he.below hKa) (fun _ _ _ he hx B hB=>mayOper_any he hx B hB) (h5.mono hKa fun _ _ _ h=>h.below hKa) B hB).mono fun _ _ h=>⟨h.1,hr.below h.2 hr.lt,hb.trans (below_le h.2 hb.size)⟩
 have SA:Hid (∀ (a:World),Below w.heap.size w a->Row a w.heap.size 47 [.int .i64 x.kind,.int .i64 x.a.kind,.int .i64 x.a.n,.string (str x.a.place.name),.slice pa na ca,.int .i64 x.b.kind,.int .i64 x.b.n,.string (str x.b.place.name),.slice pb nb cb,.int .i64 x.op,.string (str x.place.name),.slice pp np cp,.string (str []),.slice pn x.names.length cn,.slice pv x.args.length cv]->Row (a.setCell ⟨w.heap.size,14,none⟩ (.slice none 0 0)) w.heap.size 47 [.int .i64 x.kind,.int .i64 x.a.kind,.int .i64 x.a.n,.string (str x.a.place.name),.slice pa na ca,.int .i64 x.b.kind,.int .i64 x.b.n,.string (str x.b.place.name),.slice pb nb cb,.int .i64 x.op,.string (str x.place.name),.slice pp np cp,.string (str []),.slice pn x.names.length cn,.slice none 0 0]/\Below w.heap.size w (a.setCell ⟨w.heap.size,14,none⟩ (.slice none 0 0))):=by
  intro a hb hr
  exact ⟨hr.set 14 (.slice none 0 0),nxt hb ((Stay.refl (fun k=>k=w.heap.size) a).set (fun _=>rfl) _ _)⟩
 have SB:Hid (∀ (a:World),Below w.heap.size w a->Below w.heap.size w (a.setCell ⟨w.heap.size,14,none⟩ (.slice none 0 0))):=fun a hb=>nxt hb ((Stay.refl (fun k=>k=w.heap.size) a).set (fun _=>rfl) _ _)
 have L1:Hid (∀ (a:World) (B:Bool),Below w.heap.size w a->Row a w.heap.size 47 [.int .i64 x.kind,.int .i64 x.a.kind,.int .i64 x.a.n,.string (str x.a.place.name),.slice pa na ca,.int .i64 x.b.kind,.int .i64 x.b.n,.string (str x.b.place.name),.slice pb nb cb,.int .i64 x.op,.string (str x.place.name),.slice pp np cp,.string (str []),.slice pn x.names.length cn,.slice none 0 0]->(B=true↔{ x with name:=[],args:=[] }=Va.of x.kind)->Calls Tryz.prog 100 #[.pointer (some ⟨w.heap.size,0,none⟩),.pointer (some ⟨a.heap.size,0,none⟩)] (a.alloc (.cells #[.int .i64 x.kind,.int .i64 0,.int .i64 0,.string ⟨#[]⟩,.slice none 0 0,.int .i64 0,.int .i64 0,.string ⟨#[]⟩,.slice none 0 0,.int .i64 0,.string ⟨#[]⟩,.slice none 0 0,.string ⟨#[]⟩,.slice none 0 0,.slice none 0 0] 47)) fun ev w'=>ev=.returned (.bool B)/\Below w.heap.size w w'):=by
  intro a B hb hr hB
  have hKa:=below_le hb he.C
  exact left_zero he hb x.kind hr (v:={ x with name:=[],args:=[] }) ⟨_,_,_,_,_,rfl,h1.below hKa,h2.below hKa,h3.below hKa,(by simp),h4.below hKa,nil_ar⟩ B hB
 have HA:=hid0 hA
 have R0:=hid0 r0
 clear h1 h2 h3 h4 h5 r0 hA hK he k0 hl
 by_cases f0:farB x.name=true
 rotate_left
 ·obtain rfl:=bool_false HB.out (fun h=>f0 h.1)
  have U0:=fun a hb hr=>T0.out a false hb hr ⟨fun h=>(by cases h),fun h=>absurd h f0⟩
  have V0:Hid (∀ a,_):=U0
  clear U0
  clear HB L1 T0 TA f0
  generalize x.kind=kd,x.op=oo,x.a.kind=ak,x.a.n=an,str x.a.place.name=as1,x.b.kind=bk,x.b.n=bn,str x.b.place.name=bs1,str x.place.name=ps1,str x.name=ns1,x.names.length=l1,x.args.length=l2 at *
  go_enter Tryz.func112,Tryz.ntmps112
  go_wp2_with fail
  refine (V0.out _ (HA.out) (R0.out)).mono ?_
  rintro ev w1 ⟨rfl,r1,hb1⟩
  have c1:w1.cell? ⟨w.heap.size,0,none⟩=some (.int .i64 kd):=r1.cell 0
  have d1:w1.cell? ⟨w.heap.size,14,none⟩=some (.slice pv l2 cv):=r1.cell 14
  have e1:=r1.fz 14
  go_wp2_with fail
  go_ret
  exact ⟨rfl,SB.out _ hb1⟩
 by_cases f1:(x.args.length<=64/\∀ a∈x.args,MayOpr a)
 rotate_left
 ·obtain rfl:=bool_false HB.out (fun h=>f1 h.2.1)
  have U0:=fun a hb hr=>T0.out a true hb hr ⟨fun _=>f0,fun _=>rfl⟩
  have V0:Hid (∀ a,_):=U0
  clear U0
  have UA:=fun a hb hr=>TA.out a false hb hr ⟨fun h=>(by cases h),fun h=>absurd h f1⟩
  have VA:Hid (∀ a,_):=UA
  clear UA
  clear HB L1 T0 TA f0 f1
  generalize x.kind=kd,x.op=oo,x.a.kind=ak,x.a.n=an,str x.a.place.name=as1,x.b.kind=bk,x.b.n=bn,str x.b.place.name=bs1,str x.place.name=ps1,str x.name=ns1,x.names.length=l1,x.args.length=l2 at *
  go_enter Tryz.func112,Tryz.ntmps112
  go_wp2_with fail
  refine (V0.out _ (HA.out) (R0.out)).mono ?_
  rintro ev w1 ⟨rfl,r1,hb1⟩
  have c1:w1.cell? ⟨w.heap.size,0,none⟩=some (.int .i64 kd):=r1.cell 0
  have d1:w1.cell? ⟨w.heap.size,14,none⟩=some (.slice pv l2 cv):=r1.cell 14
  have e1:=r1.fz 14
  go_wp2_with fail
  refine (VA.out _ hb1 r1).mono ?_
  rintro ev w8 ⟨rfl,r8,hb8⟩
  have c8:w8.cell? ⟨w.heap.size,0,none⟩=some (.int .i64 kd):=r8.cell 0
  have d8:w8.cell? ⟨w.heap.size,14,none⟩=some (.slice pv l2 cv):=r8.cell 14
  have e8:=r8.fz 14
  go_wp2_with fail
  go_ret
  exact ⟨rfl,SB.out _ hb8⟩
 have HBL:Hid (B=true↔{ x with name:=[],args:=[] }=Va.of x.kind):=by
  show _↔_
  rw [HB.out];exact ⟨fun h=>h.2.2,fun h=>⟨f0,f1,h⟩⟩
 have U0:=fun a hb hr=>T0.out a true hb hr ⟨fun _=>f0,fun _=>rfl⟩
 have V0:Hid (∀ a,_):=U0
 clear U0
 have UA:=fun a hb hr=>TA.out a true hb hr ⟨fun _=>f1,fun _=>rfl⟩
 have VA:Hid (∀ a,_):=UA
 clear UA
 have UL:=fun a hb hr=>L1.out a B hb hr HBL.out
 have VL:Hid (∀ a,_):=UL
 clear UL HBL
 clear HB L1 T0 TA f0 f1
 generalize x.kind=kd,x.op=oo,x.a.kind=ak,x.a.n=an,str x.a.place.name=as1,x.b.kind=bk,x.b.n=bn,str x.b.place.name=bs1,str x.place.name=ps1,str x.name=ns1,x.names.length=l1,x.args.length=l2 at *
 go_enter Tryz.func112,Tryz.ntmps112
 go_wp2_with fail
 refine (V0.out _ (HA.out) (R0.out)).mono ?_
 rintro ev w1 ⟨rfl,r1,hb1⟩
 have c1:w1.cell? ⟨w.heap.size,0,none⟩=some (.int .i64 kd):=r1.cell 0
 have d1:w1.cell? ⟨w.heap.size,14,none⟩=some (.slice pv l2 cv):=r1.cell 14
 have e1:=r1.fz 14
 go_wp2_with fail
 refine (VA.out _ hb1 r1).mono ?_
 rintro ev w8 ⟨rfl,r8,hb8⟩
 have c8:w8.cell? ⟨w.heap.size,0,none⟩=some (.int .i64 kd):=r8.cell 0
 have d8:w8.cell? ⟨w.heap.size,14,none⟩=some (.slice pv l2 cv):=r8.cell 14
 have e8:=r8.fz 14
 obtain ⟨rz,hbz⟩:=SA.out w8 hb8 r8
 have cz:(w8.setCell ⟨w.heap.size,14,none⟩ (.slice none 0 0)).cell? ⟨w.heap.size,0,none⟩=some (.int .i64 kd):=rz.cell 0
 have D:=VL.out _ hbz rz
 have ez:(w8.setCell ⟨w.heap.size,14,none⟩ (.slice none 0 0)).heap.size=w8.heap.size:=by simp [World.setCell]
 rw [ez] at D
 clear ez
 go_wp2_with fail
 refine D.mono ?_
 rintro ev w7 ⟨rfl,hb7⟩
 go_wp2_with fail
 go_ret
 exact ⟨rfl,hb7⟩
theorem mayVal_7 {K:Ctx} {w:World} (he:Env K w) {x:Va} {pa pb pp pn pv:Option Addr} {na nb np ca cb cp cn cv:Nat} (h1:OprAt K w [.int .i64 x.a.kind,.int .i64 x.a.n,.string (str x.a.place.name),.slice pa na ca] x.a) (h2:OprAt K w [.int .i64 x.b.kind,.int .i64 x.b.n,.string (str x.b.place.name),.slice pb nb cb] x.b) (h3:PlAt K w [.string (str x.place.name),.slice pp np cp] x.place) (hl:x.name.length<=K.B) (h4:Strs K w (.slice pn x.names.length cn) x.names) (h5:Ar 4 56 (OprAt K w) K w (.slice pv x.args.length cv) x.args) (k0:x.kind=7) (B:Bool) (hB:B=true↔MayVa x) :
  Calls Tryz.prog 112 #[.agg #[.int .i64 x.kind,.int .i64 x.a.kind,.int .i64 x.a.n,.string (str x.a.place.name),.slice pa na ca,.int .i64 x.b.kind,.int .i64 x.b.n,.string (str x.b.place.name),.slice pb nb cb,.int .i64 x.op,.string (str x.place.name),.slice pp np cp,.string (str x.name),.slice pn x.names.length cn,.slice pv x.args.length cv]] w fun ev w'=>ev=.returned (.bool B)/\Below w.heap.size w w':=by
 rw [va_make k0] at hB
 have hA:=alloc_one w (.cells #[.int .i64 x.kind,.int .i64 x.a.kind,.int .i64 x.a.n,.string (str x.a.place.name),.slice pa na ca,.int .i64 x.b.kind,.int .i64 x.b.n,.string (str x.b.place.name),.slice pb nb cb,.int .i64 x.op,.string (str x.place.name),.slice pp np cp,.string (str x.name),.slice pn x.names.length cn,.slice pv x.args.length cv] 47)
 have hK:=below_le hA he.C
 have r0:=Row.new w 47 [.int .i64 x.kind,.int .i64 x.a.kind,.int .i64 x.a.n,.string (str x.a.place.name),.slice pa na ca,.int .i64 x.b.kind,.int .i64 x.b.n,.string (str x.b.place.name),.slice pb nb cb,.int .i64 x.op,.string (str x.place.name),.slice pp np cp,.string (str x.name),.slice pn x.names.length cn,.slice pv x.args.length cv]
 have b5:(x.kind == 5)=false:=by rw [k0];rfl
 have b1:(x.kind == 1)=false:=by rw [k0];rfl
 have b4:(x.kind == 4)=false:=by rw [k0];rfl
 have b2:(x.kind == 2)=false:=by rw [k0];rfl
 have b3:(x.kind == 3)=false:=by rw [k0];rfl
 have b7:(x.kind == 7)=true:=by rw [k0];rfl
 have HB:=hid0 hB
 clear hB
 have T0:Hid (∀ (a:World) (B:Bool),Below w.heap.size w a->Row a w.heap.size 47 [.int .i64 x.kind,.int .i64 x.a.kind,.int .i64 x.a.n,.string (str x.a.place.name),.slice pa na ca,.int .i64 x.b.kind,.int .i64 x.b.n,.string (str x.b.place.name),.slice pb nb cb,.int .i64 x.op,.string (str x.place.name),.slice pp np cp,.string (str x.name),.slice none 0 0,.slice pv x.args.length cv]->(B=true↔farB x.name=true)->Calls Tryz.prog 109 #[.pointer (some ⟨w.heap.size,12,none⟩),.func (.func 107) #[] #[]] a fun ev w'=>ev=.returned (.bool B)/\Row w' w.heap.size 47 [.int .i64 x.kind,.int .i64 x.a.kind,.int .i64 x.a.n,.string (str x.a.place.name),.slice pa na ca,.int .i64 x.b.kind,.int .i64 x.b.n,.string (str x.b.place.name),.slice pb nb cb,.int .i64 x.op,.string (str x.place.name),.slice pp np cp,.string (str []),.slice none 0 0,.slice pv x.args.length cv]/\Below w.heap.size w w'):=by
  intro a B hb hr hB
  have hKa:=below_le hb he.C
  exact (takeFar_any (A:=[.int .i64 x.kind,.int .i64 x.a.kind,.int .i64 x.a.n,.string (str x.a.place.name),.slice pa na ca,.int .i64 x.b.kind,.int .i64 x.b.n,.string (str x.b.place.name),.slice pb nb cb,.int .i64 x.op,.string (str x.place.name),.slice pp np cp]) (R:=[.slice none 0 0,.slice pv x.args.length cv]) hr rfl (by have:=he.B;omega) (he.below hKa).ml B hB).mono fun _ _ h=>⟨h.1,h.2.1,nxt hb h.2.2⟩
 have TA:Hid (∀ (a:World) (B:Bool),Below w.heap.size w a->Row a w.heap.size 47 [.int .i64 x.kind,.int .i64 x.a.kind,.int .i64 x.a.n,.string (str x.a.place.name),.slice pa na ca,.int .i64 x.b.kind,.int .i64 x.b.n,.string (str x.b.place.name),.slice pb nb cb,.int .i64 x.op,.string (str x.place.name),.slice pp np cp,.string (str []),.slice none 0 0,.slice pv x.args.length cv]->(B=true↔(x.args.length<=64/\∀ a∈x.args,MayOpr a))->Calls Tryz.prog 129 #[.slice pv x.args.length cv,.func (.func 119) #[] #[]] a fun ev w'=>ev=.returned (.bool B)/\Row w' w.heap.size 47 [.int .i64 x.kind,.int .i64 x.a.kind,.int .i64 x.a.n,.string (str x.a.place.name),.slice pa na ca,.int .i64 x.b.kind,.int .i64 x.b.n,.string (str x.b.place.name),.slice pb nb cb,.int .i64 x.op,.string (str x.place.name),.slice pp np cp,.string (str []),.slice none 0 0,.slice pv x.args.length cv]/\Below w.heap.size w w'):=by
  intro a B hb hr hB
  have hKa:=below_le hb he.C
  exact (partsOpers (he.below hKa) (fun _ _ _ he hx B hB=>mayOper_any he hx B hB) (h5.mono hKa fun _ _ _ h=>h.below hKa) B hB).mono fun _ _ h=>⟨h.1,hr.below h.2 hr.lt,hb.trans (below_le h.2 hb.size)⟩
 have SA:Hid (∀ (a:World),Below w.heap.size w a->Row a w.heap.size 47 [.int .i64 x.kind,.int .i64 x.a.kind,.int .i64 x.a.n,.string (str x.a.place.name),.slice pa na ca,.int .i64 x.b.kind,.int .i64 x.b.n,.string (str x.b.place.name),.slice pb nb cb,.int .i64 x.op,.string (str x.place.name),.slice pp np cp,.string (str []),.slice none 0 0,.slice pv x.args.length cv]->Row (a.setCell ⟨w.heap.size,14,none⟩ (.slice none 0 0)) w.heap.size 47 [.int .i64 x.kind,.int .i64 x.a.kind,.int .i64 x.a.n,.string (str x.a.place.name),.slice pa na ca,.int .i64 x.b.kind,.int .i64 x.b.n,.string (str x.b.place.name),.slice pb nb cb,.int .i64 x.op,.string (str x.place.name),.slice pp np cp,.string (str []),.slice none 0 0,.slice none 0 0]/\Below w.heap.size w (a.setCell ⟨w.heap.size,14,none⟩ (.slice none 0 0))):=by
  intro a hb hr
  exact ⟨hr.set 14 (.slice none 0 0),nxt hb ((Stay.refl (fun k=>k=w.heap.size) a).set (fun _=>rfl) _ _)⟩
 have SB:Hid (∀ (a:World),Below w.heap.size w a->Below w.heap.size w (a.setCell ⟨w.heap.size,14,none⟩ (.slice none 0 0))):=fun a hb=>nxt hb ((Stay.refl (fun k=>k=w.heap.size) a).set (fun _=>rfl) _ _)
 have TN:Hid (Calls Tryz.prog 47 #[.slice pn x.names.length cn,.func (.func 46) #[] #[]] (w.alloc (.cells #[.int .i64 x.kind,.int .i64 x.a.kind,.int .i64 x.a.n,.string (str x.a.place.name),.slice pa na ca,.int .i64 x.b.kind,.int .i64 x.b.n,.string (str x.b.place.name),.slice pb nb cb,.int .i64 x.op,.string (str x.place.name),.slice pp np cp,.string (str x.name),.slice pn x.names.length cn,.slice pv x.args.length cv] 47)) fun ev w'=>ev=.returned (.bool (decide (x.names.length<=64) && x.names.all nameB))/\w'=(w.alloc (.cells #[.int .i64 x.kind,.int .i64 x.a.kind,.int .i64 x.a.n,.string (str x.a.place.name),.slice pa na ca,.int .i64 x.b.kind,.int .i64 x.b.n,.string (str x.b.place.name),.slice pb nb cb,.int .i64 x.op,.string (str x.place.name),.slice pp np cp,.string (str x.name),.slice pn x.names.length cn,.slice pv x.args.length cv] 47))):=partsNames (h4.below hK)
 have L1:Hid (∀ (a:World) (B:Bool),Below w.heap.size w a->Row a w.heap.size 47 [.int .i64 x.kind,.int .i64 x.a.kind,.int .i64 x.a.n,.string (str x.a.place.name),.slice pa na ca,.int .i64 x.b.kind,.int .i64 x.b.n,.string (str x.b.place.name),.slice pb nb cb,.int .i64 x.op,.string (str x.place.name),.slice pp np cp,.string (str []),.slice none 0 0,.slice none 0 0]->(B=true↔{ x with names:=[],name:=[],args:=[] }=Va.of x.kind)->Calls Tryz.prog 100 #[.pointer (some ⟨w.heap.size,0,none⟩),.pointer (some ⟨a.heap.size,0,none⟩)] (a.alloc (.cells #[.int .i64 x.kind,.int .i64 0,.int .i64 0,.string ⟨#[]⟩,.slice none 0 0,.int .i64 0,.int .i64 0,.string ⟨#[]⟩,.slice none 0 0,.int .i64 0,.string ⟨#[]⟩,.slice none 0 0,.string ⟨#[]⟩,.slice none 0 0,.slice none 0 0] 47)) fun ev w'=>ev=.returned (.bool B)/\Below w.heap.size w w'):=by
  intro a B hb hr hB
  have hKa:=below_le hb he.C
  exact left_zero he hb x.kind hr (v:={ x with names:=[],name:=[],args:=[] }) ⟨_,_,_,_,_,rfl,h1.below hKa,h2.below hKa,h3.below hKa,(by simp),nil_ar,nil_ar⟩ B hB
 have HA:=hid0 hA
 have R0:=hid0 r0
 clear h1 h2 h3 h4 h5 r0 hA hK he k0 hl
 by_cases f0:x.names.length=x.args.length
 rotate_left
 ·obtain rfl:=bool_false HB.out (fun h=>f0 h.1)
  have m0:((x.names.length:Int) == (x.args.length:Int))=false:=by simp;omega
  clear HB L1 T0 TA f0
  clear TN
  generalize x.kind=kd,x.op=oo,x.a.kind=ak,x.a.n=an,str x.a.place.name=as1,x.b.kind=bk,x.b.n=bn,str x.b.place.name=bs1,str x.place.name=ps1,str x.name=ns1,x.names.length=l1,x.args.length=l2 at *
  go_enter Tryz.func112,Tryz.ntmps112
  go_wp2_with fail
  go_ret
  exact ⟨rfl,by first|exact alloc_one w _|exact HA.out⟩
 by_cases f1:(decide (x.names.length<=64) && x.names.all nameB)=true
 rotate_left
 ·obtain rfl:=bool_false HB.out (fun h=>f1 h.2.1)
  have m0:((x.names.length:Int) == (x.args.length:Int))=true:=by simp;omega
  rw [Bool.eq_false_iff.2 f1] at TN
  clear HB L1 T0 TA f0 f1
  generalize x.kind=kd,x.op=oo,x.a.kind=ak,x.a.n=an,str x.a.place.name=as1,x.b.kind=bk,x.b.n=bn,str x.b.place.name=bs1,str x.place.name=ps1,str x.name=ns1,x.names.length=l1,x.args.length=l2 at *
  go_enter Tryz.func112,Tryz.ntmps112
  go_wp2_with fail
  refine TN.out.mono ?_
  rintro ev w9 ⟨rfl,rfl⟩
  go_wp2_with fail
  go_ret
  exact ⟨rfl,by first|exact alloc_one w _|exact HA.out⟩
 by_cases f2:farB x.name=true
 rotate_left
 ·obtain rfl:=bool_false HB.out (fun h=>f2 h.2.2.1)
  have m0:((x.names.length:Int) == (x.args.length:Int))=true:=by simp;omega
  rw [f1] at TN
  have U0:=fun a hb hr=>T0.out a false hb hr ⟨fun h=>(by cases h),fun h=>absurd h f2⟩
  have V0:Hid (∀ a,_):=U0
  clear U0
  clear HB L1 T0 TA f0 f1 f2
  generalize x.kind=kd,x.op=oo,x.a.kind=ak,x.a.n=an,str x.a.place.name=as1,x.b.kind=bk,x.b.n=bn,str x.b.place.name=bs1,str x.place.name=ps1,str x.name=ns1,x.names.length=l1,x.args.length=l2 at *
  go_enter Tryz.func112,Tryz.ntmps112
  go_wp2_with fail
  refine TN.out.mono ?_
  rintro ev w9 ⟨rfl,rfl⟩
  go_wp2_with fail
  have RV:=Row.new w 47 [.int .i64 kd,.int .i64 ak,.int .i64 an,.string as1,.slice pa na ca,.int .i64 bk,.int .i64 bn,.string bs1,.slice pb nb cb,.int .i64 oo,.string ps1,.slice pp np cp,.string ns1,.slice none 0 0,.slice pv l2 cv]
  have HV:=alloc_one w (.cells #[.int .i64 kd,.int .i64 ak,.int .i64 an,.string as1,.slice pa na ca,.int .i64 bk,.int .i64 bn,.string bs1,.slice pb nb cb,.int .i64 oo,.string ps1,.slice pp np cp,.string ns1,.slice none 0 0,.slice pv l2 cv] 47)
  refine (V0.out _ (HV) (RV)).mono ?_
  rintro ev w1 ⟨rfl,r1,hb1⟩
  have c1:w1.cell? ⟨w.heap.size,0,none⟩=some (.int .i64 kd):=r1.cell 0
  have d1:w1.cell? ⟨w.heap.size,14,none⟩=some (.slice pv l2 cv):=r1.cell 14
  have e1:=r1.fz 14
  go_wp2_with fail
  go_ret
  exact ⟨rfl,SB.out _ hb1⟩
 by_cases f3:(x.args.length<=64/\∀ a∈x.args,MayOpr a)
 rotate_left
 ·obtain rfl:=bool_false HB.out (fun h=>f3 h.2.2.2.1)
  have m0:((x.names.length:Int) == (x.args.length:Int))=true:=by simp;omega
  rw [f1] at TN
  have U0:=fun a hb hr=>T0.out a true hb hr ⟨fun _=>f2,fun _=>rfl⟩
  have V0:Hid (∀ a,_):=U0
  clear U0
  have UA:=fun a hb hr=>TA.out a false hb hr ⟨fun h=>(by cases h),fun h=>absurd h f3⟩
  have VA:Hid (∀ a,_):=UA
  clear UA
  clear HB L1 T0 TA f0 f1 f2 f3
  generalize x.kind=kd,x.op=oo,x.a.kind=ak,x.a.n=an,str x.a.place.name=as1,x.b.kind=bk,x.b.n=bn,str x.b.place.name=bs1,str x.place.name=ps1,str x.name=ns1,x.names.length=l1,x.args.length=l2 at *
  go_enter Tryz.func112,Tryz.ntmps112
  go_wp2_with fail
  refine TN.out.mono ?_
  rintro ev w9 ⟨rfl,rfl⟩
  go_wp2_with fail
  have RV:=Row.new w 47 [.int .i64 kd,.int .i64 ak,.int .i64 an,.string as1,.slice pa na ca,.int .i64 bk,.int .i64 bn,.string bs1,.slice pb nb cb,.int .i64 oo,.string ps1,.slice pp np cp,.string ns1,.slice none 0 0,.slice pv l2 cv]
  have HV:=alloc_one w (.cells #[.int .i64 kd,.int .i64 ak,.int .i64 an,.string as1,.slice pa na ca,.int .i64 bk,.int .i64 bn,.string bs1,.slice pb nb cb,.int .i64 oo,.string ps1,.slice pp np cp,.string ns1,.slice none 0 0,.slice pv l2 cv] 47)
  refine (V0.out _ (HV) (RV)).mono ?_
  rintro ev w1 ⟨rfl,r1,hb1⟩
  have c1:w1.cell? ⟨w.heap.size,0,none⟩=some (.int .i64 kd):=r1.cell 0
  have d1:w1.cell? ⟨w.heap.size,14,none⟩=some (.slice pv l2 cv):=r1.cell 14
  have e1:=r1.fz 14
  go_wp2_with fail
  refine (VA.out _ hb1 r1).mono ?_
  rintro ev w8 ⟨rfl,r8,hb8⟩
  have c8:w8.cell? ⟨w.heap.size,0,none⟩=some (.int .i64 kd):=r8.cell 0
  have d8:w8.cell? ⟨w.heap.size,14,none⟩=some (.slice pv l2 cv):=r8.cell 14
  have e8:=r8.fz 14
  go_wp2_with fail
  go_ret
  exact ⟨rfl,SB.out _ hb8⟩
 have HBL:Hid (B=true↔{ x with names:=[],name:=[],args:=[] }=Va.of x.kind):=by
  show _↔_
  rw [HB.out];exact ⟨fun h=>h.2.2.2.2,fun h=>⟨f0,f1,f2,f3,h⟩⟩
 have m0:((x.names.length:Int) == (x.args.length:Int))=true:=by simp;omega
 rw [f1] at TN
 have U0:=fun a hb hr=>T0.out a true hb hr ⟨fun _=>f2,fun _=>rfl⟩
 have V0:Hid (∀ a,_):=U0
 clear U0
 have UA:=fun a hb hr=>TA.out a true hb hr ⟨fun _=>f3,fun _=>rfl⟩
 have VA:Hid (∀ a,_):=UA
 clear UA
 have UL:=fun a hb hr=>L1.out a B hb hr HBL.out
 have VL:Hid (∀ a,_):=UL
 clear UL HBL
 clear HB L1 T0 TA f0 f1 f2 f3
 generalize x.kind=kd,x.op=oo,x.a.kind=ak,x.a.n=an,str x.a.place.name=as1,x.b.kind=bk,x.b.n=bn,str x.b.place.name=bs1,str x.place.name=ps1,str x.name=ns1,x.names.length=l1,x.args.length=l2 at *
 go_enter Tryz.func112,Tryz.ntmps112
 go_wp2_with fail
 refine TN.out.mono ?_
 rintro ev w9 ⟨rfl,rfl⟩
 go_wp2_with fail
 have RV:=Row.new w 47 [.int .i64 kd,.int .i64 ak,.int .i64 an,.string as1,.slice pa na ca,.int .i64 bk,.int .i64 bn,.string bs1,.slice pb nb cb,.int .i64 oo,.string ps1,.slice pp np cp,.string ns1,.slice none 0 0,.slice pv l2 cv]
 have HV:=alloc_one w (.cells #[.int .i64 kd,.int .i64 ak,.int .i64 an,.string as1,.slice pa na ca,.int .i64 bk,.int .i64 bn,.string bs1,.slice pb nb cb,.int .i64 oo,.string ps1,.slice pp np cp,.string ns1,.slice none 0 0,.slice pv l2 cv] 47)
 refine (V0.out _ (HV) (RV)).mono ?_
 rintro ev w1 ⟨rfl,r1,hb1⟩
 have c1:w1.cell? ⟨w.heap.size,0,none⟩=some (.int .i64 kd):=r1.cell 0
 have d1:w1.cell? ⟨w.heap.size,14,none⟩=some (.slice pv l2 cv):=r1.cell 14
 have e1:=r1.fz 14
 go_wp2_with fail
 refine (VA.out _ hb1 r1).mono ?_
 rintro ev w8 ⟨rfl,r8,hb8⟩
 have c8:w8.cell? ⟨w.heap.size,0,none⟩=some (.int .i64 kd):=r8.cell 0
 have d8:w8.cell? ⟨w.heap.size,14,none⟩=some (.slice pv l2 cv):=r8.cell 14
 have e8:=r8.fz 14
 obtain ⟨rz,hbz⟩:=SA.out w8 hb8 r8
 have cz:(w8.setCell ⟨w.heap.size,14,none⟩ (.slice none 0 0)).cell? ⟨w.heap.size,0,none⟩=some (.int .i64 kd):=rz.cell 0
 have D:=VL.out _ hbz rz
 have ez:(w8.setCell ⟨w.heap.size,14,none⟩ (.slice none 0 0)).heap.size=w8.heap.size:=by simp [World.setCell]
 rw [ez] at D
 clear ez
 go_wp2_with fail
 refine D.mono ?_
 rintro ev w7 ⟨rfl,hb7⟩
 go_wp2_with fail
 go_ret
 exact ⟨rfl,hb7⟩
end Go.Proofs.YtjenmmkamhplkaaGreat
