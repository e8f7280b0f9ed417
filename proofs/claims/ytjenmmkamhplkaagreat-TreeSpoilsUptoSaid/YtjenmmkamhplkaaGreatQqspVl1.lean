/- Part of the proof. -/
import Derived.Test.YtjenmmkamhplkaaGreatJqspMop2
namespace Go.Proofs.YtjenmmkamhplkaaGreat
open Go.RowKit
set_option maxHeartbeats 8000000
set_option maxRecDepth 20000
theorem PlAt.open {K:Ctx} {w:World} {cs:List Value} {t:Pl} (h:PlAt K w cs t):∃ ao n c,cs=[.string (str t.name),.slice ao n c]:=by
 obtain ⟨v1,rfl,_,h⟩:=h
 obtain ⟨ao,cap,rfl⟩:=h.form
 exact ⟨_,_,_,rfl⟩
theorem OprAt.open {K:Ctx} {w:World} {cs:List Value} {t:Opr} (h:OprAt K w cs t):∃ ao n c,cs=[.int .i64 t.kind,.int .i64 t.n,.string (str t.place.name),.slice ao n c]:=by
 obtain ⟨ps,rfl,h⟩:=h
 obtain ⟨ao,n,c,rfl⟩:=h.open
 exact ⟨_,_,_,rfl⟩
theorem nxt {w a b:World} (h:Below w.heap.size w a) (s:Stay (fun k=>k=w.heap.size) a b):Below w.heap.size w b :=
 h.trans (s.below h.size (fun k hk=>by omega))
def Va.of (k:Int):Va:={ Va.zero with kind:=k }
def MayVa (v:Va):Prop :=
 (v.kind=5/\(1<=v.op/\v.op<=4)/\MayOpr v.b/\MayOpr v.a/\{ v with op:=0,b:=Opr.zero,a:=Opr.zero }=Va.of v.kind) ∨
 ((v.kind=1∨v.kind=4)/\MayOpr v.a/\{ v with a:=Opr.zero }=Va.of v.kind) ∨
 ((v.kind=2∨v.kind=3)/\MayPl v.place/\{ v with place:=Pl.zero }=Va.of v.kind) ∨
 (v.kind=7/\v.names.length=v.args.length/\(decide (v.names.length<=64) && v.names.all nameB)=true/\farB v.name=true/\(v.args.length<=64/\∀ a∈v.args,MayOpr a)/\{ v with names:=[],name:=[],args:=[] }=Va.of v.kind) ∨
 (v.kind=6/\farB v.name=true/\(v.args.length<=64/\∀ a∈v.args,MayOpr a)/\{ v with name:=[],args:=[] }=Va.of v.kind)
theorem va_op {v:Va} (h:v.kind=5):MayVa v↔(1<=v.op/\v.op<=4)/\MayOpr v.b/\MayOpr v.a/\{ v with op:=0,b:=Opr.zero,a:=Opr.zero }=Va.of v.kind:=by
 constructor
 ·rintro (⟨_,h'⟩|⟨h',_⟩|⟨h',_⟩|⟨h',_⟩|⟨h',_⟩) <;> first|exact h'|omega
 ·exact fun h'=>.inl ⟨h,h'⟩
theorem va_oper {v:Va} (h:v.kind=1∨v.kind=4):MayVa v↔MayOpr v.a/\{ v with a:=Opr.zero }=Va.of v.kind:=by
 constructor
 ·rintro (⟨h',_⟩|⟨_,h'⟩|⟨h',_⟩|⟨h',_⟩|⟨h',_⟩) <;> first|exact h'|omega
 ·exact fun h'=>.inr (.inl ⟨h,h'⟩)
theorem va_ref {v:Va} (h:v.kind=2∨v.kind=3):MayVa v↔MayPl v.place/\{ v with place:=Pl.zero }=Va.of v.kind:=by
 constructor
 ·rintro (⟨h',_⟩|⟨h',_⟩|⟨_,h'⟩|⟨h',_⟩|⟨h',_⟩) <;> first|exact h'|omega
 ·exact fun h'=>.inr (.inr (.inl ⟨h,h'⟩))
theorem va_make {v:Va} (h:v.kind=7):MayVa v↔v.names.length=v.args.length/\(decide (v.names.length<=64) && v.names.all nameB)=true/\farB v.name=true/\(v.args.length<=64/\∀ a∈v.args,MayOpr a)/\{ v with names:=[],name:=[],args:=[] }=Va.of v.kind:=by
 constructor
 ·rintro (⟨h',_⟩|⟨h',_⟩|⟨h',_⟩|⟨_,h'⟩|⟨h',_⟩) <;> first|exact h'|omega
 ·exact fun h'=>.inr (.inr (.inr (.inl ⟨h,h'⟩)))
theorem va_call {v:Va} (h:v.kind=6):MayVa v↔farB v.name=true/\(v.args.length<=64/\∀ a∈v.args,MayOpr a)/\{ v with name:=[],args:=[] }=Va.of v.kind:=by
 constructor
 ·rintro (⟨h',_⟩|⟨h',_⟩|⟨h',_⟩|⟨h',_⟩|⟨_,h'⟩) <;> first|exact h'|omega
 ·exact fun h'=>.inr (.inr (.inr (.inr ⟨h,h'⟩)))
theorem va_none {v:Va} (h:¬ (v.kind=1∨v.kind=2∨v.kind=3∨v.kind=4∨v.kind=5∨v.kind=6∨v.kind=7)):¬ MayVa v:=by
 rintro (⟨h',_⟩|⟨h',_⟩|⟨h',_⟩|⟨h',_⟩|⟨h',_⟩) <;> omega
theorem left_zero {K:Ctx} {w a:World} (he:Env K w) (hb:Below w.heap.size w a) {cs:List Value} {v:Va} (k:Int) (hr:Row a w.heap.size 47 cs) (hv:VaAt K a cs v) (B:Bool) (hB:B=true↔v=Va.of k) :
  Calls Tryz.prog 100 #[.pointer (some ⟨w.heap.size,0,none⟩),.pointer (some ⟨a.heap.size,0,none⟩)] (a.alloc (.cells #[.int .i64 k,.int .i64 0,.int .i64 0,.string ⟨#[]⟩,.slice none 0 0,.int .i64 0,.int .i64 0,.string ⟨#[]⟩,.slice none 0 0,.int .i64 0,.string ⟨#[]⟩,.slice none 0 0,.string ⟨#[]⟩,.slice none 0 0,.slice none 0 0] 47)) fun ev w'=>ev=.returned (.bool B)/\Below w.heap.size w w':=by
 have hA:=alloc_one a (.cells #[.int .i64 k,.int .i64 0,.int .i64 0,.string ⟨#[]⟩,.slice none 0 0,.int .i64 0,.int .i64 0,.string ⟨#[]⟩,.slice none 0 0,.int .i64 0,.string ⟨#[]⟩,.slice none 0 0,.string ⟨#[]⟩,.slice none 0 0,.slice none 0 0] 47)
 have hC:K.C<=a.heap.size:=Nat.le_trans he.C hb.size
 refine (sameValue_any ((hr.alloc _).cells 15) ((Row.new a 47 (vaCells k)).cells 15) (hv.below (below_le hA hC)) (va_zero K _ k) B hB).mono ?_
 rintro _ _ ⟨rfl,m,rfl⟩
 exact ⟨rfl,(hb.trans (below_le hA hb.size)).trans (Below.drewN _ _ _)⟩
theorem mayVal_1 {K:Ctx} {w:World} (he:Env K w) {x:Va} {pa pb pp pn pv:Option Addr} {na nb np ca cb cp cn cv:Nat} (h1:OprAt K w [.int .i64 x.a.kind,.int .i64 x.a.n,.string (str x.a.place.name),.slice pa na ca] x.a) (h2:OprAt K w [.int .i64 x.b.kind,.int .i64 x.b.n,.string (str x.b.place.name),.slice pb nb cb] x.b) (h3:PlAt K w [.string (str x.place.name),.slice pp np cp] x.place) (hl:x.name.length<=K.B) (h4:Strs K w (.slice pn x.names.length cn) x.names) (h5:Ar 4 56 (OprAt K w) K w (.slice pv x.args.length cv) x.args) (k0:x.kind=1) (B:Bool) (hB:B=true↔MayVa x) :
  Calls Tryz.prog 112 #[.agg #[.int .i64 x.kind,.int .i64 x.a.kind,.int .i64 x.a.n,.string (str x.a.place.name),.slice pa na ca,.int .i64 x.b.kind,.int .i64 x.b.n,.string (str x.b.place.name),.slice pb nb cb,.int .i64 x.op,.string (str x.place.name),.slice pp np cp,.string (str x.name),.slice pn x.names.length cn,.slice pv x.args.length cv]] w fun ev w'=>ev=.returned (.bool B)/\Below w.heap.size w w':=by
 rw [va_oper (.inl k0)] at hB
 have hA:=alloc_one w (.cells #[.int .i64 x.kind,.int .i64 x.a.kind,.int .i64 x.a.n,.string (str x.a.place.name),.slice pa na ca,.int .i64 x.b.kind,.int .i64 x.b.n,.string (str x.b.place.name),.slice pb nb cb,.int .i64 x.op,.string (str x.place.name),.slice pp np cp,.string (str x.name),.slice pn x.names.length cn,.slice pv x.args.length cv] 47)
 have hK:=below_le hA he.C
 have r0:=Row.new w 47 [.int .i64 x.kind,.int .i64 x.a.kind,.int .i64 x.a.n,.string (str x.a.place.name),.slice pa na ca,.int .i64 x.b.kind,.int .i64 x.b.n,.string (str x.b.place.name),.slice pb nb cb,.int .i64 x.op,.string (str x.place.name),.slice pp np cp,.string (str x.name),.slice pn x.names.length cn,.slice pv x.args.length cv]
 have b5:(x.kind == 5)=false:=by rw [k0];rfl
 have b1:(x.kind == 1)=true:=by rw [k0];rfl
 have HB:=hid0 hB
 clear hB
 have T0:Hid (∀ (a:World) (B:Bool),Below w.heap.size w a->Row a w.heap.size 47 [.int .i64 x.kind,.int .i64 x.a.kind,.int .i64 x.a.n,.string (str x.a.place.name),.slice pa na ca,.int .i64 x.b.kind,.int .i64 x.b.n,.string (str x.b.place.name),.slice pb nb cb,.int .i64 x.op,.string (str x.place.name),.slice pp np cp,.string (str x.name),.slice pn x.names.length cn,.slice pv x.args.length cv]->(B=true↔MayOpr x.a)->Calls Tryz.prog 118 #[.pointer (some ⟨w.heap.size,1,none⟩),.func (.func 119) #[] #[]] a fun ev w'=>ev=.returned (.bool B)/\Row w' w.heap.size 47 [.int .i64 x.kind,.int .i64 0,.int .i64 0,.string (str []),.slice none 0 0,.int .i64 x.b.kind,.int .i64 x.b.n,.string (str x.b.place.name),.slice pb nb cb,.int .i64 x.op,.string (str x.place.name),.slice pp np cp,.string (str x.name),.slice pn x.names.length cn,.slice pv x.args.length cv]/\Below w.heap.size w w'):=by
  intro a B hb hr hB
  have hKa:=below_le hb he.C
  exact (takeOper_any (he.below hKa) (A:=[.int .i64 x.kind]) (cs:=[.int .i64 x.a.kind,.int .i64 x.a.n,.string (str x.a.place.name),.slice pa na ca]) (R:=[.int .i64 x.b.kind,.int .i64 x.b.n,.string (str x.b.place.name),.slice pb nb cb,.int .i64 x.op,.string (str x.place.name),.slice pp np cp,.string (str x.name),.slice pn x.names.length cn,.slice pv x.args.length cv]) hr rfl (h1.below hKa) B hB).mono fun _ _ h=>⟨h.1,h.2.1,nxt hb h.2.2⟩
 have L1:Hid (∀ (a:World) (B:Bool),Below w.heap.size w a->Row a w.heap.size 47 [.int .i64 x.kind,.int .i64 0,.int .i64 0,.string (str []),.slice none 0 0,.int .i64 x.b.kind,.int .i64 x.b.n,.string (str x.b.place.name),.slice pb nb cb,.int .i64 x.op,.string (str x.place.name),.slice pp np cp,.string (str x.name),.slice pn x.names.length cn,.slice pv x.args.length cv]->(B=true↔{ x with a:=Opr.zero }=Va.of x.kind)->Calls Tryz.prog 100 #[.pointer (some ⟨w.heap.size,0,none⟩),.pointer (some ⟨a.heap.size,0,none⟩)] (a.alloc (.cells #[.int .i64 x.kind,.int .i64 0,.int .i64 0,.string ⟨#[]⟩,.slice none 0 0,.int .i64 0,.int .i64 0,.string ⟨#[]⟩,.slice none 0 0,.int .i64 0,.string ⟨#[]⟩,.slice none 0 0,.string ⟨#[]⟩,.slice none 0 0,.slice none 0 0] 47)) fun ev w'=>ev=.returned (.bool B)/\Below w.heap.size w w'):=by
  intro a B hb hr hB
  have hKa:=below_le hb he.C
  exact left_zero he hb x.kind hr (v:={ x with a:=Opr.zero }) ⟨_,_,_,_,_,rfl,opr_zero K _,h2.below hKa,h3.below hKa,hl,h4.below hKa,h5.mono hKa fun _ _ _ h=>h.below hKa⟩ B hB
 have HA:=hid0 hA
 have R0:=hid0 r0
 clear h1 h2 h3 h4 h5 r0 hA hK he k0 hl
 by_cases f0:MayOpr x.a
 rotate_left
 ·obtain rfl:=bool_false HB.out (fun h=>f0 h.1)
  have U0:=fun a hb hr=>T0.out a false hb hr ⟨fun h=>(by cases h),fun h=>absurd h f0⟩
  have V0:Hid (∀ a,_):=U0
  clear U0
  clear HB L1 T0 f0
  generalize x.kind=kd,x.op=oo,x.a.kind=ak,x.a.n=an,str x.a.place.name=as1,x.b.kind=bk,x.b.n=bn,str x.b.place.name=bs1,str x.place.name=ps1,str x.name=ns1,x.names.length=l1,x.args.length=l2 at *
  go_enter Tryz.func112,Tryz.ntmps112
  go_wp2_with fail
  refine (V0.out _ (HA.out) (R0.out)).mono ?_
  rintro ev w1 ⟨rfl,r1,hb1⟩
  have c1:w1.cell? ⟨w.heap.size,0,none⟩=some (.int .i64 kd):=r1.cell 0
  go_wp2_with fail
  go_ret
  exact ⟨rfl,hb1⟩
 have HBL:Hid (B=true↔{ x with a:=Opr.zero }=Va.of x.kind):=by
  show _↔_
  rw [HB.out];exact ⟨fun h=>h.2,fun h=>⟨f0,h⟩⟩
 have U0:=fun a hb hr=>T0.out a true hb hr ⟨fun _=>f0,fun _=>rfl⟩
 have V0:Hid (∀ a,_):=U0
 clear U0
 have UL:=fun a hb hr=>L1.out a B hb hr HBL.out
 have VL:Hid (∀ a,_):=UL
 clear UL HBL
 clear HB L1 T0 f0
 generalize x.kind=kd,x.op=oo,x.a.kind=ak,x.a.n=an,str x.a.place.name=as1,x.b.kind=bk,x.b.n=bn,str x.b.place.name=bs1,str x.place.name=ps1,str x.name=ns1,x.names.length=l1,x.args.length=l2 at *
 go_enter Tryz.func112,Tryz.ntmps112
 go_wp2_with fail
 refine (V0.out _ (HA.out) (R0.out)).mono ?_
 rintro ev w1 ⟨rfl,r1,hb1⟩
 have c1:w1.cell? ⟨w.heap.size,0,none⟩=some (.int .i64 kd):=r1.cell 0
 have D:=VL.out _ hb1 r1
 go_wp2_with fail
 refine D.mono ?_
 rintro ev w7 ⟨rfl,hb7⟩
 go_wp2_with fail
 go_ret
 exact ⟨rfl,hb7⟩
theorem mayVal_4 {K:Ctx} {w:World} (he:Env K w) {x:Va} {pa pb pp pn pv:Option Addr} {na nb np ca cb cp cn cv:Nat} (h1:OprAt K w [.int .i64 x.a.kind,.int .i64 x.a.n,.string (str x.a.place.name),.slice pa na ca] x.a) (h2:OprAt K w [.int .i64 x.b.kind,.int .i64 x.b.n,.string (str x.b.place.name),.slice pb nb cb] x.b) (h3:PlAt K w [.string (str x.place.name),.slice pp np cp] x.place) (hl:x.name.length<=K.B) (h4:Strs K w (.slice pn x.names.length cn) x.names) (h5:Ar 4 56 (OprAt K w) K w (.slice pv x.args.length cv) x.args) (k0:x.kind=4) (B:Bool) (hB:B=true↔MayVa x) :
  Calls Tryz.prog 112 #[.agg #[.int .i64 x.kind,.int .i64 x.a.kind,.int .i64 x.a.n,.string (str x.a.place.name),.slice pa na ca,.int .i64 x.b.kind,.int .i64 x.b.n,.string (str x.b.place.name),.slice pb nb cb,.int .i64 x.op,.string (str x.place.name),.slice pp np cp,.string (str x.name),.slice pn x.names.length cn,.slice pv x.args.length cv]] w fun ev w'=>ev=.returned (.bool B)/\Below w.heap.size w w':=by
 rw [va_oper (.inr k0)] at hB
 have hA:=alloc_one w (.cells #[.int .i64 x.kind,.int .i64 x.a.kind,.int .i64 x.a.n,.string (str x.a.place.name),.slice pa na ca,.int .i64 x.b.kind,.int .i64 x.b.n,.string (str x.b.place.name),.slice pb nb cb,.int .i64 x.op,.string (str x.place.name),.slice pp np cp,.string (str x.name),.slice pn x.names.length cn,.slice pv x.args.length cv] 47)
 have hK:=below_le hA he.C
 have r0:=Row.new w 47 [.int .i64 x.kind,.int .i64 x.a.kind,.int .i64 x.a.n,.string (str x.a.place.name),.slice pa na ca,.int .i64 x.b.kind,.int .i64 x.b.n,.string (str x.b.place.name),.slice pb nb cb,.int .i64 x.op,.string (str x.place.name),.slice pp np cp,.string (str x.name),.slice pn x.names.length cn,.slice pv x.args.length cv]
 have b5:(x.kind == 5)=false:=by rw [k0];rfl
 have b1:(x.kind == 1)=false:=by rw [k0];rfl
 have b4:(x.kind == 4)=true:=by rw [k0];rfl
 have HB:=hid0 hB
 clear hB
 have T0:Hid (∀ (a:World) (B:Bool),Below w.heap.size w a->Row a w.heap.size 47 [.int .i64 x.kind,.int .i64 x.a.kind,.int .i64 x.a.n,.string (str x.a.place.name),.slice pa na ca,.int .i64 x.b.kind,.int .i64 x.b.n,.string (str x.b.place.name),.slice pb nb cb,.int .i64 x.op,.string (str x.place.name),.slice pp np cp,.string (str x.name),.slice pn x.names.length cn,.slice pv x.args.length cv]->(B=true↔MayOpr x.a)->Calls Tryz.prog 118 #[.pointer (some ⟨w.heap.size,1,none⟩),.func (.func 119) #[] #[]] a fun ev w'=>ev=.returned (.bool B)/\Row w' w.heap.size 47 [.int .i64 x.kind,.int .i64 0,.int .i64 0,.string (str []),.slice none 0 0,.int .i64 x.b.kind,.int .i64 x.b.n,.string (str x.b.place.name),.slice pb nb cb,.int .i64 x.op,.string (str x.place.name),.slice pp np cp,.string (str x.name),.slice pn x.names.length cn,.slice pv x.args.length cv]/\Below w.heap.size w w'):=by
  intro a B hb hr hB
  have hKa:=below_le hb he.C
  exact (takeOper_any (he.below hKa) (A:=[.int .i64 x.kind]) (cs:=[.int .i64 x.a.kind,.int .i64 x.a.n,.string (str x.a.place.name),.slice pa na ca]) (R:=[.int .i64 x.b.kind,.int .i64 x.b.n,.string (str x.b.place.name),.slice pb nb cb,.int .i64 x.op,.string (str x.place.name),.slice pp np cp,.string (str x.name),.slice pn x.names.length cn,.slice pv x.args.length cv]) hr rfl (h1.below hKa) B hB).mono fun _ _ h=>⟨h.1,h.2.1,nxt hb h.2.2⟩
 have L1:Hid (∀ (a:World) (B:Bool),Below w.heap.size w a->Row a w.heap.size 47 [.int .i64 x.kind,.int .i64 0,.int .i64 0,.string (str []),.slice none 0 0,.int .i64 x.b.kind,.int .i64 x.b.n,.string (str x.b.place.name),.slice pb nb cb,.int .i64 x.op,.string (str x.place.name),.slice pp np cp,.string (str x.name),.slice pn x.names.length cn,.slice pv x.args.length cv]->(B=true↔{ x with a:=Opr.zero }=Va.of x.kind)->Calls Tryz.prog 100 #[.pointer (some ⟨w.heap.size,0,none⟩),.pointer (some ⟨a.heap.size,0,none⟩)] (a.alloc (.cells #[.int .i64 x.kind,.int .i64 0,.int .i64 0,.string ⟨#[]⟩,.slice none 0 0,.int .i64 0,.int .i64 0,.string ⟨#[]⟩,.slice none 0 0,.int .i64 0,.string ⟨#[]⟩,.slice none 0 0,.string ⟨#[]⟩,.slice none 0 0,.slice none 0 0] 47)) fun ev w'=>ev=.returned (.bool B)/\Below w.heap.size w w'):=by
  intro a B hb hr hB
  have hKa:=below_le hb he.C
  exact left_zero he hb x.kind hr (v:={ x with a:=Opr.zero }) ⟨_,_,_,_,_,rfl,opr_zero K _,h2.below hKa,h3.below hKa,hl,h4.below hKa,h5.mono hKa fun _ _ _ h=>h.below hKa⟩ B hB
 have HA:=hid0 hA
 have R0:=hid0 r0
 clear h1 h2 h3 h4 h5 r0 hA hK he k0 hl
 by_cases f0:MayOpr x.a
 rotate_left
 ·obtain rfl:=bool_false HB.out (fun h=>f0 h.1)
  have U0:=fun a hb hr=>T0.out a false hb hr ⟨fun h=>(by cases h),fun h=>absurd h f0⟩
  have V0:Hid (∀ a,_):=U0
  clear U0
  clear HB L1 T0 f0
  generalize x.kind=kd,x.op=oo,x.a.kind=ak,x.a.n=an,str x.a.place.name=as1,x.b.kind=bk,x.b.n=bn,str x.b.place.name=bs1,str x.place.name=ps1,str x.name=ns1,x.names.length=l1,x.args.length=l2 at *
  go_enter Tryz.func112,Tryz.ntmps112
  go_wp2_with fail
  refine (V0.out _ (HA.out) (R0.out)).mono ?_
  rintro ev w1 ⟨rfl,r1,hb1⟩
  have c1:w1.cell? ⟨w.heap.size,0,none⟩=some (.int .i64 kd):=r1.cell 0
  go_wp2_with fail
  go_ret
  exact ⟨rfl,hb1⟩
 have HBL:Hid (B=true↔{ x with a:=Opr.zero }=Va.of x.kind):=by
  show _↔_
  rw [HB.out];exact ⟨fun h=>h.2,fun h=>⟨f0,h⟩⟩
 have U0:=fun a hb hr=>T0.out a true hb hr ⟨fun _=>f0,fun _=>rfl⟩
 have V0:Hid (∀ a,_):=U0
 clear U0
 have UL:=fun a hb hr=>L1.out a B hb hr HBL.out
 have VL:Hid (∀ a,_):=UL
 clear UL HBL
 clear HB L1 T0 f0
 generalize x.kind=kd,x.op=oo,x.a.kind=ak,x.a.n=an,str x.a.place.name=as1,x.b.kind=bk,x.b.n=bn,str x.b.place.name=bs1,str x.place.name=ps1,str x.name=ns1,x.names.length=l1,x.args.length=l2 at *
 go_enter Tryz.func112,Tryz.ntmps112
 go_wp2_with fail
 refine (V0.out _ (HA.out) (R0.out)).mono ?_
 rintro ev w1 ⟨rfl,r1,hb1⟩
 have c1:w1.cell? ⟨w.heap.size,0,none⟩=some (.int .i64 kd):=r1.cell 0
 have D:=VL.out _ hb1 r1
 go_wp2_with fail
 refine D.mono ?_
 rintro ev w7 ⟨rfl,hb7⟩
 go_wp2_with fail
 go_ret
 exact ⟨rfl,hb7⟩
theorem mayVal_2 {K:Ctx} {w:World} (he:Env K w) {x:Va} {pa pb pp pn pv:Option Addr} {na nb np ca cb cp cn cv:Nat} (h1:OprAt K w [.int .i64 x.a.kind,.int .i64 x.a.n,.string (str x.a.place.name),.slice pa na ca] x.a) (h2:OprAt K w [.int .i64 x.b.kind,.int .i64 x.b.n,.string (str x.b.place.name),.slice pb nb cb] x.b) (h3:PlAt K w [.string (str x.place.name),.slice pp np cp] x.place) (hl:x.name.length<=K.B) (h4:Strs K w (.slice pn x.names.length cn) x.names) (h5:Ar 4 56 (OprAt K w) K w (.slice pv x.args.length cv) x.args) (k0:x.kind=2) (B:Bool) (hB:B=true↔MayVa x) :
  Calls Tryz.prog 112 #[.agg #[.int .i64 x.kind,.int .i64 x.a.kind,.int .i64 x.a.n,.string (str x.a.place.name),.slice pa na ca,.int .i64 x.b.kind,.int .i64 x.b.n,.string (str x.b.place.name),.slice pb nb cb,.int .i64 x.op,.string (str x.place.name),.slice pp np cp,.string (str x.name),.slice pn x.names.length cn,.slice pv x.args.length cv]] w fun ev w'=>ev=.returned (.bool B)/\Below w.heap.size w w':=by
 rw [va_ref (.inl k0)] at hB
 have hA:=alloc_one w (.cells #[.int .i64 x.kind,.int .i64 x.a.kind,.int .i64 x.a.n,.string (str x.a.place.name),.slice pa na ca,.int .i64 x.b.kind,.int .i64 x.b.n,.string (str x.b.place.name),.slice pb nb cb,.int .i64 x.op,.string (str x.place.name),.slice pp np cp,.string (str x.name),.slice pn x.names.length cn,.slice pv x.args.length cv] 47)
 have hK:=below_le hA he.C
 have r0:=Row.new w 47 [.int .i64 x.kind,.int .i64 x.a.kind,.int .i64 x.a.n,.string (str x.a.place.name),.slice pa na ca,.int .i64 x.b.kind,.int .i64 x.b.n,.string (str x.b.place.name),.slice pb nb cb,.int .i64 x.op,.string (str x.place.name),.slice pp np cp,.string (str x.name),.slice pn x.names.length cn,.slice pv x.args.length cv]
 have b5:(x.kind == 5)=false:=by rw [k0];rfl
 have b1:(x.kind == 1)=false:=by rw [k0];rfl
 have b4:(x.kind == 4)=false:=by rw [k0];rfl
 have b2:(x.kind == 2)=true:=by rw [k0];rfl
 have HB:=hid0 hB
 clear hB
 have T0:Hid (∀ (a:World) (B:Bool),Below w.heap.size w a->Row a w.heap.size 47 [.int .i64 x.kind,.int .i64 x.a.kind,.int .i64 x.a.n,.string (str x.a.place.name),.slice pa na ca,.int .i64 x.b.kind,.int .i64 x.b.n,.string (str x.b.place.name),.slice pb nb cb,.int .i64 x.op,.string (str x.place.name),.slice pp np cp,.string (str x.name),.slice pn x.names.length cn,.slice pv x.args.length cv]->(B=true↔MayPl x.place)->Calls Tryz.prog 113 #[.pointer (some ⟨w.heap.size,10,none⟩),.func (.func 114) #[] #[]] a fun ev w'=>ev=.returned (.bool B)/\Row w' w.heap.size 47 [.int .i64 x.kind,.int .i64 x.a.kind,.int .i64 x.a.n,.string (str x.a.place.name),.slice pa na ca,.int .i64 x.b.kind,.int .i64 x.b.n,.string (str x.b.place.name),.slice pb nb cb,.int .i64 x.op,.string (str []),.slice none 0 0,.string (str x.name),.slice pn x.names.length cn,.slice pv x.args.length cv]/\Below w.heap.size w w'):=by
  intro a B hb hr hB
  have hKa:=below_le hb he.C
  exact (takePlace_any (he.below hKa) (A:=[.int .i64 x.kind,.int .i64 x.a.kind,.int .i64 x.a.n,.string (str x.a.place.name),.slice pa na ca,.int .i64 x.b.kind,.int .i64 x.b.n,.string (str x.b.place.name),.slice pb nb cb,.int .i64 x.op]) (cs:=[.string (str x.place.name),.slice pp np cp]) (R:=[.string (str x.name),.slice pn x.names.length cn,.slice pv x.args.length cv]) hr rfl (h3.below hKa) B hB).mono fun _ _ h=>⟨h.1,h.2.1,nxt hb h.2.2⟩
 have L1:Hid (∀ (a:World) (B:Bool),Below w.heap.size w a->Row a w.heap.size 47 [.int .i64 x.kind,.int .i64 x.a.kind,.int .i64 x.a.n,.string (str x.a.place.name),.slice pa na ca,.int .i64 x.b.kind,.int .i64 x.b.n,.string (str x.b.place.name),.slice pb nb cb,.int .i64 x.op,.string (str []),.slice none 0 0,.string (str x.name),.slice pn x.names.length cn,.slice pv x.args.length cv]->(B=true↔{ x with place:=Pl.zero }=Va.of x.kind)->Calls Tryz.prog 100 #[.pointer (some ⟨w.heap.size,0,none⟩),.pointer (some ⟨a.heap.size,0,none⟩)] (a.alloc (.cells #[.int .i64 x.kind,.int .i64 0,.int .i64 0,.string ⟨#[]⟩,.slice none 0 0,.int .i64 0,.int .i64 0,.string ⟨#[]⟩,.slice none 0 0,.int .i64 0,.string ⟨#[]⟩,.slice none 0 0,.string ⟨#[]⟩,.slice none 0 0,.slice none 0 0] 47)) fun ev w'=>ev=.returned (.bool B)/\Below w.heap.size w w'):=by
  intro a B hb hr hB
  have hKa:=below_le hb he.C
  exact left_zero he hb x.kind hr (v:={ x with place:=Pl.zero }) ⟨_,_,_,_,_,rfl,h1.below hKa,h2.below hKa,pl_zero K _,hl,h4.below hKa,h5.mono hKa fun _ _ _ h=>h.below hKa⟩ B hB
 have HA:=hid0 hA
 have R0:=hid0 r0
 clear h1 h2 h3 h4 h5 r0 hA hK he k0 hl
 by_cases f0:MayPl x.place
 rotate_left
 ·obtain rfl:=bool_false HB.out (fun h=>f0 h.1)
  have U0:=fun a hb hr=>T0.out a false hb hr ⟨fun h=>(by cases h),fun h=>absurd h f0⟩
  have V0:Hid (∀ a,_):=U0
  clear U0
  clear HB L1 T0 f0
  generalize x.kind=kd,x.op=oo,x.a.kind=ak,x.a.n=an,str x.a.place.name=as1,x.b.kind=bk,x.b.n=bn,str x.b.place.name=bs1,str x.place.name=ps1,str x.name=ns1,x.names.length=l1,x.args.length=l2 at *
  go_enter Tryz.func112,Tryz.ntmps112
  go_wp2_with fail
  refine (V0.out _ (HA.out) (R0.out)).mono ?_
  rintro ev w1 ⟨rfl,r1,hb1⟩
  have c1:w1.cell? ⟨w.heap.size,0,none⟩=some (.int .i64 kd):=r1.cell 0
  go_wp2_with fail
  go_ret
  exact ⟨rfl,hb1⟩
 have HBL:Hid (B=true↔{ x with place:=Pl.zero }=Va.of x.kind):=by
  show _↔_
  rw [HB.out];exact ⟨fun h=>h.2,fun h=>⟨f0,h⟩⟩
 have U0:=fun a hb hr=>T0.out a true hb hr ⟨fun _=>f0,fun _=>rfl⟩
 have V0:Hid (∀ a,_):=U0
 clear U0
 have UL:=fun a hb hr=>L1.out a B hb hr HBL.out
 have VL:Hid (∀ a,_):=UL
 clear UL HBL
 clear HB L1 T0 f0
 generalize x.kind=kd,x.op=oo,x.a.kind=ak,x.a.n=an,str x.a.place.name=as1,x.b.kind=bk,x.b.n=bn,str x.b.place.name=bs1,str x.place.name=ps1,str x.name=ns1,x.names.length=l1,x.args.length=l2 at *
 go_enter Tryz.func112,Tryz.ntmps112
 go_wp2_with fail
 refine (V0.out _ (HA.out) (R0.out)).mono ?_
 rintro ev w1 ⟨rfl,r1,hb1⟩
 have c1:w1.cell? ⟨w.heap.size,0,none⟩=some (.int .i64 kd):=r1.cell 0
 have D:=VL.out _ hb1 r1
 go_wp2_with fail
 refine D.mono ?_
 rintro ev w7 ⟨rfl,hb7⟩
 go_wp2_with fail
 go_ret
 exact ⟨rfl,hb7⟩
theorem mayVal_3 {K:Ctx} {w:World} (he:Env K w) {x:Va} {pa pb pp pn pv:Option Addr} {na nb np ca cb cp cn cv:Nat} (h1:OprAt K w [.int .i64 x.a.kind,.int .i64 x.a.n,.string (str x.a.place.name),.slice pa na ca] x.a) (h2:OprAt K w [.int .i64 x.b.kind,.int .i64 x.b.n,.string (str x.b.place.name),.slice pb nb cb] x.b) (h3:PlAt K w [.string (str x.place.name),.slice pp np cp] x.place) (hl:x.name.length<=K.B) (h4:Strs K w (.slice pn x.names.length cn) x.names) (h5:Ar 4 56 (OprAt K w) K w (.slice pv x.args.length cv) x.args) (k0:x.kind=3) (B:Bool) (hB:B=true↔MayVa x) :
  Calls Tryz.prog 112 #[.agg #[.int .i64 x.kind,.int .i64 x.a.kind,.int .i64 x.a.n,.string (str x.a.place.name),.slice pa na ca,.int .i64 x.b.kind,.int .i64 x.b.n,.string (str x.b.place.name),.slice pb nb cb,.int .i64 x.op,.string (str x.place.name),.slice pp np cp,.string (str x.name),.slice pn x.names.length cn,.slice pv x.args.length cv]] w fun ev w'=>ev=.returned (.bool B)/\Below w.heap.size w w':=by
 rw [va_ref (.inr k0)] at hB
 have hA:=alloc_one w (.cells #[.int .i64 x.kind,.int .i64 x.a.kind,.int .i64 x.a.n,.string (str x.a.place.name),.slice pa na ca,.int .i64 x.b.kind,.int .i64 x.b.n,.string (str x.b.place.name),.slice pb nb cb,.int .i64 x.op,.string (str x.place.name),.slice pp np cp,.string (str x.name),.slice pn x.names.length cn,.slice pv x.args.length cv] 47)
 have hK:=below_le hA he.C
 have r0:=Row.new w 47 [.int .i64 x.kind,.int .i64 x.a.kind,.int .i64 x.a.n,.string (str x.a.place.name),.slice pa na ca,.int .i64 x.b.kind,.int .i64 x.b.n,.string (str x.b.place.name),.slice pb nb cb,.int .i64 x.op,.string (str x.place.name),.slice pp np cp,.string (str x.name),.slice pn x.names.length cn,.slice pv x.args.length cv]
 have b5:(x.kind == 5)=false:=by rw [k0];rfl
 have b1:(x.kind == 1)=false:=by rw [k0];rfl
 have b4:(x.kind == 4)=false:=by rw [k0];rfl
 have b2:(x.kind == 2)=false:=by rw [k0];rfl
 have b3:(x.kind == 3)=true:=by rw [k0];rfl
 have HB:=hid0 hB
 clear hB
 have T0:Hid (∀ (a:World) (B:Bool),Below w.heap.size w a->Row a w.heap.size 47 [.int .i64 x.kind,.int .i64 x.a.kind,.int .i64 x.a.n,.string (str x.a.place.name),.slice pa na ca,.int .i64 x.b.kind,.int .i64 x.b.n,.string (str x.b.place.name),.slice pb nb cb,.int .i64 x.op,.string (str x.place.name),.slice pp np cp,.string (str x.name),.slice pn x.names.length cn,.slice pv x.args.length cv]->(B=true↔MayPl x.place)->Calls Tryz.prog 113 #[.pointer (some ⟨w.heap.size,10,none⟩),.func (.func 114) #[] #[]] a fun ev w'=>ev=.returned (.bool B)/\Row w' w.heap.size 47 [.int .i64 x.kind,.int .i64 x.a.kind,.int .i64 x.a.n,.string (str x.a.place.name),.slice pa na ca,.int .i64 x.b.kind,.int .i64 x.b.n,.string (str x.b.place.name),.slice pb nb cb,.int .i64 x.op,.string (str []),.slice none 0 0,.string (str x.name),.slice pn x.names.length cn,.slice pv x.args.length cv]/\Below w.heap.size w w'):=by
  intro a B hb hr hB
  have hKa:=below_le hb he.C
  exact (takePlace_any (he.below hKa) (A:=[.int .i64 x.kind,.int .i64 x.a.kind,.int .i64 x.a.n,.string (str x.a.place.name),.slice pa na ca,.int .i64 x.b.kind,.int .i64 x.b.n,.string (str x.b.place.name),.slice pb nb cb,.int .i64 x.op]) (cs:=[.string (str x.place.name),.slice pp np cp]) (R:=[.string (str x.name),.slice pn x.names.length cn,.slice pv x.args.length cv]) hr rfl (h3.below hKa) B hB).mono fun _ _ h=>⟨h.1,h.2.1,nxt hb h.2.2⟩
 have L1:Hid (∀ (a:World) (B:Bool),Below w.heap.size w a->Row a w.heap.size 47 [.int .i64 x.kind,.int .i64 x.a.kind,.int .i64 x.a.n,.string (str x.a.place.name),.slice pa na ca,.int .i64 x.b.kind,.int .i64 x.b.n,.string (str x.b.place.name),.slice pb nb cb,.int .i64 x.op,.string (str []),.slice none 0 0,.string (str x.name),.slice pn x.names.length cn,.slice pv x.args.length cv]->(B=true↔{ x with place:=Pl.zero }=Va.of x.kind)->Calls Tryz.prog 100 #[.pointer (some ⟨w.heap.size,0,none⟩),.pointer (some ⟨a.heap.size,0,none⟩)] (a.alloc (.cells #[.int .i64 x.kind,.int .i64 0,.int .i64 0,.string ⟨#[]⟩,.slice none 0 0,.int .i64 0,.int .i64 0,.string ⟨#[]⟩,.slice none 0 0,.int .i64 0,.string ⟨#[]⟩,.slice none 0 0,.string ⟨#[]⟩,.slice none 0 0,.slice none 0 0] 47)) fun ev w'=>ev=.returned (.bool B)/\Below w.heap.size w w'):=by
  intro a B hb hr hB
  have hKa:=below_le hb he.C
  exact left_zero he hb x.kind hr (v:={ x with place:=Pl.zero }) ⟨_,_,_,_,_,rfl,h1.below hKa,h2.below hKa,pl_zero K _,hl,h4.below hKa,h5.mono hKa fun _ _ _ h=>h.below hKa⟩ B hB
 have HA:=hid0 hA
 have R0:=hid0 r0
 clear h1 h2 h3 h4 h5 r0 hA hK he k0 hl
 by_cases f0:MayPl x.place
 rotate_left
 ·obtain rfl:=bool_false HB.out (fun h=>f0 h.1)
  have U0:=fun a hb hr=>T0.out a false hb hr ⟨fun h=>(by cases h),fun h=>absurd h f0⟩
  have V0:Hid (∀ a,_):=U0
  clear U0
  clear HB L1 T0 f0
  generalize x.kind=kd,x.op=oo,x.a.kind=ak,x.a.n=an,str x.a.place.name=as1,x.b.kind=bk,x.b.n=bn,str x.b.place.name=bs1,str x.place.name=ps1,str x.name=ns1,x.names.length=l1,x.args.length=l2 at *
  go_enter Tryz.func112,Tryz.ntmps112
  go_wp2_with fail
  refine (V0.out _ (HA.out) (R0.out)).mono ?_
  rintro ev w1 ⟨rfl,r1,hb1⟩
  have c1:w1.cell? ⟨w.heap.size,0,none⟩=some (.int .i64 kd):=r1.cell 0
  go_wp2_with fail
  go_ret
  exact ⟨rfl,hb1⟩
 have HBL:Hid (B=true↔{ x with place:=Pl.zero }=Va.of x.kind):=by
  show _↔_
  rw [HB.out];exact ⟨fun h=>h.2,fun h=>⟨f0,h⟩⟩
 have U0:=fun a hb hr=>T0.out a true hb hr ⟨fun _=>f0,fun _=>rfl⟩
 have V0:Hid (∀ a,_):=U0
 clear U0
 have UL:=fun a hb hr=>L1.out a B hb hr HBL.out
 have VL:Hid (∀ a,_):=UL
 clear UL HBL
 clear HB L1 T0 f0
 generalize x.kind=kd,x.op=oo,x.a.kind=ak,x.a.n=an,str x.a.place.name=as1,x.b.kind=bk,x.b.n=bn,str x.b.place.name=bs1,str x.place.name=ps1,str x.name=ns1,x.names.length=l1,x.args.length=l2 at *
 go_enter Tryz.func112,Tryz.ntmps112
 go_wp2_with fail
 refine (V0.out _ (HA.out) (R0.out)).mono ?_
 rintro ev w1 ⟨rfl,r1,hb1⟩
 have c1:w1.cell? ⟨w.heap.size,0,none⟩=some (.int .i64 kd):=r1.cell 0
 have D:=VL.out _ hb1 r1
 go_wp2_with fail
 refine D.mono ?_
 rintro ev w7 ⟨rfl,hb7⟩
 go_wp2_with fail
 go_ret
 exact ⟨rfl,hb7⟩
end Go.Proofs.YtjenmmkamhplkaaGreat
