/- Part of the proof. -/
import Derived.Test.YtjenmmkamhplkaaGreatJqspVal3
namespace Go.Proofs.YtjenmmkamhplkaaGreat
open Go.RowKit
set_option maxHeartbeats 4000000
set_option maxRecDepth 20000
theorem mayCall_any {K:Ctx} {w:World} (he:Env K w) {x:Va} {cs:List Value} (hx:VaAt K w cs x) (B:Bool) (hB:B=true↔MayCal x) :
  Calls Tryz.prog 116 #[.agg cs.toArray] w fun ev w'=>ev=.returned (.bool B)/\Below w.heap.size w w':=by
 have hA:=alloc_one w (.cells cs.toArray 47)
 have hK:=below_le hA he.C
 have T0:=fun B hB=>mayValue_any (he.below hK) (hx.below hK) B hB
 obtain ⟨pa,pb,pp,pn,pv,na,nb,np,ca,cb,cp,cn,cv,rfl,h1,h2,h3,hl,h4,h5⟩:=hx.open
 clear hx h1 h2 h3 h4 h5 hl hK he
 by_cases k6:x.kind=6
 ·have b6:(x.kind == 6)=true:=by rw [k6];rfl
  have D:Hid (Calls Tryz.prog 112 #[.agg #[.int .i64 x.kind,.int .i64 x.a.kind,.int .i64 x.a.n,.string (str x.a.place.name),.slice pa na ca,.int .i64 x.b.kind,.int .i64 x.b.n,.string (str x.b.place.name),.slice pb nb cb,.int .i64 x.op,.string (str x.place.name),.slice pp np cp,.string (str x.name),.slice pn x.names.length cn,.slice pv x.args.length cv]] (w.alloc (.cells #[.int .i64 x.kind,.int .i64 x.a.kind,.int .i64 x.a.n,.string (str x.a.place.name),.slice pa na ca,.int .i64 x.b.kind,.int .i64 x.b.n,.string (str x.b.place.name),.slice pb nb cb,.int .i64 x.op,.string (str x.place.name),.slice pp np cp,.string (str x.name),.slice pn x.names.length cn,.slice pv x.args.length cv] 47)) fun ev w'=>ev=.returned (.bool B)/\Below w.heap.size w w') :=
   (T0 B (by rw [hB];exact ⟨fun h=>h.2,fun h=>⟨k6,h⟩⟩)).mono fun _ _ h=>⟨h.1,hA.trans (below_le h.2 hA.size)⟩
  clear T0 hA hB k6
  generalize x.kind=kd,x.op=oo,x.a.kind=ak,x.a.n=an,str x.a.place.name=as1,x.b.kind=bk,x.b.n=bn,str x.b.place.name=bs1,str x.place.name=ps1,str x.name=ns1,x.names.length=l1,x.args.length=l2 at *
  go_enter Tryz.func116,Tryz.ntmps116
  go_wp2_with (go_at_call 112;refine D.out.mono ?_;rintro ev w2 ⟨rfl,hb2⟩)
  go_ret
  exact ⟨rfl,hb2⟩
 ·have b6:(x.kind == 6)=false:=by simpa using k6
  obtain rfl:=bool_false hB (fun h=>k6 h.1)
  have HA:=hid0 hA
  clear T0 hA hB k6
  generalize x.kind=kd,x.op=oo,x.a.kind=ak,x.a.n=an,str x.a.place.name=as1,x.b.kind=bk,x.b.n=bn,str x.b.place.name=bs1,str x.place.name=ps1,str x.name=ns1,x.names.length=l1,x.args.length=l2 at *
  go_enter Tryz.func116,Tryz.ntmps116
  go_wp2_with fail
  go_ret
  exact ⟨rfl,HA.out⟩
theorem takeValue_any {K:Ctx} {w:World} (he:Env K w) {x:Va} {cs A R:List Value} {g t o:Nat} (hr:Row w g t (A ++ (cs ++ R))) (ho:A.length=o) (hx:VaAt K w cs x) (B:Bool) (hB:B=true↔MayVa x) :
  Calls Tryz.prog 115 #[.pointer (some ⟨g,o,none⟩),.func (.func 112) #[] #[]] w fun ev w'=>ev=.returned (.bool B)/\Row w' g t (A ++ (vaCells 0 ++ R))/\Stay (fun k=>k=g) w w':=by
 have hlen:=hx.len
 have hA:=alloc_one w (.cells #[.int .i64 0,.int .i64 0,.int .i64 0,.string ⟨#[]⟩,.slice none 0 0,.int .i64 0,.int .i64 0,.string ⟨#[]⟩,.slice none 0 0,.int .i64 0,.string ⟨#[]⟩,.slice none 0 0,.string ⟨#[]⟩,.slice none 0 0,.slice none 0 0] 47)
 have hK:=below_le hA he.C
 have D:Hid (Calls Tryz.prog 112 #[.agg cs.toArray] (w.alloc (.cells #[.int .i64 0,.int .i64 0,.int .i64 0,.string ⟨#[]⟩,.slice none 0 0,.int .i64 0,.int .i64 0,.string ⟨#[]⟩,.slice none 0 0,.int .i64 0,.string ⟨#[]⟩,.slice none 0 0,.string ⟨#[]⟩,.slice none 0 0,.slice none 0 0] 47)) fun ev w'=>ev=.returned (.bool B)/\Below (w.heap.size+1) (w.alloc (.cells #[.int .i64 0,.int .i64 0,.int .i64 0,.string ⟨#[]⟩,.slice none 0 0,.int .i64 0,.int .i64 0,.string ⟨#[]⟩,.slice none 0 0,.int .i64 0,.string ⟨#[]⟩,.slice none 0 0,.string ⟨#[]⟩,.slice none 0 0,.slice none 0 0] 47)) w'):=by
  refine (mayValue_any (he.below hK) (hx.below hK) B hB).mono ?_
  rw [size_alloc]
  exact fun _ _ h=>h
 have HR:Hid (Row w g t (A ++ (cs ++ R))):=hr
 have hlt:=hr.lt
 have HZ:Hid (∀ w2,Below (w.heap.size+1) (w.alloc (.cells #[.int .i64 0,.int .i64 0,.int .i64 0,.string ⟨#[]⟩,.slice none 0 0,.int .i64 0,.int .i64 0,.string ⟨#[]⟩,.slice none 0 0,.int .i64 0,.string ⟨#[]⟩,.slice none 0 0,.string ⟨#[]⟩,.slice none 0 0,.slice none 0 0] 47)) w2->Row w2 w.heap.size 47 [.int .i64 0,.int .i64 0,.int .i64 0,.string ⟨#[]⟩,.slice none 0 0,.int .i64 0,.int .i64 0,.string ⟨#[]⟩,.slice none 0 0,.int .i64 0,.string ⟨#[]⟩,.slice none 0 0,.string ⟨#[]⟩,.slice none 0 0,.slice none 0 0]/\Row w2 g t (A ++ (cs ++ R))/\Stay (fun k=>k=g) w w2):=by
  intro w2 hb
  refine ⟨(Row.new w 47 [.int .i64 0,.int .i64 0,.int .i64 0,.string ⟨#[]⟩,.slice none 0 0,.int .i64 0,.int .i64 0,.string ⟨#[]⟩,.slice none 0 0,.int .i64 0,.string ⟨#[]⟩,.slice none 0 0,.string ⟨#[]⟩,.slice none 0 0,.slice none 0 0]).below hb (by omega),(hr.alloc _).below hb (by omega),?_⟩
  exact (Stay.of_below hA).step (Stay.of_below (by rw [size_alloc];exact hb)) (X:=fun k=>k=g) (Y:=fun k=>k=g) fun _ _ h=>h
 have hrg:Hid ((w.alloc (.cells #[.int .i64 0,.int .i64 0,.int .i64 0,.string ⟨#[]⟩,.slice none 0 0,.int .i64 0,.int .i64 0,.string ⟨#[]⟩,.slice none 0 0,.int .i64 0,.string ⟨#[]⟩,.slice none 0 0,.string ⟨#[]⟩,.slice none 0 0,.slice none 0 0] 47)).rangeAt g o cs):=range_alloc (hr.mid ho) _
 have hi:Hid ((Tryz.prog.info? 47).map (·.size)=some cs.length):=by show _=_;rw [hlen];kernel_rfl
 have hi2:Hid ((Tryz.prog.info? 47).map (·.size)=some ([.int .i64 0,.int .i64 0,.int .i64 0,.string ⟨#[]⟩,.slice none 0 0,.int .i64 0,.int .i64 0,.string ⟨#[]⟩,.slice none 0 0,.int .i64 0,.string ⟨#[]⟩,.slice none 0 0,.string ⟨#[]⟩,.slice none 0 0,.slice none 0 0]:List Value).length):=by show _=_;kernel_rfl
 have hi3:Hid ((Tryz.prog.info? 47).map (·.size)=some (#[.int .i64 0,.int .i64 0,.int .i64 0,.string ⟨#[]⟩,.slice none 0 0,.int .i64 0,.int .i64 0,.string ⟨#[]⟩,.slice none 0 0,.int .i64 0,.string ⟨#[]⟩,.slice none 0 0,.string ⟨#[]⟩,.slice none 0 0,.slice none 0 0]:Array Value).size):=by show _=_;kernel_rfl
 have h1:Hid ((#[.int .i64 0,.int .i64 0,.int .i64 0,.string ⟨#[]⟩,.slice none 0 0,.int .i64 0,.int .i64 0,.string ⟨#[]⟩,.slice none 0 0,.int .i64 0,.string ⟨#[]⟩,.slice none 0 0,.string ⟨#[]⟩,.slice none 0 0,.slice none 0 0]:Array Value).all (·.oneCell')=true):=by show _=_;kernel_rfl
 have HO:Hid (A.length=o):=ho
 have HL:Hid (cs.length=15):=hlen
 clear hr hx hB he hA hK hlen ho hlt
 go_enter Tryz.func115,Tryz.ntmps115
 go_wp2_with (first|(refine wpList_load_mid rfl 47 (.tmp 9) rfl g o rfl cs _ hrg.out Tryz.underlying47 rfl hi.out ?_)|(go_at_call 112;refine D.out.mono ?_;rintro ev w2 ⟨rfl,hb2⟩;obtain ⟨r1,r2,hs⟩:=HZ.out w2 hb2;clear hb2 HZ hrg D HR;have R2:Hid (Row w2 g t (A ++ (cs ++ R))):=r2;have R1:Hid (Row w2 w.heap.size 47 [.int .i64 0,.int .i64 0,.int .i64 0,.string ⟨#[]⟩,.slice none 0 0,.int .i64 0,.int .i64 0,.string ⟨#[]⟩,.slice none 0 0,.int .i64 0,.string ⟨#[]⟩,.slice none 0 0,.string ⟨#[]⟩,.slice none 0 0,.slice none 0 0]):=r1;have HS:Hid (Stay (fun k=>k=g) w w2):=hs;clear r1 r2 hs)|(refine wpList_load_mid rfl 47 (.tmp 5) rfl w.heap.size 0 rfl [.int .i64 0,.int .i64 0,.int .i64 0,.string ⟨#[]⟩,.slice none 0 0,.int .i64 0,.int .i64 0,.string ⟨#[]⟩,.slice none 0 0,.int .i64 0,.string ⟨#[]⟩,.slice none 0 0,.string ⟨#[]⟩,.slice none 0 0,.slice none 0 0] _ R1.out.range Tryz.underlying47 rfl hi2.out ?_)|(refine wpList_store_mid rfl 47 (.tmp 14) (.tmp 13) rfl g o #[.int .i64 0,.int .i64 0,.int .i64 0,.string ⟨#[]⟩,.slice none 0 0,.int .i64 0,.int .i64 0,.string ⟨#[]⟩,.slice none 0 0,.int .i64 0,.string ⟨#[]⟩,.slice none 0 0,.string ⟨#[]⟩,.slice none 0 0,.slice none 0 0] rfl rfl (R2.out.there o 15 (by have:=HO.out;have:=HL.out;simp;omega)) hi3.out h1.out ?_))
 go_ret
 exact ⟨rfl,Row.setCells [.int .i64 0,.int .i64 0,.int .i64 0,.string ⟨#[]⟩,.slice none 0 0,.int .i64 0,.int .i64 0,.string ⟨#[]⟩,.slice none 0 0,.int .i64 0,.string ⟨#[]⟩,.slice none 0 0,.string ⟨#[]⟩,.slice none 0 0,.slice none 0 0] cs A R w2 o R2.out HO.out HL.out,stay_setCells _ _ _ _ HS.out (fun _=>rfl)⟩
theorem takeCall_any {K:Ctx} {w:World} (he:Env K w) {x:Va} {cs A R:List Value} {g t o:Nat} (hr:Row w g t (A ++ (cs ++ R))) (ho:A.length=o) (hx:VaAt K w cs x) (B:Bool) (hB:B=true↔MayCal x) :
  Calls Tryz.prog 115 #[.pointer (some ⟨g,o,none⟩),.func (.func 116) #[] #[]] w fun ev w'=>ev=.returned (.bool B)/\Row w' g t (A ++ (vaCells 0 ++ R))/\Stay (fun k=>k=g) w w':=by
 have hlen:=hx.len
 have hA:=alloc_one w (.cells #[.int .i64 0,.int .i64 0,.int .i64 0,.string ⟨#[]⟩,.slice none 0 0,.int .i64 0,.int .i64 0,.string ⟨#[]⟩,.slice none 0 0,.int .i64 0,.string ⟨#[]⟩,.slice none 0 0,.string ⟨#[]⟩,.slice none 0 0,.slice none 0 0] 47)
 have hK:=below_le hA he.C
 have D:Hid (Calls Tryz.prog 116 #[.agg cs.toArray] (w.alloc (.cells #[.int .i64 0,.int .i64 0,.int .i64 0,.string ⟨#[]⟩,.slice none 0 0,.int .i64 0,.int .i64 0,.string ⟨#[]⟩,.slice none 0 0,.int .i64 0,.string ⟨#[]⟩,.slice none 0 0,.string ⟨#[]⟩,.slice none 0 0,.slice none 0 0] 47)) fun ev w'=>ev=.returned (.bool B)/\Below (w.heap.size+1) (w.alloc (.cells #[.int .i64 0,.int .i64 0,.int .i64 0,.string ⟨#[]⟩,.slice none 0 0,.int .i64 0,.int .i64 0,.string ⟨#[]⟩,.slice none 0 0,.int .i64 0,.string ⟨#[]⟩,.slice none 0 0,.string ⟨#[]⟩,.slice none 0 0,.slice none 0 0] 47)) w'):=by
  refine (mayCall_any (he.below hK) (hx.below hK) B hB).mono ?_
  rw [size_alloc]
  exact fun _ _ h=>h
 have HR:Hid (Row w g t (A ++ (cs ++ R))):=hr
 have hlt:=hr.lt
 have HZ:Hid (∀ w2,Below (w.heap.size+1) (w.alloc (.cells #[.int .i64 0,.int .i64 0,.int .i64 0,.string ⟨#[]⟩,.slice none 0 0,.int .i64 0,.int .i64 0,.string ⟨#[]⟩,.slice none 0 0,.int .i64 0,.string ⟨#[]⟩,.slice none 0 0,.string ⟨#[]⟩,.slice none 0 0,.slice none 0 0] 47)) w2->Row w2 w.heap.size 47 [.int .i64 0,.int .i64 0,.int .i64 0,.string ⟨#[]⟩,.slice none 0 0,.int .i64 0,.int .i64 0,.string ⟨#[]⟩,.slice none 0 0,.int .i64 0,.string ⟨#[]⟩,.slice none 0 0,.string ⟨#[]⟩,.slice none 0 0,.slice none 0 0]/\Row w2 g t (A ++ (cs ++ R))/\Stay (fun k=>k=g) w w2):=by
  intro w2 hb
  refine ⟨(Row.new w 47 [.int .i64 0,.int .i64 0,.int .i64 0,.string ⟨#[]⟩,.slice none 0 0,.int .i64 0,.int .i64 0,.string ⟨#[]⟩,.slice none 0 0,.int .i64 0,.string ⟨#[]⟩,.slice none 0 0,.string ⟨#[]⟩,.slice none 0 0,.slice none 0 0]).below hb (by omega),(hr.alloc _).below hb (by omega),?_⟩
  exact (Stay.of_below hA).step (Stay.of_below (by rw [size_alloc];exact hb)) (X:=fun k=>k=g) (Y:=fun k=>k=g) fun _ _ h=>h
 have hrg:Hid ((w.alloc (.cells #[.int .i64 0,.int .i64 0,.int .i64 0,.string ⟨#[]⟩,.slice none 0 0,.int .i64 0,.int .i64 0,.string ⟨#[]⟩,.slice none 0 0,.int .i64 0,.string ⟨#[]⟩,.slice none 0 0,.string ⟨#[]⟩,.slice none 0 0,.slice none 0 0] 47)).rangeAt g o cs):=range_alloc (hr.mid ho) _
 have hi:Hid ((Tryz.prog.info? 47).map (·.size)=some cs.length):=by show _=_;rw [hlen];kernel_rfl
 have hi2:Hid ((Tryz.prog.info? 47).map (·.size)=some ([.int .i64 0,.int .i64 0,.int .i64 0,.string ⟨#[]⟩,.slice none 0 0,.int .i64 0,.int .i64 0,.string ⟨#[]⟩,.slice none 0 0,.int .i64 0,.string ⟨#[]⟩,.slice none 0 0,.string ⟨#[]⟩,.slice none 0 0,.slice none 0 0]:List Value).length):=by show _=_;kernel_rfl
 have hi3:Hid ((Tryz.prog.info? 47).map (·.size)=some (#[.int .i64 0,.int .i64 0,.int .i64 0,.string ⟨#[]⟩,.slice none 0 0,.int .i64 0,.int .i64 0,.string ⟨#[]⟩,.slice none 0 0,.int .i64 0,.string ⟨#[]⟩,.slice none 0 0,.string ⟨#[]⟩,.slice none 0 0,.slice none 0 0]:Array Value).size):=by show _=_;kernel_rfl
 have h1:Hid ((#[.int .i64 0,.int .i64 0,.int .i64 0,.string ⟨#[]⟩,.slice none 0 0,.int .i64 0,.int .i64 0,.string ⟨#[]⟩,.slice none 0 0,.int .i64 0,.string ⟨#[]⟩,.slice none 0 0,.string ⟨#[]⟩,.slice none 0 0,.slice none 0 0]:Array Value).all (·.oneCell')=true):=by show _=_;kernel_rfl
 have HO:Hid (A.length=o):=ho
 have HL:Hid (cs.length=15):=hlen
 clear hr hx hB he hA hK hlen ho hlt
 go_enter Tryz.func115,Tryz.ntmps115
 go_wp2_with (first|(refine wpList_load_mid rfl 47 (.tmp 9) rfl g o rfl cs _ hrg.out Tryz.underlying47 rfl hi.out ?_)|(go_at_call 116;refine D.out.mono ?_;rintro ev w2 ⟨rfl,hb2⟩;obtain ⟨r1,r2,hs⟩:=HZ.out w2 hb2;clear hb2 HZ hrg D HR;have R2:Hid (Row w2 g t (A ++ (cs ++ R))):=r2;have R1:Hid (Row w2 w.heap.size 47 [.int .i64 0,.int .i64 0,.int .i64 0,.string ⟨#[]⟩,.slice none 0 0,.int .i64 0,.int .i64 0,.string ⟨#[]⟩,.slice none 0 0,.int .i64 0,.string ⟨#[]⟩,.slice none 0 0,.string ⟨#[]⟩,.slice none 0 0,.slice none 0 0]):=r1;have HS:Hid (Stay (fun k=>k=g) w w2):=hs;clear r1 r2 hs)|(refine wpList_load_mid rfl 47 (.tmp 5) rfl w.heap.size 0 rfl [.int .i64 0,.int .i64 0,.int .i64 0,.string ⟨#[]⟩,.slice none 0 0,.int .i64 0,.int .i64 0,.string ⟨#[]⟩,.slice none 0 0,.int .i64 0,.string ⟨#[]⟩,.slice none 0 0,.string ⟨#[]⟩,.slice none 0 0,.slice none 0 0] _ R1.out.range Tryz.underlying47 rfl hi2.out ?_)|(refine wpList_store_mid rfl 47 (.tmp 14) (.tmp 13) rfl g o #[.int .i64 0,.int .i64 0,.int .i64 0,.string ⟨#[]⟩,.slice none 0 0,.int .i64 0,.int .i64 0,.string ⟨#[]⟩,.slice none 0 0,.int .i64 0,.string ⟨#[]⟩,.slice none 0 0,.string ⟨#[]⟩,.slice none 0 0,.slice none 0 0] rfl rfl (R2.out.there o 15 (by have:=HO.out;have:=HL.out;simp;omega)) hi3.out h1.out ?_))
 go_ret
 exact ⟨rfl,Row.setCells [.int .i64 0,.int .i64 0,.int .i64 0,.string ⟨#[]⟩,.slice none 0 0,.int .i64 0,.int .i64 0,.string ⟨#[]⟩,.slice none 0 0,.int .i64 0,.string ⟨#[]⟩,.slice none 0 0,.string ⟨#[]⟩,.slice none 0 0,.slice none 0 0] cs A R w2 o R2.out HO.out HL.out,stay_setCells _ _ _ _ HS.out (fun _=>rfl)⟩

theorem below_set {K:Ctx} {w:World} {g:Nat} (hg:K.C<=g) (j:Nat) (v:Value) (hC:K.C<=w.heap.size):Below K.C w (w.setCell ⟨g,j,none⟩ v) :=
 ((Stay.refl (fun k=>k=g) w).set (fun _=>rfl) j v).below hC (fun k hk=>by omega)
theorem have_rows {w:World} {g t:Nat} {h:Bool} {A M cs R:List Value} (hr:Row w g t (A ++ ([.bool h] ++ (M ++ (cs ++ R))))) (hA:A.length=8) (v:Bool) :
  Row (w.setCell ⟨g,8,none⟩ (.bool v)) g t (A ++ ([.bool v] ++ (M ++ (cs ++ R)))):=by
 have:=Row.setCells [.bool v] [.bool h] A (M ++ (cs ++ R)) w 8 hr hA rfl
 exact this
set_option maxHeartbeats 4000000 in
theorem haveValue_any {K:Ctx} {w:World} (he:Env K w) {x:Va} {h:Bool} {A M cs R:List Value} {g t:Nat} (hr:Row w g t (A ++ ([.bool h] ++ (M ++ (cs ++ R))))) (hA:A.length=8) (hM:M.length=2) (hg:K.C<=g)
  (hx:VaAt K w cs x) (B:Bool) (hB:B=true↔(h=true->MayVa x)) :
  Calls Tryz.prog 111 #[.pointer (some ⟨g,0,none⟩),.pointer (some ⟨g,11,none⟩),.func (.func 112) #[] #[]] w fun ev w'=>ev=.returned (.bool B)/\Row w' g t (A ++ ([.bool false] ++ (M ++ ((if h then vaCells 0 else cs) ++ R))))/\Stay (fun k=>k=g) w w':=by
 have c8:w.cell? ⟨g,8,none⟩=some (.bool h):=by
  rw [hr.cell 8]
  exact sub_of A [.bool h] (M ++ (cs ++ R)) hA 0 (by simp)
 have z8:=hr.fz 8
 have hr2:=have_rows hr hA false
 have hS:=(Stay.refl (fun k=>k=g) w).set (fun _=>rfl) 8 (.bool false)
 have hb:=below_set hg 8 (.bool false) he.C
 cases h
 ·obtain rfl:=bool_true hB (fun h=>by cases h)
  have HR:=hid0 hr2
  have HS:=hid0 hS
  clear hr hr2 hS hb hB he hx
  go_enter Tryz.func111,Tryz.ntmps111
  go_wp2_with fail
  go_ret
  exact ⟨rfl,HR.out,HS.out⟩
 ·have hr3:Row (w.setCell ⟨g,8,none⟩ (.bool false)) g t ((A ++ ([.bool false] ++ M)) ++ (cs ++ R)):=by
   have:=hr2
   simp only [List.append_assoc] at this ⊢
   exact this
  have D:Hid (Calls Tryz.prog 115 #[.pointer (some ⟨g,11,none⟩),.func (.func 112) #[] #[]] (w.setCell ⟨g,8,none⟩ (.bool false)) fun ev w'=>ev=.returned (.bool B)/\Row w' g t (A ++ ([.bool false] ++ (M ++ (vaCells 0 ++ R))))/\Stay (fun k=>k=g) w w'):=by
   refine (takeValue_any (he.below hb) hr3 (by simp [hA,hM]) (hx.below hb) B (by rw [hB];exact ⟨fun h=>h rfl,fun h _=>h⟩)).mono ?_
   rintro _ _ ⟨rfl,hr4,hs4⟩
   refine ⟨rfl,?_,hS.trans hs4⟩
   simp only [List.append_assoc] at hr4
   exact hr4
  clear hr hr2 hr3 hS hb hB he hx
  go_enter Tryz.func111,Tryz.ntmps111
  go_wp2_with (go_at_call 115;refine D.out.mono ?_;rintro ev w2 ⟨rfl,h2,h3⟩)
  go_ret
  exact ⟨rfl,h2,h3⟩
end Go.Proofs.YtjenmmkamhplkaaGreat
