/- Part of the proof. -/
import Derived.Test.YtjenmmkamhplkaaGreatJqspMfd2
import Derived.Test.YtjenmmkamhplkaaGreatJqspGds3
namespace Go.Proofs.YtjenmmkamhplkaaGreat
open Go.RowKit
def MayOpr (x:Opr):Prop:=(x.kind=1/\0<=x.n/\x.n<=2147483647/\x.place=Pl.zero)∨(x.kind=2/\(x.n=0∨x.n=1)/\x.place=Pl.zero)∨(x.kind=3/\x.n=0/\MayPl x.place)
theorem opr_int {x:Opr} (h:x.kind=1):MayOpr x↔0<=x.n/\x.n<=2147483647/\x.place=Pl.zero:=by
 constructor
 ·rintro (⟨_,h'⟩|⟨h',_⟩|⟨h',_⟩)
  ·exact h'
  ·omega
  ·omega
 ·exact fun h'=>.inl ⟨h,h'⟩
theorem opr_bool {x:Opr} (h:x.kind=2):MayOpr x↔(x.n=0∨x.n=1)/\x.place=Pl.zero:=by
 constructor
 ·rintro (⟨h',_⟩|⟨_,h'⟩|⟨h',_⟩)
  ·omega
  ·exact h'
  ·omega
 ·exact fun h'=>.inr (.inl ⟨h,h'⟩)
theorem opr_place {x:Opr} (h:x.kind=3):MayOpr x↔x.n=0/\MayPl x.place:=by
 constructor
 ·rintro (⟨h',_⟩|⟨h',_⟩|⟨_,h'⟩)
  ·omega
  ·omega
  ·exact h'
 ·exact fun h'=>.inr (.inr ⟨h,h'⟩)
theorem opr_none {x:Opr} (h:¬ (x.kind=1∨x.kind=2∨x.kind=3)):¬ MayOpr x:=by
 rintro (⟨h',_⟩|⟨h',_⟩|⟨h',_⟩) <;> omega
theorem mayOp_any (k:Int) (w:World) (B:Bool) (hB:B=true↔1<=k/\k<=4):Calls Tryz.prog 128 #[.int .i64 k] w fun ev w'=>ev=.returned (.bool B)/\w'=w:=by
 by_cases h1:1<=k
 ·by_cases h2:k<=4
  ·obtain rfl:=bool_true hB ⟨h1,h2⟩
   have b1:decide ((1:Int)<=k)=true:=by simpa using h1
   have b2:decide (k<=(4:Int))=true:=by simpa using h2
   clear hB
   go_enter Tryz.func128,Tryz.ntmps128
   go_wp2_with fail
   go_ret
   exact ⟨rfl,rfl⟩
  ·obtain rfl:=bool_false hB (fun h=>h2 h.2)
   have b1:decide ((1:Int)<=k)=true:=by simpa using h1
   have b2:decide (k<=(4:Int))=false:=by simpa using h2
   clear hB
   go_enter Tryz.func128,Tryz.ntmps128
   go_wp2_with fail
   go_ret
   exact ⟨rfl,rfl⟩
 ·obtain rfl:=bool_false hB (fun h=>h1 h.1)
  have b1:decide ((1:Int)<=k)=false:=by simpa using h1
  clear hB
  go_enter Tryz.func128,Tryz.ntmps128
  go_wp2_with fail
  go_ret
  exact ⟨rfl,rfl⟩
set_option maxHeartbeats 4000000 in
theorem mayOper_any {K:Ctx} {w:World} (he:Env K w) {x:Opr} {cs:List Value} (hx:OprAt K w cs x) (B:Bool) (hB:B=true↔MayOpr x) :
  Calls Tryz.prog 119 #[.agg cs.toArray] w fun ev w'=>ev=.returned (.bool B)/\Below w.heap.size w w':=by
 obtain ⟨ps,rfl,hp⟩:=hx
 have hpl:=hp
 obtain ⟨v1,rfl,hl,hs⟩:=hp
 obtain ⟨ao,cap,rfl⟩:=hs.form
 have hA0:=alloc_one w (.cells #[.int .i64 x.kind,.int .i64 x.n,.string (str x.place.name),.slice ao x.place.path.length cap] 44)
 have hA1:=alloc_two w (.cells #[.int .i64 x.kind,.int .i64 x.n,.string (str x.place.name),.slice ao x.place.path.length cap] 44) (.cells #[.string ⟨#[]⟩,.slice none 0 0] 42)
 have hK0:=below_le hA0 he.C
 have hK1:=below_le hA1 he.C
 have HA0:=hid0 hA0
 have S:Hid (∀ B,(B=true↔x.place=Pl.zero)->Calls Tryz.prog 99 #[.pointer (some ⟨w.heap.size,2,none⟩),.pointer (some ⟨w.heap.size+1,0,none⟩)] ((w.alloc (.cells #[.int .i64 x.kind,.int .i64 x.n,.string (str x.place.name),.slice ao x.place.path.length cap] 44)).alloc (.cells #[.string ⟨#[]⟩,.slice none 0 0] 42)) fun ev w'=>ev=.returned (.bool B)/\Below w.heap.size w w'):=by
  intro B hB
  have r0:=(Row.new w 44 [.int .i64 x.kind,.int .i64 x.n,.string (str x.place.name),.slice ao x.place.path.length cap]).alloc (.cells #[.string ⟨#[]⟩,.slice none 0 0] 42)
  have r1:=Row.new (w.alloc (.cells #[.int .i64 x.kind,.int .i64 x.n,.string (str x.place.name),.slice ao x.place.path.length cap] 44)) 42 plCells
  rw [size_alloc] at r1
  refine (samePlace_any (part_at (r0.cells 4) [.int .i64 x.kind,.int .i64 x.n] [.string (str x.place.name),.slice ao x.place.path.length cap] [] (k:=2) (n:=2) rfl rfl (by decide) rfl) (r1.cells 2) (hpl.below hK1) (pl_zero K _) B hB).mono ?_
  rintro _ _ ⟨rfl,m,rfl⟩
  exact ⟨rfl,hA1.trans (Below.drewN _ _ _)⟩
 have T0:Hid (∀ B,(B=true↔MayPl x.place)->Calls Tryz.prog 114 #[.agg #[.string (str x.place.name),.slice ao x.place.path.length cap]] (w.alloc (.cells #[.int .i64 x.kind,.int .i64 x.n,.string (str x.place.name),.slice ao x.place.path.length cap] 44)) fun ev w'=>ev=.returned (.bool B)/\Below w.heap.size w w'):=by
  intro B hB
  refine (mayPlace_any (he.below hK0) (hpl.below hK0) B hB).mono ?_
  rintro _ _ ⟨rfl,hb⟩
  exact ⟨rfl,hA0.trans (below_le hb hA0.size)⟩
 clear hA0 hA1 hK0 hK1 hpl hs he
 by_cases k1:x.kind=1
 ·have b1:(x.kind == 1)=true:=by rw [k1];rfl
  have HB:Hid (B=true↔0<=x.n/\x.n<=2147483647/\x.place=Pl.zero):=by show _↔_;rw [hB,opr_int k1]
  clear hB T0 k1
  by_cases n1:0<=x.n
  ·have d1:decide ((0:Int)<=x.n)=true:=by simpa using n1
   by_cases n2:x.n<=2147483647
   ·have d2:decide (x.n<=(2147483647:Int))=true:=by simpa using n2
    have D:=S.out B (by rw [HB.out];exact ⟨fun h=>h.2.2,fun h=>⟨n1,n2,h⟩⟩)
    clear HB S HA0
    generalize x.kind=kd,x.n=nn,str x.place.name=SS,x.place.path.length=len at *
    go_enter Tryz.func119,Tryz.ntmps119
    go_wp2_with (go_at_call 99;refine D.mono ?_;rintro ev w2 ⟨rfl,hb2⟩)
    go_ret
    exact ⟨rfl,hb2⟩
   ·have d2:decide (x.n<=(2147483647:Int))=false:=by simpa using n2
    obtain rfl:=bool_false HB.out (fun h=>n2 h.2.1)
    clear HB S
    generalize x.kind=kd,x.n=nn,str x.place.name=SS,x.place.path.length=len at *
    go_enter Tryz.func119,Tryz.ntmps119
    go_wp2_with (fail)
    go_ret
    exact ⟨rfl,HA0.out⟩
  ·have d1:decide ((0:Int)<=x.n)=false:=by simpa using n1
   obtain rfl:=bool_false HB.out (fun h=>n1 h.1)
   clear HB S
   generalize x.kind=kd,x.n=nn,str x.place.name=SS,x.place.path.length=len at *
   go_enter Tryz.func119,Tryz.ntmps119
   go_wp2_with (fail)
   go_ret
   exact ⟨rfl,HA0.out⟩
 have b1:(x.kind == 1)=false:=by simpa using k1
 by_cases k2:x.kind=2
 ·have b2:(x.kind == 2)=true:=by rw [k2];rfl
  have HB:Hid (B=true↔(x.n=0∨x.n=1)/\x.place=Pl.zero):=by show _↔_;rw [hB,opr_bool k2]
  clear hB T0 k1 k2
  by_cases n1:x.n=0
  ·have d1:(x.n == 0)=true:=by rw [n1];rfl
   have D:=S.out B (by rw [HB.out];exact ⟨fun h=>h.2,fun h=>⟨.inl n1,h⟩⟩)
   clear n1
   clear HB S HA0
   generalize x.kind=kd,x.n=nn,str x.place.name=SS,x.place.path.length=len at *
   go_enter Tryz.func119,Tryz.ntmps119
   go_wp2_with (go_at_call 99;refine D.mono ?_;rintro ev w2 ⟨rfl,hb2⟩)
   go_ret
   exact ⟨rfl,hb2⟩
  ·have d1:(x.n == 0)=false:=by simpa using n1
   by_cases n2:x.n=1
   ·have d2:(x.n == 1)=true:=by rw [n2];rfl
    have D:=S.out B (by rw [HB.out];exact ⟨fun h=>h.2,fun h=>⟨.inr n2,h⟩⟩)
    clear n1 n2
    clear HB S HA0
    generalize x.kind=kd,x.n=nn,str x.place.name=SS,x.place.path.length=len at *
    go_enter Tryz.func119,Tryz.ntmps119
    go_wp2_with (go_at_call 99;refine D.mono ?_;rintro ev w2 ⟨rfl,hb2⟩)
    go_ret
    exact ⟨rfl,hb2⟩
   ·have d2:(x.n == 1)=false:=by simpa using n2
    obtain rfl:=bool_false HB.out (fun h=>h.1.elim n1 n2)
    clear n1 n2
    clear HB S
    generalize x.kind=kd,x.n=nn,str x.place.name=SS,x.place.path.length=len at *
    go_enter Tryz.func119,Tryz.ntmps119
    go_wp2_with (fail)
    go_ret
    exact ⟨rfl,HA0.out⟩
 have b2:(x.kind == 2)=false:=by simpa using k2
 by_cases k3:x.kind=3
 ·have b3:(x.kind == 3)=true:=by rw [k3];rfl
  have HB:Hid (B=true↔x.n=0/\MayPl x.place):=by show _↔_;rw [hB,opr_place k3]
  clear hB S k1 k2 k3
  by_cases n1:x.n=0
  ·have d1:(x.n == 0)=true:=by rw [n1];rfl
   have D:=T0.out B (by rw [HB.out];exact ⟨fun h=>h.2,fun h=>⟨n1,h⟩⟩)
   clear n1
   clear HB T0 HA0
   generalize x.kind=kd,x.n=nn,str x.place.name=SS,x.place.path.length=len at *
   go_enter Tryz.func119,Tryz.ntmps119
   go_wp2_with (go_at_call 114;refine D.mono ?_;rintro ev w2 ⟨rfl,hb2⟩)
   go_ret
   exact ⟨rfl,hb2⟩
  ·have d1:(x.n == 0)=false:=by simpa using n1
   obtain rfl:=bool_false HB.out (fun h=>n1 h.1)
   clear n1
   clear HB T0
   generalize x.kind=kd,x.n=nn,str x.place.name=SS,x.place.path.length=len at *
   go_enter Tryz.func119,Tryz.ntmps119
   go_wp2_with (fail)
   go_ret
   exact ⟨rfl,HA0.out⟩
 have b3:(x.kind == 3)=false:=by simpa using k3
 obtain rfl:=bool_false hB (opr_none (by omega))
 clear hB S T0 k1 k2 k3
 generalize x.kind=kd,x.n=nn,str x.place.name=SS,x.place.path.length=len at *
 go_enter Tryz.func119,Tryz.ntmps119
 go_wp2_with (fail)
 go_ret
 exact ⟨rfl,HA0.out⟩

set_option maxHeartbeats 4000000
theorem Row.setCells {g t:Nat}:∀ (vs cs A R:List Value) (w:World) (o:Nat),Row w g t (A ++ (cs ++ R))->A.length=o->cs.length=vs.length->Row (w.setCells g o vs) g t (A ++ (vs ++ R))
 | [],cs,A,R,w,o,h,_,hl=>by
  obtain rfl:cs=[]:=List.length_eq_zero_iff.1 hl
  exact h
 | v :: vs,cs,A,R,w,o,h,ho,hl=>by
  cases cs with
  | nil=>cases hl
  | cons c cs =>
   have h1:=h.set o v
   have e:(A ++ (c :: cs ++ R)).set o v=(A ++ [v]) ++ (cs ++ R):=by
    subst ho
    rw [List.set_append_right _ _ (Nat.le_refl _)]
    simp
   rw [e] at h1
   have h2:=Row.setCells vs cs (A ++ [v]) R _ (o+1) h1 (by simp [ho]) (by simpa using hl)
   rw [World.setCells]
   simpa using h2
theorem stay_setCells {X:Nat->Prop} {g:Nat}:∀ (vs:List Value) (a w:World) (o:Nat),Stay X a w->(g<a.heap.size->X g)->Stay X a (w.setCells g o vs)
 | [],_,_,_,h,_=>h
 | v :: vs,a,w,o,h,hg=>by
  rw [World.setCells]
  exact stay_setCells vs a _ (o+1) (h.set hg o v) hg
theorem Row.there {w:World} {g t:Nat} {L:List Value} (h:Row w g t L) (o n:Nat) (hn:o+n<=L.length):w.there g o n:=by
 intro j hj
 refine ⟨?_,h.fz (o+j)⟩
 rw [h.cell (o+j),List.getElem?_eq_getElem (by omega)];rfl
theorem Row.mid {w:World} {g t:Nat} {A cs R:List Value} (h:Row w g t (A ++ (cs ++ R))) {o:Nat} (ho:A.length=o):w.rangeAt g o cs:=by
 intro j u hj
 have hl:j<cs.length:=(List.getElem?_eq_some_iff.1 hj).1
 rw [h.cell (o+j),sub_of A cs R ho j hl];exact hj
theorem range_alloc {w:World} {b o:Nat} {cs:List Value} (h:w.rangeAt b o cs) (ob:Obj):(w.alloc ob).rangeAt b o cs:=World.rangeAt_alloc h ob
theorem takeOper_any {K:Ctx} {w:World} (he:Env K w) {x:Opr} {cs A R:List Value} {g t o:Nat} (hr:Row w g t (A ++ (cs ++ R))) (ho:A.length=o) (hx:OprAt K w cs x) (B:Bool) (hB:B=true↔MayOpr x) :
  Calls Tryz.prog 118 #[.pointer (some ⟨g,o,none⟩),.func (.func 119) #[] #[]] w fun ev w'=>ev=.returned (.bool B)/\Row w' g t (A ++ (oprCells ++ R))/\Stay (fun k=>k=g) w w':=by
 have hlen:=hx.len
 have hA:=alloc_one w (.cells #[.int .i64 0,.int .i64 0,.string ⟨#[]⟩,.slice none 0 0] 44)
 have hK:=below_le hA he.C
 have D:Hid (Calls Tryz.prog 119 #[.agg cs.toArray] (w.alloc (.cells #[.int .i64 0,.int .i64 0,.string ⟨#[]⟩,.slice none 0 0] 44)) fun ev w'=>ev=.returned (.bool B)/\Below (w.heap.size+1) (w.alloc (.cells #[.int .i64 0,.int .i64 0,.string ⟨#[]⟩,.slice none 0 0] 44)) w'):=by
  refine (mayOper_any (he.below hK) (hx.below hK) B hB).mono ?_
  rw [size_alloc]
  exact fun _ _ h=>h
 have HR:Hid (Row w g t (A ++ (cs ++ R))):=hr
 have hlt:=hr.lt
 have HZ:Hid (∀ w2,Below (w.heap.size+1) (w.alloc (.cells #[.int .i64 0,.int .i64 0,.string ⟨#[]⟩,.slice none 0 0] 44)) w2->Row w2 w.heap.size 44 [.int .i64 0,.int .i64 0,.string ⟨#[]⟩,.slice none 0 0]/\Row w2 g t (A ++ (cs ++ R))/\Stay (fun k=>k=g) w w2):=by
  intro w2 hb
  refine ⟨(Row.new w 44 [.int .i64 0,.int .i64 0,.string ⟨#[]⟩,.slice none 0 0]).below hb (by omega),(hr.alloc _).below hb (by omega),?_⟩
  exact (Stay.of_below hA).step (Stay.of_below (by rw [size_alloc];exact hb)) (X:=fun k=>k=g) (Y:=fun k=>k=g) fun _ _ h=>h
 have hrg:Hid ((w.alloc (.cells #[.int .i64 0,.int .i64 0,.string ⟨#[]⟩,.slice none 0 0] 44)).rangeAt g o cs):=range_alloc (hr.mid ho) _
 have hi:Hid ((Tryz.prog.info? 44).map (·.size)=some cs.length):=by show _=_;rw [hlen];kernel_rfl
 have hi2:Hid ((Tryz.prog.info? 44).map (·.size)=some ([.int .i64 0,.int .i64 0,.string ⟨#[]⟩,.slice none 0 0]:List Value).length):=by show _=_;kernel_rfl
 have hi3:Hid ((Tryz.prog.info? 44).map (·.size)=some (#[.int .i64 0,.int .i64 0,.string ⟨#[]⟩,.slice none 0 0]:Array Value).size):=by show _=_;kernel_rfl
 have h1:Hid ((#[.int .i64 0,.int .i64 0,.string ⟨#[]⟩,.slice none 0 0]:Array Value).all (·.oneCell')=true):=by show _=_;kernel_rfl
 have HO:Hid (A.length=o):=ho
 have HL:Hid (cs.length=4):=hlen
 clear hr hx hB he hA hK hlen ho hlt
 go_enter Tryz.func118,Tryz.ntmps118
 go_wp2_with (first|(refine wpList_load_mid rfl 44 (.tmp 9) rfl g o rfl cs _ hrg.out Tryz.underlying44 rfl hi.out ?_)|(go_at_call 119;refine D.out.mono ?_;rintro ev w2 ⟨rfl,hb2⟩;obtain ⟨r1,r2,hs⟩:=HZ.out w2 hb2;clear hb2 HZ hrg D HR;have R2:Hid (Row w2 g t (A ++ (cs ++ R))):=r2;have R1:Hid (Row w2 w.heap.size 44 [.int .i64 0,.int .i64 0,.string ⟨#[]⟩,.slice none 0 0]):=r1;have HS:Hid (Stay (fun k=>k=g) w w2):=hs;clear r1 r2 hs)|(refine wpList_load_mid rfl 44 (.tmp 5) rfl w.heap.size 0 rfl [.int .i64 0,.int .i64 0,.string ⟨#[]⟩,.slice none 0 0] _ R1.out.range Tryz.underlying44 rfl hi2.out ?_)|(refine wpList_store_mid rfl 44 (.tmp 14) (.tmp 13) rfl g o #[.int .i64 0,.int .i64 0,.string ⟨#[]⟩,.slice none 0 0] rfl rfl (R2.out.there o 4 (by have:=HO.out;have:=HL.out;simp;omega)) hi3.out h1.out ?_))
 go_ret
 exact ⟨rfl,Row.setCells [.int .i64 0,.int .i64 0,.string ⟨#[]⟩,.slice none 0 0] cs A R w2 o R2.out HO.out HL.out,stay_setCells _ _ _ _ HS.out (fun _=>rfl)⟩
theorem takePlace_any {K:Ctx} {w:World} (he:Env K w) {x:Pl} {cs A R:List Value} {g t o:Nat} (hr:Row w g t (A ++ (cs ++ R))) (ho:A.length=o) (hx:PlAt K w cs x) (B:Bool) (hB:B=true↔MayPl x) :
  Calls Tryz.prog 113 #[.pointer (some ⟨g,o,none⟩),.func (.func 114) #[] #[]] w fun ev w'=>ev=.returned (.bool B)/\Row w' g t (A ++ (plCells ++ R))/\Stay (fun k=>k=g) w w':=by
 have hlen:=hx.len
 have hA:=alloc_one w (.cells #[.string ⟨#[]⟩,.slice none 0 0] 42)
 have hK:=below_le hA he.C
 have D:Hid (Calls Tryz.prog 114 #[.agg cs.toArray] (w.alloc (.cells #[.string ⟨#[]⟩,.slice none 0 0] 42)) fun ev w'=>ev=.returned (.bool B)/\Below (w.heap.size+1) (w.alloc (.cells #[.string ⟨#[]⟩,.slice none 0 0] 42)) w'):=by
  refine (mayPlace_any (he.below hK) (hx.below hK) B hB).mono ?_
  rw [size_alloc]
  exact fun _ _ h=>h
 have HR:Hid (Row w g t (A ++ (cs ++ R))):=hr
 have hlt:=hr.lt
 have HZ:Hid (∀ w2,Below (w.heap.size+1) (w.alloc (.cells #[.string ⟨#[]⟩,.slice none 0 0] 42)) w2->Row w2 w.heap.size 42 [.string ⟨#[]⟩,.slice none 0 0]/\Row w2 g t (A ++ (cs ++ R))/\Stay (fun k=>k=g) w w2):=by
  intro w2 hb
  refine ⟨(Row.new w 42 [.string ⟨#[]⟩,.slice none 0 0]).below hb (by omega),(hr.alloc _).below hb (by omega),?_⟩
  exact (Stay.of_below hA).step (Stay.of_below (by rw [size_alloc];exact hb)) (X:=fun k=>k=g) (Y:=fun k=>k=g) fun _ _ h=>h
 have hrg:Hid ((w.alloc (.cells #[.string ⟨#[]⟩,.slice none 0 0] 42)).rangeAt g o cs):=range_alloc (hr.mid ho) _
 have hi:Hid ((Tryz.prog.info? 42).map (·.size)=some cs.length):=by show _=_;rw [hlen];kernel_rfl
 have hi2:Hid ((Tryz.prog.info? 42).map (·.size)=some ([.string ⟨#[]⟩,.slice none 0 0]:List Value).length):=by show _=_;kernel_rfl
 have hi3:Hid ((Tryz.prog.info? 42).map (·.size)=some (#[.string ⟨#[]⟩,.slice none 0 0]:Array Value).size):=by show _=_;kernel_rfl
 have h1:Hid ((#[.string ⟨#[]⟩,.slice none 0 0]:Array Value).all (·.oneCell')=true):=by show _=_;kernel_rfl
 have HO:Hid (A.length=o):=ho
 have HL:Hid (cs.length=2):=hlen
 clear hr hx hB he hA hK hlen ho hlt
 go_enter Tryz.func113,Tryz.ntmps113
 go_wp2_with (first|(refine wpList_load_mid rfl 42 (.tmp 9) rfl g o rfl cs _ hrg.out Tryz.underlying42 rfl hi.out ?_)|(go_at_call 114;refine D.out.mono ?_;rintro ev w2 ⟨rfl,hb2⟩;obtain ⟨r1,r2,hs⟩:=HZ.out w2 hb2;clear hb2 HZ hrg D HR;have R2:Hid (Row w2 g t (A ++ (cs ++ R))):=r2;have R1:Hid (Row w2 w.heap.size 42 [.string ⟨#[]⟩,.slice none 0 0]):=r1;have HS:Hid (Stay (fun k=>k=g) w w2):=hs;clear r1 r2 hs)|(refine wpList_load_mid rfl 42 (.tmp 5) rfl w.heap.size 0 rfl [.string ⟨#[]⟩,.slice none 0 0] _ R1.out.range Tryz.underlying42 rfl hi2.out ?_)|(refine wpList_store_mid rfl 42 (.tmp 14) (.tmp 13) rfl g o #[.string ⟨#[]⟩,.slice none 0 0] rfl rfl (R2.out.there o 2 (by have:=HO.out;have:=HL.out;simp;omega)) hi3.out h1.out ?_))
 go_ret
 exact ⟨rfl,Row.setCells [.string ⟨#[]⟩,.slice none 0 0] cs A R w2 o R2.out HO.out HL.out,stay_setCells _ _ _ _ HS.out (fun _=>rfl)⟩
theorem takeType_any {K:Ctx} {w:World} (he:Env K w) {x:Ty} {cs A R:List Value} {g t o:Nat} (hr:Row w g t (A ++ (cs ++ R))) (ho:A.length=o) (hx:IsTy K w cs x) (B:Bool) (hB:B=true↔MayTy 64 x) :
  Calls Tryz.prog 110 #[.pointer (some ⟨g,o,none⟩),.func (.func 85) #[] #[]] w fun ev w'=>ev=.returned (.bool B)/\Row w' g t (A ++ (tyCells 0 ++ R))/\Stay (fun k=>k=g) w w':=by
 have hlen:=hx.len
 have hA:=alloc_one w (.cells #[.int .i64 0,.string ⟨#[]⟩,.slice none 0 0,.slice none 0 0] 31)
 have hK:=below_le hA he.C
 have D:Hid (Calls Tryz.prog 85 #[.agg cs.toArray] (w.alloc (.cells #[.int .i64 0,.string ⟨#[]⟩,.slice none 0 0,.slice none 0 0] 31)) fun ev w'=>ev=.returned (.bool B)/\Below (w.heap.size+1) (w.alloc (.cells #[.int .i64 0,.string ⟨#[]⟩,.slice none 0 0,.slice none 0 0] 31)) w'):=by
  refine (mayType_any (he.below hK) (hx.below hK) B hB).mono ?_
  rw [size_alloc]
  exact fun _ _ h=>h
 have HR:Hid (Row w g t (A ++ (cs ++ R))):=hr
 have hlt:=hr.lt
 have HZ:Hid (∀ w2,Below (w.heap.size+1) (w.alloc (.cells #[.int .i64 0,.string ⟨#[]⟩,.slice none 0 0,.slice none 0 0] 31)) w2->Row w2 w.heap.size 31 [.int .i64 0,.string ⟨#[]⟩,.slice none 0 0,.slice none 0 0]/\Row w2 g t (A ++ (cs ++ R))/\Stay (fun k=>k=g) w w2):=by
  intro w2 hb
  refine ⟨(Row.new w 31 [.int .i64 0,.string ⟨#[]⟩,.slice none 0 0,.slice none 0 0]).below hb (by omega),(hr.alloc _).below hb (by omega),?_⟩
  exact (Stay.of_below hA).step (Stay.of_below (by rw [size_alloc];exact hb)) (X:=fun k=>k=g) (Y:=fun k=>k=g) fun _ _ h=>h
 have hrg:Hid ((w.alloc (.cells #[.int .i64 0,.string ⟨#[]⟩,.slice none 0 0,.slice none 0 0] 31)).rangeAt g o cs):=range_alloc (hr.mid ho) _
 have hi:Hid ((Tryz.prog.info? 31).map (·.size)=some cs.length):=by show _=_;rw [hlen];kernel_rfl
 have hi2:Hid ((Tryz.prog.info? 31).map (·.size)=some ([.int .i64 0,.string ⟨#[]⟩,.slice none 0 0,.slice none 0 0]:List Value).length):=by show _=_;kernel_rfl
 have hi3:Hid ((Tryz.prog.info? 31).map (·.size)=some (#[.int .i64 0,.string ⟨#[]⟩,.slice none 0 0,.slice none 0 0]:Array Value).size):=by show _=_;kernel_rfl
 have h1:Hid ((#[.int .i64 0,.string ⟨#[]⟩,.slice none 0 0,.slice none 0 0]:Array Value).all (·.oneCell')=true):=by show _=_;kernel_rfl
 have HO:Hid (A.length=o):=ho
 have HL:Hid (cs.length=4):=hlen
 clear hr hx hB he hA hK hlen ho hlt
 go_enter Tryz.func110,Tryz.ntmps110
 go_wp2_with (first|(refine wpList_load_mid rfl 31 (.tmp 9) rfl g o rfl cs _ hrg.out Tryz.underlying31 rfl hi.out ?_)|(go_at_call 85;refine D.out.mono ?_;rintro ev w2 ⟨rfl,hb2⟩;obtain ⟨r1,r2,hs⟩:=HZ.out w2 hb2;clear hb2 HZ hrg D HR;have R2:Hid (Row w2 g t (A ++ (cs ++ R))):=r2;have R1:Hid (Row w2 w.heap.size 31 [.int .i64 0,.string ⟨#[]⟩,.slice none 0 0,.slice none 0 0]):=r1;have HS:Hid (Stay (fun k=>k=g) w w2):=hs;clear r1 r2 hs)|(refine wpList_load_mid rfl 31 (.tmp 5) rfl w.heap.size 0 rfl [.int .i64 0,.string ⟨#[]⟩,.slice none 0 0,.slice none 0 0] _ R1.out.range Tryz.underlying31 rfl hi2.out ?_)|(refine wpList_store_mid rfl 31 (.tmp 14) (.tmp 13) rfl g o #[.int .i64 0,.string ⟨#[]⟩,.slice none 0 0,.slice none 0 0] rfl rfl (R2.out.there o 4 (by have:=HO.out;have:=HL.out;simp;omega)) hi3.out h1.out ?_))
 go_ret
 exact ⟨rfl,Row.setCells [.int .i64 0,.string ⟨#[]⟩,.slice none 0 0,.slice none 0 0] cs A R w2 o R2.out HO.out HL.out,stay_setCells _ _ _ _ HS.out (fun _=>rfl)⟩
theorem takeName_any {w:World} {s:Bs} {A R:List Value} {g t o:Nat} (hr:Row w g t (A ++ ([.string (str s)] ++ R))) (ho:A.length=o) (hs:s.length<=9223372036854775807) (B:Bool) (hB:B=true↔nameB s=true) :
  Calls Tryz.prog 109 #[.pointer (some ⟨g,o,none⟩),.func (.func 46) #[] #[]] w fun ev w'=>ev=.returned (.bool B)/\Row w' g t (A ++ ([.string (str [])] ++ R))/\Stay (fun k=>k=g) w w':=by
 have D:Hid (Calls Tryz.prog 46 #[.string (str s)] w fun ev w'=>ev=.returned (.bool B)/\∃ m,w'=w.drewN m):=by
  obtain rfl:nameB s=B:=by cases h:nameB s <;> cases B <;> simp_all
  exact (name_any s hs w).mono fun _ _ h=>⟨h.1,0,h.2⟩
 have c0:w.cell? ⟨g,o,none⟩=some (.string (str s)):=by
  rw [hr.cell o,← Nat.add_zero o,sub_of A [.string (str s)] R ho 0 (by simp)];rfl
 have z0:=hr.fz o
 have HR:Hid (∀ m,Row ((w.drewN m).setCell ⟨g,o,none⟩ (.string (str []))) g t (A ++ ([.string (str [])] ++ R))/\Stay (fun k=>k=g) w ((w.drewN m).setCell ⟨g,o,none⟩ (.string (str [])))):=by
  intro m
  have h2:=Row.setCells [.string (str [])] [.string (str s)] A R (w.drewN m) o hr.drewN ho rfl
  exact ⟨h2,((Stay.refl (fun k=>k=g) w).drewN m).set (fun _=>rfl) _ _⟩
 clear hr hB ho
 generalize str s=S at *
 go_enter Tryz.func109,Tryz.ntmps109
 go_wp2_with (go_at_call 46;refine D.out.mono ?_;rintro ev w2 ⟨rfl,m,rfl⟩)
 go_ret
 exact ⟨rfl,HR.out m⟩
theorem takeFar_any {w:World} {s:Bs} {A R:List Value} {g t o:Nat} (hr:Row w g t (A ++ ([.string (str s)] ++ R))) (ho:A.length=o) (hs:s.length<=1048576) (hm:∃ m,w.cell? ⟨0,0,none⟩=some (.int .i64 m)) (B:Bool) (hB:B=true↔farB s=true) :
  Calls Tryz.prog 109 #[.pointer (some ⟨g,o,none⟩),.func (.func 107) #[] #[]] w fun ev w'=>ev=.returned (.bool B)/\Row w' g t (A ++ ([.string (str [])] ++ R))/\Stay (fun k=>k=g) w w':=by
 have D:Hid (Calls Tryz.prog 107 #[.string (str s)] w fun ev w'=>ev=.returned (.bool B)/\∃ m,w'=w.drewN m):=by
  obtain rfl:farB s=B:=by cases h:farB s <;> cases B <;> simp_all
  exact far_any s hs w hm
 have c0:w.cell? ⟨g,o,none⟩=some (.string (str s)):=by
  rw [hr.cell o,← Nat.add_zero o,sub_of A [.string (str s)] R ho 0 (by simp)];rfl
 have z0:=hr.fz o
 have HR:Hid (∀ m,Row ((w.drewN m).setCell ⟨g,o,none⟩ (.string (str []))) g t (A ++ ([.string (str [])] ++ R))/\Stay (fun k=>k=g) w ((w.drewN m).setCell ⟨g,o,none⟩ (.string (str [])))):=by
  intro m
  have h2:=Row.setCells [.string (str [])] [.string (str s)] A R (w.drewN m) o hr.drewN ho rfl
  exact ⟨h2,((Stay.refl (fun k=>k=g) w).drewN m).set (fun _=>rfl) _ _⟩
 clear hr hB ho
 generalize str s=S at *
 go_enter Tryz.func109,Tryz.ntmps109
 go_wp2_with (go_at_call 107;refine D.out.mono ?_;rintro ev w2 ⟨rfl,m,rfl⟩)
 go_ret
 exact ⟨rfl,HR.out m⟩
theorem takeOp_any {w:World} {k:Int} {A R:List Value} {g t o:Nat} (hr:Row w g t (A ++ ([.int .i64 k] ++ R))) (ho:A.length=o)  (B:Bool) (hB:B=true↔1<=k/\k<=4) :
  Calls Tryz.prog 127 #[.pointer (some ⟨g,o,none⟩),.func (.func 128) #[] #[]] w fun ev w'=>ev=.returned (.bool B)/\Row w' g t (A ++ ([.int .i64 0] ++ R))/\Stay (fun k=>k=g) w w':=by
 have D:Hid (Calls Tryz.prog 128 #[.int .i64 k] w fun ev w'=>ev=.returned (.bool B)/\∃ m,w'=w.drewN m):=by
  exact (mayOp_any k w B hB).mono fun _ _ h=>⟨h.1,0,h.2⟩
 have c0:w.cell? ⟨g,o,none⟩=some (.int .i64 k):=by
  rw [hr.cell o,← Nat.add_zero o,sub_of A [.int .i64 k] R ho 0 (by simp)];rfl
 have z0:=hr.fz o
 have HR:Hid (∀ m,Row ((w.drewN m).setCell ⟨g,o,none⟩ (.int .i64 0)) g t (A ++ ([.int .i64 0] ++ R))/\Stay (fun k=>k=g) w ((w.drewN m).setCell ⟨g,o,none⟩ (.int .i64 0))):=by
  intro m
  have h2:=Row.setCells [.int .i64 0] [.int .i64 k] A R (w.drewN m) o hr.drewN ho rfl
  exact ⟨h2,((Stay.refl (fun k=>k=g) w).drewN m).set (fun _=>rfl) _ _⟩
 clear hr hB ho
 skip
 go_enter Tryz.func127,Tryz.ntmps127
 go_wp2_with (go_at_call 128;refine D.out.mono ?_;rintro ev w2 ⟨rfl,m,rfl⟩)
 go_ret
 exact ⟨rfl,HR.out m⟩
end Go.Proofs.YtjenmmkamhplkaaGreat
