/- Part of the proof. -/
import Derived.Test.YtjenmmkamhplkaaGreatJqspMty3
import Derived.Test.YtjenmmkamhplkaaGreatJqspAlo2
import Derived.ProofKit
import Derived.OpenShut
import Derived.ChangeSlices
import Derived.SizedLaws
namespace Go.Proofs.YtjenmmkamhplkaaGreat
open Go.RowKit
set_option maxHeartbeats 4000000
theorem IsTy.open {K:Ctx} {w:World} {cs:List Value} {t:Ty} (h:IsTy K w cs t) :
  ∃ ao2 n2 c2 ao3 n3 c3,cs=[.int .i64 t.kind,.string (str t.name),.slice ao2 n2 c2,.slice ao3 n3 c3]:=by
 obtain ⟨n,h⟩:=h
 cases n with
 | zero=>exact h.elim
 | succ n =>
  obtain ⟨v2,v3,rfl,_,h2,h3⟩:=h
  obtain ⟨ao2,cap2,rfl,_⟩:=h2.shape
  obtain ⟨ao3,cap3,rfl,_⟩:=h3.shape
  exact ⟨_,_,_,_,_,_,rfl⟩
theorem Ar.form {α:Type} {z bz:Nat} {P:List Value->α->Prop} {K:Ctx} {w:World} {v:Value} {l:List α} (h:Ar z bz P K w v l):∃ ao cap,v=.slice ao l.length cap:=by
 obtain ⟨ao,cap,e,_⟩:=h.shape;exact ⟨ao,cap,e⟩
theorem Strs.form {K:Ctx} {w:World} {v:Value} {l:List Bs} (h:Strs K w v l):∃ ao cap,v=.slice ao l.length cap:=Ar.form h
def MayPar (x:Fld):Prop:=nameB x.name=true/\MayTy 64 x.ty
def MayFld (x:Fld):Prop:=x.mu=false/\MayPar x
theorem mayParam_any {K:Ctx} {w:World} (he:Env K w) {x:Fld} {cs:List Value} (hx:FldAt K w cs x) (B:Bool) (hB:B=true↔MayPar x) :
  Calls Tryz.prog 53 #[.agg cs.toArray] w fun ev w'=>ev=.returned (.bool B)/\Below w.heap.size w w':=by
 obtain ⟨ts,rfl,hl,ht⟩:=hx
 obtain ⟨a2,n2,c2,a3,n3,c3,rfl⟩:=ht.open
 have N:Hid (∀ y,Calls Tryz.prog 46 #[.string (str x.name)] y fun ev w'=>ev=.returned (.bool (nameB x.name))/\w'=y):=fun y=>name_any _ (by have:=K.small;omega) y
 have hA:=alloc_one w (.cells #[.bool x.mu,.string (str x.name),.int .i64 x.ty.kind,.string (str x.ty.name),.slice a2 n2 c2,.slice a3 n3 c3] 51)
 have T:Hid (∀ B,(B=true↔MayTy 64 x.ty)->Calls Tryz.prog 85 #[.agg #[.int .i64 x.ty.kind,.string (str x.ty.name),.slice a2 n2 c2,.slice a3 n3 c3]] (w.alloc (.cells #[.bool x.mu,.string (str x.name),.int .i64 x.ty.kind,.string (str x.ty.name),.slice a2 n2 c2,.slice a3 n3 c3] 51)) fun ev w'=>ev=.returned (.bool B)/\Below w.heap.size w w'):=by
  intro B hB
  refine (mayType_any (cs:=[.int .i64 x.ty.kind,.string (str x.ty.name),.slice a2 n2 c2,.slice a3 n3 c3]) (he.below (below_le hA he.C)) (ht.below (below_le hA he.C)) B hB).mono ?_
  rintro _ _ ⟨rfl,hb⟩
  exact ⟨rfl,hA.trans (below_le hb hA.size)⟩
 have HA:=hid0 hA
 clear ht hA
 cases f1:nameB x.name
 ·obtain rfl:=bool_false hB (fun h=>by rw [h.1] at f1;cases f1)
  rw [f1] at N
  clear hB f1 T
  generalize x.ty.kind=k,str x.ty.name=S2,str x.name=S at *
  go_enter Tryz.func53,Tryz.ntmps53
  go_wp2_with (go_at_call 46;refine (N.out _).mono ?_;rintro ev w2 ⟨rfl,rfl⟩)
  go_ret
  exact ⟨rfl,HA.out⟩
 ·have D:=T.out B (by rw [hB];exact ⟨fun h=>h.2,fun h=>⟨f1,h⟩⟩)
  rw [f1] at N
  clear hB f1 T
  generalize x.ty.kind=k,str x.ty.name=S2,str x.name=S at *
  go_enter Tryz.func53,Tryz.ntmps53
  go_wp2_with (first|(go_at_call 46;refine (N.out _).mono ?_;rintro ev w2 ⟨rfl,rfl⟩)|(go_at_call 85;refine D.mono ?_;rintro ev w2 ⟨rfl,hb2⟩))
  go_ret
  exact ⟨rfl,hb2⟩
def MayRes (t:Ty):Prop:=t=Ty.zero∨MayTy 64 t
def MayLfe (x:Lfe):Prop:=lifeB x.name=true/\(decide (x.over.length<=64) && x.over.all lifeB)=true
def MaySct (x:Sct):Prop:=nameB x.name=true/\(decide (x.lives.length<=64) && x.lives.all lifeB)=true/\x.fields.length<=64/\∀ f∈x.fields,MayFld f
def MayPl (x:Pl):Prop:=nameB x.name=true/\(decide (x.path.length<=64) && x.path.all stepB)=true
theorem mayField_any {K:Ctx} {w:World} (he:Env K w) {x:Fld} {cs:List Value} (hx:FldAt K w cs x) (B:Bool) (hB:B=true↔MayFld x) :
  Calls Tryz.prog 50 #[.agg cs.toArray] w fun ev w'=>ev=.returned (.bool B)/\Below w.heap.size w w':=by
 have hA:=alloc_one w (.cells cs.toArray 51)
 have hKA:=below_le hA he.C
 have T0:=fun B hB=>mayParam_any (he.below hKA) (hx.below hKA) B hB
 obtain ⟨ts,rfl,hl,ht⟩:=hx
 obtain ⟨a2,n2,c2,a3,n3,c3,rfl⟩:=ht.open
 have HA:=hid0 hA
 cases f1:x.mu
 ·have D:Hid (Calls Tryz.prog 53 #[.agg #[.bool false,.string (str x.name),.int .i64 x.ty.kind,.string (str x.ty.name),.slice a2 n2 c2,.slice a3 n3 c3]] (w.alloc (.cells #[.bool false,.string (str x.name),.int .i64 x.ty.kind,.string (str x.ty.name),.slice a2 n2 c2,.slice a3 n3 c3] 51)) fun ev w'=>ev=.returned (.bool B)/\Below w.heap.size w w'):=by
   rw [f1] at T0 hA
   refine (T0 B (by rw [hB];exact ⟨fun h=>h.2,fun h=>⟨f1,h⟩⟩)).mono ?_
   rintro _ _ ⟨rfl,hb⟩
   exact ⟨rfl,hA.trans (below_le hb hA.size)⟩
  clear T0 hA hKA ht hB he f1 HA
  generalize x.ty.kind=k,str x.ty.name=S2,str x.name=S at *
  go_enter Tryz.func50,Tryz.ntmps50
  go_wp2_with (go_at_call 53;refine D.out.mono ?_;rintro ev w2 ⟨rfl,hb2⟩)
  go_ret
  exact ⟨rfl,hb2⟩
 ·obtain rfl:=bool_false hB (fun h=>by rw [h.1] at f1;cases f1)
  rw [f1] at HA
  clear T0 hA hKA ht hB he f1
  generalize x.ty.kind=k,str x.ty.name=S2,str x.name=S at *
  go_enter Tryz.func50,Tryz.ntmps50
  go_wp2_with fail
  go_ret
  exact ⟨rfl,HA.out⟩
theorem res_zero {t:Ty} (h:t.kind=0):MayRes t↔t=Ty.zero:=by
 constructor
 ·rintro (h'|h')
  ·exact h'
  ·exact absurd h' (mayTy_none (n:=63) (by omega))
 ·exact .inl
theorem res_not {t:Ty} (h:t.kind≠0):MayRes t↔MayTy 64 t:=by
 constructor
 ·rintro (rfl|h')
  ·exact absurd rfl h
  ·exact h'
 ·exact .inr
theorem mayResult_any {K:Ctx} {w:World} (he:Env K w) {x:Ty} {cs:List Value} (hx:IsTy K w cs x) (B:Bool) (hB:B=true↔MayRes x) :
  Calls Tryz.prog 54 #[.agg cs.toArray] w fun ev w'=>ev=.returned (.bool B)/\Below w.heap.size w w':=by
 have hA:=alloc_one w (.cells cs.toArray 31)
 have hKA:=below_le hA he.C
 have T0:=fun B hB=>mayType_any (he.below hKA) (hx.below hKA) B hB
 have T1:=fun B hB=>sameTypes2_any (he.below hKA).C (cs':=tyCells 0) (hx.below hKA) (kind_at K _ 0) B hB
 obtain ⟨a2,n2,c2,a3,n3,c3,rfl⟩:=hx.open
 by_cases f1:x.kind=0
 ·have b1:(x.kind == 0)=true:=by rw [f1];rfl
  have D:Hid (Calls Tryz.prog 15 #[.agg #[.int .i64 x.kind,.string (str x.name),.slice a2 n2 c2,.slice a3 n3 c3],.agg #[.int .i64 0,.string ⟨#[]⟩,.slice none 0 0,.slice none 0 0]] (w.alloc (.cells #[.int .i64 x.kind,.string (str x.name),.slice a2 n2 c2,.slice a3 n3 c3] 31)) fun ev w'=>ev=.returned (.bool B)/\Below w.heap.size w w'):=by
   refine (T1 B (by rw [hB,res_zero f1];rfl)).mono ?_
   rintro _ _ ⟨rfl,hb⟩
   exact ⟨rfl,hA.trans (below_le hb hA.size)⟩
  clear T0 T1 hA hKA hx hB he f1
  generalize x.kind=k,str x.name=S at *
  go_enter Tryz.func54,Tryz.ntmps54
  go_wp2_with (go_at_call 15;refine D.out.mono ?_;rintro ev w2 ⟨rfl,hb2⟩)
  go_ret
  exact ⟨rfl,hb2⟩
 ·have b1:(x.kind == 0)=false:=by simpa using f1
  have D:Hid (Calls Tryz.prog 85 #[.agg #[.int .i64 x.kind,.string (str x.name),.slice a2 n2 c2,.slice a3 n3 c3]] (w.alloc (.cells #[.int .i64 x.kind,.string (str x.name),.slice a2 n2 c2,.slice a3 n3 c3] 31)) fun ev w'=>ev=.returned (.bool B)/\Below w.heap.size w w'):=by
   refine (T0 B (by rw [hB,res_not f1])).mono ?_
   rintro _ _ ⟨rfl,hb⟩
   exact ⟨rfl,hA.trans (below_le hb hA.size)⟩
  clear T0 T1 hA hKA hx hB he f1
  generalize x.kind=k,str x.name=S at *
  go_enter Tryz.func54,Tryz.ntmps54
  go_wp2_with (go_at_call 85;refine D.out.mono ?_;rintro ev w2 ⟨rfl,hb2⟩)
  go_ret
  exact ⟨rfl,hb2⟩
theorem mayLife_any {K:Ctx} {w:World} (he:Env K w) {x:Lfe} {cs:List Value} (hx:LfeAt K w cs x) (B:Bool) (hB:B=true↔MayLfe x) :
  Calls Tryz.prog 52 #[.agg cs.toArray] w fun ev w'=>ev=.returned (.bool B)/\Below w.heap.size w w':=by
 have hsm:=K.small
 obtain ⟨v1,rfl,hl,hs⟩:=hx
 obtain ⟨ao,cap,rfl⟩:=hs.form
 have hA:=alloc_one w (.cells #[.string (str x.name),.slice ao x.over.length cap] 92)
 have hKA:=below_le hA he.C
 have N0:Hid (Calls Tryz.prog 48 #[.string (str x.name)] (w.alloc (.cells #[.string (str x.name),.slice ao x.over.length cap] 92)) fun ev w'=>ev=.returned (.bool (lifeB x.name))/\w'=(w.alloc (.cells #[.string (str x.name),.slice ao x.over.length cap] 92))):=lifeB_calls_48 _ (by omega) _
 have N1:Hid (Calls Tryz.prog 47 #[.slice ao x.over.length cap,.func (.func 48) #[] #[]] (w.alloc (.cells #[.string (str x.name),.slice ao x.over.length cap] 92)) fun ev w'=>ev=.returned (.bool (decide (x.over.length<=64) && x.over.all lifeB))/\w'=(w.alloc (.cells #[.string (str x.name),.slice ao x.over.length cap] 92))):=partsLives (hs.below hKA)
 have HA:=hid0 hA
 have HB:Hid (B=true↔MayLfe x):=hB
 clear hA hKA hB he hs
 cases f0:(lifeB x.name)
 ·have HF:Hid (B=false):=bool_false HB.out (fun h=>by have h':=h.1;rw [h'] at f0;cases f0)
  rw [f0] at N0
  clear HB f0 N1 
  generalize str x.name=S,x.over.length=len at *
  go_enter Tryz.func52,Tryz.ntmps52
  go_wp2_with (first|(go_at_call 48;refine N0.out.mono ?_;rintro ev w2 ⟨rfl,rfl⟩))
  go_ret
  exact ⟨by rw [HF.out];rfl,HA.out⟩
 rw [f0] at N0
 cases f1:(decide (x.over.length<=64) && x.over.all lifeB)
 ·have HF:Hid (B=false):=bool_false HB.out (fun h=>by have h':=h.2;rw [h'] at f1;cases f1)
  rw [f1] at N1
  clear HB f0 f1  
  generalize str x.name=S,x.over.length=len at *
  go_enter Tryz.func52,Tryz.ntmps52
  go_wp2_with (first|(go_at_call 48;refine N0.out.mono ?_;rintro ev w2 ⟨rfl,rfl⟩)|(go_at_call 47;refine N1.out.mono ?_;rintro ev w2 ⟨rfl,rfl⟩))
  go_ret
  exact ⟨by rw [HF.out];rfl,HA.out⟩
 rw [f1] at N1
 have HF:Hid (B=true):=HB.out.2 ⟨f0,f1⟩
 clear HB f0 f1
 generalize str x.name=S,x.over.length=len at *
 go_enter Tryz.func52,Tryz.ntmps52
 go_wp2_with (first|(go_at_call 48;refine N0.out.mono ?_;rintro ev w2 ⟨rfl,rfl⟩)|(go_at_call 47;refine N1.out.mono ?_;rintro ev w2 ⟨rfl,rfl⟩))
 go_ret
 exact ⟨by rw [HF.out];rfl,HA.out⟩
theorem mayPlace_any {K:Ctx} {w:World} (he:Env K w) {x:Pl} {cs:List Value} (hx:PlAt K w cs x) (B:Bool) (hB:B=true↔MayPl x) :
  Calls Tryz.prog 114 #[.agg cs.toArray] w fun ev w'=>ev=.returned (.bool B)/\Below w.heap.size w w':=by
 have hsm:=K.small
 obtain ⟨v1,rfl,hl,hs⟩:=hx
 obtain ⟨ao,cap,rfl⟩:=hs.form
 have hA:=alloc_one w (.cells #[.string (str x.name),.slice ao x.path.length cap] 42)
 have hKA:=below_le hA he.C
 have N0:Hid (Calls Tryz.prog 46 #[.string (str x.name)] (w.alloc (.cells #[.string (str x.name),.slice ao x.path.length cap] 42)) fun ev w'=>ev=.returned (.bool (nameB x.name))/\w'=(w.alloc (.cells #[.string (str x.name),.slice ao x.path.length cap] 42))):=name_any _ (by omega) _
 have N1:Hid (Calls Tryz.prog 47 #[.slice ao x.path.length cap,.func (.func 130) #[] #[]] (w.alloc (.cells #[.string (str x.name),.slice ao x.path.length cap] 42)) fun ev w'=>ev=.returned (.bool (decide (x.path.length<=64) && x.path.all stepB))/\w'=(w.alloc (.cells #[.string (str x.name),.slice ao x.path.length cap] 42))):=partsSteps (hs.below hKA)
 have HA:=hid0 hA
 have HB:Hid (B=true↔MayPl x):=hB
 clear hA hKA hB he hs
 cases f0:(nameB x.name)
 ·have HF:Hid (B=false):=bool_false HB.out (fun h=>by have h':=h.1;rw [h'] at f0;cases f0)
  rw [f0] at N0
  clear HB f0 N1 
  generalize str x.name=S,x.path.length=len at *
  go_enter Tryz.func114,Tryz.ntmps114
  go_wp2_with (first|(go_at_call 46;refine N0.out.mono ?_;rintro ev w2 ⟨rfl,rfl⟩))
  go_ret
  exact ⟨by rw [HF.out];rfl,HA.out⟩
 rw [f0] at N0
 cases f1:(decide (x.path.length<=64) && x.path.all stepB)
 ·have HF:Hid (B=false):=bool_false HB.out (fun h=>by have h':=h.2;rw [h'] at f1;cases f1)
  rw [f1] at N1
  clear HB f0 f1  
  generalize str x.name=S,x.path.length=len at *
  go_enter Tryz.func114,Tryz.ntmps114
  go_wp2_with (first|(go_at_call 46;refine N0.out.mono ?_;rintro ev w2 ⟨rfl,rfl⟩)|(go_at_call 47;refine N1.out.mono ?_;rintro ev w2 ⟨rfl,rfl⟩))
  go_ret
  exact ⟨by rw [HF.out];rfl,HA.out⟩
 rw [f1] at N1
 have HF:Hid (B=true):=HB.out.2 ⟨f0,f1⟩
 clear HB f0 f1
 generalize str x.name=S,x.path.length=len at *
 go_enter Tryz.func114,Tryz.ntmps114
 go_wp2_with (first|(go_at_call 46;refine N0.out.mono ?_;rintro ev w2 ⟨rfl,rfl⟩)|(go_at_call 47;refine N1.out.mono ?_;rintro ev w2 ⟨rfl,rfl⟩))
 go_ret
 exact ⟨by rw [HF.out];rfl,HA.out⟩
theorem mayStruct_any {K:Ctx} {w:World} (he:Env K w) {x:Sct} {cs:List Value} (hx:SctAt K w cs x) (B:Bool) (hB:B=true↔MaySct x) :
  Calls Tryz.prog 23 #[.agg cs.toArray] w fun ev w'=>ev=.returned (.bool B)/\Below w.heap.size w w':=by
 have hsm:=K.small
 obtain ⟨v1,v2,rfl,hl,hs,hf⟩:=hx
 obtain ⟨ao,cap,rfl⟩:=hs.form
 obtain ⟨ao2,cap2,rfl⟩:=hf.form
 have hA:=alloc_one w (.cells #[.bool x.pub,.string (str x.name),.slice ao x.lives.length cap,.slice ao2 x.fields.length cap2,.int .i64 x.pos] 54)
 have hKA:=below_le hA he.C
 have N0:Hid (Calls Tryz.prog 46 #[.string (str x.name)] (w.alloc (.cells #[.bool x.pub,.string (str x.name),.slice ao x.lives.length cap,.slice ao2 x.fields.length cap2,.int .i64 x.pos] 54)) fun ev w'=>ev=.returned (.bool (nameB x.name))/\w'=(w.alloc (.cells #[.bool x.pub,.string (str x.name),.slice ao x.lives.length cap,.slice ao2 x.fields.length cap2,.int .i64 x.pos] 54))):=name_any _ (by omega) _
 have N1:Hid (Calls Tryz.prog 47 #[.slice ao x.lives.length cap,.func (.func 48) #[] #[]] (w.alloc (.cells #[.bool x.pub,.string (str x.name),.slice ao x.lives.length cap,.slice ao2 x.fields.length cap2,.int .i64 x.pos] 54)) fun ev w'=>ev=.returned (.bool (decide (x.lives.length<=64) && x.lives.all lifeB))/\w'=(w.alloc (.cells #[.bool x.pub,.string (str x.name),.slice ao x.lives.length cap,.slice ao2 x.fields.length cap2,.int .i64 x.pos] 54))):=partsLives (hs.below hKA)
 have T0:Hid (∀ B,(B=true↔x.fields.length<=64/\∀ f∈x.fields,MayFld f)->Calls Tryz.prog 49 #[.slice ao2 x.fields.length cap2,.func (.func 50) #[] #[]] (w.alloc (.cells #[.bool x.pub,.string (str x.name),.slice ao x.lives.length cap,.slice ao2 x.fields.length cap2,.int .i64 x.pos] 54)) fun ev w'=>ev=.returned (.bool B)/\Below w.heap.size w w'):=by
  intro B hB
  refine (partsFields (he.below hKA) (fun _ _ _ he hx B hB=>mayField_any he hx B hB) (hf.mono hKA fun _ _ _ h=>h.below hKA) B hB).mono ?_
  rintro _ _ ⟨rfl,hb⟩
  exact ⟨rfl,hA.trans (below_le hb hA.size)⟩
 have HA:=hid0 hA
 have HB:Hid (B=true↔MaySct x):=hB
 clear hA hKA hB he hs hf
 cases f0:(nameB x.name)
 ·have HF:Hid (B=false):=bool_false HB.out (fun h=>by have h':=h.1;rw [h'] at f0;cases f0)
  rw [f0] at N0
  clear HB f0 N1 T0
  generalize str x.name=S,x.lives.length=len,x.fields.length=len2,x.pos=ps,x.pub=pb at *
  go_enter Tryz.func23,Tryz.ntmps23
  go_wp2_with (first|(go_at_call 46;refine N0.out.mono ?_;rintro ev w2 ⟨rfl,rfl⟩))
  go_ret
  exact ⟨by rw [HF.out];rfl,HA.out⟩
 rw [f0] at N0
 cases f1:(decide (x.lives.length<=64) && x.lives.all lifeB)
 ·have HF:Hid (B=false):=bool_false HB.out (fun h=>by have h':=h.2.1;rw [h'] at f1;cases f1)
  rw [f1] at N1
  clear HB f0 f1  T0
  generalize str x.name=S,x.lives.length=len,x.fields.length=len2,x.pos=ps,x.pub=pb at *
  go_enter Tryz.func23,Tryz.ntmps23
  go_wp2_with (first|(go_at_call 46;refine N0.out.mono ?_;rintro ev w2 ⟨rfl,rfl⟩)|(go_at_call 47;refine N1.out.mono ?_;rintro ev w2 ⟨rfl,rfl⟩))
  go_ret
  exact ⟨by rw [HF.out];rfl,HA.out⟩
 rw [f1] at N1
 have D:=T0.out B (by rw [HB.out];exact ⟨fun h=>h.2.2,fun h=>⟨f0,f1,h⟩⟩)
 clear HB T0 f0 f1
 generalize str x.name=S,x.lives.length=len,x.fields.length=len2,x.pos=ps,x.pub=pb at *
 go_enter Tryz.func23,Tryz.ntmps23
 go_wp2_with (first|(go_at_call 46;refine N0.out.mono ?_;rintro ev w2 ⟨rfl,rfl⟩)|(go_at_call 47;refine N1.out.mono ?_;rintro ev w2 ⟨rfl,rfl⟩)|(go_at_call 49;refine D.mono ?_;rintro ev w2 ⟨rfl,hb2⟩))
 go_ret
 exact ⟨rfl,hb2⟩
end Go.Proofs.YtjenmmkamhplkaaGreat

namespace Go.Proofs.YtjenmmkamhplkaaGreat
open Go.ChangeShapes Go.WideShapes Go.ChangeAt Go.RowKit
structure Gd {H:Type} (Good:TypeId->DataW H->Prop) (B:Nat):Prop where
 text:∀ {s:List UInt8},Good 9 (.lit (.string s))->s.length<=B
 row:∀ {t e:TypeId} {els sp:List (DataW H)},Good t (.slice els sp)->Tryz.prog.underlying t=some (.slice e)->els.length * Tryz.prog.bytesOf e<=140737488355328/\∀ d∈els,Good e d
 part:∀ {t:TypeId} {fs:Array Field} {ps:List (DataW H)},Good t (.agg ps)->Tryz.prog.underlying t=some (.struct fs)->∀ (i:Nat) (f:Field) (d:DataW H),fs[i]?=some f->ps[i]?=some d->Good f.type d
section
variable {H:Type} {enc:TypeId × Value->H} {W:World} {Good:TypeId->DataW H->Prop} {K:Ctx}
abbrev Td (enc:TypeId × Value->H) (W:World) (fuel:Nat) (t:TypeId) (cs:List Value) (x:DataW H × List MemPlace):Prop:=DataW.trod enc Tryz.prog W 0 (fun _=>true) true fuel t cs=some x
theorem text_of (G:Gd Good K.B) {fuel:Nat} {cs:List Value} {x:DataW H × List MemPlace} (h:Td enc W fuel 9 cs x) (g:Good 9 x.1):∃ s:Bs,cs=[.string (str s)]/\s.length<=K.B:=by
 obtain ⟨s,rfl,rfl,_⟩:=DataW.trod_string Tryz.underlying9 h
 exact ⟨s.data.toList,by rw [str_of],G.text g⟩
theorem row_of (G:Gd Good K.B) (hK:W.heap.size<=K.C) {t e z bz:Nat} (hu:Tryz.prog.underlying t=some (.slice e)) (hc:Tryz.prog.cellsOf e=z) (hb:Tryz.prog.bytesOf e=bz) (hz:0<z) {α:Type} (dft:α) {P:List Value->α->Prop} {fuel:Nat}
  (each:∀ n,fuel=n+1->∀ {cs:List Value} {x:DataW H × List MemPlace},Td enc W n e cs x->Good e x.1->∃ a,P cs a) {cs:List Value} {x:DataW H × List MemPlace} (h:Td enc W fuel t cs x) (g:Good t x.1):∃ v l,cs=[v]/\Ar z bz P K W v l:=by
 rcases DataW.trod_slice hu h with ⟨hcs,_⟩|⟨a,len,cap,elems,rest,m,hm,hcs,hx,_,hlc,hcm,hel,hcell,_⟩
 ·exact ⟨_,[],hcs,nil_ar⟩
 ·subst hx
  obtain ⟨hw,hg⟩:=G.row g hu
  rw [List.length_map,hb,hel] at hw
  rw [hc] at hcell
  have key:∀ i,i<len->∃ q:List Value × α,q.1.length=z/\(∀ j,j<z->W.cell? ((a.add (i * z)).add j)=q.1[j]?)/\P q.1 q.2:=by
   intro i hi
   have hc':=hcell i hi
   rw [List.getElem?_eq_getElem (by omega)] at hc'
   obtain ⟨cs',h1,h2⟩:=Option.bind_eq_some_iff.1 hc'
   obtain ⟨y,hy⟩:=each m hm h2 (hg _ (List.mem_map.2 ⟨_,List.getElem_mem (by omega),rfl⟩))
   obtain ⟨_,hl,he⟩:=World.cells?_some h1
   exact ⟨(cs',y),hl,he,hy⟩
  obtain ⟨q,hq⟩:∃ q:Nat->List Value × α,∀ i,i<len->(q i).1.length=z/\(∀ j,j<z->W.cell? ((a.add (i * z)).add j)=(q i).1[j]?)/\P (q i).1 (q i).2:=by
   refine ⟨fun i=>if h:i<len then (key i h).choose else ([],dft),fun i hi=>?_⟩
   simp only [dif_pos hi]
   exact (key i hi).choose_spec
  refine ⟨_,(List.range len).map (fun i=>(q i).2),hcs,⟨some a,cap,by simp,by simpa using hlc,by simpa using hw,fun i hi=>?_⟩⟩
  have hi':i<len:=by simpa using hi
  obtain ⟨q1,q2,q3⟩:=hq i hi'
  obtain ⟨b,off,spot⟩:=a
  obtain ⟨y1,y2,_⟩:=hq 0 (by omega)
  have h0:=y2 0 hz
  rw [List.getElem?_eq_getElem (by omega)] at h0
  have hspot:spot=none:=by
   have:=World.cell?_spot h0
   simpa [Addr.add] using this
  subst hspot
  have hblk:b<W.heap.size:=by
   have:=World.block_lt_of_cell? W _ h0
   rw [addr_add,addr_add] at this
   exact this
  refine ⟨b,off,rfl,Nat.lt_of_lt_of_le hblk hK,(q i).1,q1,fun j hj=>?_,by simpa using q3⟩
  have:=q2 j hj
  rw [addr_add,addr_add] at this
  exact this
theorem strs_of (G:Gd Good K.B) (hK:W.heap.size<=K.C) {fuel:Nat} {cs:List Value} {x:DataW H × List MemPlace} (h:Td enc W fuel 28 cs x) (g:Good 28 x.1):∃ v l,cs=[v]/\Strs K W v l :=
 row_of (e:=9) (z:=1) (bz:=16) (α:=Bs) G hK Tryz.underlying28 (by kernel_rfl) (by kernel_rfl) (by decide) [] (fun n _ _ _ h g=>by
  obtain ⟨s,h1,h2⟩:=text_of G h g
  exact ⟨s,h1,h2⟩) h g
theorem int_of {fuel:Nat} {cs:List Value} {x:DataW H × List MemPlace} (h:Td enc W fuel 3 cs x):∃ n:Int,cs=[.int .i64 n]:=by
 obtain ⟨n,h,_⟩:=DataW.trod_int Tryz.underlying3 h
 exact ⟨n,h⟩
theorem bool_of {fuel:Nat} {cs:List Value} {x:DataW H × List MemPlace} (h:Td enc W fuel 4 cs x):∃ b:Bool,cs=[.bool b]:=by
 obtain ⟨b,h,_⟩:=DataW.trod_bool Tryz.underlying4 h
 exact ⟨b,h⟩
theorem parts_of (G:Gd Good K.B) {t:TypeId} {fs:Array Field} (hu:Tryz.prog.underlying t=some (.struct fs)) {fuel:Nat} {cs:List Value} {x:DataW H × List MemPlace} (h:Td enc W fuel t cs x) (g:Good t x.1) :
  ∃ n,fuel=n+1/\cs.length=Tryz.prog.cellsOf t/\∀ (i:Nat) (f:Field),fs[i]?=some f->∃ y,Td enc W n f.type ((cs.drop f.offset).take (Tryz.prog.cellsOf f.type)) y/\Good f.type y.1:=by
 obtain ⟨xs,n,hn,hx,hl,hlen,hf⟩:=DataW.trod_struct hu h
 refine ⟨n,hn,hl,fun i f hif=>?_⟩
 have hi:i<xs.length:=by
  rw [hlen]
  rcases Nat.lt_or_ge i fs.size with h|h
  ·exact h
  ·rw [Array.getElem?_eq_none h] at hif;cases hif
 have h1:=hf i f hif
 rw [List.getElem?_eq_getElem hi] at h1
 refine ⟨xs[i],h1,?_⟩
 subst hx
 exact G.part g hu i f _ hif (by simp [List.getElem?_eq_getElem hi])
theorem lst2 {l:List Value} (h:l.length=2):∃ a0 a1:Value,l=[a0,a1]:=by
 match l,h with
 | [a0,a1],_=>exact ⟨_,_,rfl⟩
theorem lst4 {l:List Value} (h:l.length=4):∃ a0 a1 a2 a3:Value,l=[a0,a1,a2,a3]:=by
 match l,h with
 | [a0,a1,a2,a3],_=>exact ⟨_,_,_,_,rfl⟩
theorem lst5 {l:List Value} (h:l.length=5):∃ a0 a1 a2 a3 a4:Value,l=[a0,a1,a2,a3,a4]:=by
 match l,h with
 | [a0,a1,a2,a3,a4],_=>exact ⟨_,_,_,_,_,rfl⟩
theorem lst6 {l:List Value} (h:l.length=6):∃ a0 a1 a2 a3 a4 a5:Value,l=[a0,a1,a2,a3,a4,a5]:=by
 match l,h with
 | [a0,a1,a2,a3,a4,a5],_=>exact ⟨_,_,_,_,_,_,rfl⟩
theorem lst10 {l:List Value} (h:l.length=10):∃ a0 a1 a2 a3 a4 a5 a6 a7 a8 a9:Value,l=[a0,a1,a2,a3,a4,a5,a6,a7,a8,a9]:=by
 match l,h with
 | [a0,a1,a2,a3,a4,a5,a6,a7,a8,a9],_=>exact ⟨_,_,_,_,_,_,_,_,_,_,rfl⟩
theorem lst15 {l:List Value} (h:l.length=15):∃ a0 a1 a2 a3 a4 a5 a6 a7 a8 a9 a10 a11 a12 a13 a14:Value,l=[a0,a1,a2,a3,a4,a5,a6,a7,a8,a9,a10,a11,a12,a13,a14]:=by
 match l,h with
 | [a0,a1,a2,a3,a4,a5,a6,a7,a8,a9,a10,a11,a12,a13,a14],_=>exact ⟨_,_,_,_,_,_,_,_,_,_,_,_,_,_,_,rfl⟩
theorem lst32 {l:List Value} (h:l.length=32):∃ a0 a1 a2 a3 a4 a5 a6 a7 a8 a9 a10 a11 a12 a13 a14 a15 a16 a17 a18 a19 a20 a21 a22 a23 a24 a25 a26 a27 a28 a29 a30 a31:Value,l=[a0,a1,a2,a3,a4,a5,a6,a7,a8,a9,a10,a11,a12,a13,a14,a15,a16,a17,a18,a19,a20,a21,a22,a23,a24,a25,a26,a27,a28,a29,a30,a31]:=by
 match l,h with
 | [a0,a1,a2,a3,a4,a5,a6,a7,a8,a9,a10,a11,a12,a13,a14,a15,a16,a17,a18,a19,a20,a21,a22,a23,a24,a25,a26,a27,a28,a29,a30,a31],_=>exact ⟨_,_,_,_,_,_,_,_,_,_,_,_,_,_,_,_,_,_,_,_,_,_,_,_,_,_,_,_,_,_,_,_,rfl⟩
theorem cut {n o z:Nat} {ty:TypeId} {cs cs':List Value} {y:DataW H × List MemPlace} (h:Td enc W n ty ((cs.drop o).take (Tryz.prog.cellsOf ty)) y) (hc:Tryz.prog.cellsOf ty=z) (e:(cs.drop o).take z=cs'):Td enc W n ty cs' y:=by
 rw [← e,← hc];exact h
theorem Tryz.cl3:Tryz.prog.cellsOf 3=1:=by kernel_rfl
theorem Tryz.cl4:Tryz.prog.cellsOf 4=1:=by kernel_rfl
theorem Tryz.cl9:Tryz.prog.cellsOf 9=1:=by kernel_rfl
theorem Tryz.cl22:Tryz.prog.cellsOf 22=1:=by kernel_rfl
theorem Tryz.cl23:Tryz.prog.cellsOf 23=1:=by kernel_rfl
theorem Tryz.cl28:Tryz.prog.cellsOf 28=1:=by kernel_rfl
theorem Tryz.cl29:Tryz.prog.cellsOf 29=1:=by kernel_rfl
theorem Tryz.cl31:Tryz.prog.cellsOf 31=4:=by kernel_rfl
theorem Tryz.cl36:Tryz.prog.cellsOf 36=1:=by kernel_rfl
theorem Tryz.cl37:Tryz.prog.cellsOf 37=1:=by kernel_rfl
theorem Tryz.cl38:Tryz.prog.cellsOf 38=1:=by kernel_rfl
theorem Tryz.cl42:Tryz.prog.cellsOf 42=2:=by kernel_rfl
theorem Tryz.cl44:Tryz.prog.cellsOf 44=4:=by kernel_rfl
theorem Tryz.cl45:Tryz.prog.cellsOf 45=1:=by kernel_rfl
theorem Tryz.cl47:Tryz.prog.cellsOf 47=15:=by kernel_rfl
theorem ty_of (G:Gd Good K.B) (hK:W.heap.size<=K.C):∀ (fuel:Nat) {cs:List Value} {x:DataW H × List MemPlace},Td enc W fuel 31 cs x->Good 31 x.1->∃ t,TyAt fuel K W cs t:=by
 intro fuel
 induction fuel using Nat.strongRecOn with
 | ind fuel ih =>
 intro cs x h g
 obtain ⟨n,rfl,hl,hf⟩:=parts_of G Tryz.underlying31 h g
 have hl':cs.length=4:=hl.trans (by kernel_rfl)
 obtain ⟨a0,a1,a2,a3,rfl⟩:=lst4 hl'
 obtain ⟨y0,t0,g0⟩:=hf 0 _ rfl
 have s0:Td enc W n 3 [a0] y0:=cut t0 Tryz.cl3 rfl
 obtain ⟨y1,t1,g1⟩:=hf 1 _ rfl
 have s1:Td enc W n 9 [a1] y1:=cut t1 Tryz.cl9 rfl
 obtain ⟨y2,t2,g2⟩:=hf 2 _ rfl
 have s2:Td enc W n 28 [a2] y2:=cut t2 Tryz.cl28 rfl
 obtain ⟨y3,t3,g3⟩:=hf 3 _ rfl
 have s3:Td enc W n 29 [a3] y3:=cut t3 Tryz.cl29 rfl
 obtain ⟨k0,e0⟩:=int_of s0
 injection e0 with e0 _
 subst e0
 obtain ⟨k1,e1,l1⟩:=text_of G s1 g1
 injection e1 with e1 _
 subst e1
 obtain ⟨v2,k2,e2,r2⟩:=strs_of G hK s2 g2
 injection e2 with e2 _
 subst e2
 obtain ⟨v3,k3,e3,r3⟩:=row_of (e:=31) (z:=4) (bz:=72) (α:=Ty) (P:=TyAt (n - 1) K W) G hK Tryz.underlying29 (by kernel_rfl) (by kernel_rfl) (by decide) Ty.zero (fun m hm _ _ h g=>by rw [show n - 1=m by omega];exact ih m (by omega) h g) s3 g3
 injection e3 with e3 _
 subst e3
 exact ⟨⟨k0,k1,k2,k3⟩,_,_,rfl,l1,r2,r3.mono (Below.refl _ _) fun _ _ _ h=>TyAt.upto h (Nat.sub_le n 1)⟩
theorem pl_of (G:Gd Good K.B) (hK:W.heap.size<=K.C) {fuel:Nat} {cs:List Value} {x:DataW H × List MemPlace} (h:Td enc W fuel 42 cs x) (g:Good 42 x.1):∃ p,PlAt K W cs p:=by
 obtain ⟨n,rfl,hl,hf⟩:=parts_of G Tryz.underlying42 h g
 have hl':cs.length=2:=hl.trans (by kernel_rfl)
 obtain ⟨a0,a1,rfl⟩:=lst2 hl'
 obtain ⟨y0,t0,g0⟩:=hf 0 _ rfl
 have s0:Td enc W n 9 [a0] y0:=cut t0 Tryz.cl9 rfl
 obtain ⟨y1,t1,g1⟩:=hf 1 _ rfl
 have s1:Td enc W n 28 [a1] y1:=cut t1 Tryz.cl28 rfl
 obtain ⟨k0,e0,l0⟩:=text_of G s0 g0
 injection e0 with e0 _
 subst e0
 obtain ⟨v1,k1,e1,r1⟩:=strs_of G hK s1 g1
 injection e1 with e1 _
 subst e1
 exact ⟨⟨k0,k1⟩,_,rfl,l0,r1⟩
theorem opr_of (G:Gd Good K.B) (hK:W.heap.size<=K.C) {fuel:Nat} {cs:List Value} {x:DataW H × List MemPlace} (h:Td enc W fuel 44 cs x) (g:Good 44 x.1):∃ p,OprAt K W cs p:=by
 obtain ⟨n,rfl,hl,hf⟩:=parts_of G Tryz.underlying44 h g
 have hl':cs.length=4:=hl.trans (by kernel_rfl)
 obtain ⟨a0,a1,a2,a3,rfl⟩:=lst4 hl'
 obtain ⟨y0,t0,g0⟩:=hf 0 _ rfl
 have s0:Td enc W n 3 [a0] y0:=cut t0 Tryz.cl3 rfl
 obtain ⟨y1,t1,g1⟩:=hf 1 _ rfl
 have s1:Td enc W n 3 [a1] y1:=cut t1 Tryz.cl3 rfl
 obtain ⟨y2,t2,g2⟩:=hf 2 _ rfl
 have s2:Td enc W n 42 [a2,a3] y2:=cut t2 Tryz.cl42 rfl
 obtain ⟨k0,e0⟩:=int_of s0
 injection e0 with e0 _
 subst e0
 obtain ⟨k1,e1⟩:=int_of s1
 injection e1 with e1 _
 subst e1
 obtain ⟨p,r2⟩:=pl_of G hK s2 g2
 exact ⟨⟨k0,k1,p⟩,_,rfl,r2⟩
theorem va_of (G:Gd Good K.B) (hK:W.heap.size<=K.C) {fuel:Nat} {cs:List Value} {x:DataW H × List MemPlace} (h:Td enc W fuel 47 cs x) (g:Good 47 x.1):∃ p,VaAt K W cs p:=by
 obtain ⟨n,rfl,hl,hf⟩:=parts_of G Tryz.underlying47 h g
 have hl':cs.length=15:=hl.trans (by kernel_rfl)
 obtain ⟨a0,a1,a2,a3,a4,a5,a6,a7,a8,a9,a10,a11,a12,a13,a14,rfl⟩:=lst15 hl'
 obtain ⟨y0,t0,g0⟩:=hf 0 _ rfl
 have s0:Td enc W n 3 [a0] y0:=cut t0 Tryz.cl3 rfl
 obtain ⟨y1,t1,g1⟩:=hf 1 _ rfl
 have s1:Td enc W n 44 [a1,a2,a3,a4] y1:=cut t1 Tryz.cl44 rfl
 obtain ⟨y2,t2,g2⟩:=hf 2 _ rfl
 have s2:Td enc W n 44 [a5,a6,a7,a8] y2:=cut t2 Tryz.cl44 rfl
 obtain ⟨y3,t3,g3⟩:=hf 3 _ rfl
 have s3:Td enc W n 3 [a9] y3:=cut t3 Tryz.cl3 rfl
 obtain ⟨y4,t4,g4⟩:=hf 4 _ rfl
 have s4:Td enc W n 42 [a10,a11] y4:=cut t4 Tryz.cl42 rfl
 obtain ⟨y5,t5,g5⟩:=hf 5 _ rfl
 have s5:Td enc W n 9 [a12] y5:=cut t5 Tryz.cl9 rfl
 obtain ⟨y6,t6,g6⟩:=hf 6 _ rfl
 have s6:Td enc W n 28 [a13] y6:=cut t6 Tryz.cl28 rfl
 obtain ⟨y7,t7,g7⟩:=hf 7 _ rfl
 have s7:Td enc W n 45 [a14] y7:=cut t7 Tryz.cl45 rfl
 obtain ⟨k0,e0⟩:=int_of s0
 injection e0 with e0 _
 subst e0
 obtain ⟨p1,r1⟩:=opr_of G hK s1 g1
 obtain ⟨p2,r2⟩:=opr_of G hK s2 g2
 obtain ⟨k3,e3⟩:=int_of s3
 injection e3 with e3 _
 subst e3
 obtain ⟨p4,r4⟩:=pl_of G hK s4 g4
 obtain ⟨k5,e5,l5⟩:=text_of G s5 g5
 injection e5 with e5 _
 subst e5
 obtain ⟨v6,k6,e6,r6⟩:=strs_of G hK s6 g6
 injection e6 with e6 _
 subst e6
 obtain ⟨v7,k7,e7,r7⟩:=row_of (e:=44) (z:=4) (bz:=56) (α:=Opr) (P:=OprAt K W) G hK Tryz.underlying45 (by kernel_rfl) (by kernel_rfl) (by decide) Opr.zero (fun _ _ _ _ h g=>opr_of G hK h g) s7 g7
 injection e7 with e7 _
 subst e7
 exact ⟨⟨k0,p1,p2,k3,p4,k5,k6,k7⟩,_,_,_,_,_,rfl,r1,r2,r4,l5,r6,r7⟩
theorem StAt.more {K:Ctx} {w:World}:∀ {n:Nat} {cs:List Value} {t:St},StAt n K w cs t->StAt (n+1) K w cs t
 | 0,_,_,h=>h.elim
 | n+1,_,_,h=>by
  obtain ⟨ts,ps,vs,os,vt,ve,e,h1,h2,h3,h4,h5,h6,h7⟩:=h
  exact ⟨ts,ps,vs,os,vt,ve,e,h1,h2,h3,h4,h5,h6.mono (Below.refl _ _) fun _ _ _ h=>StAt.more h,h7.mono (Below.refl _ _) fun _ _ _ h=>StAt.more h⟩
theorem StAt.upto {K:Ctx} {w:World} {n m:Nat} {cs:List Value} {t:St} (h:StAt n K w cs t) (hm:n<=m):StAt m K w cs t:=by
 induction hm with
 | refl=>exact h
 | step _ ih=>exact ih.more
theorem FncAt.upto {K:Ctx} {w:World} {n m:Nat} {cs:List Value} {t:Fnc} (h:FncAt n K w cs t) (hm:n<=m):FncAt m K w cs t:=by
 obtain ⟨v2,v3,ts,v8,e,h1,h2,h3,h4,h5⟩:=h
 exact ⟨v2,v3,ts,v8,e,h1,h2,h3,h4,h5.mono (Below.refl _ _) fun _ _ _ h=>h.upto hm⟩
theorem CrtAt.upto {K:Ctx} {w:World} {n m:Nat} {cs:List Value} {t:Crt} (h:CrtAt n K w cs t) (hm:n<=m):CrtAt m K w cs t:=by
 obtain ⟨v0,v1,e,h1,h2⟩:=h
 exact ⟨v0,v1,e,h1,h2.mono (Below.refl _ _) fun _ _ _ h=>h.upto hm⟩
theorem lfe_of (G:Gd Good K.B) (hK:W.heap.size<=K.C) {fuel:Nat} {cs:List Value} {x:DataW H × List MemPlace} (h:Td enc W fuel 92 cs x) (g:Good 92 x.1):∃ p,LfeAt K W cs p:=by
 obtain ⟨n,rfl,hl,hf⟩:=parts_of G Tryz.underlying92 h g
 have hl':cs.length=2:=hl.trans (by kernel_rfl)
 obtain ⟨a0,a1,rfl⟩:=lst2 hl'
 obtain ⟨y0,t0,g0⟩:=hf 0 _ rfl
 have s0:Td enc W n 9 [a0] y0:=cut t0 Tryz.cl9 rfl
 obtain ⟨y1,t1,g1⟩:=hf 1 _ rfl
 have s1:Td enc W n 28 [a1] y1:=cut t1 Tryz.cl28 rfl
 obtain ⟨k0,e0,l0⟩:=text_of G s0 g0
 injection e0 with e0 _
 subst e0
 obtain ⟨v1,k1,e1,r1⟩:=strs_of G hK s1 g1
 injection e1 with e1 _
 subst e1
 exact ⟨⟨k0,k1⟩,_,rfl,l0,r1⟩
theorem fld_of (G:Gd Good K.B) (hK:W.heap.size<=K.C) {fuel:Nat} {cs:List Value} {x:DataW H × List MemPlace} (h:Td enc W fuel 51 cs x) (g:Good 51 x.1):∃ p,FldAt K W cs p:=by
 obtain ⟨n,rfl,hl,hf⟩:=parts_of G Tryz.underlying51 h g
 have hl':cs.length=6:=hl.trans (by kernel_rfl)
 obtain ⟨a0,a1,a2,a3,a4,a5,rfl⟩:=lst6 hl'
 obtain ⟨y0,t0,g0⟩:=hf 0 _ rfl
 have s0:Td enc W n 4 [a0] y0:=cut t0 Tryz.cl4 rfl
 obtain ⟨y1,t1,g1⟩:=hf 1 _ rfl
 have s1:Td enc W n 9 [a1] y1:=cut t1 Tryz.cl9 rfl
 obtain ⟨y2,t2,g2⟩:=hf 2 _ rfl
 have s2:Td enc W n 31 [a2,a3,a4,a5] y2:=cut t2 Tryz.cl31 rfl
 obtain ⟨k0,e0⟩:=bool_of s0
 injection e0 with e0 _
 subst e0
 obtain ⟨k1,e1,l1⟩:=text_of G s1 g1
 injection e1 with e1 _
 subst e1
 obtain ⟨p2,r2⟩:=ty_of G hK _ s2 g2
 exact ⟨⟨k0,k1,p2⟩,_,rfl,l1,_,r2⟩
theorem sct_of (G:Gd Good K.B) (hK:W.heap.size<=K.C) {fuel:Nat} {cs:List Value} {x:DataW H × List MemPlace} (h:Td enc W fuel 54 cs x) (g:Good 54 x.1):∃ p,SctAt K W cs p:=by
 obtain ⟨n,rfl,hl,hf⟩:=parts_of G Tryz.underlying54 h g
 have hl':cs.length=5:=hl.trans (by kernel_rfl)
 obtain ⟨a0,a1,a2,a3,a4,rfl⟩:=lst5 hl'
 obtain ⟨y0,t0,g0⟩:=hf 0 _ rfl
 have s0:Td enc W n 4 [a0] y0:=cut t0 Tryz.cl4 rfl
 obtain ⟨y1,t1,g1⟩:=hf 1 _ rfl
 have s1:Td enc W n 9 [a1] y1:=cut t1 Tryz.cl9 rfl
 obtain ⟨y2,t2,g2⟩:=hf 2 _ rfl
 have s2:Td enc W n 28 [a2] y2:=cut t2 Tryz.cl28 rfl
 obtain ⟨y3,t3,g3⟩:=hf 3 _ rfl
 have s3:Td enc W n 37 [a3] y3:=cut t3 Tryz.cl37 rfl
 obtain ⟨y4,t4,g4⟩:=hf 4 _ rfl
 have s4:Td enc W n 3 [a4] y4:=cut t4 Tryz.cl3 rfl
 obtain ⟨k0,e0⟩:=bool_of s0
 injection e0 with e0 _
 subst e0
 obtain ⟨k1,e1,l1⟩:=text_of G s1 g1
 injection e1 with e1 _
 subst e1
 obtain ⟨v2,k2,e2,r2⟩:=strs_of G hK s2 g2
 injection e2 with e2 _
 subst e2
 obtain ⟨v3,k3,e3,r3⟩:=row_of (e:=51) (z:=6) (bz:=96) (α:=Fld) (P:=FldAt K W) G hK Tryz.underlying37 (by kernel_rfl) (by kernel_rfl) (by decide) ⟨false,[],Ty.zero⟩ (fun _ _ _ _ h g=>fld_of G hK h g) s3 g3
 injection e3 with e3 _
 subst e3
 obtain ⟨k4,e4⟩:=int_of s4
 injection e4 with e4 _
 subst e4
 exact ⟨⟨k0,k1,k2,k3,k4⟩,_,_,rfl,l1,r2,r3⟩
end
end Go.Proofs.YtjenmmkamhplkaaGreat
