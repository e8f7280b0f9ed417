/- Part of the proof. -/
import Derived.Test.YtjenmmkamhplkaaGreatJqspSub5
import Derived.Test.YtjenmmkamhplkaaGreatQqspSmt
namespace Go.Proofs.YtjenmmkamhplkaaGreat
open Go.RowKit
theorem alloc_one (w:World) (a:Obj):Below w.heap.size w (w.alloc a):=(Below.refl _ _).alloc (Nat.le_refl _) _
theorem size_alloc (w:World) (a:Obj):(w.alloc a).heap.size=w.heap.size+1:=by unfold World.alloc;simp only [Array.size_push]
theorem alloc_two (w:World) (a b:Obj):Below w.heap.size w ((w.alloc a).alloc b):=(alloc_one w a).trans (below_le (alloc_one _ b) (by rw [size_alloc];omega))
set_option maxHeartbeats 4000000 in
theorem sameTypes2_any {K:Ctx} {w:World} (hC:K.C<=w.heap.size) {x y:Ty} {cs cs':List Value} (hx:IsTy K w cs x) (hy:IsTy K w cs' y) (B:Bool) (hB:B=true↔x=y) :
  Calls Tryz.prog 15 #[.agg cs.toArray,.agg cs'.toArray] w fun ev w'=>ev=.returned (.bool B)/\Below w.heap.size w w':=by
 have hA:=alloc_two w (.cells cs.toArray 31) (.cells cs'.toArray 31)
 have D:Hid (Calls Tryz.prog 41 #[.pointer (some ⟨w.heap.size,0,none⟩),.pointer (some ⟨w.heap.size+1,0,none⟩)] ((w.alloc (.cells cs.toArray 31)).alloc (.cells cs'.toArray 31)) fun ev w'=>ev=.returned (.bool B)/\Below w.heap.size w w'):=by
  refine (sameType_any (((Row.new w 31 cs).alloc _).cells 4) (by have:=(Row.new (w.alloc (.cells cs.toArray 31)) 31 cs').cells 4;rw [size_alloc] at this;exact this) (hx.below (below_le hA hC)) (hy.below (below_le hA hC)) B hB).mono ?_
  rintro _ _ ⟨rfl,m,rfl⟩
  exact ⟨rfl,hA.trans (Below.drewN _ _ _)⟩
 clear hx hy hA hB
 go_enter Tryz.func15,Tryz.ntmps15
 go_wp2_with (go_at_call 41;refine D.out.mono ?_;rintro ev w2 ⟨rfl,hb2⟩)
 go_ret
 exact ⟨rfl,hb2⟩
def farB (s:Bs):Bool:=nameB (Lib.cut s [58,58]).1 && (!(Lib.cut s [58,58]).2.2 || nameB (Lib.cut s [58,58]).2.1)
theorem cut_len (s:Bs):(Lib.cut s [58,58]).1.length<=s.length/\(Lib.cut s [58,58]).2.1.length<=s.length:=by
 unfold Lib.cut
 split
 ·simp;omega
 ·simp
set_option maxHeartbeats 4000000 in
theorem far_any (s:Bs) (hs:s.length<=1048576) (w:World) (hm:∃ m,w.cell? ⟨0,0,none⟩=some (.int .i64 m)) :
  Calls Tryz.prog 107 #[.string (str s)] w fun ev w'=>ev=.returned (.bool (farB s))/\∃ m,w'=w.drewN m:=by
 obtain ⟨m,hm⟩:=hm
 have e1:(str s).data.toList=s:=by simp [str]
 have e2:(str [58,58]).data.toList=[58,58]:=by simp [str]
 have D:Calls Tryz.prog 126 #[.string (str s),.string ⟨#[58,58]⟩] w fun e w'=>e=.returned (.tuple #[.string (str (Lib.cut s [58,58]).1),.string (str (Lib.cut s [58,58]).2.1),.bool (Lib.cut s [58,58]).2.2])/\∃ n,w'=w.drewN n:=by
  have D:=Tryz.strings_Cut (str s) (str [58,58]) m w (by rw [str_size];omega) hm
  rw [e1,e2] at D
  exact D
 have hc:=cut_len s
 have N1:Hid (∀ y,Calls Tryz.prog 46 #[.string (str (Lib.cut s [58,58]).1)] y fun ev w'=>ev=.returned (.bool (nameB (Lib.cut s [58,58]).1))/\w'=y):=fun y=>name_any _ (by omega) y
 have N2:Hid (∀ y,Calls Tryz.prog 46 #[.string (str (Lib.cut s [58,58]).2.1)] y fun ev w'=>ev=.returned (.bool (nameB (Lib.cut s [58,58]).2.1))/\w'=y):=fun y=>name_any _ (by omega) y
 unfold farB
 clear e1 e2 hc hm
 generalize hA:nameB (Lib.cut s [58,58]).1=A,hA2:nameB (Lib.cut s [58,58]).2.1=A2 at *
 clear hA hA2
 generalize str (Lib.cut s [58,58]).1=S1,str (Lib.cut s [58,58]).2.1=S2,(Lib.cut s [58,58]).2.2=F,str s=S at *
 cases A <;> cases F <;> (go_enter Tryz.func107,Tryz.ntmps107;go_wp2_with (first|(go_at_call 126;refine D.mono ?_;rintro ev w2 ⟨rfl,n,rfl⟩)|(go_at_call_of 46 S1;refine (N1.out _).mono ?_;rintro ev w2 ⟨rfl,rfl⟩)|(go_at_call_of 46 S2;refine (N2.out _).mono ?_;rintro ev w2 ⟨rfl,rfl⟩));go_ret;exact ⟨by simp,_,rfl⟩)

def MayTy:Nat->Ty->Prop
 | 0,_=>False
 | n+1,t=>((t.kind=1∨t.kind=2)/\t.name=[]/\t.lives=[]/\t.elem=[]) ∨
  (t.kind=3/\farB t.name=true/\t.lives.length<=64/\t.lives.all lifeB=true/\t.elem=[]) ∨
  ((t.kind=4∨t.kind=5)/\t.name=[]/\t.lives.length<=1/\t.lives.all lifeB=true/\∃ e,t.elem=[e]/\MayTy n e)
theorem ty_eq_kind (t:Ty):t=⟨t.kind,[],[],[]⟩↔t.name=[]/\t.lives=[]/\t.elem=[]:=by
 cases t;simp
theorem mayTy_plain {n:Nat} {t:Ty} (h:t.kind=1∨t.kind=2):MayTy (n+1) t↔t.name=[]/\t.lives=[]/\t.elem=[]:=by
 constructor
 ·rintro (⟨_,h⟩|⟨h',_⟩|⟨h',_⟩)
  ·exact h
  ·omega
  ·omega
 ·exact fun h'=>.inl ⟨h,h'⟩
theorem mayTy_struct {n:Nat} {t:Ty} (h:t.kind=3):MayTy (n+1) t↔farB t.name=true/\t.lives.length<=64/\t.lives.all lifeB=true/\t.elem=[]:=by
 constructor
 ·rintro (⟨h',_⟩|⟨_,h'⟩|⟨h',_⟩)
  ·omega
  ·exact h'
  ·omega
 ·exact fun h'=>.inr (.inl ⟨h,h'⟩)
theorem mayTy_ref {n:Nat} {t:Ty} (h:t.kind=4∨t.kind=5):MayTy (n+1) t↔t.name=[]/\t.lives.length<=1/\t.lives.all lifeB=true/\∃ e,t.elem=[e]/\MayTy n e:=by
 constructor
 ·rintro (⟨h',_⟩|⟨h',_⟩|⟨_,h'⟩)
  ·omega
  ·omega
  ·exact h'
 ·exact fun h'=>.inr (.inr ⟨h,h'⟩)
theorem mayTy_none {n:Nat} {t:Ty} (h:¬ (t.kind=1∨t.kind=2∨t.kind=3∨t.kind=4∨t.kind=5)):¬ MayTy (n+1) t:=by
 rintro (⟨h',_⟩|⟨h',_⟩|⟨h',_⟩) <;> omega
theorem bool_false {B:Bool} {P:Prop} (h:B=true↔P) (hn:¬ P):B=false:=by
 cases hB:B
 ·rfl
 ·exact absurd (h.1 hB) hn
theorem bool_true {B:Bool} {P:Prop} (h:B=true↔P) (hp:P):B=true:=h.2 hp
theorem nil_empty (l:Bs):(str l).toList.isEmpty=decide (l=[]):=by
 unfold str
 rw [ByteArray.toList_mk]
 cases l <;> rfl
theorem empty_nil {S:ByteArray} (h:S.toList.isEmpty=true):S.toList=[]:=List.isEmpty_iff.1 h
theorem empty_ne {S:ByteArray} (h:S.toList.isEmpty=false):¬ S.toList=[]:=fun e=>by rw [e] at h;cases h
theorem below_setRow {C:Nat} {w0 w:World} (h:Below C w0 w) {g:Nat} (hg:C<=g) (M:Array Value):Below C w0 (w.setRow g M):=by
 refine ⟨h.os,h.tape,h.output,?_,fun k hk=>?_⟩
 ·have:=h.size
  unfold World.setRow
  simp only [Array.size_modify]
  exact this
 ·have:(w.setRow g M).heap[k]?=w.heap[k]?:=by
   simp only [World.setRow,Array.getElem?_modify]
   rw [if_neg (by omega)]
  rw [this];exact h.block k hk
set_option maxHeartbeats 8000000 in
set_option maxRecDepth 20000 in
theorem mayType_any {K:Ctx} {w:World} (he:Env K w) {t:Ty} {cs:List Value} (hx:IsTy K w cs t) (B:Bool) (hB:B=true↔MayTy 64 t) :
  Calls Tryz.prog 85 #[.agg cs.toArray] w fun ev w'=>ev=.returned (.bool B)/\Below w.heap.size w w':=by
 have HE:Hid (Env K w):=he
 have h0:Hid (∃ N,TyAt N K (w.alloc (.cells cs.toArray 31)) cs t):=by
  obtain ⟨N,h⟩:=hx
  exact ⟨N,h.below (below_le (alloc_one _ _) he.C)⟩
 have HB:Hid (B=true↔MayTy 64 t):=hB
 clear hx hB he
 go_enter Tryz.func85,Tryz.ntmps85
 go_wp2_with fail
 go_loopw [3] (fun i wr=>∃ k:Nat,k<=64/\i=.int .i64 k/\Below w.heap.size w wr/\∃ cs' t',Row wr w.heap.size 31 cs'/\(∃ N,TyAt N K wr cs' t')/\(B=true↔MayTy (64 - k) t')) (fun i _=>64 - (intOf i).toNat)
 case atStart=>exact ⟨0,by omega,rfl,alloc_one _ _,cs,t,Row.new w 31 cs,h0.out,HB.out⟩
 case round =>
  obtain ⟨k,hk,rfl,hbw,cs',t',hrow,⟨N,hty⟩,hB⟩:=hrel
  clear h0 HB
  by_cases h3:k<64
  ·obtain ⟨n,rfl⟩:∃ n,N=n+1:=by
    cases N with
    | zero=>exact hty.elim
    | succ n=>exact ⟨n,rfl⟩
   obtain ⟨v2,v3,rfl,hl1,h2,h4⟩:=hty
   obtain ⟨ao2,cap2,rfl,hc2,hb2,_⟩:=id h2.shape
   obtain ⟨ao3,cap3,rfl,hc3,hb3,hA3⟩:=id h4.shape
   obtain ⟨r,hr⟩:∃ r,64 - k=r+1:=⟨63 - k,by omega⟩
   rw [hr] at hB
   have i1:(k:Int)<64:=by omega
   have c0:wr.cell? ⟨w.heap.size,0,none⟩=some (.int .i64 t'.kind):=hrow.cell 0
   have c1:wr.cell? ⟨w.heap.size,1,none⟩=some (.string (str t'.name)):=hrow.cell 1
   have c2:wr.cell? ⟨w.heap.size,2,none⟩=some (.slice ao2 t'.lives.length cap2):=hrow.cell 2
   have c3:wr.cell? ⟨w.heap.size,3,none⟩=some (.slice ao3 t'.elem.length cap3):=hrow.cell 3
   have hKC:Below K.C w wr:=below_le hbw HE.out.C
   have HE2:Hid (Env K wr):=HE.out.below hKC
   have HW:Hid (Below w.heap.size w wr):=hbw
   have HBB:Hid (B=true↔MayTy (r+1) t'):=hB
   have HS2:=hid0 h2
   have hl9:t'.lives.length<=9223372036854775807:=by omega
   have hl8:t'.elem.length<=9223372036854775807:=by omega
   have HIT:Hid (IsTy K wr [.int .i64 t'.kind,.string (str t'.name),.slice ao2 t'.lives.length cap2,.slice ao3 t'.elem.length cap3] t'):=⟨n+1,_,_,rfl,hl1,h2,h4⟩
   have HL:=hid0 hA3
   have HR:=hid0 hrow
   clear hB h2 h4 hA3 hrow hbw hKC hb2 hb3
   by_cases k1:t'.kind=1∨t'.kind=2
   ·have D:Hid (Calls Tryz.prog 15 #[.agg #[.int .i64 t'.kind,.string (str t'.name),.slice ao2 t'.lives.length cap2,.slice ao3 t'.elem.length cap3],.agg #[.int .i64 t'.kind,.string ⟨#[]⟩,.slice none 0 0,.slice none 0 0]] wr fun ev w'=>ev=.returned (.bool B)/\Below wr.heap.size wr w') :=
     sameTypes2_any HE2.out.C (cs:=[.int .i64 t'.kind,.string (str t'.name),.slice ao2 t'.lives.length cap2,.slice ao3 t'.elem.length cap3]) (cs':=tyCells t'.kind) HIT.out (kind_at K wr t'.kind) B (by rw [HBB.out,mayTy_plain k1,ty_eq_kind])
    clear HBB HIT HS2 HL HR HE2
    rcases k1 with k1|k1
    ·have b1:(t'.kind == 1)=true:=by rw [k1];rfl
     clear k1
     generalize t'.kind=kd,str t'.name=S at *
     go_wp2_with (go_at_call 15;refine D.out.mono ?_;rintro ev w2 ⟨rfl,hb2⟩)
     go_ret
     exact ⟨rfl,HW.out.trans (below_le hb2 HW.out.size)⟩
    ·have b1:(t'.kind == 1)=false:=by rw [k1];rfl
     have b2:(t'.kind == 2)=true:=by rw [k1];rfl
     clear k1
     generalize t'.kind=kd,str t'.name=S at *
     go_wp2_with (go_at_call 15;refine D.out.mono ?_;rintro ev w2 ⟨rfl,hb2⟩)
     go_ret
     exact ⟨rfl,HW.out.trans (below_le hb2 HW.out.size)⟩
   ·have b1:(t'.kind == 1)=false:=by simp;omega
    have b2:(t'.kind == 2)=false:=by simp;omega
    by_cases k3:t'.kind=3
    ·have b3:(t'.kind == 3)=true:=by rw [k3];rfl
     have F:=far_any t'.name (by have:=HE.out.B;omega) wr HE2.out.ml
     have HBX:Hid (B=true↔farB t'.name=true/\t'.lives.length<=64/\t'.lives.all lifeB=true/\t'.elem=[]):=by show _↔_;rw [HBB.out,mayTy_struct k3]
     have P:Hid (∀ m,Calls Tryz.prog 47 #[.slice ao2 t'.lives.length cap2,.func (.func 48) #[] #[]] (wr.drewN m) fun ev w'=>ev=.returned (.bool (decide (t'.lives.length<=64) && t'.lives.all lifeB))/\w'=wr.drewN m):=fun m=>partsLives (HS2.out.below (Below.drewN _ _ _))
     have e0:((t'.elem.length:Int) == 0)=decide (t'.elem=[]):=by cases t'.elem <;> simp;omega
     have e0':(t'.elem.length:Int)=0↔t'.elem=[]:=by cases t'.elem <;> simp;omega
     clear HBB HIT HS2 HL HR HE2 k1 k3
     cases f1:farB t'.name
     ·have HF:Hid (B=false):=bool_false HBX.out (by rw [f1];rintro ⟨h,_⟩;cases h)
      rw [f1] at F
      clear HBX f1
      generalize t'.kind=kd,str t'.name=S at *
      go_wp2_with (go_at_call 107;refine F.mono ?_;rintro ev w2 ⟨rfl,m,rfl⟩)
      go_ret
      exact ⟨by rw [HF.out];rfl,HW.out.trans (Below.drewN _ _ _)⟩
     ·rw [f1] at F HBX
      clear f1
      cases f2:(decide (t'.lives.length<=64) && t'.lives.all lifeB)
      ·have HF:Hid (B=false):=bool_false HBX.out (by rintro ⟨_,h2,h3,_⟩;rw [h3,decide_eq_true h2] at f2;cases f2)
       rw [f2] at P
       clear HBX f2
       generalize t'.kind=kd,str t'.name=S at *
       go_wp2_with (first|(go_at_call 107;refine F.mono ?_;rintro ev w2 ⟨rfl,m,rfl⟩)|(go_at_call 47;refine (P.out _).mono ?_;rintro ev w2 ⟨rfl,rfl⟩))
       go_ret
       exact ⟨by rw [HF.out];rfl,HW.out.trans (Below.drewN _ _ _)⟩
      ·rw [f2] at P
       rw [Bool.and_eq_true,decide_eq_true_iff] at f2
       by_cases f3:t'.elem=[]
       ·have HF:Hid (B=true):=HBX.out.2 ⟨rfl,f2.1,f2.2,f3⟩
        rw [decide_eq_true f3] at e0
        clear HBX f2 f3 e0'
        generalize t'.kind=kd,str t'.name=S at *
        go_wp2_with (first|(go_at_call 107;refine F.mono ?_;rintro ev w2 ⟨rfl,m,rfl⟩)|(go_at_call 47;refine (P.out _).mono ?_;rintro ev w2 ⟨rfl,rfl⟩))
        go_ret
        exact ⟨by rw [HF.out];simp,HW.out.trans (Below.drewN _ _ _)⟩
       ·have HF:Hid (B=false):=bool_false HBX.out (fun h=>f3 h.2.2.2)
        rw [decide_eq_false f3] at e0
        clear HBX f2 f3 e0'
        generalize t'.kind=kd,str t'.name=S at *
        go_wp2_with (first|(go_at_call 107;refine F.mono ?_;rintro ev w2 ⟨rfl,m,rfl⟩)|(go_at_call 47;refine (P.out _).mono ?_;rintro ev w2 ⟨rfl,rfl⟩))
        go_ret
        exact ⟨by rw [HF.out];simp,HW.out.trans (Below.drewN _ _ _)⟩
    ·have b3:(t'.kind == 3)=false:=by simp;omega
     by_cases k4:t'.kind=4∨t'.kind=5
     ·have HBX:Hid (B=true↔t'.name=[]/\t'.lives.length<=1/\t'.lives.all lifeB=true/\∃ e,t'.elem=[e]/\MayTy r e):=by show _↔_;rw [HBB.out,mayTy_ref k4]
      have P:Hid (Calls Tryz.prog 82 #[.slice ao2 t'.lives.length cap2,.func (.func 48) #[] #[]] wr fun ev w'=>ev=.returned (.bool (t'.lives.all lifeB))/\w'=wr):=allLives HS2.out
      have n0:=nil_empty t'.name
      by_cases k5:t'.kind=4
      ·have b4:(t'.kind == 4)=true:=by rw [k5];rfl
       clear k5
       clear HBB HIT HS2 k1 k3 k4
       by_cases f1:t'.name=[]
       rotate_left
       ·have HF:Hid (B=false):=bool_false HBX.out (fun h=>f1 h.1)
        rw [decide_eq_false f1] at n0
        have n1:=empty_ne n0
        clear HBX f1 P HL HR HE2
        generalize t'.kind=kd,str t'.name=S at *
        go_wp2_with fail
        go_ret
        exact ⟨by rw [HF.out];rfl,HW.out⟩
       rw [decide_eq_true f1] at n0
       have n1:=empty_nil n0
       by_cases f2:t'.lives.length<=1
       rotate_left
       ·have HF:Hid (B=false):=bool_false HBX.out (fun h=>f2 h.2.1)
        have g2:decide ((1:Int)<(t'.lives.length:Int))=true:=by simp;omega
        have g2':(1:Int)<(t'.lives.length:Int):=by omega
        clear HBX f1 f2 P HL HR HE2
        generalize t'.kind=kd,str t'.name=S at *
        go_wp2_with fail
        go_ret
        exact ⟨by rw [HF.out];rfl,HW.out⟩
       have g2:decide ((1:Int)<(t'.lives.length:Int))=false:=by simp;omega
       have g2':¬ (1:Int)<(t'.lives.length:Int):=by omega
       cases f3:t'.lives.all lifeB
       ·have HF:Hid (B=false):=bool_false HBX.out (fun h=>by rw [f3] at h;cases h.2.2.1)
        rw [f3] at P
        clear HBX f1 f2 f3 HL HR HE2
        generalize t'.kind=kd,str t'.name=S at *
        go_wp2_with (go_at_call 82;refine P.out.mono ?_;rintro ev w2 ⟨rfl,rfl⟩)
        go_ret
        exact ⟨by rw [HF.out];rfl,HW.out⟩
       rw [f3] at P
       by_cases f4:t'.elem.length=1
       rotate_left
       ·have HF:Hid (B=false):=bool_false HBX.out (fun h=>by obtain ⟨_,_,_,e,he,_⟩:=h;rw [he] at f4;exact f4 rfl)
        have g4:((t'.elem.length:Int) != 1)=true:=by rw [bne_iff_ne];omega
        have g4':(t'.elem.length:Int)≠1:=by omega
        clear HBX f1 f2 f3 f4 HL HR HE2
        generalize t'.kind=kd,str t'.name=S at *
        go_wp2_with (go_at_call 82;refine P.out.mono ?_;rintro ev w2 ⟨rfl,rfl⟩)
        go_ret
        exact ⟨by rw [HF.out];rfl,HW.out⟩
       obtain ⟨b,o,e,hbC,cs2,hl2,hcs2,hx2⟩:=HL.out 0 (by omega)
       subst e
       obtain ⟨e0,he0⟩:∃ e0,t'.elem=[e0]:=List.length_eq_one_iff.1 f4
       have hx2':TyAt n K wr cs2 e0:=by have:=hx2;simp only [he0] at this;exact this
       have HBN:Hid (B=true↔MayTy (64 - (k+1)) e0):=by
        show _↔_
        rw [HBX.out,show 64 - (k+1)=r by omega]
        constructor
        ·rintro ⟨_,_,_,e,he,hm⟩
         rw [he0] at he
         cases he
         exact hm
        ·exact fun hm=>⟨f1,f2,f3,e0,he0,hm⟩
       have hrg:Hid (wr.rangeAt b o cs2):=by
        intro j u hj
        have hj4:j<4:=by rw [← hl2];exact (List.getElem?_eq_some_iff.1 hj).1
        have:=hcs2 j hj4
        rw [Nat.zero_mul,Nat.add_zero] at this
        rw [this];exact hj
       have hi:Hid ((Tryz.prog.info? 31).map (·.size)=some cs2.length):=by show _=_;rw [hl2];kernel_rfl
       have hi':Hid ((Tryz.prog.info? 31).map (·.size)=some cs2.toArray.size):=by show _=_;rw [List.size_toArray];exact hi.out
       have hl':Hid ((#[Value.int .i64 t'.kind,.string (str t'.name),.slice ao2 t'.lives.length cap2,.slice (some ⟨b,o,none⟩) t'.elem.length cap3]:Array Value).size=cs2.toArray.size):=by show 4=_;rw [List.size_toArray];exact hl2.symm
       have h1:Hid (cs2.toArray.all (·.oneCell')=true):=one_mem hx2'.one
       have HX2:Hid (TyAt n K wr cs2 e0):=hx2'
       have g4:((t'.elem.length:Int) != 1)=false:=by rw [f4];rfl
       have g4':(0:Int)<(t'.elem.length:Int):=by omega
       clear HBX f1 f2 f3 f4 HL hx2 hx2' hcs2 hl2 he0
       have HKg:Hid (K.C<=w.heap.size):=HE.out.C
       generalize t'.kind=kd,str t'.name=S,hg:w.heap.size=g at *
       have HG:Hid (w.heap.size=g):=hg
       clear hg HE2 HE
       go_wp2_with (first|(go_at_call 82;refine P.out.mono ?_;rintro ev w2 ⟨rfl,rfl⟩)|(refine wpList_load_mid rfl 31 (.tmp 57) rfl b o rfl cs2 _ hrg.out Tryz.underlying31 rfl hi.out ?_)|(refine wpList_store_row rfl 31 (.tmp 1) (.tmp 58) rfl g cs2.toArray rfl rfl 31 _ HR.out.heap hi'.out hl'.out h1.out ?_))
       go_roundw
       case rel=>exact ⟨k+1,by omega,by go_num,below_setRow HW.out (Nat.le_refl _) _,cs2,e0,HR.out.setRow cs2,⟨n,HX2.out.below (below_setRow (Below.refl _ _) HKg.out _)⟩,HBN.out⟩
       case measure=>simp [intOf];omega
      ·have b4:(t'.kind == 4)=false:=by simp;omega
       have b5:(t'.kind == 5)=true:=by simp;omega
       clear k5
       clear HBB HIT HS2 k1 k3 k4
       by_cases f1:t'.name=[]
       rotate_left
       ·have HF:Hid (B=false):=bool_false HBX.out (fun h=>f1 h.1)
        rw [decide_eq_false f1] at n0
        have n1:=empty_ne n0
        clear HBX f1 P HL HR HE2
        generalize t'.kind=kd,str t'.name=S at *
        go_wp2_with fail
        go_ret
        exact ⟨by rw [HF.out];rfl,HW.out⟩
       rw [decide_eq_true f1] at n0
       have n1:=empty_nil n0
       by_cases f2:t'.lives.length<=1
       rotate_left
       ·have HF:Hid (B=false):=bool_false HBX.out (fun h=>f2 h.2.1)
        have g2:decide ((1:Int)<(t'.lives.length:Int))=true:=by simp;omega
        have g2':(1:Int)<(t'.lives.length:Int):=by omega
        clear HBX f1 f2 P HL HR HE2
        generalize t'.kind=kd,str t'.name=S at *
        go_wp2_with fail
        go_ret
        exact ⟨by rw [HF.out];rfl,HW.out⟩
       have g2:decide ((1:Int)<(t'.lives.length:Int))=false:=by simp;omega
       have g2':¬ (1:Int)<(t'.lives.length:Int):=by omega
       cases f3:t'.lives.all lifeB
       ·have HF:Hid (B=false):=bool_false HBX.out (fun h=>by rw [f3] at h;cases h.2.2.1)
        rw [f3] at P
        clear HBX f1 f2 f3 HL HR HE2
        generalize t'.kind=kd,str t'.name=S at *
        go_wp2_with (go_at_call 82;refine P.out.mono ?_;rintro ev w2 ⟨rfl,rfl⟩)
        go_ret
        exact ⟨by rw [HF.out];rfl,HW.out⟩
       rw [f3] at P
       by_cases f4:t'.elem.length=1
       rotate_left
       ·have HF:Hid (B=false):=bool_false HBX.out (fun h=>by obtain ⟨_,_,_,e,he,_⟩:=h;rw [he] at f4;exact f4 rfl)
        have g4:((t'.elem.length:Int) != 1)=true:=by rw [bne_iff_ne];omega
        have g4':(t'.elem.length:Int)≠1:=by omega
        clear HBX f1 f2 f3 f4 HL HR HE2
        generalize t'.kind=kd,str t'.name=S at *
        go_wp2_with (go_at_call 82;refine P.out.mono ?_;rintro ev w2 ⟨rfl,rfl⟩)
        go_ret
        exact ⟨by rw [HF.out];rfl,HW.out⟩
       obtain ⟨b,o,e,hbC,cs2,hl2,hcs2,hx2⟩:=HL.out 0 (by omega)
       subst e
       obtain ⟨e0,he0⟩:∃ e0,t'.elem=[e0]:=List.length_eq_one_iff.1 f4
       have hx2':TyAt n K wr cs2 e0:=by have:=hx2;simp only [he0] at this;exact this
       have HBN:Hid (B=true↔MayTy (64 - (k+1)) e0):=by
        show _↔_
        rw [HBX.out,show 64 - (k+1)=r by omega]
        constructor
        ·rintro ⟨_,_,_,e,he,hm⟩
         rw [he0] at he
         cases he
         exact hm
        ·exact fun hm=>⟨f1,f2,f3,e0,he0,hm⟩
       have hrg:Hid (wr.rangeAt b o cs2):=by
        intro j u hj
        have hj4:j<4:=by rw [← hl2];exact (List.getElem?_eq_some_iff.1 hj).1
        have:=hcs2 j hj4
        rw [Nat.zero_mul,Nat.add_zero] at this
        rw [this];exact hj
       have hi:Hid ((Tryz.prog.info? 31).map (·.size)=some cs2.length):=by show _=_;rw [hl2];kernel_rfl
       have hi':Hid ((Tryz.prog.info? 31).map (·.size)=some cs2.toArray.size):=by show _=_;rw [List.size_toArray];exact hi.out
       have hl':Hid ((#[Value.int .i64 t'.kind,.string (str t'.name),.slice ao2 t'.lives.length cap2,.slice (some ⟨b,o,none⟩) t'.elem.length cap3]:Array Value).size=cs2.toArray.size):=by show 4=_;rw [List.size_toArray];exact hl2.symm
       have h1:Hid (cs2.toArray.all (·.oneCell')=true):=one_mem hx2'.one
       have HX2:Hid (TyAt n K wr cs2 e0):=hx2'
       have g4:((t'.elem.length:Int) != 1)=false:=by rw [f4];rfl
       have g4':(0:Int)<(t'.elem.length:Int):=by omega
       clear HBX f1 f2 f3 f4 HL hx2 hx2' hcs2 hl2 he0
       have HKg:Hid (K.C<=w.heap.size):=HE.out.C
       generalize t'.kind=kd,str t'.name=S,hg:w.heap.size=g at *
       have HG:Hid (w.heap.size=g):=hg
       clear hg HE2 HE
       go_wp2_with (first|(go_at_call 82;refine P.out.mono ?_;rintro ev w2 ⟨rfl,rfl⟩)|(refine wpList_load_mid rfl 31 (.tmp 57) rfl b o rfl cs2 _ hrg.out Tryz.underlying31 rfl hi.out ?_)|(refine wpList_store_row rfl 31 (.tmp 1) (.tmp 58) rfl g cs2.toArray rfl rfl 31 _ HR.out.heap hi'.out hl'.out h1.out ?_))
       go_roundw
       case rel=>exact ⟨k+1,by omega,by go_num,below_setRow HW.out (Nat.le_refl _) _,cs2,e0,HR.out.setRow cs2,⟨n,HX2.out.below (below_setRow (Below.refl _ _) HKg.out _)⟩,HBN.out⟩
       case measure=>simp [intOf];omega
     ·have b4:(t'.kind == 4)=false:=by simp;omega
      have b5:(t'.kind == 5)=false:=by simp;omega
      have HF:Hid (B=false):=bool_false HBB.out (mayTy_none (by omega))
      clear HBB HIT HS2 HL HR HE2 k1 k3 k4
      generalize t'.kind=kd,str t'.name=S at *
      go_wp2_with fail
      go_ret
      exact ⟨by rw [HF.out];rfl,HW.out⟩
  ·have HF:Hid (B=false):=bool_false hB (by rw [show 64 - k=0 by omega];exact fun h=>h)
   have HW:Hid (Below w.heap.size w wr):=hbw
   have i1:¬ (k:Int)<64:=by omega
   clear hty hrow hB hbw
   go_wp2_with fail
   go_ret
   exact ⟨by rw [HF.out];rfl,HW.out⟩

set_option maxHeartbeats 4000000
set_option maxRecDepth 20000
theorem allFields {P:Fld->Prop} {K:Ctx} {w:World} (he:Env K w)
  (ih:∀ (x:Fld) (cs:List Value) (y:World),Env K y->FldAt K y cs x->∀ (B:Bool),(B=true↔P x)->Calls Tryz.prog 50 #[.agg cs.toArray] y fun ev w'=>ev=.returned (.bool B)/\Below y.heap.size y w')
  {v:Value} {l:List Fld} (ha:Ar 6 96 (FldAt K w) K w v l) (B:Bool) (hB:B=true↔∀ x∈l,P x) :
  Calls Tryz.prog 83 #[v,.func (.func 50) #[] #[]] w fun ev w'=>ev=.returned (.bool B)/\Below w.heap.size w w':=by
 obtain ⟨ao,cap,rfl,hc,hb,hA⟩:=ha.shape
 have hl9:l.length<=9223372036854775807:=by omega
 have HE:Hid (Env K w):=he
 have HA:Hid (∀ i (h:i<l.length) (y:World),Below K.C w y->∃ b o,ao=some ⟨b,o,none⟩/\∃ cs,cs.length=6/\y.rangeAt b (o+i * 6) cs/\FldAt K y cs l[i]):=by
  intro i h y hy
  obtain ⟨b,o,e,hbC,cs,hl,hcs,hx⟩:=hA i h
  refine ⟨b,o,e,cs,hl,fun j u hj=>?_,hx.below hy⟩
  have hj':j<6:=by rw [← hl];exact (List.getElem?_eq_some_iff.1 hj).1
  rw [hy.cell (p:=⟨b,o+i * 6+j,none⟩) hbC,hcs j hj']
  exact hj
 have HB:Hid (B=true↔∀ x∈l,P x):=hB
 have HI:=hid0 ih
 clear hA hB ha ih he hb
 go_enter Tryz.func83,Tryz.ntmps83
 go_wp2_with fail
 go_loopw [9] (fun i wr=>∃ k:Nat,k<=l.length/\i=.int .i64 k/\(∀ j (h:j<l.length),j<k->P l[j])/\Below w.heap.size w wr) (fun i _=>l.length - (intOf i).toNat)
 case atStart=>exact ⟨0,by omega,rfl,fun j _ h=>by omega,Below.refl _ _⟩
 case round =>
  obtain ⟨k,hk,rfl,hj,hbw⟩:=hrel
  have HJ:Hid (∀ j (h:j<l.length),j<k->P l[j]):=hj
  have HW:Hid (Below w.heap.size w wr):=hbw
  clear hj hbw
  by_cases h3:k<l.length
  ·have hKC:Below K.C w wr:=below_le HW.out HE.out.C
   obtain ⟨b,o,e,cs,hl,hr,hx⟩:=HA.out k h3 wr hKC
   subst e
   have hi:Hid ((Tryz.prog.info? 51).map (·.size)=some cs.length):=by show _=_;rw [hl];kernel_rfl
   have hi':Hid ((Tryz.prog.info? 51).map (·.size)=some cs.toArray.size):=by show _=_;rw [List.size_toArray];exact hi.out
   have hl':Hid (6=cs.toArray.size):=by show _=_;rw [List.size_toArray];exact hl.symm
   have h1:Hid (cs.toArray.all (·.oneCell')=true):=one_mem hx.one
   have hR:Hid (wr.rangeAt b (o+k * 6) cs):=hr
   have hA:Below wr.heap.size wr (wr.alloc (.cells cs.toArray 51)):=(Below.refl _ _).alloc (Nat.le_refl _) _
   have hKA:Below K.C w (wr.alloc (.cells cs.toArray 51)):=hKC.trans (below_le hA (Nat.le_trans HE.out.C HW.out.size))
   have hxA:=(hx.below (below_le hA (Nat.le_trans HE.out.C HW.out.size)):FldAt K (wr.alloc (.cells cs.toArray 51)) cs l[k])
   have i1:(k:Int)<(l.length:Int):=by omega
   by_cases hp:P l[k]
   ·have HC:Hid (Calls Tryz.prog 50 #[.agg cs.toArray] (wr.alloc (.cells cs.toArray 51)) fun ev w'=>ev=.returned (.bool true)/\Below wr.heap.size wr w'):=(HI.out _ cs _ (HE.out.below hKA) hxA true ⟨fun _=>hp,fun _=>rfl⟩).mono fun _ _ h=>⟨h.1,hA.trans (below_le h.2 hA.size)⟩
    have HJ':Hid (∀ j (h:j<l.length),j<k+1->P l[j]):=by
     intro j h hjk
     rcases Nat.lt_or_ge j k with h'|h'
     ·exact HJ.out j h h'
     ·obtain rfl:j=k:=by omega
      exact hp
    clear hp hx HA HI hKC hxA hA hKA hl hr
    go_wp2_with (first|(refine wpList_load_mid rfl 51 (.tmp 11) rfl b (o+k * 6) rfl cs _ hR.out Tryz.underlying51 rfl hi.out ?_)|(refine store_new rfl 51 (.tmp 6) (.tmp 12) rfl cs.toArray _ 51 rfl rfl hi'.out hl'.out h1.out ?_)|(refine load_new rfl 51 (.tmp 6) rfl cs 51 _ rfl Tryz.underlying51 rfl hi.out ?_)|(go_at_call 50;refine HC.out.mono ?_;rintro ev w2 ⟨rfl,hb2⟩))
    go_roundw
    case rel=>exact ⟨k+1,by omega,by go_num,HJ'.out,HW.out.trans (below_le hb2 HW.out.size)⟩
    case measure=>simp [intOf];omega
   ·have HC:Hid (Calls Tryz.prog 50 #[.agg cs.toArray] (wr.alloc (.cells cs.toArray 51)) fun ev w'=>ev=.returned (.bool false)/\Below wr.heap.size wr w'):=(HI.out _ cs _ (HE.out.below hKA) hxA false ⟨fun h=>(by cases h),fun h=>absurd h hp⟩).mono fun _ _ h=>⟨h.1,hA.trans (below_le h.2 hA.size)⟩
    have HF:Hid (B=false):=by
     show B=false
     cases hB:B
     ·rfl
     ·exact absurd (HB.out.1 hB _ (List.getElem_mem h3)) hp
    clear hp hx HA HI hKC hxA hA hKA hl hr
    go_wp2_with (first|(refine wpList_load_mid rfl 51 (.tmp 11) rfl b (o+k * 6) rfl cs _ hR.out Tryz.underlying51 rfl hi.out ?_)|(refine store_new rfl 51 (.tmp 6) (.tmp 12) rfl cs.toArray _ 51 rfl rfl hi'.out hl'.out h1.out ?_)|(refine load_new rfl 51 (.tmp 6) rfl cs 51 _ rfl Tryz.underlying51 rfl hi.out ?_)|(go_at_call 50;refine HC.out.mono ?_;rintro ev w2 ⟨rfl,hb2⟩))
    go_ret
    exact ⟨by rw [HF.out];rfl,HW.out.trans (below_le hb2 HW.out.size)⟩
  ·have HF:Hid (B=true):=HB.out.2 fun x hx=>by
    obtain ⟨j,hj,rfl⟩:=List.getElem_of_mem hx
    exact HJ.out j hj (by omega)
   have i1:¬ (k:Int)<(l.length:Int):=by omega
   go_wp2_with fail
   go_ret
   exact ⟨by rw [HF.out];rfl,HW.out⟩
theorem partsFields {P:Fld->Prop} {K:Ctx} {w:World} (he:Env K w)
  (ih:∀ (x:Fld) (cs:List Value) (y:World),Env K y->FldAt K y cs x->∀ (B:Bool),(B=true↔P x)->Calls Tryz.prog 50 #[.agg cs.toArray] y fun ev w'=>ev=.returned (.bool B)/\Below y.heap.size y w')
  {v:Value} {l:List Fld} (ha:Ar 6 96 (FldAt K w) K w v l) (B:Bool) (hB:B=true↔l.length<=64/\∀ x∈l,P x) :
  Calls Tryz.prog 49 #[v,.func (.func 50) #[] #[]] w fun ev w'=>ev=.returned (.bool B)/\Below w.heap.size w w':=by
 by_cases h:l.length<=64
 ·have D:=allFields he ih ha B (by rw [hB];exact ⟨fun h=>h.2,fun h'=>⟨h,h'⟩⟩)
  obtain ⟨ao,cap,rfl,hc,hb,_⟩:=ha.shape
  have hl9:l.length<=9223372036854775807:=by omega
  have b1:decide ((l.length:Int)<=64)=true:=by simp;omega
  have i1:(l.length:Int)<=64:=by omega
  clear hb ha ih hB he
  go_enter Tryz.func49,Tryz.ntmps49
  go_wp2_with (go_at_call 83;refine D.mono ?_;rintro ev w2 ⟨rfl,hb2⟩)
  go_ret
  exact ⟨rfl,hb2⟩
 ·obtain rfl:B=false:=by
   cases hB':B
   ·rfl
   ·exact absurd (hB.1 hB').1 h
  obtain ⟨ao,cap,rfl,hc,hb,_⟩:=ha.shape
  have hl9:l.length<=9223372036854775807:=by omega
  have b1:decide ((l.length:Int)<=64)=false:=by simp;omega
  have i1:¬ (l.length:Int)<=64:=by omega
  clear hb ha ih hB he
  go_enter Tryz.func49,Tryz.ntmps49
  go_wp2_with fail
  go_ret
  exact ⟨rfl,Below.refl _ _⟩
theorem allParams {P:Fld->Prop} {K:Ctx} {w:World} (he:Env K w)
  (ih:∀ (x:Fld) (cs:List Value) (y:World),Env K y->FldAt K y cs x->∀ (B:Bool),(B=true↔P x)->Calls Tryz.prog 53 #[.agg cs.toArray] y fun ev w'=>ev=.returned (.bool B)/\Below y.heap.size y w')
  {v:Value} {l:List Fld} (ha:Ar 6 96 (FldAt K w) K w v l) (B:Bool) (hB:B=true↔∀ x∈l,P x) :
  Calls Tryz.prog 83 #[v,.func (.func 53) #[] #[]] w fun ev w'=>ev=.returned (.bool B)/\Below w.heap.size w w':=by
 obtain ⟨ao,cap,rfl,hc,hb,hA⟩:=ha.shape
 have hl9:l.length<=9223372036854775807:=by omega
 have HE:Hid (Env K w):=he
 have HA:Hid (∀ i (h:i<l.length) (y:World),Below K.C w y->∃ b o,ao=some ⟨b,o,none⟩/\∃ cs,cs.length=6/\y.rangeAt b (o+i * 6) cs/\FldAt K y cs l[i]):=by
  intro i h y hy
  obtain ⟨b,o,e,hbC,cs,hl,hcs,hx⟩:=hA i h
  refine ⟨b,o,e,cs,hl,fun j u hj=>?_,hx.below hy⟩
  have hj':j<6:=by rw [← hl];exact (List.getElem?_eq_some_iff.1 hj).1
  rw [hy.cell (p:=⟨b,o+i * 6+j,none⟩) hbC,hcs j hj']
  exact hj
 have HB:Hid (B=true↔∀ x∈l,P x):=hB
 have HI:=hid0 ih
 clear hA hB ha ih he hb
 go_enter Tryz.func83,Tryz.ntmps83
 go_wp2_with fail
 go_loopw [9] (fun i wr=>∃ k:Nat,k<=l.length/\i=.int .i64 k/\(∀ j (h:j<l.length),j<k->P l[j])/\Below w.heap.size w wr) (fun i _=>l.length - (intOf i).toNat)
 case atStart=>exact ⟨0,by omega,rfl,fun j _ h=>by omega,Below.refl _ _⟩
 case round =>
  obtain ⟨k,hk,rfl,hj,hbw⟩:=hrel
  have HJ:Hid (∀ j (h:j<l.length),j<k->P l[j]):=hj
  have HW:Hid (Below w.heap.size w wr):=hbw
  clear hj hbw
  by_cases h3:k<l.length
  ·have hKC:Below K.C w wr:=below_le HW.out HE.out.C
   obtain ⟨b,o,e,cs,hl,hr,hx⟩:=HA.out k h3 wr hKC
   subst e
   have hi:Hid ((Tryz.prog.info? 51).map (·.size)=some cs.length):=by show _=_;rw [hl];kernel_rfl
   have hi':Hid ((Tryz.prog.info? 51).map (·.size)=some cs.toArray.size):=by show _=_;rw [List.size_toArray];exact hi.out
   have hl':Hid (6=cs.toArray.size):=by show _=_;rw [List.size_toArray];exact hl.symm
   have h1:Hid (cs.toArray.all (·.oneCell')=true):=one_mem hx.one
   have hR:Hid (wr.rangeAt b (o+k * 6) cs):=hr
   have hA:Below wr.heap.size wr (wr.alloc (.cells cs.toArray 51)):=(Below.refl _ _).alloc (Nat.le_refl _) _
   have hKA:Below K.C w (wr.alloc (.cells cs.toArray 51)):=hKC.trans (below_le hA (Nat.le_trans HE.out.C HW.out.size))
   have hxA:=(hx.below (below_le hA (Nat.le_trans HE.out.C HW.out.size)):FldAt K (wr.alloc (.cells cs.toArray 51)) cs l[k])
   have i1:(k:Int)<(l.length:Int):=by omega
   by_cases hp:P l[k]
   ·have HC:Hid (Calls Tryz.prog 53 #[.agg cs.toArray] (wr.alloc (.cells cs.toArray 51)) fun ev w'=>ev=.returned (.bool true)/\Below wr.heap.size wr w'):=(HI.out _ cs _ (HE.out.below hKA) hxA true ⟨fun _=>hp,fun _=>rfl⟩).mono fun _ _ h=>⟨h.1,hA.trans (below_le h.2 hA.size)⟩
    have HJ':Hid (∀ j (h:j<l.length),j<k+1->P l[j]):=by
     intro j h hjk
     rcases Nat.lt_or_ge j k with h'|h'
     ·exact HJ.out j h h'
     ·obtain rfl:j=k:=by omega
      exact hp
    clear hp hx HA HI hKC hxA hA hKA hl hr
    go_wp2_with (first|(refine wpList_load_mid rfl 51 (.tmp 11) rfl b (o+k * 6) rfl cs _ hR.out Tryz.underlying51 rfl hi.out ?_)|(refine store_new rfl 51 (.tmp 6) (.tmp 12) rfl cs.toArray _ 51 rfl rfl hi'.out hl'.out h1.out ?_)|(refine load_new rfl 51 (.tmp 6) rfl cs 51 _ rfl Tryz.underlying51 rfl hi.out ?_)|(go_at_call 53;refine HC.out.mono ?_;rintro ev w2 ⟨rfl,hb2⟩))
    go_roundw
    case rel=>exact ⟨k+1,by omega,by go_num,HJ'.out,HW.out.trans (below_le hb2 HW.out.size)⟩
    case measure=>simp [intOf];omega
   ·have HC:Hid (Calls Tryz.prog 53 #[.agg cs.toArray] (wr.alloc (.cells cs.toArray 51)) fun ev w'=>ev=.returned (.bool false)/\Below wr.heap.size wr w'):=(HI.out _ cs _ (HE.out.below hKA) hxA false ⟨fun h=>(by cases h),fun h=>absurd h hp⟩).mono fun _ _ h=>⟨h.1,hA.trans (below_le h.2 hA.size)⟩
    have HF:Hid (B=false):=by
     show B=false
     cases hB:B
     ·rfl
     ·exact absurd (HB.out.1 hB _ (List.getElem_mem h3)) hp
    clear hp hx HA HI hKC hxA hA hKA hl hr
    go_wp2_with (first|(refine wpList_load_mid rfl 51 (.tmp 11) rfl b (o+k * 6) rfl cs _ hR.out Tryz.underlying51 rfl hi.out ?_)|(refine store_new rfl 51 (.tmp 6) (.tmp 12) rfl cs.toArray _ 51 rfl rfl hi'.out hl'.out h1.out ?_)|(refine load_new rfl 51 (.tmp 6) rfl cs 51 _ rfl Tryz.underlying51 rfl hi.out ?_)|(go_at_call 53;refine HC.out.mono ?_;rintro ev w2 ⟨rfl,hb2⟩))
    go_ret
    exact ⟨by rw [HF.out];rfl,HW.out.trans (below_le hb2 HW.out.size)⟩
  ·have HF:Hid (B=true):=HB.out.2 fun x hx=>by
    obtain ⟨j,hj,rfl⟩:=List.getElem_of_mem hx
    exact HJ.out j hj (by omega)
   have i1:¬ (k:Int)<(l.length:Int):=by omega
   go_wp2_with fail
   go_ret
   exact ⟨by rw [HF.out];rfl,HW.out⟩
theorem partsParams {P:Fld->Prop} {K:Ctx} {w:World} (he:Env K w)
  (ih:∀ (x:Fld) (cs:List Value) (y:World),Env K y->FldAt K y cs x->∀ (B:Bool),(B=true↔P x)->Calls Tryz.prog 53 #[.agg cs.toArray] y fun ev w'=>ev=.returned (.bool B)/\Below y.heap.size y w')
  {v:Value} {l:List Fld} (ha:Ar 6 96 (FldAt K w) K w v l) (B:Bool) (hB:B=true↔l.length<=64/\∀ x∈l,P x) :
  Calls Tryz.prog 49 #[v,.func (.func 53) #[] #[]] w fun ev w'=>ev=.returned (.bool B)/\Below w.heap.size w w':=by
 by_cases h:l.length<=64
 ·have D:=allParams he ih ha B (by rw [hB];exact ⟨fun h=>h.2,fun h'=>⟨h,h'⟩⟩)
  obtain ⟨ao,cap,rfl,hc,hb,_⟩:=ha.shape
  have hl9:l.length<=9223372036854775807:=by omega
  have b1:decide ((l.length:Int)<=64)=true:=by simp;omega
  have i1:(l.length:Int)<=64:=by omega
  clear hb ha ih hB he
  go_enter Tryz.func49,Tryz.ntmps49
  go_wp2_with (go_at_call 83;refine D.mono ?_;rintro ev w2 ⟨rfl,hb2⟩)
  go_ret
  exact ⟨rfl,hb2⟩
 ·obtain rfl:B=false:=by
   cases hB':B
   ·rfl
   ·exact absurd (hB.1 hB').1 h
  obtain ⟨ao,cap,rfl,hc,hb,_⟩:=ha.shape
  have hl9:l.length<=9223372036854775807:=by omega
  have b1:decide ((l.length:Int)<=64)=false:=by simp;omega
  have i1:¬ (l.length:Int)<=64:=by omega
  clear hb ha ih hB he
  go_enter Tryz.func49,Tryz.ntmps49
  go_wp2_with fail
  go_ret
  exact ⟨rfl,Below.refl _ _⟩
end Go.Proofs.YtjenmmkamhplkaaGreat
