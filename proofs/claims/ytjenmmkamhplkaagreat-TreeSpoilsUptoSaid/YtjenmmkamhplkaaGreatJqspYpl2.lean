/- Part of the proof. -/
import Derived.Test.YtjenmmkamhplkaaGreatQqspYty
import Derived.Test.YtjenmmkamhplkaaGreatJqspMop2
namespace Go.Proofs.YtjenmmkamhplkaaGreat
open Go.RowKit
set_option maxHeartbeats 8000000
set_option maxRecDepth 20000
theorem pl_zero_iff (x:Pl):x=Pl.zero↔x.name=[]/\x.path=[]:=by
 cases x;simp [Pl.zero]
theorem xnowhere_any {K:Ctx} {w:World} {x:Pl} {cs:List Value} (hx:PlAt K w cs x) (B:Bool) (hB:B=true↔x=Pl.zero) :
  Calls Tryz.prog 122 #[.agg cs.toArray] w (Rb B w):=by
 obtain ⟨v1,rfl,hl1,h1⟩:=hx
 obtain ⟨a1,c1,rfl⟩:=h1.form
 rw [pl_zero_iff] at hB
 have q1:=str_empty x.name
 have q2:=len_zero x.path
 have HA:=hid (alloc_one w (.cells #[.string (str x.name),.slice a1 x.path.length c1] 42))
 by_cases e0:x.name=[]
 ·rw [decide_eq_true e0] at q1
  by_cases e1:x.path=[]
  ·rw [decide_eq_true e1] at q2
   have HF:Hid (B=true):=hB.2 ⟨e0,e1⟩
   clear hB e0 e1 h1 hl1
   generalize str x.name=S1,x.path.length=n1 at *
   go_enter Tryz.func122,Tryz.ntmps122
   go_wp2_with fail
   go_ret
   exact ⟨by rw [HF.out];rfl,HA.out⟩
  ·rw [decide_eq_false e1] at q2
   have HF:Hid (B=false):=bool_false hB (fun h=>e1 h.2)
   clear hB e0 e1 h1 hl1
   generalize str x.name=S1,x.path.length=n1 at *
   go_enter Tryz.func122,Tryz.ntmps122
   go_wp2_with fail
   go_ret
   exact ⟨by rw [HF.out];rfl,HA.out⟩
 ·rw [decide_eq_false e0] at q1
  have HF:Hid (B=false):=bool_false hB (fun h=>e0 h.1)
  clear hB e0 h1 hl1 q2
  generalize str x.name=S1,x.path.length=n1 at *
  go_enter Tryz.func122,Tryz.ntmps122
  go_wp2_with fail
  go_ret
  exact ⟨by rw [HF.out];rfl,HA.out⟩
theorem xplaceMay_any {K:Ctx} {w:World} (he:Env K w) {x:Pl} {cs:List Value} (hx:PlAt K w cs x) (B:Bool) (hB:B=true↔MayPl x) :
  Calls Tryz.prog 92 #[.agg cs.toArray] w (Rb B w):=by
 obtain ⟨v1,rfl,hl1,h1⟩:=hx
 obtain ⟨ao,cap,rfl,hc1,hb1,hA1⟩:=id h1.shape
 obtain ⟨w2,hw2⟩:∃ w2,w2=w.alloc (.cells #[.string (str x.name),.slice ao x.path.length cap] 42):=⟨_,rfl⟩
 have hA:Below w.heap.size w w2:=by rw [hw2];exact alloc_one w _
 have hsz:w2.heap.size=w.heap.size+1:=by rw [hw2,size_alloc]
 have R1:Row w2 w.heap.size 42 [.string (str x.name),.slice ao x.path.length cap]:=by rw [hw2];exact Row.new w 42 [.string (str x.name),.slice ao x.path.length cap]
 have HB0:Hid (Below (w.heap.size+1) w2 (w.alloc (.cells #[.string (str x.name),.slice ao x.path.length cap] 42))):=by show Below _ _ _;rw [← hw2];exact Below.refl _ _
 clear hw2
 have HS:Hid (∀ W,Below (w.heap.size+1) w2 W->W.cell? ⟨w.heap.size,0,none⟩=some (.string (str x.name))/\W.cell? ⟨w.heap.size,1,none⟩=some (.slice ao x.path.length cap)):=by
  intro W hb
  have r1:=R1.below hb (by omega)
  exact ⟨r1.cell 0,r1.cell 1⟩
 have HW:Hid (∀ W,Below (w.heap.size+1) w2 W->Below w.heap.size w W):=fun W hb=>hA.trans (below_le hb (by omega))
 have HK:∀ W,Below (w.heap.size+1) w2 W->Below K.C w W:=fun W hb=>below_le (HW.out W hb) he.C
 have HZ:∀ W,Below (w.heap.size+1) w2 W->w.heap.size+1<=W.heap.size:=fun W hb=>by have:=hb.size;omega
 have HN:Hid (∀ W,Below (w.heap.size+1) w2 W->Calls Tryz.prog 26 #[.string (str x.name)] W fun ev w'=>ev=.returned (.bool (nameB x.name))/\Below (w.heap.size+1) w2 w'):=by
  intro W hb
  refine (xname_any x.name (by have:=he.B;omega) W).mono ?_
  rintro _ _ ⟨rfl,h⟩
  exact ⟨rfl,hb.trans (below_le h (HZ W hb))⟩
 have HE:Hid (∀ i (h:i<x.path.length),∃ b o,ao=some ⟨b,o,none⟩/\(∀ W,Below (w.heap.size+1) w2 W->W.cell? ⟨b,o+i,none⟩=some (.string (str x.path[i]))) /\
   ∀ W,Below (w.heap.size+1) w2 W->Calls Tryz.prog 26 #[.string (str x.path[i])] W fun ev w'=>ev=.returned (.bool (nameB x.path[i]))/\Below (w.heap.size+1) w2 w'):=by
  intro i h
  obtain ⟨b,o,e,hbC,cs,hl,hc,hx⟩:=hA1 i h
  refine ⟨b,o,e,fun W hb=>?_,fun W hb=>?_⟩
  ·have:=hc 0 (by omega)
   rw [hx.1] at this
   exact ((HK W hb).cell (p:=⟨b,o+i,none⟩) hbC).trans (by simpa using this)
  ·refine (xname_any x.path[i] (by have:=he.B;have:=hx.2;omega) W).mono ?_
   rintro _ _ ⟨rfl,h⟩
   exact ⟨rfl,hb.trans (below_le h (HZ W hb))⟩
 have HT:Hid ((∀ j (h:j<x.path.length),j<65->stepB x.path[j]=true)->(B=(nameB x.name && decide (x.path.length<=64)))):=by
  intro h
  have:(decide (x.path.length<=64) && x.path.all stepB)=decide (x.path.length<=64):=by
   by_cases h64:x.path.length<=64
   ·rw [decide_eq_true h64,Bool.true_and,List.all_eq_true]
    intro y hy
    obtain ⟨j,hj,rfl⟩:=List.getElem_of_mem hy
    exact h j hj (by omega)
   ·rw [decide_eq_false h64,Bool.false_and]
  rw [MayPl,this,← Bool.and_eq_true] at hB
  exact Bool.eq_iff_iff.2 hB
 have HF:Hid (∀ j (h:j<x.path.length),stepB x.path[j]=false->B=false):=by
  intro j h hj
  refine bool_false hB fun hm=>?_
  have:=hm.2
  rw [Bool.and_eq_true,List.all_eq_true] at this
  rw [this.2 _ (List.getElem_mem h)] at hj
  cases hj
 have hl9:x.path.length<=9223372036854775807:=by omega
 clear hB h1 hA1 hA hsz R1 HK HZ hl1 he hc1 hb1
 generalize hP:x.path=P,hN:x.name=nm at *
 clear hP hN
 go_enter Tryz.func92,Tryz.ntmps92
 go_wp2_with fail
 go_loopw [3] (fun i wr=>∃ k:Nat,k<=P.length/\k<=65/\i=.int .i64 k/\(∀ j (h:j<P.length),j<k->stepB P[j]=true)/\Below (w.heap.size+1) w2 wr) (fun i _=>P.length - (intOf i).toNat)
 case atStart=>exact ⟨0,by omega,by omega,rfl,fun j _ h=>by omega,HB0.out⟩
 case round =>
  obtain ⟨k,hk,hk5,rfl,hj,hbw⟩:=hrel
  have HJ:=hid hj
  have HBW:=hid hbw
  clear hj hbw HB0
  obtain ⟨a0,a1⟩:=HS.out wr HBW.out
  by_cases h3:k<P.length
  ·have i1:(k:Int)<(P.length:Int):=by omega
   by_cases h5:k<65
   ·have i2:(k:Int)<65:=by omega
    obtain ⟨b,o,rfl,hcell,hcall⟩:=HE.out k h3
    have g:=hcell wr HBW.out
    have q:=star_beq P[k]
    have HST:Hid (stepB P[k]=(decide (P[k]=[42]) || nameB P[k])):=rfl
    have HNX:Hid (stepB P[k]=true->∀ j (h:j<P.length),j<k+1->stepB P[j]=true):=by
     intro hv j h hjk
     rcases Nat.lt_or_ge j k with h'|h'
     ·exact HJ.out j h h'
     ·obtain rfl:j=k:=by omega
      exact hv
    have HFX:=hid (HF.out k h3)
    have HC:=hid hcall
    clear hcall hcell HE HF HT HN
    by_cases e0:P[k]=[42]
    ·have HJ':=hid (HNX.out (by rw [HST.out,decide_eq_true e0];rfl))
     rw [decide_eq_true e0] at q
     have q':((str P[k]).toList != [42])=false:=by rw [bne,q];rfl
     clear HNX HST HFX HC e0
     generalize str P[k]=S at *
     go_wp2_with fail
     go_roundw
     case rel=>exact ⟨k+1,by omega,by omega,by go_num,HJ'.out,HBW.out⟩
     case measure=>simp [intOf];omega
    ·rw [decide_eq_false e0] at q
     have q':((str P[k]).toList != [42])=true:=by rw [bne,q];rfl
     rw [decide_eq_false e0,Bool.false_or] at HST
     cases hv:nameB P[k]
     ·have HFF:=hid (HFX.out (by rw [HST.out,hv]))
      rw [hv] at HC
      clear HNX HST HFX e0 hv
      generalize str P[k]=S at *
      go_wp2_with fail
      refine (HC.out _ HBW.out).mono ?_
      rintro _ W1 ⟨rfl,hb1⟩
      go_wp2_with fail
      go_ret
      exact ⟨by rw [HFF.out];rfl,HW.out _ hb1⟩
     ·have HJ':=hid (HNX.out (by rw [HST.out,hv]))
      rw [hv] at HC
      clear HNX HST HFX e0 hv
      generalize str P[k]=S at *
      go_wp2_with fail
      refine (HC.out _ HBW.out).mono ?_
      rintro _ W1 ⟨rfl,hb1⟩
      go_wp2_with fail
      go_roundw
      case rel=>exact ⟨k+1,by omega,by omega,by go_num,HJ'.out,hb1⟩
      case measure=>simp [intOf];omega
   ·have i2:¬ (k:Int)<65:=by omega
    have i3:¬ (P.length:Int)<=64:=by omega
    have HFF:=hid (HT.out fun j h h'=>HJ.out j h (by omega))
    rw [decide_eq_false (show ¬ P.length<=64 by omega),Bool.and_false] at HFF
    clear HE HF HT
    cases hv:nameB nm <;> rw [hv] at HN <;> clear hv
    ·go_wp2_with fail
     refine (HN.out _ HBW.out).mono ?_
     rintro _ W1 ⟨rfl,hb1⟩
     obtain ⟨a0',a1'⟩:=HS.out W1 hb1
     go_wp2_with fail
     go_ret
     exact ⟨by rw [HFF.out];first|rfl|exact congrArg (fun b=>Ending.returned (.bool b)) (decide_eq_false (by omega))|exact congrArg (fun b=>Ending.returned (.bool b)) (decide_eq_true (by omega)),HW.out _ hb1⟩
    ·go_wp2_with fail
     refine (HN.out _ HBW.out).mono ?_
     rintro _ W1 ⟨rfl,hb1⟩
     obtain ⟨a0',a1'⟩:=HS.out W1 hb1
     go_wp2_with fail
     go_ret
     exact ⟨by rw [HFF.out];first|rfl|exact congrArg (fun b=>Ending.returned (.bool b)) (decide_eq_false (by omega))|exact congrArg (fun b=>Ending.returned (.bool b)) (decide_eq_true (by omega)),HW.out _ hb1⟩
  ·have i1:¬ (k:Int)<(P.length:Int):=by omega
   have HFF:=hid (HT.out fun j h h'=>HJ.out j h (by omega))
   clear HE HF HT
   cases hv:nameB nm <;> rw [hv] at HN HFF <;> clear hv
   ·go_wp2_with fail
    refine (HN.out _ HBW.out).mono ?_
    rintro _ W1 ⟨rfl,hb1⟩
    go_wp2_with fail
    go_ret
    exact ⟨by rw [HFF.out];rfl,HW.out _ hb1⟩
   ·rw [Bool.true_and] at HFF
    by_cases h64:P.length<=64
    ·have i3:(P.length:Int)<=64:=by omega
     rw [decide_eq_true h64] at HFF
     go_wp2_with fail
     refine (HN.out _ HBW.out).mono ?_
     rintro _ W1 ⟨rfl,hb1⟩
     obtain ⟨a0',a1'⟩:=HS.out W1 hb1
     go_wp2_with fail
     go_ret
     exact ⟨by rw [HFF.out];first|rfl|exact congrArg (fun b=>Ending.returned (.bool b)) (decide_eq_false (by omega))|exact congrArg (fun b=>Ending.returned (.bool b)) (decide_eq_true (by omega)),HW.out _ hb1⟩
    ·have i3:¬ (P.length:Int)<=64:=by omega
     rw [decide_eq_false h64] at HFF
     go_wp2_with fail
     refine (HN.out _ HBW.out).mono ?_
     rintro _ W1 ⟨rfl,hb1⟩
     obtain ⟨a0',a1'⟩:=HS.out W1 hb1
     go_wp2_with fail
     go_ret
     exact ⟨by rw [HFF.out];first|rfl|exact congrArg (fun b=>Ending.returned (.bool b)) (decide_eq_false (by omega))|exact congrArg (fun b=>Ending.returned (.bool b)) (decide_eq_true (by omega)),HW.out _ hb1⟩

set_option maxHeartbeats 8000000 in
set_option maxRecDepth 20000 in
theorem xoperMay_any {K:Ctx} {w:World} (he:Env K w) {x:Opr} {cs:List Value} (hx:OprAt K w cs x) (B:Bool) (hB:B=true↔MayOpr x) :
  Calls Tryz.prog 94 #[.agg cs.toArray] w (Rb B w):=by
 obtain ⟨ps,rfl,hp⟩:=hx
 obtain ⟨v1,rfl,hl1,h1⟩:=id hp
 obtain ⟨ao,cap,rfl⟩:=h1.form
 obtain ⟨w2,hw2⟩:∃ w2,w2=w.alloc (.cells #[.int .i64 x.kind,.int .i64 x.n,.string (str x.place.name),.slice ao x.place.path.length cap] 44):=⟨_,rfl⟩
 have hA:Below w.heap.size w w2:=by rw [hw2];exact alloc_one w _
 have hsz:w2.heap.size=w.heap.size+1:=by rw [hw2,size_alloc]
 have HB0:Hid (Below (w.heap.size+1) w2 (w.alloc (.cells #[.int .i64 x.kind,.int .i64 x.n,.string (str x.place.name),.slice ao x.place.path.length cap] 44))):=by show Below _ _ _;rw [← hw2];exact Below.refl _ _
 clear hw2
 have HW:Hid (∀ W,Below (w.heap.size+1) w2 W->Below w.heap.size w W):=fun W hb=>hA.trans (below_le hb (by omega))
 have HK:∀ W,Below (w.heap.size+1) w2 W->Below K.C w W:=fun W hb=>below_le (HW.out W hb) he.C
 have HZ:∀ W,Below (w.heap.size+1) w2 W->w.heap.size+1<=W.heap.size:=fun W hb=>by have:=hb.size;omega
 have HN:Hid (∀ B:Bool,(B=true↔x.place=Pl.zero)->∀ W,Below (w.heap.size+1) w2 W->Calls Tryz.prog 122 #[.agg #[.string (str x.place.name),.slice ao x.place.path.length cap]] W fun ev w'=>ev=.returned (.bool B)/\Below (w.heap.size+1) w2 w'):=by
  intro B hB W hb
  refine (xnowhere_any (hp.below (HK W hb)) B hB).mono ?_
  rintro _ _ ⟨rfl,h⟩
  exact ⟨rfl,hb.trans (below_le h (HZ W hb))⟩
 have HP:Hid (∀ B:Bool,(B=true↔MayPl x.place)->∀ W,Below (w.heap.size+1) w2 W->Calls Tryz.prog 92 #[.agg #[.string (str x.place.name),.slice ao x.place.path.length cap]] W fun ev w'=>ev=.returned (.bool B)/\Below (w.heap.size+1) w2 w'):=by
  intro B hB W hb
  refine (xplaceMay_any (he.below (HK W hb)) (hp.below (HK W hb)) B hB).mono ?_
  rintro _ _ ⟨rfl,h⟩
  exact ⟨rfl,hb.trans (below_le h (HZ W hb))⟩
 have HBB:Hid (B=true↔MayOpr x):=hB
 clear hB hp hl1 h1 hA hsz HK HZ he
 by_cases k1:x.kind=1
 ·have z0:True:=trivial
  have b1:(x.kind == 1)=true:=by rw [k1];rfl
  have HBX:Hid (B=true↔0<=x.n/\x.n<=2147483647/\x.place=Pl.zero):=by
   show _↔_
   rw [HBB.out]
   constructor
   ·rintro (⟨_,h⟩|⟨h,_⟩|⟨h,_⟩)
    ·exact h
    ·omega
    ·omega
   ·exact fun h=>.inl ⟨k1,h⟩
  clear HBB HP k1
  by_cases e1:0<=x.n
  rotate_left
  ·have HF:Hid (B=false):=bool_false HBX.out (fun h=>e1 h.1)
   clear HBX HN
   generalize x.kind=kd,x.n=nn,str x.place.name=S,x.place.path.length=n1 at *
   go_enter Tryz.func94,Tryz.ntmps94
   go_wp2_with fail
   go_ret
   exact ⟨by rw [HF.out];rfl,HW.out _ HB0.out⟩
  by_cases e2:x.n<=2147483647
  rotate_left
  ·have HF:Hid (B=false):=bool_false HBX.out (fun h=>e2 h.2.1)
   clear HBX HN
   generalize x.kind=kd,x.n=nn,str x.place.name=S,x.place.path.length=n1 at *
   go_enter Tryz.func94,Tryz.ntmps94
   go_wp2_with fail
   go_ret
   exact ⟨by rw [HF.out];rfl,HW.out _ HB0.out⟩
  have HC:=hid (HN.out B (by rw [HBX.out];exact ⟨fun h=>h.2.2,fun h=>⟨e1,e2,h⟩⟩))
  clear HBX HN
  generalize x.kind=kd,x.n=nn,str x.place.name=S,x.place.path.length=n1 at *
  go_enter Tryz.func94,Tryz.ntmps94
  go_wp2_with fail
  refine (HC.out _ HB0.out).mono ?_
  rintro _ W1 ⟨rfl,hb1⟩
  go_wp2_with fail
  go_ret
  exact ⟨by cases B <;> rfl,HW.out _ hb1⟩
 by_cases k2:x.kind=2
 ·have z0:True:=trivial
  have b1:(x.kind == 1)=false:=by rw [k2];rfl
  have b2:(x.kind == 2)=true:=by rw [k2];rfl
  have HBX:Hid (B=true↔(x.n=0∨x.n=1)/\x.place=Pl.zero):=by
   show _↔_
   rw [HBB.out]
   constructor
   ·rintro (⟨h,_⟩|⟨_,h⟩|⟨h,_⟩)
    ·omega
    ·exact h
    ·omega
   ·exact fun h=>.inr (.inl ⟨k2,h⟩)
  clear HBB HP k1 k2
  by_cases e1:x.n=0
  ·have HC:=hid (HN.out B (by rw [HBX.out];exact ⟨fun h=>h.2,fun h=>⟨.inl e1,h⟩⟩))
   have q1:(x.n == 0)=true:=by rw [e1];rfl
   clear HBX HN e1
   generalize x.kind=kd,x.n=nn,str x.place.name=S,x.place.path.length=n1 at *
   go_enter Tryz.func94,Tryz.ntmps94
   go_wp2_with fail
   refine (HC.out _ HB0.out).mono ?_
   rintro _ W1 ⟨rfl,hb1⟩
   go_wp2_with fail
   go_ret
   exact ⟨by cases B <;> rfl,HW.out _ hb1⟩
  have q1:(x.n == 0)=false:=by simp [e1]
  by_cases e2:x.n=1
  ·have HC:=hid (HN.out B (by rw [HBX.out];exact ⟨fun h=>h.2,fun h=>⟨.inr e2,h⟩⟩))
   have q2:(x.n == 1)=true:=by rw [e2];rfl
   clear HBX HN e1 e2
   generalize x.kind=kd,x.n=nn,str x.place.name=S,x.place.path.length=n1 at *
   go_enter Tryz.func94,Tryz.ntmps94
   go_wp2_with fail
   refine (HC.out _ HB0.out).mono ?_
   rintro _ W1 ⟨rfl,hb1⟩
   go_wp2_with fail
   go_ret
   exact ⟨by cases B <;> rfl,HW.out _ hb1⟩
  have q2:(x.n == 1)=false:=by simp [e2]
  have HF:Hid (B=false):=bool_false HBX.out (fun h=>by rcases h.1 with h|h;exact e1 h;exact e2 h)
  clear HBX HN e1 e2
  generalize x.kind=kd,x.n=nn,str x.place.name=S,x.place.path.length=n1 at *
  go_enter Tryz.func94,Tryz.ntmps94
  go_wp2_with fail
  go_ret
  exact ⟨by rw [HF.out];rfl,HW.out _ HB0.out⟩
 by_cases k3:x.kind=3
 ·have z0:True:=trivial
  have b1:(x.kind == 1)=false:=by rw [k3];rfl
  have b2:(x.kind == 2)=false:=by rw [k3];rfl
  have b3:(x.kind == 3)=true:=by rw [k3];rfl
  have HBX:Hid (B=true↔x.n=0/\MayPl x.place):=by
   show _↔_
   rw [HBB.out]
   constructor
   ·rintro (⟨h,_⟩|⟨h,_⟩|⟨_,h⟩)
    ·omega
    ·omega
    ·exact h
   ·exact fun h=>.inr (.inr ⟨k3,h⟩)
  clear HBB HN k1 k2 k3
  by_cases e1:x.n=0
  ·have HC:=hid (HP.out B (by rw [HBX.out];exact ⟨fun h=>h.2,fun h=>⟨e1,h⟩⟩))
   have q1:(x.n == 0)=true:=by rw [e1];rfl
   clear HBX HP e1
   generalize x.kind=kd,x.n=nn,str x.place.name=S,x.place.path.length=n1 at *
   go_enter Tryz.func94,Tryz.ntmps94
   go_wp2_with fail
   refine (HC.out _ HB0.out).mono ?_
   rintro _ W1 ⟨rfl,hb1⟩
   go_wp2_with fail
   go_ret
   exact ⟨by cases B <;> rfl,HW.out _ hb1⟩
  have q1:(x.n == 0)=false:=by simp [e1]
  have HF:Hid (B=false):=bool_false HBX.out (fun h=>e1 h.1)
  clear HBX HP e1
  generalize x.kind=kd,x.n=nn,str x.place.name=S,x.place.path.length=n1 at *
  go_enter Tryz.func94,Tryz.ntmps94
  go_wp2_with fail
  go_ret
  exact ⟨by rw [HF.out];rfl,HW.out _ HB0.out⟩
 have HF:Hid (B=false):=bool_false HBB.out (by rintro (⟨h,_⟩|⟨h,_⟩|⟨h,_⟩) <;> omega)
 have b1:(x.kind == 1)=false:=by simp;omega
 have b2:(x.kind == 2)=false:=by simp;omega
 have b3:(x.kind == 3)=false:=by simp;omega
 clear HBB HN HP k1 k2 k3
 generalize x.kind=kd,x.n=nn,str x.place.name=S,x.place.path.length=n1 at *
 go_enter Tryz.func94,Tryz.ntmps94
 go_wp2_with fail
 go_ret
 exact ⟨by rw [HF.out];rfl,HW.out _ HB0.out⟩
end Go.Proofs.YtjenmmkamhplkaaGreat
