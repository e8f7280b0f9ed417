/- Part of the proof. -/
import Derived.Test.YtjenmmkamhplkaaGreatJqspMfd2
namespace Go.Proofs.YtjenmmkamhplkaaGreat
open Go.RowKit
def livesB (l:List Bs):Bool:=decide (l.length<=64) && l.all lifeB
set_option maxHeartbeats 2000000 in
theorem xlives_any {K:Ctx} (hK:K.B<=1048576) {w:World} {va:Value} {la:List Bs} (ha:Strs K w va la) :
  Calls Tryz.prog 27 #[va] w fun ev w'=>ev=.returned (.bool (livesB la))/\w'=w:=by
 obtain ⟨aoA,capA,rfl,hcA,hbA,hA⟩:=ha.shape
 have hl9:la.length<=9223372036854775807:=by omega
 have HA:Hid (∀ i (h:i<la.length),∃ b o,aoA=some ⟨b,o,none⟩/\w.cell? ⟨b,o+i,none⟩=some (.string (str la[i]))/\la[i].length<=9223372036854775807):=by
  intro i h
  obtain ⟨b,o,e,_,cs,hl,hc,hx⟩:=hA i h
  have:=hc 0 (by omega)
  rw [hx.1] at this
  exact ⟨b,o,e,by simpa using this,Nat.le_trans hx.2 (Nat.le_trans hK (by omega))⟩
 have HB:Hid ((∀ j (h:j<la.length),j<65->lifeB la[j]=true)->livesB la=decide (la.length<=64)):=by
  intro h
  unfold livesB
  by_cases h64:la.length<=64
  ·rw [decide_eq_true h64,Bool.true_and,List.all_eq_true]
   intro x hx
   obtain ⟨j,hj,rfl⟩:=List.getElem_of_mem hx
   exact h j hj (by omega)
  ·rw [decide_eq_false h64,Bool.false_and]
 have HF:Hid (∀ j (h:j<la.length),lifeB la[j]=false->livesB la=false):=by
  intro j h hj
  unfold livesB
  have e:la.all lifeB=false:=Bool.eq_false_iff.2 fun h'=>by
   rw [List.all_eq_true.1 h' _ (List.getElem_mem h)] at hj
   cases hj
  rw [e,Bool.and_false]
 clear hA ha hbA
 generalize livesB la=R at *
 go_enter Tryz.func27,Tryz.ntmps27
 go_wp2_with fail
 go_loopw [3] (fun i wr=>∃ k:Nat,k<=la.length/\k<=65/\i=.int .i64 k/\(∀ j (h:j<la.length),j<k->lifeB la[j]=true)/\wr=w) (fun i _=>la.length - (intOf i).toNat)
 case atStart=>exact ⟨0,by omega,by omega,rfl,fun j _ h=>by omega,rfl⟩
 case round =>
  obtain ⟨k,hk,hk5,rfl,hj,rfl⟩:=hrel
  have HJ:=hid0 hj
  clear hj
  by_cases h3:k<la.length
  ·by_cases h5:k<65
   ·obtain ⟨b,o,e,c1,hl⟩:=HA.out k h3
    subst e
    have i1:(k:Int)<(la.length:Int):=by omega
    have i2:(k:Int)<65:=by omega
    have HC:=hid (xlife_any la[k] hl)
    cases hv:lifeB la[k] with
    | true =>
     have HJ':Hid (∀ j (h:j<la.length),j<k+1->lifeB la[j]=true):=by
      intro j h hjk
      rcases Nat.lt_or_ge j k with h'|h'
      ·exact HJ.out j h h'
      ·obtain rfl:j=k:=by omega
       exact hv
     rw [hv] at HC
     clear hv
     generalize str la[k]=SA at *
     go_wp2_with (go_at_call 56;refine (HC.out _).mono ?_;rintro _ _ ⟨rfl,rfl⟩)
     go_roundw
     case rel=>exact ⟨k+1,by omega,by omega,by go_num,HJ'.out,by trivial⟩
     case measure=>simp [intOf];omega
    | false =>
     have hR:=HF.out k h3 hv
     rw [hv] at HC
     clear hv
     generalize str la[k]=SA at *
     subst hR
     go_wp2_with (go_at_call 56;refine (HC.out _).mono ?_;rintro _ _ ⟨rfl,rfl⟩)
     go_ret
     exact ⟨rfl,rfl⟩
   ·have hR:=HB.out fun j h h'=>HJ.out j h (by omega)
    have e:decide (la.length<=64)=false:=by rw [decide_eq_false];omega
    rw [e] at hR
    subst hR
    have i1:(k:Int)<(la.length:Int):=by omega
    have i2:¬ (k:Int)<65:=by omega
    have i3:¬ (la.length:Int)<=64:=by omega
    go_wp2_with fail
    go_ret
    exact ⟨rfl,rfl⟩
  ·have hR:=HB.out fun j h h'=>HJ.out j h (by omega)
   have i1:¬ (k:Int)<(la.length:Int):=by omega
   by_cases h4:la.length<=64
   ·rw [decide_eq_true h4] at hR
    subst hR
    have i3:(la.length:Int)<=64:=by omega
    go_wp2_with fail
    go_ret
    exact ⟨rfl,rfl⟩
   ·rw [decide_eq_false h4] at hR
    subst hR
    have i3:¬ (la.length:Int)<=64:=by omega
    go_wp2_with fail
    go_ret
    exact ⟨rfl,rfl⟩
def colon (s:Bs) (i:Nat):Bool:=(s.drop i).take 2 == [58,58]
theorem occ_colon (s:Bs) (i:Nat):Lib.occAt s [58,58] i=(decide (i+2<=s.length) && colon s i):=by
 by_cases h:i+2<=s.length
 ·rw [Lib.occAt_iff_take s [58,58] i h,decide_eq_true h,Bool.true_and];rfl
 ·rw [decide_eq_false h,Bool.false_and]
  refine Bool.eq_false_iff.2 fun h'=>?_
  rcases Lib.occAt_room h' with h2|h2
  ·exact h h2
  ·cases h2
theorem cut_none (s:Bs) (h:∀ j,j+1<s.length->colon s j=false):Lib.cut s [58,58]=(s,[],false):=by
 have e:Lib.index s [58,58]=-1:=Lib.index_none fun j _=>by
  rw [occ_colon]
  by_cases hj:j+2<=s.length
  ·rw [h j (by omega),Bool.and_false]
  ·rw [decide_eq_false hj,Bool.false_and]
 unfold Lib.cut
 rw [e,if_neg (by decide)]
theorem cut_some (s:Bs) (i:Nat) (hi:i+1<s.length) (hc:colon s i=true) (h:∀ j,j<i->colon s j=false):Lib.cut s [58,58]=(s.take i,s.drop (i+2),true):=by
 have e:Lib.index s [58,58]=i:=Lib.index_first (by omega) (by rw [occ_colon,hc,decide_eq_true (by omega)];rfl) fun j hj=>by
  rw [occ_colon,h j hj,Bool.and_false]
 unfold Lib.cut
 rw [e,if_pos (by omega)]
 rfl
theorem colon_beq (s:Bs) (i:Nat):((str ((s.drop i).take 2)).toList == [58,58])=colon s i:=by
 have:=str_beq ((s.drop i).take 2) [58,58]
 have e:(str [58,58]).toList=[58,58]:=by unfold str;rw [ByteArray.toList_mk]
 rw [e] at this
 rw [this]
 unfold colon
 by_cases h:(s.drop i).take 2=[58,58]
 ·rw [h];rfl
 ·rw [decide_eq_false h,beq_eq_false_iff_ne.2 h]
set_option maxHeartbeats 2000000 in
theorem xlong_any (s:Bs) (hs:s.length<=1048576) (w:World) :
  Calls Tryz.prog 91 #[.string (str s)] w (Rb (farB s) w):=by
 have HM:Hid (∀ a:Nat,(str s).extract a (a+2)=str ((s.drop a).take 2)):=fun a=>by rw [str_mid];congr 3;omega
 have HT:Hid (∀ b:Nat,(str s).extract 0 b=str (s.take b)):=fun b=>str_to s b
 have HD:Hid (∀ b:Nat,(str s).extract b s.length=str (s.drop b)):=fun b=>str_from s b
 have HN:Hid (∀ (l:Bs) (w:World),l.length<=s.length->Calls Tryz.prog 26 #[.string (str l)] w (Rb (nameB l) w)):=fun l w h=>xname_any l (by omega) w
 have HB:Hid (∀ j,((str ((s.drop j).take 2)).toList == [58,58])=colon s j):=colon_beq s
 have HR:Hid ((∀ j,j+1<s.length->colon s j=false)->farB s=nameB s):=fun h=>by
  unfold farB
  rw [cut_none s h]
  simp
 have HS:Hid (∀ i,i+1<s.length->colon s i=true->(∀ j,j<i->colon s j=false)->farB s=(nameB (s.take i) && nameB (s.drop (i+2)))):=fun i hi hc h=>by
  unfold farB
  rw [cut_some s i hi hc h]
  simp
 have h0:=HN.out s w (Nat.le_refl _)
 obtain ⟨S,hS⟩:∃ S,S=str s:=⟨_,rfl⟩
 have hSs:S.size=s.length:=by rw [hS,str_size]
 have H0:=hid h0
 clear h0
 rw [← hS] at HM HT HD H0 ⊢
 clear hS
 generalize farB s=R at *
 go_enter Tryz.func91,Tryz.ntmps91
 go_wp2_with fail
 go_loopw [3] (fun i wr=>∃ k:Nat,k<=s.length/\i=.int .i64 k/\(∀ j,j<k->colon s j=false)/\wr=w) (fun i _=>s.length - (intOf i).toNat)
 case atStart=>exact ⟨0,by omega,rfl,fun j h=>by omega,rfl⟩
 case round =>
  obtain ⟨k,hk,rfl,hj,rfl⟩:=hrel
  have HJ:=hid hj
  clear hj
  by_cases h3:k+1<s.length
  ·have i1:(k:Int)+1<(s.length:Int):=by omega
   have hE:=HM.out k
   have q:=HB.out k
   cases hv:colon s k with
   | false =>
    rw [hv] at q
    have HJ':Hid (∀ j,j<k+1->colon s j=false):=by
     intro j hjk
     rcases Nat.lt_or_ge j k with h'|h'
     ·exact HJ.out j h'
     ·obtain rfl:j=k:=by omega
      exact hv
    clear hv HM HT HD HB HN HR HS H0
    generalize str ((s.drop k).take 2)=S1 at *
    go_wp2_with fail
    go_roundw
    case rel=>exact ⟨k+1,by omega,by go_num,HJ'.out,by trivial⟩
    case measure=>simp [intOf];omega
   | true =>
    rw [hv] at q
    have hT:=HT.out k
    have hD:=HD.out (k+2)
    have c1:=hid (HN.out (s.take k) · (by simp;omega))
    have c2:=hid (HN.out (s.drop (k+2)) · (by simp))
    have hR:=HS.out k h3 hv HJ.out
    have HE:=hid hR
    clear hv HM HT HD HB HN HR HS H0 HJ hR
    generalize str ((s.drop k).take 2)=S1,str (s.take k)=S2,str (s.drop (k+2))=S3,nameB (s.take k)=b1,nameB (s.drop (k+2))=b2 at *
    cases b1 with
    | false =>
     go_wp2_with (go_at_call 26;refine (c1.out _).mono ?_;rintro _ _ ⟨rfl,hw⟩)
     go_ret
     exact ⟨by rw [HE.out];rfl,hw⟩
    | true =>
     go_wp2_with fail
     go_at_call 26
     refine (c1.out _).mono ?_
     rintro _ w1 ⟨rfl,hw⟩
     go_wp2_with fail
     go_at_call 26
     refine (c2.out _).mono ?_
     rintro _ w2 ⟨rfl,hw2⟩
     go_wp2_with fail
     go_ret
     exact ⟨by rw [HE.out];simp,hw.trans (below_le hw2 hw.size)⟩
  ·have i1:¬ (k:Int)+1<(s.length:Int):=by omega
   have HE:=hid (HR.out fun j h=>HJ.out j (by omega))
   generalize nameB s=b1 at *
   go_wp2_with (go_at_call 26;refine H0.out.mono ?_;rintro _ _ ⟨rfl,hw⟩)
   go_ret
   exact ⟨by rw [HE.out];rfl,hw⟩

set_option maxHeartbeats 8000000
set_option maxRecDepth 20000
theorem list4 {l:List Value} (h:l.length=4):∃ a0 a1 a2 a3:Value,l=[a0,a1,a2,a3]:=by
 match l,h with
 | [a0,a1,a2,a3],_=>exact ⟨_,_,_,_,rfl⟩
theorem xplace_any  {K:Ctx} {w:World} (hC:K.C<=w.heap.size) {x y:Pl} {cs cs':List Value} (hx:PlAt K w cs x) (hy:PlAt K w cs' y) (B:Bool) (hB:B=true↔x=y) :
  Calls Tryz.prog 102 #[.agg cs.toArray,.agg cs'.toArray] w fun ev w'=>ev=.returned (.bool B)/\Below w.heap.size w w':=by
 obtain ⟨v1,rfl,hl1,h1⟩:=hx
 obtain ⟨u1,rfl,hl2,g1⟩:=hy
 obtain ⟨a1,c1,e1'⟩:=h1.form
 obtain ⟨b1,d1,e2'⟩:=g1.form
 obtain ⟨w2,hw2⟩:∃ w2,w2=((w.alloc (.cells #[.string (str x.name),v1] 42)).alloc (.cells #[.string (str y.name),u1] 42)):=⟨_,rfl⟩
 have hA:Below w.heap.size w w2:=by rw [hw2];exact alloc_two w _ _
 have hsz:w2.heap.size=w.heap.size+2:=by rw [hw2,size_alloc,size_alloc]
 have R1:Row w2 w.heap.size 42 [.string (str x.name),v1]:=by rw [hw2];exact (Row.new w 42 [.string (str x.name),v1]).alloc _
 have R2:Row w2 (w.heap.size+1) 42 [.string (str y.name),u1]:=by
  have:=Row.new (w.alloc (.cells #[.string (str x.name),v1] 42)) 42 [.string (str y.name),u1]
  rw [size_alloc] at this;rw [hw2];exact this
 have HB0:Hid (Below (w.heap.size+2) w2 ((w.alloc (.cells #[.string (str x.name),v1] 42)).alloc (.cells #[.string (str y.name),u1] 42))):=by show Below _ _ _;rw [← hw2];exact Below.refl _ _
 clear hw2
 have HS:Hid (∀ W,Below (w.heap.size+2) w2 W->W.cell? ⟨w.heap.size,0,none⟩=some (.string (str x.name))/\W.cell? ⟨w.heap.size,1,none⟩=some (v1)/\W.cell? ⟨w.heap.size+1,0,none⟩=some (.string (str y.name))/\W.cell? ⟨w.heap.size+1,1,none⟩=some (u1)):=by
  intro W hb
  have r1:=R1.below hb (by omega)
  have r2:=R2.below hb (by omega)
  exact ⟨r1.cell 0,r1.cell 1,r2.cell 0,r2.cell 1⟩
 have HW:Hid (∀ W,Below (w.heap.size+2) w2 W->Below w.heap.size w W):=fun W hb=>hA.trans (below_le hb (by omega))
 have HK:∀ W,Below (w.heap.size+2) w2 W->Below K.C w W:=fun W hb=>below_le (HW.out W hb) hC
 have HC:∀ W,Below (w.heap.size+2) w2 W->K.C<=W.heap.size/\w.heap.size+2<=W.heap.size:=fun W hb=>by have:=hb.size;omega
 have HB:Hid (B=true↔x=y):=hB
 clear hB
 have q1:Hid (∀ (B:Bool),(B=true↔x.path=y.path)->∀ W,Below (w.heap.size+2) w2 W->Calls Tryz.prog 20 #[v1,u1] W fun ev w'=>ev=.returned (.bool B)/\Below (w.heap.size+2) w2 w'):=by
  intro B hB W hb
  refine (texts_any (h1.below (HK W hb)) (g1.below (HK W hb)) B hB).mono ?_
  rintro _ _ ⟨rfl,m,rfl⟩
  exact ⟨rfl,hb.trans (Below.drewN _ _ _)⟩
 by_cases e0:x.name=y.name
 rotate_left
 ·have HF:Hid (B=false):=bool_false HB.out (fun h=>e0 (by rw [h]))
  have p0:((str x.name).toList == (str y.name).toList)=false:=by rw [str_beq];simp [e0]
  clear q1 e0 HB HK HC R1 R2 hA hsz hl1 hl2 h1 g1 
  subst e1' e2'
  generalize str x.name=S1,str y.name=S2,x.path.length=n1,y.path.length=n2 at *
  go_enter Tryz.func102,Tryz.ntmps102
  go_wp2_with fail
  go_ret
  exact ⟨by rw [HF.out];rfl,HW.out _ (by first|assumption|exact HB0.out)⟩
 by_cases e1:x.path=y.path
 rotate_left
 ·have HF:Hid (B=false):=bool_false HB.out (fun h=>e1 (by rw [h]))
  have p0:((str x.name).toList == (str y.name).toList)=true:=by rw [str_beq];simp [e0]
  have r1:=hid0 (q1.out false ⟨fun h=>(by cases h),fun h=>absurd h e1⟩)
  clear q1 e0 e1 HB HK HC R1 R2 hA hsz hl1 hl2 h1 g1 
  subst e1' e2'
  generalize str x.name=S1,str y.name=S2,x.path.length=n1,y.path.length=n2 at *
  go_enter Tryz.func102,Tryz.ntmps102
  go_wp2_with fail
  refine (r1.out _ HB0.out).mono ?_
  rintro _ W1 ⟨rfl,hb1⟩
  obtain ⟨a0,a1,b0,b1⟩:=HS.out W1 hb1
  go_wp2_with fail
  go_ret
  exact ⟨by rw [HF.out];rfl,HW.out _ (by first|assumption|exact HB0.out)⟩
 have HF:Hid (B=true):=by
  refine HB.out.2 ?_
  clear q1 HB HS HW HK HC R1 R2 hA hsz hl1 hl2 h1 g1
  cases x;cases y;simp only at e0 e1;subst e0 e1;rfl
 have p0:((str x.name).toList == (str y.name).toList)=true:=by rw [str_beq];simp [e0]
 have r1:=hid0 (q1.out true ⟨fun _=>e1,fun _=>rfl⟩)
 clear q1 e0 e1 HB HK HC R1 R2 hA hsz hl1 hl2 h1 g1 
 subst e1' e2'
 generalize str x.name=S1,str y.name=S2,x.path.length=n1,y.path.length=n2 at *
 go_enter Tryz.func102,Tryz.ntmps102
 go_wp2_with fail
 refine (r1.out _ HB0.out).mono ?_
 rintro _ W1 ⟨rfl,hb1⟩
 obtain ⟨a0,a1,b0,b1⟩:=HS.out W1 hb1
 go_wp2_with fail
 go_ret
 exact ⟨by rw [HF.out];rfl,HW.out _ (by first|assumption|exact HB0.out)⟩
theorem xoper_any  {K:Ctx} {w:World} (hC:K.C<=w.heap.size) {x y:Opr} {cs cs':List Value} (hx:OprAt K w cs x) (hy:OprAt K w cs' y) (B:Bool) (hB:B=true↔x=y) :
  Calls Tryz.prog 104 #[.agg cs.toArray,.agg cs'.toArray] w fun ev w'=>ev=.returned (.bool B)/\Below w.heap.size w w':=by
 obtain ⟨xs,rfl,k1⟩:=hx
 obtain ⟨ys,rfl,k2⟩:=hy
 obtain ⟨v1,rfl,hl1,h1⟩:=id k1
 obtain ⟨u1,rfl,hl2,g1⟩:=id k2
 obtain ⟨a1,c1,e1'⟩:=h1.form
 obtain ⟨b1,d1,e2'⟩:=g1.form
 obtain ⟨w2,hw2⟩:∃ w2,w2=((w.alloc (.cells #[.int .i64 x.kind,.int .i64 x.n,.string (str x.place.name),v1] 44)).alloc (.cells #[.int .i64 y.kind,.int .i64 y.n,.string (str y.place.name),u1] 44)):=⟨_,rfl⟩
 have hA:Below w.heap.size w w2:=by rw [hw2];exact alloc_two w _ _
 have hsz:w2.heap.size=w.heap.size+2:=by rw [hw2,size_alloc,size_alloc]
 have R1:Row w2 w.heap.size 44 [.int .i64 x.kind,.int .i64 x.n,.string (str x.place.name),v1]:=by rw [hw2];exact (Row.new w 44 [.int .i64 x.kind,.int .i64 x.n,.string (str x.place.name),v1]).alloc _
 have R2:Row w2 (w.heap.size+1) 44 [.int .i64 y.kind,.int .i64 y.n,.string (str y.place.name),u1]:=by
  have:=Row.new (w.alloc (.cells #[.int .i64 x.kind,.int .i64 x.n,.string (str x.place.name),v1] 44)) 44 [.int .i64 y.kind,.int .i64 y.n,.string (str y.place.name),u1]
  rw [size_alloc] at this;rw [hw2];exact this
 have HB0:Hid (Below (w.heap.size+2) w2 ((w.alloc (.cells #[.int .i64 x.kind,.int .i64 x.n,.string (str x.place.name),v1] 44)).alloc (.cells #[.int .i64 y.kind,.int .i64 y.n,.string (str y.place.name),u1] 44))):=by show Below _ _ _;rw [← hw2];exact Below.refl _ _
 clear hw2
 have HS:Hid (∀ W,Below (w.heap.size+2) w2 W->W.cell? ⟨w.heap.size,0,none⟩=some (.int .i64 x.kind)/\W.cell? ⟨w.heap.size,1,none⟩=some (.int .i64 x.n)/\W.cell? ⟨w.heap.size,2,none⟩=some (.string (str x.place.name))/\W.cell? ⟨w.heap.size,3,none⟩=some (v1)/\W.cell? ⟨w.heap.size+1,0,none⟩=some (.int .i64 y.kind)/\W.cell? ⟨w.heap.size+1,1,none⟩=some (.int .i64 y.n)/\W.cell? ⟨w.heap.size+1,2,none⟩=some (.string (str y.place.name))/\W.cell? ⟨w.heap.size+1,3,none⟩=some (u1)):=by
  intro W hb
  have r1:=R1.below hb (by omega)
  have r2:=R2.below hb (by omega)
  exact ⟨r1.cell 0,r1.cell 1,r1.cell 2,r1.cell 3,r2.cell 0,r2.cell 1,r2.cell 2,r2.cell 3⟩
 have HW:Hid (∀ W,Below (w.heap.size+2) w2 W->Below w.heap.size w W):=fun W hb=>hA.trans (below_le hb (by omega))
 have HK:∀ W,Below (w.heap.size+2) w2 W->Below K.C w W:=fun W hb=>below_le (HW.out W hb) hC
 have HC:∀ W,Below (w.heap.size+2) w2 W->K.C<=W.heap.size/\w.heap.size+2<=W.heap.size:=fun W hb=>by have:=hb.size;omega
 have HB:Hid (B=true↔x=y):=hB
 clear hB
 have q2:Hid (∀ (B:Bool),(B=true↔x.place=y.place)->∀ W,Below (w.heap.size+2) w2 W->Calls Tryz.prog 102 #[.agg #[.string (str x.place.name),v1],.agg #[.string (str y.place.name),u1]] W fun ev w'=>ev=.returned (.bool B)/\Below (w.heap.size+2) w2 w'):=by
  intro B hB W hb
  refine (xplace_any (HC W hb).1 (k1.below (HK W hb)) (k2.below (HK W hb)) B hB).mono ?_
  rintro _ _ ⟨rfl,h⟩
  exact ⟨rfl,hb.trans (below_le h (HC W hb).2)⟩
 by_cases e0:x.kind=y.kind
 rotate_left
 ·have HF:Hid (B=false):=bool_false HB.out (fun h=>e0 (by rw [h]))
  have p0:(x.kind == y.kind)=false:=by simp [e0]
  clear q2 e0 HB HK HC R1 R2 hA hsz hl1 hl2 h1 g1 k1 k2 
  subst e1' e2'
  generalize x.kind=s0,y.kind=t0,x.n=s1,y.n=t1,str x.place.name=S1,str y.place.name=S2,x.place.path.length=n1,y.place.path.length=n2 at *
  go_enter Tryz.func104,Tryz.ntmps104
  go_wp2_with fail
  go_ret
  exact ⟨by rw [HF.out];rfl,HW.out _ (by first|assumption|exact HB0.out)⟩
 by_cases e1:x.n=y.n
 rotate_left
 ·have HF:Hid (B=false):=bool_false HB.out (fun h=>e1 (by rw [h]))
  have p0:(x.kind == y.kind)=true:=by simp [e0]
  have p1:(x.n == y.n)=false:=by simp [e1]
  clear q2 e0 e1 HB HK HC R1 R2 hA hsz hl1 hl2 h1 g1 k1 k2 
  subst e1' e2'
  generalize x.kind=s0,y.kind=t0,x.n=s1,y.n=t1,str x.place.name=S1,str y.place.name=S2,x.place.path.length=n1,y.place.path.length=n2 at *
  go_enter Tryz.func104,Tryz.ntmps104
  go_wp2_with fail
  go_ret
  exact ⟨by rw [HF.out];rfl,HW.out _ (by first|assumption|exact HB0.out)⟩
 by_cases e2:x.place=y.place
 rotate_left
 ·have HF:Hid (B=false):=bool_false HB.out (fun h=>e2 (by rw [h]))
  have p0:(x.kind == y.kind)=true:=by simp [e0]
  have p1:(x.n == y.n)=true:=by simp [e1]
  have r2:=hid0 (q2.out false ⟨fun h=>(by cases h),fun h=>absurd h e2⟩)
  clear q2 e0 e1 e2 HB HK HC R1 R2 hA hsz hl1 hl2 h1 g1 k1 k2 
  subst e1' e2'
  generalize x.kind=s0,y.kind=t0,x.n=s1,y.n=t1,str x.place.name=S1,str y.place.name=S2,x.place.path.length=n1,y.place.path.length=n2 at *
  go_enter Tryz.func104,Tryz.ntmps104
  go_wp2_with fail
  refine (r2.out _ HB0.out).mono ?_
  rintro _ W2 ⟨rfl,hb2⟩
  obtain ⟨a0,a1,a2,a3,b0,b1,b2,b3⟩:=HS.out W2 hb2
  go_wp2_with fail
  go_ret
  exact ⟨by rw [HF.out];rfl,HW.out _ (by first|assumption|exact HB0.out)⟩
 have HF:Hid (B=true):=by
  refine HB.out.2 ?_
  clear q2 HB HS HW HK HC R1 R2 hA hsz hl1 hl2 h1 g1 k1 k2
  cases x;cases y;simp only at e0 e1 e2;subst e0 e1 e2;rfl
 have p0:(x.kind == y.kind)=true:=by simp [e0]
 have p1:(x.n == y.n)=true:=by simp [e1]
 have r2:=hid0 (q2.out true ⟨fun _=>e2,fun _=>rfl⟩)
 clear q2 e0 e1 e2 HB HK HC R1 R2 hA hsz hl1 hl2 h1 g1 k1 k2 
 subst e1' e2'
 generalize x.kind=s0,y.kind=t0,x.n=s1,y.n=t1,str x.place.name=S1,str y.place.name=S2,x.place.path.length=n1,y.place.path.length=n2 at *
 go_enter Tryz.func104,Tryz.ntmps104
 go_wp2_with fail
 refine (r2.out _ HB0.out).mono ?_
 rintro _ W2 ⟨rfl,hb2⟩
 obtain ⟨a0,a1,a2,a3,b0,b1,b2,b3⟩:=HS.out W2 hb2
 go_wp2_with fail
 go_ret
 exact ⟨by rw [HF.out];rfl,HW.out _ (by first|assumption|exact HB0.out)⟩
end Go.Proofs.YtjenmmkamhplkaaGreat
