/- Part of the proof. -/
import Derived.Test.YtjenmmkamhplkaaGreatQqspYrd
import Derived.Test.YtjenmmkamhplkaaGreatQqspYty
import Derived.Test.YtjenmmkamhplkaaGreatQqspWlk
import Derived.Test.YtjenmmkamhplkaaGreatJqspStm2
namespace Go.Proofs.YtjenmmkamhplkaaGreat
open Go.RowKit
set_option maxHeartbeats 16000000
set_option maxRecDepth 20000
def Lands (fa:Act) (wf:World):Exit->Act->World->Prop:=fun e a w=>e=.normal/\a=fa/\w=wf
theorem wp_seq_to {P:Program} {x y:Code} {Q:Exit->Act->World->Prop} {a fa:Act} {w wf:World} (h1:x.wp P (Lands fa wf) a w) (h2:y.wp P Q fa wf):(x.seq y).wp P Q a w:=by
 refine wp_seq (wp_mono h1 ?_)
 rintro _ _ _ ⟨rfl,rfl,rfl⟩
 exact h2
def XStC (r:Nat):Prop:=∀ {K:Ctx} {w:World},Env K w->∀ {n d:Nat},d+r=65->∀ {v:Value} {l:List St},Ar 32 496 (StAt n K w) K w v l->∀ (B:Bool),(B=true↔MayBlk r l) ->
  Calls Tryz.prog 59 #[v,.int .i64 (d:Int)] w (Rb B w)
theorem xst_zero:XStC 0:=by
 intro K w he n d hd v l hx B hB
 have HF:Hid (B=false):=bool_false hB fun h=>h
 obtain rfl:d=65:=by omega
 clear hx hB he hd
 go_enter Tryz.func59,Tryz.ntmps59
 go_wp2_with fail
 go_ret
 exact ⟨by rw [HF.out];rfl,Below.refl _ _⟩
theorem xst_step {m:Nat} (ih:XStC m):XStC (m+1):=by
 intro K w he n d hd v l hx B hB
 obtain ⟨ao,cap,rfl,hcp,hbz,HA⟩:=hx.shape
 have hl9:l.length<=9223372036854775807:=by omega
 have hd64:¬ (d:Int) > 64:=by omega
 have hdu:d<=64:=by omega
 have HB:=hid hB
 have HE:=hid he
 have HD:=hid hd
 have HR:Hid (∀ i (h:i<l.length) (y:World),Below K.C w y->∃ b o,ao=some ⟨b,o,none⟩/\∃ cs,cs.length=32/\y.rangeAt b (o+i * 32) cs/\StAt n K w cs l[i]):=by
  intro i h y hy
  obtain ⟨b,o,e,hbC,cs,hl,hcs,hx⟩:=HA i h
  refine ⟨b,o,e,cs,hl,fun j u hj=>?_,hx⟩
  have hj':j<32:=by rw [← hl];exact (List.getElem?_eq_some_iff.1 hj).1
  rw [hy.cell (p:=⟨b,o+i * 32+j,none⟩) hbC,hcs j hj']
  exact hj
 have IH:Hid (XStC m):=ih
 clear hB hx HA hbz he hd ih hcp
 go_enter Tryz.func59,Tryz.ntmps59
 go_wp2_with fail
 go_loopw [5] (fun i wr=>∃ k:Nat,k<=l.length/\i=.int .i64 k/\(∀ j (h:j<l.length),j<k->StOk (MayBlk m) l[j])/\Below w.heap.size w wr) (fun i _=>l.length - (intOf i).toNat)
 case atStart=>exact ⟨0,by omega,rfl,fun j _ h=>by omega,Below.refl _ _⟩
 case round =>
  obtain ⟨k,hk,rfl,hj,hbw⟩:=hrel
  have HJ:=hid hj
  have HBW:=hid hbw
  clear hj hbw
  by_cases h3:k<l.length
  rotate_left
  ·have i1:¬ (k:Int)<(l.length:Int):=by omega
   have HF:Hid (B=true):=HB.out.2 fun s hs=>by
    obtain ⟨j,hj,rfl⟩:=List.getElem_of_mem hs
    exact HJ.out j hj (by omega)
   clear HR IH HB HJ
   go_wp2_with fail
   go_ret
   exact ⟨by rw [HF.out];rfl,HBW.out⟩
  have i1:(k:Int)<(l.length:Int):=by omega
  refine wp_seq_to (fa:=_) (wf:=_) (by go_wp2_with fail;exact ⟨rfl,rfl,rfl⟩) ?_
  refine wp_seq_k fun K2 hK2=>?_
  refine wp_block ?_
  obtain ⟨b,o,rfl,cs,hl,rg,kx⟩:=HR.out k h3 wr (below_le HBW.out HE.out.C)
  have HF:Hid (¬ StOk (MayBlk m) l[k]->B=false):=fun h=>bool_false HB.out fun h'=>h (h' _ (List.getElem_mem h3))
  have HJ':Hid (StOk (MayBlk m) l[k]->∀ j (h:j<l.length),j<k+1->StOk (MayBlk m) l[j]):=by
   intro e j h hjk
   rcases Nat.lt_or_ge j k with h'|h'
   ·exact HJ.out j h h'
   ·obtain rfl:j=k:=by omega
    exact e
  cases n with
  | zero=>exact kx.elim
  | succ n =>
  refine round59 (m:=m) HE.out (d:=(d:Int)) (by omega) (by omega) (fun W hW v l hv B1 hB1=>(show XStC m from IH.out) (HE.out.below (below_le hW HE.out.C)) (d:=d+1) (by have:=HD.out;omega) hv B1 hB1) HBW.out h3 rg hl kx ?_ ?_
  ·intro hok W' z6 z7 z8 z9 H6 H7 H8 H9 I0 I1 I2 I3 I4 I5 I6 I7 I8 I9 J0 J1 J2 J3 J4 J5 J6 J7 J8 J9 K0 K1 K3 K4 K5 K6 K7 K8 K9 L0 L1 L2 L3 L4 L5 L6 L7 L8 L9 M0 M1 M2 M3 M4 M5 M6 M7 M8 M9 N0 N1 N2 N3 N4 N5 N6 N7 N8 N9 O0 O1 O2 O3 O4 O5 O6 O7 O8 O9 P0 P1 P2 P3 P4 P5 P6 P7 P8 P9 Q0 Q1 Q2 Q3 Q4 A0 A1 A2 A3 A4 A5 A6 A7 A8 A9 B0 B2 B3 B4 B5 B6 B7 B8 B9 C0 C1 C2 C3 C4 C5 C6 C7 C8 C9 D0 D1 D2 D3 D4 D5 D6 D7 D8 D9 E0 E1 E2 E3 E4 E5 E6 E7 E8 E9 F0 F1 F2 F3 F4 F5 F6 F7 F8 F9 G0 G1 G2 G3 G4 G5 G6 G7 G8 G9 H0 H1 H2 H3 H4 H5 hb
   have HJ2:=hid (HJ'.out hok)
   have HB2:=hid hb
   clear HR IH HJ HJ' HF hok hb rg kx
   show K2 _ _
   refine hK2 _ _ ?_
   clear hK2
   dsimp only
   go_wp2_with fail
   go_roundw
   case rel=>exact ⟨k+1,by omega,by go_num,HJ2.out,HB2.out⟩
   case measure=>simp [intOf];omega
  ·intro hno W' z6 z7 z8 z9 H6 H7 H8 H9 I0 I1 I2 I3 I4 I5 I6 I7 I8 I9 J0 J1 J2 J3 J4 J5 J6 J7 J8 J9 K0 K1 K3 K4 K5 K6 K7 K8 K9 L0 L1 L2 L3 L4 L5 L6 L7 L8 L9 M0 M1 M2 M3 M4 M5 M6 M7 M8 M9 N0 N1 N2 N3 N4 N5 N6 N7 N8 N9 O0 O1 O2 O3 O4 O5 O6 O7 O8 O9 P0 P1 P2 P3 P4 P5 P6 P7 P8 P9 Q0 Q1 Q2 Q3 Q4 A0 A1 A2 A3 A4 A5 A6 A7 A8 A9 B0 B2 B3 B4 B5 B6 B7 B8 B9 C0 C1 C2 C3 C4 C5 C6 C7 C8 C9 D0 D1 D2 D3 D4 D5 D6 D7 D8 D9 E0 E1 E2 E3 E4 E5 E6 E7 E8 E9 F0 F1 F2 F3 F4 F5 F6 F7 F8 F9 G0 G1 G2 G3 G4 G5 G6 G7 G8 G9 H0 H1 H2 H3 H4 H5 hb
   have HF2:=hid (HF.out hno)
   have HB2:=hid hb
   clear HR IH HJ HJ' HF hno hb rg kx hK2
   go_ret
   exact ⟨by rw [HF2.out];rfl,HB2.out⟩
theorem xst_any:∀ r,XStC r
 | 0=>xst_zero
 | m+1=>xst_step (xst_any m)

def fldB (m:Bool) (x:Fld):Prop:=(x.mu=true->m=true)/\MayPar x
set_option maxHeartbeats 8000000 in
set_option maxRecDepth 20000 in
theorem xparts_any {K:Ctx} {w:World} (he:Env K w) {v:Value} {l:List Fld} (hx:Ar 6 96 (FldAt K w) K w v l) (m:Bool) (B:Bool) (hB:B=true↔l.length<=64/\∀ x∈l,fldB m x) :
  Calls Tryz.prog 28 #[v,.bool m] w (Rb B w):=by
 obtain ⟨ao,cap,rfl,hc1,hb1,hA1⟩:=id hx.shape
 have HK:∀ W,Below w.heap.size w W->Below K.C w W:=fun W hb=>below_le hb he.C
 have HE:Hid (∀ i (h:i<l.length),∃ (b o:Nat) (c2 c3 c4 c5:Value),ao=some ⟨b,o,none⟩/\(∀ W,Below w.heap.size w W->W.cell? ⟨b,o+i * 6,none⟩=some (.bool l[i].mu)/\W.cell? ⟨b,o+i * 6+1,none⟩=some (.string (str l[i].name))/\W.cell? ⟨b,o+i * 6+2,none⟩=some c2/\W.cell? ⟨b,o+i * 6+2+1,none⟩=some c3/\W.cell? ⟨b,o+i * 6+2+2,none⟩=some c4/\W.cell? ⟨b,o+i * 6+2+3,none⟩=some c5) /\
   (∀ W,Below w.heap.size w W->Calls Tryz.prog 26 #[.string (str l[i].name)] W (Rb (nameB l[i].name) w)) /\
   ∀ W,Below w.heap.size w W->∀ (B:Bool),(B=true↔MayTy 64 l[i].ty)->Calls Tryz.prog 58 #[.agg #[c2,c3,c4,c5],.int .i64 1] W (Rb B w)):=by
  intro i h
  obtain ⟨b,o,e,hbC,cs,hl,hc,ts,rfl,hnl,N,hty⟩:=hA1 i h
  obtain ⟨c2,c3,c4,c5,rfl⟩:=list4 (l:=ts) (by simpa using hl)
  refine ⟨b,o,c2,c3,c4,c5,e,fun W hb=>?_,fun W hb=>?_,fun W hb B hB=>?_⟩
  ·have f:∀ j,j<6->W.cell? ⟨b,o+i * 6+j,none⟩=[Value.bool l[i].mu,.string (str l[i].name),c2,c3,c4,c5][j]?:=fun j hj=>((HK W hb).cell (p:=⟨b,o+i * 6+j,none⟩) hbC).trans (hc j hj)
   exact ⟨f 0 (by decide),f 1 (by decide),f 2 (by decide),f 3 (by decide),f 4 (by decide),f 5 (by decide)⟩
  ·refine (xname_any l[i].name (by have:=he.B;omega) W).mono ?_
   rintro _ _ ⟨rfl,h⟩
   exact ⟨rfl,hb.trans (below_le h hb.size)⟩
  ·refine (xty_any 64 (he.below (HK W hb)) (d:=1) (by omega) (hty.below (HK W hb)) B hB).mono ?_
   rintro _ _ ⟨rfl,h⟩
   exact ⟨rfl,hb.trans (below_le h hb.size)⟩
 have HT:Hid ((∀ j (h:j<l.length),j<65->fldB m l[j])->B=decide (l.length<=64)):=by
  intro h
  refine Bool.eq_iff_iff.2 (hB.trans ?_)
  rw [decide_eq_true_eq]
  refine ⟨fun h=>h.1,fun h64=>⟨h64,fun y hy=>?_⟩⟩
  obtain ⟨j,hj,rfl⟩:=List.getElem_of_mem hy
  exact h j hj (by omega)
 have HF:Hid (∀ j (h:j<l.length),¬ fldB m l[j]->B=false):=fun j h hj=>bool_false hB fun hm=>hj (hm.2 _ (List.getElem_mem h))
 have hl9:l.length<=9223372036854775807:=by omega
 clear hB hA1 HK hx he hc1 hb1
 go_enter Tryz.func28,Tryz.ntmps28
 go_wp2_with fail
 go_loopw [5] (fun i wr=>∃ k:Nat,k<=l.length/\k<=65/\i=.int .i64 k/\(∀ j (h:j<l.length),j<k->fldB m l[j])/\Below w.heap.size w wr) (fun i _=>l.length - (intOf i).toNat)
 case atStart=>exact ⟨0,by omega,by omega,rfl,fun j _ h=>by omega,Below.refl _ _⟩
 case round =>
  obtain ⟨k,hk,hk5,rfl,hj,hbw⟩:=hrel
  have HJ:=hid hj
  have HBW:=hid hbw
  clear hj hbw
  by_cases h3:k<l.length
  ·have i1:(k:Int)<(l.length:Int):=by omega
   by_cases h5:k<65
   ·have i2:(k:Int)<65:=by omega
    obtain ⟨b,o,c2,c3,c4,c5,rfl,hcell,hc26,hc58⟩:=HE.out k h3
    obtain ⟨g0,g1,-,-,-,-⟩:=hcell wr HBW.out
    have HCE:=hid hcell
    have HN:=hid hc26
    have HY:=hid hc58
    have HNX:Hid (fldB m l[k]->∀ j (h:j<l.length),j<k+1->fldB m l[j]):=by
     intro hv j h hjk
     rcases Nat.lt_or_ge j k with h'|h'
     ·exact HJ.out j h h'
     ·obtain rfl:j=k:=by omega
      exact hv
    have HFX:=hid (HF.out k h3)
    clear hcell hc26 hc58 HE HF HT
    generalize l[k]=x at *
    by_cases e0:x.mu=true/\m=false
    ·have HFF:=hid (HFX.out fun h=>by have:=h.1 e0.1;rw [e0.2] at this;cases this)
     obtain ⟨e1,rfl⟩:=e0
     rw [e1] at g0
     clear HNX HFX HN HY HCE e1
     generalize str x.name=S at *
     go_wp2_with fail
     go_ret
     exact ⟨by rw [HFF.out];rfl,HBW.out⟩
    ·have HMU:Hid (x.mu=true->m=true):=fun h=>by
      cases m
      ·exact absurd ⟨h,rfl⟩ e0
      ·rfl
     have HP:Hid (fldB m x↔nameB x.name=true/\MayTy 64 x.ty):=⟨fun h=>h.2,fun h=>⟨HMU.out,h⟩⟩
     have hmu:x.mu=false∨x.mu=true/\m=true:=by
      cases hh:x.mu
      ·exact .inl rfl
      ·exact .inr ⟨rfl,HMU.out hh⟩
     clear HMU e0
     cases hv:nameB x.name
     ·have HFF:=hid (HFX.out fun h=>by have:=(HP.out.1 h).1;rw [hv] at this;cases this)
      rw [hv] at HN
      clear HNX HFX HY hv HP
      generalize str x.name=S at *
      rcases hmu with e1|⟨e1,rfl⟩ <;> rw [e1] at g0 <;> clear e1
      ·go_wp2_with fail
       refine (HN.out _ HBW.out).mono ?_
       rintro _ W1 ⟨rfl,hb1⟩
       go_wp2_with fail
       go_ret
       exact ⟨by rw [HFF.out];rfl,hb1⟩
      ·go_wp2_with fail
       refine (HN.out _ HBW.out).mono ?_
       rintro _ W1 ⟨rfl,hb1⟩
       go_wp2_with fail
       go_ret
       exact ⟨by rw [HFF.out];rfl,hb1⟩
     ·rw [hv] at HN
      by_cases ht:MayTy 64 x.ty
      ·have HJ':=hid (HNX.out (HP.out.2 ⟨hv,ht⟩))
       have HYY:=hid fun W hb=>HY.out W hb true ⟨fun _=>ht,fun _=>rfl⟩
       clear HNX HFX HY hv HP ht
       generalize str x.name=S at *
       rcases hmu with e1|⟨e1,rfl⟩ <;> rw [e1] at g0 <;> clear e1
       ·go_wp2_with fail
        refine (HN.out _ HBW.out).mono ?_
        rintro _ W1 ⟨rfl,hb1⟩
        obtain ⟨-,-,g2,g3,g4,g5⟩:=HCE.out W1 hb1
        go_wp2_with fail
        refine (HYY.out _ hb1).mono ?_
        rintro _ W2 ⟨rfl,hb2⟩
        go_wp2_with fail
        go_roundw
        case rel=>exact ⟨k+1,by omega,by omega,by go_num,HJ'.out,hb2⟩
        case measure=>simp [intOf];omega
       ·go_wp2_with fail
        refine (HN.out _ HBW.out).mono ?_
        rintro _ W1 ⟨rfl,hb1⟩
        obtain ⟨-,-,g2,g3,g4,g5⟩:=HCE.out W1 hb1
        go_wp2_with fail
        refine (HYY.out _ hb1).mono ?_
        rintro _ W2 ⟨rfl,hb2⟩
        go_wp2_with fail
        go_roundw
        case rel=>exact ⟨k+1,by omega,by omega,by go_num,HJ'.out,hb2⟩
        case measure=>simp [intOf];omega
      ·have HFF:=hid (HFX.out fun h=>ht (HP.out.1 h).2)
       have HYY:=hid fun W hb=>HY.out W hb false ⟨fun h=>(by cases h),fun h=>absurd h ht⟩
       clear HNX HFX HY hv HP ht
       generalize str x.name=S at *
       rcases hmu with e1|⟨e1,rfl⟩ <;> rw [e1] at g0 <;> clear e1
       ·go_wp2_with fail
        refine (HN.out _ HBW.out).mono ?_
        rintro _ W1 ⟨rfl,hb1⟩
        obtain ⟨-,-,g2,g3,g4,g5⟩:=HCE.out W1 hb1
        go_wp2_with fail
        refine (HYY.out _ hb1).mono ?_
        rintro _ W2 ⟨rfl,hb2⟩
        go_wp2_with fail
        go_ret
        exact ⟨by rw [HFF.out];rfl,hb2⟩
       ·go_wp2_with fail
        refine (HN.out _ HBW.out).mono ?_
        rintro _ W1 ⟨rfl,hb1⟩
        obtain ⟨-,-,g2,g3,g4,g5⟩:=HCE.out W1 hb1
        go_wp2_with fail
        refine (HYY.out _ hb1).mono ?_
        rintro _ W2 ⟨rfl,hb2⟩
        go_wp2_with fail
        go_ret
        exact ⟨by rw [HFF.out];rfl,hb2⟩
   ·have i2:¬ (k:Int)<65:=by omega
    have i3:¬ (l.length:Int)<=64:=by omega
    have HFF:=hid (HT.out fun j h h'=>HJ.out j h (by omega))
    rw [decide_eq_false (show ¬ l.length<=64 by omega)] at HFF
    clear HE HF HT
    go_wp2_with fail
    go_ret
    exact ⟨by rw [HFF.out];first|rfl|exact congrArg (fun b=>Ending.returned (.bool b)) (decide_eq_false (by omega)),HBW.out⟩
  ·have i1:¬ (k:Int)<(l.length:Int):=by omega
   have HFF:=hid (HT.out fun j h h'=>HJ.out j h (by omega))
   clear HE HF HT
   go_wp2_with fail
   go_ret
   exact ⟨by rw [HFF.out];exact congrArg (fun b=>Ending.returned (.bool b)) (decide_eq_decide.2 (by omega)),HBW.out⟩

def cwA (f:List St->Int) (l:List St):Nat->Int
 | 0=>l.length
 | k+1=>match l[k]? with
  | some s=>wrap64 (wrap64 (cwA f l k+f s.thn)+f s.els)
  | none=>cwA f l k
def cw:Nat->List St->Int
 | 0,l=>l.length
 | n+1,l=>cwA (cw n) l l.length
theorem w64_small {a:Int} (h1:-9223372036854775808<=a) (h2:a<=9223372036854775807):wrap64 a=a:=by
 unfold wrap64
 omega
theorem cwA_succ (f:List St->Int) (l:List St) (k:Nat) (h:k<l.length):cwA f l (k+1)=wrap64 (wrap64 (cwA f l k+f (l[k]).thn)+f (l[k]).els):=by
 show (match l[k]? with|some s=>_|none=>_)=_
 rw [List.getElem?_eq_getElem h]
set_option maxHeartbeats 8000000 in
set_option maxRecDepth 20000 in
theorem xcount_any:∀ (n:Nat) {K:Ctx} {w:World} {v:Value} {l:List St},Ar 32 496 (StAt n K w) K w v l ->
  Calls Tryz.prog 17 #[v] w fun ev w'=>ev=.returned (.int .i64 (cw n l))/\∃ m,w'=w.drewN m
 | 0,K,w,v,l,ha=>by
  obtain ⟨ao,cap,rfl,hc,hb,hA⟩:=ha.shape
  have h0:l=[]:=by
   cases l with
   | nil=>rfl
   | cons x l=>obtain ⟨_,_,_,_,cs,_,_,h⟩:=hA 0 (by simp);exact h.elim
  subst h0
  clear hA ha hb
  go_enter Tryz.func17,Tryz.ntmps17
  go_wp2_with fail
  go_loopw [3,4] (fun m i wr=>m=.int .i64 0/\i=.int .i64 0/\wr=w) (fun _ i _=>0)
  case atStart=>exact ⟨rfl,rfl,rfl⟩
  case round =>
   obtain ⟨rfl,rfl,rfl⟩:=hrel
   go_wp2_with fail
   go_ret
   exact ⟨rfl,0,rfl⟩
 | n+1,K,w,v,l,ha=>by
  obtain ⟨ao,cap,rfl,hc,hb,hA⟩:=ha.shape
  have hl9:l.length<=9223372036854775807:=by omega
  have HA:Hid (∀ i (h:i<l.length),∃ b o vt ve,ao=some ⟨b,o,none⟩/\w.cell? ⟨b,o+i * 32+30,none⟩=some vt/\w.cell? ⟨b,o+i * 32+31,none⟩=some ve /\
    (∀ m,Calls Tryz.prog 17 #[vt] (w.drewN m) fun ev w'=>ev=.returned (.int .i64 (cw n (l[i]).thn))/\∃ m',w'=(w.drewN m).drewN m') /\
    (∀ m,Calls Tryz.prog 17 #[ve] (w.drewN m) fun ev w'=>ev=.returned (.int .i64 (cw n (l[i]).els))/\∃ m',w'=(w.drewN m).drewN m')):=by
   intro i h
   obtain ⟨b,o,e,_,cs,hl,hcs,hx⟩:=hA i h
   obtain ⟨ts,ps,vs,os,vt,ve,rfl,h1,h2,h3',h4,h5,h6,h7⟩:=id hx
   have l1:=h2.len
   have l2:=h3'.len
   have l3:=h4.len
   have l4:=h5.len
   have pb:=part_at hcs (.int .i64 (l[i]).kind :: .int .i64 (l[i]).pos :: .bool (l[i]).mu :: .string (str (l[i]).name) :: (ts ++ (.bool (l[i]).has :: (ps ++ (vs ++ os))))) [vt,ve] [] (k:=30) (n:=2) (by simp [l1,l2,l3,l4]) rfl (by decide) (by simp)
   refine ⟨b,o,vt,ve,e,pb 0 (by decide),pb 1 (by decide),fun m=>xcount_any n (K:=K) ?_,fun m=>xcount_any n (K:=K) ?_⟩
   ·exact h6.mono (Below.drewN _ _ _) fun _ _ _ h=>h.below (Below.drewN _ _ _)
   ·exact h7.mono (Below.drewN _ _ _) fun _ _ _ h=>h.below (Below.drewN _ _ _)
  clear hA ha hb
  go_enter Tryz.func17,Tryz.ntmps17
  go_wp2_with fail
  go_loopw [3,4] (fun a i wr=>∃ k:Nat,k<=l.length/\i=.int .i64 k/\a=.int .i64 (cwA (cw n) l k)/\∃ m,wr=w.drewN m) (fun _ i _=>l.length - (intOf i).toNat)
  case atStart=>exact ⟨0,by omega,rfl,rfl,0,rfl⟩
  case round =>
   obtain ⟨k,hk,rfl,rfl,m,hx⟩:=hrel
   have HX:Hid (wr=w.drewN m):=hx
   by_cases h3:k<l.length
   ·obtain ⟨b,o,vt,ve,e,c1,c2,d1,d2⟩:=HA.out k h3
    subst e
    have i1:(k:Int)<(l.length:Int):=by omega
    have c1':wr.cell? ⟨b,o+k * 32+30,none⟩=some vt:=by rw [hx];exact c1
    have c2':wr.cell? ⟨b,o+k * 32+31,none⟩=some ve:=by rw [hx];exact c2
    have D1:Hid (∀ q,Calls Tryz.prog 17 #[vt] (wr.drewN q) fun ev w'=>ev=.returned (.int .i64 (cw n (l[k]).thn))/\∃ m',w'=(wr.drewN q).drewN m'):=fun q=>by rw [hx,World.drewN_drewN];exact d1 (m+q)
    have D2:Hid (∀ q,Calls Tryz.prog 17 #[ve] (wr.drewN q) fun ev w'=>ev=.returned (.int .i64 (cw n (l[k]).els))/\∃ m',w'=(wr.drewN q).drewN m'):=fun q=>by rw [hx,World.drewN_drewN];exact d2 (m+q)
    have HS:Hid (cwA (cw n) l (k+1)=wrap64 (wrap64 (cwA (cw n) l k+cw n (l[k]).thn)+cw n (l[k]).els)):=cwA_succ _ _ _ h3
    clear d1 d2 c1 c2 hx HA
    generalize cwA (cw n) l k=A at HS ⊢
    generalize cw n (l[k]).thn=T at D1 HS
    generalize cw n (l[k]).els=E at D2 HS
    go_wp2_with fail
    refine wp_region_quiet_lit (by kernel_rfl) (by kernel_rfl) ?_
    iterate 13 go_big_quiet_step (first|(go_at_call 17;exact Calls.quiet_of (D1.out _)))
    repeat (go_big_quiet_step (first|(go_at_call 17;exact Calls.quiet_of (D2.out _))))
    refine wpQuiet_nil ?_
    rintro _ ⟨nq,rfl⟩
    go_wp2_with fail
    go_roundw
    case rel=>exact ⟨k+1,by omega,by go_num,by rw [HS.out],_,by rw [HX.out,World.drewN_drewN]⟩
    case measure=>simp [intOf];omega
   ·have i1:¬ (k:Int)<(l.length:Int):=by omega
    have hke:Hid (k=l.length):=by show k=l.length;omega
    clear hx
    go_wp2_with fail
    go_ret
    exact ⟨by rw [hke.out];rfl,m,HX.out⟩
def si (n:Nat) (l:List St):Nat:=(l.map (inner n)).sum
theorem cnt_si (n:Nat):∀ l:List St,cnt n l=l.length+si n l
 | []=>rfl
 | s :: l=>by
  have h:=cnt_si n l
  simp only [cnt_cons,List.length_cons,si,List.map_cons,List.sum_cons] at h ⊢
  omega
theorem si_take (n:Nat) (l:List St) (k:Nat) (h:k<l.length):si n (l.take (k+1))=si n (l.take k)+inner n l[k]:=by
 rw [List.take_succ_eq_append_getElem h]
 unfold si
 rw [List.map_append,List.sum_append]
 rfl
theorem si_le (n:Nat) (l:List St) (k:Nat):si n (l.take k)<=si n l:=by
 have h:si n l=si n (l.take k)+si n (l.drop k):=by
  have:si n (l.take k ++ l.drop k)=si n (l.take k)+si n (l.drop k):=by unfold si;rw [List.map_append,List.sum_append]
  rwa [List.take_append_drop] at this
 omega
theorem cw_small:∀ (n:Nat) (l:List St),cnt n l<=4611686018427387904->cw n l=cnt n l
 | 0,l,_=>by
  have:∀ l:List St,si 0 l=0:=by
   intro l
   induction l with
   | nil=>rfl
   | cons s l ih=>unfold si at ih ⊢;rw [List.map_cons,List.sum_cons,ih];rfl
  rw [cnt_si,this]
  simp [cw]
 | n+1,l,h=>by
  have hk:∀ k,k<=l.length->cwA (cw n) l k=((l.length+si (n+1) (l.take k):Nat):Int):=by
   intro k
   induction k with
   | zero=>intro _;simp [cwA,si]
   | succ k ih =>
    intro hk
    have h1:=ih (by omega)
    have h2:=si_take (n+1) l k hk
    have h3:=si_le (n+1) l (k+1)
    rw [cnt_si] at h
    have e:=inner_succ n l[k]
    have a1:=cw_small n (l[k]).thn (by omega)
    have a2:=cw_small n (l[k]).els (by omega)
    rw [cwA_succ _ _ _ hk,h1,a1,a2,w64_small (a:=((l.length+si (n+1) (l.take k):Nat):Int)+(cnt n (l[k]).thn:Int)) (by omega) (by omega),w64_small (by omega) (by omega),h2,e]
    omega
  show cwA (cw n) l l.length=_
  rw [hk _ (Nat.le_refl _),List.take_length,cnt_si]

def Fst (w:World) (cs:List Value) (W:World):Prop:=Below w.heap.size w W/\Row W w.heap.size 40 cs
theorem Fst.call {w W W':World} {cs:List Value} (h:Fst w cs W) (hb:Below W.heap.size W W'):Fst w cs W' :=
 ⟨h.1.trans (below_le hb h.1.size),h.2.below hb h.2.lt⟩
theorem Fst.start (w:World) (cs:List Value):Fst w cs (w.alloc (.cells cs.toArray 40)):=⟨alloc_one _ _,Row.new w 40 cs⟩
set_option maxHeartbeats 8000000 in
set_option maxRecDepth 20000 in
theorem xfncMay_any {n:Nat} {K:Ctx} {w:World} (he:Env K w) {x:Fnc} {cs:List Value} (hx:FncAt n K w cs x) (hcn:cnt n x.body<=4611686018427387904) (B:Bool) (hB:B=true↔MayFnc n x) :
  Calls Tryz.prog 29 #[.agg cs.toArray] w (Rb B w):=by
 obtain ⟨v2,v3,ts,v8,rfl,hnl,hli,hpa,hre,hbo⟩:=hx
 obtain ⟨t0,t1,t2,t3,rfl⟩:=list4 hre.len
 obtain ⟨lp,lc,rfl,hlc,hlb,hLA⟩:=id hli.shape
 obtain ⟨pp,pc,rfl⟩:=hpa.form
 obtain ⟨bp,bc,rfl⟩:=hbo.form
 have hl9:x.lives.length<=9223372036854775807:=by omega
 have hK:∀ W,Below w.heap.size w W->Below K.C w W:=fun W hW=>below_le hW he.C
 have CN:Hid (∀ W,Calls Tryz.prog 26 #[.string (str x.name)] W (Rb (nameB x.name) W)):=fun W=>xname_any x.name (Nat.le_trans hnl (Nat.le_trans he.B (by omega))) W
 obtain ⟨bpa,hbpa⟩:=pbool (x.params.length<=64/\∀ p∈x.params,fldB true p)
 have CP:Hid (∀ W,Below w.heap.size w W->Calls Tryz.prog 28 #[.slice pp x.params.length pc,.bool true] W (Rb bpa W)):=fun W hW=>xparts_any (he.below (hK W hW)) (hpa.mono (hK W hW) fun _ _ _ h=>h.below (hK W hW)) true bpa hbpa
 obtain ⟨bu,hbu⟩:=pbool (x.result=Ty.zero)
 have CU:Hid (∀ W,Below w.heap.size w W->Calls Tryz.prog 16 #[.agg #[t0,t1,t2,t3],.agg #[.int .i64 0,.string ⟨#[]⟩,.slice none 0 0,.slice none 0 0]] W (Rb bu W)):=fun W hW=>xsameType_any (cs':=tyCells 0) (Nat.le_trans he.C hW.size) (y:=Ty.zero) (hre.below (hK W hW)) ⟨1,_,_,rfl,by simp [Ty.zero],nil_ar,nil_ar⟩ bu hbu
 obtain ⟨bt,hbt⟩:=pbool (MayTy 64 x.result)
 have CT:Hid (∀ W,Below w.heap.size w W->Calls Tryz.prog 58 #[.agg #[t0,t1,t2,t3],.int .i64 1] W (Rb bt W)):=fun W hW=>by
  obtain ⟨Nt,kt'⟩:=hre.below (hK W hW)
  exact xty_any 64 (he.below (hK W hW)) (d:=1) rfl kt' bt hbt
 obtain ⟨bb,hbb⟩:=pbool (MayBlk 64 x.body)
 have CB:Hid (∀ W,Below w.heap.size w W->Calls Tryz.prog 59 #[.slice bp x.body.length bc,.int .i64 1] W (Rb bb W)):=fun W hW=>xst_any 64 (he.below (hK W hW)) (d:=1) rfl (hbo.mono (hK W hW) fun _ _ _ h=>h.below (hK W hW)) bb hbb
 have CC:Hid (∀ W,Below w.heap.size w W->Calls Tryz.prog 17 #[.slice bp x.body.length bc] W fun ev w'=>ev=.returned (.int .i64 (cnt n x.body:Int))/\Below W.heap.size W w'):=fun W hW=>by
  rw [← cw_small n x.body hcn]
  refine (xcount_any n (hbo.mono (hK W hW) fun _ _ _ h=>h.below (hK W hW))).mono ?_
  rintro _ _ ⟨rfl,m,rfl⟩
  exact ⟨rfl,Below.drewN _ _ _⟩
 have CL:Hid (∀ i (h:i<x.lives.length),∃ (b o:Nat) (S:ByteArray) (v:Value),lp=some ⟨b,o,none⟩/\(∀ W,Below w.heap.size w W->W.cell? ⟨b,o+i * 2,none⟩=some (.string S)/\W.cell? ⟨b,o+i * 2+1,none⟩=some v) /\
   (∀ W,Calls Tryz.prog 56 #[.string S] W fun ev w'=>ev=.returned (.bool (lifeB x.lives[i].name))/\w'=W)/\(∀ W,Below w.heap.size w W->Calls Tryz.prog 27 #[v] W fun ev w'=>ev=.returned (.bool (livesB x.lives[i].over))/\w'=W)):=by
  intro i h
  obtain ⟨b,o,e,hbC,cs,hl,hcs,v1,rfl,hn1,h1⟩:=hLA i h
  refine ⟨b,o,str x.lives[i].name,v1,e,fun W hw=>?_,fun W=>xlife_any _ (Nat.le_trans hn1 (Nat.le_trans he.B (by omega))) W,fun W hw=>xlives_any he.B (h1.below (hK W hw))⟩
  have f:∀ j,j<2->W.cell? ⟨b,o+i * 2+j,none⟩=[.string (str x.lives[i].name),v1][j]?:=fun j hj=>((hK W hw).cell (p:=⟨b,o+i * 2+j,none⟩) hbC).trans (hcs j hj)
  exact ⟨f 0 (by decide),f 1 (by decide)⟩
 have HB:Hid (B=true↔MayFnc n x):=hB
 have HPA:=hid hbpa
 have hp64:(x.params.length<=64/\∀ p∈x.params,fldB true p)↔(x.params.length<=64/\∀ p∈x.params,MayPar p):=by
  unfold fldB
  simp
 have HP4:=hid hp64
 have F0:=hid (Fst.start w [.bool x.pub,.string (str x.name),.slice lp x.lives.length lc,.slice pp x.params.length pc,t0,t1,t2,t3,.slice bp x.body.length bc,.int .i64 x.pos])
 have HCE:Hid (∀ W,Fst w [.bool x.pub,.string (str x.name),.slice lp x.lives.length lc,.slice pp x.params.length pc,t0,t1,t2,t3,.slice bp x.body.length bc,.int .i64 x.pos] W->W.cell? ⟨w.heap.size,1,none⟩=some (.string (str x.name))/\W.cell? ⟨w.heap.size,2,none⟩=some (.slice lp x.lives.length lc)/\W.cell? ⟨w.heap.size,3,none⟩=some (.slice pp x.params.length pc)/\W.cell? ⟨w.heap.size,4,none⟩=some t0/\W.cell? ⟨w.heap.size,4+1,none⟩=some t1/\W.cell? ⟨w.heap.size,4+2,none⟩=some t2/\W.cell? ⟨w.heap.size,4+3,none⟩=some t3/\W.cell? ⟨w.heap.size,8,none⟩=some (.slice bp x.body.length bc)):=fun W h =>
  ⟨h.2.cell 1,h.2.cell 2,h.2.cell 3,h.2.cell 4,h.2.cell 5,h.2.cell 6,h.2.cell 7,h.2.cell 8⟩
 have ONE:Hid ([.bool x.pub,.string (str x.name),.slice lp x.lives.length lc,.slice pp x.params.length pc,t0,t1,t2,t3,.slice bp x.body.length bc,.int .i64 x.pos].toArray.all (·.oneCell')=true):=all_one (by
  have ht:=hre.one
  refine ones_cons rfl (ones_cons rfl (ones_cons rfl (ones_cons rfl ?_)))
  exact ones_app (a:=[t0,t1,t2,t3]) ht (ones_cons rfl (ones_cons rfl ones_nil)))
 clear hB hbpa hp64 hnl hli hpa hbo hlc hlb hLA hre hcn he
 obtain ⟨FS,hFS⟩:∃ F:World->Prop,F=Fst w [.bool x.pub,.string (str x.name),.slice lp x.lives.length lc,.slice pp x.params.length pc,t0,t1,t2,t3,.slice bp x.body.length bc,.int .i64 x.pos]:=⟨_,rfl⟩
 have FC:Hid (∀ W W',FS W->Below W.heap.size W W'->FS W'):=by rw [hFS];exact fun W W' h hb=>h.call hb
 have FB:Hid (∀ W,FS W->Below w.heap.size w W):=by rw [hFS];exact fun W h=>h.1
 rw [← hFS] at HCE
 have F0':Hid (FS (w.alloc (.cells #[.bool x.pub,.string (str x.name),.slice lp x.lives.length lc,.slice pp x.params.length pc,t0,t1,t2,t3,.slice bp x.body.length bc,.int .i64 x.pos] 40))):=by rw [hFS];exact F0.out
 clear F0 hFS
 have e0:=HCE.out _ F0'.out
 obtain ⟨e1,-⟩:=e0
 have NX:Hid (nameB x.name=false->B=false):=fun h=>bool_false HB.out fun h'=>by rw [h'.1] at h;cases h
 have LX:Hid (¬ x.lives.length<=64->B=false):=fun h=>bool_false HB.out fun h'=>h h'.2.1.1
 have PX:Hid (bpa=false->B=false):=fun h=>bool_false HB.out fun h'=>by
  have:=HPA.out.2 (HP4.out.2 h'.2.2.1)
  rw [h] at this
  cases this
 have EX:Hid (∀ i (h:i<x.lives.length),¬ (lifeB x.lives[i].name=true/\livesB x.lives[i].over=true)->B=false):=fun i h hn=>bool_false HB.out fun h'=>hn (h'.2.1.2 _ (List.getElem_mem h))
 have UX:Hid (bu=false->bt=false->B=false):=fun h1 h2=>bool_false HB.out fun h'=>by
  rcases h'.2.2.2.1 with h|h
  ·have:=hbu.2 h
   rw [h1] at this
   cases this
  ·have:=hbt.2 h
   rw [h2] at this
   cases this
 have BX:Hid (bb=false->B=false):=fun h=>bool_false HB.out fun h'=>by
  have:=hbb.2 h'.2.2.2.2.1
  rw [h] at this
  cases this
 have CX:Hid (¬ cnt n x.body<=2000->B=false):=fun h=>bool_false HB.out fun h'=>h h'.2.2.2.2.2
 have OK:Hid (nameB x.name=true->x.lives.length<=64->bpa=true->(∀ i (h:i<x.lives.length),lifeB x.lives[i].name=true/\livesB x.lives[i].over=true)->(bu=true∨bt=true)->bb=true->cnt n x.body<=2000->B=true):=by
  intro h1 h2 h3 h4 h5 h6 h7
  refine HB.out.2 ⟨h1,⟨h2,fun l hl=>?_⟩,HP4.out.1 (HPA.out.1 h3),?_,hbb.1 h6,h7⟩
  ·obtain ⟨i,hi,rfl⟩:=List.getElem_of_mem hl
   exact h4 i hi
  ·rcases h5 with h|h
   ·exact .inl (hbu.1 h)
   ·exact .inr (hbt.1 h)
 clear HB HPA HP4 hbu hbt hbb
 generalize nameB x.name=bn,str x.name=nm,x.pub=pb,x.pos=ps,x.params.length=np,x.body.length=nb,cnt n x.body=cb,x.lives=LL at *
 go_enter Tryz.func29,Tryz.ntmps29
 go_wp2_with fail
 refine (CN.out _).mono ?_
 rintro _ w1 ⟨rfl,b1⟩
 have F1:=hid (FC.out _ _ F0'.out b1)
 clear b1 F0' e1 CN
 obtain ⟨-,d2,d3,-⟩:=HCE.out _ F1.out
 cases bn with
 | false =>
  have HF:=hid (NX.out rfl)
  clear HCE CP CU CT CB CC CL
  go_wp2_with fail
  go_ret
  exact ⟨by rw [HF.out];rfl,FB.out _ F1.out⟩
 | true =>
 by_cases h64:LL.length<=64
 rotate_left
 ·have HF:=hid (LX.out h64)
  have i64:(64:Int)<(LL.length:Int):=by omega
  clear HCE CP CU CT CB CC CL h64
  go_wp2_with fail
  go_ret
  exact ⟨by rw [HF.out];rfl,FB.out _ F1.out⟩
 have i64:¬ (64:Int)<(LL.length:Int):=by omega
 go_wp2_with fail
 refine (CP.out _ (FB.out _ F1.out)).mono ?_
 rintro _ w2 ⟨rfl,b2⟩
 have F2:=hid (FC.out _ _ F1.out b2)
 clear b2 F1 d2 d3 CP
 cases bpa with
 | false =>
  have HF:=hid (PX.out rfl)
  clear HCE CU CT CB CC CL
  go_wp2_with fail
  go_ret
  exact ⟨by rw [HF.out];rfl,FB.out _ F2.out⟩
 | true =>
 go_wp2_with fail
 go_loopw [3] (fun i wr=>∃ k:Nat,k<=LL.length/\i=.int .i64 k/\(∀ j (h:j<LL.length),j<k->lifeB LL[j].name=true/\livesB LL[j].over=true)/\FS wr) (fun i _=>LL.length - (intOf i).toNat)
 case atStart=>exact ⟨0,by omega,rfl,fun j _ h=>by omega,F2.out⟩
 case round =>
  obtain ⟨k,hk,rfl,hj,hf⟩:=hrel
  have HJ:=hid hj
  have FW:=hid hf
  clear hj hf F2
  obtain ⟨-,d2,d3,f0,f1,f2,f3,f8⟩:=HCE.out _ FW.out
  by_cases h3:k<LL.length
  ·have i1:(k:Int)<(LL.length:Int):=by omega
   obtain ⟨b,o,SS,v,rfl,hcell,hc1,hc2⟩:=CL.out k h3
   obtain ⟨m0,m1⟩:=hcell wr (FB.out _ FW.out)
   have C1:=hid (hc1 wr)
   have C2:=hid (hc2 wr (FB.out _ FW.out))
   have HJ':Hid (lifeB LL[k].name=true/\livesB LL[k].over=true->∀ j (h:j<LL.length),j<k+1->lifeB LL[j].name=true/\livesB LL[j].over=true):=by
    intro e j h hjk
    rcases Nat.lt_or_ge j k with h'|h'
    ·exact HJ.out j h h'
    ·obtain rfl:j=k:=by omega
     exact e
   have HFX:Hid (¬ (lifeB LL[k].name=true/\livesB LL[k].over=true)->B=false):=EX.out k h3
   clear hcell hc1 hc2
   generalize lifeB LL[k].name=g1,livesB LL[k].over=g2 at *
   cases g1 with
   | false =>
    have HF:=hid (HFX.out fun h=>by cases h.1)
    clear HCE CU CT CB CC CL OK
    go_wp2_with fail
    refine C1.out.mono ?_
    rintro _ _ ⟨rfl,rfl⟩
    go_wp2_with fail
    go_ret
    exact ⟨by rw [HF.out];rfl,FB.out _ FW.out⟩
   | true =>
   go_wp2_with fail
   refine C1.out.mono ?_
   rintro _ w3 ⟨rfl,hw3⟩
   replace hw3:=hw3.symm
   subst hw3
   go_wp2_with fail
   refine C2.out.mono ?_
   rintro _ w3 ⟨rfl,hw3⟩
   replace hw3:=hw3.symm
   subst hw3
   cases g2 with
   | false =>
    have HF:=hid (HFX.out fun h=>by cases h.2)
    clear HCE CU CT CB CC CL OK
    go_wp2_with fail
    go_ret
    exact ⟨by rw [HF.out];rfl,FB.out _ FW.out⟩
   | true =>
    have HJ2:=hid (HJ'.out ⟨by first|rfl|trivial,by first|rfl|trivial⟩)
    go_wp2_with fail
    go_roundw
    case rel=>exact ⟨k+1,by omega,by go_num,HJ2.out,FW.out⟩
    case measure=>simp [intOf];omega
  ·have i1:¬ (k:Int)<(LL.length:Int):=by omega
   have OK2:Hid ((bu=true∨bt=true)->bb=true->cb<=2000->B=true):=OK.out (by first|rfl|trivial) h64 (by first|rfl|trivial) fun i h=>HJ.out i h (by omega)
   clear OK CL EX HJ
   go_wp2_with fail
   refine (CU.out _ (FB.out _ FW.out)).mono ?_
   rintro _ w3 ⟨rfl,b3⟩
   have F3:=hid (FC.out _ _ FW.out b3)
   clear b3 FW d2 d3 f0 f1 f2 f3 f8 CU
   obtain ⟨-,-,-,f0,f1,f2,f3,f8⟩:=HCE.out _ F3.out
   cases bu with
   | true =>
    go_wp2_with fail
    refine (CB.out _ (FB.out _ F3.out)).mono ?_
    rintro _ w5 ⟨rfl,b5⟩
    have F5:=hid (FC.out _ _ F3.out b5)
    clear b5 F3 f8 CB
    cases bb with
    | false =>
     have HF:=hid (BX.out rfl)
     clear HCE CC
     go_wp2_with fail
     go_ret
     exact ⟨by rw [HF.out];rfl,FB.out _ F5.out⟩
    | true =>
     obtain ⟨-,-,-,-,-,-,-,f8⟩:=HCE.out _ F5.out
     clear HCE
     go_wp2_with fail
     refine (CC.out _ (FB.out _ F5.out)).mono ?_
     rintro _ w6 ⟨rfl,b6⟩
     have F6:=hid (FC.out _ _ F5.out b6)
     clear b6 F5 f8 CC
     by_cases hc:cb<=2000
     ·have i2:(cb:Int)<=2000:=by omega
      have HF:=hid (OK2.out (.inl (by first|rfl|trivial)) (by first|rfl|trivial) hc)
      go_wp2_with fail
      go_ret
      exact ⟨by rw [HF.out];first|rfl|(show Ending.returned (.bool (decide ((cb:Int)<=2000)))=_;rw [decide_eq_true (by omega)]),FB.out _ F6.out⟩
     ·have i2:¬ (cb:Int)<=2000:=by omega
      have HF:=hid (CX.out hc)
      go_wp2_with fail
      go_ret
      exact ⟨by rw [HF.out];first|rfl|(show Ending.returned (.bool (decide ((cb:Int)<=2000)))=_;rw [decide_eq_false (by omega)]),FB.out _ F6.out⟩
   | false =>
    go_wp2_with fail
    refine (CT.out _ (FB.out _ F3.out)).mono ?_
    rintro _ w4 ⟨rfl,b4⟩
    have F4:=hid (FC.out _ _ F3.out b4)
    clear b4 F3 f0 f1 f2 f3 f8 CT
    cases bt with
    | false =>
     have HF:=hid (UX.out (by first|rfl|trivial) (by first|rfl|trivial))
     clear HCE CB CC
     go_wp2_with fail
     go_ret
     exact ⟨by rw [HF.out];rfl,FB.out _ F4.out⟩
    | true =>
     obtain ⟨-,-,-,-,-,-,-,f8⟩:=HCE.out _ F4.out
     go_wp2_with fail
     refine (CB.out _ (FB.out _ F4.out)).mono ?_
     rintro _ w5 ⟨rfl,b5⟩
     have F5:=hid (FC.out _ _ F4.out b5)
     clear b5 F4 f8 CB
     cases bb with
     | false =>
      have HF:=hid (BX.out rfl)
      clear HCE CC
      go_wp2_with fail
      go_ret
      exact ⟨by rw [HF.out];rfl,FB.out _ F5.out⟩
     | true =>
      obtain ⟨-,-,-,-,-,-,-,f8⟩:=HCE.out _ F5.out
      clear HCE
      go_wp2_with fail
      refine (CC.out _ (FB.out _ F5.out)).mono ?_
      rintro _ w6 ⟨rfl,b6⟩
      have F6:=hid (FC.out _ _ F5.out b6)
      clear b6 F5 f8 CC
      by_cases hc:cb<=2000
      ·have i2:(cb:Int)<=2000:=by omega
       have HF:=hid (OK2.out (.inr (by first|rfl|trivial)) (by first|rfl|trivial) hc)
       go_wp2_with fail
       go_ret
       exact ⟨by rw [HF.out];first|rfl|(show Ending.returned (.bool (decide ((cb:Int)<=2000)))=_;rw [decide_eq_true (by omega)]),FB.out _ F6.out⟩
      ·have i2:¬ (cb:Int)<=2000:=by omega
       have HF:=hid (CX.out hc)
       go_wp2_with fail
       go_ret
       exact ⟨by rw [HF.out];first|rfl|(show Ending.returned (.bool (decide ((cb:Int)<=2000)))=_;rw [decide_eq_false (by omega)]),FB.out _ F6.out⟩
end Go.Proofs.YtjenmmkamhplkaaGreat
