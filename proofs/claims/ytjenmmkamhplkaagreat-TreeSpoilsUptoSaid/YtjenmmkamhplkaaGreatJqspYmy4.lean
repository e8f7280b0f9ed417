/- Part of the proof. -/
import Derived.Test.YtjenmmkamhplkaaGreatJqspYst4
import Derived.Test.YtjenmmkamhplkaaGreatJqspMat6
import Derived.Orders
namespace Go.Proofs.YtjenmmkamhplkaaGreat
open Go.RowKit
def Cst (w:World) (cs:List Value) (W:World):Prop:=Below w.heap.size w W/\Row W w.heap.size 25 cs
theorem Cst.call {w W W':World} {cs:List Value} (h:Cst w cs W) (hb:Below W.heap.size W W'):Cst w cs W' :=
 ⟨h.1.trans (below_le hb h.1.size),h.2.below hb h.2.lt⟩
theorem Cst.start (w:World) (cs:List Value):Cst w cs (w.alloc (.cells cs.toArray 25)):=⟨alloc_one _ _,Row.new w 25 cs⟩
theorem sct_may (s:Sct):MaySct s↔nameB s.name=true/\livesB s.lives=true/\(s.fields.length<=64/\∀ x∈s.fields,fldB false x):=by
 unfold MaySct livesB fldB MayFld
 simp
set_option maxHeartbeats 8000000 in
set_option maxRecDepth 20000 in
theorem xmay_any {n:Nat} {K:Ctx} {w:World} (he:Env K w) {c:Crt} {cs:List Value} (hx:CrtAt n K w cs c) (hcn:∀ f∈c.funcs,cnt n f.body<=4611686018427387904) (B:Bool) (hB:B=true↔MayCrt n c) :
  Calls Tryz.prog 10 #[.agg cs.toArray] w (Rb B w):=by
 obtain ⟨v0,v1,rfl,hs,hf⟩:=hx
 obtain ⟨sp,sc,rfl,hsc,hsb,hSA⟩:=id hs.shape
 obtain ⟨fp,fc,rfl,hfc,hfb,hFA⟩:=id hf.shape
 have hs9:c.structs.length<=9223372036854775807:=by omega
 have hf9:c.funcs.length<=9223372036854775807:=by omega
 have hK:∀ W,Below w.heap.size w W->Below K.C w W:=fun W hW=>below_le hW he.C
 have CS:Hid (∀ i (h:i<c.structs.length),∃ (b o:Nat) (pb:Bool) (S:ByteArray) (v2 v3:Value) (ps:Int) (bn bl bf:Bool),sp=some ⟨b,o,none⟩/\(v2.oneCell'=true/\v3.oneCell'=true)/\(∀ W,Below w.heap.size w W->W.cell? ⟨b,o+i * 5,none⟩=some (.bool pb)/\W.cell? ⟨b,o+i * 5+1,none⟩=some (.string S)/\W.cell? ⟨b,o+i * 5+2,none⟩=some v2/\W.cell? ⟨b,o+i * 5+3,none⟩=some v3/\W.cell? ⟨b,o+i * 5+4,none⟩=some (.int .i64 ps)) /\
   (∀ W,Below w.heap.size w W->Calls Tryz.prog 26 #[.string S] W (Rb bn W))/\(∀ W,Below w.heap.size w W->Calls Tryz.prog 27 #[v2] W (Rb bl W))/\(∀ W,Below w.heap.size w W->Calls Tryz.prog 28 #[v3,.bool false] W (Rb bf W))/\(MaySct c.structs[i]↔bn=true/\bl=true/\bf=true)):=by
  intro i h
  obtain ⟨b,o,e,hbC,cs,hl,hcs,v2,v3,rfl,hn1,h2,h3⟩:=hSA i h
  obtain ⟨bf,hbf⟩:=pbool (c.structs[i].fields.length<=64/\∀ x∈c.structs[i].fields,fldB false x)
  obtain ⟨p2,m2,e2⟩:=h2.form
  obtain ⟨p3,m3,e3⟩:=h3.form
  refine ⟨b,o,c.structs[i].pub,str c.structs[i].name,v2,v3,c.structs[i].pos,nameB c.structs[i].name,livesB c.structs[i].lives,bf,e,⟨by rw [e2];rfl,by rw [e3];rfl⟩,fun W hw=>?_,fun W _=>xname_any _ (Nat.le_trans hn1 (Nat.le_trans he.B (by omega))) W,fun W hw=>?_,fun W hw=>xparts_any (he.below (hK W hw)) (h3.mono (hK W hw) fun _ _ _ h=>h.below (hK W hw)) false bf hbf,?_⟩
  ·have f:∀ j,j<5->W.cell? ⟨b,o+i * 5+j,none⟩=[.bool c.structs[i].pub,.string (str c.structs[i].name),v2,v3,.int .i64 c.structs[i].pos][j]?:=fun j hj=>((hK W hw).cell (p:=⟨b,o+i * 5+j,none⟩) hbC).trans (hcs j hj)
   exact ⟨f 0 (by decide),f 1 (by decide),f 2 (by decide),f 3 (by decide),f 4 (by decide)⟩
  ·refine (xlives_any he.B (h2.below (hK W hw))).mono ?_
   rintro _ _ ⟨rfl,rfl⟩
   exact ⟨rfl,Below.refl _ _⟩
  ·rw [sct_may,hbf]
 have CF:Hid (∀ i (h:i<c.funcs.length),∃ (b o:Nat) (cs:List Value) (bf:Bool),fp=some ⟨b,o,none⟩/\cs.length=10/\(∀ W,Below w.heap.size w W->W.rangeAt b (o+i * 10) cs) /\
   (∀ W,Below w.heap.size w W->Calls Tryz.prog 29 #[.agg cs.toArray] W (Rb bf W))/\(MayFnc n c.funcs[i]↔bf=true)):=by
  intro i h
  obtain ⟨b,o,e,hbC,cs,hl,hcs,kx⟩:=hFA i h
  obtain ⟨bf,hbf⟩:=pbool (MayFnc n c.funcs[i])
  refine ⟨b,o,cs,bf,e,hl,fun W hw j u hj=>?_,fun W hw=>xfncMay_any (he.below (hK W hw)) (kx.below (hK W hw)) (hcn _ (List.getElem_mem h)) bf hbf,hbf.symm⟩
  have hj':j<10:=by rw [← hl];exact (List.getElem?_eq_some_iff.1 hj).1
  rw [(hK W hw).cell (p:=⟨b,o+i * 10+j,none⟩) hbC,hcs j hj']
  exact hj
 have HB:Hid (B=true↔MayCrt n c):=hB
 have F0:=hid (Cst.start w [.slice sp c.structs.length sc,.slice fp c.funcs.length fc])
 obtain ⟨FS,hFS⟩:∃ F:World->Prop,F=Cst w [.slice sp c.structs.length sc,.slice fp c.funcs.length fc]:=⟨_,rfl⟩
 have FC:Hid (∀ W W',FS W->Below W.heap.size W W'->FS W'):=by rw [hFS];exact fun W W' h hb=>h.call hb
 have FB:Hid (∀ W,FS W->Below w.heap.size w W):=by rw [hFS];exact fun W h=>h.1
 have HCE:Hid (∀ W,FS W->W.cell? ⟨w.heap.size,0,none⟩=some (.slice sp c.structs.length sc)/\W.cell? ⟨w.heap.size,1,none⟩=some (.slice fp c.funcs.length fc)):=by
  rw [hFS]
  exact fun W h=>⟨h.2.cell 0,h.2.cell 1⟩
 have F0':Hid (FS (w.alloc (.cells #[.slice sp c.structs.length sc,.slice fp c.funcs.length fc] 25))):=by rw [hFS];exact F0.out
 have SX:Hid (256<c.structs.length->B=false):=fun h=>bool_false HB.out fun h'=>by have:=h'.1;omega
 have TX:Hid (256<c.structs.length+c.funcs.length->B=false):=fun h=>bool_false HB.out fun h'=>by have:=h'.1;omega
 have EX:Hid (∀ i (h:i<c.structs.length),¬ MaySct c.structs[i]->B=false):=fun i h hn=>bool_false HB.out fun h'=>hn (h'.2.1 _ (List.getElem_mem h))
 have UX:Hid (∀ i (h:i<c.funcs.length),¬ MayFnc n c.funcs[i]->B=false):=fun i h hn=>bool_false HB.out fun h'=>hn (h'.2.2 _ (List.getElem_mem h))
 have OK:Hid (c.structs.length+c.funcs.length<=256->(∀ i (h:i<c.structs.length),MaySct c.structs[i])->(∀ i (h:i<c.funcs.length),MayFnc n c.funcs[i])->B=true):=by
  intro h1 h2 h3
  refine HB.out.2 ⟨h1,fun l hl=>?_,fun l hl=>?_⟩
  ·obtain ⟨i,hi,rfl⟩:=List.getElem_of_mem hl
   exact h2 i hi
  ·obtain ⟨i,hi,rfl⟩:=List.getElem_of_mem hl
   exact h3 i hi
 clear HB hB F0 hFS hs hf hsc hsb hSA hfc hfb hFA he hcn
 generalize c.structs=SS,c.funcs=FF at *
 obtain ⟨g0,g1⟩:=HCE.out _ F0'.out
 by_cases h1:256<SS.length
 ·have i1:(256:Int)<(SS.length:Int):=by omega
  have HF:=hid (SX.out h1)
  clear CS CF
  go_enter Tryz.func10,Tryz.ntmps10
  go_wp2_with fail
  go_ret
  exact ⟨by rw [HF.out];rfl,FB.out _ F0'.out⟩
 have i1:¬ (256:Int)<(SS.length:Int):=by omega
 have iw:IntKind.i64.wrap (256 - (SS.length:Int))=256 - (SS.length:Int):=wrap_small (by omega) (by omega)
 by_cases h2:256<SS.length+FF.length
 ·have i2:256 - (SS.length:Int)<(FF.length:Int):=by omega
  have HF:=hid (TX.out h2)
  clear CS CF
  go_enter Tryz.func10,Tryz.ntmps10
  go_wp2_with fail
  go_ret
  exact ⟨by rw [HF.out];rfl,FB.out _ F0'.out⟩
 have i2:¬ 256 - (SS.length:Int)<(FF.length:Int):=by omega
 go_enter Tryz.func10,Tryz.ntmps10
 go_wp2_with fail
 go_loopw [3] (fun i wr=>∃ k:Nat,k<=SS.length/\i=.int .i64 k/\(∀ j (h:j<SS.length),j<k->MaySct SS[j])/\FS wr) (fun i _=>SS.length - (intOf i).toNat)
 case atStart=>exact ⟨0,by omega,rfl,fun j _ h=>by omega,F0'.out⟩
 case round =>
  obtain ⟨k,hk,rfl,hj,hf⟩:=hrel
  have HJ:=hid hj
  have FW:=hid hf
  clear hj hf F0' g0 g1
  obtain ⟨g0,g1⟩:=HCE.out _ FW.out
  by_cases h3:k<SS.length
  ·have i3:(k:Int)<(SS.length:Int):=by omega
   obtain ⟨b,o,pb,S,v2,v3,ps,bn,bl,bf,rfl,⟨o2,o3⟩,hcell,hc1,hc2,hc3,hm⟩:=CS.out k h3
   obtain ⟨m0,m1,m2,m3,m4⟩:=hcell wr (FB.out _ FW.out)
   have hA:=alloc_one wr (.cells #[.bool pb,.string S,v2,v3,.int .i64 ps] 54)
   have rw0:=Row.new wr 54 [.bool pb,.string S,v2,v3,.int .i64 ps]
   have FA:=hid (FC.out _ _ FW.out hA)
   have RA:=hid rw0
   have ON:Hid ([.bool pb,.string S,v2,v3,.int .i64 ps].toArray.all (·.oneCell')=true):=all_one (ones_cons rfl (ones_cons rfl (ones_cons o2 (ones_cons o3 (ones_cons rfl ones_nil)))))
   have C1:=hid hc1
   have C2:=hid hc2
   have C3:=hid hc3
   have HM:=hid hm
   have HF0:Hid (¬ MaySct SS[k]->B=false):=EX.out k h3
   have HJ':Hid (MaySct SS[k]->∀ j (h:j<SS.length),j<k+1->MaySct SS[j]):=by
    intro e j h hjk
    rcases Nat.lt_or_ge j k with h'|h'
    ·exact HJ.out j h h'
    ·obtain rfl:j=k:=by omega
     exact e
   clear hcell hc1 hc2 hc3 hm hA rw0 CF UX OK o2 o3 CS
   go_wp2_with (refine store_newL rfl 54 (.tmp 4) (.tmp 31) rfl [.bool pb,.string S,v2,v3,.int .i64 ps] _ 54 rfl rfl (by kernel_rfl) rfl ON.out ?_;intro w3 r3 b3;have R3:=hid r3;have F3:=hid (FC.out _ _ FW.out b3);clear r3 b3;have q1:w3.cell? ⟨wr.heap.size,1,none⟩=some (.string S):=R3.out.cell 1;have q2:w3.cell? ⟨wr.heap.size,2,none⟩=some v2:=R3.out.cell 2;have q3:w3.cell? ⟨wr.heap.size,3,none⟩=some v3:=R3.out.cell 3)
   refine (C1.out _ (FB.out _ F3.out)).mono ?_
   rintro _ w4 ⟨rfl,b4⟩
   have F4:=hid (FC.out _ _ F3.out b4)
   have R4:=hid (R3.out.below b4 R3.out.lt)
   clear b4 R3 F3 q1 q2 q3 g0 g1 m0 m1 m2 m3 m4
   cases bn with
   | false =>
    have HF:=hid (HF0.out fun h=>by cases (HM.out.1 h).1)
    go_wp2_with fail
    go_ret
    exact ⟨by rw [HF.out];rfl,FB.out _ F4.out⟩
   | true =>
   have q2:w4.cell? ⟨wr.heap.size,2,none⟩=some v2:=R4.out.cell 2
   go_wp2_with fail
   refine (C2.out _ (FB.out _ F4.out)).mono ?_
   rintro _ w5 ⟨rfl,b5⟩
   have F5:=hid (FC.out _ _ F4.out b5)
   have R5:=hid (R4.out.below b5 R4.out.lt)
   clear b5 R4 F4 q2
   cases bl with
   | false =>
    have HF:=hid (HF0.out fun h=>by cases (HM.out.1 h).2.1)
    go_wp2_with fail
    go_ret
    exact ⟨by rw [HF.out];rfl,FB.out _ F5.out⟩
   | true =>
   have q3:w5.cell? ⟨wr.heap.size,3,none⟩=some v3:=R5.out.cell 3
   go_wp2_with fail
   refine (C3.out _ (FB.out _ F5.out)).mono ?_
   rintro _ w6 ⟨rfl,b6⟩
   have F6:=hid (FC.out _ _ F5.out b6)
   clear b6 R5 F5 q3
   cases bf with
   | false =>
    have HF:=hid (HF0.out fun h=>by cases (HM.out.1 h).2.2)
    go_wp2_with fail
    go_ret
    exact ⟨by rw [HF.out];rfl,FB.out _ F6.out⟩
   | true =>
    have HJ2:=hid (HJ'.out (HM.out.2 ⟨by first|rfl|trivial,by first|rfl|trivial,by first|rfl|trivial⟩))
    clear HJ' HM
    go_wp2_with fail
    go_roundw
    case rel=>exact ⟨k+1,by omega,by go_num,HJ2.out,F6.out⟩
    case measure=>simp [intOf];omega
  ·have i3:¬ (k:Int)<(SS.length:Int):=by omega
   have OK2:Hid ((∀ i (h:i<FF.length),MayFnc n FF[i])->B=true):=OK.out (by omega) fun i h=>HJ.out i h (by omega)
   clear OK EX HJ CS
   go_wp2_with fail
   rename World=>wA
   go_loopw [5] (fun i wr=>∃ q:Nat,q<=FF.length/\i=.int .i64 q/\(∀ j (h:j<FF.length),j<q->MayFnc n FF[j])/\FS wr) (fun i _=>FF.length - (intOf i).toNat)
   case atStart=>exact ⟨0,by omega,rfl,fun j _ h=>by omega,FW.out⟩
   case round =>
    obtain ⟨q,hq,rfl,hj,hf⟩:=hrel
    have HJ:=hid hj
    have FV:=hid hf
    clear hj hf FW g0 g1
    obtain ⟨-,g1⟩:=HCE.out _ FV.out
    by_cases h5:q<FF.length
    ·have i5:(q:Int)<(FF.length:Int):=by omega
     obtain ⟨b,o,cs,bf,rfl,hl,hcell,hc1,hm⟩:=CF.out q h5
     have rg:=hid (hcell wr (FB.out _ FV.out))
     have C1:=hid hc1
     have HM:=hid hm
     have HF0:Hid (¬ MayFnc n FF[q]->B=false):=UX.out q h5
     have HJ':Hid (MayFnc n FF[q]->∀ j (h:j<FF.length),j<q+1->MayFnc n FF[j]):=by
      intro e j h hjk
      rcases Nat.lt_or_ge j q with h'|h'
      ·exact HJ.out j h h'
      ·obtain rfl:j=q:=by omega
       exact e
     have hi:(Tryz.prog.info? 40).map (·.size)=some cs.length:=by rw [hl];kernel_rfl
     have HI:=hid hi
     clear hi hl hcell hc1 hm CF UX OK2
     go_wp2_with (refine load_midG rfl 40 (.tmp 58) rfl b (o+q * 10) rfl cs _ rg.out Tryz.underlying40 rfl HI.out ?_)
     refine (C1.out _ (FB.out _ FV.out)).mono ?_
     rintro _ w4 ⟨rfl,b4⟩
     have F4:=hid (FC.out _ _ FV.out b4)
     clear b4 rg g1
     cases bf with
     | false =>
      have HF:=hid (HF0.out fun h=>by cases (HM.out.1 h))
      go_wp2_with fail
      go_ret
      exact ⟨by rw [HF.out];rfl,FB.out _ F4.out⟩
     | true =>
      have HJ2:=hid (HJ'.out (HM.out.2 (by first|rfl|trivial)))
      clear HJ' HM
      go_wp2_with fail
      go_roundw
      case rel=>exact ⟨q+1,by omega,by go_num,HJ2.out,F4.out⟩
      case measure=>simp [intOf];omega
    ·have i5:¬ (q:Int)<(FF.length:Int):=by omega
     have HF:=hid (OK2.out fun i h=>HJ.out i h (by omega))
     clear CF UX HJ OK2
     go_wp2_with fail
     go_ret
     exact ⟨by rw [HF.out];rfl,FB.out _ FV.out⟩

def dpA (f:List St->Int) (l:List St):Nat->Int
 | 0=>0
 | k+1=>match l[k]? with
  | some s=>max (max (dpA f l k) (f s.thn+1)) (f s.els+1)
  | none=>dpA f l k
def dp:Nat->List St->Int
 | 0,_=>0
 | m+1,l=>dpA (dp m) l l.length
theorem dpA_succ (f:List St->Int) (l:List St) (k:Nat) (h:k<l.length):dpA f l (k+1)=max (max (dpA f l k) (f (l[k]).thn+1)) (f (l[k]).els+1):=by
 show (match l[k]? with|some s=>_|none=>_)=_
 rw [List.getElem?_eq_getElem h]
theorem dpA_in (f:List St->Int) (m:Int) (h0:0<=m) (hf:∀ l,0<=f l/\f l<=m) (l:List St):∀ k,0<=dpA f l k/\dpA f l k<=m+1
 | 0=>by simp only [dpA];omega
 | k+1=>by
  have h:=dpA_in f m h0 hf l k
  rcases Nat.lt_or_ge k l.length with hk|hk
  ·rw [dpA_succ f l k hk]
   have h1:=hf (l[k]).thn
   have h2:=hf (l[k]).els
   omega
  ·have e:dpA f l (k+1)=dpA f l k:=by
    show (match l[k]? with|some s=>_|none=>_)=_
    rw [List.getElem?_eq_none hk]
   rw [e]
   exact h
theorem max_ite (a b c:Int):(if (if a<b then b else a)<c then c else if a<b then b else a)=max (max a b) c:=by
 by_cases h:a<b
 ·simp only [h,if_true]
  by_cases h':b<c
  ·simp only [h',if_true];omega
  ·simp only [h',if_false];omega
 ·simp only [h,if_false]
  by_cases h':a<c
  ·simp only [h',if_true];omega
  ·simp only [h',if_false];omega
theorem dp_in:∀ (m:Nat) (l:List St),0<=dp m l/\dp m l<=m
 | 0,_=>by simp [dp]
 | m+1,l=>by
  have h:=dpA_in (dp m) m (by omega) (dp_in m) l l.length
  show 0<=dpA (dp m) l l.length/\dpA (dp m) l l.length<=((m+1:Nat):Int)
  omega
set_option maxHeartbeats 8000000 in
set_option maxRecDepth 20000 in
theorem xdeep_any:∀ (m:Nat),m<=1000->∀ {n:Nat} {K:Ctx} {w:World} {v:Value} {l:List St} (M:Int),M=m->Ar 32 496 (StAt n K w) K w v l ->
  Calls Tryz.prog 18 #[v,.int .i64 M] w fun ev w'=>ev=.returned (.int .i64 (dp m l))/\∃ m',w'=w.drewN m'
 | 0,_,n,K,w,v,l,M,hM,ha=>by
  obtain ⟨ao,cap,rfl,hc,hb,hA⟩:=ha.shape
  have M0:¬ 0<M:=by omega
  clear hA ha hb hM
  go_enter Tryz.func18,Tryz.ntmps18
  go_wp2_with fail
  go_loopw [5,6] (fun m i wr=>m=.int .i64 0/\(∃ z:Int,i=.int .i64 z)/\wr=w) (fun _ i _=>0)
  case atStart=>exact ⟨rfl,⟨0,rfl⟩,rfl⟩
  case round =>
   obtain ⟨rfl,⟨z,rfl⟩,rfl⟩:=hrel
   by_cases h3:z<(l.length:Int)
   ·go_wp2_with fail
    go_ret
    exact ⟨rfl,0,rfl⟩
   ·go_wp2_with fail
    go_ret
    exact ⟨rfl,0,rfl⟩
 | m+1,hm,n,K,w,v,l,M,hM,ha=>by
  obtain ⟨ao,cap,rfl,hc,hb,hA⟩:=ha.shape
  have hl9:l.length<=9223372036854775807:=by omega
  have M0:0<M:=by omega
  have HA:Hid (∀ i (h:i<l.length),∃ b o vt ve,ao=some ⟨b,o,none⟩/\w.cell? ⟨b,o+i * 32+30,none⟩=some vt/\w.cell? ⟨b,o+i * 32+31,none⟩=some ve /\
    (∀ q,Calls Tryz.prog 18 #[vt,.int .i64 (M - 1)] (w.drewN q) fun ev w'=>ev=.returned (.int .i64 (dp m (l[i]).thn))/\∃ m',w'=(w.drewN q).drewN m') /\
    (∀ q,Calls Tryz.prog 18 #[ve,.int .i64 (M - 1)] (w.drewN q) fun ev w'=>ev=.returned (.int .i64 (dp m (l[i]).els))/\∃ m',w'=(w.drewN q).drewN m')):=by
   intro i h
   obtain ⟨b,o,e,_,cs,hl,hcs,hx⟩:=hA i h
   cases n with
   | zero=>exact hx.elim
   | succ n =>
   obtain ⟨ts,ps,vs,os,vt,ve,rfl,h1,h2,h3',h4,h5,h6,h7⟩:=id hx
   have l1:=h2.len
   have l2:=h3'.len
   have l3:=h4.len
   have l4:=h5.len
   have pb:=part_at hcs (.int .i64 (l[i]).kind :: .int .i64 (l[i]).pos :: .bool (l[i]).mu :: .string (str (l[i]).name) :: (ts ++ (.bool (l[i]).has :: (ps ++ (vs ++ os))))) [vt,ve] [] (k:=30) (n:=2) (by simp [l1,l2,l3,l4]) rfl (by decide) (by simp)
   refine ⟨b,o,vt,ve,e,pb 0 (by decide),pb 1 (by decide),fun q=>xdeep_any m (by omega) (n:=n) (K:=K) (M - 1) (by omega) ?_,fun q=>xdeep_any m (by omega) (n:=n) (K:=K) (M - 1) (by omega) ?_⟩
   ·exact h6.mono (Below.drewN _ _ _) fun _ _ _ h=>h.below (Below.drewN _ _ _)
   ·exact h7.mono (Below.drewN _ _ _) fun _ _ _ h=>h.below (Below.drewN _ _ _)
  have HM:Hid (M=((m+1:Nat):Int)):=hM
  have wM:IntKind.i64.wrap (M - 1)=M - 1:=wrap_small (by omega) (by omega)
  clear hA ha hb hM
  go_enter Tryz.func18,Tryz.ntmps18
  go_wp2_with fail
  go_loopw [5,6] (fun a i wr=>∃ k:Nat,k<=l.length/\i=.int .i64 k/\a=.int .i64 (dpA (dp m) l k)/\∃ m,wr=w.drewN m) (fun _ i _=>l.length - (intOf i).toNat)
  case atStart=>exact ⟨0,by omega,rfl,rfl,0,rfl⟩
  case round =>
   obtain ⟨k,hk,rfl,rfl,p,hx⟩:=hrel
   have HX:Hid (wr=w.drewN p):=hx
   by_cases h3:k<l.length
   ·obtain ⟨b,o,vt,ve,e,c1,c2,d1,d2⟩:=HA.out k h3
    subst e
    have i1:(k:Int)<(l.length:Int):=by omega
    have c1':wr.cell? ⟨b,o+k * 32+30,none⟩=some vt:=by rw [hx];exact c1
    have c2':wr.cell? ⟨b,o+k * 32+31,none⟩=some ve:=by rw [hx];exact c2
    have D1:Hid (∀ q,Calls Tryz.prog 18 #[vt,.int .i64 (M - 1)] (wr.drewN q) fun ev w'=>ev=.returned (.int .i64 (dp m (l[k]).thn))/\∃ m',w'=(wr.drewN q).drewN m'):=fun q=>by rw [hx,World.drewN_drewN];exact d1 (p+q)
    have D2:Hid (∀ q,Calls Tryz.prog 18 #[ve,.int .i64 (M - 1)] (wr.drewN q) fun ev w'=>ev=.returned (.int .i64 (dp m (l[k]).els))/\∃ m',w'=(wr.drewN q).drewN m'):=fun q=>by rw [hx,World.drewN_drewN];exact d2 (p+q)
    have HS:Hid (dpA (dp m) l (k+1)=max (max (dpA (dp m) l k) (dp m (l[k]).thn+1)) (dp m (l[k]).els+1)):=dpA_succ _ _ _ h3
    have hT:=dp_in m (l[k]).thn
    have hE:=dp_in m (l[k]).els
    have wT:IntKind.i64.wrap (dp m (l[k]).thn+1)=dp m (l[k]).thn+1:=wrap_small (by omega) (by omega)
    have wE:IntKind.i64.wrap (dp m (l[k]).els+1)=dp m (l[k]).els+1:=wrap_small (by omega) (by omega)
    clear d1 d2 c1 c2 hx HA hT hE
    generalize dpA (dp m) l k=A at HS ⊢
    generalize dp m (l[k]).thn=T at D1 HS wT
    generalize dp m (l[k]).els=E at D2 HS wE
    go_wp2_with fail
    refine wp_region_quiet_lit (by kernel_rfl) (by kernel_rfl) ?_
    iterate 17 go_big_quiet_step (first|(go_at_call 18;exact Calls.quiet_of (D1.out _)))
    repeat (go_big_quiet_step (first|(go_at_call 18;exact Calls.quiet_of (D2.out _))))
    refine wpQuiet_nil ?_
    rintro _ ⟨nq,rfl⟩
    go_wp2_with fail
    go_roundw
    case rel=>exact ⟨k+1,by omega,by go_num,by rw [HS.out,← max_ite],_,by rw [HX.out,World.drewN_drewN]⟩
    case measure=>simp [intOf];omega
   ·have i1:¬ (k:Int)<(l.length:Int):=by omega
    have hke:Hid (k=l.length):=by show k=l.length;omega
    clear hx
    go_wp2_with fail
    go_ret
    exact ⟨by rw [hke.out];rfl,p,HX.out⟩

def Grt (n:Nat) (f:Fnc):Prop:=68<dp 70 f.body∨2100<f.body.length∨2100<cw n f.body
def GrtC (n:Nat) (c:Crt):Prop:=300<c.structs.length∨300<c.funcs.length∨∃ f∈c.funcs,Grt n f
theorem Fnc.body_at {n:Nat} {K:Ctx} {w:World} {cs:List Value} {f:Fnc} (h:FncAt n K w cs f):∃ v,cs[8]?=some v/\Ar 32 496 (StAt n K w) K w v f.body:=by
 obtain ⟨v2,v3,ts,v8,rfl,hl,hli,hpa,hre,hbo⟩:=h
 obtain ⟨t2,m2,d2,t3,m3,d3,rfl⟩:=hre.open
 exact ⟨v8,rfl,hbo⟩
set_option maxHeartbeats 8000000 in
set_option maxRecDepth 20000 in
theorem great_any {n:Nat} {K:Ctx} {w:World} (hC:K.C<=w.heap.size) {c:Crt} {cs:List Value} (hc:CrtAt n K w cs c) (B:Bool) (hB:B=true↔GrtC n c) :
  Calls Tryz.prog 7 #[.agg cs.toArray] w fun ev w'=>ev=.returned (.bool B)/\Below w.heap.size w w':=by
 obtain ⟨v0,v1,rfl,h0,h1⟩:=hc
 obtain ⟨a0,c0,rfl,g0,gb0,hz⟩:=h0.shape
 clear hz
 obtain ⟨a1,c1,rfl,g1,gb1,hA⟩:=h1.shape
 have l0:c.structs.length<=9223372036854775807:=by omega
 have l1:c.funcs.length<=9223372036854775807:=by omega
 have HA:Hid (∀ i (h:i<c.funcs.length),∃ b o v,a1=some ⟨b,o,none⟩/\b<K.C/\w.cell? ⟨b,o+i * 10+8,none⟩=some v/\Ar 32 496 (StAt n K w) K w v (c.funcs[i]).body):=by
  intro i h
  obtain ⟨b,o,e,hb,cs,hl,hcs,hx⟩:=hA i h
  obtain ⟨v,e8,hv⟩:=Fnc.body_at hx
  exact ⟨b,o,v,e,hb,by rw [hcs 8 (by omega),e8],hv⟩
 have HC:Hid (K.C<=w.heap.size):=hC
 have HQ:Hid (GrtC n c->B=true):=fun h=>hB.2 h
 have HF:Hid (¬ GrtC n c->B=false):=fun h=>by cases hb:B with|false=>rfl|true=>exact absurd (hB.1 hb) h
 clear hB
 clear hA h0 h1 hC gb0 gb1
 have HS:Hid (∀ m,(w.alloc (.cells #[.slice a0 c.structs.length c0,.slice a1 c.funcs.length c1] 25)).cell? ⟨w.heap.size,m,none⟩=[Value.slice a0 c.structs.length c0,.slice a1 c.funcs.length c1][m]?):=fun m=>(Row.new w 25 [.slice a0 c.structs.length c0,.slice a1 c.funcs.length c1]).cell m
 by_cases s0:(300:Int)<(c.structs.length:Int)
 ·have HT:Hid (GrtC n c):=.inl (by omega)
  go_enter Tryz.func7,Tryz.ntmps7
  go_wp2_with fail
  go_ret
  exact ⟨by rw [HQ.out HT.out];rfl,alloc_one _ _⟩
 by_cases s1:(300:Int)<(c.funcs.length:Int)
 ·have HT:Hid (GrtC n c):=.inr (.inl (by omega))
  go_enter Tryz.func7,Tryz.ntmps7
  go_wp2_with fail
  go_ret
  exact ⟨by rw [HQ.out HT.out];rfl,alloc_one _ _⟩
 have HN:Hid (¬ 300<c.structs.length/\¬ 300<c.funcs.length):=⟨by omega,by omega⟩
 go_enter Tryz.func7,Tryz.ntmps7
 go_wp2_with fail
 go_loopw [3] (fun i wr=>∃ k:Nat,k<=c.funcs.length/\i=.int .i64 k/\(∀ j (h:j<c.funcs.length),j<k->¬ Grt n c.funcs[j])/\∃ m,wr=(w.alloc (.cells #[.slice a0 c.structs.length c0,.slice a1 c.funcs.length c1] 25)).drewN m) (fun i _=>c.funcs.length - (intOf i).toNat)
 case atStart=>exact ⟨0,by omega,rfl,fun j _ h=>by omega,0,rfl⟩
 case round =>
  obtain ⟨k,hk,rfl,hj,m,hx⟩:=hrel
  have HX:=hid0 hx
  have HJ:=hid0 hj
  have HB:Hid (∀ q,Below w.heap.size w (wr.drewN q)):=fun q=>by rw [hx];exact (alloc_one _ _).trans ((Below.drewN _ _ _).trans (Below.drewN _ _ _))
  have HB0:Hid (Below w.heap.size w wr):=by show Below _ _ _;rw [hx];exact (alloc_one _ _).trans (Below.drewN _ _ _)
  have b1:wr.cell? ⟨w.heap.size,1,none⟩=some (.slice a1 c.funcs.length c1):=by rw [hx];exact HS.out 1
  clear hj hx
  by_cases h3:k<c.funcs.length
  ·obtain ⟨b,o,v,e,hbC,c8,hv⟩:=HA.out k h3
   subst e
   have i1:(k:Int)<(c.funcs.length:Int):=by omega
   have c8':wr.cell? ⟨b,o+k * 10+8,none⟩=some v:=by rw [HB0.out.cell (p:=⟨b,o+k * 10+8,none⟩) (Nat.lt_of_lt_of_le hbC HC.out)];exact c8
   have D1:Hid (Calls Tryz.prog 18 #[v,.int .i64 70] wr fun ev w'=>ev=.returned (.int .i64 (dp 70 (c.funcs[k]).body))/\∃ m',w'=wr.drewN m'):=xdeep_any 70 (by decide) (n:=n) (K:=K) 70 (by decide) (hv.mono (below_le HB0.out HC.out) fun _ _ _ h=>h.below (below_le HB0.out HC.out))
   have D2:Hid (∀ q,Calls Tryz.prog 17 #[v] (wr.drewN q) fun ev w'=>ev=.returned (.int .i64 (cw n (c.funcs[k]).body))/\∃ m',w'=(wr.drewN q).drewN m'):=fun q=>xcount_any n (K:=K) (hv.mono (below_le (HB.out q) HC.out) fun _ _ _ h=>h.below (below_le (HB.out q) HC.out))
   have HG:Hid (Grt n c.funcs[k]↔68<dp 70 (c.funcs[k]).body∨2100<(c.funcs[k]).body.length∨2100<cw n (c.funcs[k]).body):=Iff.rfl
   have HT:Hid (Grt n c.funcs[k]->GrtC n c):=fun h=>.inr (.inr ⟨_,List.getElem_mem h3,h⟩)
   have HK:Hid (¬ Grt n c.funcs[k]->∀ j (h:j<c.funcs.length),j<k+1->¬ Grt n c.funcs[j]):=by
    intro hn j h hjk
    rcases Nat.lt_or_ge j k with hl|hl
    ·exact HJ.out j h hl
    ·obtain rfl:j=k:=by omega
     exact hn
   obtain ⟨av,cv,ev⟩:=hv.form
   subst ev
   clear hv c8 HA HJ HN HS s0 s1 g0 g1
   generalize dp 70 (c.funcs[k]).body=D at D1 HG
   generalize cw n (c.funcs[k]).body=C at D2 HG
   generalize (c.funcs[k]).body.length=L at c8' D1 D2 HG
   by_cases p1:(68:Int)<D
   ·have hg:Hid (GrtC n c):=HT.out (HG.out.2 (.inl p1))
    clear HG HT HK
    go_wp2_with (first|(go_at_call 18;refine D1.out.mono ?_;rintro _ _ ⟨rfl,m1,rfl⟩))
    go_ret
    exact ⟨by rw [HQ.out hg.out];rfl,HB.out _⟩
   by_cases p2:(2100:Int)<(L:Int)
   ·have hg:Hid (GrtC n c):=HT.out (HG.out.2 (.inr (.inl (by omega))))
    clear HG HT HK
    go_wp2_with (first|(go_at_call 18;refine D1.out.mono ?_;rintro _ _ ⟨rfl,m1,rfl⟩))
    go_ret
    exact ⟨by rw [HQ.out hg.out];rfl,HB.out _⟩
   by_cases p3:(2100:Int)<C
   ·have hg:Hid (GrtC n c):=HT.out (HG.out.2 (.inr (.inr p3)))
    clear HG HT HK
    go_wp2_with (first|(go_at_call 18;refine D1.out.mono ?_;rintro _ _ ⟨rfl,m1,rfl⟩)|(go_at_call 17;refine (D2.out _).mono ?_;rintro _ _ ⟨rfl,m2,rfl⟩))
    go_ret
    exact ⟨by rw [HQ.out hg.out];rfl,by first|exact HB.out _|(rw [World.drewN_drewN];exact HB.out _)⟩
   ·have hg:Hid (∀ j (h:j<c.funcs.length),j<k+1->¬ Grt n c.funcs[j]):=HK.out (fun h=>by have:=HG.out.1 h;omega)
    clear HG HT HK
    go_wp2_with (first|(go_at_call 18;refine D1.out.mono ?_;rintro _ _ ⟨rfl,m1,rfl⟩)|(go_at_call 17;refine (D2.out _).mono ?_;rintro _ _ ⟨rfl,m2,rfl⟩))
    go_roundw
    case rel=>exact ⟨k+1,by omega,by go_num,hg.out,_,by rw [HX.out,World.drewN_drewN]⟩
    case measure=>simp [intOf];omega
  ·have i1:¬ (k:Int)<(c.funcs.length:Int):=by omega
   have hg:Hid (¬ GrtC n c):=by
    rintro (h|h|⟨f,hf,h⟩)
    ·exact HN.out.1 h
    ·exact HN.out.2 h
    ·obtain ⟨j,hj,rfl⟩:=List.getElem_of_mem hf
     exact HJ.out j hj (by omega) h
   go_wp2_with fail
   go_ret
   exact ⟨by rw [HF.out hg.out];rfl,HB0.out⟩

theorem count_set {l:List Bool}:∀ {i:Nat},l[i]?=some false->(l.set i true).count false+1=l.count false:=by
 induction l with
 | nil=>intro i h;simp at h
 | cons x l ih =>
  intro i h
  cases i with
  | zero =>
   simp only [List.getElem?_cons_zero,Option.some.injEq] at h
   subst h
   simp
  | succ i =>
   simp only [List.getElem?_cons_succ] at h
   have:=ih h
   cases x <;> simp <;> omega
section
variable {P:Program} {ops:Array Oper} {Q:Exit->Act->World->Prop} {md:Region.Mode}
theorem wpAny_inv {Inv:(Nat->Bool)->Act->World->Prop}
  (hed:∀ (i:Nat) (o:Oper),ops[i]?=some o->∀ e∈o.after.toList,e.on<i)
  (hstep:∀ (d:Nat->Bool) (a:Act) (w:World) (i:Nat) (o:Oper),ops[i]?=some o->Inv d a w->d i=false->(∀ e∈o.after.toList,Region.binds md e=true->d e.on=true)->wpOp P ops Q i (Inv (fun j=>if j=i then true else d j)) a w)
  (hend:∀ a w,Inv (fun _=>true) a w->Q .normal a w) :
  ∀ (fuel:Nat) (l:Array Bool) (a:Act) (w:World),l.size=ops.size->l.toList.count false<=fuel->Inv (fun j=>l.getD j true) a w->wpAny P md ops Q fuel l a w:=by
 have hall:∀ (l:Array Bool),l.size=ops.size->Region.ready md ops l=[]->∀ j,l.getD j true=true:=by
  intro l hl hr j
  induction j using Nat.strongRecOn with
  | ind j ih =>
  cases hj:l.getD j true with
  | true=>rfl
  | false =>
   exfalso
   have hlt:j<l.size:=by
    rcases Nat.lt_or_ge j l.size with h|h
    ·exact h
    ·rw [Array.getD_eq_getD_getElem?,Array.getElem?_eq_none h] at hj
     cases hj
   have ho:ops[j]?=some ops[j]:=Array.getElem?_eq_getElem (by omega)
   have hm:j∈Region.ready md ops l:=by
    unfold Region.ready
    rw [List.mem_filter]
    refine ⟨List.mem_range.2 (by omega),?_⟩
    rw [hj,ho]
    simp only [Bool.not_false,Bool.true_and,Option.map_some,Option.getD_some]
    rw [Array.all_eq_true_iff_forall_mem]
    intro e he
    have h1:=hed j _ ho e (Array.mem_toList_iff.2 he)
    have h2:=ih e.on h1
    have h3:l.getD e.on false=true:=by
     rw [Array.getD_eq_getD_getElem?,Array.getElem?_eq_getElem (by omega)] at h2 ⊢
     exact h2
    rw [h3,Bool.or_true]
   rw [hr] at hm
   cases hm
 intro fuel
 induction fuel with
 | zero =>
  intro l a w hl hc hI
  have h0:∀ j,l.getD j true=true:=by
   intro j
   cases hj:l.getD j true with
   | true=>rfl
   | false =>
    exfalso
    have hlt:j<l.size:=by
     rcases Nat.lt_or_ge j l.size with h|h
     ·exact h
     ·rw [Array.getD_eq_getD_getElem?,Array.getElem?_eq_none h] at hj
      cases hj
    have hm:false∈l.toList:=by
     rw [Array.getD_eq_getD_getElem?,Array.getElem?_eq_getElem hlt,Option.getD_some] at hj
     rw [← hj]
     exact Array.getElem_mem_toList hlt
    have:=List.count_pos_iff.2 hm
    omega
  have e:(fun j=>l.getD j true)=fun _=>true:=funext h0
  rw [e] at hI
  refine ⟨?_,hend a w hI⟩
  unfold Region.ready
  rw [List.filter_eq_nil_iff]
  intro i _
  rw [h0 i]
  simp
 | succ fuel ih =>
  intro l a w hl hc hI
  refine ⟨fun hr=>?_,fun i hi=>?_⟩
  ·have e:(fun j=>l.getD j true)=fun _=>true:=funext (hall l hl hr)
   rw [e] at hI
   exact hend a w hI
  ·unfold Region.ready at hi
   rw [List.mem_filter,List.mem_range] at hi
   obtain ⟨hlt,hb⟩:=hi
   have ho:ops[i]?=some ops[i]:=Array.getElem?_eq_getElem hlt
   rw [ho] at hb
   simp only [Option.map_some,Option.getD_some,Bool.and_eq_true,Bool.not_eq_true'] at hb
   obtain ⟨hf,he⟩:=hb
   rw [Array.all_eq_true_iff_forall_mem] at he
   refine wpOp_mono ?_ (hstep _ a w i _ ho hI hf ?_)
   ·intro a' w' h'
    refine ih _ a' w' (by simpa using hl) ?_ ?_
    ·have h1:l.toList[i]?=some false:=by
      rw [Array.getD_eq_getD_getElem?,Array.getElem?_eq_getElem (by omega),Option.getD_some] at hf
      rw [Array.getElem?_toList,Array.getElem?_eq_getElem (by omega),hf]
     have h2:=count_set h1
     rw [Array.toList_setIfInBounds]
     omega
    ·have e:(fun j=>(l.setIfInBounds i true).getD j true)=fun j=>if j=i then true else l.getD j true:=by
      funext j
      rw [Array.getD_eq_getD_getElem?,Array.getD_eq_getD_getElem?,Array.getElem?_setIfInBounds]
      by_cases hji:i=j
      ·subst hji
       rw [if_pos rfl,if_pos rfl,if_pos (by omega)]
       rfl
      ·rw [if_neg hji,if_neg (fun h=>hji h.symm)]
     rw [e]
     exact h'
   ·intro e hem hbd
    have h1:=he e (Array.mem_toList_iff.1 hem)
    rw [hbd] at h1
    simp only [Bool.not_true,Bool.false_or] at h1
    have h2:=hed i _ ho e hem
    rw [Array.getD_eq_getD_getElem?,Array.getElem?_eq_getElem (by omega)] at h1 ⊢
    exact h1
theorem wp_region_inv {id:Nat} {a:Act} {w:World} {Inv:(Nat->Bool)->Act->World->Prop} (hm:P.follows .mixedOrders=true)
  (hed:∀ (i:Nat) (o:Oper),ops[i]?=some o->∀ e∈o.after.toList,e.on<i)
  (h0:Inv (fun j=>decide (ops.size<=j)) a w.drew)
  (hstep:∀ (d:Nat->Bool) (a:Act) (w:World) (i:Nat) (o:Oper),ops[i]?=some o->Inv d a w->d i=false->(∀ e∈o.after.toList,Region.binds .any e=true->d e.on=true)->wpOp P ops Q i (Inv (fun j=>if j=i then true else d j)) a w)
  (hend:∀ a w,Inv (fun _=>true) a w->Q .normal a w):(Code.region id ops true).wp P Q a w:=by
 refine wp_region_any hm (wpAny_inv hed hstep hend ops.size _ a _ (by simp) ?_ ?_)
 ·simp
 ·have e:(fun j=>(Array.replicate ops.size false).getD j true)=fun j=>decide (ops.size<=j):=by
   funext j
   rw [Array.getD_eq_getD_getElem?,Array.getElem?_replicate]
   by_cases h:j<ops.size
   ·rw [if_pos h,decide_eq_false (by omega)];rfl
   ·rw [if_neg h,decide_eq_true (by omega)];rfl
  rw [e]
  exact h0
end
end Go.Proofs.YtjenmmkamhplkaaGreat
