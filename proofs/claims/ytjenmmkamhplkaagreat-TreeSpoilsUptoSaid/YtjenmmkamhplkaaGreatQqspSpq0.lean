/- Part of the proof. -/
import Derived.Test.YtjenmmkamhplkaaGreatJqspSpe4
namespace Go.Proofs.YtjenmmkamhplkaaGreat
open Go.RowKit
set_option maxHeartbeats 40000000 in
set_option maxRecDepth 20000 in
theorem sp_qA {n:Nat} {K:Ctx} {w:World} {c:Crt} {x:Fnc} (P:Pre n K w c x) {cs:List Value} (hx:CrtAt n K w cs c) (how q:Int) (hw:IntKind.i64.wrap (how.tmod 6+6)=q) (hk:q.tmod 6=0∨q.tmod 6=2∨q.tmod 6=3∨q.tmod 6=5) (hbd:x.body.length<=1900) (hcw:cw n x.body<=1900) (hpl:x.params.length<=60) :
  Calls Tryz.prog 6 #[.agg cs.toArray,.int .i64 how] w fun ev w'=>ev=.returned (.bool true)/\Below w.heap.size w w':=by
 obtain ⟨SP,LS,LF,LB,LP,b,o,m1,p0,m0,t2,m2,d2,t3,m3,d3,lp,lc,pp,pc,bp,bc,rfl,T⟩:=sp_setup P hx
 have TT:=hid0 T
 obtain ⟨he,hB5,h250,hf0,hCw,SN,SB,SR,SM,D10,D9,D8,E7,D17,HR,souB,souP,souS,souF,cB,cP,cS,cF,hnl,hli,hre,hpa,ho10,i1,hlB,hlP,hlS,hlF⟩:=T
 clear hx
 have onB:=hid0 cB.ones
 have onP:=hid0 cP.ones
 have onS:=hid0 cS.ones
 have onF:=hid0 cF.drop.ones
 have i0:((c.funcs.length:Int) == 0)=false:=beq_eq_false_iff_ne.2 (by omega)
 have hf1:1<=c.funcs.length:=hf0
 have i2:¬ (250:Int)<(c.structs.length:Int)+(c.funcs.length:Int):=by omega
 have i3:(0:Int)<(c.funcs.length:Int):=by omega
 have i4:¬ (1900:Int)<(x.body.length:Int):=by omega
 have i5:¬ (1900:Int)<cw n x.body:=by omega
 have i6:¬ (60:Int)<(x.params.length:Int):=by omega
 clear hf0 cB cP cS cF hli hre hpa hnl P he hB5
 generalize cw n x.body=CW at *
 clear hcw
 generalize hg1:x.pub=pb,hg2:str x.name=nm1,hg3:x.lives.length=l1,hg4:x.params.length=l2,hg5:x.result.kind=rk,hg6:str x.result.name=rn1,hg7:x.body.length=l3,hg8:x.pos=ps,hg9:c.funcs.length=lf,hg0:c.structs.length=ls at *
 have G:=hid0 (And.intro hg1 (And.intro hg2 (And.intro hg3 (And.intro hg4 (And.intro hg5 (And.intro hg6 (And.intro hg7 (And.intro hg8 (And.intro hg9 hg0)))))))))
 clear hg1 hg2 hg3 hg4 hg5 hg6 hg7 hg8 hg9 hg0
 rcases hk with hk|hk|hk|hk <;> (
 go_enter Tryz.func6,Tryz.ntmps6
 go_wp2_with fail
 refine E7.out.mono ?_
 rintro _ z1 ⟨rfl,S1,k0,k1,-⟩
 clear E7
 go_wp2_with fail
 refine (D10.out _ S1).mono ?_
 rintro _ z2 ⟨rfl,S2,k2,k3,-⟩
 clear D10 S1 k0 k1
 go_wp2_with (first|(refine wpList_load_mid rfl 40 (.tmp 35) rfl b o rfl [.bool pb,.string nm1,.slice lp l1 lc,.slice pp l2 pc,.int .i64 rk,.string rn1,.slice t2 m2 d2,.slice t3 m3 d3,.slice bp l3 bc,.int .i64 ps] _ (HR.out z2 S2) Tryz.underlying40 rfl Tryz.sizeA ?_)|(refine store_newL rfl 40 (.tmp 5) (.tmp 36) rfl [.bool pb,.string nm1,.slice lp l1 lc,.slice pp l2 pc,.int .i64 rk,.string rn1,.slice t2 m2 d2,.slice t3 m3 d3,.slice bp l3 bc,.int .i64 ps] _ 40 rfl rfl Tryz.sizeA rfl ho10.out ?_;intro wA rA bA;have SA:=SN.out z2 wA S2 bA;have a8:wA.cell? ⟨z2.heap.size,8,none⟩=some (.slice bp l3 bc):=rA.cell 8))
 refine (D17.out wA SA _ rA).mono ?_
 rintro _ zA ⟨rfl,SZ,rZ,bZ⟩
 have a3:zA.cell? ⟨z2.heap.size,3,none⟩=some (.slice pp l2 pc):=rZ.cell 3
 clear D17 a8 k2 k3
 go_wp2_with (first|(refine build_as rfl 44 _ rfl oA4 _ rfl built_44 ?_)|(refine build_as rfl 47 _ rfl oA15 _ rfl built_47 ?_)|(refine build_as rfl 49 _ rfl (spC 10 0 ⟨#[]⟩).toArray _ rfl built_sp ?_)|(refine build_as rfl 54 _ rfl (sxC (.slice none 0 0)).toArray _ rfl built_54 ?_)|(refine store_newL rfl 49 (.tmp 6) (.tmp 56) rfl (spC 10 0 ⟨#[]⟩) _ 49 rfl rfl Tryz.sizeB rfl one_B ?_;intro wB rB bB)|(refine store_newL rfl 54 (.tmp 7) (.tmp 57) rfl (sxC (.slice none 0 0)) _ 54 rfl rfl Tryz.sizeC rfl one_C ?_;intro wC rC bC;have r5:=(rZ.below bB rZ.lt).below bC (Nat.lt_trans rZ.lt rB.lt);have r6:=rB.below bC rB.lt;have q50:wC.cell? ⟨z2.heap.size,1,none⟩=some (.string nm1):=r5.cell 1;have f50:=r5.fz 1;have q60:wC.cell? ⟨zA.heap.size,0,none⟩=some (.int .i64 10):=r6.cell 0;have f60:=r6.fz 0;have q61:wC.cell? ⟨zA.heap.size,13,none⟩=some (.int .i64 0):=r6.cell 13;have f61:=r6.fz 13;have q62:wC.cell? ⟨zA.heap.size,3,none⟩=some (.string ⟨#[]⟩):=r6.cell 3;have f62:=r6.fz 3))
 have SW:=SN.out _ _ SZ bB
 have SC':=SN.out _ _ SW bC
 have hg2:=(SR.out _ S2).lt
 have hg5:=rZ.lt
 have hg6:=rB.lt
 have hg7:=rC.lt
 have hsz2:=(SB.out _ S2).size
 first
  | (
   obtain ⟨wD,hwD⟩:∃ wD,wD=wC.setCell ⟨z2.heap.size,1,none⟩ (.string ⟨#[119,104,105,108,101]⟩):=⟨_,rfl⟩
   rw [← hwD]
   have hszD:wC.heap.size<=wD.heap.size:=by rw [hwD];simp [World.setCell]
   have r2D:Row wD w.heap.size 25 [.slice p0 ls m0,.slice (some ⟨b,o,none⟩) lf m1]:=by rw [hwD];exact ((SR.out _ SC').below (Below.refl _ _) (by omega)).other (by omega) _
   have r5D:Row wD z2.heap.size 40 [.bool pb,.string ⟨#[119,104,105,108,101]⟩,.slice lp l1 lc,.slice pp l2 pc,.int .i64 rk,.string rn1,.slice t2 m2 d2,.slice t3 m3 d3,.slice bp l3 bc,.int .i64 ps]:=by rw [hwD];exact (((rZ.below bB rZ.lt).below bC (Nat.lt_trans rZ.lt rB.lt)).below (Below.refl _ _) (by omega)).set 1 _
   have r6D:Row wD zA.heap.size 49 (spC 10 0 (str [])):=by rw [hwD];exact ((rB.below bC rB.lt).below (Below.refl _ _) (by omega)).other (by omega) _
   have r7D:Row wD wB.heap.size 54 (sxC (.slice none 0 0)):=by rw [hwD];exact (rC.below (Below.refl _ _) rC.lt).other (by omega) _
   have bwD:Below w.heap.size w wD:=by rw [hwD];exact ((SB.out _ SC').trans (below_le (Below.refl _ _) (by omega))).setCell (show w.heap.size<=z2.heap.size by omega) _
   have FIN:Hid (∀ (z:World) (B1 B2 B3:Nat) (va vb v8:Value),Below K.C w z->(∀ k,k<wD.heap.size->k≠z2.heap.size->z.heap[k]?=wD.heap[k]?)->wD.heap.size<=z.heap.size->z.ownsRow B3 49 32 v8 (l3+1) (LB.flatten ++ spC 10 0 (str []))->z.ownsRow B1 54 5 va (ls+1) (LS.flatten ++ sxC (.slice none 0 0))->z.ownsRow B2 40 10 vb lf ([.bool pb,.string ⟨#[119,104,105,108,101]⟩,.slice lp l1 lc,.slice pp l2 pc,.int .i64 rk,.string rn1,.slice t2 m2 d2,.slice t3 m3 d3,v8,.int .i64 ps] ++ (LF.drop 1).flatten)->Calls Tryz.prog 9 #[.agg #[va,vb]] z fun ev z'=>ev=.returned (.bool false)/\Below z.heap.size z z'):=by
    intro z B1 B2 B3 va vb v8 hz hk1 hk2 o8 oS oF;obtain ⟨e1,e2,e3,e4,e5,e6,e7,e8,e9,e0⟩:=G.out;subst e1 e2 e3 e4 e5 e6 e7 e8 e9 e0;exact fin_all TT.out hbd (nmS:=[]) (nm:=[119,104,105,108,101]) (fs:=[]) (ps:=x.params) hz (by decide) (show 5<=K.B from TT.out.hB5) nil_ar (par_fin hz TT.out.he.C TT.out.hpa) (.inr (not_name rfl)) o8 oS oF
   clear hwD
   refine reg20 (g5:=z2.heap.size) (g6:=zA.heap.size) (m:=l3) (cb:=LB.flatten) (vb:=.slice bp l3 bc) rfl rfl rfl r5D rfl r6D rfl (spC_one _ _ _) (souB.out wD (below_le bwD hCw)) hlB.out onB.out (by omega) ?_)
  | (
   obtain ⟨wD,hwD⟩:∃ wD,wD=wC.setCell ⟨zA.heap.size,0,none⟩ (.int .i64 12):=⟨_,rfl⟩
   rw [← hwD]
   have hszD:wC.heap.size<=wD.heap.size:=by rw [hwD];simp [World.setCell]
   have r2D:Row wD w.heap.size 25 [.slice p0 ls m0,.slice (some ⟨b,o,none⟩) lf m1]:=by rw [hwD];exact ((SR.out _ SC').below (Below.refl _ _) (by omega)).other (by omega) _
   have r5D:Row wD z2.heap.size 40 [.bool pb,.string nm1,.slice lp l1 lc,.slice pp l2 pc,.int .i64 rk,.string rn1,.slice t2 m2 d2,.slice t3 m3 d3,.slice bp l3 bc,.int .i64 ps]:=by rw [hwD];exact (((rZ.below bB rZ.lt).below bC (Nat.lt_trans rZ.lt rB.lt)).below (Below.refl _ _) (by omega)).other (by omega) _
   have r6D:Row wD zA.heap.size 49 (spC 12 0 (str [])):=by rw [hwD];exact ((rB.below bC rB.lt).below (Below.refl _ _) (by omega)).set 0 _
   have r7D:Row wD wB.heap.size 54 (sxC (.slice none 0 0)):=by rw [hwD];exact (rC.below (Below.refl _ _) rC.lt).other (by omega) _
   have bwD:Below w.heap.size w wD:=by rw [hwD];exact ((SB.out _ SC').trans (below_le (Below.refl _ _) (by omega))).setCell (show w.heap.size<=zA.heap.size by omega) _
   have FIN:Hid (∀ (z:World) (B1 B2 B3:Nat) (va vb v8:Value),Below K.C w z->(∀ k,k<wD.heap.size->k≠z2.heap.size->z.heap[k]?=wD.heap[k]?)->wD.heap.size<=z.heap.size->z.ownsRow B3 49 32 v8 (l3+1) (LB.flatten ++ spC 12 0 (str []))->z.ownsRow B1 54 5 va (ls+1) (LS.flatten ++ sxC (.slice none 0 0))->z.ownsRow B2 40 10 vb lf ([.bool pb,.string nm1,.slice lp l1 lc,.slice pp l2 pc,.int .i64 rk,.string rn1,.slice t2 m2 d2,.slice t3 m3 d3,v8,.int .i64 ps] ++ (LF.drop 1).flatten)->Calls Tryz.prog 9 #[.agg #[va,vb]] z fun ev z'=>ev=.returned (.bool false)/\Below z.heap.size z z'):=by
    intro z B1 B2 B3 va vb v8 hz hk1 hk2 o8 oS oF;obtain ⟨e1,e2,e3,e4,e5,e6,e7,e8,e9,e0⟩:=G.out;subst e1 e2 e3 e4 e5 e6 e7 e8 e9 e0;exact fin_all TT.out hbd (nmS:=[]) (nm:=x.name) (fs:=[]) (ps:=x.params) hz (by decide) TT.out.hnl nil_ar (par_fin hz TT.out.he.C TT.out.hpa) (.inr (not_body (s:=spS 12 0 []) (by simp) (not_kind 0 []))) o8 oS oF
   clear hwD
   refine reg20 (g5:=z2.heap.size) (g6:=zA.heap.size) (m:=l3) (cb:=LB.flatten) (vb:=.slice bp l3 bc) rfl rfl rfl r5D rfl r6D rfl (spC_one _ _ _) (souB.out wD (below_le bwD hCw)) hlB.out onB.out (by omega) ?_)
  | (
   obtain ⟨wD,hwD⟩:∃ wD,wD=wC.setCell ⟨zA.heap.size,13,none⟩ (.int .i64 2147483648):=⟨_,rfl⟩
   rw [← hwD]
   have hszD:wC.heap.size<=wD.heap.size:=by rw [hwD];simp [World.setCell]
   have r2D:Row wD w.heap.size 25 [.slice p0 ls m0,.slice (some ⟨b,o,none⟩) lf m1]:=by rw [hwD];exact ((SR.out _ SC').below (Below.refl _ _) (by omega)).other (by omega) _
   have r5D:Row wD z2.heap.size 40 [.bool pb,.string nm1,.slice lp l1 lc,.slice pp l2 pc,.int .i64 rk,.string rn1,.slice t2 m2 d2,.slice t3 m3 d3,.slice bp l3 bc,.int .i64 ps]:=by rw [hwD];exact (((rZ.below bB rZ.lt).below bC (Nat.lt_trans rZ.lt rB.lt)).below (Below.refl _ _) (by omega)).other (by omega) _
   have r6D:Row wD zA.heap.size 49 (spC 10 2147483648 (str [])):=by rw [hwD];exact ((rB.below bC rB.lt).below (Below.refl _ _) (by omega)).set 13 _
   have r7D:Row wD wB.heap.size 54 (sxC (.slice none 0 0)):=by rw [hwD];exact (rC.below (Below.refl _ _) rC.lt).other (by omega) _
   have bwD:Below w.heap.size w wD:=by rw [hwD];exact ((SB.out _ SC').trans (below_le (Below.refl _ _) (by omega))).setCell (show w.heap.size<=zA.heap.size by omega) _
   have FIN:Hid (∀ (z:World) (B1 B2 B3:Nat) (va vb v8:Value),Below K.C w z->(∀ k,k<wD.heap.size->k≠z2.heap.size->z.heap[k]?=wD.heap[k]?)->wD.heap.size<=z.heap.size->z.ownsRow B3 49 32 v8 (l3+1) (LB.flatten ++ spC 10 2147483648 (str []))->z.ownsRow B1 54 5 va (ls+1) (LS.flatten ++ sxC (.slice none 0 0))->z.ownsRow B2 40 10 vb lf ([.bool pb,.string nm1,.slice lp l1 lc,.slice pp l2 pc,.int .i64 rk,.string rn1,.slice t2 m2 d2,.slice t3 m3 d3,v8,.int .i64 ps] ++ (LF.drop 1).flatten)->Calls Tryz.prog 9 #[.agg #[va,vb]] z fun ev z'=>ev=.returned (.bool false)/\Below z.heap.size z z'):=by
    intro z B1 B2 B3 va vb v8 hz hk1 hk2 o8 oS oF;obtain ⟨e1,e2,e3,e4,e5,e6,e7,e8,e9,e0⟩:=G.out;subst e1 e2 e3 e4 e5 e6 e7 e8 e9 e0;exact fin_all TT.out hbd (nmS:=[]) (nm:=x.name) (fs:=[]) (ps:=x.params) hz (by decide) TT.out.hnl nil_ar (par_fin hz TT.out.he.C TT.out.hpa) (.inr (not_body (s:=spS 10 2147483648 []) (by simp) not_num)) o8 oS oF
   clear hwD
   refine reg20 (g5:=z2.heap.size) (g6:=zA.heap.size) (m:=l3) (cb:=LB.flatten) (vb:=.slice bp l3 bc) rfl rfl rfl r5D rfl r6D rfl (spC_one _ _ _) (souB.out wD (below_le bwD hCw)) hlB.out onB.out (by omega) ?_)
  | (
   obtain ⟨wD,hwD⟩:∃ wD,wD=wC.setCell ⟨zA.heap.size,3,none⟩ (.string ⟨#[97]⟩):=⟨_,rfl⟩
   rw [← hwD]
   have hszD:wC.heap.size<=wD.heap.size:=by rw [hwD];simp [World.setCell]
   have r2D:Row wD w.heap.size 25 [.slice p0 ls m0,.slice (some ⟨b,o,none⟩) lf m1]:=by rw [hwD];exact ((SR.out _ SC').below (Below.refl _ _) (by omega)).other (by omega) _
   have r5D:Row wD z2.heap.size 40 [.bool pb,.string nm1,.slice lp l1 lc,.slice pp l2 pc,.int .i64 rk,.string rn1,.slice t2 m2 d2,.slice t3 m3 d3,.slice bp l3 bc,.int .i64 ps]:=by rw [hwD];exact (((rZ.below bB rZ.lt).below bC (Nat.lt_trans rZ.lt rB.lt)).below (Below.refl _ _) (by omega)).other (by omega) _
   have r6D:Row wD zA.heap.size 49 (spC 10 0 (str [97])):=by rw [hwD];exact ((rB.below bC rB.lt).below (Below.refl _ _) (by omega)).set 3 _
   have r7D:Row wD wB.heap.size 54 (sxC (.slice none 0 0)):=by rw [hwD];exact (rC.below (Below.refl _ _) rC.lt).other (by omega) _
   have bwD:Below w.heap.size w wD:=by rw [hwD];exact ((SB.out _ SC').trans (below_le (Below.refl _ _) (by omega))).setCell (show w.heap.size<=zA.heap.size by omega) _
   have FIN:Hid (∀ (z:World) (B1 B2 B3:Nat) (va vb v8:Value),Below K.C w z->(∀ k,k<wD.heap.size->k≠z2.heap.size->z.heap[k]?=wD.heap[k]?)->wD.heap.size<=z.heap.size->z.ownsRow B3 49 32 v8 (l3+1) (LB.flatten ++ spC 10 0 (str [97]))->z.ownsRow B1 54 5 va (ls+1) (LS.flatten ++ sxC (.slice none 0 0))->z.ownsRow B2 40 10 vb lf ([.bool pb,.string nm1,.slice lp l1 lc,.slice pp l2 pc,.int .i64 rk,.string rn1,.slice t2 m2 d2,.slice t3 m3 d3,v8,.int .i64 ps] ++ (LF.drop 1).flatten)->Calls Tryz.prog 9 #[.agg #[va,vb]] z fun ev z'=>ev=.returned (.bool false)/\Below z.heap.size z z'):=by
    intro z B1 B2 B3 va vb v8 hz hk1 hk2 o8 oS oF;obtain ⟨e1,e2,e3,e4,e5,e6,e7,e8,e9,e0⟩:=G.out;subst e1 e2 e3 e4 e5 e6 e7 e8 e9 e0;exact fin_all TT.out hbd (nmS:=[97]) (nm:=x.name) (fs:=[]) (ps:=x.params) hz (by decide) TT.out.hnl nil_ar (par_fin hz TT.out.he.C TT.out.hpa) (.inr (not_body (s:=spS 10 0 [97]) (by simp) (not_named 0))) o8 oS oF
   clear hwD
   refine reg20 (g5:=z2.heap.size) (g6:=zA.heap.size) (m:=l3) (cb:=LB.flatten) (vb:=.slice bp l3 bc) rfl rfl rfl r5D rfl r6D rfl (spC_one _ _ _) (souB.out wD (below_le bwD hCw)) hlB.out onB.out (by omega) ?_)
 intro f wE hst hr5 hown
 simp only [List.foldl_cons,List.foldl_nil,List.setIfInBounds_toArray,List.set_cons_zero,List.set_cons_succ]
 have r2E:=hst.row r2D (by omega)
 have r7E:=hst.row r7D (by omega)
 simp only [List.set_cons_zero,List.set_cons_succ] at hr5
 have bwE:Below w.heap.size w wE:=bwD.trans (hst.below bwD.size (fun k hk=>by omega))
 have FI2:=hid0 (fun (z:World) (hz:Below wE.heap.size wE z) (B1 B2 B3:Nat) (va vb v8:Value) (hb:Below K.C w z)=>FIN.out z B1 B2 B3 va vb v8 hb (fun k h1 h2=>(hz.block k (Nat.lt_of_lt_of_le h1 hst.size)).trans (hst.block k h1 (by omega))) (Nat.le_trans hst.size hz.size))
 obtain ⟨x1,x2,x3⟩:=own_slice hown
 rw [x3] at hown hr5
 clear hst r2D r5D r6D r7D FIN
 simp only [x3]
 clear x3 hszD
 go_wp2_with fail
 refine reg21 (g2:=w.heap.size) (g5:=z2.heap.size) (g7:=wB.heap.size) (b:=b) (o:=o) (n:=lf) (cap:=m1) (ms:=ls) (cS:=LS.flatten) (cF:=(LF.drop 1).flatten) rfl rfl rfl rfl r2E hr5 rfl r7E rfl (fun u hu=>List.all_eq_true.1 (show (sxC _).all (·.oneCell')=true from rfl) u hu) (souS.out wE (below_le bwE hCw)) hlS.out onS.out (by omega) hf1 (by omega) (souF.out wE (below_le bwE hCw)) hlF.out onF.out ?_
 intro f' wF g8 e8 r8 bF oS oF
 simp only [List.foldl_cons,List.foldl_nil,List.setIfInBounds_toArray,List.set_cons_zero,List.set_cons_succ,e8]
 obtain ⟨y1,y2,y3⟩:=own_slice oS
 rw [show 1+(lf - 1)=lf by omega] at oF
 obtain ⟨y4,y5,y6⟩:=own_slice oF
 rw [y3] at oS r8
 rw [y6] at oF r8
 simp only [y3,y6]
 clear y3 y6 e8
 have bwF:Below w.heap.size w wF:=bwE.trans (below_le bF bwE.size)
 have SF:SP wF:=SM.out wF bwF (r2E.below bF r2E.lt)
 have E8:=hid0 (D8.out wF SF)
 clear r2E hr5 r7E souB souP souS souF HR ho10
 go_wp2_with fail
 refine E8.out.mono ?_
 rintro _ z8 ⟨rfl,S8,k8,k9,b8⟩
 have E9:=hid0 (D9.out z8 S8)
 clear E8
 go_wp2_with fail
 refine E9.out.mono ?_
 rintro _ z9 ⟨rfl,S9,-,-,b9⟩
 have b89:Below wF.heap.size wF z9:=b8.trans (below_le b9 b8.size)
 have bE9:Below wE.heap.size wE z9:=bF.trans (below_le b89 bF.size)
 have r8':=r8.below b89 r8.lt
 have c80:z9.cell? ⟨g8,0,none⟩=some (.slice y1 (ls+1) y2):=r8'.cell 0
 have c81:z9.cell? ⟨g8,1,none⟩=some (.slice y4 lf y5):=r8'.cell 1
 have E10:=hid0 (FI2.out z9 bE9 _ _ _ _ _ _ (below_le (SB.out _ S9) hCw) (own_past' hown bE9) (own_past' oS b89) (own_past' oF b89))
 clear E9 FI2 oS oF hown
 go_wp2_with fail
 refine E10.out.mono ?_
 rintro _ A0 ⟨rfl,b10⟩
 have bz:=(SB.out _ S9).trans (below_le b10 (SB.out _ S9).size)
 go_wp2_with fail
 go_ret
 exact ⟨rfl,bz⟩)
end Go.Proofs.YtjenmmkamhplkaaGreat
