/-
  The texts Bt8, Sg8, joined.
-/
import Derived.Test.YtldbbkheemnnhaaGreatDoorJpGro84
import Derived.Test.YtldbbkheemnnhaaGreatDoorQpSm8
import Derived.Test.YtldbbkheemnnhaaGreatDoorJpRg83
namespace Go.Proofs.YtldbbkheemnnhaaGreatDoor
open Go.RowKit
theorem Row.c4 {w : World} {g t : Nat} {a b c d : Value} (h : Row w g t [a, b, c, d]) : w.cell? ⟨g, 0, none⟩ = some a /\ w.cell? ⟨g, 1, none⟩ = some b /\ w.cell? ⟨g, 2, none⟩ = some c /\ w.cell? ⟨g, 3, none⟩ = some d :=
 ⟨h.cell 0, h.cell 1, h.cell 2, h.cell 3⟩
theorem rg4 {w : World} {g o : Nat} {a b c d : Value} (h : w.rangeAt g o [a, b, c, d]) : w.cell? ⟨g, o, none⟩ = some a /\ w.cell? ⟨g, o + 1, none⟩ = some b /\ w.cell? ⟨g, o + 2, none⟩ = some c /\ w.cell? ⟨g, o + 3, none⟩ = some d :=
 ⟨h 0 _ rfl, h 1 _ rfl, h 2 _ rfl, h 3 _ rfl⟩
theorem wpo_bsU2 {o : Oper} {a : Act} {w : World} {K : Act -> World -> Prop} {Q : Exit -> Act -> World -> Prop} (ty el sz bz : Nat) (Z U V : Value) (x y : Operand) (ho : o.op = .buildSlice ty 2 #[(0, x), (1, y)])
  (hu : Tryz.prog.underlying ty = some (.slice el)) (hz : (Tryz.prog.info? el).map (fun i => (i.zero, i.size, i.bytes)) = some (some Z, sz, bz)) (h1 : 0 < sz) (h2 : sz <= 1000) (hZ : Z.cells.size = sz)
  (cs ds : List Value) (hU : U.cells = cs.toArray) (hV : V.cells = ds.toArray) (hl : cs.length = sz) (hl2 : ds.length = sz) (hx : a.eval x = U) (hy : a.eval y = V)
  (k : ∀ w', Row w' w.heap.size el (cs ++ ds) -> Below w.heap.size w w' -> w.heap.size < w'.heap.size -> K (a.put o.dst (.slice (some ⟨w.heap.size, 0, none⟩) 2 2)) w') : Oper.wp Tryz.prog o a w K Q := by
 obtain ⟨i0, hi, hz0, hz1, hz2⟩ := info_parts hz
 refine wp_buildSlice ty el 2 _ ho (cs ++ ds).toArray i0 Z hu hi hz0 (by rw [hz1]; omega) (by rw [hz1]; omega) ?_ (k _ (Row.new w el (cs ++ ds)) (alloc_one _ _) (by rw [size_alloc]; omega))
 have hw := Go.Great.fill_whole (s := sz) h1 [U, V] ((Array.range (2 * sz)).map (Z.cells[· % Z.cells.size]!)) (by simp [hU, hV, hl, hl2]) (by simp)
 rw [hz1]
 simp only [List.map_toArray, List.map_cons, List.map_nil, hx, hy]
 simp only [List.zipIdx_cons, List.zipIdx_nil, List.map_cons, List.map_nil] at hw
 refine Eq.trans hw ?_
 simp [hU, hV]
end Go.Proofs.YtldbbkheemnnhaaGreatDoor

namespace Go.Proofs.YtldbbkheemnnhaaGreatDoor
open Go.RowKit
set_option maxHeartbeats 32000000 in
set_option maxRecDepth 20000 in
theorem xsameG28 {K:Ctx}:∀ (n:Nat) {m:Nat} {w:World} {cs ds:List Value} {t u:RTy},RtAt n K w cs t->RtAt m K w ds u->K.C<=w.heap.size ->
    Calls Tryz.prog 28 #[.agg cs.toArray,.agg ds.toArray] w fun ev w'=>ev=.returned (.bool (sameN n t u))/\Below w.heap.size w w'
  | 0,_,_,_,_,_,_,h,_,_=>h.elim
  | n+1,m,w,cs,ds,t,u,ht,hu,hC=>by
    have IH:=hidP (fun (y:World) (hy:Below w.heap.size w y) (cs ds:List Value) (t u:RTy) (m:Nat) (ht:RtAt n K y cs t) (hu:RtAt m K y ds u)=>xsameG28 n ht hu (Nat.le_trans hC hy.size))
    obtain ⟨m,rfl⟩:∃ j,m=j+1:=by
      cases m with
      | zero=>exact hu.elim
      | succ j=>exact ⟨j,rfl⟩
    obtain ⟨v2,v3,rfl,_,h2,h3⟩:=ht
    obtain ⟨u2,u3,rfl,_,k2,k3⟩:=hu
    obtain ⟨a2,p2,rfl⟩:=Ar.form h2
    obtain ⟨f2,g2,rfl⟩:=Ar.form k2
    obtain ⟨a3,p3,rfl,q1,z1,A1⟩:=h3.shape
    obtain ⟨f3,g3,rfl,q2,z2,A2⟩:=k3.shape
    have A1:=hidP A1
    have A2:=hidP A2
    have HC:=hidP hC
    have HA:=hidP (alloc_two w (.cells #[.int .i64 t.kind,.string (str t.name),.slice a2 t.regs.length p2,.slice a3 t.elem.length p3] 25) (.cells #[.int .i64 u.kind,.string (str u.name),.slice f2 u.regs.length g2,.slice f3 u.elem.length g3] 25))
    have R0:=hidP ((Row.new w 25 [.int .i64 t.kind,.string (str t.name),.slice a2 t.regs.length p2,.slice a3 t.elem.length p3]).alloc (.cells #[.int .i64 u.kind,.string (str u.name),.slice f2 u.regs.length g2,.slice f3 u.elem.length g3] 25))
    have R1:=hidP (Row.new (w.alloc (.cells #[.int .i64 t.kind,.string (str t.name),.slice a2 t.regs.length p2,.slice a3 t.elem.length p3] 25)) 25 [.int .i64 u.kind,.string (str u.name),.slice f2 u.regs.length g2,.slice f3 u.elem.length g3])
    have HS:=hidP (show sameN (n+1) t u=((t.kind == u.kind) && (decide (t.name=u.name) && ((t.regs.length == u.regs.length) && allS (sameN n) t.elem u.elem))) from rfl)
    have hsb:=str_beq t.name u.name
    clear h2 h3 k2 k3 hC
    have hlen:t.elem.length<=140737488355328:=by omega
    have HLN:=hidP (fun (h:t.elem.length≠u.elem.length)=>allS_len (p:=sameN n) h)
    generalize hnl:t.elem.length=n1 at q1 hlen HA R0 R1 HLN ⊢
    have HN1:=hidP hnl
    clear hnl z1
    generalize hnl:u.elem.length=n2 at q2 HA R0 R1 HLN ⊢
    have HN2:=hidP hnl
    clear hnl z2
    generalize str t.name=S0 at *
    generalize str u.name=S1 at *
    generalize t.kind=k1 at *
    generalize u.kind=k2 at *
    generalize t.regs.length=r1 at *
    generalize u.regs.length=r2 at *
    have y0:=R0.out.cell 0
    have y1:=R0.out.cell 1
    have y2:=R0.out.cell 2
    have y3:=R0.out.cell 3
    have x0:=R1.out.cell 0
    have x1:=R1.out.cell 1
    have x2:=R1.out.cell 2
    have x3:=R1.out.cell 3
    rw [size_alloc] at x0 x1 x2 x3
    simp only [List.getElem?_cons_zero,List.getElem?_cons_succ] at y0 y1 y2 y3 x0 x1 x2 x3
    by_cases h1:k1=k2
    . subst h1
      by_cases h2:t.name=u.name
      . rw [decide_eq_true h2] at hsb
        by_cases h3:r1=r2
        . subst h3
          have HQ0:=hidP (show sameN (n+1) t u=allS (sameN n) t.elem u.elem by rw [HS.out,h2];simp)
          clear HS h2
          by_cases h4:n1=n2
          . subst h4
            clear HLN
            go_enter Tryz.func28,Tryz.ntmps28
            go_wp2_with fail
            clear y0 y1 y2 y3 x0 x1 x2 x3 hsb
            rw [size_alloc] at R1
            go_loopg [5] n1 (fun k v5 wr=>∃ i:Nat,i+k=n1/\v5=.int .i64 (i:Int)/\allS (sameN n) t.elem u.elem=allS (sameN n) (t.elem.drop i) (u.elem.drop i)/\Below w.heap.size w wr/\Row wr w.heap.size 25 [.int .i64 k1,.string S0,.slice a2 r1 p2,.slice a3 n1 p3]/\Row wr (w.heap.size+1) 25 [.int .i64 k1,.string S1,.slice f2 r1 g2,.slice f3 n1 g3])
            case atStart=>exact ⟨0,by omega,rfl,rfl,HA.out,R0.out,R1.out⟩
            case round =>
              obtain ⟨i,hi,rfl,hd,hb,hr0,hr1⟩:=hrel
              have HB:=hidP hb
              have HD0:=hidP hd
              have y3:=hr0.cell 3
              have x3:=hr1.cell 3
              simp only [List.getElem?_cons_zero,List.getElem?_cons_succ] at y3 x3
              clear R0 R1 HA hb hd
              by_cases hlt:i<n1
              . obtain ⟨b1,o1,rfl,hb1,c1,hl1,hc1,hp1⟩:=A1.out i (by have:=HN1.out;omega)
                obtain ⟨b2,o2,rfl,hb2,c2,hl2,hc2,hp2⟩:=A2.out i (by have:=HN2.out;omega)
                have HDN:=hidP (HD0.out.trans (allS_drop (p:=sameN n) (show i<t.elem.length by have:=HN1.out;omega) (show i<u.elem.length by have:=HN2.out;omega)))
                have hti:i<t.elem.length:=by have:=HN1.out;omega
                have hui:i<u.elem.length:=by have:=HN2.out;omega
                generalize t.elem[i]=e at *
                generalize u.elem[i]=f at *
                obtain ⟨bq,hbq⟩:∃ bq,sameN n e f=bq:=⟨_,rfl⟩
                obtain ⟨ca,cb,cc,cd,rfl⟩:=hp1.one
                obtain ⟨da,db,dc,dd,rfl⟩:=hp2.one
                have RG:=hidP (fun (y:World) (hy:Below w.heap.size w y)=>show y.rangeAt b1 (o1+i * 4) [ca,cb,cc,cd]/\y.rangeAt b2 (o2+i * 4) [da,db,dc,dd] from
                  ⟨fun j u hj=>(hy.cell (p:=⟨b1,o1+i * 4+j,none⟩) (by have:=HC.out;show b1<_;omega)).trans ((hc1 j (by rcases Nat.lt_or_ge j 4 with h|h;exact h;rw [List.getElem?_eq_none (by simpa using h)] at hj;cases hj)).trans hj),
                   fun j u hj=>(hy.cell (p:=⟨b2,o2+i * 4+j,none⟩) (by have:=HC.out;show b2<_;omega)).trans ((hc2 j (by rcases Nat.lt_or_ge j 4 with h|h;exact h;rw [List.getElem?_eq_none (by simpa using h)] at hj;cases hj)).trans hj)⟩)
                have HH:=hidP (fun (y:World) (hy:Below w.heap.size w y)=>IH.out y hy _ _ _ _ m (hp1.below (below_le hy HC.out)) (hp2.below (below_le hy HC.out)))
                rw [hbq] at HH HDN
                clear hl1 hl2 hc1 hc2 hp1 hp2 hbq
                have HD:=hidP (HB.out.drew)
                have hS0:Row wr.drew w.heap.size 25 [.int .i64 k1,.string S0,.slice a2 r1 p2,.slice (some ⟨b1,o1,none⟩) n1 p3]/\Row wr.drew (w.heap.size+1) 25 [.int .i64 k1,.string S1,.slice f2 r1 g2,.slice (some ⟨b2,o2,none⟩) n1 g3]/\wr.drew.rangeAt b1 (o1+i * 4) [ca,cb,cc,cd]/\wr.drew.rangeAt b2 (o2+i * 4) [da,db,dc,dd]:=⟨hr0.drew,hr1.drew,RG.out _ HD.out⟩
                have l1:(i:Int)<(n1:Int):=by omega
                clear hr0 hr1
                go_wp2_with fail
                refine beginL (fun y=>Row y w.heap.size 25 [.int .i64 k1,.string S0,.slice a2 r1 p2,.slice (some ⟨b1,o1,none⟩) n1 p3]/\Row y (w.heap.size+1) 25 [.int .i64 k1,.string S1,.slice f2 r1 g2,.slice (some ⟨b2,o2,none⟩) n1 g3]/\y.rangeAt b1 (o1+i * 4) [ca,cb,cc,cd]/\y.rangeAt b2 (o2+i * 4) [da,db,dc,dd]) 12 (by kernel_rfl) hS0 (fun hSS=>?_)
                refine takeL 0 (v:=?_) rfl (some 43) rfl (by decide) (by kernel_rfl) (by kernel_rfl) (by kernel_rfl) (by kernel_rfl) (fun _ _ _ h=>h) (Or.inl ⟨by rfl,?_⟩) hSS ?_
                rotate_left
                . (intro y hy;go_simp;with_reducible rfl)
                try simp only [Act.put,List.setIfInBounds_toArray,List.set_cons_succ,List.set_cons_zero]
                refine takeL 1 (v:=?_) rfl (some 44) rfl (by decide) (by kernel_rfl) (by kernel_rfl) (by kernel_rfl) (by kernel_rfl) (fun _ _ _ h=>h) (Or.inl ⟨by rfl,?_⟩) hSS ?_
                rotate_left
                . (intro y hy;obtain ⟨_,_,_,j3⟩:=hy.1.c4;obtain ⟨_,_,_,k3⟩:=hy.2.1.c4;obtain ⟨r0,r1,r2,r3⟩:=rg4 hy.2.2.1;obtain ⟨s0,s1,s2,s3⟩:=rg4 hy.2.2.2;go_simp;with_reducible rfl)
                try simp only [Act.put,List.setIfInBounds_toArray,List.set_cons_succ,List.set_cons_zero]
                refine takeL 2 (v:=?_) rfl (some 45) rfl (by decide) (by kernel_rfl) (by kernel_rfl) (by kernel_rfl) (by kernel_rfl) (fun _ _ _ h=>h) (Or.inl ⟨by rfl,?_⟩) hSS ?_
                rotate_left
                . (intro y hy;go_simp;with_reducible rfl)
                try simp only [Act.put,List.setIfInBounds_toArray,List.set_cons_succ,List.set_cons_zero]
                refine takeL 3 (v:=?_) rfl (some 46) rfl (by decide) (by kernel_rfl) (by kernel_rfl) (by kernel_rfl) (by kernel_rfl) (fun _ _ _ h=>h) (Or.inl ⟨by rfl,?_⟩) hSS ?_
                rotate_left
                . (intro y hy;go_simp;with_reducible rfl)
                try simp only [Act.put,List.setIfInBounds_toArray,List.set_cons_succ,List.set_cons_zero]
                refine takeL 4 (v:=?_) rfl (some 47) rfl (by decide) (by kernel_rfl) (by kernel_rfl) (by kernel_rfl) (by kernel_rfl) (fun _ _ _ h=>h) (Or.inl ⟨by rfl,?_⟩) hSS ?_
                rotate_left
                . (intro y hy;obtain ⟨_,_,_,j3⟩:=hy.1.c4;obtain ⟨_,_,_,k3⟩:=hy.2.1.c4;obtain ⟨r0,r1,r2,r3⟩:=rg4 hy.2.2.1;obtain ⟨s0,s1,s2,s3⟩:=rg4 hy.2.2.2;go_simp;with_reducible rfl)
                try simp only [Act.put,List.setIfInBounds_toArray,List.set_cons_succ,List.set_cons_zero]
                refine takeL 5 (v:=?_) rfl (some 48) rfl (by decide) (by kernel_rfl) (by kernel_rfl) (by kernel_rfl) (by kernel_rfl) (fun _ _ _ h=>h) (Or.inl ⟨by rfl,?_⟩) hSS ?_
                rotate_left
                . (intro y hy;go_simp;with_reducible rfl)
                try simp only [Act.put,List.setIfInBounds_toArray,List.set_cons_succ,List.set_cons_zero]
                refine takeL 6 (v:=?_) rfl (some 49) rfl (by decide) (by kernel_rfl) (by kernel_rfl) (by kernel_rfl) (by kernel_rfl) (fun _ _ _ h=>h) (Or.inl ⟨by rfl,?_⟩) hSS ?_
                rotate_left
                . (intro y hy;obtain ⟨_,_,_,j3⟩:=hy.1.c4;obtain ⟨_,_,_,k3⟩:=hy.2.1.c4;obtain ⟨r0,r1,r2,r3⟩:=rg4 hy.2.2.1;obtain ⟨s0,s1,s2,s3⟩:=rg4 hy.2.2.2;go_simp;with_reducible rfl)
                try simp only [Act.put,List.setIfInBounds_toArray,List.set_cons_succ,List.set_cons_zero]
                refine takeL 7 (v:=?_) rfl (some 50) rfl (by decide) (by kernel_rfl) (by kernel_rfl) (by kernel_rfl) (by kernel_rfl) (fun _ _ _ h=>h) (Or.inl ⟨by rfl,?_⟩) hSS ?_
                rotate_left
                . (intro y hy;go_simp;with_reducible rfl)
                try simp only [Act.put,List.setIfInBounds_toArray,List.set_cons_succ,List.set_cons_zero]
                refine takeL 8 (v:=?_) rfl (some 51) rfl (by decide) (by kernel_rfl) (by kernel_rfl) (by kernel_rfl) (by kernel_rfl) (fun _ _ _ h=>h) (Or.inl ⟨by rfl,?_⟩) hSS ?_
                rotate_left
                . (intro y hy;go_simp;with_reducible rfl)
                try simp only [Act.put,List.setIfInBounds_toArray,List.set_cons_succ,List.set_cons_zero]
                refine takeL 9 (v:=?_) rfl (some 52) rfl (by decide) (by kernel_rfl) (by kernel_rfl) (by kernel_rfl) (by kernel_rfl) (fun _ _ _ h=>h) (Or.inl ⟨by rfl,?_⟩) hSS ?_
                rotate_left
                . (intro y hy;obtain ⟨_,_,_,j3⟩:=hy.1.c4;obtain ⟨_,_,_,k3⟩:=hy.2.1.c4;obtain ⟨r0,r1,r2,r3⟩:=rg4 hy.2.2.1;obtain ⟨s0,s1,s2,s3⟩:=rg4 hy.2.2.2;go_simp;with_reducible rfl)
                try simp only [Act.put,List.setIfInBounds_toArray,List.set_cons_succ,List.set_cons_zero]
                refine readyL (rs:=[10]) (by kernel_rfl) (by simp) ?_
                refine ReadyL.cons rfl (fun KK hK=>?_) ReadyL.nil
                refine wantR (by rfl) ?_
                go_simp
                refine (HH.out _ HD.out).mono ?_
                rintro _ w6 ⟨rfl,hb6⟩
                have HB6:=hidP (HD.out.trans (below_le hb6 HD.out.size))
                have hSS2:Row w6 w.heap.size 25 [.int .i64 k1,.string S0,.slice a2 r1 p2,.slice (some ⟨b1,o1,none⟩) n1 p3]/\Row w6 (w.heap.size+1) 25 [.int .i64 k1,.string S1,.slice f2 r1 g2,.slice (some ⟨b2,o2,none⟩) n1 g3]/\w6.rangeAt b1 (o1+i * 4) [ca,cb,cc,cd]/\w6.rangeAt b2 (o2+i * 4) [da,db,dc,dd]:=⟨hSS.1.below hb6 hSS.1.lt,hSS.2.1.below hb6 hSS.2.1.lt,RG.out _ HB6.out⟩
                refine hK.out _ _ (fun _=>hSS2) (fun _=>?_)
                clear hK KK hSS
                have hSS:=hSS2
                clear hSS2
                try simp only [Act.put,List.setIfInBounds_toArray,List.set_cons_succ,List.set_cons_zero]
                refine takeL 11 (v:=?_) rfl (some 54) rfl (by decide) (by kernel_rfl) (by kernel_rfl) (by kernel_rfl) (by kernel_rfl) (fun _ _ _ h=>h) (Or.inl ⟨by rfl,?_⟩) hSS ?_
                rotate_left
                . (intro y hy;go_simp;with_reducible rfl)
                try simp only [Act.put,List.setIfInBounds_toArray,List.set_cons_succ,List.set_cons_zero]
                refine doneL (by kernel_rfl) ?_ _
                cases bq
                . have HQ:=hidP (show sameN (n+1) t u=false from HQ0.out.trans (HDN.out.trans (Bool.false_and _)))
                  go_wp2_with fail
                  go_ret
                  exact ⟨retB HQ.out,HB6.out⟩
                . have HDT:=hidP (HDN.out.trans (Bool.true_and _))
                  go_wp2_with fail
                  go_roundg (gk - 1)
                  case measure=>omega
                  case rel=>exact ⟨i+1,by omega,by go_num,HDT.out,HB6.out,hSS.1,hSS.2.1⟩
              . have e:i=n1:=by omega
                have HQ:=hidP (show sameN (n+1) t u=true from HQ0.out.trans (HD0.out.trans (by
                  rw [List.drop_of_length_le (show t.elem.length<=i by have:=HN1.out;omega),List.drop_of_length_le (show u.elem.length<=i by have:=HN2.out;omega)]
                  rfl)))
                subst e
                clear hlt hr0 hr1
                go_wp2_with fail
                go_ret
                exact ⟨retB HQ.out,HB.out⟩
          . have HQ:=hidP (show sameN (n+1) t u=false from HQ0.out.trans (HLN.out h4))
            have l1:((n1:Int) == (n2:Int))=false:=by simp;omega
            have l2:¬ (n1:Int)=(n2:Int):=by omega
            clear R0 R1 IH
            go_enter Tryz.func28,Tryz.ntmps28
            go_wp2_with fail
            go_ret
            exact ⟨retB HQ.out,HA.out⟩
        . have HQ:=hidP (show sameN (n+1) t u=false by rw [HS.out,show (r1 == r2)=false by simpa using h3];simp)
          have l1:((r1:Int) == (r2:Int))=false:=by simp;omega
          have l2:¬ (r1:Int)=(r2:Int):=by omega
          clear HS h2 R0 R1 IH
          go_enter Tryz.func28,Tryz.ntmps28
          go_wp2_with fail
          go_ret
          exact ⟨retB HQ.out,HA.out⟩
      . have HQ:=hidP (show sameN (n+1) t u=false by rw [HS.out,decide_eq_false h2];simp)
        rw [decide_eq_false h2] at hsb
        clear HS h2 R0 R1 IH
        go_enter Tryz.func28,Tryz.ntmps28
        go_wp2_with fail
        go_ret
        exact ⟨retB HQ.out,HA.out⟩
    . have HQ:=hidP (show sameN (n+1) t u=false by rw [HS.out,show (k1 == k2)=false by simpa using h1];simp)
      have l1:(k1 == k2)=false:=by simpa using h1
      clear HS hsb R0 R1 IH
      go_enter Tryz.func28,Tryz.ntmps28
      go_wp2_with fail
      go_ret
      exact ⟨retB HQ.out,HA.out⟩
end Go.Proofs.YtldbbkheemnnhaaGreatDoor
