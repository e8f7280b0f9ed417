/- Part of the proof. -/
import Derived.Test.YtjenmmkamhplkaaGreatJqspGds3
import Derived.Test.YtjenmmkamhplkaaGreatJqspBlk2
namespace Go.Proofs.YtjenmmkamhplkaaGreat
open Go.RowKit
set_option maxHeartbeats 8000000 in
set_option maxRecDepth 20000 in
theorem sameStmt_of {n:Nat} (ih:∀ {K:Ctx} (w:World) {va vb:Value} {la lb:List St},Ar 32 496 (StAt n K w) K w va la->Ar 32 496 (StAt n K w) K w vb lb->∀ (B:Bool),(B=true↔la=lb)->Calls Tryz.prog 74 #[va,vb,.func (.func 75) #[] #[]] w fun ev w'=>ev=.returned (.bool B)/\∃ m,w'=w.drewN m)
  {K:Ctx} {w:World} {x y:St} {b o b' o':Nat} {cs cs':List Value} (hc:∀ j,j<32->w.cell? ⟨b,o+j,none⟩=cs[j]?) (hc':∀ j,j<32->w.cell? ⟨b',o'+j,none⟩=cs'[j]?)
  (hx:StAt (n+1) K w cs x) (hy:StAt (n+1) K w cs' y) (B:Bool) (hB:B=true↔x=y) :
  Calls Tryz.prog 75 #[.pointer (some ⟨b,o,none⟩),.pointer (some ⟨b',o',none⟩)] w fun ev w'=>ev=.returned (.bool B)/\∃ m,w'=w.drewN m:=by
 obtain ⟨ts,ps,vs,os,vt,ve,rfl,hl1,h1,h2,h3,h4,h5,h6⟩:=id hx
 obtain ⟨ts',qs,vs',os',ut,ue,rfl,hl2,g1,g2,g3,g4,g5,g6⟩:=id hy
 have l1:=h1.len
 have l2:=h2.len
 have l3:=h3.len
 have l4:=h4.len
 have m1:=g1.len
 have m2:=g2.len
 have m3:=g3.len
 have m4:=g4.len
 have p1:=part_at hc [.int .i64 x.kind,.int .i64 x.pos,.bool x.mu,.string (str x.name)] ts (.bool x.has :: (ps ++ (vs ++ (os ++ [vt,ve])))) (k:=4) (n:=4) rfl l1 (by decide) rfl
 have p2:=part_at hc' [.int .i64 y.kind,.int .i64 y.pos,.bool y.mu,.string (str y.name)] ts' (.bool y.has :: (qs ++ (vs' ++ (os' ++ [ut,ue])))) (k:=4) (n:=4) rfl m1 (by decide) rfl
 have p3:=part_at hc (.int .i64 x.kind :: .int .i64 x.pos :: .bool x.mu :: .string (str x.name) :: ts) [.bool x.has] (ps ++ (vs ++ (os ++ [vt,ve]))) (k:=8) (n:=1) (by simp [l1]) rfl (by decide) (by simp) 0 (by decide)
 have p4:=part_at hc' (.int .i64 y.kind :: .int .i64 y.pos :: .bool y.mu :: .string (str y.name) :: ts') [.bool y.has] (qs ++ (vs' ++ (os' ++ [ut,ue]))) (k:=8) (n:=1) (by simp [m1]) rfl (by decide) (by simp) 0 (by decide)
 have p5:=part_at hc (.int .i64 x.kind :: .int .i64 x.pos :: .bool x.mu :: .string (str x.name) :: (ts ++ [.bool x.has])) ps (vs ++ (os ++ [vt,ve])) (k:=9) (n:=2) (by simp [l1]) l2 (by decide) (by simp)
 have p6:=part_at hc' (.int .i64 y.kind :: .int .i64 y.pos :: .bool y.mu :: .string (str y.name) :: (ts' ++ [.bool y.has])) qs (vs' ++ (os' ++ [ut,ue])) (k:=9) (n:=2) (by simp [m1]) m2 (by decide) (by simp)
 have p7:=part_at hc (.int .i64 x.kind :: .int .i64 x.pos :: .bool x.mu :: .string (str x.name) :: (ts ++ (.bool x.has :: ps))) vs (os ++ [vt,ve]) (k:=11) (n:=15) (by simp [l1,l2]) l3 (by decide) (by simp)
 have p8:=part_at hc' (.int .i64 y.kind :: .int .i64 y.pos :: .bool y.mu :: .string (str y.name) :: (ts' ++ (.bool y.has :: qs))) vs' (os' ++ [ut,ue]) (k:=11) (n:=15) (by simp [m1,m2]) m3 (by decide) (by simp)
 have p9:=part_at hc (.int .i64 x.kind :: .int .i64 x.pos :: .bool x.mu :: .string (str x.name) :: (ts ++ (.bool x.has :: (ps ++ vs)))) os [vt,ve] (k:=26) (n:=4) (by simp [l1,l2,l3]) l4 (by decide) (by simp)
 have pa:=part_at hc' (.int .i64 y.kind :: .int .i64 y.pos :: .bool y.mu :: .string (str y.name) :: (ts' ++ (.bool y.has :: (qs ++ vs')))) os' [ut,ue] (k:=26) (n:=4) (by simp [m1,m2,m3]) m4 (by decide) (by simp)
 have pb:=part_at hc (.int .i64 x.kind :: .int .i64 x.pos :: .bool x.mu :: .string (str x.name) :: (ts ++ (.bool x.has :: (ps ++ (vs ++ os))))) [vt,ve] [] (k:=30) (n:=2) (by simp [l1,l2,l3,l4]) rfl (by decide) (by simp)
 have pc:=part_at hc' (.int .i64 y.kind :: .int .i64 y.pos :: .bool y.mu :: .string (str y.name) :: (ts' ++ (.bool y.has :: (qs ++ (vs' ++ os'))))) [ut,ue] [] (k:=30) (n:=2) (by simp [m1,m2,m3,m4]) rfl (by decide) (by simp)
 have c0:w.cell? ⟨b,o,none⟩=some (.int .i64 x.kind):=hc 0 (by decide)
 have d0:w.cell? ⟨b',o',none⟩=some (.int .i64 y.kind):=hc' 0 (by decide)
 have c1:w.cell? ⟨b,o+1,none⟩=some (.int .i64 x.pos):=hc 1 (by decide)
 have d1:w.cell? ⟨b',o'+1,none⟩=some (.int .i64 y.pos):=hc' 1 (by decide)
 have c2:w.cell? ⟨b,o+2,none⟩=some (.bool x.mu):=hc 2 (by decide)
 have d2:w.cell? ⟨b',o'+2,none⟩=some (.bool y.mu):=hc' 2 (by decide)
 have c3:w.cell? ⟨b,o+3,none⟩=some (.string (str x.name)):=hc 3 (by decide)
 have d3:w.cell? ⟨b',o'+3,none⟩=some (.string (str y.name)):=hc' 3 (by decide)
 have c4:w.cell? ⟨b,o+8,none⟩=some (.bool x.has):=p3
 have d4:w.cell? ⟨b',o'+8,none⟩=some (.bool y.has):=p4
 have c9:w.cell? ⟨b,o+30,none⟩=some vt:=pb 0 (by decide)
 have d9:w.cell? ⟨b',o'+30,none⟩=some ut:=pc 0 (by decide)
 have c10:w.cell? ⟨b,o+31,none⟩=some ve:=pb 1 (by decide)
 have d10:w.cell? ⟨b',o'+31,none⟩=some ue:=pc 1 (by decide)
 have HB:Hid (B=true↔x=y):=hB
 clear hB
 have q0:(x.kind == y.kind)=true↔x.kind=y.kind:=beq_iff_eq
 have q1:(x.pos == y.pos)=true↔x.pos=y.pos:=beq_iff_eq
 have q2:(x.mu == y.mu)=true↔x.mu=y.mu:=beq_iff_eq
 have q3:((str x.name).toList == (str y.name).toList)=true↔x.name=y.name:=by rw [str_beq];exact decide_eq_true_iff
 have q4:(x.has == y.has)=true↔x.has=y.has:=beq_iff_eq
 have q5:Hid (∀ (B:Bool),(B=true↔x.ty=y.ty)->∀ n,Calls Tryz.prog 41 #[.pointer (some ⟨b,o+4,none⟩),.pointer (some ⟨b',o'+4,none⟩)] (w.drewN n) fun ev w'=>ev=.returned (.bool B)/\∃ m,w'=(w.drewN n).drewN m):=by
  intro B hB n
  exact sameType_any (w:=w.drewN n) p1 p2 (h1.below (Below.drewN _ _ _)) (g1.below (Below.drewN _ _ _)) B hB
 have q6:Hid (∀ (B:Bool),(B=true↔x.place=y.place)->∀ n,Calls Tryz.prog 99 #[.pointer (some ⟨b,o+9,none⟩),.pointer (some ⟨b',o'+9,none⟩)] (w.drewN n) fun ev w'=>ev=.returned (.bool B)/\∃ m,w'=(w.drewN n).drewN m):=by
  intro B hB n
  exact samePlace_any (w:=w.drewN n) p5 p6 (h2.below (Below.drewN _ _ _)) (g2.below (Below.drewN _ _ _)) B hB
 have q7:Hid (∀ (B:Bool),(B=true↔x.val=y.val)->∀ n,Calls Tryz.prog 100 #[.pointer (some ⟨b,o+11,none⟩),.pointer (some ⟨b',o'+11,none⟩)] (w.drewN n) fun ev w'=>ev=.returned (.bool B)/\∃ m,w'=(w.drewN n).drewN m):=by
  intro B hB n
  exact sameValue_any (w:=w.drewN n) p7 p8 (h3.below (Below.drewN _ _ _)) (g3.below (Below.drewN _ _ _)) B hB
 have q8:Hid (∀ (B:Bool),(B=true↔x.cond=y.cond)->∀ n,Calls Tryz.prog 101 #[.pointer (some ⟨b,o+26,none⟩),.pointer (some ⟨b',o'+26,none⟩)] (w.drewN n) fun ev w'=>ev=.returned (.bool B)/\∃ m,w'=(w.drewN n).drewN m):=by
  intro B hB n
  exact sameOper_any (w:=w.drewN n) p9 pa (h4.below (Below.drewN _ _ _)) (g4.below (Below.drewN _ _ _)) B hB
 have q9:Hid (∀ (B:Bool),(B=true↔x.thn=y.thn)->∀ n,Calls Tryz.prog 74 #[vt,ut,.func (.func 75) #[] #[]] (w.drewN n) fun ev w'=>ev=.returned (.bool B)/\∃ m,w'=(w.drewN n).drewN m):=by
  intro B hB n
  exact ih (w.drewN n) (h5.mono (Below.drewN _ _ _) fun _ _ _ h=>h.below (Below.drewN _ _ _)) (g5.mono (Below.drewN _ _ _) fun _ _ _ h=>h.below (Below.drewN _ _ _)) B hB
 have q10:Hid (∀ (B:Bool),(B=true↔x.els=y.els)->∀ n,Calls Tryz.prog 74 #[ve,ue,.func (.func 75) #[] #[]] (w.drewN n) fun ev w'=>ev=.returned (.bool B)/\∃ m,w'=(w.drewN n).drewN m):=by
  intro B hB n
  exact ih (w.drewN n) (h6.mono (Below.drewN _ _ _) fun _ _ _ h=>h.below (Below.drewN _ _ _)) (g6.mono (Below.drewN _ _ _) fun _ _ _ h=>h.below (Below.drewN _ _ _)) B hB
 clear hc hc'
 by_cases e0:x.kind=y.kind
 rotate_left
 ·have HF:Hid (B=false):=by
   show B=false
   cases hB:B
   ·rfl
   ·exact absurd (congrArg St.kind (HB.out.1 hB)) e0
  replace q0:=Bool.eq_false_iff.2 (fun h=>e0 (q0.1 h))
  clear HB q1 q2 q3 q4 q5 q6 q7 q8 q9 q10 e0 hx hy c1 d1 c2 d2 c3 d3 c4 d4 c9 d9 c10 d10 hl1 hl2 h1 h2 h3 h4 h5 h6 g1 g2 g3 g4 g5 g6 l1 l2 l3 l4 m1 m2 m3 m4 p1 p2 p3 p4 p5 p6 p7 p8 p9 pa pb pc ih
  generalize x.kind=s0,y.kind=t0 at *
  go_enter Tryz.func75,Tryz.ntmps75
  go_wp2_with fail
  refine wp_region_quiet_lit (by kernel_rfl) lex75 ?_
  simp only [List.append_eq,List.cons_append,List.nil_append]
  repeat (go_big_quiet_step (fail))
  refine wpQuiet_nil ?_
  intro _ hw'
  obtain ⟨nq,hw''⟩:=hw'
  subst hw''
  go_wp2_with fail
  go_ret
  exact ⟨by rw [HF.out];rfl,_,rfl⟩
 by_cases e1:x.pos=y.pos
 rotate_left
 ·have HF:Hid (B=false):=by
   show B=false
   cases hB:B
   ·rfl
   ·exact absurd (congrArg St.pos (HB.out.1 hB)) e1
  replace q0:=q0.2 e0
  replace q1:=Bool.eq_false_iff.2 (fun h=>e1 (q1.1 h))
  clear HB q2 q3 q4 q5 q6 q7 q8 q9 q10 e0 e1 hx hy c2 d2 c3 d3 c4 d4 c9 d9 c10 d10 hl1 hl2 h1 h2 h3 h4 h5 h6 g1 g2 g3 g4 g5 g6 l1 l2 l3 l4 m1 m2 m3 m4 p1 p2 p3 p4 p5 p6 p7 p8 p9 pa pb pc ih
  generalize x.kind=s0,y.kind=t0,x.pos=s1,y.pos=t1 at *
  go_enter Tryz.func75,Tryz.ntmps75
  go_wp2_with fail
  refine wp_region_quiet_lit (by kernel_rfl) lex75 ?_
  simp only [List.append_eq,List.cons_append,List.nil_append]
  repeat (go_big_quiet_step (fail))
  refine wpQuiet_nil ?_
  intro _ hw'
  obtain ⟨nq,hw''⟩:=hw'
  subst hw''
  go_wp2_with fail
  go_ret
  exact ⟨by rw [HF.out];rfl,_,rfl⟩
 by_cases e2:x.mu=y.mu
 rotate_left
 ·have HF:Hid (B=false):=by
   show B=false
   cases hB:B
   ·rfl
   ·exact absurd (congrArg St.mu (HB.out.1 hB)) e2
  replace q0:=q0.2 e0
  replace q1:=q1.2 e1
  replace q2:=Bool.eq_false_iff.2 (fun h=>e2 (q2.1 h))
  clear HB q3 q4 q5 q6 q7 q8 q9 q10 e0 e1 e2 hx hy c3 d3 c4 d4 c9 d9 c10 d10 hl1 hl2 h1 h2 h3 h4 h5 h6 g1 g2 g3 g4 g5 g6 l1 l2 l3 l4 m1 m2 m3 m4 p1 p2 p3 p4 p5 p6 p7 p8 p9 pa pb pc ih
  generalize x.kind=s0,y.kind=t0,x.pos=s1,y.pos=t1,x.mu=s2,y.mu=t2 at *
  go_enter Tryz.func75,Tryz.ntmps75
  go_wp2_with fail
  refine wp_region_quiet_lit (by kernel_rfl) lex75 ?_
  simp only [List.append_eq,List.cons_append,List.nil_append]
  repeat (go_big_quiet_step (fail))
  refine wpQuiet_nil ?_
  intro _ hw'
  obtain ⟨nq,hw''⟩:=hw'
  subst hw''
  go_wp2_with fail
  go_ret
  exact ⟨by rw [HF.out];rfl,_,rfl⟩
 by_cases e3:x.name=y.name
 rotate_left
 ·have HF:Hid (B=false):=by
   show B=false
   cases hB:B
   ·rfl
   ·exact absurd (congrArg St.name (HB.out.1 hB)) e3
  replace q0:=q0.2 e0
  replace q1:=q1.2 e1
  replace q2:=q2.2 e2
  replace q3:=Bool.eq_false_iff.2 (fun h=>e3 (q3.1 h))
  clear HB q4 q5 q6 q7 q8 q9 q10 e0 e1 e2 e3 hx hy c4 d4 c9 d9 c10 d10 hl1 hl2 h1 h2 h3 h4 h5 h6 g1 g2 g3 g4 g5 g6 l1 l2 l3 l4 m1 m2 m3 m4 p1 p2 p3 p4 p5 p6 p7 p8 p9 pa pb pc ih
  generalize x.kind=s0,y.kind=t0,x.pos=s1,y.pos=t1,x.mu=s2,y.mu=t2,str x.name=s3,str y.name=t3 at *
  go_enter Tryz.func75,Tryz.ntmps75
  go_wp2_with fail
  refine wp_region_quiet_lit (by kernel_rfl) lex75 ?_
  simp only [List.append_eq,List.cons_append,List.nil_append]
  repeat (go_big_quiet_step (fail))
  refine wpQuiet_nil ?_
  intro _ hw'
  obtain ⟨nq,hw''⟩:=hw'
  subst hw''
  go_wp2_with fail
  go_ret
  exact ⟨by rw [HF.out];rfl,_,rfl⟩
 by_cases e4:x.has=y.has
 rotate_left
 ·have HF:Hid (B=false):=by
   show B=false
   cases hB:B
   ·rfl
   ·exact absurd (congrArg St.has (HB.out.1 hB)) e4
  replace q0:=q0.2 e0
  replace q1:=q1.2 e1
  replace q2:=q2.2 e2
  replace q3:=q3.2 e3
  replace q4:=Bool.eq_false_iff.2 (fun h=>e4 (q4.1 h))
  clear HB q5 q6 q7 q8 q9 q10 e0 e1 e2 e3 e4 hx hy c9 d9 c10 d10 hl1 hl2 h1 h2 h3 h4 h5 h6 g1 g2 g3 g4 g5 g6 l1 l2 l3 l4 m1 m2 m3 m4 p1 p2 p3 p4 p5 p6 p7 p8 p9 pa pb pc ih
  generalize x.kind=s0,y.kind=t0,x.pos=s1,y.pos=t1,x.mu=s2,y.mu=t2,str x.name=s3,str y.name=t3,x.has=s4,y.has=t4 at *
  go_enter Tryz.func75,Tryz.ntmps75
  go_wp2_with fail
  refine wp_region_quiet_lit (by kernel_rfl) lex75 ?_
  simp only [List.append_eq,List.cons_append,List.nil_append]
  repeat (go_big_quiet_step (fail))
  refine wpQuiet_nil ?_
  intro _ hw'
  obtain ⟨nq,hw''⟩:=hw'
  subst hw''
  go_wp2_with fail
  go_ret
  exact ⟨by rw [HF.out];rfl,_,rfl⟩
 by_cases e5:x.ty=y.ty
 rotate_left
 ·have HF:Hid (B=false):=by
   show B=false
   cases hB:B
   ·rfl
   ·exact absurd (congrArg St.ty (HB.out.1 hB)) e5
  replace q0:=q0.2 e0
  replace q1:=q1.2 e1
  replace q2:=q2.2 e2
  replace q3:=q3.2 e3
  replace q4:=q4.2 e4
  have r5:=hid0 (q5.out false ⟨fun h=>(by cases h),fun h=>absurd h e5⟩)
  clear HB q5 q6 q7 q8 q9 q10 e0 e1 e2 e3 e4 e5 hx hy c9 d9 c10 d10 hl1 hl2 h1 h2 h3 h4 h5 h6 g1 g2 g3 g4 g5 g6 l1 l2 l3 l4 m1 m2 m3 m4 p1 p2 p3 p4 p5 p6 p7 p8 p9 pa pb pc ih
  generalize x.kind=s0,y.kind=t0,x.pos=s1,y.pos=t1,x.mu=s2,y.mu=t2,str x.name=s3,str y.name=t3,x.has=s4,y.has=t4 at *
  go_enter Tryz.func75,Tryz.ntmps75
  go_wp2_with fail
  refine wp_region_quiet_lit (by kernel_rfl) lex75 ?_
  simp only [List.append_eq,List.cons_append,List.nil_append]
  iterate 60 (go_big_quiet_step (fail))
  go_big_quiet_step (exact Calls.quiet_of (r5.out _))
  repeat (go_big_quiet_step (fail))
  refine wpQuiet_nil ?_
  intro _ hw'
  obtain ⟨nq,hw''⟩:=hw'
  subst hw''
  go_wp2_with fail
  go_ret
  exact ⟨by rw [HF.out];rfl,_,rfl⟩
 by_cases e6:x.place=y.place
 rotate_left
 ·have HF:Hid (B=false):=by
   show B=false
   cases hB:B
   ·rfl
   ·exact absurd (congrArg St.place (HB.out.1 hB)) e6
  replace q0:=q0.2 e0
  replace q1:=q1.2 e1
  replace q2:=q2.2 e2
  replace q3:=q3.2 e3
  replace q4:=q4.2 e4
  have r5:=hid0 (q5.out true ⟨fun _=>e5,fun _=>rfl⟩)
  have r6:=hid0 (q6.out false ⟨fun h=>(by cases h),fun h=>absurd h e6⟩)
  clear HB q5 q6 q7 q8 q9 q10 e0 e1 e2 e3 e4 e5 e6 hx hy c9 d9 c10 d10 hl1 hl2 h1 h2 h3 h4 h5 h6 g1 g2 g3 g4 g5 g6 l1 l2 l3 l4 m1 m2 m3 m4 p1 p2 p3 p4 p5 p6 p7 p8 p9 pa pb pc ih
  generalize x.kind=s0,y.kind=t0,x.pos=s1,y.pos=t1,x.mu=s2,y.mu=t2,str x.name=s3,str y.name=t3,x.has=s4,y.has=t4 at *
  go_enter Tryz.func75,Tryz.ntmps75
  go_wp2_with fail
  refine wp_region_quiet_lit (by kernel_rfl) lex75 ?_
  simp only [List.append_eq,List.cons_append,List.nil_append]
  iterate 60 (go_big_quiet_step (fail))
  go_big_quiet_step (exact Calls.quiet_of (r5.out _))
  iterate 8 (go_big_quiet_step (fail))
  go_big_quiet_step (exact Calls.quiet_of (r6.out _))
  repeat (go_big_quiet_step (fail))
  refine wpQuiet_nil ?_
  intro _ hw'
  obtain ⟨nq,hw''⟩:=hw'
  subst hw''
  go_wp2_with fail
  go_ret
  exact ⟨by rw [HF.out];rfl,_,rfl⟩
 by_cases e7:x.val=y.val
 rotate_left
 ·have HF:Hid (B=false):=by
   show B=false
   cases hB:B
   ·rfl
   ·exact absurd (congrArg St.val (HB.out.1 hB)) e7
  replace q0:=q0.2 e0
  replace q1:=q1.2 e1
  replace q2:=q2.2 e2
  replace q3:=q3.2 e3
  replace q4:=q4.2 e4
  have r5:=hid0 (q5.out true ⟨fun _=>e5,fun _=>rfl⟩)
  have r6:=hid0 (q6.out true ⟨fun _=>e6,fun _=>rfl⟩)
  have r7:=hid0 (q7.out false ⟨fun h=>(by cases h),fun h=>absurd h e7⟩)
  clear HB q5 q6 q7 q8 q9 q10 e0 e1 e2 e3 e4 e5 e6 e7 hx hy c9 d9 c10 d10 hl1 hl2 h1 h2 h3 h4 h5 h6 g1 g2 g3 g4 g5 g6 l1 l2 l3 l4 m1 m2 m3 m4 p1 p2 p3 p4 p5 p6 p7 p8 p9 pa pb pc ih
  generalize x.kind=s0,y.kind=t0,x.pos=s1,y.pos=t1,x.mu=s2,y.mu=t2,str x.name=s3,str y.name=t3,x.has=s4,y.has=t4 at *
  go_enter Tryz.func75,Tryz.ntmps75
  go_wp2_with fail
  refine wp_region_quiet_lit (by kernel_rfl) lex75 ?_
  simp only [List.append_eq,List.cons_append,List.nil_append]
  iterate 60 (go_big_quiet_step (fail))
  go_big_quiet_step (exact Calls.quiet_of (r5.out _))
  iterate 8 (go_big_quiet_step (fail))
  go_big_quiet_step (exact Calls.quiet_of (r6.out _))
  iterate 8 (go_big_quiet_step (fail))
  go_big_quiet_step (exact Calls.quiet_of (r7.out _))
  repeat (go_big_quiet_step (fail))
  refine wpQuiet_nil ?_
  intro _ hw'
  obtain ⟨nq,hw''⟩:=hw'
  subst hw''
  go_wp2_with fail
  go_ret
  exact ⟨by rw [HF.out];rfl,_,rfl⟩
 by_cases e8:x.cond=y.cond
 rotate_left
 ·have HF:Hid (B=false):=by
   show B=false
   cases hB:B
   ·rfl
   ·exact absurd (congrArg St.cond (HB.out.1 hB)) e8
  replace q0:=q0.2 e0
  replace q1:=q1.2 e1
  replace q2:=q2.2 e2
  replace q3:=q3.2 e3
  replace q4:=q4.2 e4
  have r5:=hid0 (q5.out true ⟨fun _=>e5,fun _=>rfl⟩)
  have r6:=hid0 (q6.out true ⟨fun _=>e6,fun _=>rfl⟩)
  have r7:=hid0 (q7.out true ⟨fun _=>e7,fun _=>rfl⟩)
  have r8:=hid0 (q8.out false ⟨fun h=>(by cases h),fun h=>absurd h e8⟩)
  clear HB q5 q6 q7 q8 q9 q10 e0 e1 e2 e3 e4 e5 e6 e7 e8 hx hy c9 d9 c10 d10 hl1 hl2 h1 h2 h3 h4 h5 h6 g1 g2 g3 g4 g5 g6 l1 l2 l3 l4 m1 m2 m3 m4 p1 p2 p3 p4 p5 p6 p7 p8 p9 pa pb pc ih
  generalize x.kind=s0,y.kind=t0,x.pos=s1,y.pos=t1,x.mu=s2,y.mu=t2,str x.name=s3,str y.name=t3,x.has=s4,y.has=t4 at *
  go_enter Tryz.func75,Tryz.ntmps75
  go_wp2_with fail
  refine wp_region_quiet_lit (by kernel_rfl) lex75 ?_
  simp only [List.append_eq,List.cons_append,List.nil_append]
  iterate 60 (go_big_quiet_step (fail))
  go_big_quiet_step (exact Calls.quiet_of (r5.out _))
  iterate 8 (go_big_quiet_step (fail))
  go_big_quiet_step (exact Calls.quiet_of (r6.out _))
  iterate 8 (go_big_quiet_step (fail))
  go_big_quiet_step (exact Calls.quiet_of (r7.out _))
  iterate 8 (go_big_quiet_step (fail))
  go_big_quiet_step (exact Calls.quiet_of (r8.out _))
  repeat (go_big_quiet_step (fail))
  refine wpQuiet_nil ?_
  intro _ hw'
  obtain ⟨nq,hw''⟩:=hw'
  subst hw''
  go_wp2_with fail
  go_ret
  exact ⟨by rw [HF.out];rfl,_,rfl⟩
 by_cases e9:x.thn=y.thn
 rotate_left
 ·have HF:Hid (B=false):=by
   show B=false
   cases hB:B
   ·rfl
   ·exact absurd (congrArg St.thn (HB.out.1 hB)) e9
  replace q0:=q0.2 e0
  replace q1:=q1.2 e1
  replace q2:=q2.2 e2
  replace q3:=q3.2 e3
  replace q4:=q4.2 e4
  have r5:=hid0 (q5.out true ⟨fun _=>e5,fun _=>rfl⟩)
  have r6:=hid0 (q6.out true ⟨fun _=>e6,fun _=>rfl⟩)
  have r7:=hid0 (q7.out true ⟨fun _=>e7,fun _=>rfl⟩)
  have r8:=hid0 (q8.out true ⟨fun _=>e8,fun _=>rfl⟩)
  have r9:=hid0 (q9.out false ⟨fun h=>(by cases h),fun h=>absurd h e9⟩)
  clear HB q5 q6 q7 q8 q9 q10 e0 e1 e2 e3 e4 e5 e6 e7 e8 e9 hx hy c10 d10 hl1 hl2 h1 h2 h3 h4 h5 h6 g1 g2 g3 g4 g5 g6 l1 l2 l3 l4 m1 m2 m3 m4 p1 p2 p3 p4 p5 p6 p7 p8 p9 pa pb pc ih
  generalize x.kind=s0,y.kind=t0,x.pos=s1,y.pos=t1,x.mu=s2,y.mu=t2,str x.name=s3,str y.name=t3,x.has=s4,y.has=t4 at *
  go_enter Tryz.func75,Tryz.ntmps75
  go_wp2_with fail
  refine wp_region_quiet_lit (by kernel_rfl) lex75 ?_
  simp only [List.append_eq,List.cons_append,List.nil_append]
  iterate 60 (go_big_quiet_step (fail))
  go_big_quiet_step (exact Calls.quiet_of (r5.out _))
  iterate 8 (go_big_quiet_step (fail))
  go_big_quiet_step (exact Calls.quiet_of (r6.out _))
  iterate 8 (go_big_quiet_step (fail))
  go_big_quiet_step (exact Calls.quiet_of (r7.out _))
  iterate 8 (go_big_quiet_step (fail))
  go_big_quiet_step (exact Calls.quiet_of (r8.out _))
  iterate 10 (go_big_quiet_step (fail))
  go_big_quiet_step (exact Calls.quiet_of (r9.out _))
  repeat (go_big_quiet_step (fail))
  refine wpQuiet_nil ?_
  intro _ hw'
  obtain ⟨nq,hw''⟩:=hw'
  subst hw''
  go_wp2_with fail
  go_ret
  exact ⟨by rw [HF.out];rfl,_,rfl⟩
 by_cases e10:x.els=y.els
 rotate_left
 ·have HF:Hid (B=false):=by
   show B=false
   cases hB:B
   ·rfl
   ·exact absurd (congrArg St.els (HB.out.1 hB)) e10
  replace q0:=q0.2 e0
  replace q1:=q1.2 e1
  replace q2:=q2.2 e2
  replace q3:=q3.2 e3
  replace q4:=q4.2 e4
  have r5:=hid0 (q5.out true ⟨fun _=>e5,fun _=>rfl⟩)
  have r6:=hid0 (q6.out true ⟨fun _=>e6,fun _=>rfl⟩)
  have r7:=hid0 (q7.out true ⟨fun _=>e7,fun _=>rfl⟩)
  have r8:=hid0 (q8.out true ⟨fun _=>e8,fun _=>rfl⟩)
  have r9:=hid0 (q9.out true ⟨fun _=>e9,fun _=>rfl⟩)
  have r10:=hid0 (q10.out false ⟨fun h=>(by cases h),fun h=>absurd h e10⟩)
  clear HB q5 q6 q7 q8 q9 q10 e0 e1 e2 e3 e4 e5 e6 e7 e8 e9 e10 hx hy  hl1 hl2 h1 h2 h3 h4 h5 h6 g1 g2 g3 g4 g5 g6 l1 l2 l3 l4 m1 m2 m3 m4 p1 p2 p3 p4 p5 p6 p7 p8 p9 pa pb pc ih
  generalize x.kind=s0,y.kind=t0,x.pos=s1,y.pos=t1,x.mu=s2,y.mu=t2,str x.name=s3,str y.name=t3,x.has=s4,y.has=t4 at *
  go_enter Tryz.func75,Tryz.ntmps75
  go_wp2_with fail
  refine wp_region_quiet_lit (by kernel_rfl) lex75 ?_
  simp only [List.append_eq,List.cons_append,List.nil_append]
  iterate 60 (go_big_quiet_step (fail))
  go_big_quiet_step (exact Calls.quiet_of (r5.out _))
  iterate 8 (go_big_quiet_step (fail))
  go_big_quiet_step (exact Calls.quiet_of (r6.out _))
  iterate 8 (go_big_quiet_step (fail))
  go_big_quiet_step (exact Calls.quiet_of (r7.out _))
  iterate 8 (go_big_quiet_step (fail))
  go_big_quiet_step (exact Calls.quiet_of (r8.out _))
  iterate 10 (go_big_quiet_step (fail))
  go_big_quiet_step (exact Calls.quiet_of (r9.out _))
  iterate 10 (go_big_quiet_step (fail))
  go_big_quiet_step (exact Calls.quiet_of (r10.out _))
  repeat (go_big_quiet_step (fail))
  refine wpQuiet_nil ?_
  intro _ hw'
  obtain ⟨nq,hw''⟩:=hw'
  subst hw''
  go_wp2_with fail
  go_ret
  exact ⟨by rw [HF.out];rfl,_,rfl⟩
 have HF:Hid (B=true):=by
  refine HB.out.2 ?_
  clear q0 q1 q2 q3 q4 q5 q6 q7 q8 q9 q10 HB hx hy c0 d0 c1 d1 c2 d2 c3 d3 c4 d4 c9 d9 c10 d10 hl1 hl2 h1 h2 h3 h4 h5 h6 g1 g2 g3 g4 g5 g6 l1 l2 l3 l4 m1 m2 m3 m4 p1 p2 p3 p4 p5 p6 p7 p8 p9 pa pb pc ih
  cases x;cases y;simp only at e0 e1 e2 e3 e4 e5 e6 e7 e8 e9 e10;subst e0 e1 e2 e3 e4 e5 e6 e7 e8 e9 e10;rfl
 replace q0:=q0.2 e0
 replace q1:=q1.2 e1
 replace q2:=q2.2 e2
 replace q3:=q3.2 e3
 replace q4:=q4.2 e4
 have r5:=hid0 (q5.out true ⟨fun _=>e5,fun _=>rfl⟩)
 have r6:=hid0 (q6.out true ⟨fun _=>e6,fun _=>rfl⟩)
 have r7:=hid0 (q7.out true ⟨fun _=>e7,fun _=>rfl⟩)
 have r8:=hid0 (q8.out true ⟨fun _=>e8,fun _=>rfl⟩)
 have r9:=hid0 (q9.out true ⟨fun _=>e9,fun _=>rfl⟩)
 have r10:=hid0 (q10.out true ⟨fun _=>e10,fun _=>rfl⟩)
 clear HB q5 q6 q7 q8 q9 q10 e0 e1 e2 e3 e4 e5 e6 e7 e8 e9 e10 hx hy  hl1 hl2 h1 h2 h3 h4 h5 h6 g1 g2 g3 g4 g5 g6 l1 l2 l3 l4 m1 m2 m3 m4 p1 p2 p3 p4 p5 p6 p7 p8 p9 pa pb pc ih
 generalize x.kind=s0,y.kind=t0,x.pos=s1,y.pos=t1,x.mu=s2,y.mu=t2,str x.name=s3,str y.name=t3,x.has=s4,y.has=t4 at *
 go_enter Tryz.func75,Tryz.ntmps75
 go_wp2_with fail
 refine wp_region_quiet_lit (by kernel_rfl) lex75 ?_
 simp only [List.append_eq,List.cons_append,List.nil_append]
 iterate 60 (go_big_quiet_step (fail))
 go_big_quiet_step (exact Calls.quiet_of (r5.out _))
 iterate 8 (go_big_quiet_step (fail))
 go_big_quiet_step (exact Calls.quiet_of (r6.out _))
 iterate 8 (go_big_quiet_step (fail))
 go_big_quiet_step (exact Calls.quiet_of (r7.out _))
 iterate 8 (go_big_quiet_step (fail))
 go_big_quiet_step (exact Calls.quiet_of (r8.out _))
 iterate 10 (go_big_quiet_step (fail))
 go_big_quiet_step (exact Calls.quiet_of (r9.out _))
 iterate 10 (go_big_quiet_step (fail))
 go_big_quiet_step (exact Calls.quiet_of (r10.out _))
 repeat (go_big_quiet_step (fail))
 refine wpQuiet_nil ?_
 intro _ hw'
 obtain ⟨nq,hw''⟩:=hw'
 subst hw''
 go_wp2_with fail
 go_ret
 exact ⟨by rw [HF.out];rfl,_,rfl⟩
theorem sameStmt_at:∀ (n:Nat) {K:Ctx} {w:World} {x y:St} {b o b' o':Nat} {cs cs':List Value},(∀ j,j<32->w.cell? ⟨b,o+j,none⟩=cs[j]?)->(∀ j,j<32->w.cell? ⟨b',o'+j,none⟩=cs'[j]?) ->
  StAt n K w cs x->StAt n K w cs' y->∀ (B:Bool),(B=true↔x=y) ->
  Calls Tryz.prog 75 #[.pointer (some ⟨b,o,none⟩),.pointer (some ⟨b',o',none⟩)] w fun ev w'=>ev=.returned (.bool B)/\∃ m,w'=w.drewN m
 | 0,_,_,_,_,_,_,_,_,_,_,_,_,hx,_,_,_=>hx.elim
 | n+1,_,_,_,_,_,_,_,_,_,_,hc,hc',hx,hy,B,hB=>sameStmt_of (fun w _ _ _ _ ha hb B hB=>sameStmts_of (fun _ _ _ _ _ _ _ _ m B hc hc' hx hy hB =>
   sameStmt_at n (w:=w.drewN m) hc hc' (hx.below (Below.drewN _ _ _)) (hy.below (Below.drewN _ _ _)) B hB) ha hb B hB) hc hc' hx hy B hB
theorem sameStmts_any {n:Nat} {K:Ctx} {w:World} {va vb:Value} {la lb:List St} (ha:Ar 32 496 (StAt n K w) K w va la) (hb:Ar 32 496 (StAt n K w) K w vb lb) (B:Bool) (hB:B=true↔la=lb) :
  Calls Tryz.prog 74 #[va,vb,.func (.func 75) #[] #[]] w fun ev w'=>ev=.returned (.bool B)/\∃ m,w'=w.drewN m :=
 sameStmts_of (fun _ _ _ _ _ _ _ _ m B hc hc' hx hy hB=>sameStmt_at n (w:=w.drewN m) hc hc' (hx.below (Below.drewN _ _ _)) (hy.below (Below.drewN _ _ _)) B hB) ha hb B hB

structure Sm (K:Ctx) (w:World) (gb m L:Nat) (cells:List Value) (a:World):Prop where
 bod:Bod K gb L a
 row:Row a (w.heap.size+1) 49 cells
 rb:Row a w.heap.size 122 [.pointer (some ⟨gb,0,none⟩)]
 rd:Row a (w.heap.size+1+1) 3 [.int .i64 (64 - (m:Int))]
 stay:Stay (fun k=>k=gb) w a
 lt:gb<w.heap.size
 C:K.C<=w.heap.size
theorem Sm.kb {K:Ctx} {w a:World} {gb m L:Nat} {cells:List Value} (h:Sm K w gb m L cells a):Below K.C w a:=h.stay.below h.C (fun k hk=>by have:=h.bod.hi;omega)
theorem Sm.next {K:Ctx} {w a a':World} {gb m L:Nat} {cells cells':List Value} (h:Sm K w gb m L cells a) (r:Row a' (w.heap.size+1) 49 cells') (s:Stay (fun k=>k=w.heap.size+1) a a'):Sm K w gb m L cells' a':=by
 have hlt:=h.lt
 have hC:=h.C
 refine ⟨⟨h.bod.env.below (s.below h.bod.env.C (fun k hk=>by omega)),s.row h.bod.row (by omega),h.bod.hi,h.bod.most⟩,r,s.row h.rb (by omega),s.row h.rd (by omega),h.stay.step s (fun i hi hY=>by omega),hlt,hC⟩
theorem Sm.nextB {K:Ctx} {w a a':World} {gb m L L':Nat} {cells cells':List Value} (h:Sm K w gb m L cells a) (r:Row a' (w.heap.size+1) 49 cells') (s:Stay (fun k=>k=w.heap.size+1∨k=gb) a a') (rL:Row a' gb 89 [.int .i64 (L':Int)]) (hL:L'<=2000):Sm K w gb m L' cells' a':=by
 have hlt:=h.lt
 have hC:=h.C
 have hhi:=h.bod.hi
 refine ⟨⟨h.bod.env.below (s.below h.bod.env.C (fun k hk=>by omega)),rL,hhi,hL⟩,r,s.row h.rb (by omega),s.row h.rd (by omega),h.stay.step s (fun i hi hY=>by omega),hlt,hC⟩
theorem Sm.first {K:Ctx} {w:World} {gb m L:Nat} (cells:List Value) (h:Bod K gb L w) :
  Sm K w gb m L cells (((w.alloc (.cells #[.pointer (some ⟨gb,0,none⟩)] 122)).alloc (.cells cells.toArray 49)).alloc (.cells #[.int .i64 (64 - (m:Int))] 3)):=by
 have hA:=alloc_two w (.cells #[.pointer (some ⟨gb,0,none⟩)] 122) (.cells cells.toArray 49)
 have hA3:=alloc_one ((w.alloc (.cells #[.pointer (some ⟨gb,0,none⟩)] 122)).alloc (.cells cells.toArray 49)) (.cells #[.int .i64 (64 - (m:Int))] 3)
 have hb:=hA.trans (below_le hA3 hA.size)
 have r1:=(Row.new (w.alloc (.cells #[.pointer (some ⟨gb,0,none⟩)] 122)) 49 cells).alloc (.cells #[.int .i64 (64 - (m:Int))] 3)
 rw [size_alloc] at r1
 have r2:=Row.new ((w.alloc (.cells #[.pointer (some ⟨gb,0,none⟩)] 122)).alloc (.cells cells.toArray 49)) 3 [.int .i64 (64 - (m:Int))]
 rw [size_alloc,size_alloc] at r2
 exact ⟨h.below hb,r1,((Row.new w 122 [.pointer (some ⟨gb,0,none⟩)]).alloc _).alloc _,r2,Stay.of_below hb,h.row.lt,h.env.C⟩
theorem Sm.last {n:Nat} {K:Ctx} {w a:World} {gb m L:Nat} {cells:List Value} (h:Sm K w gb m L cells a) {v:St} (hv:StAt (n+1) K a cells v) (k p:Int) (B:Bool) (hB:B=true↔v=St.bare k p) :
  Calls Tryz.prog 75 #[.pointer (some ⟨w.heap.size+1,0,none⟩),.pointer (some ⟨a.heap.size,0,none⟩)] (a.alloc (.cells #[.int .i64 k,.int .i64 p,.bool false,.string ⟨#[]⟩,.int .i64 0,.string ⟨#[]⟩,.slice none 0 0,.slice none 0 0,.bool false,.string ⟨#[]⟩,.slice none 0 0,.int .i64 0,.int .i64 0,.int .i64 0,.string ⟨#[]⟩,.slice none 0 0,.int .i64 0,.int .i64 0,.string ⟨#[]⟩,.slice none 0 0,.int .i64 0,.string ⟨#[]⟩,.slice none 0 0,.string ⟨#[]⟩,.slice none 0 0,.slice none 0 0,.int .i64 0,.int .i64 0,.string ⟨#[]⟩,.slice none 0 0,.slice none 0 0,.slice none 0 0] 49)) fun ev w'=>ev=.returned (.bool B)/\Stay (fun k=>k=gb) w w'/\Row w' gb 89 [.int .i64 (L:Int)]:=by
 have hA:=alloc_one a (.cells #[.int .i64 k,.int .i64 p,.bool false,.string ⟨#[]⟩,.int .i64 0,.string ⟨#[]⟩,.slice none 0 0,.slice none 0 0,.bool false,.string ⟨#[]⟩,.slice none 0 0,.int .i64 0,.int .i64 0,.int .i64 0,.string ⟨#[]⟩,.slice none 0 0,.int .i64 0,.int .i64 0,.string ⟨#[]⟩,.slice none 0 0,.int .i64 0,.string ⟨#[]⟩,.slice none 0 0,.string ⟨#[]⟩,.slice none 0 0,.slice none 0 0,.int .i64 0,.int .i64 0,.string ⟨#[]⟩,.slice none 0 0,.slice none 0 0,.slice none 0 0] 49)
 have hC:=h.bod.env.C
 refine (sameStmt_at (n+1) ((h.row.alloc _).cells 32) ((Row.new a 49 (stCells k p)).cells 32) (hv.below (below_le hA hC)) (st_zero n K _ k p) B hB).mono ?_
 rintro _ _ ⟨rfl,q,rfl⟩
 exact ⟨rfl,((h.stay.trans (Stay.of_below hA)).drewN q),((h.bod.row.alloc _).drewN)⟩
end Go.Proofs.YtjenmmkamhplkaaGreat
