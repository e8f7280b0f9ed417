/- Part of the proof. -/
import Derived.Test.YtjenmmkamhplkaaGreatJqspSms2
import Derived.Test.YtjenmmkamhplkaaGreatQqspSmt
import Derived.Test.YtjenmmkamhplkaaGreatJqspStm2
namespace Go.Proofs.YtjenmmkamhplkaaGreat
open Go.RowKit
set_option maxHeartbeats 8000000 in
set_option maxRecDepth 20000 in
theorem sameFunc_any {n:Nat} 
  {K:Ctx} {w:World} {x y:Fnc} {b o b' o':Nat} {cs cs':List Value} (hc:∀ j,j<10->w.cell? ⟨b,o+j,none⟩=cs[j]?) (hc':∀ j,j<10->w.cell? ⟨b',o'+j,none⟩=cs'[j]?)
  (hx:FncAt n K w cs x) (hy:FncAt n K w cs' y) (B:Bool) (hB:B=true↔x=y) :
  Calls Tryz.prog 37 #[.pointer (some ⟨b,o,none⟩),.pointer (some ⟨b',o',none⟩)] w fun ev w'=>ev=.returned (.bool B)/\∃ m,w'=w.drewN m:=by
 obtain ⟨v2,v3,ts,v8,rfl,hl1,h2,h3,h4,h5⟩:=id hx
 obtain ⟨u2,u3,ts',u8,rfl,hl2,g2,g3,g4,g5⟩:=id hy
 have l1:=h4.len
 have m1:=g4.len
 have p1:=part_at hc [.bool x.pub,.string (str x.name),v2,v3] ts [v8,.int .i64 x.pos] (k:=4) (n:=4) rfl l1 (by decide) rfl
 have p2:=part_at hc' [.bool y.pub,.string (str y.name),u2,u3] ts' [u8,.int .i64 y.pos] (k:=4) (n:=4) rfl m1 (by decide) rfl
 have p3:=part_at hc (.bool x.pub :: .string (str x.name) :: v2 :: v3 :: ts) [v8,.int .i64 x.pos] [] (k:=8) (n:=2) (by simp [l1]) rfl (by decide) (by simp)
 have p4:=part_at hc' (.bool y.pub :: .string (str y.name) :: u2 :: u3 :: ts') [u8,.int .i64 y.pos] [] (k:=8) (n:=2) (by simp [m1]) rfl (by decide) (by simp)
 have c0:w.cell? ⟨b,o,none⟩=some (.bool x.pub):=hc 0 (by decide)
 have d0:w.cell? ⟨b',o',none⟩=some (.bool y.pub):=hc' 0 (by decide)
 have c1:w.cell? ⟨b,o+1,none⟩=some (.string (str x.name)):=hc 1 (by decide)
 have d1:w.cell? ⟨b',o'+1,none⟩=some (.string (str y.name)):=hc' 1 (by decide)
 have c2:w.cell? ⟨b,o+9,none⟩=some (.int .i64 x.pos):=p3 1 (by decide)
 have d2:w.cell? ⟨b',o'+9,none⟩=some (.int .i64 y.pos):=p4 1 (by decide)
 have c3:w.cell? ⟨b,o+2,none⟩=some v2:=hc 2 (by decide)
 have d3:w.cell? ⟨b',o'+2,none⟩=some u2:=hc' 2 (by decide)
 have c4:w.cell? ⟨b,o+3,none⟩=some v3:=hc 3 (by decide)
 have d4:w.cell? ⟨b',o'+3,none⟩=some u3:=hc' 3 (by decide)
 have c6:w.cell? ⟨b,o+8,none⟩=some v8:=p3 0 (by decide)
 have d6:w.cell? ⟨b',o'+8,none⟩=some u8:=p4 0 (by decide)
 have HB:Hid (B=true↔x=y):=hB
 clear hB
 have q0:(x.pub == y.pub)=true↔x.pub=y.pub:=beq_iff_eq
 have q1:((str x.name).toList == (str y.name).toList)=true↔x.name=y.name:=by rw [str_beq];exact decide_eq_true_iff
 have q2:(x.pos == y.pos)=true↔x.pos=y.pos:=beq_iff_eq
 have q3:Hid (∀ (B:Bool),(B=true↔x.lives=y.lives)->∀ n',Calls Tryz.prog 72 #[v2,u2,.func (.func 73) #[] #[]] (w.drewN n') fun ev w'=>ev=.returned (.bool B)/\∃ m,w'=(w.drewN n').drewN m):=by
  intro B hB n'
  exact sameLives_of (fun _ _ _ _ _ _ _ _ m B hc hc' hx hy hB=>sameLife_any (K:=K) (w:=(w.drewN n').drewN m) hc hc' (hx.below (Below.drewN _ _ _)) (hy.below (Below.drewN _ _ _)) B hB) (h2.mono (Below.drewN _ _ _) fun _ _ _ h=>h.below (Below.drewN _ _ _)) (g2.mono (Below.drewN _ _ _) fun _ _ _ h=>h.below (Below.drewN _ _ _)) B hB
 have q4:Hid (∀ (B:Bool),(B=true↔x.params=y.params)->∀ n',Calls Tryz.prog 70 #[v3,u3,.func (.func 71) #[] #[]] (w.drewN n') fun ev w'=>ev=.returned (.bool B)/\∃ m,w'=(w.drewN n').drewN m):=by
  intro B hB n'
  exact sameFields_of (fun _ _ _ _ _ _ _ _ m B hc hc' hx hy hB=>sameField_any (K:=K) (w:=(w.drewN n').drewN m) hc hc' (hx.below (Below.drewN _ _ _)) (hy.below (Below.drewN _ _ _)) B hB) (h3.mono (Below.drewN _ _ _) fun _ _ _ h=>h.below (Below.drewN _ _ _)) (g3.mono (Below.drewN _ _ _) fun _ _ _ h=>h.below (Below.drewN _ _ _)) B hB
 have q5:Hid (∀ (B:Bool),(B=true↔x.result=y.result)->∀ n',Calls Tryz.prog 41 #[.pointer (some ⟨b,o+4,none⟩),.pointer (some ⟨b',o'+4,none⟩)] (w.drewN n') fun ev w'=>ev=.returned (.bool B)/\∃ m,w'=(w.drewN n').drewN m):=by
  intro B hB n'
  exact sameType_any (w:=w.drewN n') p1 p2 (h4.below (Below.drewN _ _ _)) (g4.below (Below.drewN _ _ _)) B hB
 have q6:Hid (∀ (B:Bool),(B=true↔x.body=y.body)->∀ n',Calls Tryz.prog 74 #[v8,u8,.func (.func 75) #[] #[]] (w.drewN n') fun ev w'=>ev=.returned (.bool B)/\∃ m,w'=(w.drewN n').drewN m):=by
  intro B hB n'
  exact sameStmts_any (h5.mono (Below.drewN _ _ _) fun _ _ _ h=>h.below (Below.drewN _ _ _)) (g5.mono (Below.drewN _ _ _) fun _ _ _ h=>h.below (Below.drewN _ _ _)) B hB
 clear hc hc'
 by_cases e0:x.pub=y.pub
 rotate_left
 ·have HF:Hid (B=false):=by
   show B=false
   cases hB:B
   ·rfl
   ·exact absurd (congrArg Fnc.pub (HB.out.1 hB)) e0
  replace q0:=Bool.eq_false_iff.2 (fun h=>e0 (q0.1 h))
  clear HB q1 q2 q3 q4 q5 q6 e0 hx hy c1 d1 c2 d2 c3 d3 c4 d4 c6 d6 hl1 hl2 h2 h3 h4 h5 g2 g3 g4 g5 l1 m1 p1 p2 p3 p4
  generalize x.pub=s0,y.pub=t0 at *
  go_enter Tryz.func37,Tryz.ntmps37
  go_wp2_with fail
  refine wp_region_quiet_lit (by kernel_rfl) lex37 ?_
  simp only [List.append_eq,List.cons_append,List.nil_append]
  repeat (go_big_quiet_step (fail))
  refine wpQuiet_nil ?_
  intro _ hw'
  obtain ⟨nq,hw''⟩:=hw'
  subst hw''
  go_wp2_with fail
  go_ret
  exact ⟨by rw [HF.out];rfl,_,rfl⟩
 by_cases e1:x.name=y.name
 rotate_left
 ·have HF:Hid (B=false):=by
   show B=false
   cases hB:B
   ·rfl
   ·exact absurd (congrArg Fnc.name (HB.out.1 hB)) e1
  replace q0:=q0.2 e0
  replace q1:=Bool.eq_false_iff.2 (fun h=>e1 (q1.1 h))
  clear HB q2 q3 q4 q5 q6 e0 e1 hx hy c2 d2 c3 d3 c4 d4 c6 d6 hl1 hl2 h2 h3 h4 h5 g2 g3 g4 g5 l1 m1 p1 p2 p3 p4
  generalize x.pub=s0,y.pub=t0,str x.name=s1,str y.name=t1 at *
  go_enter Tryz.func37,Tryz.ntmps37
  go_wp2_with fail
  refine wp_region_quiet_lit (by kernel_rfl) lex37 ?_
  simp only [List.append_eq,List.cons_append,List.nil_append]
  repeat (go_big_quiet_step (fail))
  refine wpQuiet_nil ?_
  intro _ hw'
  obtain ⟨nq,hw''⟩:=hw'
  subst hw''
  go_wp2_with fail
  go_ret
  exact ⟨by rw [HF.out];rfl,_,rfl⟩
 by_cases e2:x.pos=y.pos
 rotate_left
 ·have HF:Hid (B=false):=by
   show B=false
   cases hB:B
   ·rfl
   ·exact absurd (congrArg Fnc.pos (HB.out.1 hB)) e2
  replace q0:=q0.2 e0
  replace q1:=q1.2 e1
  replace q2:=Bool.eq_false_iff.2 (fun h=>e2 (q2.1 h))
  clear HB q3 q4 q5 q6 e0 e1 e2 hx hy c3 d3 c4 d4 c6 d6 hl1 hl2 h2 h3 h4 h5 g2 g3 g4 g5 l1 m1 p1 p2 p3 p4
  generalize x.pub=s0,y.pub=t0,str x.name=s1,str y.name=t1,x.pos=s2,y.pos=t2 at *
  go_enter Tryz.func37,Tryz.ntmps37
  go_wp2_with fail
  refine wp_region_quiet_lit (by kernel_rfl) lex37 ?_
  simp only [List.append_eq,List.cons_append,List.nil_append]
  repeat (go_big_quiet_step (fail))
  refine wpQuiet_nil ?_
  intro _ hw'
  obtain ⟨nq,hw''⟩:=hw'
  subst hw''
  go_wp2_with fail
  go_ret
  exact ⟨by rw [HF.out];rfl,_,rfl⟩
 by_cases e3:x.lives=y.lives
 rotate_left
 ·have HF:Hid (B=false):=by
   show B=false
   cases hB:B
   ·rfl
   ·exact absurd (congrArg Fnc.lives (HB.out.1 hB)) e3
  replace q0:=q0.2 e0
  replace q1:=q1.2 e1
  replace q2:=q2.2 e2
  have r3:=hid0 (q3.out false ⟨fun h=>(by cases h),fun h=>absurd h e3⟩)
  clear HB q3 q4 q5 q6 e0 e1 e2 e3 hx hy c4 d4 c6 d6 hl1 hl2 h2 h3 h4 h5 g2 g3 g4 g5 l1 m1 p1 p2 p3 p4
  generalize x.pub=s0,y.pub=t0,str x.name=s1,str y.name=t1,x.pos=s2,y.pos=t2 at *
  go_enter Tryz.func37,Tryz.ntmps37
  go_wp2_with fail
  refine wp_region_quiet_lit (by kernel_rfl) lex37 ?_
  simp only [List.append_eq,List.cons_append,List.nil_append]
  iterate 40 (go_big_quiet_step (fail))
  go_big_quiet_step (exact Calls.quiet_of (r3.out _))
  repeat (go_big_quiet_step (fail))
  refine wpQuiet_nil ?_
  intro _ hw'
  obtain ⟨nq,hw''⟩:=hw'
  subst hw''
  go_wp2_with fail
  go_ret
  exact ⟨by rw [HF.out];rfl,_,rfl⟩
 by_cases e4:x.params=y.params
 rotate_left
 ·have HF:Hid (B=false):=by
   show B=false
   cases hB:B
   ·rfl
   ·exact absurd (congrArg Fnc.params (HB.out.1 hB)) e4
  replace q0:=q0.2 e0
  replace q1:=q1.2 e1
  replace q2:=q2.2 e2
  have r3:=hid0 (q3.out true ⟨fun _=>e3,fun _=>rfl⟩)
  have r4:=hid0 (q4.out false ⟨fun h=>(by cases h),fun h=>absurd h e4⟩)
  clear HB q3 q4 q5 q6 e0 e1 e2 e3 e4 hx hy c6 d6 hl1 hl2 h2 h3 h4 h5 g2 g3 g4 g5 l1 m1 p1 p2 p3 p4
  generalize x.pub=s0,y.pub=t0,str x.name=s1,str y.name=t1,x.pos=s2,y.pos=t2 at *
  go_enter Tryz.func37,Tryz.ntmps37
  go_wp2_with fail
  refine wp_region_quiet_lit (by kernel_rfl) lex37 ?_
  simp only [List.append_eq,List.cons_append,List.nil_append]
  iterate 40 (go_big_quiet_step (fail))
  go_big_quiet_step (exact Calls.quiet_of (r3.out _))
  iterate 10 (go_big_quiet_step (fail))
  go_big_quiet_step (exact Calls.quiet_of (r4.out _))
  repeat (go_big_quiet_step (fail))
  refine wpQuiet_nil ?_
  intro _ hw'
  obtain ⟨nq,hw''⟩:=hw'
  subst hw''
  go_wp2_with fail
  go_ret
  exact ⟨by rw [HF.out];rfl,_,rfl⟩
 by_cases e5:x.result=y.result
 rotate_left
 ·have HF:Hid (B=false):=by
   show B=false
   cases hB:B
   ·rfl
   ·exact absurd (congrArg Fnc.result (HB.out.1 hB)) e5
  replace q0:=q0.2 e0
  replace q1:=q1.2 e1
  replace q2:=q2.2 e2
  have r3:=hid0 (q3.out true ⟨fun _=>e3,fun _=>rfl⟩)
  have r4:=hid0 (q4.out true ⟨fun _=>e4,fun _=>rfl⟩)
  have r5:=hid0 (q5.out false ⟨fun h=>(by cases h),fun h=>absurd h e5⟩)
  clear HB q3 q4 q5 q6 e0 e1 e2 e3 e4 e5 hx hy c6 d6 hl1 hl2 h2 h3 h4 h5 g2 g3 g4 g5 l1 m1 p1 p2 p3 p4
  generalize x.pub=s0,y.pub=t0,str x.name=s1,str y.name=t1,x.pos=s2,y.pos=t2 at *
  go_enter Tryz.func37,Tryz.ntmps37
  go_wp2_with fail
  refine wp_region_quiet_lit (by kernel_rfl) lex37 ?_
  simp only [List.append_eq,List.cons_append,List.nil_append]
  iterate 40 (go_big_quiet_step (fail))
  go_big_quiet_step (exact Calls.quiet_of (r3.out _))
  iterate 10 (go_big_quiet_step (fail))
  go_big_quiet_step (exact Calls.quiet_of (r4.out _))
  iterate 8 (go_big_quiet_step (fail))
  go_big_quiet_step (exact Calls.quiet_of (r5.out _))
  repeat (go_big_quiet_step (fail))
  refine wpQuiet_nil ?_
  intro _ hw'
  obtain ⟨nq,hw''⟩:=hw'
  subst hw''
  go_wp2_with fail
  go_ret
  exact ⟨by rw [HF.out];rfl,_,rfl⟩
 by_cases e6:x.body=y.body
 rotate_left
 ·have HF:Hid (B=false):=by
   show B=false
   cases hB:B
   ·rfl
   ·exact absurd (congrArg Fnc.body (HB.out.1 hB)) e6
  replace q0:=q0.2 e0
  replace q1:=q1.2 e1
  replace q2:=q2.2 e2
  have r3:=hid0 (q3.out true ⟨fun _=>e3,fun _=>rfl⟩)
  have r4:=hid0 (q4.out true ⟨fun _=>e4,fun _=>rfl⟩)
  have r5:=hid0 (q5.out true ⟨fun _=>e5,fun _=>rfl⟩)
  have r6:=hid0 (q6.out false ⟨fun h=>(by cases h),fun h=>absurd h e6⟩)
  clear HB q3 q4 q5 q6 e0 e1 e2 e3 e4 e5 e6 hx hy  hl1 hl2 h2 h3 h4 h5 g2 g3 g4 g5 l1 m1 p1 p2 p3 p4
  generalize x.pub=s0,y.pub=t0,str x.name=s1,str y.name=t1,x.pos=s2,y.pos=t2 at *
  go_enter Tryz.func37,Tryz.ntmps37
  go_wp2_with fail
  refine wp_region_quiet_lit (by kernel_rfl) lex37 ?_
  simp only [List.append_eq,List.cons_append,List.nil_append]
  iterate 40 (go_big_quiet_step (fail))
  go_big_quiet_step (exact Calls.quiet_of (r3.out _))
  iterate 10 (go_big_quiet_step (fail))
  go_big_quiet_step (exact Calls.quiet_of (r4.out _))
  iterate 8 (go_big_quiet_step (fail))
  go_big_quiet_step (exact Calls.quiet_of (r5.out _))
  iterate 10 (go_big_quiet_step (fail))
  go_big_quiet_step (exact Calls.quiet_of (r6.out _))
  repeat (go_big_quiet_step (fail))
  refine wpQuiet_nil ?_
  intro _ hw'
  obtain ⟨nq,hw''⟩:=hw'
  subst hw''
  go_wp2_with fail
  go_ret
  exact ⟨by rw [HF.out];rfl,_,rfl⟩
 have HF:Hid (B=true):=by
  refine HB.out.2 ?_
  clear q0 q1 q2 q3 q4 q5 q6 HB hx hy c0 d0 c1 d1 c2 d2 c3 d3 c4 d4 c6 d6 hl1 hl2 h2 h3 h4 h5 g2 g3 g4 g5 l1 m1 p1 p2 p3 p4
  cases x;cases y;simp only at e0 e1 e2 e3 e4 e5 e6;subst e0 e1 e2 e3 e4 e5 e6;rfl
 replace q0:=q0.2 e0
 replace q1:=q1.2 e1
 replace q2:=q2.2 e2
 have r3:=hid0 (q3.out true ⟨fun _=>e3,fun _=>rfl⟩)
 have r4:=hid0 (q4.out true ⟨fun _=>e4,fun _=>rfl⟩)
 have r5:=hid0 (q5.out true ⟨fun _=>e5,fun _=>rfl⟩)
 have r6:=hid0 (q6.out true ⟨fun _=>e6,fun _=>rfl⟩)
 clear HB q3 q4 q5 q6 e0 e1 e2 e3 e4 e5 e6 hx hy  hl1 hl2 h2 h3 h4 h5 g2 g3 g4 g5 l1 m1 p1 p2 p3 p4
 generalize x.pub=s0,y.pub=t0,str x.name=s1,str y.name=t1,x.pos=s2,y.pos=t2 at *
 go_enter Tryz.func37,Tryz.ntmps37
 go_wp2_with fail
 refine wp_region_quiet_lit (by kernel_rfl) lex37 ?_
 simp only [List.append_eq,List.cons_append,List.nil_append]
 iterate 40 (go_big_quiet_step (fail))
 go_big_quiet_step (exact Calls.quiet_of (r3.out _))
 iterate 10 (go_big_quiet_step (fail))
 go_big_quiet_step (exact Calls.quiet_of (r4.out _))
 iterate 8 (go_big_quiet_step (fail))
 go_big_quiet_step (exact Calls.quiet_of (r5.out _))
 iterate 10 (go_big_quiet_step (fail))
 go_big_quiet_step (exact Calls.quiet_of (r6.out _))
 repeat (go_big_quiet_step (fail))
 refine wpQuiet_nil ?_
 intro _ hw'
 obtain ⟨nq,hw''⟩:=hw'
 subst hw''
 go_wp2_with fail
 go_ret
 exact ⟨by rw [HF.out];rfl,_,rfl⟩

set_option maxHeartbeats 8000000 in
set_option maxRecDepth 20000 in
theorem sameStruct_any  
  {K:Ctx} {w:World} {x y:Sct} {b o b' o':Nat} {cs cs':List Value} (hc:∀ j,j<5->w.cell? ⟨b,o+j,none⟩=cs[j]?) (hc':∀ j,j<5->w.cell? ⟨b',o'+j,none⟩=cs'[j]?)
  (hx:SctAt K w cs x) (hy:SctAt K w cs' y) (B:Bool) (hB:B=true↔x=y) :
  Calls Tryz.prog 35 #[.pointer (some ⟨b,o,none⟩),.pointer (some ⟨b',o',none⟩)] w fun ev w'=>ev=.returned (.bool B)/\∃ m,w'=w.drewN m:=by
 obtain ⟨v2,v3,rfl,hl1,h2,h3⟩:=id hx
 obtain ⟨u2,u3,rfl,hl2,g2,g3⟩:=id hy
 have c0:w.cell? ⟨b,o,none⟩=some (.bool x.pub):=hc 0 (by decide)
 have d0:w.cell? ⟨b',o',none⟩=some (.bool y.pub):=hc' 0 (by decide)
 have c1:w.cell? ⟨b,o+1,none⟩=some (.string (str x.name)):=hc 1 (by decide)
 have d1:w.cell? ⟨b',o'+1,none⟩=some (.string (str y.name)):=hc' 1 (by decide)
 have c2:w.cell? ⟨b,o+4,none⟩=some (.int .i64 x.pos):=hc 4 (by decide)
 have d2:w.cell? ⟨b',o'+4,none⟩=some (.int .i64 y.pos):=hc' 4 (by decide)
 have c3:w.cell? ⟨b,o+2,none⟩=some v2:=hc 2 (by decide)
 have d3:w.cell? ⟨b',o'+2,none⟩=some u2:=hc' 2 (by decide)
 have c4:w.cell? ⟨b,o+3,none⟩=some v3:=hc 3 (by decide)
 have d4:w.cell? ⟨b',o'+3,none⟩=some u3:=hc' 3 (by decide)
 have HB:Hid (B=true↔x=y):=hB
 clear hB
 have q0:(x.pub == y.pub)=true↔x.pub=y.pub:=beq_iff_eq
 have q1:((str x.name).toList == (str y.name).toList)=true↔x.name=y.name:=by rw [str_beq];exact decide_eq_true_iff
 have q2:(x.pos == y.pos)=true↔x.pos=y.pos:=beq_iff_eq
 have q3:Hid (∀ (B:Bool),(B=true↔x.lives=y.lives)->∀ n,Calls Tryz.prog 69 #[v2,u2] (w.drewN n) fun ev w'=>ev=.returned (.bool B)/\∃ m,w'=(w.drewN n).drewN m):=by
  intro B hB n
  exact equal_any (h2.below (Below.drewN _ _ _)) (g2.below (Below.drewN _ _ _)) B hB
 have q4:Hid (∀ (B:Bool),(B=true↔x.fields=y.fields)->∀ n,Calls Tryz.prog 70 #[v3,u3,.func (.func 71) #[] #[]] (w.drewN n) fun ev w'=>ev=.returned (.bool B)/\∃ m,w'=(w.drewN n).drewN m):=by
  intro B hB n
  exact sameFields_of (fun _ _ _ _ _ _ _ _ m B hc hc' hx hy hB=>sameField_any (K:=K) (w:=(w.drewN n).drewN m) hc hc' (hx.below (Below.drewN _ _ _)) (hy.below (Below.drewN _ _ _)) B hB) (h3.mono (Below.drewN _ _ _) fun _ _ _ h=>h.below (Below.drewN _ _ _)) (g3.mono (Below.drewN _ _ _) fun _ _ _ h=>h.below (Below.drewN _ _ _)) B hB
 clear hc hc'
 by_cases e0:x.pub=y.pub
 rotate_left
 ·have HF:Hid (B=false):=by
   show B=false
   cases hB:B
   ·rfl
   ·exact absurd (congrArg Sct.pub (HB.out.1 hB)) e0
  replace q0:=Bool.eq_false_iff.2 (fun h=>e0 (q0.1 h))
  clear HB q1 q2 q3 q4 e0 hx hy c1 d1 c2 d2 c3 d3 c4 d4 hl1 hl2 h2 h3 g2 g3
  generalize x.pub=s0,y.pub=t0 at *
  go_enter Tryz.func35,Tryz.ntmps35
  go_wp2_with fail
  go_quiet (fail)
  go_wp2_with fail
  go_ret
  exact ⟨by rw [HF.out];rfl,_,rfl⟩
 by_cases e1:x.name=y.name
 rotate_left
 ·have HF:Hid (B=false):=by
   show B=false
   cases hB:B
   ·rfl
   ·exact absurd (congrArg Sct.name (HB.out.1 hB)) e1
  replace q0:=q0.2 e0
  replace q1:=Bool.eq_false_iff.2 (fun h=>e1 (q1.1 h))
  clear HB q2 q3 q4 e0 e1 hx hy c2 d2 c3 d3 c4 d4 hl1 hl2 h2 h3 g2 g3
  generalize x.pub=s0,y.pub=t0,str x.name=s1,str y.name=t1 at *
  go_enter Tryz.func35,Tryz.ntmps35
  go_wp2_with fail
  go_quiet (fail)
  go_wp2_with fail
  go_ret
  exact ⟨by rw [HF.out];rfl,_,rfl⟩
 by_cases e2:x.pos=y.pos
 rotate_left
 ·have HF:Hid (B=false):=by
   show B=false
   cases hB:B
   ·rfl
   ·exact absurd (congrArg Sct.pos (HB.out.1 hB)) e2
  replace q0:=q0.2 e0
  replace q1:=q1.2 e1
  replace q2:=Bool.eq_false_iff.2 (fun h=>e2 (q2.1 h))
  clear HB q3 q4 e0 e1 e2 hx hy c3 d3 c4 d4 hl1 hl2 h2 h3 g2 g3
  generalize x.pub=s0,y.pub=t0,str x.name=s1,str y.name=t1,x.pos=s2,y.pos=t2 at *
  go_enter Tryz.func35,Tryz.ntmps35
  go_wp2_with fail
  go_quiet (fail)
  go_wp2_with fail
  go_ret
  exact ⟨by rw [HF.out];rfl,_,rfl⟩
 by_cases e3:x.lives=y.lives
 rotate_left
 ·have HF:Hid (B=false):=by
   show B=false
   cases hB:B
   ·rfl
   ·exact absurd (congrArg Sct.lives (HB.out.1 hB)) e3
  replace q0:=q0.2 e0
  replace q1:=q1.2 e1
  replace q2:=q2.2 e2
  have r3:=hid0 (q3.out false ⟨fun h=>(by cases h),fun h=>absurd h e3⟩)
  clear HB q3 q4 e0 e1 e2 e3 hx hy c4 d4 hl1 hl2 h2 h3 g2 g3
  generalize x.pub=s0,y.pub=t0,str x.name=s1,str y.name=t1,x.pos=s2,y.pos=t2 at *
  go_enter Tryz.func35,Tryz.ntmps35
  go_wp2_with fail
  go_quiet (first|(go_at_call 69;exact Calls.quiet_of (r3.out _)))
  go_wp2_with fail
  go_ret
  exact ⟨by rw [HF.out];rfl,_,rfl⟩
 by_cases e4:x.fields=y.fields
 rotate_left
 ·have HF:Hid (B=false):=by
   show B=false
   cases hB:B
   ·rfl
   ·exact absurd (congrArg Sct.fields (HB.out.1 hB)) e4
  replace q0:=q0.2 e0
  replace q1:=q1.2 e1
  replace q2:=q2.2 e2
  have r3:=hid0 (q3.out true ⟨fun _=>e3,fun _=>rfl⟩)
  have r4:=hid0 (q4.out false ⟨fun h=>(by cases h),fun h=>absurd h e4⟩)
  clear HB q3 q4 e0 e1 e2 e3 e4 hx hy  hl1 hl2 h2 h3 g2 g3
  generalize x.pub=s0,y.pub=t0,str x.name=s1,str y.name=t1,x.pos=s2,y.pos=t2 at *
  go_enter Tryz.func35,Tryz.ntmps35
  go_wp2_with fail
  go_quiet (first|(go_at_call 69;exact Calls.quiet_of (r3.out _))|(go_at_call 70;exact Calls.quiet_of (r4.out _)))
  go_wp2_with fail
  go_ret
  exact ⟨by rw [HF.out];rfl,_,rfl⟩
 have HF:Hid (B=true):=by
  refine HB.out.2 ?_
  clear q0 q1 q2 q3 q4 HB hx hy c0 d0 c1 d1 c2 d2 c3 d3 c4 d4 hl1 hl2 h2 h3 g2 g3
  cases x;cases y;simp only at e0 e1 e2 e3 e4;subst e0 e1 e2 e3 e4;rfl
 replace q0:=q0.2 e0
 replace q1:=q1.2 e1
 replace q2:=q2.2 e2
 have r3:=hid0 (q3.out true ⟨fun _=>e3,fun _=>rfl⟩)
 have r4:=hid0 (q4.out true ⟨fun _=>e4,fun _=>rfl⟩)
 clear HB q3 q4 e0 e1 e2 e3 e4 hx hy  hl1 hl2 h2 h3 g2 g3
 generalize x.pub=s0,y.pub=t0,str x.name=s1,str y.name=t1,x.pos=s2,y.pos=t2 at *
 go_enter Tryz.func35,Tryz.ntmps35
 go_wp2_with fail
 go_quiet (first|(go_at_call 69;exact Calls.quiet_of (r3.out _))|(go_at_call 70;exact Calls.quiet_of (r4.out _)))
 go_wp2_with fail
 go_ret
 exact ⟨by rw [HF.out];rfl,_,rfl⟩

set_option maxHeartbeats 4000000 in
theorem same_any {n:Nat} {K:Ctx} {w:World} (hC:K.C<=w.heap.size) {x y:Crt} {cs cs':List Value} (hx:CrtAt n K w cs x) (hy:CrtAt n K w cs' y) (B:Bool) (hB:B=true↔x=y) :
  Calls Tryz.prog 12 #[.agg cs.toArray,.agg cs'.toArray] w fun ev w'=>ev=.returned (.bool B)/\Below w.heap.size w w':=by
 obtain ⟨v0,v1,rfl,h0,h1⟩:=hx
 obtain ⟨u0,u1,rfl,g0,g1⟩:=hy
 obtain ⟨a0,c0,e0⟩:=h0.form
 obtain ⟨a1,c1,e1⟩:=h1.form
 obtain ⟨b0,d0,e2⟩:=g0.form
 obtain ⟨b1,d1,e3⟩:=g1.form
 have hA:=alloc_two w (.cells #[v0,v1] 25) (.cells #[u0,u1] 25)
 have hK:=below_le hA hC
 have HA:=hid0 hA
 have T1:Hid (∀ B,(B=true↔x.structs=y.structs)->Calls Tryz.prog 34 #[v0,u0,.func (.func 35) #[] #[]] ((w.alloc (.cells #[v0,v1] 25)).alloc (.cells #[u0,u1] 25)) fun ev w'=>ev=.returned (.bool B)/\∃ m,w'=((w.alloc (.cells #[v0,v1] 25)).alloc (.cells #[u0,u1] 25)).drewN m):=by
  intro B hB
  exact sameStructs_of (fun _ _ _ _ _ _ _ _ m B hc hc' hx hy hB=>sameStruct_any (K:=K) (w:=World.drewN _ m) hc hc' (hx.below (Below.drewN _ _ _)) (hy.below (Below.drewN _ _ _)) B hB) (h0.mono hK fun _ _ _ q=>q.below hK) (g0.mono hK fun _ _ _ q=>q.below hK) B hB
 have T2:Hid (∀ k B,(B=true↔x.funcs=y.funcs)->Calls Tryz.prog 36 #[v1,u1,.func (.func 37) #[] #[]] (((w.alloc (.cells #[v0,v1] 25)).alloc (.cells #[u0,u1] 25)).drewN k) fun ev w'=>ev=.returned (.bool B)/\∃ m,w'=(((w.alloc (.cells #[v0,v1] 25)).alloc (.cells #[u0,u1] 25)).drewN k).drewN m):=by
  intro k B hB
  have hK2:=hK.trans (Below.drewN _ ((w.alloc (.cells #[v0,v1] 25)).alloc (.cells #[u0,u1] 25)) k)
  exact sameFuncs_of (fun _ _ _ _ _ _ _ _ m B hc hc' hx hy hB=>sameFunc_any (K:=K) (w:=World.drewN _ m) hc hc' (hx.below (Below.drewN _ _ _)) (hy.below (Below.drewN _ _ _)) B hB) (h1.mono hK2 fun _ _ _ q=>q.below hK2) (g1.mono hK2 fun _ _ _ q=>q.below hK2) B hB
 have HB:Hid (B=true↔x=y):=hB
 clear h0 h1 g0 g1 hB hA hK
 by_cases f0:x.structs=y.structs
 ·have U1:=T1.out true ⟨fun _=>f0,fun _=>rfl⟩
  have U2:Hid (∀ k,_):=fun k=>T2.out k B (by
   rw [HB.out]
   constructor
   ·rintro rfl;rfl
   ·intro h;cases x;cases y;simp only at f0 h;subst f0 h;rfl)
  clear HB T1 T2 f0
  subst e0 e1 e2 e3
  generalize x.structs.length=n1,y.structs.length=n2,x.funcs.length=n3,y.funcs.length=n4 at *
  go_enter Tryz.func12,Tryz.ntmps12
  go_wp2_with fail
  refine U1.mono ?_
  rintro ev w1 ⟨rfl,m,rfl⟩
  go_wp2_with fail
  refine (U2.out m).mono ?_
  rintro ev w1 ⟨rfl,q,rfl⟩
  go_wp2_with fail
  go_ret
  exact ⟨rfl,HA.out.trans (Below.drewN _ _ _)⟩
 ·obtain rfl:=bool_false HB.out (fun h=>f0 (congrArg Crt.structs h))
  have U1:=T1.out false ⟨fun h=>(by cases h),fun h=>absurd h f0⟩
  clear HB T1 T2 f0
  subst e0 e1 e2 e3
  generalize x.structs.length=n1,y.structs.length=n2,x.funcs.length=n3,y.funcs.length=n4 at *
  go_enter Tryz.func12,Tryz.ntmps12
  go_wp2_with fail
  refine U1.mono ?_
  rintro ev w1 ⟨rfl,m,rfl⟩
  go_wp2_with fail
  go_ret
  exact ⟨rfl,HA.out.trans (Below.drewN _ _ _)⟩
end Go.Proofs.YtjenmmkamhplkaaGreat
