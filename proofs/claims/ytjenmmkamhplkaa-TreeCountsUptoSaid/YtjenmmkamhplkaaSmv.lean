/-
  Values: are two the same? The program says it.
-/
import Derived.Test.YtjenmmkamhplkaaSmt
import Derived.Test.YtjenmmkamhplkaaJGds2
namespace Go.Proofs.Ytjenmmkamhplkaa
open Go.RowKit

set_option maxHeartbeats 8000000 in
set_option maxRecDepth 20000 in
theorem sameValue_any  
    {K : Ctx} {w : World} {x y : Va} {b o b' o' : Nat} {cs cs' : List Value} (hc : ∀ j, j < 15 → w.cell? ⟨b, o + j, none⟩ = cs[j]?) (hc' : ∀ j, j < 15 → w.cell? ⟨b', o' + j, none⟩ = cs'[j]?)
    (hx : VaAt K w cs x) (hy : VaAt K w cs' y) (B : Bool) (hB : B = true ↔ x = y) :
    Calls Try.prog 58 #[.pointer (some ⟨b, o, none⟩), .pointer (some ⟨b', o', none⟩)] w fun ev w' => ev = .returned (.bool B) ∧ ∃ m, w' = w.drewN m := by
  obtain ⟨xa, xb, ps, vn, va, rfl, h1, h2, h3, hl1, h4, h5⟩ := id hx
  obtain ⟨ya, yb, qs, un, ua, rfl, g1, g2, g3, hl2, g4, g5⟩ := id hy
  have l1 := h1.len
  have l2 := h2.len
  have l3 := h3.len
  have m1 := g1.len
  have m2 := g2.len
  have m3 := g3.len
  have p1 := part_at hc [.int .i64 x.kind] xa (xb ++ (.int .i64 x.op :: (ps ++ [.string (str x.name), vn, va]))) (k := 1) (n := 4) rfl l1 (by decide) rfl
  have p2 := part_at hc' [.int .i64 y.kind] ya (yb ++ (.int .i64 y.op :: (qs ++ [.string (str y.name), un, ua]))) (k := 1) (n := 4) rfl m1 (by decide) rfl
  have p3 := part_at hc (.int .i64 x.kind :: xa) xb (.int .i64 x.op :: (ps ++ [.string (str x.name), vn, va])) (k := 5) (n := 4) (by simp [l1]) l2 (by decide) (by simp)
  have p4 := part_at hc' (.int .i64 y.kind :: ya) yb (.int .i64 y.op :: (qs ++ [.string (str y.name), un, ua])) (k := 5) (n := 4) (by simp [m1]) m2 (by decide) (by simp)
  have p5 := part_at hc (.int .i64 x.kind :: (xa ++ xb)) [.int .i64 x.op] (ps ++ [.string (str x.name), vn, va]) (k := 9) (n := 1) (by simp [l1, l2]) rfl (by decide) (by simp) 0 (by decide)
  have p6 := part_at hc' (.int .i64 y.kind :: (ya ++ yb)) [.int .i64 y.op] (qs ++ [.string (str y.name), un, ua]) (k := 9) (n := 1) (by simp [m1, m2]) rfl (by decide) (by simp) 0 (by decide)
  have p7 := part_at hc (.int .i64 x.kind :: (xa ++ (xb ++ [.int .i64 x.op]))) ps [.string (str x.name), vn, va] (k := 10) (n := 2) (by simp [l1, l2]) l3 (by decide) (by simp)
  have p8 := part_at hc' (.int .i64 y.kind :: (ya ++ (yb ++ [.int .i64 y.op]))) qs [.string (str y.name), un, ua] (k := 10) (n := 2) (by simp [m1, m2]) m3 (by decide) (by simp)
  have p9 := part_at hc (.int .i64 x.kind :: (xa ++ (xb ++ (.int .i64 x.op :: ps)))) [.string (str x.name), vn, va] [] (k := 12) (n := 3) (by simp [l1, l2, l3]) rfl (by decide) (by simp)
  have pa := part_at hc' (.int .i64 y.kind :: (ya ++ (yb ++ (.int .i64 y.op :: qs)))) [.string (str y.name), un, ua] [] (k := 12) (n := 3) (by simp [m1, m2, m3]) rfl (by decide) (by simp)
  have c0 : w.cell? ⟨b, o, none⟩ = some (.int .i64 x.kind) := hc 0 (by decide)
  have d0 : w.cell? ⟨b', o', none⟩ = some (.int .i64 y.kind) := hc' 0 (by decide)
  have c1 : w.cell? ⟨b, o + 9, none⟩ = some (.int .i64 x.op) := p5
  have d1 : w.cell? ⟨b', o' + 9, none⟩ = some (.int .i64 y.op) := p6
  have c2 : w.cell? ⟨b, o + 12, none⟩ = some (.string (str x.name)) := p9 0 (by decide)
  have d2 : w.cell? ⟨b', o' + 12, none⟩ = some (.string (str y.name)) := pa 0 (by decide)
  have c6 : w.cell? ⟨b, o + 13, none⟩ = some vn := p9 1 (by decide)
  have d6 : w.cell? ⟨b', o' + 13, none⟩ = some un := pa 1 (by decide)
  have c7 : w.cell? ⟨b, o + 14, none⟩ = some va := p9 2 (by decide)
  have d7 : w.cell? ⟨b', o' + 14, none⟩ = some ua := pa 2 (by decide)
  have HB : Hid (B = true ↔ x = y) := hB
  clear hB
  have q0 : (x.kind == y.kind) = true ↔ x.kind = y.kind := beq_iff_eq
  have q1 : (x.op == y.op) = true ↔ x.op = y.op := beq_iff_eq
  have q2 : ((str x.name).toList == (str y.name).toList) = true ↔ x.name = y.name := by rw [str_beq]; exact decide_eq_true_iff
  have q3 : Hid (∀ (B : Bool), (B = true ↔ x.a = y.a) → ∀ n, Calls Try.prog 59 #[.pointer (some ⟨b, o + 1, none⟩), .pointer (some ⟨b', o' + 1, none⟩)] (w.drewN n) fun ev w' => ev = .returned (.bool B) ∧ ∃ m, w' = (w.drewN n).drewN m) := by
    intro B hB n
    exact sameOper_any (w := w.drewN n) p1 p2 (h1.below (Below.drewN _ _ _)) (g1.below (Below.drewN _ _ _)) B hB
  have q4 : Hid (∀ (B : Bool), (B = true ↔ x.b = y.b) → ∀ n, Calls Try.prog 59 #[.pointer (some ⟨b, o + 5, none⟩), .pointer (some ⟨b', o' + 5, none⟩)] (w.drewN n) fun ev w' => ev = .returned (.bool B) ∧ ∃ m, w' = (w.drewN n).drewN m) := by
    intro B hB n
    exact sameOper_any (w := w.drewN n) p3 p4 (h2.below (Below.drewN _ _ _)) (g2.below (Below.drewN _ _ _)) B hB
  have q5 : Hid (∀ (B : Bool), (B = true ↔ x.place = y.place) → ∀ n, Calls Try.prog 57 #[.pointer (some ⟨b, o + 10, none⟩), .pointer (some ⟨b', o' + 10, none⟩)] (w.drewN n) fun ev w' => ev = .returned (.bool B) ∧ ∃ m, w' = (w.drewN n).drewN m) := by
    intro B hB n
    exact samePlace_any (w := w.drewN n) p7 p8 (h3.below (Below.drewN _ _ _)) (g3.below (Below.drewN _ _ _)) B hB
  have q6 : Hid (∀ (B : Bool), (B = true ↔ x.names = y.names) → ∀ n, Calls Try.prog 38 #[vn, un] (w.drewN n) fun ev w' => ev = .returned (.bool B) ∧ ∃ m, w' = (w.drewN n).drewN m) := by
    intro B hB n
    exact equal_any (h4.below (Below.drewN _ _ _)) (g4.below (Below.drewN _ _ _)) B hB
  have q7 : Hid (∀ (B : Bool), (B = true ↔ x.args = y.args) → ∀ n, Calls Try.prog 76 #[va, ua, .func (.func 59) #[] #[]] (w.drewN n) fun ev w' => ev = .returned (.bool B) ∧ ∃ m, w' = (w.drewN n).drewN m) := by
    intro B hB n
    exact sameOpers_of (fun _ _ _ _ _ _ _ _ m B hc hc' hx hy hB => sameOper_any (K := K) (w := (w.drewN n).drewN m) hc hc' (hx.below (Below.drewN _ _ _)) (hy.below (Below.drewN _ _ _)) B hB) (h5.mono (Below.drewN _ _ _) fun _ _ _ h => h.below (Below.drewN _ _ _)) (g5.mono (Below.drewN _ _ _) fun _ _ _ h => h.below (Below.drewN _ _ _)) B hB
  clear hc hc'
  by_cases e0 : x.kind = y.kind
  rotate_left
  · have HF : Hid (B = false) := by
      show B = false
      cases hB : B
      · rfl
      · exact absurd (congrArg Va.kind (HB.out.1 hB)) e0
    replace q0 := Bool.eq_false_iff.2 (fun h => e0 (q0.1 h))
    clear HB q1 q2 q3 q4 q5 q6 q7 e0 hx hy c1 d1 c2 d2 c6 d6 c7 d7 h1 h2 h3 h4 h5 g1 g2 g3 g4 g5 hl1 hl2 l1 l2 l3 m1 m2 m3 p1 p2 p3 p4 p5 p6 p7 p8 p9 pa
    generalize x.kind = s0 at *
    generalize y.kind = t0 at *
    go_enter Try.func58, Try.ntmps58
    go_wp2_with fail
    refine wp_region_quiet_lit (by kernel_rfl) lex100 ?_
    simp only [List.append_eq, List.cons_append, List.nil_append]
    repeat (go_big_quiet_step (fail))
    refine wpQuiet_nil ?_
    intro _ hw'
    obtain ⟨nq, hw''⟩ := hw'
    subst hw''
    go_wp2_with fail
    go_ret
    exact ⟨by rw [HF.out]; rfl, _, rfl⟩
  by_cases e1 : x.op = y.op
  rotate_left
  · have HF : Hid (B = false) := by
      show B = false
      cases hB : B
      · rfl
      · exact absurd (congrArg Va.op (HB.out.1 hB)) e1
    replace q0 := q0.2 e0
    replace q1 := Bool.eq_false_iff.2 (fun h => e1 (q1.1 h))
    clear HB q2 q3 q4 q5 q6 q7 e0 e1 hx hy c2 d2 c6 d6 c7 d7 h1 h2 h3 h4 h5 g1 g2 g3 g4 g5 hl1 hl2 l1 l2 l3 m1 m2 m3 p1 p2 p3 p4 p5 p6 p7 p8 p9 pa
    generalize x.kind = s0 at *
    generalize y.kind = t0 at *
    generalize x.op = s1 at *
    generalize y.op = t1 at *
    go_enter Try.func58, Try.ntmps58
    go_wp2_with fail
    refine wp_region_quiet_lit (by kernel_rfl) lex100 ?_
    simp only [List.append_eq, List.cons_append, List.nil_append]
    repeat (go_big_quiet_step (fail))
    refine wpQuiet_nil ?_
    intro _ hw'
    obtain ⟨nq, hw''⟩ := hw'
    subst hw''
    go_wp2_with fail
    go_ret
    exact ⟨by rw [HF.out]; rfl, _, rfl⟩
  by_cases e2 : x.name = y.name
  rotate_left
  · have HF : Hid (B = false) := by
      show B = false
      cases hB : B
      · rfl
      · exact absurd (congrArg Va.name (HB.out.1 hB)) e2
    replace q0 := q0.2 e0
    replace q1 := q1.2 e1
    replace q2 := Bool.eq_false_iff.2 (fun h => e2 (q2.1 h))
    clear HB q3 q4 q5 q6 q7 e0 e1 e2 hx hy c6 d6 c7 d7 h1 h2 h3 h4 h5 g1 g2 g3 g4 g5 hl1 hl2 l1 l2 l3 m1 m2 m3 p1 p2 p3 p4 p5 p6 p7 p8 p9 pa
    generalize x.kind = s0 at *
    generalize y.kind = t0 at *
    generalize x.op = s1 at *
    generalize y.op = t1 at *
    generalize str x.name = s2 at *
    generalize str y.name = t2 at *
    go_enter Try.func58, Try.ntmps58
    go_wp2_with fail
    refine wp_region_quiet_lit (by kernel_rfl) lex100 ?_
    simp only [List.append_eq, List.cons_append, List.nil_append]
    repeat (go_big_quiet_step (fail))
    refine wpQuiet_nil ?_
    intro _ hw'
    obtain ⟨nq, hw''⟩ := hw'
    subst hw''
    go_wp2_with fail
    go_ret
    exact ⟨by rw [HF.out]; rfl, _, rfl⟩
  by_cases e3 : x.a = y.a
  rotate_left
  · have HF : Hid (B = false) := by
      show B = false
      cases hB : B
      · rfl
      · exact absurd (congrArg Va.a (HB.out.1 hB)) e3
    replace q0 := q0.2 e0
    replace q1 := q1.2 e1
    replace q2 := q2.2 e2
    have r3 : Hid (∀ n, Calls Try.prog 59 #[.pointer (some ⟨b, o + 1, none⟩), .pointer (some ⟨b', o' + 1, none⟩)] (w.drewN n) fun ev w' => ev = .returned (.bool false) ∧ ∃ m, w' = (w.drewN n).drewN m) := q3.out false ⟨fun h => (by cases h), fun h => absurd h e3⟩
    clear HB q3 q4 q5 q6 q7 e0 e1 e2 e3 hx hy c6 d6 c7 d7 h1 h2 h3 h4 h5 g1 g2 g3 g4 g5 hl1 hl2 l1 l2 l3 m1 m2 m3 p1 p2 p3 p4 p5 p6 p7 p8 p9 pa
    generalize x.kind = s0 at *
    generalize y.kind = t0 at *
    generalize x.op = s1 at *
    generalize y.op = t1 at *
    generalize str x.name = s2 at *
    generalize str y.name = t2 at *
    go_enter Try.func58, Try.ntmps58
    go_wp2_with fail
    refine wp_region_quiet_lit (by kernel_rfl) lex100 ?_
    simp only [List.append_eq, List.cons_append, List.nil_append]
    iterate 38 (go_big_quiet_step (fail))
    go_big_quiet_step (exact Calls.quiet_of (r3.out _))
    repeat (go_big_quiet_step (fail))
    refine wpQuiet_nil ?_
    intro _ hw'
    obtain ⟨nq, hw''⟩ := hw'
    subst hw''
    go_wp2_with fail
    go_ret
    exact ⟨by rw [HF.out]; rfl, _, rfl⟩
  by_cases e4 : x.b = y.b
  rotate_left
  · have HF : Hid (B = false) := by
      show B = false
      cases hB : B
      · rfl
      · exact absurd (congrArg Va.b (HB.out.1 hB)) e4
    replace q0 := q0.2 e0
    replace q1 := q1.2 e1
    replace q2 := q2.2 e2
    have r3 : Hid (∀ n, Calls Try.prog 59 #[.pointer (some ⟨b, o + 1, none⟩), .pointer (some ⟨b', o' + 1, none⟩)] (w.drewN n) fun ev w' => ev = .returned (.bool true) ∧ ∃ m, w' = (w.drewN n).drewN m) := q3.out true ⟨fun _ => e3, fun _ => rfl⟩
    have r4 : Hid (∀ n, Calls Try.prog 59 #[.pointer (some ⟨b, o + 5, none⟩), .pointer (some ⟨b', o' + 5, none⟩)] (w.drewN n) fun ev w' => ev = .returned (.bool false) ∧ ∃ m, w' = (w.drewN n).drewN m) := q4.out false ⟨fun h => (by cases h), fun h => absurd h e4⟩
    clear HB q3 q4 q5 q6 q7 e0 e1 e2 e3 e4 hx hy c6 d6 c7 d7 h1 h2 h3 h4 h5 g1 g2 g3 g4 g5 hl1 hl2 l1 l2 l3 m1 m2 m3 p1 p2 p3 p4 p5 p6 p7 p8 p9 pa
    generalize x.kind = s0 at *
    generalize y.kind = t0 at *
    generalize x.op = s1 at *
    generalize y.op = t1 at *
    generalize str x.name = s2 at *
    generalize str y.name = t2 at *
    go_enter Try.func58, Try.ntmps58
    go_wp2_with fail
    refine wp_region_quiet_lit (by kernel_rfl) lex100 ?_
    simp only [List.append_eq, List.cons_append, List.nil_append]
    iterate 38 (go_big_quiet_step (fail))
    go_big_quiet_step (exact Calls.quiet_of (r3.out _))
    iterate 8 (go_big_quiet_step (fail))
    go_big_quiet_step (exact Calls.quiet_of (r4.out _))
    repeat (go_big_quiet_step (fail))
    refine wpQuiet_nil ?_
    intro _ hw'
    obtain ⟨nq, hw''⟩ := hw'
    subst hw''
    go_wp2_with fail
    go_ret
    exact ⟨by rw [HF.out]; rfl, _, rfl⟩
  by_cases e5 : x.place = y.place
  rotate_left
  · have HF : Hid (B = false) := by
      show B = false
      cases hB : B
      · rfl
      · exact absurd (congrArg Va.place (HB.out.1 hB)) e5
    replace q0 := q0.2 e0
    replace q1 := q1.2 e1
    replace q2 := q2.2 e2
    have r3 : Hid (∀ n, Calls Try.prog 59 #[.pointer (some ⟨b, o + 1, none⟩), .pointer (some ⟨b', o' + 1, none⟩)] (w.drewN n) fun ev w' => ev = .returned (.bool true) ∧ ∃ m, w' = (w.drewN n).drewN m) := q3.out true ⟨fun _ => e3, fun _ => rfl⟩
    have r4 : Hid (∀ n, Calls Try.prog 59 #[.pointer (some ⟨b, o + 5, none⟩), .pointer (some ⟨b', o' + 5, none⟩)] (w.drewN n) fun ev w' => ev = .returned (.bool true) ∧ ∃ m, w' = (w.drewN n).drewN m) := q4.out true ⟨fun _ => e4, fun _ => rfl⟩
    have r5 : Hid (∀ n, Calls Try.prog 57 #[.pointer (some ⟨b, o + 10, none⟩), .pointer (some ⟨b', o' + 10, none⟩)] (w.drewN n) fun ev w' => ev = .returned (.bool false) ∧ ∃ m, w' = (w.drewN n).drewN m) := q5.out false ⟨fun h => (by cases h), fun h => absurd h e5⟩
    clear HB q3 q4 q5 q6 q7 e0 e1 e2 e3 e4 e5 hx hy c6 d6 c7 d7 h1 h2 h3 h4 h5 g1 g2 g3 g4 g5 hl1 hl2 l1 l2 l3 m1 m2 m3 p1 p2 p3 p4 p5 p6 p7 p8 p9 pa
    generalize x.kind = s0 at *
    generalize y.kind = t0 at *
    generalize x.op = s1 at *
    generalize y.op = t1 at *
    generalize str x.name = s2 at *
    generalize str y.name = t2 at *
    go_enter Try.func58, Try.ntmps58
    go_wp2_with fail
    refine wp_region_quiet_lit (by kernel_rfl) lex100 ?_
    simp only [List.append_eq, List.cons_append, List.nil_append]
    iterate 38 (go_big_quiet_step (fail))
    go_big_quiet_step (exact Calls.quiet_of (r3.out _))
    iterate 8 (go_big_quiet_step (fail))
    go_big_quiet_step (exact Calls.quiet_of (r4.out _))
    iterate 8 (go_big_quiet_step (fail))
    go_big_quiet_step (exact Calls.quiet_of (r5.out _))
    repeat (go_big_quiet_step (fail))
    refine wpQuiet_nil ?_
    intro _ hw'
    obtain ⟨nq, hw''⟩ := hw'
    subst hw''
    go_wp2_with fail
    go_ret
    exact ⟨by rw [HF.out]; rfl, _, rfl⟩
  by_cases e6 : x.names = y.names
  rotate_left
  · have HF : Hid (B = false) := by
      show B = false
      cases hB : B
      · rfl
      · exact absurd (congrArg Va.names (HB.out.1 hB)) e6
    replace q0 := q0.2 e0
    replace q1 := q1.2 e1
    replace q2 := q2.2 e2
    have r3 : Hid (∀ n, Calls Try.prog 59 #[.pointer (some ⟨b, o + 1, none⟩), .pointer (some ⟨b', o' + 1, none⟩)] (w.drewN n) fun ev w' => ev = .returned (.bool true) ∧ ∃ m, w' = (w.drewN n).drewN m) := q3.out true ⟨fun _ => e3, fun _ => rfl⟩
    have r4 : Hid (∀ n, Calls Try.prog 59 #[.pointer (some ⟨b, o + 5, none⟩), .pointer (some ⟨b', o' + 5, none⟩)] (w.drewN n) fun ev w' => ev = .returned (.bool true) ∧ ∃ m, w' = (w.drewN n).drewN m) := q4.out true ⟨fun _ => e4, fun _ => rfl⟩
    have r5 : Hid (∀ n, Calls Try.prog 57 #[.pointer (some ⟨b, o + 10, none⟩), .pointer (some ⟨b', o' + 10, none⟩)] (w.drewN n) fun ev w' => ev = .returned (.bool true) ∧ ∃ m, w' = (w.drewN n).drewN m) := q5.out true ⟨fun _ => e5, fun _ => rfl⟩
    have r6 : Hid (∀ n, Calls Try.prog 38 #[vn, un] (w.drewN n) fun ev w' => ev = .returned (.bool false) ∧ ∃ m, w' = (w.drewN n).drewN m) := q6.out false ⟨fun h => (by cases h), fun h => absurd h e6⟩
    clear HB q3 q4 q5 q6 q7 e0 e1 e2 e3 e4 e5 e6 hx hy c7 d7 h1 h2 h3 h4 h5 g1 g2 g3 g4 g5 hl1 hl2 l1 l2 l3 m1 m2 m3 p1 p2 p3 p4 p5 p6 p7 p8 p9 pa
    generalize x.kind = s0 at *
    generalize y.kind = t0 at *
    generalize x.op = s1 at *
    generalize y.op = t1 at *
    generalize str x.name = s2 at *
    generalize str y.name = t2 at *
    go_enter Try.func58, Try.ntmps58
    go_wp2_with fail
    refine wp_region_quiet_lit (by kernel_rfl) lex100 ?_
    simp only [List.append_eq, List.cons_append, List.nil_append]
    iterate 38 (go_big_quiet_step (fail))
    go_big_quiet_step (exact Calls.quiet_of (r3.out _))
    iterate 8 (go_big_quiet_step (fail))
    go_big_quiet_step (exact Calls.quiet_of (r4.out _))
    iterate 8 (go_big_quiet_step (fail))
    go_big_quiet_step (exact Calls.quiet_of (r5.out _))
    iterate 10 (go_big_quiet_step (fail))
    go_big_quiet_step (exact Calls.quiet_of (r6.out _))
    repeat (go_big_quiet_step (fail))
    refine wpQuiet_nil ?_
    intro _ hw'
    obtain ⟨nq, hw''⟩ := hw'
    subst hw''
    go_wp2_with fail
    go_ret
    exact ⟨by rw [HF.out]; rfl, _, rfl⟩
  by_cases e7 : x.args = y.args
  rotate_left
  · have HF : Hid (B = false) := by
      show B = false
      cases hB : B
      · rfl
      · exact absurd (congrArg Va.args (HB.out.1 hB)) e7
    replace q0 := q0.2 e0
    replace q1 := q1.2 e1
    replace q2 := q2.2 e2
    have r3 : Hid (∀ n, Calls Try.prog 59 #[.pointer (some ⟨b, o + 1, none⟩), .pointer (some ⟨b', o' + 1, none⟩)] (w.drewN n) fun ev w' => ev = .returned (.bool true) ∧ ∃ m, w' = (w.drewN n).drewN m) := q3.out true ⟨fun _ => e3, fun _ => rfl⟩
    have r4 : Hid (∀ n, Calls Try.prog 59 #[.pointer (some ⟨b, o + 5, none⟩), .pointer (some ⟨b', o' + 5, none⟩)] (w.drewN n) fun ev w' => ev = .returned (.bool true) ∧ ∃ m, w' = (w.drewN n).drewN m) := q4.out true ⟨fun _ => e4, fun _ => rfl⟩
    have r5 : Hid (∀ n, Calls Try.prog 57 #[.pointer (some ⟨b, o + 10, none⟩), .pointer (some ⟨b', o' + 10, none⟩)] (w.drewN n) fun ev w' => ev = .returned (.bool true) ∧ ∃ m, w' = (w.drewN n).drewN m) := q5.out true ⟨fun _ => e5, fun _ => rfl⟩
    have r6 : Hid (∀ n, Calls Try.prog 38 #[vn, un] (w.drewN n) fun ev w' => ev = .returned (.bool true) ∧ ∃ m, w' = (w.drewN n).drewN m) := q6.out true ⟨fun _ => e6, fun _ => rfl⟩
    have r7 : Hid (∀ n, Calls Try.prog 76 #[va, ua, .func (.func 59) #[] #[]] (w.drewN n) fun ev w' => ev = .returned (.bool false) ∧ ∃ m, w' = (w.drewN n).drewN m) := q7.out false ⟨fun h => (by cases h), fun h => absurd h e7⟩
    clear HB q3 q4 q5 q6 q7 e0 e1 e2 e3 e4 e5 e6 e7 hx hy  h1 h2 h3 h4 h5 g1 g2 g3 g4 g5 hl1 hl2 l1 l2 l3 m1 m2 m3 p1 p2 p3 p4 p5 p6 p7 p8 p9 pa
    generalize x.kind = s0 at *
    generalize y.kind = t0 at *
    generalize x.op = s1 at *
    generalize y.op = t1 at *
    generalize str x.name = s2 at *
    generalize str y.name = t2 at *
    go_enter Try.func58, Try.ntmps58
    go_wp2_with fail
    refine wp_region_quiet_lit (by kernel_rfl) lex100 ?_
    simp only [List.append_eq, List.cons_append, List.nil_append]
    iterate 38 (go_big_quiet_step (fail))
    go_big_quiet_step (exact Calls.quiet_of (r3.out _))
    iterate 8 (go_big_quiet_step (fail))
    go_big_quiet_step (exact Calls.quiet_of (r4.out _))
    iterate 8 (go_big_quiet_step (fail))
    go_big_quiet_step (exact Calls.quiet_of (r5.out _))
    iterate 10 (go_big_quiet_step (fail))
    go_big_quiet_step (exact Calls.quiet_of (r6.out _))
    iterate 10 (go_big_quiet_step (fail))
    go_big_quiet_step (exact Calls.quiet_of (r7.out _))
    repeat (go_big_quiet_step (fail))
    refine wpQuiet_nil ?_
    intro _ hw'
    obtain ⟨nq, hw''⟩ := hw'
    subst hw''
    go_wp2_with fail
    go_ret
    exact ⟨by rw [HF.out]; rfl, _, rfl⟩
  have HF : Hid (B = true) := by
    refine HB.out.2 ?_
    clear q0 q1 q2 q3 q4 q5 q6 q7 HB hx hy c0 d0 c1 d1 c2 d2 c6 d6 c7 d7 h1 h2 h3 h4 h5 g1 g2 g3 g4 g5 hl1 hl2 l1 l2 l3 m1 m2 m3 p1 p2 p3 p4 p5 p6 p7 p8 p9 pa
    cases x; cases y; simp only at e0 e1 e2 e3 e4 e5 e6 e7; subst e0 e1 e2 e3 e4 e5 e6 e7; rfl
  replace q0 := q0.2 e0
  replace q1 := q1.2 e1
  replace q2 := q2.2 e2
  have r3 : Hid (∀ n, Calls Try.prog 59 #[.pointer (some ⟨b, o + 1, none⟩), .pointer (some ⟨b', o' + 1, none⟩)] (w.drewN n) fun ev w' => ev = .returned (.bool true) ∧ ∃ m, w' = (w.drewN n).drewN m) := q3.out true ⟨fun _ => e3, fun _ => rfl⟩
  have r4 : Hid (∀ n, Calls Try.prog 59 #[.pointer (some ⟨b, o + 5, none⟩), .pointer (some ⟨b', o' + 5, none⟩)] (w.drewN n) fun ev w' => ev = .returned (.bool true) ∧ ∃ m, w' = (w.drewN n).drewN m) := q4.out true ⟨fun _ => e4, fun _ => rfl⟩
  have r5 : Hid (∀ n, Calls Try.prog 57 #[.pointer (some ⟨b, o + 10, none⟩), .pointer (some ⟨b', o' + 10, none⟩)] (w.drewN n) fun ev w' => ev = .returned (.bool true) ∧ ∃ m, w' = (w.drewN n).drewN m) := q5.out true ⟨fun _ => e5, fun _ => rfl⟩
  have r6 : Hid (∀ n, Calls Try.prog 38 #[vn, un] (w.drewN n) fun ev w' => ev = .returned (.bool true) ∧ ∃ m, w' = (w.drewN n).drewN m) := q6.out true ⟨fun _ => e6, fun _ => rfl⟩
  have r7 : Hid (∀ n, Calls Try.prog 76 #[va, ua, .func (.func 59) #[] #[]] (w.drewN n) fun ev w' => ev = .returned (.bool true) ∧ ∃ m, w' = (w.drewN n).drewN m) := q7.out true ⟨fun _ => e7, fun _ => rfl⟩
  clear HB q3 q4 q5 q6 q7 e0 e1 e2 e3 e4 e5 e6 e7 hx hy  h1 h2 h3 h4 h5 g1 g2 g3 g4 g5 hl1 hl2 l1 l2 l3 m1 m2 m3 p1 p2 p3 p4 p5 p6 p7 p8 p9 pa
  generalize x.kind = s0 at *
  generalize y.kind = t0 at *
  generalize x.op = s1 at *
  generalize y.op = t1 at *
  generalize str x.name = s2 at *
  generalize str y.name = t2 at *
  go_enter Try.func58, Try.ntmps58
  go_wp2_with fail
  refine wp_region_quiet_lit (by kernel_rfl) lex100 ?_
  simp only [List.append_eq, List.cons_append, List.nil_append]
  iterate 38 (go_big_quiet_step (fail))
  go_big_quiet_step (exact Calls.quiet_of (r3.out _))
  iterate 8 (go_big_quiet_step (fail))
  go_big_quiet_step (exact Calls.quiet_of (r4.out _))
  iterate 8 (go_big_quiet_step (fail))
  go_big_quiet_step (exact Calls.quiet_of (r5.out _))
  iterate 10 (go_big_quiet_step (fail))
  go_big_quiet_step (exact Calls.quiet_of (r6.out _))
  iterate 10 (go_big_quiet_step (fail))
  go_big_quiet_step (exact Calls.quiet_of (r7.out _))
  repeat (go_big_quiet_step (fail))
  refine wpQuiet_nil ?_
  intro _ hw'
  obtain ⟨nq, hw''⟩ := hw'
  subst hw''
  go_wp2_with fail
  go_ret
  exact ⟨by rw [HF.out]; rfl, _, rfl⟩
end Go.Proofs.Ytjenmmkamhplkaa
