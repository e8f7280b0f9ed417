/-
  The texts Smt, Mty, joined.
-/
import Derived.Test.YtlbhaaldndjigaaGreatDoorJSub4
import Derived.Test.YtlbhaaldndjigaaGreatDoorAls
namespace Go.Proofs.YtlbhaaldndjigaaGreatDoor
open Go.RowKit

set_option maxHeartbeats 8000000 in
set_option maxRecDepth 20000 in
theorem sameType_of {n : Nat} (ih : ∀ {K : Ctx} (w : World) {va vb : Value} {la lb : List Ty}, Ar 4 72 (TyAt n K w) K w va la → Ar 4 72 (TyAt n K w) K w vb lb → ∀ (B : Bool), (B = true ↔ la = lb) → Calls Tryz.prog 138 #[va, vb, .func (.func 113) #[] #[]] w fun ev w' => ev = .returned (.bool B) ∧ ∃ m, w' = w.drewN m)
    {K : Ctx} {w : World} {x y : Ty} {b o b' o' : Nat} {cs cs' : List Value} (hc : ∀ j, j < 4 → w.cell? ⟨b, o + j, none⟩ = cs[j]?) (hc' : ∀ j, j < 4 → w.cell? ⟨b', o' + j, none⟩ = cs'[j]?)
    (hx : TyAt (n + 1) K w cs x) (hy : TyAt (n + 1) K w cs' y) (B : Bool) (hB : B = true ↔ x = y) :
    Calls Tryz.prog 113 #[.pointer (some ⟨b, o, none⟩), .pointer (some ⟨b', o', none⟩)] w fun ev w' => ev = .returned (.bool B) ∧ ∃ m, w' = w.drewN m := by
  obtain ⟨v2, v3, rfl, hl1, h2, h3⟩ := id hx
  obtain ⟨u2, u3, rfl, hl2, g2, g3⟩ := id hy
  have c0 : w.cell? ⟨b, o, none⟩ = some (.int .i64 x.kind) := hc 0 (by decide)
  have d0 : w.cell? ⟨b', o', none⟩ = some (.int .i64 y.kind) := hc' 0 (by decide)
  have c1 : w.cell? ⟨b, o + 1, none⟩ = some (.string (str x.name)) := hc 1 (by decide)
  have d1 : w.cell? ⟨b', o' + 1, none⟩ = some (.string (str y.name)) := hc' 1 (by decide)
  have c2 : w.cell? ⟨b, o + 2, none⟩ = some v2 := hc 2 (by decide)
  have d2 : w.cell? ⟨b', o' + 2, none⟩ = some u2 := hc' 2 (by decide)
  have c3 : w.cell? ⟨b, o + 3, none⟩ = some v3 := hc 3 (by decide)
  have d3 : w.cell? ⟨b', o' + 3, none⟩ = some u3 := hc' 3 (by decide)
  have HB : Hid (B = true ↔ x = y) := hB
  clear hB
  have q0 : (x.kind == y.kind) = true ↔ x.kind = y.kind := beq_iff_eq
  have q1 : ((str x.name).toList == (str y.name).toList) = true ↔ x.name = y.name := by rw [str_beq]; exact decide_eq_true_iff
  have q2 : Hid (∀ (B : Bool), (B = true ↔ x.lives = y.lives) → ∀ n, Calls Tryz.prog 137 #[v2, u2] (w.drewN n) fun ev w' => ev = .returned (.bool B) ∧ ∃ m, w' = (w.drewN n).drewN m) := by
    intro B hB n
    exact equal_any (h2.below (Below.drewN _ _ _)) (g2.below (Below.drewN _ _ _)) B hB
  have q3 : Hid (∀ (B : Bool), (B = true ↔ x.elem = y.elem) → ∀ n, Calls Tryz.prog 138 #[v3, u3, .func (.func 113) #[] #[]] (w.drewN n) fun ev w' => ev = .returned (.bool B) ∧ ∃ m, w' = (w.drewN n).drewN m) := by
    intro B hB n
    exact ih (w.drewN n) (h3.mono (Below.drewN _ _ _) fun _ _ _ h => h.below (Below.drewN _ _ _)) (g3.mono (Below.drewN _ _ _) fun _ _ _ h => h.below (Below.drewN _ _ _)) B hB
  clear hc hc'
  by_cases e0 : x.kind = y.kind
  rotate_left
  · have HF : Hid (B = false) := by
      show B = false
      cases hB : B
      · rfl
      · exact absurd (congrArg Ty.kind (HB.out.1 hB)) e0
    replace q0 := Bool.eq_false_iff.2 (fun h => e0 (q0.1 h))
    clear HB q1 q2 q3 e0 hx hy c1 d1 c2 d2 c3 d3 hl1 hl2 h2 h3 g2 g3 ih
    generalize x.kind = s0 at *
    generalize y.kind = t0 at *
    go_enter Tryz.func113, Tryz.ntmps113
    go_wp2_with fail
    go_quiet (fail)
    go_wp2_with fail
    go_ret
    exact ⟨by rw [HF.out]; rfl, _, rfl⟩
  by_cases e1 : x.name = y.name
  rotate_left
  · have HF : Hid (B = false) := by
      show B = false
      cases hB : B
      · rfl
      · exact absurd (congrArg Ty.name (HB.out.1 hB)) e1
    replace q0 := q0.2 e0
    replace q1 := Bool.eq_false_iff.2 (fun h => e1 (q1.1 h))
    clear HB q2 q3 e0 e1 hx hy c2 d2 c3 d3 hl1 hl2 h2 h3 g2 g3 ih
    generalize x.kind = s0 at *
    generalize y.kind = t0 at *
    generalize str x.name = s1 at *
    generalize str y.name = t1 at *
    go_enter Tryz.func113, Tryz.ntmps113
    go_wp2_with fail
    go_quiet (fail)
    go_wp2_with fail
    go_ret
    exact ⟨by rw [HF.out]; rfl, _, rfl⟩
  by_cases e2 : x.lives = y.lives
  rotate_left
  · have HF : Hid (B = false) := by
      show B = false
      cases hB : B
      · rfl
      · exact absurd (congrArg Ty.lives (HB.out.1 hB)) e2
    replace q0 := q0.2 e0
    replace q1 := q1.2 e1
    have r2 : Hid (∀ n, Calls Tryz.prog 137 #[v2, u2] (w.drewN n) fun ev w' => ev = .returned (.bool false) ∧ ∃ m, w' = (w.drewN n).drewN m) := q2.out false ⟨fun h => (by cases h), fun h => absurd h e2⟩
    clear HB q2 q3 e0 e1 e2 hx hy c3 d3 hl1 hl2 h2 h3 g2 g3 ih
    generalize x.kind = s0 at *
    generalize y.kind = t0 at *
    generalize str x.name = s1 at *
    generalize str y.name = t1 at *
    go_enter Tryz.func113, Tryz.ntmps113
    go_wp2_with fail
    go_quiet (first | (go_at_call 137; exact Calls.quiet_of (r2.out _)))
    go_wp2_with fail
    go_ret
    exact ⟨by rw [HF.out]; rfl, _, rfl⟩
  by_cases e3 : x.elem = y.elem
  rotate_left
  · have HF : Hid (B = false) := by
      show B = false
      cases hB : B
      · rfl
      · exact absurd (congrArg Ty.elem (HB.out.1 hB)) e3
    replace q0 := q0.2 e0
    replace q1 := q1.2 e1
    have r2 : Hid (∀ n, Calls Tryz.prog 137 #[v2, u2] (w.drewN n) fun ev w' => ev = .returned (.bool true) ∧ ∃ m, w' = (w.drewN n).drewN m) := q2.out true ⟨fun _ => e2, fun _ => rfl⟩
    have r3 : Hid (∀ n, Calls Tryz.prog 138 #[v3, u3, .func (.func 113) #[] #[]] (w.drewN n) fun ev w' => ev = .returned (.bool false) ∧ ∃ m, w' = (w.drewN n).drewN m) := q3.out false ⟨fun h => (by cases h), fun h => absurd h e3⟩
    clear HB q2 q3 e0 e1 e2 e3 hx hy  hl1 hl2 h2 h3 g2 g3 ih
    generalize x.kind = s0 at *
    generalize y.kind = t0 at *
    generalize str x.name = s1 at *
    generalize str y.name = t1 at *
    go_enter Tryz.func113, Tryz.ntmps113
    go_wp2_with fail
    go_quiet (first | (go_at_call 137; exact Calls.quiet_of (r2.out _)) | (go_at_call 138; exact Calls.quiet_of (r3.out _)))
    go_wp2_with fail
    go_ret
    exact ⟨by rw [HF.out]; rfl, _, rfl⟩
  have HF : Hid (B = true) := by
    refine HB.out.2 ?_
    clear q0 q1 q2 q3 HB hx hy c0 d0 c1 d1 c2 d2 c3 d3 hl1 hl2 h2 h3 g2 g3 ih
    cases x; cases y; simp only at e0 e1 e2 e3; subst e0 e1 e2 e3; rfl
  replace q0 := q0.2 e0
  replace q1 := q1.2 e1
  have r2 : Hid (∀ n, Calls Tryz.prog 137 #[v2, u2] (w.drewN n) fun ev w' => ev = .returned (.bool true) ∧ ∃ m, w' = (w.drewN n).drewN m) := q2.out true ⟨fun _ => e2, fun _ => rfl⟩
  have r3 : Hid (∀ n, Calls Tryz.prog 138 #[v3, u3, .func (.func 113) #[] #[]] (w.drewN n) fun ev w' => ev = .returned (.bool true) ∧ ∃ m, w' = (w.drewN n).drewN m) := q3.out true ⟨fun _ => e3, fun _ => rfl⟩
  clear HB q2 q3 e0 e1 e2 e3 hx hy  hl1 hl2 h2 h3 g2 g3 ih
  generalize x.kind = s0 at *
  generalize y.kind = t0 at *
  generalize str x.name = s1 at *
  generalize str y.name = t1 at *
  go_enter Tryz.func113, Tryz.ntmps113
  go_wp2_with fail
  go_quiet (first | (go_at_call 137; exact Calls.quiet_of (r2.out _)) | (go_at_call 138; exact Calls.quiet_of (r3.out _)))
  go_wp2_with fail
  go_ret
  exact ⟨by rw [HF.out]; rfl, _, rfl⟩

theorem sameType_at : ∀ (n : Nat) {K : Ctx} {w : World} {x y : Ty} {b o b' o' : Nat} {cs cs' : List Value}, (∀ j, j < 4 → w.cell? ⟨b, o + j, none⟩ = cs[j]?) → (∀ j, j < 4 → w.cell? ⟨b', o' + j, none⟩ = cs'[j]?) →
    TyAt n K w cs x → TyAt n K w cs' y → ∀ (B : Bool), (B = true ↔ x = y) →
    Calls Tryz.prog 113 #[.pointer (some ⟨b, o, none⟩), .pointer (some ⟨b', o', none⟩)] w fun ev w' => ev = .returned (.bool B) ∧ ∃ m, w' = w.drewN m
  | 0, _, _, _, _, _, _, _, _, _, _, _, _, hx, _, _, _ => hx.elim
  | n + 1, _, _, _, _, _, _, _, _, _, _, hc, hc', hx, hy, B, hB => sameType_of (fun w _ _ _ _ ha hb B hB => sameTypes_of (fun _ _ _ _ _ _ _ _ m B hc hc' hx hy hB =>
      sameType_at n (w := w.drewN m) hc hc' (hx.below (Below.drewN _ _ _)) (hy.below (Below.drewN _ _ _)) B hB) ha hb B hB) hc hc' hx hy B hB
theorem TyAt.more {K : Ctx} {w : World} : ∀ {n : Nat} {cs : List Value} {t : Ty}, TyAt n K w cs t → TyAt (n + 1) K w cs t
  | 0, _, _, h => h.elim
  | n + 1, _, _, h => by
    obtain ⟨v2, v3, e, h1, h2, h3⟩ := h
    exact ⟨v2, v3, e, h1, h2, h3.mono (Below.refl _ _) fun _ _ _ h => TyAt.more h⟩
theorem TyAt.upto {K : Ctx} {w : World} {n m : Nat} {cs : List Value} {t : Ty} (h : TyAt n K w cs t) (hm : n ≤ m) : TyAt m K w cs t := by
  induction hm with
  | refl => exact h
  | step _ ih => exact ih.more
theorem sameType_any {K : Ctx} {w : World} {x y : Ty} {b o b' o' : Nat} {cs cs' : List Value} (hc : ∀ j, j < 4 → w.cell? ⟨b, o + j, none⟩ = cs[j]?) (hc' : ∀ j, j < 4 → w.cell? ⟨b', o' + j, none⟩ = cs'[j]?)
    (hx : IsTy K w cs x) (hy : IsTy K w cs' y) (B : Bool) (hB : B = true ↔ x = y) :
    Calls Tryz.prog 113 #[.pointer (some ⟨b, o, none⟩), .pointer (some ⟨b', o', none⟩)] w fun ev w' => ev = .returned (.bool B) ∧ ∃ m, w' = w.drewN m := by
  obtain ⟨n, hx⟩ := hx
  obtain ⟨m, hy⟩ := hy
  exact sameType_at (max n m) hc hc' (hx.upto (by omega)) (hy.upto (by omega)) B hB

set_option maxHeartbeats 8000000 in
set_option maxRecDepth 20000 in
theorem samePlace_any  
    {K : Ctx} {w : World} {x y : Pl} {b o b' o' : Nat} {cs cs' : List Value} (hc : ∀ j, j < 2 → w.cell? ⟨b, o + j, none⟩ = cs[j]?) (hc' : ∀ j, j < 2 → w.cell? ⟨b', o' + j, none⟩ = cs'[j]?)
    (hx : PlAt K w cs x) (hy : PlAt K w cs' y) (B : Bool) (hB : B = true ↔ x = y) :
    Calls Tryz.prog 144 #[.pointer (some ⟨b, o, none⟩), .pointer (some ⟨b', o', none⟩)] w fun ev w' => ev = .returned (.bool B) ∧ ∃ m, w' = w.drewN m := by
  obtain ⟨v1, rfl, hl1, h2⟩ := id hx
  obtain ⟨u1, rfl, hl2, g2⟩ := id hy
  have c0 : w.cell? ⟨b, o, none⟩ = some (.string (str x.name)) := hc 0 (by decide)
  have d0 : w.cell? ⟨b', o', none⟩ = some (.string (str y.name)) := hc' 0 (by decide)
  have c1 : w.cell? ⟨b, o + 1, none⟩ = some v1 := hc 1 (by decide)
  have d1 : w.cell? ⟨b', o' + 1, none⟩ = some u1 := hc' 1 (by decide)
  have HB : Hid (B = true ↔ x = y) := hB
  clear hB
  have q0 : ((str x.name).toList == (str y.name).toList) = true ↔ x.name = y.name := by rw [str_beq]; exact decide_eq_true_iff
  have q1 : Hid (∀ (B : Bool), (B = true ↔ x.path = y.path) → ∀ n, Calls Tryz.prog 137 #[v1, u1] (w.drewN n) fun ev w' => ev = .returned (.bool B) ∧ ∃ m, w' = (w.drewN n).drewN m) := by
    intro B hB n
    exact equal_any (h2.below (Below.drewN _ _ _)) (g2.below (Below.drewN _ _ _)) B hB
  clear hc hc'
  by_cases e0 : x.name = y.name
  rotate_left
  · have HF : Hid (B = false) := by
      show B = false
      cases hB : B
      · rfl
      · exact absurd (congrArg Pl.name (HB.out.1 hB)) e0
    replace q0 := Bool.eq_false_iff.2 (fun h => e0 (q0.1 h))
    clear HB q1 e0 hx hy c1 d1 hl1 hl2 h2 g2
    generalize str x.name = s0 at *
    generalize str y.name = t0 at *
    go_enter Tryz.func144, Tryz.ntmps144
    go_wp2_with fail
    go_quiet (fail)
    go_wp2_with fail
    go_ret
    exact ⟨by rw [HF.out]; rfl, _, rfl⟩
  by_cases e1 : x.path = y.path
  rotate_left
  · have HF : Hid (B = false) := by
      show B = false
      cases hB : B
      · rfl
      · exact absurd (congrArg Pl.path (HB.out.1 hB)) e1
    replace q0 := q0.2 e0
    have r1 : Hid (∀ n, Calls Tryz.prog 137 #[v1, u1] (w.drewN n) fun ev w' => ev = .returned (.bool false) ∧ ∃ m, w' = (w.drewN n).drewN m) := q1.out false ⟨fun h => (by cases h), fun h => absurd h e1⟩
    clear HB q1 e0 e1 hx hy  hl1 hl2 h2 g2
    generalize str x.name = s0 at *
    generalize str y.name = t0 at *
    go_enter Tryz.func144, Tryz.ntmps144
    go_wp2_with fail
    go_quiet (first | (go_at_call 137; exact Calls.quiet_of (r1.out _)))
    go_wp2_with fail
    go_ret
    exact ⟨by rw [HF.out]; rfl, _, rfl⟩
  have HF : Hid (B = true) := by
    refine HB.out.2 ?_
    clear q0 q1 HB hx hy c0 d0 c1 d1 hl1 hl2 h2 g2
    cases x; cases y; simp only at e0 e1; subst e0 e1; rfl
  replace q0 := q0.2 e0
  have r1 : Hid (∀ n, Calls Tryz.prog 137 #[v1, u1] (w.drewN n) fun ev w' => ev = .returned (.bool true) ∧ ∃ m, w' = (w.drewN n).drewN m) := q1.out true ⟨fun _ => e1, fun _ => rfl⟩
  clear HB q1 e0 e1 hx hy  hl1 hl2 h2 g2
  generalize str x.name = s0 at *
  generalize str y.name = t0 at *
  go_enter Tryz.func144, Tryz.ntmps144
  go_wp2_with fail
  go_quiet (first | (go_at_call 137; exact Calls.quiet_of (r1.out _)))
  go_wp2_with fail
  go_ret
  exact ⟨by rw [HF.out]; rfl, _, rfl⟩

set_option maxHeartbeats 8000000 in
set_option maxRecDepth 20000 in
theorem sameOper_any  
    {K : Ctx} {w : World} {x y : Opr} {b o b' o' : Nat} {cs cs' : List Value} (hc : ∀ j, j < 4 → w.cell? ⟨b, o + j, none⟩ = cs[j]?) (hc' : ∀ j, j < 4 → w.cell? ⟨b', o' + j, none⟩ = cs'[j]?)
    (hx : OprAt K w cs x) (hy : OprAt K w cs' y) (B : Bool) (hB : B = true ↔ x = y) :
    Calls Tryz.prog 145 #[.pointer (some ⟨b, o, none⟩), .pointer (some ⟨b', o', none⟩)] w fun ev w' => ev = .returned (.bool B) ∧ ∃ m, w' = w.drewN m := by
  obtain ⟨ps, rfl, h2⟩ := id hx
  obtain ⟨qs, rfl, g2⟩ := id hy
  have l1 := h2.len
  have l2 := g2.len
  have p1 := part_at hc [.int .i64 x.kind, .int .i64 x.n] ps [] (k := 2) (n := 2) rfl l1 (by decide) (by simp)
  have p2 := part_at hc' [.int .i64 y.kind, .int .i64 y.n] qs [] (k := 2) (n := 2) rfl l2 (by decide) (by simp)
  have c0 : w.cell? ⟨b, o, none⟩ = some (.int .i64 x.kind) := hc 0 (by decide)
  have d0 : w.cell? ⟨b', o', none⟩ = some (.int .i64 y.kind) := hc' 0 (by decide)
  have c1 : w.cell? ⟨b, o + 1, none⟩ = some (.int .i64 x.n) := hc 1 (by decide)
  have d1 : w.cell? ⟨b', o' + 1, none⟩ = some (.int .i64 y.n) := hc' 1 (by decide)
  have HB : Hid (B = true ↔ x = y) := hB
  clear hB
  have q0 : (x.kind == y.kind) = true ↔ x.kind = y.kind := beq_iff_eq
  have q1 : (x.n == y.n) = true ↔ x.n = y.n := beq_iff_eq
  have q2 : Hid (∀ (B : Bool), (B = true ↔ x.place = y.place) → ∀ n, Calls Tryz.prog 144 #[.pointer (some ⟨b, o + 2, none⟩), .pointer (some ⟨b', o' + 2, none⟩)] (w.drewN n) fun ev w' => ev = .returned (.bool B) ∧ ∃ m, w' = (w.drewN n).drewN m) := by
    intro B hB n
    exact samePlace_any (w := w.drewN n) p1 p2 (h2.below (Below.drewN _ _ _)) (g2.below (Below.drewN _ _ _)) B hB
  clear hc hc'
  by_cases e0 : x.kind = y.kind
  rotate_left
  · have HF : Hid (B = false) := by
      show B = false
      cases hB : B
      · rfl
      · exact absurd (congrArg Opr.kind (HB.out.1 hB)) e0
    replace q0 := Bool.eq_false_iff.2 (fun h => e0 (q0.1 h))
    clear HB q1 q2 e0 hx hy c1 d1 h2 g2 l1 l2 p1 p2
    generalize x.kind = s0 at *
    generalize y.kind = t0 at *
    go_enter Tryz.func145, Tryz.ntmps145
    go_wp2_with fail
    go_quiet (fail)
    go_wp2_with fail
    go_ret
    exact ⟨by rw [HF.out]; rfl, _, rfl⟩
  by_cases e1 : x.n = y.n
  rotate_left
  · have HF : Hid (B = false) := by
      show B = false
      cases hB : B
      · rfl
      · exact absurd (congrArg Opr.n (HB.out.1 hB)) e1
    replace q0 := q0.2 e0
    replace q1 := Bool.eq_false_iff.2 (fun h => e1 (q1.1 h))
    clear HB q2 e0 e1 hx hy  h2 g2 l1 l2 p1 p2
    generalize x.kind = s0 at *
    generalize y.kind = t0 at *
    generalize x.n = s1 at *
    generalize y.n = t1 at *
    go_enter Tryz.func145, Tryz.ntmps145
    go_wp2_with fail
    go_quiet (fail)
    go_wp2_with fail
    go_ret
    exact ⟨by rw [HF.out]; rfl, _, rfl⟩
  by_cases e2 : x.place = y.place
  rotate_left
  · have HF : Hid (B = false) := by
      show B = false
      cases hB : B
      · rfl
      · exact absurd (congrArg Opr.place (HB.out.1 hB)) e2
    replace q0 := q0.2 e0
    replace q1 := q1.2 e1
    have r2 : Hid (∀ n, Calls Tryz.prog 144 #[.pointer (some ⟨b, o + 2, none⟩), .pointer (some ⟨b', o' + 2, none⟩)] (w.drewN n) fun ev w' => ev = .returned (.bool false) ∧ ∃ m, w' = (w.drewN n).drewN m) := q2.out false ⟨fun h => (by cases h), fun h => absurd h e2⟩
    clear HB q2 e0 e1 e2 hx hy  h2 g2 l1 l2 p1 p2
    generalize x.kind = s0 at *
    generalize y.kind = t0 at *
    generalize x.n = s1 at *
    generalize y.n = t1 at *
    go_enter Tryz.func145, Tryz.ntmps145
    go_wp2_with fail
    go_quiet (first | (go_at_call 144; exact Calls.quiet_of (r2.out _)))
    go_wp2_with fail
    go_ret
    exact ⟨by rw [HF.out]; rfl, _, rfl⟩
  have HF : Hid (B = true) := by
    refine HB.out.2 ?_
    clear q0 q1 q2 HB hx hy c0 d0 c1 d1 h2 g2 l1 l2 p1 p2
    cases x; cases y; simp only at e0 e1 e2; subst e0 e1 e2; rfl
  replace q0 := q0.2 e0
  replace q1 := q1.2 e1
  have r2 : Hid (∀ n, Calls Tryz.prog 144 #[.pointer (some ⟨b, o + 2, none⟩), .pointer (some ⟨b', o' + 2, none⟩)] (w.drewN n) fun ev w' => ev = .returned (.bool true) ∧ ∃ m, w' = (w.drewN n).drewN m) := q2.out true ⟨fun _ => e2, fun _ => rfl⟩
  clear HB q2 e0 e1 e2 hx hy  h2 g2 l1 l2 p1 p2
  generalize x.kind = s0 at *
  generalize y.kind = t0 at *
  generalize x.n = s1 at *
  generalize y.n = t1 at *
  go_enter Tryz.func145, Tryz.ntmps145
  go_wp2_with fail
  go_quiet (first | (go_at_call 144; exact Calls.quiet_of (r2.out _)))
  go_wp2_with fail
  go_ret
  exact ⟨by rw [HF.out]; rfl, _, rfl⟩

end Go.Proofs.YtlbhaaldndjigaaGreatDoor

namespace Go.Proofs.YtlbhaaldndjigaaGreatDoor
open Go.RowKit

theorem alloc_one (w : World) (a : Obj) : Below w.heap.size w (w.alloc a) := (Below.refl _ _).alloc (Nat.le_refl _) _
theorem size_alloc (w : World) (a : Obj) : (w.alloc a).heap.size = w.heap.size + 1 := by unfold World.alloc; simp only [Array.size_push]
theorem alloc_two (w : World) (a b : Obj) : Below w.heap.size w ((w.alloc a).alloc b) := (alloc_one w a).trans (below_le (alloc_one _ b) (by rw [size_alloc]; omega))

set_option maxHeartbeats 4000000 in
theorem sameTypes2_any {K : Ctx} {w : World} (hC : K.C ≤ w.heap.size) {x y : Ty} {cs cs' : List Value} (hx : IsTy K w cs x) (hy : IsTy K w cs' y) (B : Bool) (hB : B = true ↔ x = y) :
    Calls Tryz.prog 95 #[.agg cs.toArray, .agg cs'.toArray] w fun ev w' => ev = .returned (.bool B) ∧ Below w.heap.size w w' := by
  have hA := alloc_two w (.cells cs.toArray 38) (.cells cs'.toArray 38)
  have D : Hid (Calls Tryz.prog 113 #[.pointer (some ⟨w.heap.size, 0, none⟩), .pointer (some ⟨w.heap.size + 1, 0, none⟩)] ((w.alloc (.cells cs.toArray 38)).alloc (.cells cs'.toArray 38)) fun ev w' => ev = .returned (.bool B) ∧ Below w.heap.size w w') := by
    refine (sameType_any (((Row.new w 38 cs).alloc _).cells 4) (by have := (Row.new (w.alloc (.cells cs.toArray 38)) 38 cs').cells 4; rw [size_alloc] at this; exact this) (hx.below (below_le hA hC)) (hy.below (below_le hA hC)) B hB).mono ?_
    rintro _ _ ⟨rfl, m, rfl⟩
    exact ⟨rfl, hA.trans (Below.drewN _ _ _)⟩
  clear hx hy hA hB
  go_enter Tryz.func95, Tryz.ntmps95
  go_wp2_with (go_at_call 113; refine D.out.mono ?_; rintro ev w2 ⟨rfl, hb2⟩)
  go_ret
  exact ⟨rfl, hb2⟩

/-- A name, or two with two colons between. -/
def farB (s : Bs) : Bool := nameB (Lib.cut s [58, 58]).1 && (!(Lib.cut s [58, 58]).2.2 || nameB (Lib.cut s [58, 58]).2.1)
theorem cut_len (s : Bs) : (Lib.cut s [58, 58]).1.length ≤ s.length ∧ (Lib.cut s [58, 58]).2.1.length ≤ s.length := by
  unfold Lib.cut
  split
  · simp; omega
  · simp

set_option maxHeartbeats 4000000 in
theorem far_any (s : Bs) (hs : s.length ≤ 1048576) (w : World) (hm : ∃ m, w.cell? ⟨0, 0, none⟩ = some (.int .i64 m)) :
    Calls Tryz.prog 112 #[.string (str s)] w fun ev w' => ev = .returned (.bool (farB s)) ∧ ∃ m, w' = w.drewN m := by
  obtain ⟨m, hm⟩ := hm
  have e1 : (str s).data.toList = s := by simp [str]
  have e2 : (str [58, 58]).data.toList = [58, 58] := by simp [str]
  have D : Calls Tryz.prog 136 #[.string (str s), .string ⟨#[58, 58]⟩] w fun e w' => e = .returned (.tuple #[.string (str (Lib.cut s [58, 58]).1), .string (str (Lib.cut s [58, 58]).2.1), .bool (Lib.cut s [58, 58]).2.2]) ∧ ∃ n, w' = w.drewN n := by
    have D := Tryz.strings_Cut (str s) (str [58, 58]) m w (by rw [str_size]; omega) hm
    rw [e1, e2] at D
    exact D
  have hc := cut_len s
  have N1 : Hid (∀ y, Calls Tryz.prog 62 #[.string (str (Lib.cut s [58, 58]).1)] y fun ev w' => ev = .returned (.bool (nameB (Lib.cut s [58, 58]).1)) ∧ w' = y) := fun y => name_any _ (by omega) y
  have N2 : Hid (∀ y, Calls Tryz.prog 62 #[.string (str (Lib.cut s [58, 58]).2.1)] y fun ev w' => ev = .returned (.bool (nameB (Lib.cut s [58, 58]).2.1)) ∧ w' = y) := fun y => name_any _ (by omega) y
  unfold farB
  clear e1 e2 hc hm
  generalize hA : nameB (Lib.cut s [58, 58]).1 = A at *
  generalize hA2 : nameB (Lib.cut s [58, 58]).2.1 = A2 at *
  clear hA hA2
  generalize str (Lib.cut s [58, 58]).1 = S1 at *
  generalize str (Lib.cut s [58, 58]).2.1 = S2 at *
  generalize (Lib.cut s [58, 58]).2.2 = F at *
  generalize str s = S at *
  cases A <;> cases F <;> (go_enter Tryz.func112, Tryz.ntmps112; go_wp2_with (first | (go_at_call 136; refine D.mono ?_; rintro ev w2 ⟨rfl, n, rfl⟩) | (go_at_call_of 62 S1; refine (N1.out _).mono ?_; rintro ev w2 ⟨rfl, rfl⟩) | (go_at_call_of 62 S2; refine (N2.out _).mono ?_; rintro ev w2 ⟨rfl, rfl⟩)); go_ret; exact ⟨by simp, _, rfl⟩)
end Go.Proofs.YtlbhaaldndjigaaGreatDoor
