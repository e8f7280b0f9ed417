/-
  Types, places, operands, fields, lifetimes: are two the same? The program says it.
-/
import Derived.Test.YtmopffaocamieaaGreatJapSub4
namespace Go.Proofs.YtmopffaocamieaaGreat
open Go.RowKit

set_option maxHeartbeats 8000000 in
set_option maxRecDepth 20000 in
theorem sameType_of {n : Nat} (ih : ∀ {K : Ctx} (w : World) {va vb : Value} {la lb : List Ty}, Ar 4 72 (TyAt n K w) K w va la → Ar 4 72 (TyAt n K w) K w vb lb → ∀ (B : Bool), (B = true ↔ la = lb) → Calls Tryz.prog 205 #[va, vb, .func (.func 188) #[] #[]] w fun ev w' => ev = .returned (.bool B) ∧ ∃ m, w' = w.drewN m)
    {K : Ctx} {w : World} {x y : Ty} {b o b' o' : Nat} {cs cs' : List Value} (hc : ∀ j, j < 4 → w.cell? ⟨b, o + j, none⟩ = cs[j]?) (hc' : ∀ j, j < 4 → w.cell? ⟨b', o' + j, none⟩ = cs'[j]?)
    (hx : TyAt (n + 1) K w cs x) (hy : TyAt (n + 1) K w cs' y) (B : Bool) (hB : B = true ↔ x = y) :
    Calls Tryz.prog 188 #[.pointer (some ⟨b, o, none⟩), .pointer (some ⟨b', o', none⟩)] w fun ev w' => ev = .returned (.bool B) ∧ ∃ m, w' = w.drewN m := by
  obtain ⟨v2, v3, rfl, hl1, h2, h3⟩ := id hx
  obtain ⟨u2, u3, rfl, hl2, g2, g3⟩ := id hy
  have c0 : w.cell? ⟨b, o, none⟩ = some (.int .i64 x.kind) := hc 0 (by decide)
  have d0 : w.cell? ⟨b', o', none⟩ = some (.int .i64 y.kind) := hc' 0 (by decide)
  have c1 : w.cell? ⟨b, o + 1, none⟩ = some (.string (str x.name)) := hc 1 (by decide)
  have d1 : w.cell? ⟨b', o' + 1, none⟩ = some (.string (str y.name)) := hc' 1 (by decide)
  have c2 : w.cell? ⟨b, o + 2, none⟩ = some v2 := hc 2 (by decide)
  have d2 : w.cell? ⟨b', o' + 2, none⟩ = some u2 := hc' 2 (by decide)
  have c3 : w.cell? ⟨b, o + 3, none⟩ = some v3 := hc 3 (by decide)
  have d3 : w.cell? ⟨b', o' + 3, none⟩ = some u3 := hc' 3 (by decide)
  have HB : Hid (B = true ↔ x = y) := hB
  clear hB
  have q0 : (x.kind == y.kind) = true ↔ x.kind = y.kind := beq_iff_eq
  have q1 : ((str x.name).toList == (str y.name).toList) = true ↔ x.name = y.name := by rw [str_beq]; exact decide_eq_true_iff
  have q2 : Hid (∀ (B : Bool), (B = true ↔ x.lives = y.lives) → ∀ n, Calls Tryz.prog 204 #[v2, u2] (w.drewN n) fun ev w' => ev = .returned (.bool B) ∧ ∃ m, w' = (w.drewN n).drewN m) := by
    intro B hB n
    exact equal_any (h2.below (Below.drewN _ _ _)) (g2.below (Below.drewN _ _ _)) B hB
  have q3 : Hid (∀ (B : Bool), (B = true ↔ x.elem = y.elem) → ∀ n, Calls Tryz.prog 205 #[v3, u3, .func (.func 188) #[] #[]] (w.drewN n) fun ev w' => ev = .returned (.bool B) ∧ ∃ m, w' = (w.drewN n).drewN m) := by
    intro B hB n
    exact ih (w.drewN n) (h3.mono (Below.drewN _ _ _) fun _ _ _ h => h.below (Below.drewN _ _ _)) (g3.mono (Below.drewN _ _ _) fun _ _ _ h => h.below (Below.drewN _ _ _)) B hB
  clear hc hc'
  by_cases e0 : x.kind = y.kind
  rotate_left
  · have HF : Hid (B = false) := by
      show B = false
      cases hB : B
      · rfl
      · exact absurd (congrArg Ty.kind (HB.out.1 hB)) e0
    replace q0 := Bool.eq_false_iff.2 (fun h => e0 (q0.1 h))
    clear HB q1 q2 q3 e0 hx hy c1 d1 c2 d2 c3 d3 hl1 hl2 h2 h3 g2 g3 ih
    generalize x.kind = s0 at *
    generalize y.kind = t0 at *
    go_enter Tryz.func188, Tryz.ntmps188
    go_wp2_with fail
    go_quiet (fail)
    go_wp2_with fail
    go_ret
    exact ⟨by rw [HF.out]; rfl, _, rfl⟩
  by_cases e1 : x.name = y.name
  rotate_left
  · have HF : Hid (B = false) := by
      show B = false
      cases hB : B
      · rfl
      · exact absurd (congrArg Ty.name (HB.out.1 hB)) e1
    replace q0 := q0.2 e0
    replace q1 := Bool.eq_false_iff.2 (fun h => e1 (q1.1 h))
    clear HB q2 q3 e0 e1 hx hy c2 d2 c3 d3 hl1 hl2 h2 h3 g2 g3 ih
    generalize x.kind = s0 at *
    generalize y.kind = t0 at *
    generalize str x.name = s1 at *
    generalize str y.name = t1 at *
    go_enter Tryz.func188, Tryz.ntmps188
    go_wp2_with fail
    go_quiet (fail)
    go_wp2_with fail
    go_ret
    exact ⟨by rw [HF.out]; rfl, _, rfl⟩
  by_cases e2 : x.lives = y.lives
  rotate_left
  · have HF : Hid (B = false) := by
      show B = false
      cases hB : B
      · rfl
      · exact absurd (congrArg Ty.lives (HB.out.1 hB)) e2
    replace q0 := q0.2 e0
    replace q1 := q1.2 e1
    have r2 : Hid (∀ n, Calls Tryz.prog 204 #[v2, u2] (w.drewN n) fun ev w' => ev = .returned (.bool false) ∧ ∃ m, w' = (w.drewN n).drewN m) := q2.out false ⟨fun h => (by cases h), fun h => absurd h e2⟩
    clear HB q2 q3 e0 e1 e2 hx hy c3 d3 hl1 hl2 h2 h3 g2 g3 ih
    generalize x.kind = s0 at *
    generalize y.kind = t0 at *
    generalize str x.name = s1 at *
    generalize str y.name = t1 at *
    go_enter Tryz.func188, Tryz.ntmps188
    go_wp2_with fail
    go_quiet (first | (go_at_call 204; exact Calls.quiet_of (r2.out _)))
    go_wp2_with fail
    go_ret
    exact ⟨by rw [HF.out]; rfl, _, rfl⟩
  by_cases e3 : x.elem = y.elem
  rotate_left
  · have HF : Hid (B = false) := by
      show B = false
      cases hB : B
      · rfl
      · exact absurd (congrArg Ty.elem (HB.out.1 hB)) e3
    replace q0 := q0.2 e0
    replace q1 := q1.2 e1
    have r2 : Hid (∀ n, Calls Tryz.prog 204 #[v2, u2] (w.drewN n) fun ev w' => ev = .returned (.bool true) ∧ ∃ m, w' = (w.drewN n).drewN m) := q2.out true ⟨fun _ => e2, fun _ => rfl⟩
    have r3 : Hid (∀ n, Calls Tryz.prog 205 #[v3, u3, .func (.func 188) #[] #[]] (w.drewN n) fun ev w' => ev = .returned (.bool false) ∧ ∃ m, w' = (w.drewN n).drewN m) := q3.out false ⟨fun h => (by cases h), fun h => absurd h e3⟩
    clear HB q2 q3 e0 e1 e2 e3 hx hy  hl1 hl2 h2 h3 g2 g3 ih
    generalize x.kind = s0 at *
    generalize y.kind = t0 at *
    generalize str x.name = s1 at *
    generalize str y.name = t1 at *
    go_enter Tryz.func188, Tryz.ntmps188
    go_wp2_with fail
    go_quiet (first | (go_at_call 204; exact Calls.quiet_of (r2.out _)) | (go_at_call 205; exact Calls.quiet_of (r3.out _)))
    go_wp2_with fail
    go_ret
    exact ⟨by rw [HF.out]; rfl, _, rfl⟩
  have HF : Hid (B = true) := by
    refine HB.out.2 ?_
    clear q0 q1 q2 q3 HB hx hy c0 d0 c1 d1 c2 d2 c3 d3 hl1 hl2 h2 h3 g2 g3 ih
    cases x; cases y; simp only at e0 e1 e2 e3; subst e0 e1 e2 e3; rfl
  replace q0 := q0.2 e0
  replace q1 := q1.2 e1
  have r2 : Hid (∀ n, Calls Tryz.prog 204 #[v2, u2] (w.drewN n) fun ev w' => ev = .returned (.bool true) ∧ ∃ m, w' = (w.drewN n).drewN m) := q2.out true ⟨fun _ => e2, fun _ => rfl⟩
  have r3 : Hid (∀ n, Calls Tryz.prog 205 #[v3, u3, .func (.func 188) #[] #[]] (w.drewN n) fun ev w' => ev = .returned (.bool true) ∧ ∃ m, w' = (w.drewN n).drewN m) := q3.out true ⟨fun _ => e3, fun _ => rfl⟩
  clear HB q2 q3 e0 e1 e2 e3 hx hy  hl1 hl2 h2 h3 g2 g3 ih
  generalize x.kind = s0 at *
  generalize y.kind = t0 at *
  generalize str x.name = s1 at *
  generalize str y.name = t1 at *
  go_enter Tryz.func188, Tryz.ntmps188
  go_wp2_with fail
  go_quiet (first | (go_at_call 204; exact Calls.quiet_of (r2.out _)) | (go_at_call 205; exact Calls.quiet_of (r3.out _)))
  go_wp2_with fail
  go_ret
  exact ⟨by rw [HF.out]; rfl, _, rfl⟩

theorem sameType_at : ∀ (n : Nat) {K : Ctx} {w : World} {x y : Ty} {b o b' o' : Nat} {cs cs' : List Value}, (∀ j, j < 4 → w.cell? ⟨b, o + j, none⟩ = cs[j]?) → (∀ j, j < 4 → w.cell? ⟨b', o' + j, none⟩ = cs'[j]?) →
    TyAt n K w cs x → TyAt n K w cs' y → ∀ (B : Bool), (B = true ↔ x = y) →
    Calls Tryz.prog 188 #[.pointer (some ⟨b, o, none⟩), .pointer (some ⟨b', o', none⟩)] w fun ev w' => ev = .returned (.bool B) ∧ ∃ m, w' = w.drewN m
  | 0, _, _, _, _, _, _, _, _, _, _, _, _, hx, _, _, _ => hx.elim
  | n + 1, _, _, _, _, _, _, _, _, _, _, hc, hc', hx, hy, B, hB => sameType_of (fun w _ _ _ _ ha hb B hB => sameTypes_of (fun _ _ _ _ _ _ _ _ m B hc hc' hx hy hB =>
      sameType_at n (w := w.drewN m) hc hc' (hx.below (Below.drewN _ _ _)) (hy.below (Below.drewN _ _ _)) B hB) ha hb B hB) hc hc' hx hy B hB
theorem TyAt.more {K : Ctx} {w : World} : ∀ {n : Nat} {cs : List Value} {t : Ty}, TyAt n K w cs t → TyAt (n + 1) K w cs t
  | 0, _, _, h => h.elim
  | n + 1, _, _, h => by
    obtain ⟨v2, v3, e, h1, h2, h3⟩ := h
    exact ⟨v2, v3, e, h1, h2, h3.mono (Below.refl _ _) fun _ _ _ h => TyAt.more h⟩
theorem TyAt.upto {K : Ctx} {w : World} {n m : Nat} {cs : List Value} {t : Ty} (h : TyAt n K w cs t) (hm : n ≤ m) : TyAt m K w cs t := by
  induction hm with
  | refl => exact h
  | step _ ih => exact ih.more
theorem sameType_any {K : Ctx} {w : World} {x y : Ty} {b o b' o' : Nat} {cs cs' : List Value} (hc : ∀ j, j < 4 → w.cell? ⟨b, o + j, none⟩ = cs[j]?) (hc' : ∀ j, j < 4 → w.cell? ⟨b', o' + j, none⟩ = cs'[j]?)
    (hx : IsTy K w cs x) (hy : IsTy K w cs' y) (B : Bool) (hB : B = true ↔ x = y) :
    Calls Tryz.prog 188 #[.pointer (some ⟨b, o, none⟩), .pointer (some ⟨b', o', none⟩)] w fun ev w' => ev = .returned (.bool B) ∧ ∃ m, w' = w.drewN m := by
  obtain ⟨n, hx⟩ := hx
  obtain ⟨m, hy⟩ := hy
  exact sameType_at (max n m) hc hc' (hx.upto (by omega)) (hy.upto (by omega)) B hB

set_option maxHeartbeats 8000000 in
set_option maxRecDepth 20000 in
theorem samePlace_any  
    {K : Ctx} {w : World} {x y : Pl} {b o b' o' : Nat} {cs cs' : List Value} (hc : ∀ j, j < 2 → w.cell? ⟨b, o + j, none⟩ = cs[j]?) (hc' : ∀ j, j < 2 → w.cell? ⟨b', o' + j, none⟩ = cs'[j]?)
    (hx : PlAt K w cs x) (hy : PlAt K w cs' y) (B : Bool) (hB : B = true ↔ x = y) :
    Calls Tryz.prog 211 #[.pointer (some ⟨b, o, none⟩), .pointer (some ⟨b', o', none⟩)] w fun ev w' => ev = .returned (.bool B) ∧ ∃ m, w' = w.drewN m := by
  obtain ⟨v1, rfl, hl1, h2⟩ := id hx
  obtain ⟨u1, rfl, hl2, g2⟩ := id hy
  have c0 : w.cell? ⟨b, o, none⟩ = some (.string (str x.name)) := hc 0 (by decide)
  have d0 : w.cell? ⟨b', o', none⟩ = some (.string (str y.name)) := hc' 0 (by decide)
  have c1 : w.cell? ⟨b, o + 1, none⟩ = some v1 := hc 1 (by decide)
  have d1 : w.cell? ⟨b', o' + 1, none⟩ = some u1 := hc' 1 (by decide)
  have HB : Hid (B = true ↔ x = y) := hB
  clear hB
  have q0 : ((str x.name).toList == (str y.name).toList) = true ↔ x.name = y.name := by rw [str_beq]; exact decide_eq_true_iff
  have q1 : Hid (∀ (B : Bool), (B = true ↔ x.path = y.path) → ∀ n, Calls Tryz.prog 204 #[v1, u1] (w.drewN n) fun ev w' => ev = .returned (.bool B) ∧ ∃ m, w' = (w.drewN n).drewN m) := by
    intro B hB n
    exact equal_any (h2.below (Below.drewN _ _ _)) (g2.below (Below.drewN _ _ _)) B hB
  clear hc hc'
  by_cases e0 : x.name = y.name
  rotate_left
  · have HF : Hid (B = false) := by
      show B = false
      cases hB : B
      · rfl
      · exact absurd (congrArg Pl.name (HB.out.1 hB)) e0
    replace q0 := Bool.eq_false_iff.2 (fun h => e0 (q0.1 h))
    clear HB q1 e0 hx hy c1 d1 hl1 hl2 h2 g2
    generalize str x.name = s0 at *
    generalize str y.name = t0 at *
    go_enter Tryz.func211, Tryz.ntmps211
    go_wp2_with fail
    go_quiet (fail)
    go_wp2_with fail
    go_ret
    exact ⟨by rw [HF.out]; rfl, _, rfl⟩
  by_cases e1 : x.path = y.path
  rotate_left
  · have HF : Hid (B = false) := by
      show B = false
      cases hB : B
      · rfl
      · exact absurd (congrArg Pl.path (HB.out.1 hB)) e1
    replace q0 := q0.2 e0
    have r1 : Hid (∀ n, Calls Tryz.prog 204 #[v1, u1] (w.drewN n) fun ev w' => ev = .returned (.bool false) ∧ ∃ m, w' = (w.drewN n).drewN m) := q1.out false ⟨fun h => (by cases h), fun h => absurd h e1⟩
    clear HB q1 e0 e1 hx hy  hl1 hl2 h2 g2
    generalize str x.name = s0 at *
    generalize str y.name = t0 at *
    go_enter Tryz.func211, Tryz.ntmps211
    go_wp2_with fail
    go_quiet (first | (go_at_call 204; exact Calls.quiet_of (r1.out _)))
    go_wp2_with fail
    go_ret
    exact ⟨by rw [HF.out]; rfl, _, rfl⟩
  have HF : Hid (B = true) := by
    refine HB.out.2 ?_
    clear q0 q1 HB hx hy c0 d0 c1 d1 hl1 hl2 h2 g2
    cases x; cases y; simp only at e0 e1; subst e0 e1; rfl
  replace q0 := q0.2 e0
  have r1 : Hid (∀ n, Calls Tryz.prog 204 #[v1, u1] (w.drewN n) fun ev w' => ev = .returned (.bool true) ∧ ∃ m, w' = (w.drewN n).drewN m) := q1.out true ⟨fun _ => e1, fun _ => rfl⟩
  clear HB q1 e0 e1 hx hy  hl1 hl2 h2 g2
  generalize str x.name = s0 at *
  generalize str y.name = t0 at *
  go_enter Tryz.func211, Tryz.ntmps211
  go_wp2_with fail
  go_quiet (first | (go_at_call 204; exact Calls.quiet_of (r1.out _)))
  go_wp2_with fail
  go_ret
  exact ⟨by rw [HF.out]; rfl, _, rfl⟩

set_option maxHeartbeats 8000000 in
set_option maxRecDepth 20000 in
theorem sameOper_any  
    {K : Ctx} {w : World} {x y : Opr} {b o b' o' : Nat} {cs cs' : List Value} (hc : ∀ j, j < 4 → w.cell? ⟨b, o + j, none⟩ = cs[j]?) (hc' : ∀ j, j < 4 → w.cell? ⟨b', o' + j, none⟩ = cs'[j]?)
    (hx : OprAt K w cs x) (hy : OprAt K w cs' y) (B : Bool) (hB : B = true ↔ x = y) :
    Calls Tryz.prog 212 #[.pointer (some ⟨b, o, none⟩), .pointer (some ⟨b', o', none⟩)] w fun ev w' => ev = .returned (.bool B) ∧ ∃ m, w' = w.drewN m := by
  obtain ⟨ps, rfl, h2⟩ := id hx
  obtain ⟨qs, rfl, g2⟩ := id hy
  have l1 := h2.len
  have l2 := g2.len
  have p1 := part_at hc [.int .i64 x.kind, .int .i64 x.n] ps [] (k := 2) (n := 2) rfl l1 (by decide) (by simp)
  have p2 := part_at hc' [.int .i64 y.kind, .int .i64 y.n] qs [] (k := 2) (n := 2) rfl l2 (by decide) (by simp)
  have c0 : w.cell? ⟨b, o, none⟩ = some (.int .i64 x.kind) := hc 0 (by decide)
  have d0 : w.cell? ⟨b', o', none⟩ = some (.int .i64 y.kind) := hc' 0 (by decide)
  have c1 : w.cell? ⟨b, o + 1, none⟩ = some (.int .i64 x.n) := hc 1 (by decide)
  have d1 : w.cell? ⟨b', o' + 1, none⟩ = some (.int .i64 y.n) := hc' 1 (by decide)
  have HB : Hid (B = true ↔ x = y) := hB
  clear hB
  have q0 : (x.kind == y.kind) = true ↔ x.kind = y.kind := beq_iff_eq
  have q1 : (x.n == y.n) = true ↔ x.n = y.n := beq_iff_eq
  have q2 : Hid (∀ (B : Bool), (B = true ↔ x.place = y.place) → ∀ n, Calls Tryz.prog 211 #[.pointer (some ⟨b, o + 2, none⟩), .pointer (some ⟨b', o' + 2, none⟩)] (w.drewN n) fun ev w' => ev = .returned (.bool B) ∧ ∃ m, w' = (w.drewN n).drewN m) := by
    intro B hB n
    exact samePlace_any (w := w.drewN n) p1 p2 (h2.below (Below.drewN _ _ _)) (g2.below (Below.drewN _ _ _)) B hB
  clear hc hc'
  by_cases e0 : x.kind = y.kind
  rotate_left
  · have HF : Hid (B = false) := by
      show B = false
      cases hB : B
      · rfl
      · exact absurd (congrArg Opr.kind (HB.out.1 hB)) e0
    replace q0 := Bool.eq_false_iff.2 (fun h => e0 (q0.1 h))
    clear HB q1 q2 e0 hx hy c1 d1 h2 g2 l1 l2 p1 p2
    generalize x.kind = s0 at *
    generalize y.kind = t0 at *
    go_enter Tryz.func212, Tryz.ntmps212
    go_wp2_with fail
    go_quiet (fail)
    go_wp2_with fail
    go_ret
    exact ⟨by rw [HF.out]; rfl, _, rfl⟩
  by_cases e1 : x.n = y.n
  rotate_left
  · have HF : Hid (B = false) := by
      show B = false
      cases hB : B
      · rfl
      · exact absurd (congrArg Opr.n (HB.out.1 hB)) e1
    replace q0 := q0.2 e0
    replace q1 := Bool.eq_false_iff.2 (fun h => e1 (q1.1 h))
    clear HB q2 e0 e1 hx hy  h2 g2 l1 l2 p1 p2
    generalize x.kind = s0 at *
    generalize y.kind = t0 at *
    generalize x.n = s1 at *
    generalize y.n = t1 at *
    go_enter Tryz.func212, Tryz.ntmps212
    go_wp2_with fail
    go_quiet (fail)
    go_wp2_with fail
    go_ret
    exact ⟨by rw [HF.out]; rfl, _, rfl⟩
  by_cases e2 : x.place = y.place
  rotate_left
  · have HF : Hid (B = false) := by
      show B = false
      cases hB : B
      · rfl
      · exact absurd (congrArg Opr.place (HB.out.1 hB)) e2
    replace q0 := q0.2 e0
    replace q1 := q1.2 e1
    have r2 : Hid (∀ n, Calls Tryz.prog 211 #[.pointer (some ⟨b, o + 2, none⟩), .pointer (some ⟨b', o' + 2, none⟩)] (w.drewN n) fun ev w' => ev = .returned (.bool false) ∧ ∃ m, w' = (w.drewN n).drewN m) := q2.out false ⟨fun h => (by cases h), fun h => absurd h e2⟩
    clear HB q2 e0 e1 e2 hx hy  h2 g2 l1 l2 p1 p2
    generalize x.kind = s0 at *
    generalize y.kind = t0 at *
    generalize x.n = s1 at *
    generalize y.n = t1 at *
    go_enter Tryz.func212, Tryz.ntmps212
    go_wp2_with fail
    go_quiet (first | (go_at_call 211; exact Calls.quiet_of (r2.out _)))
    go_wp2_with fail
    go_ret
    exact ⟨by rw [HF.out]; rfl, _, rfl⟩
  have HF : Hid (B = true) := by
    refine HB.out.2 ?_
    clear q0 q1 q2 HB hx hy c0 d0 c1 d1 h2 g2 l1 l2 p1 p2
    cases x; cases y; simp only at e0 e1 e2; subst e0 e1 e2; rfl
  replace q0 := q0.2 e0
  replace q1 := q1.2 e1
  have r2 : Hid (∀ n, Calls Tryz.prog 211 #[.pointer (some ⟨b, o + 2, none⟩), .pointer (some ⟨b', o' + 2, none⟩)] (w.drewN n) fun ev w' => ev = .returned (.bool true) ∧ ∃ m, w' = (w.drewN n).drewN m) := q2.out true ⟨fun _ => e2, fun _ => rfl⟩
  clear HB q2 e0 e1 e2 hx hy  h2 g2 l1 l2 p1 p2
  generalize x.kind = s0 at *
  generalize y.kind = t0 at *
  generalize x.n = s1 at *
  generalize y.n = t1 at *
  go_enter Tryz.func212, Tryz.ntmps212
  go_wp2_with fail
  go_quiet (first | (go_at_call 211; exact Calls.quiet_of (r2.out _)))
  go_wp2_with fail
  go_ret
  exact ⟨by rw [HF.out]; rfl, _, rfl⟩

end Go.Proofs.YtmopffaocamieaaGreat
