/-
  Values: are two the same? The document says it.
-/
import Derived.Test.YtmopffaocamieaaGreatJapStl2
import Derived.Deep.RegionHeld3
namespace Go.Proofs.YtmopffaocamieaaGreat
open Go.RowKit

set_option maxHeartbeats 8000000 in
set_option maxRecDepth 20000 in
theorem xvalue_any  {K : Ctx} {w : World} (hC : K.C ≤ w.heap.size) {x y : Va} {cs cs' : List Value} (hx : VaAt K w cs x) (hy : VaAt K w cs' y) (B : Bool) (hB : B = true ↔ x = y) :
    Calls Tryz.prog 160 #[.agg cs.toArray, .agg cs'.toArray] w fun ev w' => ev = .returned (.bool B) ∧ Below w.heap.size w w' := by
  obtain ⟨xa, xb, xp, vn, va, rfl, ka, kb, kp, hl1, h2, hsx⟩ := hx
  obtain ⟨ya, yb, yp, un, ua, rfl, ga, gb, gp, hl2, g2, hsy⟩ := hy
  obtain ⟨_, rfl, ka2⟩ := id ka
  obtain ⟨va1, rfl, _, ka3⟩ := ka2
  obtain ⟨_, rfl, kb2⟩ := id kb
  obtain ⟨vb1, rfl, _, kb3⟩ := kb2
  obtain ⟨vp1, rfl, _, kp3⟩ := id kp
  obtain ⟨_, rfl, ga2⟩ := id ga
  obtain ⟨ua1, rfl, _, ga3⟩ := ga2
  obtain ⟨_, rfl, gb2⟩ := id gb
  obtain ⟨ub1, rfl, _, gb3⟩ := gb2
  obtain ⟨up1, rfl, _, gp3⟩ := id gp
  obtain ⟨a1, c1, e1'⟩ := ka3.form
  obtain ⟨a2, c2, e2'⟩ := kb3.form
  obtain ⟨a3, c3, e3'⟩ := kp3.form
  obtain ⟨a4, c4, e4'⟩ := ga3.form
  obtain ⟨a5, c5, e5'⟩ := gb3.form
  obtain ⟨a6, c6, e6'⟩ := gp3.form
  obtain ⟨a7, c7, e7'⟩ := h2.form
  obtain ⟨a8, c8, e8'⟩ := g2.form
  obtain ⟨a9, c9, e9'⟩ := hsx.form
  obtain ⟨a10, c10, e10'⟩ := hsy.form
  obtain ⟨w2, hw2⟩ : ∃ w2, w2 = ((w.alloc (.cells #[.int .i64 x.kind, .int .i64 x.a.kind, .int .i64 x.a.n, .string (str x.a.place.name), va1, .int .i64 x.b.kind, .int .i64 x.b.n, .string (str x.b.place.name), vb1, .int .i64 x.op, .string (str x.place.name), vp1, .string (str x.name), vn, va] 112)).alloc (.cells #[.int .i64 y.kind, .int .i64 y.a.kind, .int .i64 y.a.n, .string (str y.a.place.name), ua1, .int .i64 y.b.kind, .int .i64 y.b.n, .string (str y.b.place.name), ub1, .int .i64 y.op, .string (str y.place.name), up1, .string (str y.name), un, ua] 112)) := ⟨_, rfl⟩
  have hA : Below w.heap.size w w2 := by rw [hw2]; exact alloc_two w _ _
  have hsz : w2.heap.size = w.heap.size + 2 := by rw [hw2, size_alloc, size_alloc]
  have R1 : Row w2 w.heap.size 112 [.int .i64 x.kind, .int .i64 x.a.kind, .int .i64 x.a.n, .string (str x.a.place.name), va1, .int .i64 x.b.kind, .int .i64 x.b.n, .string (str x.b.place.name), vb1, .int .i64 x.op, .string (str x.place.name), vp1, .string (str x.name), vn, va] := by rw [hw2]; exact (Row.new w 112 [.int .i64 x.kind, .int .i64 x.a.kind, .int .i64 x.a.n, .string (str x.a.place.name), va1, .int .i64 x.b.kind, .int .i64 x.b.n, .string (str x.b.place.name), vb1, .int .i64 x.op, .string (str x.place.name), vp1, .string (str x.name), vn, va]).alloc _
  have R2 : Row w2 (w.heap.size + 1) 112 [.int .i64 y.kind, .int .i64 y.a.kind, .int .i64 y.a.n, .string (str y.a.place.name), ua1, .int .i64 y.b.kind, .int .i64 y.b.n, .string (str y.b.place.name), ub1, .int .i64 y.op, .string (str y.place.name), up1, .string (str y.name), un, ua] := by
    have := Row.new (w.alloc (.cells #[.int .i64 x.kind, .int .i64 x.a.kind, .int .i64 x.a.n, .string (str x.a.place.name), va1, .int .i64 x.b.kind, .int .i64 x.b.n, .string (str x.b.place.name), vb1, .int .i64 x.op, .string (str x.place.name), vp1, .string (str x.name), vn, va] 112)) 112 [.int .i64 y.kind, .int .i64 y.a.kind, .int .i64 y.a.n, .string (str y.a.place.name), ua1, .int .i64 y.b.kind, .int .i64 y.b.n, .string (str y.b.place.name), ub1, .int .i64 y.op, .string (str y.place.name), up1, .string (str y.name), un, ua]
    rw [size_alloc] at this; rw [hw2]; exact this
  have HB0 : Hid (Below (w.heap.size + 2) w2 ((w.alloc (.cells #[.int .i64 x.kind, .int .i64 x.a.kind, .int .i64 x.a.n, .string (str x.a.place.name), va1, .int .i64 x.b.kind, .int .i64 x.b.n, .string (str x.b.place.name), vb1, .int .i64 x.op, .string (str x.place.name), vp1, .string (str x.name), vn, va] 112)).alloc (.cells #[.int .i64 y.kind, .int .i64 y.a.kind, .int .i64 y.a.n, .string (str y.a.place.name), ua1, .int .i64 y.b.kind, .int .i64 y.b.n, .string (str y.b.place.name), ub1, .int .i64 y.op, .string (str y.place.name), up1, .string (str y.name), un, ua] 112))) := by show Below _ _ _; rw [← hw2]; exact Below.refl _ _
  clear hw2
  have HS : Hid (∀ W, Below (w.heap.size + 2) w2 W → W.cell? ⟨w.heap.size, 0, none⟩ = some (.int .i64 x.kind) ∧ W.cell? ⟨w.heap.size, 1, none⟩ = some (.int .i64 x.a.kind) ∧ W.cell? ⟨w.heap.size, 2, none⟩ = some (.int .i64 x.a.n) ∧ W.cell? ⟨w.heap.size, 3, none⟩ = some (.string (str x.a.place.name)) ∧ W.cell? ⟨w.heap.size, 4, none⟩ = some (va1) ∧ W.cell? ⟨w.heap.size, 5, none⟩ = some (.int .i64 x.b.kind) ∧ W.cell? ⟨w.heap.size, 6, none⟩ = some (.int .i64 x.b.n) ∧ W.cell? ⟨w.heap.size, 7, none⟩ = some (.string (str x.b.place.name)) ∧ W.cell? ⟨w.heap.size, 8, none⟩ = some (vb1) ∧ W.cell? ⟨w.heap.size, 9, none⟩ = some (.int .i64 x.op) ∧ W.cell? ⟨w.heap.size, 10, none⟩ = some (.string (str x.place.name)) ∧ W.cell? ⟨w.heap.size, 11, none⟩ = some (vp1) ∧ W.cell? ⟨w.heap.size, 12, none⟩ = some (.string (str x.name)) ∧ W.cell? ⟨w.heap.size, 13, none⟩ = some (vn) ∧ W.cell? ⟨w.heap.size, 14, none⟩ = some (va) ∧ W.cell? ⟨w.heap.size + 1, 0, none⟩ = some (.int .i64 y.kind) ∧ W.cell? ⟨w.heap.size + 1, 1, none⟩ = some (.int .i64 y.a.kind) ∧ W.cell? ⟨w.heap.size + 1, 2, none⟩ = some (.int .i64 y.a.n) ∧ W.cell? ⟨w.heap.size + 1, 3, none⟩ = some (.string (str y.a.place.name)) ∧ W.cell? ⟨w.heap.size + 1, 4, none⟩ = some (ua1) ∧ W.cell? ⟨w.heap.size + 1, 5, none⟩ = some (.int .i64 y.b.kind) ∧ W.cell? ⟨w.heap.size + 1, 6, none⟩ = some (.int .i64 y.b.n) ∧ W.cell? ⟨w.heap.size + 1, 7, none⟩ = some (.string (str y.b.place.name)) ∧ W.cell? ⟨w.heap.size + 1, 8, none⟩ = some (ub1) ∧ W.cell? ⟨w.heap.size + 1, 9, none⟩ = some (.int .i64 y.op) ∧ W.cell? ⟨w.heap.size + 1, 10, none⟩ = some (.string (str y.place.name)) ∧ W.cell? ⟨w.heap.size + 1, 11, none⟩ = some (up1) ∧ W.cell? ⟨w.heap.size + 1, 12, none⟩ = some (.string (str y.name)) ∧ W.cell? ⟨w.heap.size + 1, 13, none⟩ = some (un) ∧ W.cell? ⟨w.heap.size + 1, 14, none⟩ = some (ua)) := by
    intro W hb
    have r1 := R1.below hb (by omega)
    have r2 := R2.below hb (by omega)
    exact ⟨r1.cell 0, r1.cell 1, r1.cell 2, r1.cell 3, r1.cell 4, r1.cell 5, r1.cell 6, r1.cell 7, r1.cell 8, r1.cell 9, r1.cell 10, r1.cell 11, r1.cell 12, r1.cell 13, r1.cell 14, r2.cell 0, r2.cell 1, r2.cell 2, r2.cell 3, r2.cell 4, r2.cell 5, r2.cell 6, r2.cell 7, r2.cell 8, r2.cell 9, r2.cell 10, r2.cell 11, r2.cell 12, r2.cell 13, r2.cell 14⟩
  have HW : Hid (∀ W, Below (w.heap.size + 2) w2 W → Below w.heap.size w W) := fun W hb => hA.trans (below_le hb (by omega))
  have HK : ∀ W, Below (w.heap.size + 2) w2 W → Below K.C w W := fun W hb => below_le (HW.out W hb) hC
  have HC : ∀ W, Below (w.heap.size + 2) w2 W → K.C ≤ W.heap.size ∧ w.heap.size + 2 ≤ W.heap.size := fun W hb => by have := hb.size; omega
  have HB : Hid (B = true ↔ x = y) := hB
  clear hB
  have q3 : Hid (∀ (B : Bool), (B = true ↔ x.a = y.a) → ∀ W, Below (w.heap.size + 2) w2 W → Calls Tryz.prog 161 #[.agg #[.int .i64 x.a.kind, .int .i64 x.a.n, .string (str x.a.place.name), va1], .agg #[.int .i64 y.a.kind, .int .i64 y.a.n, .string (str y.a.place.name), ua1]] W fun ev w' => ev = .returned (.bool B) ∧ Below (w.heap.size + 2) w2 w') := by
    intro B hB W hb
    refine (xoper_any (HC W hb).1 (ka.below (HK W hb)) (ga.below (HK W hb)) B hB).mono ?_
    rintro _ _ ⟨rfl, h⟩
    exact ⟨rfl, hb.trans (below_le h (HC W hb).2)⟩
  have q4 : Hid (∀ (B : Bool), (B = true ↔ x.b = y.b) → ∀ W, Below (w.heap.size + 2) w2 W → Calls Tryz.prog 161 #[.agg #[.int .i64 x.b.kind, .int .i64 x.b.n, .string (str x.b.place.name), vb1], .agg #[.int .i64 y.b.kind, .int .i64 y.b.n, .string (str y.b.place.name), ub1]] W fun ev w' => ev = .returned (.bool B) ∧ Below (w.heap.size + 2) w2 w') := by
    intro B hB W hb
    refine (xoper_any (HC W hb).1 (kb.below (HK W hb)) (gb.below (HK W hb)) B hB).mono ?_
    rintro _ _ ⟨rfl, h⟩
    exact ⟨rfl, hb.trans (below_le h (HC W hb).2)⟩
  have q5 : Hid (∀ (B : Bool), (B = true ↔ x.place = y.place) → ∀ W, Below (w.heap.size + 2) w2 W → Calls Tryz.prog 159 #[.agg #[.string (str x.place.name), vp1], .agg #[.string (str y.place.name), up1]] W fun ev w' => ev = .returned (.bool B) ∧ Below (w.heap.size + 2) w2 w') := by
    intro B hB W hb
    refine (xplace_any (HC W hb).1 (kp.below (HK W hb)) (gp.below (HK W hb)) B hB).mono ?_
    rintro _ _ ⟨rfl, h⟩
    exact ⟨rfl, hb.trans (below_le h (HC W hb).2)⟩
  have q6 : Hid (∀ (B : Bool), (B = true ↔ x.names = y.names) → ∀ W, Below (w.heap.size + 2) w2 W → Calls Tryz.prog 110 #[vn, un] W fun ev w' => ev = .returned (.bool B) ∧ Below (w.heap.size + 2) w2 w') := by
    intro B hB W hb
    refine (texts_any (h2.below (HK W hb)) (g2.below (HK W hb)) B hB).mono ?_
    rintro _ _ ⟨rfl, m, rfl⟩
    exact ⟨rfl, hb.trans (Below.drewN _ _ _)⟩
  by_cases e0 : x.kind = y.kind
  rotate_left
  · have HF : Hid (B = false) := bool_false HB.out (fun h => e0 (by rw [h]))
    have p0 : (x.kind != y.kind) = true := by simp [e0]
    clear q3 q4 q5 q6 e0 HB HK HC R1 R2 hA hsz hl1 hl2 h2 g2 ka kb kp ga gb gp ka3 kb3 kp3 ga3 gb3 gp3 hsx hsy 
    subst e1' e2' e3' e4' e5' e6' e7' e8' e9' e10'
    generalize x.kind = g0 at *
    generalize x.op = g1 at *
    generalize str x.name = g2 at *
    generalize x.a.kind = g3 at *
    generalize x.a.n = g4 at *
    generalize str x.a.place.name = g5 at *
    generalize x.b.kind = g6 at *
    generalize x.b.n = g7 at *
    generalize str x.b.place.name = g8 at *
    generalize str x.place.name = g9 at *
    generalize x.a.place.path.length = g10 at *
    generalize x.b.place.path.length = g11 at *
    generalize x.place.path.length = g12 at *
    generalize x.names.length = g13 at *
    generalize x.args.length = g14 at *
    generalize y.kind = g15 at *
    generalize y.op = g16 at *
    generalize str y.name = g17 at *
    generalize y.a.kind = g18 at *
    generalize y.a.n = g19 at *
    generalize str y.a.place.name = g20 at *
    generalize y.b.kind = g21 at *
    generalize y.b.n = g22 at *
    generalize str y.b.place.name = g23 at *
    generalize str y.place.name = g24 at *
    generalize y.a.place.path.length = g25 at *
    generalize y.b.place.path.length = g26 at *
    generalize y.place.path.length = g27 at *
    generalize y.names.length = g28 at *
    generalize y.args.length = g29 at *
    go_enter Tryz.func160, Tryz.ntmps160
    go_wp2_with fail
    go_ret
    exact ⟨by rw [HF.out]; rfl, HW.out _ (by first | assumption | exact HB0.out)⟩
  by_cases e1 : x.op = y.op
  rotate_left
  · have HF : Hid (B = false) := bool_false HB.out (fun h => e1 (by rw [h]))
    have p0 : (x.kind != y.kind) = false := by simp [e0]
    have p1 : (x.op != y.op) = true := by simp [e1]
    clear q3 q4 q5 q6 e0 e1 HB HK HC R1 R2 hA hsz hl1 hl2 h2 g2 ka kb kp ga gb gp ka3 kb3 kp3 ga3 gb3 gp3 hsx hsy 
    subst e1' e2' e3' e4' e5' e6' e7' e8' e9' e10'
    generalize x.kind = g0 at *
    generalize x.op = g1 at *
    generalize str x.name = g2 at *
    generalize x.a.kind = g3 at *
    generalize x.a.n = g4 at *
    generalize str x.a.place.name = g5 at *
    generalize x.b.kind = g6 at *
    generalize x.b.n = g7 at *
    generalize str x.b.place.name = g8 at *
    generalize str x.place.name = g9 at *
    generalize x.a.place.path.length = g10 at *
    generalize x.b.place.path.length = g11 at *
    generalize x.place.path.length = g12 at *
    generalize x.names.length = g13 at *
    generalize x.args.length = g14 at *
    generalize y.kind = g15 at *
    generalize y.op = g16 at *
    generalize str y.name = g17 at *
    generalize y.a.kind = g18 at *
    generalize y.a.n = g19 at *
    generalize str y.a.place.name = g20 at *
    generalize y.b.kind = g21 at *
    generalize y.b.n = g22 at *
    generalize str y.b.place.name = g23 at *
    generalize str y.place.name = g24 at *
    generalize y.a.place.path.length = g25 at *
    generalize y.b.place.path.length = g26 at *
    generalize y.place.path.length = g27 at *
    generalize y.names.length = g28 at *
    generalize y.args.length = g29 at *
    go_enter Tryz.func160, Tryz.ntmps160
    go_wp2_with fail
    go_ret
    exact ⟨by rw [HF.out]; rfl, HW.out _ (by first | assumption | exact HB0.out)⟩
  by_cases e2 : x.name = y.name
  rotate_left
  · have HF : Hid (B = false) := bool_false HB.out (fun h => e2 (by rw [h]))
    have p0 : (x.kind != y.kind) = false := by simp [e0]
    have p1 : (x.op != y.op) = false := by simp [e1]
    have p2' : ((str x.name).toList == (str y.name).toList) = false := by rw [str_beq]; simp [e2]
    have p2 : ((str x.name).toList != (str y.name).toList) = true := by rw [bne, str_beq]; simp [e2]
    clear q3 q4 q5 q6 e0 e1 e2 HB HK HC R1 R2 hA hsz hl1 hl2 h2 g2 ka kb kp ga gb gp ka3 kb3 kp3 ga3 gb3 gp3 hsx hsy 
    subst e1' e2' e3' e4' e5' e6' e7' e8' e9' e10'
    generalize x.kind = g0 at *
    generalize x.op = g1 at *
    generalize str x.name = g2 at *
    generalize x.a.kind = g3 at *
    generalize x.a.n = g4 at *
    generalize str x.a.place.name = g5 at *
    generalize x.b.kind = g6 at *
    generalize x.b.n = g7 at *
    generalize str x.b.place.name = g8 at *
    generalize str x.place.name = g9 at *
    generalize x.a.place.path.length = g10 at *
    generalize x.b.place.path.length = g11 at *
    generalize x.place.path.length = g12 at *
    generalize x.names.length = g13 at *
    generalize x.args.length = g14 at *
    generalize y.kind = g15 at *
    generalize y.op = g16 at *
    generalize str y.name = g17 at *
    generalize y.a.kind = g18 at *
    generalize y.a.n = g19 at *
    generalize str y.a.place.name = g20 at *
    generalize y.b.kind = g21 at *
    generalize y.b.n = g22 at *
    generalize str y.b.place.name = g23 at *
    generalize str y.place.name = g24 at *
    generalize y.a.place.path.length = g25 at *
    generalize y.b.place.path.length = g26 at *
    generalize y.place.path.length = g27 at *
    generalize y.names.length = g28 at *
    generalize y.args.length = g29 at *
    go_enter Tryz.func160, Tryz.ntmps160
    go_wp2_with fail
    go_ret
    exact ⟨by rw [HF.out]; rfl, HW.out _ (by first | assumption | exact HB0.out)⟩
  by_cases e3 : x.a = y.a
  rotate_left
  · have HF : Hid (B = false) := bool_false HB.out (fun h => e3 (by rw [h]))
    have p0 : (x.kind != y.kind) = false := by simp [e0]
    have p1 : (x.op != y.op) = false := by simp [e1]
    have p2' : ((str x.name).toList == (str y.name).toList) = true := by rw [str_beq]; simp [e2]
    have p2 : ((str x.name).toList != (str y.name).toList) = false := by rw [bne, str_beq]; simp [e2]
    have r3 : Hid (∀ W, Below (w.heap.size + 2) w2 W → Calls Tryz.prog 161 #[.agg #[.int .i64 x.a.kind, .int .i64 x.a.n, .string (str x.a.place.name), va1], .agg #[.int .i64 y.a.kind, .int .i64 y.a.n, .string (str y.a.place.name), ua1]] W fun ev w' => ev = .returned (.bool false) ∧ Below (w.heap.size + 2) w2 w') := q3.out false ⟨fun h => (by cases h), fun h => absurd h e3⟩
    clear q3 q4 q5 q6 e0 e1 e2 e3 HB HK HC R1 R2 hA hsz hl1 hl2 h2 g2 ka kb kp ga gb gp ka3 kb3 kp3 ga3 gb3 gp3 hsx hsy 
    subst e1' e2' e3' e4' e5' e6' e7' e8' e9' e10'
    generalize x.kind = g0 at *
    generalize x.op = g1 at *
    generalize str x.name = g2 at *
    generalize x.a.kind = g3 at *
    generalize x.a.n = g4 at *
    generalize str x.a.place.name = g5 at *
    generalize x.b.kind = g6 at *
    generalize x.b.n = g7 at *
    generalize str x.b.place.name = g8 at *
    generalize str x.place.name = g9 at *
    generalize x.a.place.path.length = g10 at *
    generalize x.b.place.path.length = g11 at *
    generalize x.place.path.length = g12 at *
    generalize x.names.length = g13 at *
    generalize x.args.length = g14 at *
    generalize y.kind = g15 at *
    generalize y.op = g16 at *
    generalize str y.name = g17 at *
    generalize y.a.kind = g18 at *
    generalize y.a.n = g19 at *
    generalize str y.a.place.name = g20 at *
    generalize y.b.kind = g21 at *
    generalize y.b.n = g22 at *
    generalize str y.b.place.name = g23 at *
    generalize str y.place.name = g24 at *
    generalize y.a.place.path.length = g25 at *
    generalize y.b.place.path.length = g26 at *
    generalize y.place.path.length = g27 at *
    generalize y.names.length = g28 at *
    generalize y.args.length = g29 at *
    go_enter Tryz.func160, Tryz.ntmps160
    go_wp2_with fail
    refine (r3.out _ HB0.out).mono ?_
    rintro _ W3 ⟨rfl, hb3⟩
    obtain ⟨a0, a1, a2, a3, a4, a5, a6, a7, a8, a9, a10, a11, a12, a13, a14, b0, b1, b2, b3, b4, b5, b6, b7, b8, b9, b10, b11, b12, b13, b14⟩ := HS.out W3 hb3
    go_wp2_with fail
    go_ret
    exact ⟨by rw [HF.out]; rfl, HW.out _ (by first | assumption | exact HB0.out)⟩
  by_cases e4 : x.b = y.b
  rotate_left
  · have HF : Hid (B = false) := bool_false HB.out (fun h => e4 (by rw [h]))
    have p0 : (x.kind != y.kind) = false := by simp [e0]
    have p1 : (x.op != y.op) = false := by simp [e1]
    have p2' : ((str x.name).toList == (str y.name).toList) = true := by rw [str_beq]; simp [e2]
    have p2 : ((str x.name).toList != (str y.name).toList) = false := by rw [bne, str_beq]; simp [e2]
    have r3 : Hid (∀ W, Below (w.heap.size + 2) w2 W → Calls Tryz.prog 161 #[.agg #[.int .i64 x.a.kind, .int .i64 x.a.n, .string (str x.a.place.name), va1], .agg #[.int .i64 y.a.kind, .int .i64 y.a.n, .string (str y.a.place.name), ua1]] W fun ev w' => ev = .returned (.bool true) ∧ Below (w.heap.size + 2) w2 w') := q3.out true ⟨fun _ => e3, fun _ => rfl⟩
    have r4 : Hid (∀ W, Below (w.heap.size + 2) w2 W → Calls Tryz.prog 161 #[.agg #[.int .i64 x.b.kind, .int .i64 x.b.n, .string (str x.b.place.name), vb1], .agg #[.int .i64 y.b.kind, .int .i64 y.b.n, .string (str y.b.place.name), ub1]] W fun ev w' => ev = .returned (.bool false) ∧ Below (w.heap.size + 2) w2 w') := q4.out false ⟨fun h => (by cases h), fun h => absurd h e4⟩
    clear q3 q4 q5 q6 e0 e1 e2 e3 e4 HB HK HC R1 R2 hA hsz hl1 hl2 h2 g2 ka kb kp ga gb gp ka3 kb3 kp3 ga3 gb3 gp3 hsx hsy 
    subst e1' e2' e3' e4' e5' e6' e7' e8' e9' e10'
    generalize x.kind = g0 at *
    generalize x.op = g1 at *
    generalize str x.name = g2 at *
    generalize x.a.kind = g3 at *
    generalize x.a.n = g4 at *
    generalize str x.a.place.name = g5 at *
    generalize x.b.kind = g6 at *
    generalize x.b.n = g7 at *
    generalize str x.b.place.name = g8 at *
    generalize str x.place.name = g9 at *
    generalize x.a.place.path.length = g10 at *
    generalize x.b.place.path.length = g11 at *
    generalize x.place.path.length = g12 at *
    generalize x.names.length = g13 at *
    generalize x.args.length = g14 at *
    generalize y.kind = g15 at *
    generalize y.op = g16 at *
    generalize str y.name = g17 at *
    generalize y.a.kind = g18 at *
    generalize y.a.n = g19 at *
    generalize str y.a.place.name = g20 at *
    generalize y.b.kind = g21 at *
    generalize y.b.n = g22 at *
    generalize str y.b.place.name = g23 at *
    generalize str y.place.name = g24 at *
    generalize y.a.place.path.length = g25 at *
    generalize y.b.place.path.length = g26 at *
    generalize y.place.path.length = g27 at *
    generalize y.names.length = g28 at *
    generalize y.args.length = g29 at *
    go_enter Tryz.func160, Tryz.ntmps160
    go_wp2_with fail
    refine (r3.out _ HB0.out).mono ?_
    rintro _ W3 ⟨rfl, hb3⟩
    obtain ⟨a0, a1, a2, a3, a4, a5, a6, a7, a8, a9, a10, a11, a12, a13, a14, b0, b1, b2, b3, b4, b5, b6, b7, b8, b9, b10, b11, b12, b13, b14⟩ := HS.out W3 hb3
    go_wp2_with fail
    refine (r4.out _ hb3).mono ?_
    rintro _ W4 ⟨rfl, hb4⟩
    clear a0 b0 a1 b1 a2 b2 a3 b3 a4 b4 a5 b5 a6 b6 a7 b7 a8 b8 a9 b9 a10 b10 a11 b11 a12 b12 a13 b13 a14 b14
    obtain ⟨a0, a1, a2, a3, a4, a5, a6, a7, a8, a9, a10, a11, a12, a13, a14, b0, b1, b2, b3, b4, b5, b6, b7, b8, b9, b10, b11, b12, b13, b14⟩ := HS.out W4 hb4
    go_wp2_with fail
    go_ret
    exact ⟨by rw [HF.out]; rfl, HW.out _ (by first | assumption | exact HB0.out)⟩
  by_cases e5 : x.place = y.place
  rotate_left
  · have HF : Hid (B = false) := bool_false HB.out (fun h => e5 (by rw [h]))
    have p0 : (x.kind != y.kind) = false := by simp [e0]
    have p1 : (x.op != y.op) = false := by simp [e1]
    have p2' : ((str x.name).toList == (str y.name).toList) = true := by rw [str_beq]; simp [e2]
    have p2 : ((str x.name).toList != (str y.name).toList) = false := by rw [bne, str_beq]; simp [e2]
    have r3 : Hid (∀ W, Below (w.heap.size + 2) w2 W → Calls Tryz.prog 161 #[.agg #[.int .i64 x.a.kind, .int .i64 x.a.n, .string (str x.a.place.name), va1], .agg #[.int .i64 y.a.kind, .int .i64 y.a.n, .string (str y.a.place.name), ua1]] W fun ev w' => ev = .returned (.bool true) ∧ Below (w.heap.size + 2) w2 w') := q3.out true ⟨fun _ => e3, fun _ => rfl⟩
    have r4 : Hid (∀ W, Below (w.heap.size + 2) w2 W → Calls Tryz.prog 161 #[.agg #[.int .i64 x.b.kind, .int .i64 x.b.n, .string (str x.b.place.name), vb1], .agg #[.int .i64 y.b.kind, .int .i64 y.b.n, .string (str y.b.place.name), ub1]] W fun ev w' => ev = .returned (.bool true) ∧ Below (w.heap.size + 2) w2 w') := q4.out true ⟨fun _ => e4, fun _ => rfl⟩
    have r5 : Hid (∀ W, Below (w.heap.size + 2) w2 W → Calls Tryz.prog 159 #[.agg #[.string (str x.place.name), vp1], .agg #[.string (str y.place.name), up1]] W fun ev w' => ev = .returned (.bool false) ∧ Below (w.heap.size + 2) w2 w') := q5.out false ⟨fun h => (by cases h), fun h => absurd h e5⟩
    clear q3 q4 q5 q6 e0 e1 e2 e3 e4 e5 HB HK HC R1 R2 hA hsz hl1 hl2 h2 g2 ka kb kp ga gb gp ka3 kb3 kp3 ga3 gb3 gp3 hsx hsy 
    subst e1' e2' e3' e4' e5' e6' e7' e8' e9' e10'
    generalize x.kind = g0 at *
    generalize x.op = g1 at *
    generalize str x.name = g2 at *
    generalize x.a.kind = g3 at *
    generalize x.a.n = g4 at *
    generalize str x.a.place.name = g5 at *
    generalize x.b.kind = g6 at *
    generalize x.b.n = g7 at *
    generalize str x.b.place.name = g8 at *
    generalize str x.place.name = g9 at *
    generalize x.a.place.path.length = g10 at *
    generalize x.b.place.path.length = g11 at *
    generalize x.place.path.length = g12 at *
    generalize x.names.length = g13 at *
    generalize x.args.length = g14 at *
    generalize y.kind = g15 at *
    generalize y.op = g16 at *
    generalize str y.name = g17 at *
    generalize y.a.kind = g18 at *
    generalize y.a.n = g19 at *
    generalize str y.a.place.name = g20 at *
    generalize y.b.kind = g21 at *
    generalize y.b.n = g22 at *
    generalize str y.b.place.name = g23 at *
    generalize str y.place.name = g24 at *
    generalize y.a.place.path.length = g25 at *
    generalize y.b.place.path.length = g26 at *
    generalize y.place.path.length = g27 at *
    generalize y.names.length = g28 at *
    generalize y.args.length = g29 at *
    go_enter Tryz.func160, Tryz.ntmps160
    go_wp2_with fail
    refine (r3.out _ HB0.out).mono ?_
    rintro _ W3 ⟨rfl, hb3⟩
    obtain ⟨a0, a1, a2, a3, a4, a5, a6, a7, a8, a9, a10, a11, a12, a13, a14, b0, b1, b2, b3, b4, b5, b6, b7, b8, b9, b10, b11, b12, b13, b14⟩ := HS.out W3 hb3
    go_wp2_with fail
    refine (r4.out _ hb3).mono ?_
    rintro _ W4 ⟨rfl, hb4⟩
    clear a0 b0 a1 b1 a2 b2 a3 b3 a4 b4 a5 b5 a6 b6 a7 b7 a8 b8 a9 b9 a10 b10 a11 b11 a12 b12 a13 b13 a14 b14
    obtain ⟨a0, a1, a2, a3, a4, a5, a6, a7, a8, a9, a10, a11, a12, a13, a14, b0, b1, b2, b3, b4, b5, b6, b7, b8, b9, b10, b11, b12, b13, b14⟩ := HS.out W4 hb4
    go_wp2_with fail
    refine (r5.out _ hb4).mono ?_
    rintro _ W5 ⟨rfl, hb5⟩
    clear a0 b0 a1 b1 a2 b2 a3 b3 a4 b4 a5 b5 a6 b6 a7 b7 a8 b8 a9 b9 a10 b10 a11 b11 a12 b12 a13 b13 a14 b14
    obtain ⟨a0, a1, a2, a3, a4, a5, a6, a7, a8, a9, a10, a11, a12, a13, a14, b0, b1, b2, b3, b4, b5, b6, b7, b8, b9, b10, b11, b12, b13, b14⟩ := HS.out W5 hb5
    go_wp2_with fail
    go_ret
    exact ⟨by rw [HF.out]; rfl, HW.out _ (by first | assumption | exact HB0.out)⟩
  by_cases e6 : x.names = y.names
  rotate_left
  · have HF : Hid (B = false) := bool_false HB.out (fun h => e6 (by rw [h]))
    have p0 : (x.kind != y.kind) = false := by simp [e0]
    have p1 : (x.op != y.op) = false := by simp [e1]
    have p2' : ((str x.name).toList == (str y.name).toList) = true := by rw [str_beq]; simp [e2]
    have p2 : ((str x.name).toList != (str y.name).toList) = false := by rw [bne, str_beq]; simp [e2]
    have r3 : Hid (∀ W, Below (w.heap.size + 2) w2 W → Calls Tryz.prog 161 #[.agg #[.int .i64 x.a.kind, .int .i64 x.a.n, .string (str x.a.place.name), va1], .agg #[.int .i64 y.a.kind, .int .i64 y.a.n, .string (str y.a.place.name), ua1]] W fun ev w' => ev = .returned (.bool true) ∧ Below (w.heap.size + 2) w2 w') := q3.out true ⟨fun _ => e3, fun _ => rfl⟩
    have r4 : Hid (∀ W, Below (w.heap.size + 2) w2 W → Calls Tryz.prog 161 #[.agg #[.int .i64 x.b.kind, .int .i64 x.b.n, .string (str x.b.place.name), vb1], .agg #[.int .i64 y.b.kind, .int .i64 y.b.n, .string (str y.b.place.name), ub1]] W fun ev w' => ev = .returned (.bool true) ∧ Below (w.heap.size + 2) w2 w') := q4.out true ⟨fun _ => e4, fun _ => rfl⟩
    have r5 : Hid (∀ W, Below (w.heap.size + 2) w2 W → Calls Tryz.prog 159 #[.agg #[.string (str x.place.name), vp1], .agg #[.string (str y.place.name), up1]] W fun ev w' => ev = .returned (.bool true) ∧ Below (w.heap.size + 2) w2 w') := q5.out true ⟨fun _ => e5, fun _ => rfl⟩
    have r6 : Hid (∀ W, Below (w.heap.size + 2) w2 W → Calls Tryz.prog 110 #[vn, un] W fun ev w' => ev = .returned (.bool false) ∧ Below (w.heap.size + 2) w2 w') := q6.out false ⟨fun h => (by cases h), fun h => absurd h e6⟩
    clear q3 q4 q5 q6 e0 e1 e2 e3 e4 e5 e6 HB HK HC R1 R2 hA hsz hl1 hl2 h2 g2 ka kb kp ga gb gp ka3 kb3 kp3 ga3 gb3 gp3 hsx hsy 
    subst e1' e2' e3' e4' e5' e6' e7' e8' e9' e10'
    generalize x.kind = g0 at *
    generalize x.op = g1 at *
    generalize str x.name = g2 at *
    generalize x.a.kind = g3 at *
    generalize x.a.n = g4 at *
    generalize str x.a.place.name = g5 at *
    generalize x.b.kind = g6 at *
    generalize x.b.n = g7 at *
    generalize str x.b.place.name = g8 at *
    generalize str x.place.name = g9 at *
    generalize x.a.place.path.length = g10 at *
    generalize x.b.place.path.length = g11 at *
    generalize x.place.path.length = g12 at *
    generalize x.names.length = g13 at *
    generalize x.args.length = g14 at *
    generalize y.kind = g15 at *
    generalize y.op = g16 at *
    generalize str y.name = g17 at *
    generalize y.a.kind = g18 at *
    generalize y.a.n = g19 at *
    generalize str y.a.place.name = g20 at *
    generalize y.b.kind = g21 at *
    generalize y.b.n = g22 at *
    generalize str y.b.place.name = g23 at *
    generalize str y.place.name = g24 at *
    generalize y.a.place.path.length = g25 at *
    generalize y.b.place.path.length = g26 at *
    generalize y.place.path.length = g27 at *
    generalize y.names.length = g28 at *
    generalize y.args.length = g29 at *
    go_enter Tryz.func160, Tryz.ntmps160
    go_wp2_with fail
    refine (r3.out _ HB0.out).mono ?_
    rintro _ W3 ⟨rfl, hb3⟩
    obtain ⟨a0, a1, a2, a3, a4, a5, a6, a7, a8, a9, a10, a11, a12, a13, a14, b0, b1, b2, b3, b4, b5, b6, b7, b8, b9, b10, b11, b12, b13, b14⟩ := HS.out W3 hb3
    go_wp2_with fail
    refine (r4.out _ hb3).mono ?_
    rintro _ W4 ⟨rfl, hb4⟩
    clear a0 b0 a1 b1 a2 b2 a3 b3 a4 b4 a5 b5 a6 b6 a7 b7 a8 b8 a9 b9 a10 b10 a11 b11 a12 b12 a13 b13 a14 b14
    obtain ⟨a0, a1, a2, a3, a4, a5, a6, a7, a8, a9, a10, a11, a12, a13, a14, b0, b1, b2, b3, b4, b5, b6, b7, b8, b9, b10, b11, b12, b13, b14⟩ := HS.out W4 hb4
    go_wp2_with fail
    refine (r5.out _ hb4).mono ?_
    rintro _ W5 ⟨rfl, hb5⟩
    clear a0 b0 a1 b1 a2 b2 a3 b3 a4 b4 a5 b5 a6 b6 a7 b7 a8 b8 a9 b9 a10 b10 a11 b11 a12 b12 a13 b13 a14 b14
    obtain ⟨a0, a1, a2, a3, a4, a5, a6, a7, a8, a9, a10, a11, a12, a13, a14, b0, b1, b2, b3, b4, b5, b6, b7, b8, b9, b10, b11, b12, b13, b14⟩ := HS.out W5 hb5
    go_wp2_with fail
    refine (r6.out _ hb5).mono ?_
    rintro _ W6 ⟨rfl, hb6⟩
    clear a0 b0 a1 b1 a2 b2 a3 b3 a4 b4 a5 b5 a6 b6 a7 b7 a8 b8 a9 b9 a10 b10 a11 b11 a12 b12 a13 b13 a14 b14
    obtain ⟨a0, a1, a2, a3, a4, a5, a6, a7, a8, a9, a10, a11, a12, a13, a14, b0, b1, b2, b3, b4, b5, b6, b7, b8, b9, b10, b11, b12, b13, b14⟩ := HS.out W6 hb6
    go_wp2_with fail
    go_ret
    exact ⟨by rw [HF.out]; rfl, HW.out _ (by first | assumption | exact HB0.out)⟩
  by_cases e7 : x.args.length = y.args.length
  rotate_left
  · have HF : Hid (B = false) := bool_false HB.out (fun h => e7 (by rw [h]))
    have p0 : (x.kind != y.kind) = false := by simp [e0]
    have p1 : (x.op != y.op) = false := by simp [e1]
    have p2' : ((str x.name).toList == (str y.name).toList) = true := by rw [str_beq]; simp [e2]
    have p2 : ((str x.name).toList != (str y.name).toList) = false := by rw [bne, str_beq]; simp [e2]
    have r3 : Hid (∀ W, Below (w.heap.size + 2) w2 W → Calls Tryz.prog 161 #[.agg #[.int .i64 x.a.kind, .int .i64 x.a.n, .string (str x.a.place.name), va1], .agg #[.int .i64 y.a.kind, .int .i64 y.a.n, .string (str y.a.place.name), ua1]] W fun ev w' => ev = .returned (.bool true) ∧ Below (w.heap.size + 2) w2 w') := q3.out true ⟨fun _ => e3, fun _ => rfl⟩
    have r4 : Hid (∀ W, Below (w.heap.size + 2) w2 W → Calls Tryz.prog 161 #[.agg #[.int .i64 x.b.kind, .int .i64 x.b.n, .string (str x.b.place.name), vb1], .agg #[.int .i64 y.b.kind, .int .i64 y.b.n, .string (str y.b.place.name), ub1]] W fun ev w' => ev = .returned (.bool true) ∧ Below (w.heap.size + 2) w2 w') := q4.out true ⟨fun _ => e4, fun _ => rfl⟩
    have r5 : Hid (∀ W, Below (w.heap.size + 2) w2 W → Calls Tryz.prog 159 #[.agg #[.string (str x.place.name), vp1], .agg #[.string (str y.place.name), up1]] W fun ev w' => ev = .returned (.bool true) ∧ Below (w.heap.size + 2) w2 w') := q5.out true ⟨fun _ => e5, fun _ => rfl⟩
    have r6 : Hid (∀ W, Below (w.heap.size + 2) w2 W → Calls Tryz.prog 110 #[vn, un] W fun ev w' => ev = .returned (.bool true) ∧ Below (w.heap.size + 2) w2 w') := q6.out true ⟨fun _ => e6, fun _ => rfl⟩
    have p7 : ((x.args.length : Int) != (y.args.length : Int)) = true := by simp; omega
    clear q3 q4 q5 q6 e0 e1 e2 e3 e4 e5 e6 e7 HB HK HC R1 R2 hA hsz hl1 hl2 h2 g2 ka kb kp ga gb gp ka3 kb3 kp3 ga3 gb3 gp3 hsx hsy 
    subst e1' e2' e3' e4' e5' e6' e7' e8' e9' e10'
    generalize x.kind = g0 at *
    generalize x.op = g1 at *
    generalize str x.name = g2 at *
    generalize x.a.kind = g3 at *
    generalize x.a.n = g4 at *
    generalize str x.a.place.name = g5 at *
    generalize x.b.kind = g6 at *
    generalize x.b.n = g7 at *
    generalize str x.b.place.name = g8 at *
    generalize str x.place.name = g9 at *
    generalize x.a.place.path.length = g10 at *
    generalize x.b.place.path.length = g11 at *
    generalize x.place.path.length = g12 at *
    generalize x.names.length = g13 at *
    generalize x.args.length = g14 at *
    generalize y.kind = g15 at *
    generalize y.op = g16 at *
    generalize str y.name = g17 at *
    generalize y.a.kind = g18 at *
    generalize y.a.n = g19 at *
    generalize str y.a.place.name = g20 at *
    generalize y.b.kind = g21 at *
    generalize y.b.n = g22 at *
    generalize str y.b.place.name = g23 at *
    generalize str y.place.name = g24 at *
    generalize y.a.place.path.length = g25 at *
    generalize y.b.place.path.length = g26 at *
    generalize y.place.path.length = g27 at *
    generalize y.names.length = g28 at *
    generalize y.args.length = g29 at *
    go_enter Tryz.func160, Tryz.ntmps160
    go_wp2_with fail
    refine (r3.out _ HB0.out).mono ?_
    rintro _ W3 ⟨rfl, hb3⟩
    obtain ⟨a0, a1, a2, a3, a4, a5, a6, a7, a8, a9, a10, a11, a12, a13, a14, b0, b1, b2, b3, b4, b5, b6, b7, b8, b9, b10, b11, b12, b13, b14⟩ := HS.out W3 hb3
    go_wp2_with fail
    refine (r4.out _ hb3).mono ?_
    rintro _ W4 ⟨rfl, hb4⟩
    clear a0 b0 a1 b1 a2 b2 a3 b3 a4 b4 a5 b5 a6 b6 a7 b7 a8 b8 a9 b9 a10 b10 a11 b11 a12 b12 a13 b13 a14 b14
    obtain ⟨a0, a1, a2, a3, a4, a5, a6, a7, a8, a9, a10, a11, a12, a13, a14, b0, b1, b2, b3, b4, b5, b6, b7, b8, b9, b10, b11, b12, b13, b14⟩ := HS.out W4 hb4
    go_wp2_with fail
    refine (r5.out _ hb4).mono ?_
    rintro _ W5 ⟨rfl, hb5⟩
    clear a0 b0 a1 b1 a2 b2 a3 b3 a4 b4 a5 b5 a6 b6 a7 b7 a8 b8 a9 b9 a10 b10 a11 b11 a12 b12 a13 b13 a14 b14
    obtain ⟨a0, a1, a2, a3, a4, a5, a6, a7, a8, a9, a10, a11, a12, a13, a14, b0, b1, b2, b3, b4, b5, b6, b7, b8, b9, b10, b11, b12, b13, b14⟩ := HS.out W5 hb5
    go_wp2_with fail
    refine (r6.out _ hb5).mono ?_
    rintro _ W6 ⟨rfl, hb6⟩
    clear a0 b0 a1 b1 a2 b2 a3 b3 a4 b4 a5 b5 a6 b6 a7 b7 a8 b8 a9 b9 a10 b10 a11 b11 a12 b12 a13 b13 a14 b14
    obtain ⟨a0, a1, a2, a3, a4, a5, a6, a7, a8, a9, a10, a11, a12, a13, a14, b0, b1, b2, b3, b4, b5, b6, b7, b8, b9, b10, b11, b12, b13, b14⟩ := HS.out W6 hb6
    go_wp2_with fail
    go_ret
    exact ⟨by rw [HF.out]; rfl, HW.out _ (by first | assumption | exact HB0.out)⟩
  have p0 : (x.kind != y.kind) = false := by simp [e0]
  have p1 : (x.op != y.op) = false := by simp [e1]
  have p2' : ((str x.name).toList == (str y.name).toList) = true := by rw [str_beq]; simp [e2]
  have p2 : ((str x.name).toList != (str y.name).toList) = false := by rw [bne, str_beq]; simp [e2]
  have r3 : Hid (∀ W, Below (w.heap.size + 2) w2 W → Calls Tryz.prog 161 #[.agg #[.int .i64 x.a.kind, .int .i64 x.a.n, .string (str x.a.place.name), va1], .agg #[.int .i64 y.a.kind, .int .i64 y.a.n, .string (str y.a.place.name), ua1]] W fun ev w' => ev = .returned (.bool true) ∧ Below (w.heap.size + 2) w2 w') := q3.out true ⟨fun _ => e3, fun _ => rfl⟩
  have r4 : Hid (∀ W, Below (w.heap.size + 2) w2 W → Calls Tryz.prog 161 #[.agg #[.int .i64 x.b.kind, .int .i64 x.b.n, .string (str x.b.place.name), vb1], .agg #[.int .i64 y.b.kind, .int .i64 y.b.n, .string (str y.b.place.name), ub1]] W fun ev w' => ev = .returned (.bool true) ∧ Below (w.heap.size + 2) w2 w') := q4.out true ⟨fun _ => e4, fun _ => rfl⟩
  have r5 : Hid (∀ W, Below (w.heap.size + 2) w2 W → Calls Tryz.prog 159 #[.agg #[.string (str x.place.name), vp1], .agg #[.string (str y.place.name), up1]] W fun ev w' => ev = .returned (.bool true) ∧ Below (w.heap.size + 2) w2 w') := q5.out true ⟨fun _ => e5, fun _ => rfl⟩
  have r6 : Hid (∀ W, Below (w.heap.size + 2) w2 W → Calls Tryz.prog 110 #[vn, un] W fun ev w' => ev = .returned (.bool true) ∧ Below (w.heap.size + 2) w2 w') := q6.out true ⟨fun _ => e6, fun _ => rfl⟩
  have p7 : ((x.args.length : Int) != (y.args.length : Int)) = false := by simp; omega
  obtain ⟨ax, cx, ex, hcx, hbx, HAx⟩ := hsx.shape
  obtain ⟨ay, cy, ey, hcy, hby, HAy⟩ := hsy.shape
  have hl9 : x.args.length ≤ 9223372036854775807 := by omega
  have HL : Hid (x.args.length = y.args.length) := e7
  have HE : Hid (∀ i (h : i < x.args.length) (h' : i < y.args.length), ∃ (b o b' o' : Nat) (c0 c1 c2 c3 d0 d1 d2 d3 : Value), ax = some ⟨b, o, none⟩ ∧ ay = some ⟨b', o', none⟩ ∧ (∀ W, Below (w.heap.size + 2) w2 W → W.cell? ⟨b, o + i * 4, none⟩ = some c0 ∧ W.cell? ⟨b, o + i * 4 + 1, none⟩ = some c1 ∧ W.cell? ⟨b, o + i * 4 + 2, none⟩ = some c2 ∧ W.cell? ⟨b, o + i * 4 + 3, none⟩ = some c3 ∧ W.cell? ⟨b', o' + i * 4, none⟩ = some d0 ∧ W.cell? ⟨b', o' + i * 4 + 1, none⟩ = some d1 ∧ W.cell? ⟨b', o' + i * 4 + 2, none⟩ = some d2 ∧ W.cell? ⟨b', o' + i * 4 + 3, none⟩ = some d3) ∧ (∀ W B, Below (w.heap.size + 2) w2 W → (B = true ↔ x.args[i] = y.args[i]) → Calls Tryz.prog 161 #[.agg #[c0, c1, c2, c3], .agg #[d0, d1, d2, d3]] W fun ev w' => ev = .returned (.bool B) ∧ Below (w.heap.size + 2) w2 w')) := by
    intro i h h'
    obtain ⟨b, o, e, hbC, cs, hl, hcs, kx⟩ := HAx i h
    obtain ⟨b', o', e', hbC', cs', hl', hcs', ky⟩ := HAy i h'
    obtain ⟨c0, c1, c2, c3, rfl⟩ := list4 hl
    obtain ⟨d0, d1, d2, d3, rfl⟩ := list4 hl'
    refine ⟨b, o, b', o', c0, c1, c2, c3, d0, d1, d2, d3, e, e', fun W hw => ?_, fun W B hw hB => ?_⟩
    · exact ⟨((HK W hw).cell (p := ⟨b, o + i * 4, none⟩) hbC).trans (hcs 0 (by decide)), ((HK W hw).cell (p := ⟨b, o + i * 4 + 1, none⟩) hbC).trans (hcs 1 (by decide)), ((HK W hw).cell (p := ⟨b, o + i * 4 + 2, none⟩) hbC).trans (hcs 2 (by decide)), ((HK W hw).cell (p := ⟨b, o + i * 4 + 3, none⟩) hbC).trans (hcs 3 (by decide)), ((HK W hw).cell (p := ⟨b', o' + i * 4, none⟩) hbC').trans (hcs' 0 (by decide)), ((HK W hw).cell (p := ⟨b', o' + i * 4 + 1, none⟩) hbC').trans (hcs' 1 (by decide)), ((HK W hw).cell (p := ⟨b', o' + i * 4 + 2, none⟩) hbC').trans (hcs' 2 (by decide)), ((HK W hw).cell (p := ⟨b', o' + i * 4 + 3, none⟩) hbC').trans (hcs' 3 (by decide))⟩
    · refine (xoper_any (HC W hw).1 (kx.below (HK W hw)) (ky.below (HK W hw)) B hB).mono ?_
      rintro _ _ ⟨rfl, h⟩
      exact ⟨rfl, hw.trans (below_le h (HC W hw).2)⟩
  have HQ : Hid ((∀ j (h : j < x.args.length) (h' : j < y.args.length), x.args[j] = y.args[j]) → B = true) := by
    intro hall
    refine HB.out.2 ?_
    have ee : x.args = y.args := eq_upto HL.out hall
    clear q3 q4 q5 q6 HB HS HW HK HC R1 R2 hA hsz HE hsx hsy; cases x; cases y; simp only at e0 e1 e2 e3 e4 e5 e6 ee; subst e0 e1 e2 e3 e4 e5 e6 ee; rfl
  have HN : Hid (∀ j (h : j < x.args.length) (h' : j < y.args.length), x.args[j] ≠ y.args[j] → B = false) := fun j h h' hne => bool_false HB.out (fun e => hne (by subst e; rfl))
  clear q3 q4 q5 q6 e0 e1 e2 e3 e4 e5 e6 e7 HB HK HC R1 R2 hA hsz hcx hcy hbx hby HAx HAy hsx hsy hl1 hl2 h2 g2 ka kb kp ga gb gp ka3 kb3 kp3 ga3 gb3 gp3 e9' e10' 
  subst e1' e2' e3' e4' e5' e6' e7' e8'
  subst ex ey
  generalize x.kind = g0 at *
  generalize x.op = g1 at *
  generalize str x.name = g2 at *
  generalize x.a.kind = g3 at *
  generalize x.a.n = g4 at *
  generalize str x.a.place.name = g5 at *
  generalize x.b.kind = g6 at *
  generalize x.b.n = g7 at *
  generalize str x.b.place.name = g8 at *
  generalize str x.place.name = g9 at *
  generalize x.a.place.path.length = g10 at *
  generalize x.b.place.path.length = g11 at *
  generalize x.place.path.length = g12 at *
  generalize x.names.length = g13 at *
  generalize y.kind = g15 at *
  generalize y.op = g16 at *
  generalize str y.name = g17 at *
  generalize y.a.kind = g18 at *
  generalize y.a.n = g19 at *
  generalize str y.a.place.name = g20 at *
  generalize y.b.kind = g21 at *
  generalize y.b.n = g22 at *
  generalize str y.b.place.name = g23 at *
  generalize str y.place.name = g24 at *
  generalize y.a.place.path.length = g25 at *
  generalize y.b.place.path.length = g26 at *
  generalize y.place.path.length = g27 at *
  generalize y.names.length = g28 at *
  generalize hLX : x.args = LX at *
  generalize hLY : y.args = LY at *
  clear hLX hLY
  go_enter Tryz.func160, Tryz.ntmps160
  go_wp2_with fail
  refine (r3.out _ HB0.out).mono ?_
  rintro _ W3 ⟨rfl, hb3⟩
  obtain ⟨a0, a1, a2, a3, a4, a5, a6, a7, a8, a9, a10, a11, a12, a13, a14, b0, b1, b2, b3, b4, b5, b6, b7, b8, b9, b10, b11, b12, b13, b14⟩ := HS.out W3 hb3
  go_wp2_with fail
  refine (r4.out _ hb3).mono ?_
  rintro _ W4 ⟨rfl, hb4⟩
  clear a0 b0 a1 b1 a2 b2 a3 b3 a4 b4 a5 b5 a6 b6 a7 b7 a8 b8 a9 b9 a10 b10 a11 b11 a12 b12 a13 b13 a14 b14
  obtain ⟨a0, a1, a2, a3, a4, a5, a6, a7, a8, a9, a10, a11, a12, a13, a14, b0, b1, b2, b3, b4, b5, b6, b7, b8, b9, b10, b11, b12, b13, b14⟩ := HS.out W4 hb4
  go_wp2_with fail
  refine (r5.out _ hb4).mono ?_
  rintro _ W5 ⟨rfl, hb5⟩
  clear a0 b0 a1 b1 a2 b2 a3 b3 a4 b4 a5 b5 a6 b6 a7 b7 a8 b8 a9 b9 a10 b10 a11 b11 a12 b12 a13 b13 a14 b14
  obtain ⟨a0, a1, a2, a3, a4, a5, a6, a7, a8, a9, a10, a11, a12, a13, a14, b0, b1, b2, b3, b4, b5, b6, b7, b8, b9, b10, b11, b12, b13, b14⟩ := HS.out W5 hb5
  go_wp2_with fail
  refine (r6.out _ hb5).mono ?_
  rintro _ W6 ⟨rfl, hb6⟩
  clear a0 b0 a1 b1 a2 b2 a3 b3 a4 b4 a5 b5 a6 b6 a7 b7 a8 b8 a9 b9 a10 b10 a11 b11 a12 b12 a13 b13 a14 b14
  obtain ⟨a0, a1, a2, a3, a4, a5, a6, a7, a8, a9, a10, a11, a12, a13, a14, b0, b1, b2, b3, b4, b5, b6, b7, b8, b9, b10, b11, b12, b13, b14⟩ := HS.out W6 hb6
  go_wp2_with fail
  go_loopw [5] (fun i wr => ∃ k : Nat, k ≤ LX.length ∧ i = .int .i64 k ∧ (∀ j (h : j < LX.length) (h' : j < LY.length), j < k → LX[j] = LY[j]) ∧ Below (w.heap.size + 2) w2 wr) (fun i _ => LX.length - (intOf i).toNat)
  case atStart => exact ⟨0, by omega, rfl, fun j _ _ h => by omega, by first | assumption | exact HB0.out⟩
  case round =>
    obtain ⟨k, hk, rfl, hj, hbw⟩ := hrel
    have HJ : Hid (∀ j (h : j < LX.length) (h' : j < LY.length), j < k → LX[j] = LY[j]) := hj
    have HBW : Hid (Below (w.heap.size + 2) w2 wr) := hbw
    clear hj hbw HB0
    clear a0 b0 a1 b1 a2 b2 a3 b3 a4 b4 a5 b5 a6 b6 a7 b7 a8 b8 a9 b9 a10 b10 a11 b11 a12 b12 a13 b13 a14 b14 hb3 r3 hb4 r4 hb5 r5 hb6 r6
    obtain ⟨a0, a1, a2, a3, a4, a5, a6, a7, a8, a9, a10, a11, a12, a13, a14, b0, b1, b2, b3, b4, b5, b6, b7, b8, b9, b10, b11, b12, b13, b14⟩ := HS.out wr HBW.out
    by_cases h3 : k < LX.length
    · have h4 : k < LY.length := by rw [← HL.out]; exact h3
      obtain ⟨b, o, b', o', c0, c1, c2, c3, d0, d1, d2, d3, ex1, ey1, hcell, hcall⟩ := HE.out k h3 h4
      subst ex1 ey1
      have i1 : (k : Int) < (LX.length : Int) := by omega
      have i2 : (k : Int) < (LY.length : Int) := by omega
      have mkS : Hid (∀ z, Below (w.heap.size + 2) w2 z → Below (w.heap.size + 2) w2 z ∧ z.cell? ⟨w.heap.size, 14, none⟩ = some (.slice (some ⟨b, o, none⟩) (LX.length) cx) ∧ z.cell? ⟨w.heap.size + 1, 14, none⟩ = some (.slice (some ⟨b', o', none⟩) (LY.length) cy) ∧ z.cell? ⟨b, o + k * 4, none⟩ = some c0 ∧ z.cell? ⟨b, o + k * 4 + 1, none⟩ = some c1 ∧ z.cell? ⟨b, o + k * 4 + 2, none⟩ = some c2 ∧ z.cell? ⟨b, o + k * 4 + 3, none⟩ = some c3 ∧ z.cell? ⟨b', o' + k * 4, none⟩ = some d0 ∧ z.cell? ⟨b', o' + k * 4 + 1, none⟩ = some d1 ∧ z.cell? ⟨b', o' + k * 4 + 2, none⟩ = some d2 ∧ z.cell? ⟨b', o' + k * 4 + 3, none⟩ = some d3) := by
        intro z hb
        obtain ⟨x0, x1, x2, x3, x4, x5, x6, x7, x8, x9, x10, x11, x12, x13, x14, y0, y1, y2, y3, y4, y5, y6, y7, y8, y9, y10, y11, y12, y13, y14⟩ := HS.out z hb
        exact ⟨hb, x14, y14, hcell z hb⟩
      have HS0 := mkS.out wr.drew HBW.out.drew
      clear a0 b0 a1 b1 a2 b2 a3 b3 a4 b4 a5 b5 a6 b6 a7 b7 a8 b8 a9 b9 a10 b10 a11 b11 a12 b12 a13 b13 hcell
      by_cases he : LX[k] = LY[k]
      · have D : Hid (∀ z, (Below (w.heap.size + 2) w2 z ∧ z.cell? ⟨w.heap.size, 14, none⟩ = some (.slice (some ⟨b, o, none⟩) (LX.length) cx) ∧ z.cell? ⟨w.heap.size + 1, 14, none⟩ = some (.slice (some ⟨b', o', none⟩) (LY.length) cy) ∧ z.cell? ⟨b, o + k * 4, none⟩ = some c0 ∧ z.cell? ⟨b, o + k * 4 + 1, none⟩ = some c1 ∧ z.cell? ⟨b, o + k * 4 + 2, none⟩ = some c2 ∧ z.cell? ⟨b, o + k * 4 + 3, none⟩ = some c3 ∧ z.cell? ⟨b', o' + k * 4, none⟩ = some d0 ∧ z.cell? ⟨b', o' + k * 4 + 1, none⟩ = some d1 ∧ z.cell? ⟨b', o' + k * 4 + 2, none⟩ = some d2 ∧ z.cell? ⟨b', o' + k * 4 + 3, none⟩ = some d3) → Calls Tryz.prog 161 #[.agg #[c0, c1, c2, c3], .agg #[d0, d1, d2, d3]] z fun ev z' => ev = .returned (.bool true) ∧ (Below (w.heap.size + 2) w2 z' ∧ z'.cell? ⟨w.heap.size, 14, none⟩ = some (.slice (some ⟨b, o, none⟩) (LX.length) cx) ∧ z'.cell? ⟨w.heap.size + 1, 14, none⟩ = some (.slice (some ⟨b', o', none⟩) (LY.length) cy) ∧ z'.cell? ⟨b, o + k * 4, none⟩ = some c0 ∧ z'.cell? ⟨b, o + k * 4 + 1, none⟩ = some c1 ∧ z'.cell? ⟨b, o + k * 4 + 2, none⟩ = some c2 ∧ z'.cell? ⟨b, o + k * 4 + 3, none⟩ = some c3 ∧ z'.cell? ⟨b', o' + k * 4, none⟩ = some d0 ∧ z'.cell? ⟨b', o' + k * 4 + 1, none⟩ = some d1 ∧ z'.cell? ⟨b', o' + k * 4 + 2, none⟩ = some d2 ∧ z'.cell? ⟨b', o' + k * 4 + 3, none⟩ = some d3)) := by
          intro z hz
          refine (hcall z true hz.1 ⟨fun _ => he, fun _ => rfl⟩).mono ?_
          rintro _ z' ⟨rfl, hb⟩
          exact ⟨rfl, mkS.out z' hb⟩
        have HJ' : Hid (∀ j (h : j < LX.length) (h' : j < LY.length), j < k + 1 → LX[j] = LY[j]) := by
          intro j ha hb hjk
          rcases Nat.lt_or_ge j k with h | h
          · exact HJ.out j ha hb h
          · obtain rfl : j = k := by omega
            exact he
        clear he hcall mkS HE HJ HQ HN HL
        go_wp2_with fail
        go_region_held3 (fun z => Below (w.heap.size + 2) w2 z ∧ z.cell? ⟨w.heap.size, 14, none⟩ = some (.slice (some ⟨b, o, none⟩) (LX.length) cx) ∧ z.cell? ⟨w.heap.size + 1, 14, none⟩ = some (.slice (some ⟨b', o', none⟩) (LY.length) cy) ∧ z.cell? ⟨b, o + k * 4, none⟩ = some c0 ∧ z.cell? ⟨b, o + k * 4 + 1, none⟩ = some c1 ∧ z.cell? ⟨b, o + k * 4 + 2, none⟩ = some c2 ∧ z.cell? ⟨b, o + k * 4 + 3, none⟩ = some c3 ∧ z.cell? ⟨b', o' + k * 4, none⟩ = some d0 ∧ z.cell? ⟨b', o' + k * 4 + 1, none⟩ = some d1 ∧ z.cell? ⟨b', o' + k * 4 + 2, none⟩ = some d2 ∧ z.cell? ⟨b', o' + k * 4 + 3, none⟩ = some d3) (assumption) (first | (go_at_call 161; refine (D.out _ (by assumption)).mono ?_; rintro _ z1 ⟨rfl, hS1⟩))
        go_wp2_with fail
        go_roundw
        case rel => exact ⟨k + 1, by omega, by go_num, HJ'.out, hS1.1⟩
        case measure => simp [intOf]; omega
      · have D : Hid (∀ z, (Below (w.heap.size + 2) w2 z ∧ z.cell? ⟨w.heap.size, 14, none⟩ = some (.slice (some ⟨b, o, none⟩) (LX.length) cx) ∧ z.cell? ⟨w.heap.size + 1, 14, none⟩ = some (.slice (some ⟨b', o', none⟩) (LY.length) cy) ∧ z.cell? ⟨b, o + k * 4, none⟩ = some c0 ∧ z.cell? ⟨b, o + k * 4 + 1, none⟩ = some c1 ∧ z.cell? ⟨b, o + k * 4 + 2, none⟩ = some c2 ∧ z.cell? ⟨b, o + k * 4 + 3, none⟩ = some c3 ∧ z.cell? ⟨b', o' + k * 4, none⟩ = some d0 ∧ z.cell? ⟨b', o' + k * 4 + 1, none⟩ = some d1 ∧ z.cell? ⟨b', o' + k * 4 + 2, none⟩ = some d2 ∧ z.cell? ⟨b', o' + k * 4 + 3, none⟩ = some d3) → Calls Tryz.prog 161 #[.agg #[c0, c1, c2, c3], .agg #[d0, d1, d2, d3]] z fun ev z' => ev = .returned (.bool false) ∧ (Below (w.heap.size + 2) w2 z' ∧ z'.cell? ⟨w.heap.size, 14, none⟩ = some (.slice (some ⟨b, o, none⟩) (LX.length) cx) ∧ z'.cell? ⟨w.heap.size + 1, 14, none⟩ = some (.slice (some ⟨b', o', none⟩) (LY.length) cy) ∧ z'.cell? ⟨b, o + k * 4, none⟩ = some c0 ∧ z'.cell? ⟨b, o + k * 4 + 1, none⟩ = some c1 ∧ z'.cell? ⟨b, o + k * 4 + 2, none⟩ = some c2 ∧ z'.cell? ⟨b, o + k * 4 + 3, none⟩ = some c3 ∧ z'.cell? ⟨b', o' + k * 4, none⟩ = some d0 ∧ z'.cell? ⟨b', o' + k * 4 + 1, none⟩ = some d1 ∧ z'.cell? ⟨b', o' + k * 4 + 2, none⟩ = some d2 ∧ z'.cell? ⟨b', o' + k * 4 + 3, none⟩ = some d3)) := by
          intro z hz
          refine (hcall z false hz.1 ⟨fun h => (by cases h), fun h => absurd h he⟩).mono ?_
          rintro _ z' ⟨rfl, hb⟩
          exact ⟨rfl, mkS.out z' hb⟩
        have HF : Hid (B = false) := HN.out k h3 h4 he
        clear he hcall mkS HE HJ HQ HN HL
        go_wp2_with fail
        go_region_held3 (fun z => Below (w.heap.size + 2) w2 z ∧ z.cell? ⟨w.heap.size, 14, none⟩ = some (.slice (some ⟨b, o, none⟩) (LX.length) cx) ∧ z.cell? ⟨w.heap.size + 1, 14, none⟩ = some (.slice (some ⟨b', o', none⟩) (LY.length) cy) ∧ z.cell? ⟨b, o + k * 4, none⟩ = some c0 ∧ z.cell? ⟨b, o + k * 4 + 1, none⟩ = some c1 ∧ z.cell? ⟨b, o + k * 4 + 2, none⟩ = some c2 ∧ z.cell? ⟨b, o + k * 4 + 3, none⟩ = some c3 ∧ z.cell? ⟨b', o' + k * 4, none⟩ = some d0 ∧ z.cell? ⟨b', o' + k * 4 + 1, none⟩ = some d1 ∧ z.cell? ⟨b', o' + k * 4 + 2, none⟩ = some d2 ∧ z.cell? ⟨b', o' + k * 4 + 3, none⟩ = some d3) (assumption) (first | (go_at_call 161; refine (D.out _ (by assumption)).mono ?_; rintro _ z1 ⟨rfl, hS1⟩))
        go_wp2_with fail
        go_ret
        exact ⟨by rw [HF.out]; rfl, HW.out _ hS1.1⟩
    · have i1 : ¬ (k : Int) < (LX.length : Int) := by omega
      have HF : Hid (B = true) := HQ.out (fun j h h' => HJ.out j h h' (by omega))
      go_wp2_with fail
      go_ret
      exact ⟨by rw [HF.out]; rfl, HW.out _ HBW.out⟩
end Go.Proofs.YtmopffaocamieaaGreat
