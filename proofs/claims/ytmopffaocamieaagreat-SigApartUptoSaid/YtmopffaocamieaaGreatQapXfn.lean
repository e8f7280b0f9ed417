/-
  Functions: are two the same? The document says it.
-/
import Derived.Test.YtmopffaocamieaaGreatQapXss
namespace Go.Proofs.YtmopffaocamieaaGreat
open Go.RowKit

set_option maxHeartbeats 8000000 in
set_option maxRecDepth 20000 in
theorem xfunc_any {n : Nat}  {K : Ctx} {w : World} (hC : K.C ≤ w.heap.size) {x y : Fnc} {cs cs' : List Value} (hx : FncAt n K w cs x) (hy : FncAt n K w cs' y) (B : Bool) (hB : B = true ↔ x = y) :
    Calls Tryz.prog 64 #[.agg cs.toArray, .agg cs'.toArray] w fun ev w' => ev = .returned (.bool B) ∧ Below w.heap.size w w' := by
  obtain ⟨v2, v3, ts, v8, rfl, hl1, hsx, h3, ht, h8⟩ := hx
  obtain ⟨u2, u3, us, u8, rfl, hl2, hsy, g3, gt, g8⟩ := hy
  obtain ⟨t2, m2, d2, t3, m3, d3, rfl⟩ := ht.open
  obtain ⟨t2', m2', d2', t3', m3', d3', rfl⟩ := gt.open
  obtain ⟨a2, c2, e2'⟩ := hsx.form
  obtain ⟨a2', c2', e3'⟩ := hsy.form
  obtain ⟨a3, c3, e4'⟩ := h3.form
  obtain ⟨a3', c3', e5'⟩ := g3.form
  obtain ⟨a8, c8, e6'⟩ := h8.form
  obtain ⟨a8', c8', e7'⟩ := g8.form
  simp only [List.cons_append, List.nil_append]
  obtain ⟨w2, hw2⟩ : ∃ w2, w2 = ((w.alloc (.cells #[.bool x.pub, .string (str x.name), v2, v3, .int .i64 x.result.kind, .string (str x.result.name), .slice t2 m2 d2, .slice t3 m3 d3, v8, .int .i64 x.pos] 65)).alloc (.cells #[.bool y.pub, .string (str y.name), u2, u3, .int .i64 y.result.kind, .string (str y.result.name), .slice t2' m2' d2', .slice t3' m3' d3', u8, .int .i64 y.pos] 65)) := ⟨_, rfl⟩
  have hA : Below w.heap.size w w2 := by rw [hw2]; exact alloc_two w _ _
  have hsz : w2.heap.size = w.heap.size + 2 := by rw [hw2, size_alloc, size_alloc]
  have R1 : Row w2 w.heap.size 65 [.bool x.pub, .string (str x.name), v2, v3, .int .i64 x.result.kind, .string (str x.result.name), .slice t2 m2 d2, .slice t3 m3 d3, v8, .int .i64 x.pos] := by rw [hw2]; exact (Row.new w 65 [.bool x.pub, .string (str x.name), v2, v3, .int .i64 x.result.kind, .string (str x.result.name), .slice t2 m2 d2, .slice t3 m3 d3, v8, .int .i64 x.pos]).alloc _
  have R2 : Row w2 (w.heap.size + 1) 65 [.bool y.pub, .string (str y.name), u2, u3, .int .i64 y.result.kind, .string (str y.result.name), .slice t2' m2' d2', .slice t3' m3' d3', u8, .int .i64 y.pos] := by
    have := Row.new (w.alloc (.cells #[.bool x.pub, .string (str x.name), v2, v3, .int .i64 x.result.kind, .string (str x.result.name), .slice t2 m2 d2, .slice t3 m3 d3, v8, .int .i64 x.pos] 65)) 65 [.bool y.pub, .string (str y.name), u2, u3, .int .i64 y.result.kind, .string (str y.result.name), .slice t2' m2' d2', .slice t3' m3' d3', u8, .int .i64 y.pos]
    rw [size_alloc] at this; rw [hw2]; exact this
  have HB0 : Hid (Below (w.heap.size + 2) w2 ((w.alloc (.cells #[.bool x.pub, .string (str x.name), v2, v3, .int .i64 x.result.kind, .string (str x.result.name), .slice t2 m2 d2, .slice t3 m3 d3, v8, .int .i64 x.pos] 65)).alloc (.cells #[.bool y.pub, .string (str y.name), u2, u3, .int .i64 y.result.kind, .string (str y.result.name), .slice t2' m2' d2', .slice t3' m3' d3', u8, .int .i64 y.pos] 65))) := by show Below _ _ _; rw [← hw2]; exact Below.refl _ _
  clear hw2
  have HS : Hid (∀ W, Below (w.heap.size + 2) w2 W → W.cell? ⟨w.heap.size, 0, none⟩ = some (.bool x.pub) ∧ W.cell? ⟨w.heap.size, 1, none⟩ = some (.string (str x.name)) ∧ W.cell? ⟨w.heap.size, 2, none⟩ = some (v2) ∧ W.cell? ⟨w.heap.size, 3, none⟩ = some (v3) ∧ W.cell? ⟨w.heap.size, 4, none⟩ = some (.int .i64 x.result.kind) ∧ W.cell? ⟨w.heap.size, 5, none⟩ = some (.string (str x.result.name)) ∧ W.cell? ⟨w.heap.size, 6, none⟩ = some (.slice t2 m2 d2) ∧ W.cell? ⟨w.heap.size, 7, none⟩ = some (.slice t3 m3 d3) ∧ W.cell? ⟨w.heap.size, 8, none⟩ = some (v8) ∧ W.cell? ⟨w.heap.size, 9, none⟩ = some (.int .i64 x.pos) ∧ W.cell? ⟨w.heap.size + 1, 0, none⟩ = some (.bool y.pub) ∧ W.cell? ⟨w.heap.size + 1, 1, none⟩ = some (.string (str y.name)) ∧ W.cell? ⟨w.heap.size + 1, 2, none⟩ = some (u2) ∧ W.cell? ⟨w.heap.size + 1, 3, none⟩ = some (u3) ∧ W.cell? ⟨w.heap.size + 1, 4, none⟩ = some (.int .i64 y.result.kind) ∧ W.cell? ⟨w.heap.size + 1, 5, none⟩ = some (.string (str y.result.name)) ∧ W.cell? ⟨w.heap.size + 1, 6, none⟩ = some (.slice t2' m2' d2') ∧ W.cell? ⟨w.heap.size + 1, 7, none⟩ = some (.slice t3' m3' d3') ∧ W.cell? ⟨w.heap.size + 1, 8, none⟩ = some (u8) ∧ W.cell? ⟨w.heap.size + 1, 9, none⟩ = some (.int .i64 y.pos)) := by
    intro W hb
    have r1 := R1.below hb (by omega)
    have r2 := R2.below hb (by omega)
    exact ⟨r1.cell 0, r1.cell 1, r1.cell 2, r1.cell 3, r1.cell 4, r1.cell 5, r1.cell 6, r1.cell 7, r1.cell 8, r1.cell 9, r2.cell 0, r2.cell 1, r2.cell 2, r2.cell 3, r2.cell 4, r2.cell 5, r2.cell 6, r2.cell 7, r2.cell 8, r2.cell 9⟩
  have HW : Hid (∀ W, Below (w.heap.size + 2) w2 W → Below w.heap.size w W) := fun W hb => hA.trans (below_le hb (by omega))
  have HK : ∀ W, Below (w.heap.size + 2) w2 W → Below K.C w W := fun W hb => below_le (HW.out W hb) hC
  have HC : ∀ W, Below (w.heap.size + 2) w2 W → K.C ≤ W.heap.size ∧ w.heap.size + 2 ≤ W.heap.size := fun W hb => by have := hb.size; omega
  have HB : Hid (B = true ↔ x = y) := hB
  clear hB
  have q4 : Hid (∀ (B : Bool), (B = true ↔ x.params = y.params) → ∀ W, Below (w.heap.size + 2) w2 W → Calls Tryz.prog 111 #[v3, u3] W fun ev w' => ev = .returned (.bool B) ∧ Below (w.heap.size + 2) w2 w') := by
    intro B hB W hb
    refine (xfields_any (HC W hb).1 (h3.mono (HK W hb) fun _ _ _ h => h.below (HK W hb)) (g3.mono (HK W hb) fun _ _ _ h => h.below (HK W hb)) B hB).mono ?_
    rintro _ _ ⟨rfl, h⟩
    exact ⟨rfl, hb.trans (below_le h (HC W hb).2)⟩
  have q5 : Hid (∀ (B : Bool), (B = true ↔ x.result = y.result) → ∀ W, Below (w.heap.size + 2) w2 W → Calls Tryz.prog 99 #[.agg #[.int .i64 x.result.kind, .string (str x.result.name), .slice t2 m2 d2, .slice t3 m3 d3], .agg #[.int .i64 y.result.kind, .string (str y.result.name), .slice t2' m2' d2', .slice t3' m3' d3']] W fun ev w' => ev = .returned (.bool B) ∧ Below (w.heap.size + 2) w2 w') := by
    intro B hB W hb
    refine (xsameType_any (HC W hb).1 (ht.below (HK W hb)) (gt.below (HK W hb)) B hB).mono ?_
    rintro _ _ ⟨rfl, h⟩
    exact ⟨rfl, hb.trans (below_le h (HC W hb).2)⟩
  have q6 : Hid (∀ (B : Bool), (B = true ↔ x.body = y.body) → ∀ W, Below (w.heap.size + 2) w2 W → Calls Tryz.prog 112 #[v8, u8] W fun ev w' => ev = .returned (.bool B) ∧ Below (w.heap.size + 2) w2 w') := by
    intro B hB W hb
    refine (xstmts_any n (HC W hb).1 (h8.mono (HK W hb) fun _ _ _ h => h.below (HK W hb)) (g8.mono (HK W hb) fun _ _ _ h => h.below (HK W hb)) B hB).mono ?_
    rintro _ _ ⟨rfl, h⟩
    exact ⟨rfl, hb.trans (below_le h (HC W hb).2)⟩
  by_cases e0 : x.pub = y.pub
  rotate_left
  · have HF : Hid (B = false) := bool_false HB.out (fun h => e0 (by rw [h]))
    have p0 : (x.pub != y.pub) = true := by simp [e0]
    have p0a : (x.pub == y.pub) = false := by simp [e0]
    have p0b : (x.pub ^^ y.pub) = true := by revert e0; cases x.pub <;> cases y.pub <;> simp
    clear q4 q5 q6 e0 HB HK HC R1 R2 hA hsz hl1 hl2 h3 g3 ht gt h8 g8 hsx hsy 
    subst e2' e3' e4' e5' e6' e7'
    generalize x.pub = s00 at *
    generalize str x.name = s01 at *
    generalize x.pos = s02 at *
    generalize x.lives.length = s03 at *
    generalize x.params.length = s04 at *
    generalize x.result.kind = s05 at *
    generalize str x.result.name = s06 at *
    generalize x.body.length = s07 at *
    generalize y.pub = s10 at *
    generalize str y.name = s11 at *
    generalize y.pos = s12 at *
    generalize y.lives.length = s13 at *
    generalize y.params.length = s14 at *
    generalize y.result.kind = s15 at *
    generalize str y.result.name = s16 at *
    generalize y.body.length = s17 at *
    go_enter Tryz.func64, Tryz.ntmps64
    go_wp2_with fail
    go_ret
    exact ⟨by rw [HF.out]; rfl, HW.out _ (by first | assumption | exact HB0.out)⟩
  by_cases e1 : x.name = y.name
  rotate_left
  · have HF : Hid (B = false) := bool_false HB.out (fun h => e1 (by rw [h]))
    have p0 : (x.pub != y.pub) = false := by simp [e0]
    have p0a : (x.pub == y.pub) = true := by simp [e0]
    have p0b : (x.pub ^^ y.pub) = false := by simp [e0]
    have p1' : ((str x.name).toList == (str y.name).toList) = false := by rw [str_beq]; simp [e1]
    have p1 : ((str x.name).toList != (str y.name).toList) = true := by rw [bne, str_beq]; simp [e1]
    clear q4 q5 q6 e0 e1 HB HK HC R1 R2 hA hsz hl1 hl2 h3 g3 ht gt h8 g8 hsx hsy 
    subst e2' e3' e4' e5' e6' e7'
    generalize x.pub = s00 at *
    generalize str x.name = s01 at *
    generalize x.pos = s02 at *
    generalize x.lives.length = s03 at *
    generalize x.params.length = s04 at *
    generalize x.result.kind = s05 at *
    generalize str x.result.name = s06 at *
    generalize x.body.length = s07 at *
    generalize y.pub = s10 at *
    generalize str y.name = s11 at *
    generalize y.pos = s12 at *
    generalize y.lives.length = s13 at *
    generalize y.params.length = s14 at *
    generalize y.result.kind = s15 at *
    generalize str y.result.name = s16 at *
    generalize y.body.length = s17 at *
    go_enter Tryz.func64, Tryz.ntmps64
    go_wp2_with fail
    go_ret
    exact ⟨by rw [HF.out]; rfl, HW.out _ (by first | assumption | exact HB0.out)⟩
  by_cases e2 : x.pos = y.pos
  rotate_left
  · have HF : Hid (B = false) := bool_false HB.out (fun h => e2 (by rw [h]))
    have p0 : (x.pub != y.pub) = false := by simp [e0]
    have p0a : (x.pub == y.pub) = true := by simp [e0]
    have p0b : (x.pub ^^ y.pub) = false := by simp [e0]
    have p1' : ((str x.name).toList == (str y.name).toList) = true := by rw [str_beq]; simp [e1]
    have p1 : ((str x.name).toList != (str y.name).toList) = false := by rw [bne, str_beq]; simp [e1]
    have p2 : (x.pos != y.pos) = true := by simp [e2]
    clear q4 q5 q6 e0 e1 e2 HB HK HC R1 R2 hA hsz hl1 hl2 h3 g3 ht gt h8 g8 hsx hsy 
    subst e2' e3' e4' e5' e6' e7'
    generalize x.pub = s00 at *
    generalize str x.name = s01 at *
    generalize x.pos = s02 at *
    generalize x.lives.length = s03 at *
    generalize x.params.length = s04 at *
    generalize x.result.kind = s05 at *
    generalize str x.result.name = s06 at *
    generalize x.body.length = s07 at *
    generalize y.pub = s10 at *
    generalize str y.name = s11 at *
    generalize y.pos = s12 at *
    generalize y.lives.length = s13 at *
    generalize y.params.length = s14 at *
    generalize y.result.kind = s15 at *
    generalize str y.result.name = s16 at *
    generalize y.body.length = s17 at *
    go_enter Tryz.func64, Tryz.ntmps64
    go_wp2_with fail
    go_ret
    exact ⟨by rw [HF.out]; rfl, HW.out _ (by first | assumption | exact HB0.out)⟩
  by_cases e3 : x.lives.length = y.lives.length
  rotate_left
  · have HF : Hid (B = false) := bool_false HB.out (fun h => e3 (by rw [h]))
    have p0 : (x.pub != y.pub) = false := by simp [e0]
    have p0a : (x.pub == y.pub) = true := by simp [e0]
    have p0b : (x.pub ^^ y.pub) = false := by simp [e0]
    have p1' : ((str x.name).toList == (str y.name).toList) = true := by rw [str_beq]; simp [e1]
    have p1 : ((str x.name).toList != (str y.name).toList) = false := by rw [bne, str_beq]; simp [e1]
    have p2 : (x.pos != y.pos) = false := by simp [e2]
    have p3 : ((x.lives.length : Int) != (y.lives.length : Int)) = true := by simp; omega
    clear q4 q5 q6 e0 e1 e2 e3 HB HK HC R1 R2 hA hsz hl1 hl2 h3 g3 ht gt h8 g8 hsx hsy 
    subst e2' e3' e4' e5' e6' e7'
    generalize x.pub = s00 at *
    generalize str x.name = s01 at *
    generalize x.pos = s02 at *
    generalize x.lives.length = s03 at *
    generalize x.params.length = s04 at *
    generalize x.result.kind = s05 at *
    generalize str x.result.name = s06 at *
    generalize x.body.length = s07 at *
    generalize y.pub = s10 at *
    generalize str y.name = s11 at *
    generalize y.pos = s12 at *
    generalize y.lives.length = s13 at *
    generalize y.params.length = s14 at *
    generalize y.result.kind = s15 at *
    generalize str y.result.name = s16 at *
    generalize y.body.length = s17 at *
    go_enter Tryz.func64, Tryz.ntmps64
    go_wp2_with fail
    go_ret
    exact ⟨by rw [HF.out]; rfl, HW.out _ (by first | assumption | exact HB0.out)⟩
  by_cases e4 : x.params = y.params
  rotate_left
  · have HF : Hid (B = false) := bool_false HB.out (fun h => e4 (by rw [h]))
    have p0 : (x.pub != y.pub) = false := by simp [e0]
    have p0a : (x.pub == y.pub) = true := by simp [e0]
    have p0b : (x.pub ^^ y.pub) = false := by simp [e0]
    have p1' : ((str x.name).toList == (str y.name).toList) = true := by rw [str_beq]; simp [e1]
    have p1 : ((str x.name).toList != (str y.name).toList) = false := by rw [bne, str_beq]; simp [e1]
    have p2 : (x.pos != y.pos) = false := by simp [e2]
    have p3 : ((x.lives.length : Int) != (y.lives.length : Int)) = false := by simp; omega
    have r4 : Hid (∀ W, Below (w.heap.size + 2) w2 W → Calls Tryz.prog 111 #[v3, u3] W fun ev w' => ev = .returned (.bool false) ∧ Below (w.heap.size + 2) w2 w') := q4.out false ⟨fun h => (by cases h), fun h => absurd h e4⟩
    clear q4 q5 q6 e0 e1 e2 e3 e4 HB HK HC R1 R2 hA hsz hl1 hl2 h3 g3 ht gt h8 g8 hsx hsy 
    subst e2' e3' e4' e5' e6' e7'
    generalize x.pub = s00 at *
    generalize str x.name = s01 at *
    generalize x.pos = s02 at *
    generalize x.lives.length = s03 at *
    generalize x.params.length = s04 at *
    generalize x.result.kind = s05 at *
    generalize str x.result.name = s06 at *
    generalize x.body.length = s07 at *
    generalize y.pub = s10 at *
    generalize str y.name = s11 at *
    generalize y.pos = s12 at *
    generalize y.lives.length = s13 at *
    generalize y.params.length = s14 at *
    generalize y.result.kind = s15 at *
    generalize str y.result.name = s16 at *
    generalize y.body.length = s17 at *
    go_enter Tryz.func64, Tryz.ntmps64
    go_wp2_with fail
    refine (r4.out _ HB0.out).mono ?_
    rintro _ W4 ⟨rfl, hb4⟩
    obtain ⟨a0, a1, a2, a3, a4, a5, a6, a7, a8, a9, b0, b1, b2, b3, b4, b5, b6, b7, b8, b9⟩ := HS.out W4 hb4
    go_wp2_with fail
    go_ret
    exact ⟨by rw [HF.out]; rfl, HW.out _ (by first | assumption | exact HB0.out)⟩
  by_cases e5 : x.result = y.result
  rotate_left
  · have HF : Hid (B = false) := bool_false HB.out (fun h => e5 (by rw [h]))
    have p0 : (x.pub != y.pub) = false := by simp [e0]
    have p0a : (x.pub == y.pub) = true := by simp [e0]
    have p0b : (x.pub ^^ y.pub) = false := by simp [e0]
    have p1' : ((str x.name).toList == (str y.name).toList) = true := by rw [str_beq]; simp [e1]
    have p1 : ((str x.name).toList != (str y.name).toList) = false := by rw [bne, str_beq]; simp [e1]
    have p2 : (x.pos != y.pos) = false := by simp [e2]
    have p3 : ((x.lives.length : Int) != (y.lives.length : Int)) = false := by simp; omega
    have r4 : Hid (∀ W, Below (w.heap.size + 2) w2 W → Calls Tryz.prog 111 #[v3, u3] W fun ev w' => ev = .returned (.bool true) ∧ Below (w.heap.size + 2) w2 w') := q4.out true ⟨fun _ => e4, fun _ => rfl⟩
    have r5 : Hid (∀ W, Below (w.heap.size + 2) w2 W → Calls Tryz.prog 99 #[.agg #[.int .i64 x.result.kind, .string (str x.result.name), .slice t2 m2 d2, .slice t3 m3 d3], .agg #[.int .i64 y.result.kind, .string (str y.result.name), .slice t2' m2' d2', .slice t3' m3' d3']] W fun ev w' => ev = .returned (.bool false) ∧ Below (w.heap.size + 2) w2 w') := q5.out false ⟨fun h => (by cases h), fun h => absurd h e5⟩
    clear q4 q5 q6 e0 e1 e2 e3 e4 e5 HB HK HC R1 R2 hA hsz hl1 hl2 h3 g3 ht gt h8 g8 hsx hsy 
    subst e2' e3' e4' e5' e6' e7'
    generalize x.pub = s00 at *
    generalize str x.name = s01 at *
    generalize x.pos = s02 at *
    generalize x.lives.length = s03 at *
    generalize x.params.length = s04 at *
    generalize x.result.kind = s05 at *
    generalize str x.result.name = s06 at *
    generalize x.body.length = s07 at *
    generalize y.pub = s10 at *
    generalize str y.name = s11 at *
    generalize y.pos = s12 at *
    generalize y.lives.length = s13 at *
    generalize y.params.length = s14 at *
    generalize y.result.kind = s15 at *
    generalize str y.result.name = s16 at *
    generalize y.body.length = s17 at *
    go_enter Tryz.func64, Tryz.ntmps64
    go_wp2_with fail
    refine (r4.out _ HB0.out).mono ?_
    rintro _ W4 ⟨rfl, hb4⟩
    obtain ⟨a0, a1, a2, a3, a4, a5, a6, a7, a8, a9, b0, b1, b2, b3, b4, b5, b6, b7, b8, b9⟩ := HS.out W4 hb4
    go_wp2_with fail
    refine (r5.out _ hb4).mono ?_
    rintro _ W5 ⟨rfl, hb5⟩
    clear a0 b0 a1 b1 a2 b2 a3 b3 a4 b4 a5 b5 a6 b6 a7 b7 a8 b8 a9 b9
    obtain ⟨a0, a1, a2, a3, a4, a5, a6, a7, a8, a9, b0, b1, b2, b3, b4, b5, b6, b7, b8, b9⟩ := HS.out W5 hb5
    go_wp2_with fail
    go_ret
    exact ⟨by rw [HF.out]; rfl, HW.out _ (by first | assumption | exact HB0.out)⟩
  by_cases e6 : x.body = y.body
  rotate_left
  · have HF : Hid (B = false) := bool_false HB.out (fun h => e6 (by rw [h]))
    have p0 : (x.pub != y.pub) = false := by simp [e0]
    have p0a : (x.pub == y.pub) = true := by simp [e0]
    have p0b : (x.pub ^^ y.pub) = false := by simp [e0]
    have p1' : ((str x.name).toList == (str y.name).toList) = true := by rw [str_beq]; simp [e1]
    have p1 : ((str x.name).toList != (str y.name).toList) = false := by rw [bne, str_beq]; simp [e1]
    have p2 : (x.pos != y.pos) = false := by simp [e2]
    have p3 : ((x.lives.length : Int) != (y.lives.length : Int)) = false := by simp; omega
    have r4 : Hid (∀ W, Below (w.heap.size + 2) w2 W → Calls Tryz.prog 111 #[v3, u3] W fun ev w' => ev = .returned (.bool true) ∧ Below (w.heap.size + 2) w2 w') := q4.out true ⟨fun _ => e4, fun _ => rfl⟩
    have r5 : Hid (∀ W, Below (w.heap.size + 2) w2 W → Calls Tryz.prog 99 #[.agg #[.int .i64 x.result.kind, .string (str x.result.name), .slice t2 m2 d2, .slice t3 m3 d3], .agg #[.int .i64 y.result.kind, .string (str y.result.name), .slice t2' m2' d2', .slice t3' m3' d3']] W fun ev w' => ev = .returned (.bool true) ∧ Below (w.heap.size + 2) w2 w') := q5.out true ⟨fun _ => e5, fun _ => rfl⟩
    have r6 : Hid (∀ W, Below (w.heap.size + 2) w2 W → Calls Tryz.prog 112 #[v8, u8] W fun ev w' => ev = .returned (.bool false) ∧ Below (w.heap.size + 2) w2 w') := q6.out false ⟨fun h => (by cases h), fun h => absurd h e6⟩
    clear q4 q5 q6 e0 e1 e2 e3 e4 e5 e6 HB HK HC R1 R2 hA hsz hl1 hl2 h3 g3 ht gt h8 g8 hsx hsy 
    subst e2' e3' e4' e5' e6' e7'
    generalize x.pub = s00 at *
    generalize str x.name = s01 at *
    generalize x.pos = s02 at *
    generalize x.lives.length = s03 at *
    generalize x.params.length = s04 at *
    generalize x.result.kind = s05 at *
    generalize str x.result.name = s06 at *
    generalize x.body.length = s07 at *
    generalize y.pub = s10 at *
    generalize str y.name = s11 at *
    generalize y.pos = s12 at *
    generalize y.lives.length = s13 at *
    generalize y.params.length = s14 at *
    generalize y.result.kind = s15 at *
    generalize str y.result.name = s16 at *
    generalize y.body.length = s17 at *
    go_enter Tryz.func64, Tryz.ntmps64
    go_wp2_with fail
    refine (r4.out _ HB0.out).mono ?_
    rintro _ W4 ⟨rfl, hb4⟩
    obtain ⟨a0, a1, a2, a3, a4, a5, a6, a7, a8, a9, b0, b1, b2, b3, b4, b5, b6, b7, b8, b9⟩ := HS.out W4 hb4
    go_wp2_with fail
    refine (r5.out _ hb4).mono ?_
    rintro _ W5 ⟨rfl, hb5⟩
    clear a0 b0 a1 b1 a2 b2 a3 b3 a4 b4 a5 b5 a6 b6 a7 b7 a8 b8 a9 b9
    obtain ⟨a0, a1, a2, a3, a4, a5, a6, a7, a8, a9, b0, b1, b2, b3, b4, b5, b6, b7, b8, b9⟩ := HS.out W5 hb5
    go_wp2_with fail
    refine (r6.out _ hb5).mono ?_
    rintro _ W6 ⟨rfl, hb6⟩
    clear a0 b0 a1 b1 a2 b2 a3 b3 a4 b4 a5 b5 a6 b6 a7 b7 a8 b8 a9 b9
    obtain ⟨a0, a1, a2, a3, a4, a5, a6, a7, a8, a9, b0, b1, b2, b3, b4, b5, b6, b7, b8, b9⟩ := HS.out W6 hb6
    go_wp2_with fail
    go_ret
    exact ⟨by rw [HF.out]; rfl, HW.out _ (by first | assumption | exact HB0.out)⟩
  have p0 : (x.pub != y.pub) = false := by simp [e0]
  have p0a : (x.pub == y.pub) = true := by simp [e0]
  have p0b : (x.pub ^^ y.pub) = false := by simp [e0]
  have p1' : ((str x.name).toList == (str y.name).toList) = true := by rw [str_beq]; simp [e1]
  have p1 : ((str x.name).toList != (str y.name).toList) = false := by rw [bne, str_beq]; simp [e1]
  have p2 : (x.pos != y.pos) = false := by simp [e2]
  have p3 : ((x.lives.length : Int) != (y.lives.length : Int)) = false := by simp; omega
  have r4 : Hid (∀ W, Below (w.heap.size + 2) w2 W → Calls Tryz.prog 111 #[v3, u3] W fun ev w' => ev = .returned (.bool true) ∧ Below (w.heap.size + 2) w2 w') := q4.out true ⟨fun _ => e4, fun _ => rfl⟩
  have r5 : Hid (∀ W, Below (w.heap.size + 2) w2 W → Calls Tryz.prog 99 #[.agg #[.int .i64 x.result.kind, .string (str x.result.name), .slice t2 m2 d2, .slice t3 m3 d3], .agg #[.int .i64 y.result.kind, .string (str y.result.name), .slice t2' m2' d2', .slice t3' m3' d3']] W fun ev w' => ev = .returned (.bool true) ∧ Below (w.heap.size + 2) w2 w') := q5.out true ⟨fun _ => e5, fun _ => rfl⟩
  have r6 : Hid (∀ W, Below (w.heap.size + 2) w2 W → Calls Tryz.prog 112 #[v8, u8] W fun ev w' => ev = .returned (.bool true) ∧ Below (w.heap.size + 2) w2 w') := q6.out true ⟨fun _ => e6, fun _ => rfl⟩
  obtain ⟨ax, cx, ex, hcx, hbx, HAx⟩ := hsx.shape
  obtain ⟨ay, cy, ey, hcy, hby, HAy⟩ := hsy.shape
  have hl9 : x.lives.length ≤ 9223372036854775807 := by omega
  have HL : Hid (x.lives.length = y.lives.length) := e3
  have HE : Hid (∀ i (h : i < x.lives.length) (h' : i < y.lives.length), ∃ (b o b' o' : Nat) (s1 s2 : Bs) (l1 l2 : List Bs) (p1 p2 : Option Addr) (n1 m1 n2 m2 : Nat), ax = some ⟨b, o, none⟩ ∧ ay = some ⟨b', o', none⟩ ∧ x.lives[i] = ⟨s1, l1⟩ ∧ y.lives[i] = ⟨s2, l2⟩ ∧ (∀ W, Below (w.heap.size + 2) w2 W → W.cell? ⟨b, o + i * 2, none⟩ = some (.string (str s1)) ∧ W.cell? ⟨b, o + i * 2 + 1, none⟩ = some (.slice p1 n1 m1) ∧ W.cell? ⟨b', o' + i * 2, none⟩ = some (.string (str s2)) ∧ W.cell? ⟨b', o' + i * 2 + 1, none⟩ = some (.slice p2 n2 m2)) ∧ (∀ W B, Below (w.heap.size + 2) w2 W → (B = true ↔ l1 = l2) → Calls Tryz.prog 110 #[.slice p1 n1 m1, .slice p2 n2 m2] W fun ev w' => ev = .returned (.bool B) ∧ ∃ m, w' = W.drewN m)) := by
    intro i h h'
    obtain ⟨b, o, e, hbC, cs, hl, hcs, kx⟩ := HAx i h
    obtain ⟨b', o', e', hbC', cs', hl', hcs', ky⟩ := HAy i h'
    obtain ⟨v, rfl, hn1, k1⟩ := kx
    obtain ⟨v', rfl, hn2, k2⟩ := ky
    obtain ⟨p1, m1, rfl⟩ := k1.form
    obtain ⟨p2, m2, rfl⟩ := k2.form
    refine ⟨b, o, b', o', _, _, _, _, p1, p2, (x.lives[i]).over.length, m1, (y.lives[i]).over.length, m2, e, e', rfl, rfl, fun W hw => ?_, fun W B hw hB => ?_⟩
    · exact ⟨((HK W hw).cell (p := ⟨b, o + i * 2, none⟩) hbC).trans (hcs 0 (by decide)), ((HK W hw).cell (p := ⟨b, o + i * 2 + 1, none⟩) hbC).trans (hcs 1 (by decide)), ((HK W hw).cell (p := ⟨b', o' + i * 2, none⟩) hbC').trans (hcs' 0 (by decide)), ((HK W hw).cell (p := ⟨b', o' + i * 2 + 1, none⟩) hbC').trans (hcs' 1 (by decide))⟩
    · exact texts_any (k1.below (HK W hw)) (k2.below (HK W hw)) B hB
  have HQ : Hid ((∀ j (h : j < x.lives.length) (h' : j < y.lives.length), x.lives[j] = y.lives[j]) → B = true) := by
    intro hall
    refine HB.out.2 ?_
    have ee : x.lives = y.lives := eq_upto HL.out hall
    clear q4 q5 q6 HB HS HW HK HC R1 R2 hA hsz HE hsx hsy h3 g3 ht gt h8 g8; cases x; cases y; simp only at e0 e1 e2 e4 e5 e6 ee; subst e0 e1 e2 e4 e5 e6 ee; rfl
  have HN : Hid (∀ j (h : j < x.lives.length) (h' : j < y.lives.length), x.lives[j] ≠ y.lives[j] → B = false) := fun j h h' hne => bool_false HB.out (fun e => hne (by subst e; rfl))
  clear q4 q5 q6 e0 e1 e2 e3 e4 e5 e6 HB HK HC R1 R2 hA hsz hcx hcy hbx hby HAx HAy hsx hsy hl1 hl2 h3 g3 ht gt h8 g8 e2' e3'
  subst e4' e5' e6' e7'
  subst ex ey
  generalize x.pub = s00 at *
  generalize str x.name = s01 at *
  generalize x.pos = s02 at *
  generalize x.params.length = s04 at *
  generalize x.result.kind = s05 at *
  generalize str x.result.name = s06 at *
  generalize x.body.length = s07 at *
  generalize y.pub = s10 at *
  generalize str y.name = s11 at *
  generalize y.pos = s12 at *
  generalize y.params.length = s14 at *
  generalize y.result.kind = s15 at *
  generalize str y.result.name = s16 at *
  generalize y.body.length = s17 at *
  generalize hLX : x.lives = LX at *
  generalize hLY : y.lives = LY at *
  clear hLX hLY
  go_enter Tryz.func64, Tryz.ntmps64
  go_wp2_with fail
  refine (r4.out _ HB0.out).mono ?_
  rintro _ W4 ⟨rfl, hb4⟩
  obtain ⟨a0, a1, a2, a3, a4, a5, a6, a7, a8, a9, b0, b1, b2, b3, b4, b5, b6, b7, b8, b9⟩ := HS.out W4 hb4
  go_wp2_with fail
  refine (r5.out _ hb4).mono ?_
  rintro _ W5 ⟨rfl, hb5⟩
  clear a0 b0 a1 b1 a2 b2 a3 b3 a4 b4 a5 b5 a6 b6 a7 b7 a8 b8 a9 b9
  obtain ⟨a0, a1, a2, a3, a4, a5, a6, a7, a8, a9, b0, b1, b2, b3, b4, b5, b6, b7, b8, b9⟩ := HS.out W5 hb5
  go_wp2_with fail
  refine (r6.out _ hb5).mono ?_
  rintro _ W6 ⟨rfl, hb6⟩
  clear a0 b0 a1 b1 a2 b2 a3 b3 a4 b4 a5 b5 a6 b6 a7 b7 a8 b8 a9 b9
  obtain ⟨a0, a1, a2, a3, a4, a5, a6, a7, a8, a9, b0, b1, b2, b3, b4, b5, b6, b7, b8, b9⟩ := HS.out W6 hb6
  go_wp2_with fail
  go_loopw [5] (fun i wr => ∃ k : Nat, k ≤ LX.length ∧ i = .int .i64 k ∧ (∀ j (h : j < LX.length) (h' : j < LY.length), j < k → LX[j] = LY[j]) ∧ Below (w.heap.size + 2) w2 wr) (fun i _ => LX.length - (intOf i).toNat)
  case atStart => exact ⟨0, by omega, rfl, fun j _ _ h => by omega, by assumption⟩
  case round =>
    obtain ⟨k, hk, rfl, hj, hbw⟩ := hrel
    have HJ : Hid (∀ j (h : j < LX.length) (h' : j < LY.length), j < k → LX[j] = LY[j]) := hj
    have HBW : Hid (Below (w.heap.size + 2) w2 wr) := hbw
    clear hj hbw HB0
    clear a0 b0 a1 b1 a2 b2 a3 b3 a4 b4 a5 b5 a6 b6 a7 b7 a8 b8 a9 b9 hb4 r4 hb5 r5 hb6 r6
    obtain ⟨a0, a1, a2, a3, a4, a5, a6, a7, a8, a9, b0, b1, b2, b3, b4, b5, b6, b7, b8, b9⟩ := HS.out wr HBW.out
    clear a0 b0 a1 b1 a3 b3 a4 b4 a5 b5 a6 b6 a7 b7 a8 b8 a9 b9
    by_cases h3 : k < LX.length
    rotate_left
    · have i1 : ¬ (k : Int) < (LX.length : Int) := by omega
      have HF : Hid (B = true) := HQ.out (fun j h h' => HJ.out j h h' (by omega))
      go_wp2_with fail
      go_ret
      exact ⟨by rw [HF.out]; rfl, HW.out _ HBW.out⟩
    have h4 : k < LY.length := by rw [← HL.out]; exact h3
    obtain ⟨b, o, b', o', s1, s2, l1, l2, p1, p2, n1, m1, n2, m2, ex1, ey1, g1, g2, hcell, hcall⟩ := HE.out k h3 h4
    subst ex1 ey1
    have i1 : (k : Int) < (LX.length : Int) := by omega
    have i2 : (k : Int) < (LY.length : Int) := by omega
    obtain ⟨f0, f1, f2, f3⟩ := hcell wr HBW.out
    have HN2 : Hid (LX[k] ≠ LY[k] → B = false) := HN.out k h3 h4
    have G1 : Hid (LX[k] = ⟨s1, l1⟩) := g1
    have G2 : Hid (LY[k] = ⟨s2, l2⟩) := g2
    have DC : Hid (∀ n B, (B = true ↔ l1 = l2) → Calls Tryz.prog 110 #[.slice p1 n1 m1, .slice p2 n2 m2] (wr.drewN n) fun ev w' => ev = .returned (.bool B) ∧ ∃ m, w' = (wr.drewN n).drewN m) := fun n B hB => hcall _ B (HBW.out.trans (Below.drewN _ _ _)) hB
    clear hcell hcall g1 g2 HE HN HQ
    by_cases e1 : s1 = s2
    rotate_left
    · have HF : Hid (B = false) := HN2.out (by rw [G1.out, G2.out]; intro h; injection h with h _; exact e1 h)
      have p1' : ((str s1).toList == (str s2).toList) = false := by rw [str_beq]; simp [e1]
      have p1n : ((str s1).toList != (str s2).toList) = true := by rw [bne, str_beq]; simp [e1]
      clear e1 DC HN2 G1 G2 HJ HL
      generalize str s1 = S1 at *
      generalize str s2 = S2 at *
      go_wp2_with fail
      go_quiet (fail)
      go_wp2_with fail
      go_ret
      exact ⟨by rw [HF.out]; rfl, HW.out _ (HBW.out.trans (Below.drewN _ _ _))⟩
    have p1' : ((str s1).toList == (str s2).toList) = true := by rw [str_beq]; simp [e1]
    have p1n : ((str s1).toList != (str s2).toList) = false := by rw [bne, str_beq]; simp [e1]
    by_cases e2 : l1 = l2
    · have D : Hid (∀ n, Calls Tryz.prog 110 #[.slice p1 n1 m1, .slice p2 n2 m2] (wr.drewN n) fun ev w' => ev = .returned (.bool true) ∧ ∃ m, w' = (wr.drewN n).drewN m) := fun n => DC.out n true ⟨fun _ => e2, fun _ => rfl⟩
      have HJ' : Hid (∀ j (h : j < LX.length) (h' : j < LY.length), j < k + 1 → LX[j] = LY[j]) := by
        intro j ha hb hjk
        rcases Nat.lt_or_ge j k with h | h
        · exact HJ.out j ha hb h
        · obtain rfl : j = k := by omega
          rw [G1.out, G2.out, e1, e2]
      clear e1 e2 DC HN2 G1 G2 HJ HL
      generalize str s1 = S1 at *
      generalize str s2 = S2 at *
      go_wp2_with fail
      go_quiet (first | (go_at_call 110; exact Calls.quiet_of (D.out _)))
      go_wp2_with fail
      go_roundw
      case rel => exact ⟨k + 1, by omega, by go_num, HJ'.out, HBW.out.trans (Below.drewN _ _ _)⟩
      case measure => simp [intOf]; omega
    · have D : Hid (∀ n, Calls Tryz.prog 110 #[.slice p1 n1 m1, .slice p2 n2 m2] (wr.drewN n) fun ev w' => ev = .returned (.bool false) ∧ ∃ m, w' = (wr.drewN n).drewN m) := fun n => DC.out n false ⟨fun h => (by cases h), fun h => absurd h e2⟩
      have HF : Hid (B = false) := HN2.out (by rw [G1.out, G2.out]; intro h; injection h with _ h; exact e2 h)
      clear e1 e2 DC HN2 G1 G2 HJ HL
      generalize str s1 = S1 at *
      generalize str s2 = S2 at *
      go_wp2_with fail
      go_quiet (first | (go_at_call 110; exact Calls.quiet_of (D.out _)))
      go_wp2_with fail
      go_ret
      exact ⟨by rw [HF.out]; rfl, HW.out _ (HBW.out.trans (Below.drewN _ _ _))⟩
end Go.Proofs.YtmopffaocamieaaGreat
