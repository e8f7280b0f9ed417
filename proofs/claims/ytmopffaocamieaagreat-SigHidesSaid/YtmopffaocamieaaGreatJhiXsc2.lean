/-
  The texts Xsc, Cn2, joined.
-/
import Derived.Test.YtmopffaocamieaaGreatQhiXsf
import Derived.Test.YtmopffaocamieaaGreatQhiMfd
namespace Go.Proofs.YtmopffaocamieaaGreat
open Go.RowKit

set_option maxHeartbeats 8000000 in
set_option maxRecDepth 20000 in
theorem xstruct_any  {K : Ctx} {w : World} (hC : K.C ≤ w.heap.size) {x y : Sct} {cs cs' : List Value} (hx : SctAt K w cs x) (hy : SctAt K w cs' y) (B : Bool) (hB : B = true ↔ x = y) :
    Calls Tryz.prog 63 #[.agg cs.toArray, .agg cs'.toArray] w fun ev w' => ev = .returned (.bool B) ∧ Below w.heap.size w w' := by
  obtain ⟨v2, v3, rfl, hl1, h2, h3⟩ := hx
  obtain ⟨u2, u3, rfl, hl2, g2, g3⟩ := hy
  obtain ⟨a2, c2, e2'⟩ := h2.form
  obtain ⟨a2', c2', e3'⟩ := g2.form
  obtain ⟨a3, c3, e4'⟩ := h3.form
  obtain ⟨a3', c3', e5'⟩ := g3.form
  obtain ⟨w2, hw2⟩ : ∃ w2, w2 = ((w.alloc (.cells #[.bool x.pub, .string (str x.name), v2, v3, .int .i64 x.pos] 58)).alloc (.cells #[.bool y.pub, .string (str y.name), u2, u3, .int .i64 y.pos] 58)) := ⟨_, rfl⟩
  have hA : Below w.heap.size w w2 := by rw [hw2]; exact alloc_two w _ _
  have hsz : w2.heap.size = w.heap.size + 2 := by rw [hw2, size_alloc, size_alloc]
  have R1 : Row w2 w.heap.size 58 [.bool x.pub, .string (str x.name), v2, v3, .int .i64 x.pos] := by rw [hw2]; exact (Row.new w 58 [.bool x.pub, .string (str x.name), v2, v3, .int .i64 x.pos]).alloc _
  have R2 : Row w2 (w.heap.size + 1) 58 [.bool y.pub, .string (str y.name), u2, u3, .int .i64 y.pos] := by
    have := Row.new (w.alloc (.cells #[.bool x.pub, .string (str x.name), v2, v3, .int .i64 x.pos] 58)) 58 [.bool y.pub, .string (str y.name), u2, u3, .int .i64 y.pos]
    rw [size_alloc] at this; rw [hw2]; exact this
  have HB0 : Hid (Below (w.heap.size + 2) w2 ((w.alloc (.cells #[.bool x.pub, .string (str x.name), v2, v3, .int .i64 x.pos] 58)).alloc (.cells #[.bool y.pub, .string (str y.name), u2, u3, .int .i64 y.pos] 58))) := by show Below _ _ _; rw [← hw2]; exact Below.refl _ _
  clear hw2
  have HS : Hid (∀ W, Below (w.heap.size + 2) w2 W → W.cell? ⟨w.heap.size, 0, none⟩ = some (.bool x.pub) ∧ W.cell? ⟨w.heap.size, 1, none⟩ = some (.string (str x.name)) ∧ W.cell? ⟨w.heap.size, 2, none⟩ = some (v2) ∧ W.cell? ⟨w.heap.size, 3, none⟩ = some (v3) ∧ W.cell? ⟨w.heap.size, 4, none⟩ = some (.int .i64 x.pos) ∧ W.cell? ⟨w.heap.size + 1, 0, none⟩ = some (.bool y.pub) ∧ W.cell? ⟨w.heap.size + 1, 1, none⟩ = some (.string (str y.name)) ∧ W.cell? ⟨w.heap.size + 1, 2, none⟩ = some (u2) ∧ W.cell? ⟨w.heap.size + 1, 3, none⟩ = some (u3) ∧ W.cell? ⟨w.heap.size + 1, 4, none⟩ = some (.int .i64 y.pos)) := by
    intro W hb
    have r1 := R1.below hb (by omega)
    have r2 := R2.below hb (by omega)
    exact ⟨r1.cell 0, r1.cell 1, r1.cell 2, r1.cell 3, r1.cell 4, r2.cell 0, r2.cell 1, r2.cell 2, r2.cell 3, r2.cell 4⟩
  have HW : Hid (∀ W, Below (w.heap.size + 2) w2 W → Below w.heap.size w W) := fun W hb => hA.trans (below_le hb (by omega))
  have HK : ∀ W, Below (w.heap.size + 2) w2 W → Below K.C w W := fun W hb => below_le (HW.out W hb) hC
  have HC : ∀ W, Below (w.heap.size + 2) w2 W → K.C ≤ W.heap.size ∧ w.heap.size + 2 ≤ W.heap.size := fun W hb => by have := hb.size; omega
  have HB : Hid (B = true ↔ x = y) := hB
  clear hB
  have q3 : Hid (∀ (B : Bool), (B = true ↔ x.lives = y.lives) → ∀ W, Below (w.heap.size + 2) w2 W → Calls Tryz.prog 110 #[v2, u2] W fun ev w' => ev = .returned (.bool B) ∧ Below (w.heap.size + 2) w2 w') := by
    intro B hB W hb
    refine (texts_any (h2.below (HK W hb)) (g2.below (HK W hb)) B hB).mono ?_
    rintro _ _ ⟨rfl, m, rfl⟩
    exact ⟨rfl, hb.trans (Below.drewN _ _ _)⟩
  have q4 : Hid (∀ (B : Bool), (B = true ↔ x.fields = y.fields) → ∀ W, Below (w.heap.size + 2) w2 W → Calls Tryz.prog 111 #[v3, u3] W fun ev w' => ev = .returned (.bool B) ∧ Below (w.heap.size + 2) w2 w') := by
    intro B hB W hb
    refine (xfields_any (HC W hb).1 (h3.mono (HK W hb) fun _ _ _ h => h.below (HK W hb)) (g3.mono (HK W hb) fun _ _ _ h => h.below (HK W hb)) B hB).mono ?_
    rintro _ _ ⟨rfl, h⟩
    exact ⟨rfl, hb.trans (below_le h (HC W hb).2)⟩
  by_cases e0 : x.pub = y.pub
  rotate_left
  · have HF : Hid (B = false) := bool_false HB.out (fun h => e0 (by rw [h]))
    have p0 : (x.pub == y.pub) = false := by simp [e0]
    clear q3 q4 e0 HB HK HC R1 R2 hA hsz hl1 hl2 h2 g2 h3 g3 
    subst e2' e3' e4' e5'
    generalize x.pub = s00 at *
    generalize str x.name = s01 at *
    generalize x.pos = s02 at *
    generalize x.lives.length = s03 at *
    generalize x.fields.length = s04 at *
    generalize y.pub = s10 at *
    generalize str y.name = s11 at *
    generalize y.pos = s12 at *
    generalize y.lives.length = s13 at *
    generalize y.fields.length = s14 at *
    go_enter Tryz.func63, Tryz.ntmps63
    go_wp2_with fail
    go_ret
    exact ⟨by rw [HF.out]; rfl, HW.out _ (by first | assumption | exact HB0.out)⟩
  by_cases e1 : x.name = y.name
  rotate_left
  · have HF : Hid (B = false) := bool_false HB.out (fun h => e1 (by rw [h]))
    have p0 : (x.pub == y.pub) = true := by simp [e0]
    have p1 : ((str x.name).toList == (str y.name).toList) = false := by rw [str_beq]; simp [e1]
    clear q3 q4 e0 e1 HB HK HC R1 R2 hA hsz hl1 hl2 h2 g2 h3 g3 
    subst e2' e3' e4' e5'
    generalize x.pub = s00 at *
    generalize str x.name = s01 at *
    generalize x.pos = s02 at *
    generalize x.lives.length = s03 at *
    generalize x.fields.length = s04 at *
    generalize y.pub = s10 at *
    generalize str y.name = s11 at *
    generalize y.pos = s12 at *
    generalize y.lives.length = s13 at *
    generalize y.fields.length = s14 at *
    go_enter Tryz.func63, Tryz.ntmps63
    go_wp2_with fail
    go_ret
    exact ⟨by rw [HF.out]; rfl, HW.out _ (by first | assumption | exact HB0.out)⟩
  by_cases e2 : x.pos = y.pos
  rotate_left
  · have HF : Hid (B = false) := bool_false HB.out (fun h => e2 (by rw [h]))
    have p0 : (x.pub == y.pub) = true := by simp [e0]
    have p1 : ((str x.name).toList == (str y.name).toList) = true := by rw [str_beq]; simp [e1]
    have p2 : (x.pos == y.pos) = false := by simp [e2]
    clear q3 q4 e0 e1 e2 HB HK HC R1 R2 hA hsz hl1 hl2 h2 g2 h3 g3 
    subst e2' e3' e4' e5'
    generalize x.pub = s00 at *
    generalize str x.name = s01 at *
    generalize x.pos = s02 at *
    generalize x.lives.length = s03 at *
    generalize x.fields.length = s04 at *
    generalize y.pub = s10 at *
    generalize str y.name = s11 at *
    generalize y.pos = s12 at *
    generalize y.lives.length = s13 at *
    generalize y.fields.length = s14 at *
    go_enter Tryz.func63, Tryz.ntmps63
    go_wp2_with fail
    go_ret
    exact ⟨by rw [HF.out]; rfl, HW.out _ (by first | assumption | exact HB0.out)⟩
  by_cases e3 : x.lives = y.lives
  rotate_left
  · have HF : Hid (B = false) := bool_false HB.out (fun h => e3 (by rw [h]))
    have p0 : (x.pub == y.pub) = true := by simp [e0]
    have p1 : ((str x.name).toList == (str y.name).toList) = true := by rw [str_beq]; simp [e1]
    have p2 : (x.pos == y.pos) = true := by simp [e2]
    have r3 : Hid (∀ W, Below (w.heap.size + 2) w2 W → Calls Tryz.prog 110 #[v2, u2] W fun ev w' => ev = .returned (.bool false) ∧ Below (w.heap.size + 2) w2 w') := q3.out false ⟨fun h => (by cases h), fun h => absurd h e3⟩
    clear q3 q4 e0 e1 e2 e3 HB HK HC R1 R2 hA hsz hl1 hl2 h2 g2 h3 g3 
    subst e2' e3' e4' e5'
    generalize x.pub = s00 at *
    generalize str x.name = s01 at *
    generalize x.pos = s02 at *
    generalize x.lives.length = s03 at *
    generalize x.fields.length = s04 at *
    generalize y.pub = s10 at *
    generalize str y.name = s11 at *
    generalize y.pos = s12 at *
    generalize y.lives.length = s13 at *
    generalize y.fields.length = s14 at *
    go_enter Tryz.func63, Tryz.ntmps63
    go_wp2_with fail
    refine (r3.out _ HB0.out).mono ?_
    rintro _ W3 ⟨rfl, hb3⟩
    obtain ⟨a0, a1, a2, a3, a4, b0, b1, b2, b3, b4⟩ := HS.out W3 hb3
    go_wp2_with fail
    go_ret
    exact ⟨by rw [HF.out]; rfl, HW.out _ (by first | assumption | exact HB0.out)⟩
  by_cases e4 : x.fields = y.fields
  rotate_left
  · have HF : Hid (B = false) := bool_false HB.out (fun h => e4 (by rw [h]))
    have p0 : (x.pub == y.pub) = true := by simp [e0]
    have p1 : ((str x.name).toList == (str y.name).toList) = true := by rw [str_beq]; simp [e1]
    have p2 : (x.pos == y.pos) = true := by simp [e2]
    have r3 : Hid (∀ W, Below (w.heap.size + 2) w2 W → Calls Tryz.prog 110 #[v2, u2] W fun ev w' => ev = .returned (.bool true) ∧ Below (w.heap.size + 2) w2 w') := q3.out true ⟨fun _ => e3, fun _ => rfl⟩
    have r4 : Hid (∀ W, Below (w.heap.size + 2) w2 W → Calls Tryz.prog 111 #[v3, u3] W fun ev w' => ev = .returned (.bool false) ∧ Below (w.heap.size + 2) w2 w') := q4.out false ⟨fun h => (by cases h), fun h => absurd h e4⟩
    clear q3 q4 e0 e1 e2 e3 e4 HB HK HC R1 R2 hA hsz hl1 hl2 h2 g2 h3 g3 
    subst e2' e3' e4' e5'
    generalize x.pub = s00 at *
    generalize str x.name = s01 at *
    generalize x.pos = s02 at *
    generalize x.lives.length = s03 at *
    generalize x.fields.length = s04 at *
    generalize y.pub = s10 at *
    generalize str y.name = s11 at *
    generalize y.pos = s12 at *
    generalize y.lives.length = s13 at *
    generalize y.fields.length = s14 at *
    go_enter Tryz.func63, Tryz.ntmps63
    go_wp2_with fail
    refine (r3.out _ HB0.out).mono ?_
    rintro _ W3 ⟨rfl, hb3⟩
    obtain ⟨a0, a1, a2, a3, a4, b0, b1, b2, b3, b4⟩ := HS.out W3 hb3
    go_wp2_with fail
    refine (r4.out _ hb3).mono ?_
    rintro _ W4 ⟨rfl, hb4⟩
    clear a0 b0 a1 b1 a2 b2 a3 b3 a4 b4
    obtain ⟨a0, a1, a2, a3, a4, b0, b1, b2, b3, b4⟩ := HS.out W4 hb4
    go_wp2_with fail
    go_ret
    exact ⟨by rw [HF.out]; rfl, HW.out _ (by first | assumption | exact HB0.out)⟩
  have HF : Hid (B = true) := by
    refine HB.out.2 ?_
    clear q3 q4 HB HS HW HK HC R1 R2 hA hsz hl1 hl2 h2 g2 h3 g3
    cases x; cases y; simp only at e0 e1 e2 e3 e4; subst e0 e1 e2 e3 e4; rfl
  have p0 : (x.pub == y.pub) = true := by simp [e0]
  have p1 : ((str x.name).toList == (str y.name).toList) = true := by rw [str_beq]; simp [e1]
  have p2 : (x.pos == y.pos) = true := by simp [e2]
  have r3 : Hid (∀ W, Below (w.heap.size + 2) w2 W → Calls Tryz.prog 110 #[v2, u2] W fun ev w' => ev = .returned (.bool true) ∧ Below (w.heap.size + 2) w2 w') := q3.out true ⟨fun _ => e3, fun _ => rfl⟩
  have r4 : Hid (∀ W, Below (w.heap.size + 2) w2 W → Calls Tryz.prog 111 #[v3, u3] W fun ev w' => ev = .returned (.bool true) ∧ Below (w.heap.size + 2) w2 w') := q4.out true ⟨fun _ => e4, fun _ => rfl⟩
  clear q3 q4 e0 e1 e2 e3 e4 HB HK HC R1 R2 hA hsz hl1 hl2 h2 g2 h3 g3 
  subst e2' e3' e4' e5'
  generalize x.pub = s00 at *
  generalize str x.name = s01 at *
  generalize x.pos = s02 at *
  generalize x.lives.length = s03 at *
  generalize x.fields.length = s04 at *
  generalize y.pub = s10 at *
  generalize str y.name = s11 at *
  generalize y.pos = s12 at *
  generalize y.lives.length = s13 at *
  generalize y.fields.length = s14 at *
  go_enter Tryz.func63, Tryz.ntmps63
  go_wp2_with fail
  refine (r3.out _ HB0.out).mono ?_
  rintro _ W3 ⟨rfl, hb3⟩
  obtain ⟨a0, a1, a2, a3, a4, b0, b1, b2, b3, b4⟩ := HS.out W3 hb3
  go_wp2_with fail
  refine (r4.out _ hb3).mono ?_
  rintro _ W4 ⟨rfl, hb4⟩
  clear a0 b0 a1 b1 a2 b2 a3 b3 a4 b4
  obtain ⟨a0, a1, a2, a3, a4, b0, b1, b2, b3, b4⟩ := HS.out W4 hb4
  go_wp2_with fail
  go_ret
  exact ⟨by rw [HF.out]; rfl, HW.out _ (by first | assumption | exact HB0.out)⟩
end Go.Proofs.YtmopffaocamieaaGreat

namespace Go.Proofs.YtmopffaocamieaaGreat
open Go.RowKit

/-- How many statements there are within one. -/
def inner : Nat → St → Nat
  | 0, _ => 0
  | n + 1, s => (s.thn.map fun t => 1 + inner n t).sum + (s.els.map fun t => 1 + inner n t).sum
def cnt (n : Nat) (l : List St) : Nat := (l.map fun t => 1 + inner n t).sum
theorem inner_succ (n : Nat) (s : St) : inner (n + 1) s = cnt n s.thn + cnt n s.els := rfl
theorem cnt_nil (n : Nat) : cnt n [] = 0 := rfl
theorem cnt_cons (n : Nat) (s : St) (l : List St) : cnt n (s :: l) = 1 + inner n s + cnt n l := rfl
theorem wrap_small {a : Int} (h1 : -9223372036854775808 ≤ a) (h2 : a ≤ 9223372036854775807) : IntKind.i64.wrap a = a := by
  have e := IntKind.wrap_i64 a
  rw [e]
  omega
theorem want {c p q : Prop} [Decidable c] (hc : c) (h : p) : if c then p else q := by rw [if_pos hc]; exact h
theorem Tryz.info49z : (Tryz.prog.info? 114).map (fun i => (i.zero, i.size, i.bytes)) = some (some (.agg (stCells 0 0).toArray), 32, 496) := by kernel_rfl
end Go.Proofs.YtmopffaocamieaaGreat
