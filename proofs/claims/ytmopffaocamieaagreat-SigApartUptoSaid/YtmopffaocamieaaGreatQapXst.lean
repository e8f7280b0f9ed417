/-
  Types: are two the same? The document says it.
-/
import Derived.Test.YtmopffaocamieaaGreatJapStl2
import Derived.Deep.RegionHeld3
namespace Go.Proofs.YtmopffaocamieaaGreat
open Go.RowKit

set_option maxHeartbeats 8000000 in
set_option maxRecDepth 20000 in
theorem xsameType_of {n : Nat} (ih : ∀ {K : Ctx} {w : World}, K.C ≤ w.heap.size → ∀ {x y : Ty} {cs cs' : List Value}, TyAt n K w cs x → TyAt n K w cs' y → ∀ (B : Bool), (B = true ↔ x = y) → Calls Tryz.prog 99 #[.agg cs.toArray, .agg cs'.toArray] w fun ev w' => ev = .returned (.bool B) ∧ Below w.heap.size w w') {K : Ctx} {w : World} (hC : K.C ≤ w.heap.size) {x y : Ty} {cs cs' : List Value} (hx : TyAt (n + 1) K w cs x) (hy : TyAt (n + 1) K w cs' y) (B : Bool) (hB : B = true ↔ x = y) :
    Calls Tryz.prog 99 #[.agg cs.toArray, .agg cs'.toArray] w fun ev w' => ev = .returned (.bool B) ∧ Below w.heap.size w w' := by
  obtain ⟨v2, v3, rfl, hl1, h2, hsx⟩ := hx
  obtain ⟨u2, u3, rfl, hl2, g2, hsy⟩ := hy
  obtain ⟨a2, c2, e2'⟩ := h2.form
  obtain ⟨a2', c2', e3'⟩ := g2.form
  obtain ⟨a3, c3, e4'⟩ := hsx.form
  obtain ⟨a3', c3', e5'⟩ := hsy.form
  obtain ⟨w2, hw2⟩ : ∃ w2, w2 = ((w.alloc (.cells #[.int .i64 x.kind, .string (str x.name), v2, v3] 62)).alloc (.cells #[.int .i64 y.kind, .string (str y.name), u2, u3] 62)) := ⟨_, rfl⟩
  have hA : Below w.heap.size w w2 := by rw [hw2]; exact alloc_two w _ _
  have hsz : w2.heap.size = w.heap.size + 2 := by rw [hw2, size_alloc, size_alloc]
  have R1 : Row w2 w.heap.size 62 [.int .i64 x.kind, .string (str x.name), v2, v3] := by rw [hw2]; exact (Row.new w 62 [.int .i64 x.kind, .string (str x.name), v2, v3]).alloc _
  have R2 : Row w2 (w.heap.size + 1) 62 [.int .i64 y.kind, .string (str y.name), u2, u3] := by
    have := Row.new (w.alloc (.cells #[.int .i64 x.kind, .string (str x.name), v2, v3] 62)) 62 [.int .i64 y.kind, .string (str y.name), u2, u3]
    rw [size_alloc] at this; rw [hw2]; exact this
  have HB0 : Hid (Below (w.heap.size + 2) w2 ((w.alloc (.cells #[.int .i64 x.kind, .string (str x.name), v2, v3] 62)).alloc (.cells #[.int .i64 y.kind, .string (str y.name), u2, u3] 62))) := by show Below _ _ _; rw [← hw2]; exact Below.refl _ _
  clear hw2
  have HS : Hid (∀ W, Below (w.heap.size + 2) w2 W → W.cell? ⟨w.heap.size, 0, none⟩ = some (.int .i64 x.kind) ∧ W.cell? ⟨w.heap.size, 1, none⟩ = some (.string (str x.name)) ∧ W.cell? ⟨w.heap.size, 2, none⟩ = some (v2) ∧ W.cell? ⟨w.heap.size, 3, none⟩ = some (v3) ∧ W.cell? ⟨w.heap.size + 1, 0, none⟩ = some (.int .i64 y.kind) ∧ W.cell? ⟨w.heap.size + 1, 1, none⟩ = some (.string (str y.name)) ∧ W.cell? ⟨w.heap.size + 1, 2, none⟩ = some (u2) ∧ W.cell? ⟨w.heap.size + 1, 3, none⟩ = some (u3)) := by
    intro W hb
    have r1 := R1.below hb (by omega)
    have r2 := R2.below hb (by omega)
    exact ⟨r1.cell 0, r1.cell 1, r1.cell 2, r1.cell 3, r2.cell 0, r2.cell 1, r2.cell 2, r2.cell 3⟩
  have HW : Hid (∀ W, Below (w.heap.size + 2) w2 W → Below w.heap.size w W) := fun W hb => hA.trans (below_le hb (by omega))
  have HK : ∀ W, Below (w.heap.size + 2) w2 W → Below K.C w W := fun W hb => below_le (HW.out W hb) hC
  have HC : ∀ W, Below (w.heap.size + 2) w2 W → K.C ≤ W.heap.size ∧ w.heap.size + 2 ≤ W.heap.size := fun W hb => by have := hb.size; omega
  have HB : Hid (B = true ↔ x = y) := hB
  clear hB
  have q2 : Hid (∀ (B : Bool), (B = true ↔ x.lives = y.lives) → ∀ W, Below (w.heap.size + 2) w2 W → Calls Tryz.prog 110 #[v2, u2] W fun ev w' => ev = .returned (.bool B) ∧ Below (w.heap.size + 2) w2 w') := by
    intro B hB W hb
    refine (texts_any (h2.below (HK W hb)) (g2.below (HK W hb)) B hB).mono ?_
    rintro _ _ ⟨rfl, m, rfl⟩
    exact ⟨rfl, hb.trans (Below.drewN _ _ _)⟩
  by_cases e0 : x.kind = y.kind
  rotate_left
  · have HF : Hid (B = false) := bool_false HB.out (fun h => e0 (by rw [h]))
    have p0 : (x.kind != y.kind) = true := by simp [e0]
    clear q2 e0 HB HK HC R1 R2 hA hsz hl1 hl2 h2 g2 hsx hsy ih
    subst e2' e3' e4' e5'
    generalize x.kind = s0 at *
    generalize y.kind = t0 at *
    generalize str x.name = S1 at *
    generalize str y.name = S2 at *
    generalize x.lives.length = n1 at *
    generalize y.lives.length = n2 at *
    generalize x.elem.length = n3 at *
    generalize y.elem.length = n4 at *
    go_enter Tryz.func99, Tryz.ntmps99
    go_wp2_with fail
    go_ret
    exact ⟨by rw [HF.out]; rfl, HW.out _ (by first | assumption | exact HB0.out)⟩
  by_cases e1 : x.name = y.name
  rotate_left
  · have HF : Hid (B = false) := bool_false HB.out (fun h => e1 (by rw [h]))
    have p0 : (x.kind != y.kind) = false := by simp [e0]
    have p1' : ((str x.name).toList == (str y.name).toList) = false := by rw [str_beq]; simp [e1]
    have p1 : ((str x.name).toList != (str y.name).toList) = true := by rw [bne, str_beq]; simp [e1]
    clear q2 e0 e1 HB HK HC R1 R2 hA hsz hl1 hl2 h2 g2 hsx hsy ih
    subst e2' e3' e4' e5'
    generalize x.kind = s0 at *
    generalize y.kind = t0 at *
    generalize str x.name = S1 at *
    generalize str y.name = S2 at *
    generalize x.lives.length = n1 at *
    generalize y.lives.length = n2 at *
    generalize x.elem.length = n3 at *
    generalize y.elem.length = n4 at *
    go_enter Tryz.func99, Tryz.ntmps99
    go_wp2_with fail
    go_ret
    exact ⟨by rw [HF.out]; rfl, HW.out _ (by first | assumption | exact HB0.out)⟩
  by_cases e2 : x.lives = y.lives
  rotate_left
  · have HF : Hid (B = false) := bool_false HB.out (fun h => e2 (by rw [h]))
    have p0 : (x.kind != y.kind) = false := by simp [e0]
    have p1' : ((str x.name).toList == (str y.name).toList) = true := by rw [str_beq]; simp [e1]
    have p1 : ((str x.name).toList != (str y.name).toList) = false := by rw [bne, str_beq]; simp [e1]
    have r2 : Hid (∀ W, Below (w.heap.size + 2) w2 W → Calls Tryz.prog 110 #[v2, u2] W fun ev w' => ev = .returned (.bool false) ∧ Below (w.heap.size + 2) w2 w') := q2.out false ⟨fun h => (by cases h), fun h => absurd h e2⟩
    clear q2 e0 e1 e2 HB HK HC R1 R2 hA hsz hl1 hl2 h2 g2 hsx hsy ih
    subst e2' e3' e4' e5'
    generalize x.kind = s0 at *
    generalize y.kind = t0 at *
    generalize str x.name = S1 at *
    generalize str y.name = S2 at *
    generalize x.lives.length = n1 at *
    generalize y.lives.length = n2 at *
    generalize x.elem.length = n3 at *
    generalize y.elem.length = n4 at *
    go_enter Tryz.func99, Tryz.ntmps99
    go_wp2_with fail
    refine (r2.out _ HB0.out).mono ?_
    rintro _ W2 ⟨rfl, hb2⟩
    obtain ⟨a0, a1, a2, a3, b0, b1, b2, b3⟩ := HS.out W2 hb2
    go_wp2_with fail
    go_ret
    exact ⟨by rw [HF.out]; rfl, HW.out _ (by first | assumption | exact HB0.out)⟩
  by_cases e3 : x.elem.length = y.elem.length
  rotate_left
  · have HF : Hid (B = false) := bool_false HB.out (fun h => e3 (by rw [h]))
    have p0 : (x.kind != y.kind) = false := by simp [e0]
    have p1' : ((str x.name).toList == (str y.name).toList) = true := by rw [str_beq]; simp [e1]
    have p1 : ((str x.name).toList != (str y.name).toList) = false := by rw [bne, str_beq]; simp [e1]
    have r2 : Hid (∀ W, Below (w.heap.size + 2) w2 W → Calls Tryz.prog 110 #[v2, u2] W fun ev w' => ev = .returned (.bool true) ∧ Below (w.heap.size + 2) w2 w') := q2.out true ⟨fun _ => e2, fun _ => rfl⟩
    have p3 : ((x.elem.length : Int) != (y.elem.length : Int)) = true := by simp; omega
    clear q2 e0 e1 e2 e3 HB HK HC R1 R2 hA hsz hl1 hl2 h2 g2 hsx hsy ih
    subst e2' e3' e4' e5'
    generalize x.kind = s0 at *
    generalize y.kind = t0 at *
    generalize str x.name = S1 at *
    generalize str y.name = S2 at *
    generalize x.lives.length = n1 at *
    generalize y.lives.length = n2 at *
    generalize x.elem.length = n3 at *
    generalize y.elem.length = n4 at *
    go_enter Tryz.func99, Tryz.ntmps99
    go_wp2_with fail
    refine (r2.out _ HB0.out).mono ?_
    rintro _ W2 ⟨rfl, hb2⟩
    obtain ⟨a0, a1, a2, a3, b0, b1, b2, b3⟩ := HS.out W2 hb2
    go_wp2_with fail
    go_ret
    exact ⟨by rw [HF.out]; rfl, HW.out _ (by first | assumption | exact HB0.out)⟩
  have p0 : (x.kind != y.kind) = false := by simp [e0]
  have p1' : ((str x.name).toList == (str y.name).toList) = true := by rw [str_beq]; simp [e1]
  have p1 : ((str x.name).toList != (str y.name).toList) = false := by rw [bne, str_beq]; simp [e1]
  have r2 : Hid (∀ W, Below (w.heap.size + 2) w2 W → Calls Tryz.prog 110 #[v2, u2] W fun ev w' => ev = .returned (.bool true) ∧ Below (w.heap.size + 2) w2 w') := q2.out true ⟨fun _ => e2, fun _ => rfl⟩
  have p3 : ((x.elem.length : Int) != (y.elem.length : Int)) = false := by simp; omega
  obtain ⟨ax, cx, ex, hcx, hbx, HAx⟩ := hsx.shape
  obtain ⟨ay, cy, ey, hcy, hby, HAy⟩ := hsy.shape
  have hl9 : x.elem.length ≤ 9223372036854775807 := by omega
  have HL : Hid (x.elem.length = y.elem.length) := e3
  have HE : Hid (∀ i (h : i < x.elem.length) (h' : i < y.elem.length), ∃ (b o b' o' : Nat) (c0 c1 c2 c3 d0 d1 d2 d3 : Value), ax = some ⟨b, o, none⟩ ∧ ay = some ⟨b', o', none⟩ ∧ (∀ W, Below (w.heap.size + 2) w2 W → W.cell? ⟨b, o + i * 4, none⟩ = some c0 ∧ W.cell? ⟨b, o + i * 4 + 1, none⟩ = some c1 ∧ W.cell? ⟨b, o + i * 4 + 2, none⟩ = some c2 ∧ W.cell? ⟨b, o + i * 4 + 3, none⟩ = some c3 ∧ W.cell? ⟨b', o' + i * 4, none⟩ = some d0 ∧ W.cell? ⟨b', o' + i * 4 + 1, none⟩ = some d1 ∧ W.cell? ⟨b', o' + i * 4 + 2, none⟩ = some d2 ∧ W.cell? ⟨b', o' + i * 4 + 3, none⟩ = some d3) ∧ (∀ W B, Below (w.heap.size + 2) w2 W → (B = true ↔ x.elem[i] = y.elem[i]) → Calls Tryz.prog 99 #[.agg #[c0, c1, c2, c3], .agg #[d0, d1, d2, d3]] W fun ev w' => ev = .returned (.bool B) ∧ Below (w.heap.size + 2) w2 w')) := by
    intro i h h'
    obtain ⟨b, o, e, hbC, cs, hl, hcs, kx⟩ := HAx i h
    obtain ⟨b', o', e', hbC', cs', hl', hcs', ky⟩ := HAy i h'
    obtain ⟨c0, c1, c2, c3, rfl⟩ := list4 hl
    obtain ⟨d0, d1, d2, d3, rfl⟩ := list4 hl'
    refine ⟨b, o, b', o', c0, c1, c2, c3, d0, d1, d2, d3, e, e', fun W hw => ?_, fun W B hw hB => ?_⟩
    · exact ⟨((HK W hw).cell (p := ⟨b, o + i * 4, none⟩) hbC).trans (hcs 0 (by decide)), ((HK W hw).cell (p := ⟨b, o + i * 4 + 1, none⟩) hbC).trans (hcs 1 (by decide)), ((HK W hw).cell (p := ⟨b, o + i * 4 + 2, none⟩) hbC).trans (hcs 2 (by decide)), ((HK W hw).cell (p := ⟨b, o + i * 4 + 3, none⟩) hbC).trans (hcs 3 (by decide)), ((HK W hw).cell (p := ⟨b', o' + i * 4, none⟩) hbC').trans (hcs' 0 (by decide)), ((HK W hw).cell (p := ⟨b', o' + i * 4 + 1, none⟩) hbC').trans (hcs' 1 (by decide)), ((HK W hw).cell (p := ⟨b', o' + i * 4 + 2, none⟩) hbC').trans (hcs' 2 (by decide)), ((HK W hw).cell (p := ⟨b', o' + i * 4 + 3, none⟩) hbC').trans (hcs' 3 (by decide))⟩
    · refine (ih (HC W hw).1 (kx.below (HK W hw)) (ky.below (HK W hw)) B hB).mono ?_
      rintro _ _ ⟨rfl, h⟩
      exact ⟨rfl, hw.trans (below_le h (HC W hw).2)⟩
  have HQ : Hid ((∀ j (h : j < x.elem.length) (h' : j < y.elem.length), x.elem[j] = y.elem[j]) → B = true) := by
    intro hall
    refine HB.out.2 ?_
    have ee : x.elem = y.elem := eq_upto HL.out hall
    clear q2 HB HS HW HK HC R1 R2 hA hsz HE hsx hsy; cases x; cases y; simp only at e0 e1 e2 ee; subst e0 e1 e2 ee; rfl
  have HN : Hid (∀ j (h : j < x.elem.length) (h' : j < y.elem.length), x.elem[j] ≠ y.elem[j] → B = false) := fun j h h' hne => bool_false HB.out (fun e => hne (by subst e; rfl))
  clear q2 e0 e1 e2 e3 HB HK HC R1 R2 hA hsz hcx hcy hbx hby HAx HAy hsx hsy hl1 hl2 h2 g2 e4' e5' ih
  subst e2' e3'
  subst ex ey
  generalize x.kind = s0 at *
  generalize y.kind = t0 at *
  generalize str x.name = S1 at *
  generalize str y.name = S2 at *
  generalize x.lives.length = n1 at *
  generalize y.lives.length = n2 at *
  generalize hLX : x.elem = LX at *
  generalize hLY : y.elem = LY at *
  clear hLX hLY
  go_enter Tryz.func99, Tryz.ntmps99
  go_wp2_with fail
  refine (r2.out _ HB0.out).mono ?_
  rintro _ W2 ⟨rfl, hb2⟩
  obtain ⟨a0, a1, a2, a3, b0, b1, b2, b3⟩ := HS.out W2 hb2
  go_wp2_with fail
  go_loopw [5] (fun i wr => ∃ k : Nat, k ≤ LX.length ∧ i = .int .i64 k ∧ (∀ j (h : j < LX.length) (h' : j < LY.length), j < k → LX[j] = LY[j]) ∧ Below (w.heap.size + 2) w2 wr) (fun i _ => LX.length - (intOf i).toNat)
  case atStart => exact ⟨0, by omega, rfl, fun j _ _ h => by omega, by first | assumption | exact HB0.out⟩
  case round =>
    obtain ⟨k, hk, rfl, hj, hbw⟩ := hrel
    have HJ : Hid (∀ j (h : j < LX.length) (h' : j < LY.length), j < k → LX[j] = LY[j]) := hj
    have HBW : Hid (Below (w.heap.size + 2) w2 wr) := hbw
    clear hj hbw HB0
    clear a0 b0 a1 b1 a2 b2 a3 b3 hb2 r2
    obtain ⟨a0, a1, a2, a3, b0, b1, b2, b3⟩ := HS.out wr HBW.out
    by_cases h3 : k < LX.length
    · have h4 : k < LY.length := by rw [← HL.out]; exact h3
      obtain ⟨b, o, b', o', c0, c1, c2, c3, d0, d1, d2, d3, ex1, ey1, hcell, hcall⟩ := HE.out k h3 h4
      subst ex1 ey1
      have i1 : (k : Int) < (LX.length : Int) := by omega
      have i2 : (k : Int) < (LY.length : Int) := by omega
      have mkS : Hid (∀ z, Below (w.heap.size + 2) w2 z → Below (w.heap.size + 2) w2 z ∧ z.cell? ⟨w.heap.size, 3, none⟩ = some (.slice (some ⟨b, o, none⟩) (LX.length) cx) ∧ z.cell? ⟨w.heap.size + 1, 3, none⟩ = some (.slice (some ⟨b', o', none⟩) (LY.length) cy) ∧ z.cell? ⟨b, o + k * 4, none⟩ = some c0 ∧ z.cell? ⟨b, o + k * 4 + 1, none⟩ = some c1 ∧ z.cell? ⟨b, o + k * 4 + 2, none⟩ = some c2 ∧ z.cell? ⟨b, o + k * 4 + 3, none⟩ = some c3 ∧ z.cell? ⟨b', o' + k * 4, none⟩ = some d0 ∧ z.cell? ⟨b', o' + k * 4 + 1, none⟩ = some d1 ∧ z.cell? ⟨b', o' + k * 4 + 2, none⟩ = some d2 ∧ z.cell? ⟨b', o' + k * 4 + 3, none⟩ = some d3) := by
        intro z hb
        obtain ⟨x0, x1, x2, x3, y0, y1, y2, y3⟩ := HS.out z hb
        exact ⟨hb, x3, y3, hcell z hb⟩
      have HS0 := mkS.out wr.drew HBW.out.drew
      clear a0 b0 a1 b1 a2 b2 hcell
      by_cases he : LX[k] = LY[k]
      · have D : Hid (∀ z, (Below (w.heap.size + 2) w2 z ∧ z.cell? ⟨w.heap.size, 3, none⟩ = some (.slice (some ⟨b, o, none⟩) (LX.length) cx) ∧ z.cell? ⟨w.heap.size + 1, 3, none⟩ = some (.slice (some ⟨b', o', none⟩) (LY.length) cy) ∧ z.cell? ⟨b, o + k * 4, none⟩ = some c0 ∧ z.cell? ⟨b, o + k * 4 + 1, none⟩ = some c1 ∧ z.cell? ⟨b, o + k * 4 + 2, none⟩ = some c2 ∧ z.cell? ⟨b, o + k * 4 + 3, none⟩ = some c3 ∧ z.cell? ⟨b', o' + k * 4, none⟩ = some d0 ∧ z.cell? ⟨b', o' + k * 4 + 1, none⟩ = some d1 ∧ z.cell? ⟨b', o' + k * 4 + 2, none⟩ = some d2 ∧ z.cell? ⟨b', o' + k * 4 + 3, none⟩ = some d3) → Calls Tryz.prog 99 #[.agg #[c0, c1, c2, c3], .agg #[d0, d1, d2, d3]] z fun ev z' => ev = .returned (.bool true) ∧ (Below (w.heap.size + 2) w2 z' ∧ z'.cell? ⟨w.heap.size, 3, none⟩ = some (.slice (some ⟨b, o, none⟩) (LX.length) cx) ∧ z'.cell? ⟨w.heap.size + 1, 3, none⟩ = some (.slice (some ⟨b', o', none⟩) (LY.length) cy) ∧ z'.cell? ⟨b, o + k * 4, none⟩ = some c0 ∧ z'.cell? ⟨b, o + k * 4 + 1, none⟩ = some c1 ∧ z'.cell? ⟨b, o + k * 4 + 2, none⟩ = some c2 ∧ z'.cell? ⟨b, o + k * 4 + 3, none⟩ = some c3 ∧ z'.cell? ⟨b', o' + k * 4, none⟩ = some d0 ∧ z'.cell? ⟨b', o' + k * 4 + 1, none⟩ = some d1 ∧ z'.cell? ⟨b', o' + k * 4 + 2, none⟩ = some d2 ∧ z'.cell? ⟨b', o' + k * 4 + 3, none⟩ = some d3)) := by
          intro z hz
          refine (hcall z true hz.1 ⟨fun _ => he, fun _ => rfl⟩).mono ?_
          rintro _ z' ⟨rfl, hb⟩
          exact ⟨rfl, mkS.out z' hb⟩
        have HJ' : Hid (∀ j (h : j < LX.length) (h' : j < LY.length), j < k + 1 → LX[j] = LY[j]) := by
          intro j ha hb hjk
          rcases Nat.lt_or_ge j k with h | h
          · exact HJ.out j ha hb h
          · obtain rfl : j = k := by omega
            exact he
        clear he hcall mkS HE HJ HQ HN HL
        go_wp2_with fail
        go_region_held3 (fun z => Below (w.heap.size + 2) w2 z ∧ z.cell? ⟨w.heap.size, 3, none⟩ = some (.slice (some ⟨b, o, none⟩) (LX.length) cx) ∧ z.cell? ⟨w.heap.size + 1, 3, none⟩ = some (.slice (some ⟨b', o', none⟩) (LY.length) cy) ∧ z.cell? ⟨b, o + k * 4, none⟩ = some c0 ∧ z.cell? ⟨b, o + k * 4 + 1, none⟩ = some c1 ∧ z.cell? ⟨b, o + k * 4 + 2, none⟩ = some c2 ∧ z.cell? ⟨b, o + k * 4 + 3, none⟩ = some c3 ∧ z.cell? ⟨b', o' + k * 4, none⟩ = some d0 ∧ z.cell? ⟨b', o' + k * 4 + 1, none⟩ = some d1 ∧ z.cell? ⟨b', o' + k * 4 + 2, none⟩ = some d2 ∧ z.cell? ⟨b', o' + k * 4 + 3, none⟩ = some d3) (assumption) (first | (go_at_call 99; refine (D.out _ (by assumption)).mono ?_; rintro _ z1 ⟨rfl, hS1⟩))
        go_wp2_with fail
        go_roundw
        case rel => exact ⟨k + 1, by omega, by go_num, HJ'.out, hS1.1⟩
        case measure => simp [intOf]; omega
      · have D : Hid (∀ z, (Below (w.heap.size + 2) w2 z ∧ z.cell? ⟨w.heap.size, 3, none⟩ = some (.slice (some ⟨b, o, none⟩) (LX.length) cx) ∧ z.cell? ⟨w.heap.size + 1, 3, none⟩ = some (.slice (some ⟨b', o', none⟩) (LY.length) cy) ∧ z.cell? ⟨b, o + k * 4, none⟩ = some c0 ∧ z.cell? ⟨b, o + k * 4 + 1, none⟩ = some c1 ∧ z.cell? ⟨b, o + k * 4 + 2, none⟩ = some c2 ∧ z.cell? ⟨b, o + k * 4 + 3, none⟩ = some c3 ∧ z.cell? ⟨b', o' + k * 4, none⟩ = some d0 ∧ z.cell? ⟨b', o' + k * 4 + 1, none⟩ = some d1 ∧ z.cell? ⟨b', o' + k * 4 + 2, none⟩ = some d2 ∧ z.cell? ⟨b', o' + k * 4 + 3, none⟩ = some d3) → Calls Tryz.prog 99 #[.agg #[c0, c1, c2, c3], .agg #[d0, d1, d2, d3]] z fun ev z' => ev = .returned (.bool false) ∧ (Below (w.heap.size + 2) w2 z' ∧ z'.cell? ⟨w.heap.size, 3, none⟩ = some (.slice (some ⟨b, o, none⟩) (LX.length) cx) ∧ z'.cell? ⟨w.heap.size + 1, 3, none⟩ = some (.slice (some ⟨b', o', none⟩) (LY.length) cy) ∧ z'.cell? ⟨b, o + k * 4, none⟩ = some c0 ∧ z'.cell? ⟨b, o + k * 4 + 1, none⟩ = some c1 ∧ z'.cell? ⟨b, o + k * 4 + 2, none⟩ = some c2 ∧ z'.cell? ⟨b, o + k * 4 + 3, none⟩ = some c3 ∧ z'.cell? ⟨b', o' + k * 4, none⟩ = some d0 ∧ z'.cell? ⟨b', o' + k * 4 + 1, none⟩ = some d1 ∧ z'.cell? ⟨b', o' + k * 4 + 2, none⟩ = some d2 ∧ z'.cell? ⟨b', o' + k * 4 + 3, none⟩ = some d3)) := by
          intro z hz
          refine (hcall z false hz.1 ⟨fun h => (by cases h), fun h => absurd h he⟩).mono ?_
          rintro _ z' ⟨rfl, hb⟩
          exact ⟨rfl, mkS.out z' hb⟩
        have HF : Hid (B = false) := HN.out k h3 h4 he
        clear he hcall mkS HE HJ HQ HN HL
        go_wp2_with fail
        go_region_held3 (fun z => Below (w.heap.size + 2) w2 z ∧ z.cell? ⟨w.heap.size, 3, none⟩ = some (.slice (some ⟨b, o, none⟩) (LX.length) cx) ∧ z.cell? ⟨w.heap.size + 1, 3, none⟩ = some (.slice (some ⟨b', o', none⟩) (LY.length) cy) ∧ z.cell? ⟨b, o + k * 4, none⟩ = some c0 ∧ z.cell? ⟨b, o + k * 4 + 1, none⟩ = some c1 ∧ z.cell? ⟨b, o + k * 4 + 2, none⟩ = some c2 ∧ z.cell? ⟨b, o + k * 4 + 3, none⟩ = some c3 ∧ z.cell? ⟨b', o' + k * 4, none⟩ = some d0 ∧ z.cell? ⟨b', o' + k * 4 + 1, none⟩ = some d1 ∧ z.cell? ⟨b', o' + k * 4 + 2, none⟩ = some d2 ∧ z.cell? ⟨b', o' + k * 4 + 3, none⟩ = some d3) (assumption) (first | (go_at_call 99; refine (D.out _ (by assumption)).mono ?_; rintro _ z1 ⟨rfl, hS1⟩))
        go_wp2_with fail
        go_ret
        exact ⟨by rw [HF.out]; rfl, HW.out _ hS1.1⟩
    · have i1 : ¬ (k : Int) < (LX.length : Int) := by omega
      have HF : Hid (B = true) := HQ.out (fun j h h' => HJ.out j h h' (by omega))
      go_wp2_with fail
      go_ret
      exact ⟨by rw [HF.out]; rfl, HW.out _ HBW.out⟩

theorem xsameType_at : ∀ (n : Nat) {K : Ctx} {w : World}, K.C ≤ w.heap.size → ∀ {x y : Ty} {cs cs' : List Value}, TyAt n K w cs x → TyAt n K w cs' y → ∀ (B : Bool), (B = true ↔ x = y) → Calls Tryz.prog 99 #[.agg cs.toArray, .agg cs'.toArray] w fun ev w' => ev = .returned (.bool B) ∧ Below w.heap.size w w'
  | 0, _, _, _, _, _, _, _, hx, _, _, _ => hx.elim
  | n + 1, _, _, hC, _, _, _, _, hx, hy, B, hB => xsameType_of (xsameType_at n) hC hx hy B hB
theorem xsameType_any {K : Ctx} {w : World} (hC : K.C ≤ w.heap.size) {x y : Ty} {cs cs' : List Value} (hx : IsTy K w cs x) (hy : IsTy K w cs' y) (B : Bool) (hB : B = true ↔ x = y) : Calls Tryz.prog 99 #[.agg cs.toArray, .agg cs'.toArray] w fun ev w' => ev = .returned (.bool B) ∧ Below w.heap.size w w' := by
  obtain ⟨n, hx⟩ := hx
  obtain ⟨m, hy⟩ := hy
  exact xsameType_at (max n m) hC (hx.upto (by omega)) (hy.upto (by omega)) B hB
end Go.Proofs.YtmopffaocamieaaGreat
