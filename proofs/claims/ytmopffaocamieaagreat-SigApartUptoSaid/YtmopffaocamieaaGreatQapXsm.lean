/-
  Crates: are two the same? The document says it.
-/
import Derived.Test.YtmopffaocamieaaGreatJapXsf2
import Derived.Test.YtmopffaocamieaaGreatQapXfn
namespace Go.Proofs.YtmopffaocamieaaGreat
open Go.RowKit

set_option maxHeartbeats 8000000 in
set_option maxRecDepth 20000 in
theorem xsame_any {n : Nat}  {K : Ctx} {w : World} (hC : K.C ≤ w.heap.size) {x y : Crt} {cs cs' : List Value} (hx : CrtAt n K w cs x) (hy : CrtAt n K w cs' y) (B : Bool) (hB : B = true ↔ x = y) :
    Calls Tryz.prog 27 #[.agg cs.toArray, .agg cs'.toArray] w fun ev w' => ev = .returned (.bool B) ∧ Below w.heap.size w w' := by
  obtain ⟨v0, v1, rfl, h0, h1⟩ := hx
  obtain ⟨u0, u1, rfl, g0, g1⟩ := hy
  obtain ⟨a0, c0, e0'⟩ := h0.form
  obtain ⟨a0', c0', e1'⟩ := g0.form
  obtain ⟨a1, c1, e2'⟩ := h1.form
  obtain ⟨a1', c1', e3'⟩ := g1.form
  obtain ⟨w2, hw2⟩ : ∃ w2, w2 = ((w.alloc (.cells #[v0, v1] 25)).alloc (.cells #[u0, u1] 25)) := ⟨_, rfl⟩
  have hA : Below w.heap.size w w2 := by rw [hw2]; exact alloc_two w _ _
  have hsz : w2.heap.size = w.heap.size + 2 := by rw [hw2, size_alloc, size_alloc]
  have R1 : Row w2 w.heap.size 25 [v0, v1] := by rw [hw2]; exact (Row.new w 25 [v0, v1]).alloc _
  have R2 : Row w2 (w.heap.size + 1) 25 [u0, u1] := by
    have := Row.new (w.alloc (.cells #[v0, v1] 25)) 25 [u0, u1]
    rw [size_alloc] at this; rw [hw2]; exact this
  have HB0 : Hid (Below (w.heap.size + 2) w2 ((w.alloc (.cells #[v0, v1] 25)).alloc (.cells #[u0, u1] 25))) := by show Below _ _ _; rw [← hw2]; exact Below.refl _ _
  clear hw2
  have HS : Hid (∀ W, Below (w.heap.size + 2) w2 W → W.cell? ⟨w.heap.size, 0, none⟩ = some (v0) ∧ W.cell? ⟨w.heap.size, 1, none⟩ = some (v1) ∧ W.cell? ⟨w.heap.size + 1, 0, none⟩ = some (u0) ∧ W.cell? ⟨w.heap.size + 1, 1, none⟩ = some (u1)) := by
    intro W hb
    have r1 := R1.below hb (by omega)
    have r2 := R2.below hb (by omega)
    exact ⟨r1.cell 0, r1.cell 1, r2.cell 0, r2.cell 1⟩
  have HW : Hid (∀ W, Below (w.heap.size + 2) w2 W → Below w.heap.size w W) := fun W hb => hA.trans (below_le hb (by omega))
  have HK : ∀ W, Below (w.heap.size + 2) w2 W → Below K.C w W := fun W hb => below_le (HW.out W hb) hC
  have HC : ∀ W, Below (w.heap.size + 2) w2 W → K.C ≤ W.heap.size ∧ w.heap.size + 2 ≤ W.heap.size := fun W hb => by have := hb.size; omega
  have HB : Hid (B = true ↔ x = y) := hB
  clear hB
  by_cases e0 : x.structs.length = y.structs.length
  rotate_left
  · have HF : Hid (B = false) := bool_false HB.out (fun h => e0 (by rw [h]))
    have p0 : ((x.structs.length : Int) != (y.structs.length : Int)) = true := by simp; omega
    clear  e0 HB HK HC R1 R2 hA hsz h0 h1 g0 g1 
    subst e0' e1' e2' e3'
    generalize x.structs.length = n0 at *
    generalize y.structs.length = n1 at *
    generalize x.funcs.length = n2 at *
    generalize y.funcs.length = n3 at *
    go_enter Tryz.func27, Tryz.ntmps27
    go_wp2_with fail
    go_ret
    exact ⟨by rw [HF.out]; rfl, HW.out _ (by first | assumption | exact HB0.out)⟩
  by_cases e1 : x.funcs.length = y.funcs.length
  rotate_left
  · have HF : Hid (B = false) := bool_false HB.out (fun h => e1 (by rw [h]))
    have p0 : ((x.structs.length : Int) != (y.structs.length : Int)) = false := by simp; omega
    have p1 : ((x.funcs.length : Int) != (y.funcs.length : Int)) = true := by simp; omega
    clear  e0 e1 HB HK HC R1 R2 hA hsz h0 h1 g0 g1 
    subst e0' e1' e2' e3'
    generalize x.structs.length = n0 at *
    generalize y.structs.length = n1 at *
    generalize x.funcs.length = n2 at *
    generalize y.funcs.length = n3 at *
    go_enter Tryz.func27, Tryz.ntmps27
    go_wp2_with fail
    go_ret
    exact ⟨by rw [HF.out]; rfl, HW.out _ (by first | assumption | exact HB0.out)⟩
  have p0 : ((x.structs.length : Int) != (y.structs.length : Int)) = false := by simp; omega
  have p1 : ((x.funcs.length : Int) != (y.funcs.length : Int)) = false := by simp; omega
  obtain ⟨ax, cx, ex, hcx, hbx, Hax⟩ := h0.shape
  obtain ⟨ay, cy, ey, hcy, hby, Hay⟩ := g0.shape
  obtain ⟨px, qx, ex2, hcx2, hbx2, Hpx⟩ := h1.shape
  obtain ⟨py, qy, ey2, hcy2, hby2, Hpy⟩ := g1.shape
  have hl9 : x.structs.length ≤ 9223372036854775807 := by omega
  have hl8 : x.funcs.length ≤ 9223372036854775807 := by omega
  have HL : Hid (x.structs.length = y.structs.length) := e0
  have HL2 : Hid (x.funcs.length = y.funcs.length) := e1
  have HE1 : Hid (∀ i (h : i < x.structs.length) (h' : i < y.structs.length), ∃ (b o b' o' : Nat) (c0 c1 c2 c3 c4 d0 d1 d2 d3 d4 : Value), ax = some ⟨b, o, none⟩ ∧ ay = some ⟨b', o', none⟩ ∧ (∀ W, Below (w.heap.size + 2) w2 W → W.cell? ⟨b, o + i * 5, none⟩ = some c0 ∧ W.cell? ⟨b, o + i * 5 + 1, none⟩ = some c1 ∧ W.cell? ⟨b, o + i * 5 + 2, none⟩ = some c2 ∧ W.cell? ⟨b, o + i * 5 + 3, none⟩ = some c3 ∧ W.cell? ⟨b, o + i * 5 + 4, none⟩ = some c4 ∧ W.cell? ⟨b', o' + i * 5, none⟩ = some d0 ∧ W.cell? ⟨b', o' + i * 5 + 1, none⟩ = some d1 ∧ W.cell? ⟨b', o' + i * 5 + 2, none⟩ = some d2 ∧ W.cell? ⟨b', o' + i * 5 + 3, none⟩ = some d3 ∧ W.cell? ⟨b', o' + i * 5 + 4, none⟩ = some d4) ∧ (∀ W B, Below (w.heap.size + 2) w2 W → (B = true ↔ x.structs[i] = y.structs[i]) → Calls Tryz.prog 63 #[.agg #[c0, c1, c2, c3, c4], .agg #[d0, d1, d2, d3, d4]] W fun ev w' => ev = .returned (.bool B) ∧ Below (w.heap.size + 2) w2 w')) := by
    intro i h h'
    obtain ⟨b, o, e, hbC, cs, hl, hcs, kx⟩ := Hax i h
    obtain ⟨b', o', e', hbC', cs', hl', hcs', ky⟩ := Hay i h'
    obtain ⟨c0, c1, c2, c3, c4, rfl⟩ := list5 hl
    obtain ⟨d0, d1, d2, d3, d4, rfl⟩ := list5 hl'
    refine ⟨b, o, b', o', c0, c1, c2, c3, c4, d0, d1, d2, d3, d4, e, e', fun W hw => ?_, fun W B hw hB => ?_⟩
    · exact ⟨((HK W hw).cell (p := ⟨b, o + i * 5, none⟩) hbC).trans (hcs 0 (by decide)), ((HK W hw).cell (p := ⟨b, o + i * 5 + 1, none⟩) hbC).trans (hcs 1 (by decide)), ((HK W hw).cell (p := ⟨b, o + i * 5 + 2, none⟩) hbC).trans (hcs 2 (by decide)), ((HK W hw).cell (p := ⟨b, o + i * 5 + 3, none⟩) hbC).trans (hcs 3 (by decide)), ((HK W hw).cell (p := ⟨b, o + i * 5 + 4, none⟩) hbC).trans (hcs 4 (by decide)), ((HK W hw).cell (p := ⟨b', o' + i * 5, none⟩) hbC').trans (hcs' 0 (by decide)), ((HK W hw).cell (p := ⟨b', o' + i * 5 + 1, none⟩) hbC').trans (hcs' 1 (by decide)), ((HK W hw).cell (p := ⟨b', o' + i * 5 + 2, none⟩) hbC').trans (hcs' 2 (by decide)), ((HK W hw).cell (p := ⟨b', o' + i * 5 + 3, none⟩) hbC').trans (hcs' 3 (by decide)), ((HK W hw).cell (p := ⟨b', o' + i * 5 + 4, none⟩) hbC').trans (hcs' 4 (by decide))⟩
    · refine (xstruct_any (HC W hw).1 (kx.below (HK W hw)) (ky.below (HK W hw)) B hB).mono ?_
      rintro _ _ ⟨rfl, h⟩
      exact ⟨rfl, hw.trans (below_le h (HC W hw).2)⟩
  have HE2 : Hid (∀ i (h : i < x.funcs.length) (h' : i < y.funcs.length), ∃ (b o b' o' : Nat) (c0 c1 c2 c3 c4 c5 c6 c7 c8 c9 d0 d1 d2 d3 d4 d5 d6 d7 d8 d9 : Value), px = some ⟨b, o, none⟩ ∧ py = some ⟨b', o', none⟩ ∧ (∀ W, Below (w.heap.size + 2) w2 W → W.cell? ⟨b, o + i * 10, none⟩ = some c0 ∧ W.cell? ⟨b, o + i * 10 + 1, none⟩ = some c1 ∧ W.cell? ⟨b, o + i * 10 + 2, none⟩ = some c2 ∧ W.cell? ⟨b, o + i * 10 + 3, none⟩ = some c3 ∧ W.cell? ⟨b, o + i * 10 + 4, none⟩ = some c4 ∧ W.cell? ⟨b, o + i * 10 + 5, none⟩ = some c5 ∧ W.cell? ⟨b, o + i * 10 + 6, none⟩ = some c6 ∧ W.cell? ⟨b, o + i * 10 + 7, none⟩ = some c7 ∧ W.cell? ⟨b, o + i * 10 + 8, none⟩ = some c8 ∧ W.cell? ⟨b, o + i * 10 + 9, none⟩ = some c9 ∧ W.cell? ⟨b', o' + i * 10, none⟩ = some d0 ∧ W.cell? ⟨b', o' + i * 10 + 1, none⟩ = some d1 ∧ W.cell? ⟨b', o' + i * 10 + 2, none⟩ = some d2 ∧ W.cell? ⟨b', o' + i * 10 + 3, none⟩ = some d3 ∧ W.cell? ⟨b', o' + i * 10 + 4, none⟩ = some d4 ∧ W.cell? ⟨b', o' + i * 10 + 5, none⟩ = some d5 ∧ W.cell? ⟨b', o' + i * 10 + 6, none⟩ = some d6 ∧ W.cell? ⟨b', o' + i * 10 + 7, none⟩ = some d7 ∧ W.cell? ⟨b', o' + i * 10 + 8, none⟩ = some d8 ∧ W.cell? ⟨b', o' + i * 10 + 9, none⟩ = some d9) ∧ (∀ W B, Below (w.heap.size + 2) w2 W → (B = true ↔ x.funcs[i] = y.funcs[i]) → Calls Tryz.prog 64 #[.agg #[c0, c1, c2, c3, c4, c5, c6, c7, c8, c9], .agg #[d0, d1, d2, d3, d4, d5, d6, d7, d8, d9]] W fun ev w' => ev = .returned (.bool B) ∧ Below (w.heap.size + 2) w2 w')) := by
    intro i h h'
    obtain ⟨b, o, e, hbC, cs, hl, hcs, kx⟩ := Hpx i h
    obtain ⟨b', o', e', hbC', cs', hl', hcs', ky⟩ := Hpy i h'
    obtain ⟨c0, c1, c2, c3, c4, c5, c6, c7, c8, c9, rfl⟩ := list10 hl
    obtain ⟨d0, d1, d2, d3, d4, d5, d6, d7, d8, d9, rfl⟩ := list10 hl'
    refine ⟨b, o, b', o', c0, c1, c2, c3, c4, c5, c6, c7, c8, c9, d0, d1, d2, d3, d4, d5, d6, d7, d8, d9, e, e', fun W hw => ?_, fun W B hw hB => ?_⟩
    · exact ⟨((HK W hw).cell (p := ⟨b, o + i * 10, none⟩) hbC).trans (hcs 0 (by decide)), ((HK W hw).cell (p := ⟨b, o + i * 10 + 1, none⟩) hbC).trans (hcs 1 (by decide)), ((HK W hw).cell (p := ⟨b, o + i * 10 + 2, none⟩) hbC).trans (hcs 2 (by decide)), ((HK W hw).cell (p := ⟨b, o + i * 10 + 3, none⟩) hbC).trans (hcs 3 (by decide)), ((HK W hw).cell (p := ⟨b, o + i * 10 + 4, none⟩) hbC).trans (hcs 4 (by decide)), ((HK W hw).cell (p := ⟨b, o + i * 10 + 5, none⟩) hbC).trans (hcs 5 (by decide)), ((HK W hw).cell (p := ⟨b, o + i * 10 + 6, none⟩) hbC).trans (hcs 6 (by decide)), ((HK W hw).cell (p := ⟨b, o + i * 10 + 7, none⟩) hbC).trans (hcs 7 (by decide)), ((HK W hw).cell (p := ⟨b, o + i * 10 + 8, none⟩) hbC).trans (hcs 8 (by decide)), ((HK W hw).cell (p := ⟨b, o + i * 10 + 9, none⟩) hbC).trans (hcs 9 (by decide)), ((HK W hw).cell (p := ⟨b', o' + i * 10, none⟩) hbC').trans (hcs' 0 (by decide)), ((HK W hw).cell (p := ⟨b', o' + i * 10 + 1, none⟩) hbC').trans (hcs' 1 (by decide)), ((HK W hw).cell (p := ⟨b', o' + i * 10 + 2, none⟩) hbC').trans (hcs' 2 (by decide)), ((HK W hw).cell (p := ⟨b', o' + i * 10 + 3, none⟩) hbC').trans (hcs' 3 (by decide)), ((HK W hw).cell (p := ⟨b', o' + i * 10 + 4, none⟩) hbC').trans (hcs' 4 (by decide)), ((HK W hw).cell (p := ⟨b', o' + i * 10 + 5, none⟩) hbC').trans (hcs' 5 (by decide)), ((HK W hw).cell (p := ⟨b', o' + i * 10 + 6, none⟩) hbC').trans (hcs' 6 (by decide)), ((HK W hw).cell (p := ⟨b', o' + i * 10 + 7, none⟩) hbC').trans (hcs' 7 (by decide)), ((HK W hw).cell (p := ⟨b', o' + i * 10 + 8, none⟩) hbC').trans (hcs' 8 (by decide)), ((HK W hw).cell (p := ⟨b', o' + i * 10 + 9, none⟩) hbC').trans (hcs' 9 (by decide))⟩
    · refine (xfunc_any (HC W hw).1 (kx.below (HK W hw)) (ky.below (HK W hw)) B hB).mono ?_
      rintro _ _ ⟨rfl, h⟩
      exact ⟨rfl, hw.trans (below_le h (HC W hw).2)⟩
  have HQ : Hid ((∀ j (h : j < x.structs.length) (h' : j < y.structs.length), x.structs[j] = y.structs[j]) → (∀ j (h : j < x.funcs.length) (h' : j < y.funcs.length), x.funcs[j] = y.funcs[j]) → B = true) := by
    intro hall hall2
    refine HB.out.2 ?_
    have ee : x.structs = y.structs := eq_upto HL.out hall
    have ef : x.funcs = y.funcs := eq_upto HL2.out hall2
    clear HB HS HW HK HC R1 R2 hA hsz HE1 HE2 Hax Hay Hpx Hpy h0 h1 g0 g1 hall hall2; cases x; cases y; simp only at ee ef; subst ee ef; rfl
  have HN1 : Hid (∀ j (h : j < x.structs.length) (h' : j < y.structs.length), x.structs[j] ≠ y.structs[j] → B = false) := fun j h h' hne => bool_false HB.out (fun e => hne (by subst e; rfl))
  have HN2 : Hid (∀ j (h : j < x.funcs.length) (h' : j < y.funcs.length), x.funcs[j] ≠ y.funcs[j] → B = false) := fun j h h' hne => bool_false HB.out (fun e => hne (by subst e; rfl))
  clear e0 e1 HB HK HC R1 R2 hA hsz hcx hcy hbx hby hcx2 hcy2 hbx2 hby2 Hax Hay Hpx Hpy h0 h1 g0 g1 e0' e1' e2' e3'
  subst ex ey ex2 ey2
  generalize hLX : x.structs = LX at *
  generalize hLY : y.structs = LY at *
  generalize hMX : x.funcs = MX at *
  generalize hMY : y.funcs = MY at *
  clear hLX hLY hMX hMY
  go_enter Tryz.func27, Tryz.ntmps27
  go_wp2_with fail
  go_loopw [5] (fun i wr => ∃ k : Nat, k ≤ LX.length ∧ i = .int .i64 k ∧ (∀ j (h : j < LX.length) (h' : j < LY.length), j < k → LX[j] = LY[j]) ∧ Below (w.heap.size + 2) w2 wr) (fun i _ => LX.length - (intOf i).toNat)
  case atStart => exact ⟨0, by omega, rfl, fun j _ _ h => by omega, by first | exact HBW.out | exact HB0.out⟩
  case round =>
    obtain ⟨k, hk, rfl, hj, hbw⟩ := hrel
    have HJ : Hid (∀ j (h : j < LX.length) (h' : j < LY.length), j < k → LX[j] = LY[j]) := hj
    have HBW : Hid (Below (w.heap.size + 2) w2 wr) := hbw
    clear hj hbw HB0
    obtain ⟨a0, a1, b0, b1⟩ := HS.out wr HBW.out
    by_cases h3 : k < LX.length
    · have h4 : k < LY.length := by rw [← HL.out]; exact h3
      obtain ⟨b, o, b', o', c0, c1, c2, c3, c4, d0, d1, d2, d3, d4, ex1, ey1, hcell, hcall⟩ := HE1.out k h3 h4
      subst ex1 ey1
      have i1 : (k : Int) < (LX.length : Int) := by omega
      have i2 : (k : Int) < (LY.length : Int) := by omega
      have mkS : Hid (∀ z, Below (w.heap.size + 2) w2 z → Below (w.heap.size + 2) w2 z ∧ z.cell? ⟨w.heap.size, 0, none⟩ = some (.slice (some ⟨b, o, none⟩) (LX.length) cx) ∧ z.cell? ⟨w.heap.size + 1, 0, none⟩ = some (.slice (some ⟨b', o', none⟩) (LY.length) cy) ∧ z.cell? ⟨b, o + k * 5, none⟩ = some c0 ∧ z.cell? ⟨b, o + k * 5 + 1, none⟩ = some c1 ∧ z.cell? ⟨b, o + k * 5 + 2, none⟩ = some c2 ∧ z.cell? ⟨b, o + k * 5 + 3, none⟩ = some c3 ∧ z.cell? ⟨b, o + k * 5 + 4, none⟩ = some c4 ∧ z.cell? ⟨b', o' + k * 5, none⟩ = some d0 ∧ z.cell? ⟨b', o' + k * 5 + 1, none⟩ = some d1 ∧ z.cell? ⟨b', o' + k * 5 + 2, none⟩ = some d2 ∧ z.cell? ⟨b', o' + k * 5 + 3, none⟩ = some d3 ∧ z.cell? ⟨b', o' + k * 5 + 4, none⟩ = some d4) := by
        intro z hb
        obtain ⟨x0, x1, y0, y1⟩ := HS.out z hb
        exact ⟨hb, x0, y0, hcell z hb⟩
      have HS0 := mkS.out wr.drew HBW.out.drew
      clear a1 b1 hcell
      by_cases he : LX[k] = LY[k]
      · have D : Hid (∀ z, (Below (w.heap.size + 2) w2 z ∧ z.cell? ⟨w.heap.size, 0, none⟩ = some (.slice (some ⟨b, o, none⟩) (LX.length) cx) ∧ z.cell? ⟨w.heap.size + 1, 0, none⟩ = some (.slice (some ⟨b', o', none⟩) (LY.length) cy) ∧ z.cell? ⟨b, o + k * 5, none⟩ = some c0 ∧ z.cell? ⟨b, o + k * 5 + 1, none⟩ = some c1 ∧ z.cell? ⟨b, o + k * 5 + 2, none⟩ = some c2 ∧ z.cell? ⟨b, o + k * 5 + 3, none⟩ = some c3 ∧ z.cell? ⟨b, o + k * 5 + 4, none⟩ = some c4 ∧ z.cell? ⟨b', o' + k * 5, none⟩ = some d0 ∧ z.cell? ⟨b', o' + k * 5 + 1, none⟩ = some d1 ∧ z.cell? ⟨b', o' + k * 5 + 2, none⟩ = some d2 ∧ z.cell? ⟨b', o' + k * 5 + 3, none⟩ = some d3 ∧ z.cell? ⟨b', o' + k * 5 + 4, none⟩ = some d4) → Calls Tryz.prog 63 #[.agg #[c0, c1, c2, c3, c4], .agg #[d0, d1, d2, d3, d4]] z fun ev z' => ev = .returned (.bool true) ∧ (Below (w.heap.size + 2) w2 z' ∧ z'.cell? ⟨w.heap.size, 0, none⟩ = some (.slice (some ⟨b, o, none⟩) (LX.length) cx) ∧ z'.cell? ⟨w.heap.size + 1, 0, none⟩ = some (.slice (some ⟨b', o', none⟩) (LY.length) cy) ∧ z'.cell? ⟨b, o + k * 5, none⟩ = some c0 ∧ z'.cell? ⟨b, o + k * 5 + 1, none⟩ = some c1 ∧ z'.cell? ⟨b, o + k * 5 + 2, none⟩ = some c2 ∧ z'.cell? ⟨b, o + k * 5 + 3, none⟩ = some c3 ∧ z'.cell? ⟨b, o + k * 5 + 4, none⟩ = some c4 ∧ z'.cell? ⟨b', o' + k * 5, none⟩ = some d0 ∧ z'.cell? ⟨b', o' + k * 5 + 1, none⟩ = some d1 ∧ z'.cell? ⟨b', o' + k * 5 + 2, none⟩ = some d2 ∧ z'.cell? ⟨b', o' + k * 5 + 3, none⟩ = some d3 ∧ z'.cell? ⟨b', o' + k * 5 + 4, none⟩ = some d4)) := by
          intro z hz
          refine (hcall z true hz.1 ⟨fun _ => he, fun _ => rfl⟩).mono ?_
          rintro _ z' ⟨rfl, hb⟩
          exact ⟨rfl, mkS.out z' hb⟩
        have HJ' : Hid (∀ j (h : j < LX.length) (h' : j < LY.length), j < k + 1 → LX[j] = LY[j]) := by
          intro j ha hb hjk
          rcases Nat.lt_or_ge j k with h | h
          · exact HJ.out j ha hb h
          · obtain rfl : j = k := by omega
            exact he
        clear he hcall mkS HJ HE1 HE2 HQ HN1 HN2 HL HL2
        go_wp2_with fail
        go_region_held3 (fun z => Below (w.heap.size + 2) w2 z ∧ z.cell? ⟨w.heap.size, 0, none⟩ = some (.slice (some ⟨b, o, none⟩) (LX.length) cx) ∧ z.cell? ⟨w.heap.size + 1, 0, none⟩ = some (.slice (some ⟨b', o', none⟩) (LY.length) cy) ∧ z.cell? ⟨b, o + k * 5, none⟩ = some c0 ∧ z.cell? ⟨b, o + k * 5 + 1, none⟩ = some c1 ∧ z.cell? ⟨b, o + k * 5 + 2, none⟩ = some c2 ∧ z.cell? ⟨b, o + k * 5 + 3, none⟩ = some c3 ∧ z.cell? ⟨b, o + k * 5 + 4, none⟩ = some c4 ∧ z.cell? ⟨b', o' + k * 5, none⟩ = some d0 ∧ z.cell? ⟨b', o' + k * 5 + 1, none⟩ = some d1 ∧ z.cell? ⟨b', o' + k * 5 + 2, none⟩ = some d2 ∧ z.cell? ⟨b', o' + k * 5 + 3, none⟩ = some d3 ∧ z.cell? ⟨b', o' + k * 5 + 4, none⟩ = some d4) (assumption) (first | (go_at_call 63; refine (D.out _ (by assumption)).mono ?_; rintro _ z1 ⟨rfl, hS1⟩))
        go_wp2_with fail
        go_roundw
        case rel => exact ⟨k + 1, by omega, by go_num, HJ'.out, hS1.1⟩
        case measure => simp [intOf]; omega
      · have D : Hid (∀ z, (Below (w.heap.size + 2) w2 z ∧ z.cell? ⟨w.heap.size, 0, none⟩ = some (.slice (some ⟨b, o, none⟩) (LX.length) cx) ∧ z.cell? ⟨w.heap.size + 1, 0, none⟩ = some (.slice (some ⟨b', o', none⟩) (LY.length) cy) ∧ z.cell? ⟨b, o + k * 5, none⟩ = some c0 ∧ z.cell? ⟨b, o + k * 5 + 1, none⟩ = some c1 ∧ z.cell? ⟨b, o + k * 5 + 2, none⟩ = some c2 ∧ z.cell? ⟨b, o + k * 5 + 3, none⟩ = some c3 ∧ z.cell? ⟨b, o + k * 5 + 4, none⟩ = some c4 ∧ z.cell? ⟨b', o' + k * 5, none⟩ = some d0 ∧ z.cell? ⟨b', o' + k * 5 + 1, none⟩ = some d1 ∧ z.cell? ⟨b', o' + k * 5 + 2, none⟩ = some d2 ∧ z.cell? ⟨b', o' + k * 5 + 3, none⟩ = some d3 ∧ z.cell? ⟨b', o' + k * 5 + 4, none⟩ = some d4) → Calls Tryz.prog 63 #[.agg #[c0, c1, c2, c3, c4], .agg #[d0, d1, d2, d3, d4]] z fun ev z' => ev = .returned (.bool false) ∧ (Below (w.heap.size + 2) w2 z' ∧ z'.cell? ⟨w.heap.size, 0, none⟩ = some (.slice (some ⟨b, o, none⟩) (LX.length) cx) ∧ z'.cell? ⟨w.heap.size + 1, 0, none⟩ = some (.slice (some ⟨b', o', none⟩) (LY.length) cy) ∧ z'.cell? ⟨b, o + k * 5, none⟩ = some c0 ∧ z'.cell? ⟨b, o + k * 5 + 1, none⟩ = some c1 ∧ z'.cell? ⟨b, o + k * 5 + 2, none⟩ = some c2 ∧ z'.cell? ⟨b, o + k * 5 + 3, none⟩ = some c3 ∧ z'.cell? ⟨b, o + k * 5 + 4, none⟩ = some c4 ∧ z'.cell? ⟨b', o' + k * 5, none⟩ = some d0 ∧ z'.cell? ⟨b', o' + k * 5 + 1, none⟩ = some d1 ∧ z'.cell? ⟨b', o' + k * 5 + 2, none⟩ = some d2 ∧ z'.cell? ⟨b', o' + k * 5 + 3, none⟩ = some d3 ∧ z'.cell? ⟨b', o' + k * 5 + 4, none⟩ = some d4)) := by
          intro z hz
          refine (hcall z false hz.1 ⟨fun h => (by cases h), fun h => absurd h he⟩).mono ?_
          rintro _ z' ⟨rfl, hb⟩
          exact ⟨rfl, mkS.out z' hb⟩
        have HF : Hid (B = false) := HN1.out k h3 h4 he
        clear he hcall mkS HJ HE1 HE2 HQ HN1 HN2 HL HL2
        go_wp2_with fail
        go_region_held3 (fun z => Below (w.heap.size + 2) w2 z ∧ z.cell? ⟨w.heap.size, 0, none⟩ = some (.slice (some ⟨b, o, none⟩) (LX.length) cx) ∧ z.cell? ⟨w.heap.size + 1, 0, none⟩ = some (.slice (some ⟨b', o', none⟩) (LY.length) cy) ∧ z.cell? ⟨b, o + k * 5, none⟩ = some c0 ∧ z.cell? ⟨b, o + k * 5 + 1, none⟩ = some c1 ∧ z.cell? ⟨b, o + k * 5 + 2, none⟩ = some c2 ∧ z.cell? ⟨b, o + k * 5 + 3, none⟩ = some c3 ∧ z.cell? ⟨b, o + k * 5 + 4, none⟩ = some c4 ∧ z.cell? ⟨b', o' + k * 5, none⟩ = some d0 ∧ z.cell? ⟨b', o' + k * 5 + 1, none⟩ = some d1 ∧ z.cell? ⟨b', o' + k * 5 + 2, none⟩ = some d2 ∧ z.cell? ⟨b', o' + k * 5 + 3, none⟩ = some d3 ∧ z.cell? ⟨b', o' + k * 5 + 4, none⟩ = some d4) (assumption) (first | (go_at_call 63; refine (D.out _ (by assumption)).mono ?_; rintro _ z1 ⟨rfl, hS1⟩))
        go_wp2_with fail
        go_ret
        exact ⟨by rw [HF.out]; rfl, HW.out _ hS1.1⟩
    · have i1 : ¬ (k : Int) < (LX.length : Int) := by omega
      have HQ1 : Hid (∀ j (h : j < LX.length) (h' : j < LY.length), LX[j] = LY[j]) := fun j h h' => HJ.out j h h' (by omega)
      have HQ0 : Hid (∀ j (h : j < LX.length) (h' : j < LY.length), LX[j] = LY[j]) := HQ1.out
      clear HQ1 HE1 HN1 HJ HL
      obtain ⟨wA, hwA⟩ : ∃ wA : World, wA = wr := ⟨_, rfl⟩
      rw [← hwA] at HBW a0 a1 b0 b1 ⊢
      clear hwA
      go_wp2_with fail
      go_loopw [6] (fun i wr => ∃ k : Nat, k ≤ MX.length ∧ i = .int .i64 k ∧ (∀ j (h : j < MX.length) (h' : j < MY.length), j < k → MX[j] = MY[j]) ∧ Below (w.heap.size + 2) w2 wr) (fun i _ => MX.length - (intOf i).toNat)
      case atStart => exact ⟨0, by omega, rfl, fun j _ _ h => by omega, by first | exact HBW.out | exact HB0.out⟩
      case round =>
        obtain ⟨k, hk, rfl, hj, hbw⟩ := hrel
        have HJ : Hid (∀ j (h : j < MX.length) (h' : j < MY.length), j < k → MX[j] = MY[j]) := hj
        have HBW : Hid (Below (w.heap.size + 2) w2 wr) := hbw
        clear hj hbw a0 a1 b0 b1
        obtain ⟨a0, a1, b0, b1⟩ := HS.out wr HBW.out
        by_cases h3 : k < MX.length
        · have h4 : k < MY.length := by rw [← HL2.out]; exact h3
          obtain ⟨b, o, b', o', c0, c1, c2, c3, c4, c5, c6, c7, c8, c9, d0, d1, d2, d3, d4, d5, d6, d7, d8, d9, ex1, ey1, hcell, hcall⟩ := HE2.out k h3 h4
          subst ex1 ey1
          have i1 : (k : Int) < (MX.length : Int) := by omega
          have i2 : (k : Int) < (MY.length : Int) := by omega
          have mkS : Hid (∀ z, Below (w.heap.size + 2) w2 z → Below (w.heap.size + 2) w2 z ∧ z.cell? ⟨w.heap.size, 1, none⟩ = some (.slice (some ⟨b, o, none⟩) (MX.length) qx) ∧ z.cell? ⟨w.heap.size + 1, 1, none⟩ = some (.slice (some ⟨b', o', none⟩) (MY.length) qy) ∧ z.cell? ⟨b, o + k * 10, none⟩ = some c0 ∧ z.cell? ⟨b, o + k * 10 + 1, none⟩ = some c1 ∧ z.cell? ⟨b, o + k * 10 + 2, none⟩ = some c2 ∧ z.cell? ⟨b, o + k * 10 + 3, none⟩ = some c3 ∧ z.cell? ⟨b, o + k * 10 + 4, none⟩ = some c4 ∧ z.cell? ⟨b, o + k * 10 + 5, none⟩ = some c5 ∧ z.cell? ⟨b, o + k * 10 + 6, none⟩ = some c6 ∧ z.cell? ⟨b, o + k * 10 + 7, none⟩ = some c7 ∧ z.cell? ⟨b, o + k * 10 + 8, none⟩ = some c8 ∧ z.cell? ⟨b, o + k * 10 + 9, none⟩ = some c9 ∧ z.cell? ⟨b', o' + k * 10, none⟩ = some d0 ∧ z.cell? ⟨b', o' + k * 10 + 1, none⟩ = some d1 ∧ z.cell? ⟨b', o' + k * 10 + 2, none⟩ = some d2 ∧ z.cell? ⟨b', o' + k * 10 + 3, none⟩ = some d3 ∧ z.cell? ⟨b', o' + k * 10 + 4, none⟩ = some d4 ∧ z.cell? ⟨b', o' + k * 10 + 5, none⟩ = some d5 ∧ z.cell? ⟨b', o' + k * 10 + 6, none⟩ = some d6 ∧ z.cell? ⟨b', o' + k * 10 + 7, none⟩ = some d7 ∧ z.cell? ⟨b', o' + k * 10 + 8, none⟩ = some d8 ∧ z.cell? ⟨b', o' + k * 10 + 9, none⟩ = some d9) := by
            intro z hb
            obtain ⟨x0, x1, y0, y1⟩ := HS.out z hb
            exact ⟨hb, x1, y1, hcell z hb⟩
          have HS0 := mkS.out wr.drew HBW.out.drew
          clear a0 b0 hcell
          by_cases he : MX[k] = MY[k]
          · have D : Hid (∀ z, (Below (w.heap.size + 2) w2 z ∧ z.cell? ⟨w.heap.size, 1, none⟩ = some (.slice (some ⟨b, o, none⟩) (MX.length) qx) ∧ z.cell? ⟨w.heap.size + 1, 1, none⟩ = some (.slice (some ⟨b', o', none⟩) (MY.length) qy) ∧ z.cell? ⟨b, o + k * 10, none⟩ = some c0 ∧ z.cell? ⟨b, o + k * 10 + 1, none⟩ = some c1 ∧ z.cell? ⟨b, o + k * 10 + 2, none⟩ = some c2 ∧ z.cell? ⟨b, o + k * 10 + 3, none⟩ = some c3 ∧ z.cell? ⟨b, o + k * 10 + 4, none⟩ = some c4 ∧ z.cell? ⟨b, o + k * 10 + 5, none⟩ = some c5 ∧ z.cell? ⟨b, o + k * 10 + 6, none⟩ = some c6 ∧ z.cell? ⟨b, o + k * 10 + 7, none⟩ = some c7 ∧ z.cell? ⟨b, o + k * 10 + 8, none⟩ = some c8 ∧ z.cell? ⟨b, o + k * 10 + 9, none⟩ = some c9 ∧ z.cell? ⟨b', o' + k * 10, none⟩ = some d0 ∧ z.cell? ⟨b', o' + k * 10 + 1, none⟩ = some d1 ∧ z.cell? ⟨b', o' + k * 10 + 2, none⟩ = some d2 ∧ z.cell? ⟨b', o' + k * 10 + 3, none⟩ = some d3 ∧ z.cell? ⟨b', o' + k * 10 + 4, none⟩ = some d4 ∧ z.cell? ⟨b', o' + k * 10 + 5, none⟩ = some d5 ∧ z.cell? ⟨b', o' + k * 10 + 6, none⟩ = some d6 ∧ z.cell? ⟨b', o' + k * 10 + 7, none⟩ = some d7 ∧ z.cell? ⟨b', o' + k * 10 + 8, none⟩ = some d8 ∧ z.cell? ⟨b', o' + k * 10 + 9, none⟩ = some d9) → Calls Tryz.prog 64 #[.agg #[c0, c1, c2, c3, c4, c5, c6, c7, c8, c9], .agg #[d0, d1, d2, d3, d4, d5, d6, d7, d8, d9]] z fun ev z' => ev = .returned (.bool true) ∧ (Below (w.heap.size + 2) w2 z' ∧ z'.cell? ⟨w.heap.size, 1, none⟩ = some (.slice (some ⟨b, o, none⟩) (MX.length) qx) ∧ z'.cell? ⟨w.heap.size + 1, 1, none⟩ = some (.slice (some ⟨b', o', none⟩) (MY.length) qy) ∧ z'.cell? ⟨b, o + k * 10, none⟩ = some c0 ∧ z'.cell? ⟨b, o + k * 10 + 1, none⟩ = some c1 ∧ z'.cell? ⟨b, o + k * 10 + 2, none⟩ = some c2 ∧ z'.cell? ⟨b, o + k * 10 + 3, none⟩ = some c3 ∧ z'.cell? ⟨b, o + k * 10 + 4, none⟩ = some c4 ∧ z'.cell? ⟨b, o + k * 10 + 5, none⟩ = some c5 ∧ z'.cell? ⟨b, o + k * 10 + 6, none⟩ = some c6 ∧ z'.cell? ⟨b, o + k * 10 + 7, none⟩ = some c7 ∧ z'.cell? ⟨b, o + k * 10 + 8, none⟩ = some c8 ∧ z'.cell? ⟨b, o + k * 10 + 9, none⟩ = some c9 ∧ z'.cell? ⟨b', o' + k * 10, none⟩ = some d0 ∧ z'.cell? ⟨b', o' + k * 10 + 1, none⟩ = some d1 ∧ z'.cell? ⟨b', o' + k * 10 + 2, none⟩ = some d2 ∧ z'.cell? ⟨b', o' + k * 10 + 3, none⟩ = some d3 ∧ z'.cell? ⟨b', o' + k * 10 + 4, none⟩ = some d4 ∧ z'.cell? ⟨b', o' + k * 10 + 5, none⟩ = some d5 ∧ z'.cell? ⟨b', o' + k * 10 + 6, none⟩ = some d6 ∧ z'.cell? ⟨b', o' + k * 10 + 7, none⟩ = some d7 ∧ z'.cell? ⟨b', o' + k * 10 + 8, none⟩ = some d8 ∧ z'.cell? ⟨b', o' + k * 10 + 9, none⟩ = some d9)) := by
              intro z hz
              refine (hcall z true hz.1 ⟨fun _ => he, fun _ => rfl⟩).mono ?_
              rintro _ z' ⟨rfl, hb⟩
              exact ⟨rfl, mkS.out z' hb⟩
            have HJ' : Hid (∀ j (h : j < MX.length) (h' : j < MY.length), j < k + 1 → MX[j] = MY[j]) := by
              intro j ha hb hjk
              rcases Nat.lt_or_ge j k with h | h
              · exact HJ.out j ha hb h
              · obtain rfl : j = k := by omega
                exact he
            clear he hcall mkS HJ HE2 HQ HQ0 HN2 HL2
            go_wp2_with fail
            go_region_held3 (fun z => Below (w.heap.size + 2) w2 z ∧ z.cell? ⟨w.heap.size, 1, none⟩ = some (.slice (some ⟨b, o, none⟩) (MX.length) qx) ∧ z.cell? ⟨w.heap.size + 1, 1, none⟩ = some (.slice (some ⟨b', o', none⟩) (MY.length) qy) ∧ z.cell? ⟨b, o + k * 10, none⟩ = some c0 ∧ z.cell? ⟨b, o + k * 10 + 1, none⟩ = some c1 ∧ z.cell? ⟨b, o + k * 10 + 2, none⟩ = some c2 ∧ z.cell? ⟨b, o + k * 10 + 3, none⟩ = some c3 ∧ z.cell? ⟨b, o + k * 10 + 4, none⟩ = some c4 ∧ z.cell? ⟨b, o + k * 10 + 5, none⟩ = some c5 ∧ z.cell? ⟨b, o + k * 10 + 6, none⟩ = some c6 ∧ z.cell? ⟨b, o + k * 10 + 7, none⟩ = some c7 ∧ z.cell? ⟨b, o + k * 10 + 8, none⟩ = some c8 ∧ z.cell? ⟨b, o + k * 10 + 9, none⟩ = some c9 ∧ z.cell? ⟨b', o' + k * 10, none⟩ = some d0 ∧ z.cell? ⟨b', o' + k * 10 + 1, none⟩ = some d1 ∧ z.cell? ⟨b', o' + k * 10 + 2, none⟩ = some d2 ∧ z.cell? ⟨b', o' + k * 10 + 3, none⟩ = some d3 ∧ z.cell? ⟨b', o' + k * 10 + 4, none⟩ = some d4 ∧ z.cell? ⟨b', o' + k * 10 + 5, none⟩ = some d5 ∧ z.cell? ⟨b', o' + k * 10 + 6, none⟩ = some d6 ∧ z.cell? ⟨b', o' + k * 10 + 7, none⟩ = some d7 ∧ z.cell? ⟨b', o' + k * 10 + 8, none⟩ = some d8 ∧ z.cell? ⟨b', o' + k * 10 + 9, none⟩ = some d9) (assumption) (first | (go_at_call 64; refine (D.out _ (by assumption)).mono ?_; rintro _ z1 ⟨rfl, hS1⟩))
            go_wp2_with fail
            go_roundw
            case rel => exact ⟨k + 1, by omega, by go_num, HJ'.out, hS1.1⟩
            case measure => simp [intOf]; omega
          · have D : Hid (∀ z, (Below (w.heap.size + 2) w2 z ∧ z.cell? ⟨w.heap.size, 1, none⟩ = some (.slice (some ⟨b, o, none⟩) (MX.length) qx) ∧ z.cell? ⟨w.heap.size + 1, 1, none⟩ = some (.slice (some ⟨b', o', none⟩) (MY.length) qy) ∧ z.cell? ⟨b, o + k * 10, none⟩ = some c0 ∧ z.cell? ⟨b, o + k * 10 + 1, none⟩ = some c1 ∧ z.cell? ⟨b, o + k * 10 + 2, none⟩ = some c2 ∧ z.cell? ⟨b, o + k * 10 + 3, none⟩ = some c3 ∧ z.cell? ⟨b, o + k * 10 + 4, none⟩ = some c4 ∧ z.cell? ⟨b, o + k * 10 + 5, none⟩ = some c5 ∧ z.cell? ⟨b, o + k * 10 + 6, none⟩ = some c6 ∧ z.cell? ⟨b, o + k * 10 + 7, none⟩ = some c7 ∧ z.cell? ⟨b, o + k * 10 + 8, none⟩ = some c8 ∧ z.cell? ⟨b, o + k * 10 + 9, none⟩ = some c9 ∧ z.cell? ⟨b', o' + k * 10, none⟩ = some d0 ∧ z.cell? ⟨b', o' + k * 10 + 1, none⟩ = some d1 ∧ z.cell? ⟨b', o' + k * 10 + 2, none⟩ = some d2 ∧ z.cell? ⟨b', o' + k * 10 + 3, none⟩ = some d3 ∧ z.cell? ⟨b', o' + k * 10 + 4, none⟩ = some d4 ∧ z.cell? ⟨b', o' + k * 10 + 5, none⟩ = some d5 ∧ z.cell? ⟨b', o' + k * 10 + 6, none⟩ = some d6 ∧ z.cell? ⟨b', o' + k * 10 + 7, none⟩ = some d7 ∧ z.cell? ⟨b', o' + k * 10 + 8, none⟩ = some d8 ∧ z.cell? ⟨b', o' + k * 10 + 9, none⟩ = some d9) → Calls Tryz.prog 64 #[.agg #[c0, c1, c2, c3, c4, c5, c6, c7, c8, c9], .agg #[d0, d1, d2, d3, d4, d5, d6, d7, d8, d9]] z fun ev z' => ev = .returned (.bool false) ∧ (Below (w.heap.size + 2) w2 z' ∧ z'.cell? ⟨w.heap.size, 1, none⟩ = some (.slice (some ⟨b, o, none⟩) (MX.length) qx) ∧ z'.cell? ⟨w.heap.size + 1, 1, none⟩ = some (.slice (some ⟨b', o', none⟩) (MY.length) qy) ∧ z'.cell? ⟨b, o + k * 10, none⟩ = some c0 ∧ z'.cell? ⟨b, o + k * 10 + 1, none⟩ = some c1 ∧ z'.cell? ⟨b, o + k * 10 + 2, none⟩ = some c2 ∧ z'.cell? ⟨b, o + k * 10 + 3, none⟩ = some c3 ∧ z'.cell? ⟨b, o + k * 10 + 4, none⟩ = some c4 ∧ z'.cell? ⟨b, o + k * 10 + 5, none⟩ = some c5 ∧ z'.cell? ⟨b, o + k * 10 + 6, none⟩ = some c6 ∧ z'.cell? ⟨b, o + k * 10 + 7, none⟩ = some c7 ∧ z'.cell? ⟨b, o + k * 10 + 8, none⟩ = some c8 ∧ z'.cell? ⟨b, o + k * 10 + 9, none⟩ = some c9 ∧ z'.cell? ⟨b', o' + k * 10, none⟩ = some d0 ∧ z'.cell? ⟨b', o' + k * 10 + 1, none⟩ = some d1 ∧ z'.cell? ⟨b', o' + k * 10 + 2, none⟩ = some d2 ∧ z'.cell? ⟨b', o' + k * 10 + 3, none⟩ = some d3 ∧ z'.cell? ⟨b', o' + k * 10 + 4, none⟩ = some d4 ∧ z'.cell? ⟨b', o' + k * 10 + 5, none⟩ = some d5 ∧ z'.cell? ⟨b', o' + k * 10 + 6, none⟩ = some d6 ∧ z'.cell? ⟨b', o' + k * 10 + 7, none⟩ = some d7 ∧ z'.cell? ⟨b', o' + k * 10 + 8, none⟩ = some d8 ∧ z'.cell? ⟨b', o' + k * 10 + 9, none⟩ = some d9)) := by
              intro z hz
              refine (hcall z false hz.1 ⟨fun h => (by cases h), fun h => absurd h he⟩).mono ?_
              rintro _ z' ⟨rfl, hb⟩
              exact ⟨rfl, mkS.out z' hb⟩
            have HF : Hid (B = false) := HN2.out k h3 h4 he
            clear he hcall mkS HJ HE2 HQ HQ0 HN2 HL2
            go_wp2_with fail
            go_region_held3 (fun z => Below (w.heap.size + 2) w2 z ∧ z.cell? ⟨w.heap.size, 1, none⟩ = some (.slice (some ⟨b, o, none⟩) (MX.length) qx) ∧ z.cell? ⟨w.heap.size + 1, 1, none⟩ = some (.slice (some ⟨b', o', none⟩) (MY.length) qy) ∧ z.cell? ⟨b, o + k * 10, none⟩ = some c0 ∧ z.cell? ⟨b, o + k * 10 + 1, none⟩ = some c1 ∧ z.cell? ⟨b, o + k * 10 + 2, none⟩ = some c2 ∧ z.cell? ⟨b, o + k * 10 + 3, none⟩ = some c3 ∧ z.cell? ⟨b, o + k * 10 + 4, none⟩ = some c4 ∧ z.cell? ⟨b, o + k * 10 + 5, none⟩ = some c5 ∧ z.cell? ⟨b, o + k * 10 + 6, none⟩ = some c6 ∧ z.cell? ⟨b, o + k * 10 + 7, none⟩ = some c7 ∧ z.cell? ⟨b, o + k * 10 + 8, none⟩ = some c8 ∧ z.cell? ⟨b, o + k * 10 + 9, none⟩ = some c9 ∧ z.cell? ⟨b', o' + k * 10, none⟩ = some d0 ∧ z.cell? ⟨b', o' + k * 10 + 1, none⟩ = some d1 ∧ z.cell? ⟨b', o' + k * 10 + 2, none⟩ = some d2 ∧ z.cell? ⟨b', o' + k * 10 + 3, none⟩ = some d3 ∧ z.cell? ⟨b', o' + k * 10 + 4, none⟩ = some d4 ∧ z.cell? ⟨b', o' + k * 10 + 5, none⟩ = some d5 ∧ z.cell? ⟨b', o' + k * 10 + 6, none⟩ = some d6 ∧ z.cell? ⟨b', o' + k * 10 + 7, none⟩ = some d7 ∧ z.cell? ⟨b', o' + k * 10 + 8, none⟩ = some d8 ∧ z.cell? ⟨b', o' + k * 10 + 9, none⟩ = some d9) (assumption) (first | (go_at_call 64; refine (D.out _ (by assumption)).mono ?_; rintro _ z1 ⟨rfl, hS1⟩))
            go_wp2_with fail
            go_ret
            exact ⟨by rw [HF.out]; rfl, HW.out _ hS1.1⟩
        · have i1 : ¬ (k : Int) < (MX.length : Int) := by omega
          have HQ1 : Hid (∀ j (h : j < MX.length) (h' : j < MY.length), MX[j] = MY[j]) := fun j h h' => HJ.out j h h' (by omega)
          have HF : Hid (B = true) := HQ.out HQ0.out HQ1.out
          go_wp2_with fail
          go_ret
          exact ⟨by rw [HF.out]; rfl, HW.out _ HBW.out⟩
end Go.Proofs.YtmopffaocamieaaGreat
