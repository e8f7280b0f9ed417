/-
  The texts Stl, Xsa, joined.
-/
import Derived.Test.YtmopffaocamieaaGreatJapSn03
import Derived.Test.YtmopffaocamieaaGreatQapSof
import Derived.Test.YtmopffaocamieaaGreatQapMfd
namespace Go.Proofs.YtmopffaocamieaaGreat
open Go.RowKit

abbrev fCel : List Value := [.bool false, .string ⟨#[102]⟩, .slice none 0 0, .slice none 0 0, .int .i64 0, .string ⟨#[]⟩, .slice none 0 0, .slice none 0 0, .slice none 0 0, .int .i64 0]
def fFnc : Fnc := ⟨false, [102], [], [], Ty.zero, [], 0⟩
theorem fFnc_at {K : Ctx} (hB : 1 ≤ K.B) {w : World} : FncAt 0 K w fCel fFnc := ⟨_, _, tyCells 0, _, rfl, hB, nil_ar, nil_ar, kind_at K w 0, nil_ar⟩
theorem crt_one {K : Ctx} (hB : 1 ≤ K.B) {w : World} {g : Nat} (hr : Row w g 65 fCel) (hg : g < K.C) : CrtAt 0 K w [.slice none 0 0, .slice (some ⟨g, 0, none⟩) 1 1] ⟨[], [fFnc]⟩ := by
  refine ⟨_, _, rfl, nil_ar, some ⟨g, 0, none⟩, 1, rfl, Nat.le_refl _, by decide, fun i hi => ?_⟩
  obtain rfl : i = 0 := by simp at hi; omega
  refine ⟨g, 0, rfl, hg, fCel, rfl, fun j hj => ?_, fFnc_at hB⟩
  rw [show 0 + 0 * 10 + j = j by omega]
  exact hr.cell j

set_option maxHeartbeats 4000000 in
set_option maxRecDepth 20000 in
theorem told_any (w : World) : Calls Tryz.prog 9 #[] w fun ev w' => ev = .returned (.bool true) ∧ Below w.heap.size w w' := by
  have C1 : Hid (∀ w1, Row w1 w.heap.size 65 fCel → Below w.heap.size w w1 → w.heap.size < w1.heap.size → Calls Tryz.prog 10 #[.string ⟨#[97]⟩, .agg #[.slice none 0 0, .slice (some ⟨w.heap.size, 0, none⟩) 1 1]] w1 fun ev w' => ∃ p0 e0 p1 e1, ev = .returned (.agg #[.string (str [97]), .slice p0 0 e0, .slice p1 0 e1]) ∧ Below w.heap.size w w') := by
    intro w1 r1 h1 h2
    have K : Ctx := ⟨w1.heap.size, 1, by decide⟩
    refine (of_any (n := 0) (K := ⟨w1.heap.size, 1, by decide⟩) (Nat.le_refl _) (crt_one (Nat.le_refl _) r1 h2) [97] (by decide) (by decide) (by decide)).mono ?_
    rintro _ w2 ⟨u0, u1, rfl, hb, x0, x1, e, q0, q1⟩
    cases e
    obtain ⟨p0, e0, rfl⟩ := q0.form
    obtain ⟨p1, e1, rfl⟩ := q1.form
    exact ⟨p0, e0, p1, e1, rfl, h1.trans (hb.mono h1.size)⟩
  have C2 : Hid (∀ w1 p0 e0 p1 e1, Below w.heap.size w w1 → Calls Tryz.prog 13 #[.agg #[.string (str [97]), .slice p0 0 e0, .slice p1 0 e1]] w1 fun ev w' => ∃ ao k e, ev = .returned (.tuple #[.slice ao k e, .nilIface]) ∧ Sw w' (.slice ao k e) [4, 85, 83, 73, 71, 1, 97, 0, 0] ∧ Below w.heap.size w w') := by
    intro w1 p0 e0 p1 e1 h1
    refine (put_nil [97] (by decide) (by decide) p0 p1 e0 e1 w1).mono ?_
    rintro _ w2 ⟨x, rfl, hs, hb⟩
    have e1 : ([4, 85, 83, 73, 71] ++ (enc ([97] : Bs).length ++ [97]) ++ [0, 0] : List UInt8) = [4, 85, 83, 73, 71, 1, 97, 0, 0] := by decide
    rw [e1] at hs
    have hx : ∃ ao k e, x = .slice ao k e := by
      rcases hs.shape with ⟨c, rfl, _⟩ | ⟨b, o, c, rfl, _⟩
      · exact ⟨_, _, _, rfl⟩
      · exact ⟨_, _, _, rfl⟩
    obtain ⟨ao, k, e, rfl⟩ := hx
    exact ⟨ao, k, e, rfl, hs, h1.trans (hb.mono h1.size)⟩
  have C3 : Hid (∀ w2 x, Sw w2 x [4, 85, 83, 73, 71, 1, 97, 0, 0] → Below w.heap.size w w2 → Calls Tryz.prog 20 #[.slice (some ⟨w2.heap.size, 0, none⟩) 1 1] (w2.alloc (.cells #[.int .u8 1] 5)) fun ev w' => ∃ e, ev = .returned (.tuple #[nilSig, e]) ∧ Er w' e 4 0 ∧ Below w.heap.size w w' ∧ Sw w' x [4, 85, 83, 73, 71, 1, 97, 0, 0]) := by
    intro w2 x hs h1
    have hA := alloc_one w2 (.cells #[.int .u8 1] 5)
    have R := Row.new w2 5 [.int .u8 1]
    refine (get_bad _ _ [1] ⟨.inr ⟨w2.heap.size, 0, 1, rfl, fun i hi => ?_⟩⟩ (fun cap e => (by cases e)) (by decide) (by decide)).mono ?_
    · obtain rfl : i = 0 := by simp at hi; omega
      exact R.cell 0
    rintro _ w3 ⟨e, rfl, hE, hb⟩
    exact ⟨e, rfl, hE, (h1.alloc h1.size _).trans (hb.mono (h1.alloc h1.size _).size), (hs.below hA).below hb⟩
  have C4 : Hid (∀ w3 e, Er w3 e 4 0 → Below w.heap.size w w3 → Calls Tryz.prog 17 #[e, .int .i64 4, .int .i64 0] w3 fun ev w' => ev = .returned (.bool true) ∧ Below w.heap.size w w') := by
    intro w3 e h1 h2
    refine (is_any w3 e 4 0 4 0 (.inr h1) rfl rfl).mono ?_
    rintro _ w4 ⟨rfl, hb⟩
    exact ⟨rfl, h2.trans (hb.mono h2.size)⟩
  go_enter Tryz.func9, Tryz.ntmps9
  go_wp2_with (first | (refine bsliceL rfl 23 65 10 176 _ (.tmp 6) rfl Tryz.underlying23 Tryz.info65z (by decide) (by decide) fCel rfl rfl ?_; intro w1 hR1 hB1 hz1; apply shut))
  show wpList _ _ _ _ _ _
  have D1 := hidS (C1.out w1 hR1 hB1 hz1)
  clear C1 hR1 hB1 hz1
  go_wp2_with fail
  refine D1.out.mono ?_
  rintro _ w2 ⟨p0, e0, p1, e1, rfl, h2⟩
  have D2 := hidS (C2.out w2 p0 e0 p1 e1 h2)
  clear D1 C2 h2
  go_wp2_with fail
  refine D2.out.mono ?_
  rintro _ w3 ⟨ao, k, e, rfl, hs, h3⟩
  have D3 := hidS (C3.out w3 _ hs h3)
  clear D2 C3 hs h3
  go_wp2_with fail
  refine D3.out.mono ?_
  rintro _ w4 ⟨er, rfl, hE, h4, hs⟩
  have hcv := conv_sl (w4.alloc (.cells #[.string (str []), .slice none 0 0, .slice none 0 0] 27)) _ _ (hs.below (alloc_one w4 _))
  have D4 := hidS (C4.out (w4.alloc (.cells #[.string (str []), .slice none 0 0, .slice none 0 0] 27)) er (hE.below (alloc_one w4 _)) (h4.alloc h4.size _))
  obtain ⟨b, rfl, _⟩ := hE.shape
  clear D3 C4 hE h4 hs
  unfold nilSig
  have hq : ((str [4, 85, 83, 73, 71, 1, 97, 0, 0]).toList == [4, 85, 83, 73, 71, 1, 97, 0, 0]) = true := by rw [list_str]; rfl
  go_wp2_with fail
  refine D4.out.mono ?_
  rintro _ w5 ⟨rfl, h5⟩
  clear D4
  go_wp2_with fail
  go_ret
  exact ⟨rfl, h5⟩
end Go.Proofs.YtmopffaocamieaaGreat

namespace Go.Proofs.YtmopffaocamieaaGreat
open Go.RowKit
theorem list4 {l : List Value} (h : l.length = 4) : ∃ a0 a1 a2 a3 : Value, l = [a0, a1, a2, a3] := by
  match l, h with
  | [a0, a1, a2, a3], _ => exact ⟨_, _, _, _, rfl⟩
theorem list5 {l : List Value} (h : l.length = 5) : ∃ a0 a1 a2 a3 a4 : Value, l = [a0, a1, a2, a3, a4] := by
  match l, h with
  | [a0, a1, a2, a3, a4], _ => exact ⟨_, _, _, _, _, rfl⟩
theorem list6 {l : List Value} (h : l.length = 6) : ∃ a0 a1 a2 a3 a4 a5 : Value, l = [a0, a1, a2, a3, a4, a5] := by
  match l, h with
  | [a0, a1, a2, a3, a4, a5], _ => exact ⟨_, _, _, _, _, _, rfl⟩
theorem list10 {l : List Value} (h : l.length = 10) : ∃ a0 a1 a2 a3 a4 a5 a6 a7 a8 a9 : Value, l = [a0, a1, a2, a3, a4, a5, a6, a7, a8, a9] := by
  match l, h with
  | [a0, a1, a2, a3, a4, a5, a6, a7, a8, a9], _ => exact ⟨_, _, _, _, _, _, _, _, _, _, rfl⟩

set_option maxHeartbeats 8000000 in
set_option maxRecDepth 20000 in
theorem xplace_any  {K : Ctx} {w : World} (hC : K.C ≤ w.heap.size) {x y : Pl} {cs cs' : List Value} (hx : PlAt K w cs x) (hy : PlAt K w cs' y) (B : Bool) (hB : B = true ↔ x = y) :
    Calls Tryz.prog 159 #[.agg cs.toArray, .agg cs'.toArray] w fun ev w' => ev = .returned (.bool B) ∧ Below w.heap.size w w' := by
  obtain ⟨v1, rfl, hl1, h1⟩ := hx
  obtain ⟨u1, rfl, hl2, g1⟩ := hy
  obtain ⟨a1, c1, e1'⟩ := h1.form
  obtain ⟨b1, d1, e2'⟩ := g1.form
  obtain ⟨w2, hw2⟩ : ∃ w2, w2 = ((w.alloc (.cells #[.string (str x.name), v1] 107)).alloc (.cells #[.string (str y.name), u1] 107)) := ⟨_, rfl⟩
  have hA : Below w.heap.size w w2 := by rw [hw2]; exact alloc_two w _ _
  have hsz : w2.heap.size = w.heap.size + 2 := by rw [hw2, size_alloc, size_alloc]
  have R1 : Row w2 w.heap.size 107 [.string (str x.name), v1] := by rw [hw2]; exact (Row.new w 107 [.string (str x.name), v1]).alloc _
  have R2 : Row w2 (w.heap.size + 1) 107 [.string (str y.name), u1] := by
    have := Row.new (w.alloc (.cells #[.string (str x.name), v1] 107)) 107 [.string (str y.name), u1]
    rw [size_alloc] at this; rw [hw2]; exact this
  have HB0 : Hid (Below (w.heap.size + 2) w2 ((w.alloc (.cells #[.string (str x.name), v1] 107)).alloc (.cells #[.string (str y.name), u1] 107))) := by show Below _ _ _; rw [← hw2]; exact Below.refl _ _
  clear hw2
  have HS : Hid (∀ W, Below (w.heap.size + 2) w2 W → W.cell? ⟨w.heap.size, 0, none⟩ = some (.string (str x.name)) ∧ W.cell? ⟨w.heap.size, 1, none⟩ = some (v1) ∧ W.cell? ⟨w.heap.size + 1, 0, none⟩ = some (.string (str y.name)) ∧ W.cell? ⟨w.heap.size + 1, 1, none⟩ = some (u1)) := by
    intro W hb
    have r1 := R1.below hb (by omega)
    have r2 := R2.below hb (by omega)
    exact ⟨r1.cell 0, r1.cell 1, r2.cell 0, r2.cell 1⟩
  have HW : Hid (∀ W, Below (w.heap.size + 2) w2 W → Below w.heap.size w W) := fun W hb => hA.trans (below_le hb (by omega))
  have HK : ∀ W, Below (w.heap.size + 2) w2 W → Below K.C w W := fun W hb => below_le (HW.out W hb) hC
  have HC : ∀ W, Below (w.heap.size + 2) w2 W → K.C ≤ W.heap.size ∧ w.heap.size + 2 ≤ W.heap.size := fun W hb => by have := hb.size; omega
  have HB : Hid (B = true ↔ x = y) := hB
  clear hB
  have q1 : Hid (∀ (B : Bool), (B = true ↔ x.path = y.path) → ∀ W, Below (w.heap.size + 2) w2 W → Calls Tryz.prog 110 #[v1, u1] W fun ev w' => ev = .returned (.bool B) ∧ Below (w.heap.size + 2) w2 w') := by
    intro B hB W hb
    refine (texts_any (h1.below (HK W hb)) (g1.below (HK W hb)) B hB).mono ?_
    rintro _ _ ⟨rfl, m, rfl⟩
    exact ⟨rfl, hb.trans (Below.drewN _ _ _)⟩
  by_cases e0 : x.name = y.name
  rotate_left
  · have HF : Hid (B = false) := bool_false HB.out (fun h => e0 (by rw [h]))
    have p0 : ((str x.name).toList == (str y.name).toList) = false := by rw [str_beq]; simp [e0]
    clear q1 e0 HB HK HC R1 R2 hA hsz hl1 hl2 h1 g1 
    subst e1' e2'
    generalize str x.name = S1 at *
    generalize str y.name = S2 at *
    generalize x.path.length = n1 at *
    generalize y.path.length = n2 at *
    go_enter Tryz.func159, Tryz.ntmps159
    go_wp2_with fail
    go_ret
    exact ⟨by rw [HF.out]; rfl, HW.out _ (by first | assumption | exact HB0.out)⟩
  by_cases e1 : x.path = y.path
  rotate_left
  · have HF : Hid (B = false) := bool_false HB.out (fun h => e1 (by rw [h]))
    have p0 : ((str x.name).toList == (str y.name).toList) = true := by rw [str_beq]; simp [e0]
    have r1 : Hid (∀ W, Below (w.heap.size + 2) w2 W → Calls Tryz.prog 110 #[v1, u1] W fun ev w' => ev = .returned (.bool false) ∧ Below (w.heap.size + 2) w2 w') := q1.out false ⟨fun h => (by cases h), fun h => absurd h e1⟩
    clear q1 e0 e1 HB HK HC R1 R2 hA hsz hl1 hl2 h1 g1 
    subst e1' e2'
    generalize str x.name = S1 at *
    generalize str y.name = S2 at *
    generalize x.path.length = n1 at *
    generalize y.path.length = n2 at *
    go_enter Tryz.func159, Tryz.ntmps159
    go_wp2_with fail
    refine (r1.out _ HB0.out).mono ?_
    rintro _ W1 ⟨rfl, hb1⟩
    obtain ⟨a0, a1, b0, b1⟩ := HS.out W1 hb1
    go_wp2_with fail
    go_ret
    exact ⟨by rw [HF.out]; rfl, HW.out _ (by first | assumption | exact HB0.out)⟩
  have HF : Hid (B = true) := by
    refine HB.out.2 ?_
    clear q1 HB HS HW HK HC R1 R2 hA hsz hl1 hl2 h1 g1
    cases x; cases y; simp only at e0 e1; subst e0 e1; rfl
  have p0 : ((str x.name).toList == (str y.name).toList) = true := by rw [str_beq]; simp [e0]
  have r1 : Hid (∀ W, Below (w.heap.size + 2) w2 W → Calls Tryz.prog 110 #[v1, u1] W fun ev w' => ev = .returned (.bool true) ∧ Below (w.heap.size + 2) w2 w') := q1.out true ⟨fun _ => e1, fun _ => rfl⟩
  clear q1 e0 e1 HB HK HC R1 R2 hA hsz hl1 hl2 h1 g1 
  subst e1' e2'
  generalize str x.name = S1 at *
  generalize str y.name = S2 at *
  generalize x.path.length = n1 at *
  generalize y.path.length = n2 at *
  go_enter Tryz.func159, Tryz.ntmps159
  go_wp2_with fail
  refine (r1.out _ HB0.out).mono ?_
  rintro _ W1 ⟨rfl, hb1⟩
  obtain ⟨a0, a1, b0, b1⟩ := HS.out W1 hb1
  go_wp2_with fail
  go_ret
  exact ⟨by rw [HF.out]; rfl, HW.out _ (by first | assumption | exact HB0.out)⟩

set_option maxHeartbeats 8000000 in
set_option maxRecDepth 20000 in
theorem xoper_any  {K : Ctx} {w : World} (hC : K.C ≤ w.heap.size) {x y : Opr} {cs cs' : List Value} (hx : OprAt K w cs x) (hy : OprAt K w cs' y) (B : Bool) (hB : B = true ↔ x = y) :
    Calls Tryz.prog 161 #[.agg cs.toArray, .agg cs'.toArray] w fun ev w' => ev = .returned (.bool B) ∧ Below w.heap.size w w' := by
  obtain ⟨xs, rfl, k1⟩ := hx
  obtain ⟨ys, rfl, k2⟩ := hy
  obtain ⟨v1, rfl, hl1, h1⟩ := id k1
  obtain ⟨u1, rfl, hl2, g1⟩ := id k2
  obtain ⟨a1, c1, e1'⟩ := h1.form
  obtain ⟨b1, d1, e2'⟩ := g1.form
  obtain ⟨w2, hw2⟩ : ∃ w2, w2 = ((w.alloc (.cells #[.int .i64 x.kind, .int .i64 x.n, .string (str x.place.name), v1] 109)).alloc (.cells #[.int .i64 y.kind, .int .i64 y.n, .string (str y.place.name), u1] 109)) := ⟨_, rfl⟩
  have hA : Below w.heap.size w w2 := by rw [hw2]; exact alloc_two w _ _
  have hsz : w2.heap.size = w.heap.size + 2 := by rw [hw2, size_alloc, size_alloc]
  have R1 : Row w2 w.heap.size 109 [.int .i64 x.kind, .int .i64 x.n, .string (str x.place.name), v1] := by rw [hw2]; exact (Row.new w 109 [.int .i64 x.kind, .int .i64 x.n, .string (str x.place.name), v1]).alloc _
  have R2 : Row w2 (w.heap.size + 1) 109 [.int .i64 y.kind, .int .i64 y.n, .string (str y.place.name), u1] := by
    have := Row.new (w.alloc (.cells #[.int .i64 x.kind, .int .i64 x.n, .string (str x.place.name), v1] 109)) 109 [.int .i64 y.kind, .int .i64 y.n, .string (str y.place.name), u1]
    rw [size_alloc] at this; rw [hw2]; exact this
  have HB0 : Hid (Below (w.heap.size + 2) w2 ((w.alloc (.cells #[.int .i64 x.kind, .int .i64 x.n, .string (str x.place.name), v1] 109)).alloc (.cells #[.int .i64 y.kind, .int .i64 y.n, .string (str y.place.name), u1] 109))) := by show Below _ _ _; rw [← hw2]; exact Below.refl _ _
  clear hw2
  have HS : Hid (∀ W, Below (w.heap.size + 2) w2 W → W.cell? ⟨w.heap.size, 0, none⟩ = some (.int .i64 x.kind) ∧ W.cell? ⟨w.heap.size, 1, none⟩ = some (.int .i64 x.n) ∧ W.cell? ⟨w.heap.size, 2, none⟩ = some (.string (str x.place.name)) ∧ W.cell? ⟨w.heap.size, 3, none⟩ = some (v1) ∧ W.cell? ⟨w.heap.size + 1, 0, none⟩ = some (.int .i64 y.kind) ∧ W.cell? ⟨w.heap.size + 1, 1, none⟩ = some (.int .i64 y.n) ∧ W.cell? ⟨w.heap.size + 1, 2, none⟩ = some (.string (str y.place.name)) ∧ W.cell? ⟨w.heap.size + 1, 3, none⟩ = some (u1)) := by
    intro W hb
    have r1 := R1.below hb (by omega)
    have r2 := R2.below hb (by omega)
    exact ⟨r1.cell 0, r1.cell 1, r1.cell 2, r1.cell 3, r2.cell 0, r2.cell 1, r2.cell 2, r2.cell 3⟩
  have HW : Hid (∀ W, Below (w.heap.size + 2) w2 W → Below w.heap.size w W) := fun W hb => hA.trans (below_le hb (by omega))
  have HK : ∀ W, Below (w.heap.size + 2) w2 W → Below K.C w W := fun W hb => below_le (HW.out W hb) hC
  have HC : ∀ W, Below (w.heap.size + 2) w2 W → K.C ≤ W.heap.size ∧ w.heap.size + 2 ≤ W.heap.size := fun W hb => by have := hb.size; omega
  have HB : Hid (B = true ↔ x = y) := hB
  clear hB
  have q2 : Hid (∀ (B : Bool), (B = true ↔ x.place = y.place) → ∀ W, Below (w.heap.size + 2) w2 W → Calls Tryz.prog 159 #[.agg #[.string (str x.place.name), v1], .agg #[.string (str y.place.name), u1]] W fun ev w' => ev = .returned (.bool B) ∧ Below (w.heap.size + 2) w2 w') := by
    intro B hB W hb
    refine (xplace_any (HC W hb).1 (k1.below (HK W hb)) (k2.below (HK W hb)) B hB).mono ?_
    rintro _ _ ⟨rfl, h⟩
    exact ⟨rfl, hb.trans (below_le h (HC W hb).2)⟩
  by_cases e0 : x.kind = y.kind
  rotate_left
  · have HF : Hid (B = false) := bool_false HB.out (fun h => e0 (by rw [h]))
    have p0 : (x.kind == y.kind) = false := by simp [e0]
    clear q2 e0 HB HK HC R1 R2 hA hsz hl1 hl2 h1 g1 k1 k2 
    subst e1' e2'
    generalize x.kind = s0 at *
    generalize y.kind = t0 at *
    generalize x.n = s1 at *
    generalize y.n = t1 at *
    generalize str x.place.name = S1 at *
    generalize str y.place.name = S2 at *
    generalize x.place.path.length = n1 at *
    generalize y.place.path.length = n2 at *
    go_enter Tryz.func161, Tryz.ntmps161
    go_wp2_with fail
    go_ret
    exact ⟨by rw [HF.out]; rfl, HW.out _ (by first | assumption | exact HB0.out)⟩
  by_cases e1 : x.n = y.n
  rotate_left
  · have HF : Hid (B = false) := bool_false HB.out (fun h => e1 (by rw [h]))
    have p0 : (x.kind == y.kind) = true := by simp [e0]
    have p1 : (x.n == y.n) = false := by simp [e1]
    clear q2 e0 e1 HB HK HC R1 R2 hA hsz hl1 hl2 h1 g1 k1 k2 
    subst e1' e2'
    generalize x.kind = s0 at *
    generalize y.kind = t0 at *
    generalize x.n = s1 at *
    generalize y.n = t1 at *
    generalize str x.place.name = S1 at *
    generalize str y.place.name = S2 at *
    generalize x.place.path.length = n1 at *
    generalize y.place.path.length = n2 at *
    go_enter Tryz.func161, Tryz.ntmps161
    go_wp2_with fail
    go_ret
    exact ⟨by rw [HF.out]; rfl, HW.out _ (by first | assumption | exact HB0.out)⟩
  by_cases e2 : x.place = y.place
  rotate_left
  · have HF : Hid (B = false) := bool_false HB.out (fun h => e2 (by rw [h]))
    have p0 : (x.kind == y.kind) = true := by simp [e0]
    have p1 : (x.n == y.n) = true := by simp [e1]
    have r2 : Hid (∀ W, Below (w.heap.size + 2) w2 W → Calls Tryz.prog 159 #[.agg #[.string (str x.place.name), v1], .agg #[.string (str y.place.name), u1]] W fun ev w' => ev = .returned (.bool false) ∧ Below (w.heap.size + 2) w2 w') := q2.out false ⟨fun h => (by cases h), fun h => absurd h e2⟩
    clear q2 e0 e1 e2 HB HK HC R1 R2 hA hsz hl1 hl2 h1 g1 k1 k2 
    subst e1' e2'
    generalize x.kind = s0 at *
    generalize y.kind = t0 at *
    generalize x.n = s1 at *
    generalize y.n = t1 at *
    generalize str x.place.name = S1 at *
    generalize str y.place.name = S2 at *
    generalize x.place.path.length = n1 at *
    generalize y.place.path.length = n2 at *
    go_enter Tryz.func161, Tryz.ntmps161
    go_wp2_with fail
    refine (r2.out _ HB0.out).mono ?_
    rintro _ W2 ⟨rfl, hb2⟩
    obtain ⟨a0, a1, a2, a3, b0, b1, b2, b3⟩ := HS.out W2 hb2
    go_wp2_with fail
    go_ret
    exact ⟨by rw [HF.out]; rfl, HW.out _ (by first | assumption | exact HB0.out)⟩
  have HF : Hid (B = true) := by
    refine HB.out.2 ?_
    clear q2 HB HS HW HK HC R1 R2 hA hsz hl1 hl2 h1 g1 k1 k2
    cases x; cases y; simp only at e0 e1 e2; subst e0 e1 e2; rfl
  have p0 : (x.kind == y.kind) = true := by simp [e0]
  have p1 : (x.n == y.n) = true := by simp [e1]
  have r2 : Hid (∀ W, Below (w.heap.size + 2) w2 W → Calls Tryz.prog 159 #[.agg #[.string (str x.place.name), v1], .agg #[.string (str y.place.name), u1]] W fun ev w' => ev = .returned (.bool true) ∧ Below (w.heap.size + 2) w2 w') := q2.out true ⟨fun _ => e2, fun _ => rfl⟩
  clear q2 e0 e1 e2 HB HK HC R1 R2 hA hsz hl1 hl2 h1 g1 k1 k2 
  subst e1' e2'
  generalize x.kind = s0 at *
  generalize y.kind = t0 at *
  generalize x.n = s1 at *
  generalize y.n = t1 at *
  generalize str x.place.name = S1 at *
  generalize str y.place.name = S2 at *
  generalize x.place.path.length = n1 at *
  generalize y.place.path.length = n2 at *
  go_enter Tryz.func161, Tryz.ntmps161
  go_wp2_with fail
  refine (r2.out _ HB0.out).mono ?_
  rintro _ W2 ⟨rfl, hb2⟩
  obtain ⟨a0, a1, a2, a3, b0, b1, b2, b3⟩ := HS.out W2 hb2
  go_wp2_with fail
  go_ret
  exact ⟨by rw [HF.out]; rfl, HW.out _ (by first | assumption | exact HB0.out)⟩
end Go.Proofs.YtmopffaocamieaaGreat
