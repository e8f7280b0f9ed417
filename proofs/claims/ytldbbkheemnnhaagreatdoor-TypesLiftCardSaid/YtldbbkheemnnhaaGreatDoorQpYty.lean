/-
  Types: may one be, so deep? The document says it.
-/
import Derived.Test.YtldbbkheemnnhaaGreatDoorJpMfd2
namespace Go.Proofs.YtldbbkheemnnhaaGreatDoor
open Go.RowKit
theorem list4 {l : List Value} (h : l.length = 4) : ∃ a0 a1 a2 a3 : Value, l = [a0, a1, a2, a3] := by
 match l, h with
 | [a0, a1, a2, a3], _ => exact ⟨_, _, _, _, rfl⟩
theorem str_empty (l : Bs) : ((str l).toList == []) = decide (l = []) := str_nil_beq l
theorem len_zero {α : Type} (l : List α) : ((l.length : Int) == 0) = decide (l = []) := by cases l <;> simp; omega
def XTyC (r : Nat) : Prop := ∀ {K : Ctx} {w : World}, Env K w -> ∀ {N d : Nat}, d + r = 65 -> ∀ {t : Ty} {cs : List Value}, TyAt N K w cs t -> ∀ (B : Bool), (B = true ↔ MayTy r t) ->
  Calls Tryz.prog 142 #[.agg cs.toArray, .int .i64 (d : Int)] w fun ev w' => ev = .returned (.bool B) /\ Below w.heap.size w w'
set_option maxHeartbeats 4000000 in
set_option maxRecDepth 20000 in
theorem xty_zero : XTyC 0 := by
 intro K w he N d hd t cs hx B hB
 have hF : B = false := bool_false hB (fun h => h)
 subst hF
 obtain ⟨n, rfl⟩ : ∃ n, N = n + 1 := by
  cases N with
  | zero => exact hx.elim
  | succ n => exact ⟨n, rfl⟩
 obtain ⟨v2, v3, rfl, -, -, -⟩ := hx
 have i1 : (64 : Int) < (d : Int) := by omega
 generalize str t.name = S at *
 generalize t.kind = kd at *
 clear hB
 go_enter Tryz.func142, Tryz.ntmps142
 go_wp2_with fail
 go_ret
 exact ⟨rfl, alloc_one _ _⟩
set_option maxHeartbeats 8000000 in
set_option maxRecDepth 20000 in
theorem xty_step {r : Nat} (ih : XTyC r) : XTyC (r + 1) := by
 intro K w he N d hd t cs hx B hB
 obtain ⟨n, rfl⟩ : ∃ n, N = n + 1 := by
  cases N with
  | zero => exact hx.elim
  | succ n => exact ⟨n, rfl⟩
 obtain ⟨v2, v3, rfl, hl1, h2, h4⟩ := hx
 obtain ⟨ao2, cap2, rfl, hc2, hb2, -⟩ := id h2.shape
 obtain ⟨ao3, cap3, rfl, hc3, hb3, hA3⟩ := id h4.shape
 have i0 : ¬ (64 : Int) < (d : Int) := by omega
 have i9 : (d : Int) <= 64 := by omega
 obtain ⟨w2, hw2⟩ : ∃ w2, w2 = w.alloc (.cells #[.int .i64 t.kind, .string (str t.name), .slice ao2 t.lives.length cap2, .slice ao3 t.elem.length cap3] 36) := ⟨_, rfl⟩
 have hA : Below w.heap.size w w2 := by rw [hw2]; exact alloc_one w _
 have hsz : w2.heap.size = w.heap.size + 1 := by rw [hw2, size_alloc]
 have R1 : Row w2 w.heap.size 36 [.int .i64 t.kind, .string (str t.name), .slice ao2 t.lives.length cap2, .slice ao3 t.elem.length cap3] := by rw [hw2]; exact Row.new w 36 [.int .i64 t.kind, .string (str t.name), .slice ao2 t.lives.length cap2, .slice ao3 t.elem.length cap3]
 have HB0 : Hid (Below (w.heap.size + 1) w2 (w.alloc (.cells #[.int .i64 t.kind, .string (str t.name), .slice ao2 t.lives.length cap2, .slice ao3 t.elem.length cap3] 36))) := by show Below _ _ _; rw [← hw2]; exact Below.refl _ _
 clear hw2
 have HS : Hid (∀ W, Below (w.heap.size + 1) w2 W -> W.cell? ⟨w.heap.size, 0, none⟩ = some (.int .i64 t.kind) /\ W.cell? ⟨w.heap.size, 1, none⟩ = some (.string (str t.name)) /\ W.cell? ⟨w.heap.size, 2, none⟩ = some (.slice ao2 t.lives.length cap2) /\ W.cell? ⟨w.heap.size, 3, none⟩ = some (.slice ao3 t.elem.length cap3)) := by
  intro W hb
  have r1 := R1.below hb (by omega)
  exact ⟨r1.cell 0, r1.cell 1, r1.cell 2, r1.cell 3⟩
 have HW : Hid (∀ W, Below (w.heap.size + 1) w2 W -> Below w.heap.size w W) := fun W hb => hA.trans (below_le hb (by omega))
 have HK : ∀ W, Below (w.heap.size + 1) w2 W -> Below K.C w W := fun W hb => below_le (HW.out W hb) he.C
 have HZ : ∀ W, Below (w.heap.size + 1) w2 W -> w.heap.size + 1 <= W.heap.size := fun W hb => by have := hb.size; omega
 have HL : Hid (∀ W, Below (w.heap.size + 1) w2 W -> Calls Tryz.prog 185 #[.string (str t.name)] W fun ev w' => ev = .returned (.bool (farB t.name)) /\ Below (w.heap.size + 1) w2 w') := by
  intro W hb
  refine (xlong_any t.name (Nat.le_trans hl1 he.B) W).mono ?_
  rintro _ _ ⟨rfl, h⟩
  exact ⟨rfl, hb.trans (below_le h (HZ W hb))⟩
 have HV : Hid (∀ W, Below (w.heap.size + 1) w2 W -> Calls Tryz.prog 107 #[.slice ao2 t.lives.length cap2] W fun ev w' => ev = .returned (.bool (livesB t.lives)) /\ Below (w.heap.size + 1) w2 w') := by
  intro W hb
  refine (xlives_any he.B (h2.below (HK W hb))).mono ?_
  rintro _ _ ⟨rfl, rfl⟩
  exact ⟨rfl, hb⟩
 have HT : Hid (∀ h : 0 < t.elem.length, ∃ (b o : Nat) (c0 c1 c2 c3 : Value), ao3 = some ⟨b, o, none⟩ /\ (∀ W, Below (w.heap.size + 1) w2 W -> W.cell? ⟨b, o, none⟩ = some c0 /\ W.cell? ⟨b, o + 1, none⟩ = some c1 /\ W.cell? ⟨b, o + 2, none⟩ = some c2 /\ W.cell? ⟨b, o + 3, none⟩ = some c3) /\
   ∀ W, Below (w.heap.size + 1) w2 W -> ∀ (B : Bool), (B = true ↔ MayTy r t.elem[0]) -> Calls Tryz.prog 142 #[.agg #[c0, c1, c2, c3], .int .i64 (d + 1)] W fun ev w' => ev = .returned (.bool B) /\ Below (w.heap.size + 1) w2 w') := by
  intro h
  obtain ⟨b, o, e, hbC, cs, hl, hcs, kx⟩ := hA3 0 h
  obtain ⟨c0, c1, c2, c3, rfl⟩ := list4 hl
  refine ⟨b, o, c0, c1, c2, c3, e, fun W hw => ?_, fun W hw B hB => ?_⟩
  ·have f : ∀ j, j < 4 -> W.cell? ⟨b, o + j, none⟩ = [c0, c1, c2, c3][j]? := fun j hj => by
    have := ((HK W hw).cell (p := ⟨b, o + 0 * 4 + j, none⟩) hbC).trans (hcs j hj)
    simpa using this
   exact ⟨f 0 (by decide), f 1 (by decide), f 2 (by decide), f 3 (by decide)⟩
  ·refine (ih (he.below (HK W hw)) (d := d + 1) (by omega) (kx.below (HK W hw)) B hB).mono ?_
   rintro _ _ ⟨rfl, h⟩
   exact ⟨rfl, hw.trans (below_le h (HZ W hw))⟩
 have q1 := str_empty t.name
 have q2 := len_zero t.lives
 have q3 := len_zero t.elem
 have HBB : Hid (B = true ↔ MayTy (r + 1) t) := hB
 have hl9 : t.lives.length <= 9223372036854775807 := by omega
 have hl8 : t.elem.length <= 9223372036854775807 := by omega
 clear hB h2 h4 hA3 hA hsz R1 HK HZ ih hl1 he hc2 hc3 hb2 hb3
 by_cases k1 : t.kind = 1
 ·have z0 : True := trivial
  have b1 : (t.kind == 1) = true := by rw [k1]; rfl
  have HBX : Hid (B = true ↔ t.name = [] /\ t.lives = [] /\ t.elem = []) := by show _ ↔ _; rw [HBB.out, mayTy_plain (by omega)]
  clear HBB HL HV HT k1
  by_cases e0 : t.name = []
  rotate_left
  ·have HF : Hid (B = false) := bool_false HBX.out (fun h => e0 h.1)
   rw [decide_eq_false e0] at q1
   clear HBX e0 q2 q3
   generalize t.kind = kd at *
   generalize str t.name = S at *
   generalize t.lives.length = n1 at *
   generalize t.elem.length = n2 at *
   go_enter Tryz.func142, Tryz.ntmps142
   go_wp2_with fail
   go_ret
   exact ⟨by rw [HF.out]; rfl, HW.out _ (by first | assumption | exact HB0.out)⟩
  rw [decide_eq_true e0] at q1
  by_cases e1 : t.lives = []
  rotate_left
  ·have HF : Hid (B = false) := bool_false HBX.out (fun h => e1 h.2.1)
   rw [decide_eq_false e1] at q2
   clear HBX e1 q3
   generalize t.kind = kd at *
   generalize str t.name = S at *
   generalize t.lives.length = n1 at *
   generalize t.elem.length = n2 at *
   go_enter Tryz.func142, Tryz.ntmps142
   go_wp2_with fail
   go_ret
   exact ⟨by rw [HF.out]; rfl, HW.out _ (by first | assumption | exact HB0.out)⟩
  rw [decide_eq_true e1] at q2
  by_cases e2 : t.elem = []
  rotate_left
  ·have HF : Hid (B = false) := bool_false HBX.out (fun h => e2 h.2.2)
   rw [decide_eq_false e2] at q3
   clear HBX e2
   generalize t.kind = kd at *
   generalize str t.name = S at *
   generalize t.lives.length = n1 at *
   generalize t.elem.length = n2 at *
   go_enter Tryz.func142, Tryz.ntmps142
   go_wp2_with fail
   go_ret
   exact ⟨by rw [HF.out]; rfl, HW.out _ (by first | assumption | exact HB0.out)⟩
  rw [decide_eq_true e2] at q3
  have HF : Hid (B = true) := HBX.out.2 ⟨e0, e1, e2⟩
  clear HBX e0 e1 e2
  generalize t.kind = kd at *
  generalize str t.name = S at *
  generalize t.lives.length = n1 at *
  generalize t.elem.length = n2 at *
  go_enter Tryz.func142, Tryz.ntmps142
  go_wp2_with fail
  go_ret
  exact ⟨by rw [HF.out]; rfl, HW.out _ (by first | assumption | exact HB0.out)⟩
 by_cases k2 : t.kind = 2
 ·have z0 : True := trivial
  have b1 : (t.kind == 1) = false := by rw [k2]; rfl
  have b2 : (t.kind == 2) = true := by rw [k2]; rfl
  have HBX : Hid (B = true ↔ t.name = [] /\ t.lives = [] /\ t.elem = []) := by show _ ↔ _; rw [HBB.out, mayTy_plain (by omega)]
  clear HBB HL HV HT k1 k2
  by_cases e0 : t.name = []
  rotate_left
  ·have HF : Hid (B = false) := bool_false HBX.out (fun h => e0 h.1)
   rw [decide_eq_false e0] at q1
   clear HBX e0 q2 q3
   generalize t.kind = kd at *
   generalize str t.name = S at *
   generalize t.lives.length = n1 at *
   generalize t.elem.length = n2 at *
   go_enter Tryz.func142, Tryz.ntmps142
   go_wp2_with fail
   go_ret
   exact ⟨by rw [HF.out]; rfl, HW.out _ (by first | assumption | exact HB0.out)⟩
  rw [decide_eq_true e0] at q1
  by_cases e1 : t.lives = []
  rotate_left
  ·have HF : Hid (B = false) := bool_false HBX.out (fun h => e1 h.2.1)
   rw [decide_eq_false e1] at q2
   clear HBX e1 q3
   generalize t.kind = kd at *
   generalize str t.name = S at *
   generalize t.lives.length = n1 at *
   generalize t.elem.length = n2 at *
   go_enter Tryz.func142, Tryz.ntmps142
   go_wp2_with fail
   go_ret
   exact ⟨by rw [HF.out]; rfl, HW.out _ (by first | assumption | exact HB0.out)⟩
  rw [decide_eq_true e1] at q2
  by_cases e2 : t.elem = []
  rotate_left
  ·have HF : Hid (B = false) := bool_false HBX.out (fun h => e2 h.2.2)
   rw [decide_eq_false e2] at q3
   clear HBX e2
   generalize t.kind = kd at *
   generalize str t.name = S at *
   generalize t.lives.length = n1 at *
   generalize t.elem.length = n2 at *
   go_enter Tryz.func142, Tryz.ntmps142
   go_wp2_with fail
   go_ret
   exact ⟨by rw [HF.out]; rfl, HW.out _ (by first | assumption | exact HB0.out)⟩
  rw [decide_eq_true e2] at q3
  have HF : Hid (B = true) := HBX.out.2 ⟨e0, e1, e2⟩
  clear HBX e0 e1 e2
  generalize t.kind = kd at *
  generalize str t.name = S at *
  generalize t.lives.length = n1 at *
  generalize t.elem.length = n2 at *
  go_enter Tryz.func142, Tryz.ntmps142
  go_wp2_with fail
  go_ret
  exact ⟨by rw [HF.out]; rfl, HW.out _ (by first | assumption | exact HB0.out)⟩
 by_cases k3 : t.kind = 3
 ·have z0 : True := trivial
  have b1 : (t.kind == 1) = false := by rw [k3]; rfl
  have b2 : (t.kind == 2) = false := by rw [k3]; rfl
  have b3 : (t.kind == 3) = true := by rw [k3]; rfl
  have HBX : Hid (B = true ↔ farB t.name = true /\ livesB t.lives = true /\ t.elem = []) := by
   show _ ↔ _
   rw [HBB.out, mayTy_struct k3]
   simp only [livesB, Bool.and_eq_true, decide_eq_true_eq, and_assoc]
  clear HBB HT q1 q2 k1 k2 k3
  cases f1 : farB t.name
  ·have HF : Hid (B = false) := bool_false HBX.out (by rw [f1]; rintro ⟨h, _⟩; cases h)
   rw [f1] at HL
   clear HBX f1 HV q3
   generalize t.kind = kd at *
   generalize str t.name = S at *
   generalize t.lives.length = n1 at *
   generalize t.elem.length = n2 at *
   go_enter Tryz.func142, Tryz.ntmps142
   go_wp2_with fail
   refine (HL.out _ (by first | assumption | exact HB0.out)).mono ?_
   rintro _ W1 ⟨rfl, hb1⟩
   obtain ⟨a0, a1, a2, a3⟩ := HS.out W1 hb1
   go_wp2_with fail
   go_ret
   exact ⟨by rw [HF.out]; rfl, HW.out _ (by first | assumption | exact HB0.out)⟩
  rw [f1] at HL HBX
  clear f1
  cases f2 : livesB t.lives
  ·have HF : Hid (B = false) := bool_false HBX.out (by rw [f2]; rintro ⟨_, h, _⟩; cases h)
   rw [f2] at HV
   clear HBX f2 q3
   generalize t.kind = kd at *
   generalize str t.name = S at *
   generalize t.lives.length = n1 at *
   generalize t.elem.length = n2 at *
   go_enter Tryz.func142, Tryz.ntmps142
   go_wp2_with fail
   refine (HL.out _ (by first | assumption | exact HB0.out)).mono ?_
   rintro _ W1 ⟨rfl, hb1⟩
   obtain ⟨a0, a1, a2, a3⟩ := HS.out W1 hb1
   go_wp2_with fail
   refine (HV.out _ (by first | assumption | exact HB0.out)).mono ?_
   rintro _ W2 ⟨rfl, hb2⟩
   obtain ⟨a0', a1', a2', a3'⟩ := HS.out W2 hb2
   go_wp2_with fail
   go_ret
   exact ⟨by rw [HF.out]; rfl, HW.out _ (by first | assumption | exact HB0.out)⟩
  rw [f2] at HV HBX
  clear f2
  by_cases e2 : t.elem = []
  ·have HF : Hid (B = true) := HBX.out.2 ⟨rfl, rfl, e2⟩
   rw [decide_eq_true e2] at q3
   clear HBX e2
   generalize t.kind = kd at *
   generalize str t.name = S at *
   generalize t.lives.length = n1 at *
   generalize t.elem.length = n2 at *
   go_enter Tryz.func142, Tryz.ntmps142
   go_wp2_with fail
   refine (HL.out _ (by first | assumption | exact HB0.out)).mono ?_
   rintro _ W1 ⟨rfl, hb1⟩
   obtain ⟨a0, a1, a2, a3⟩ := HS.out W1 hb1
   go_wp2_with fail
   refine (HV.out _ (by first | assumption | exact HB0.out)).mono ?_
   rintro _ W2 ⟨rfl, hb2⟩
   obtain ⟨a0', a1', a2', a3'⟩ := HS.out W2 hb2
   go_wp2_with fail
   go_ret
   exact ⟨by rw [HF.out]; rfl, HW.out _ (by first | assumption | exact HB0.out)⟩
  have HF : Hid (B = false) := bool_false HBX.out (fun h => e2 h.2.2)
  rw [decide_eq_false e2] at q3
  clear HBX e2
  generalize t.kind = kd at *
  generalize str t.name = S at *
  generalize t.lives.length = n1 at *
  generalize t.elem.length = n2 at *
  go_enter Tryz.func142, Tryz.ntmps142
  go_wp2_with fail
  refine (HL.out _ (by first | assumption | exact HB0.out)).mono ?_
  rintro _ W1 ⟨rfl, hb1⟩
  obtain ⟨a0, a1, a2, a3⟩ := HS.out W1 hb1
  go_wp2_with fail
  refine (HV.out _ (by first | assumption | exact HB0.out)).mono ?_
  rintro _ W2 ⟨rfl, hb2⟩
  obtain ⟨a0', a1', a2', a3'⟩ := HS.out W2 hb2
  go_wp2_with fail
  go_ret
  exact ⟨by rw [HF.out]; rfl, HW.out _ (by first | assumption | exact HB0.out)⟩
 by_cases k4 : t.kind = 4
 ·have z0 : True := trivial
  have b1 : (t.kind == 1) = false := by rw [k4]; rfl
  have b2 : (t.kind == 2) = false := by rw [k4]; rfl
  have b3 : (t.kind == 3) = false := by rw [k4]; rfl
  have b4 : (t.kind == 4) = true := by rw [k4]; rfl
  have HBX : Hid (B = true ↔ t.name = [] /\ t.lives.length <= 1 /\ t.lives.all lifeB = true /\ ∃ e, t.elem = [e] /\ MayTy r e) := by show _ ↔ _; rw [HBB.out, mayTy_ref (by omega)]
  have hcl : ∀ h : t.lives.length <= 1, livesB t.lives = t.lives.all lifeB := fun h => by unfold livesB; rw [decide_eq_true (by omega), Bool.true_and]
  clear HBB HL q2 q3 k1 k2 k3 k4
  by_cases e0 : t.name = []
  rotate_left
  ·have HF : Hid (B = false) := bool_false HBX.out (fun h => e0 h.1)
   rw [decide_eq_false e0] at q1
   clear HBX e0 HV HT hcl
   generalize t.kind = kd at *
   generalize str t.name = S at *
   generalize t.lives.length = n1 at *
   generalize t.elem.length = n2 at *
   go_enter Tryz.func142, Tryz.ntmps142
   go_wp2_with fail
   go_ret
   exact ⟨by rw [HF.out]; rfl, HW.out _ (by first | assumption | exact HB0.out)⟩
  rw [decide_eq_true e0] at q1
  by_cases e1 : t.lives.length <= 1
  rotate_left
  ·have HF : Hid (B = false) := bool_false HBX.out (fun h => e1 h.2.1)
   have i1 : ¬ (t.lives.length : Int) <= 1 := by omega
   clear HBX e0 HV HT hcl
   generalize t.kind = kd at *
   generalize str t.name = S at *
   generalize t.lives.length = n1 at *
   generalize t.elem.length = n2 at *
   go_enter Tryz.func142, Tryz.ntmps142
   go_wp2_with fail
   go_ret
   exact ⟨by rw [HF.out]; rfl, HW.out _ (by first | assumption | exact HB0.out)⟩
  have i1 : (t.lives.length : Int) <= 1 := by omega
  rw [hcl e1] at HV
  clear hcl
  cases f2 : t.lives.all lifeB
  ·have HF : Hid (B = false) := bool_false HBX.out (by rw [f2]; rintro ⟨_, _, h, _⟩; cases h)
   rw [f2] at HV
   clear HBX f2 HT e0
   generalize t.kind = kd at *
   generalize str t.name = S at *
   generalize t.lives.length = n1 at *
   generalize t.elem.length = n2 at *
   go_enter Tryz.func142, Tryz.ntmps142
   go_wp2_with fail
   refine (HV.out _ (by first | assumption | exact HB0.out)).mono ?_
   rintro _ W2 ⟨rfl, hb2⟩
   obtain ⟨a0', a1', a2', a3'⟩ := HS.out W2 hb2
   go_wp2_with fail
   go_ret
   exact ⟨by rw [HF.out]; rfl, HW.out _ (by first | assumption | exact HB0.out)⟩
  rw [f2] at HV HBX
  clear f2
  by_cases e2 : t.elem.length = 1
  rotate_left
  ·have HF : Hid (B = false) := bool_false HBX.out (by rintro ⟨_, _, _, e, h, _⟩; rw [h] at e2; exact e2 rfl)
   have i2 : ((t.elem.length : Int) == 1) = false := by simp; omega
   clear HBX HT e0 e2
   generalize t.kind = kd at *
   generalize str t.name = S at *
   generalize t.lives.length = n1 at *
   generalize t.elem.length = n2 at *
   go_enter Tryz.func142, Tryz.ntmps142
   go_wp2_with fail
   refine (HV.out _ (by first | assumption | exact HB0.out)).mono ?_
   rintro _ W2 ⟨rfl, hb2⟩
   obtain ⟨a0', a1', a2', a3'⟩ := HS.out W2 hb2
   go_wp2_with fail
   go_ret
   exact ⟨by rw [HF.out]; rfl, HW.out _ (by first | assumption | exact HB0.out)⟩
  have i2 : ((t.elem.length : Int) == 1) = true := by simp; omega
  have i3 : (0 : Int) < (t.elem.length : Int) := by omega
  obtain ⟨b, o, c0, c1, c2, c3, rfl, hcell, hcall⟩ := HT.out (by omega)
  have HBY : Hid (B = true ↔ MayTy r (t.elem[0]'(by omega))) := by
   show _ ↔ _
   rw [HBX.out]
   constructor
   ·rintro ⟨_, _, _, e, h, h'⟩
    simp only [h, List.getElem_cons_zero]
    exact h'
   ·intro h
    refine ⟨e0, e1, rfl, t.elem[0]'(by omega), ?_, h⟩
    exact List.ext_getElem (by simpa using e2) (fun j h1 h2 => by simp at h2; subst h2; rfl)
  have HCC : Hid (∀ W, Below (w.heap.size + 1) w2 W -> Calls Tryz.prog 142 #[.agg #[c0, c1, c2, c3], .int .i64 (d + 1)] W fun ev w' => ev = .returned (.bool B) /\ Below (w.heap.size + 1) w2 w') := fun W hb => hcall W hb B HBY.out
  have HCE := hid hcell
  clear HBX HBY HT e0 hcall hcell
  generalize t.kind = kd at *
  generalize str t.name = S at *
  generalize t.lives.length = n1 at *
  generalize t.elem.length = n2 at *
  subst e2
  clear i2 i3 hl8
  go_enter Tryz.func142, Tryz.ntmps142
  go_wp2_with fail
  refine (HV.out _ (by first | assumption | exact HB0.out)).mono ?_
  rintro _ W2 ⟨rfl, hb2⟩
  obtain ⟨a0', a1', a2', a3'⟩ := HS.out W2 hb2
  obtain ⟨g0, g1, g2, g3⟩ := HCE.out W2 hb2
  go_wp2_with fail
  refine (HCC.out _ (by first | assumption | exact HB0.out)).mono ?_
  rintro _ W3 ⟨rfl, hb3⟩
  go_wp2_with fail
  go_ret
  exact ⟨by cases B <;> rfl, HW.out _ hb3⟩
 by_cases k5 : t.kind = 5
 ·have z0 : True := trivial
  have b1 : (t.kind == 1) = false := by rw [k5]; rfl
  have b2 : (t.kind == 2) = false := by rw [k5]; rfl
  have b3 : (t.kind == 3) = false := by rw [k5]; rfl
  have b4 : (t.kind == 4) = false := by rw [k5]; rfl
  have b5 : (t.kind == 5) = true := by rw [k5]; rfl
  have HBX : Hid (B = true ↔ t.name = [] /\ t.lives.length <= 1 /\ t.lives.all lifeB = true /\ ∃ e, t.elem = [e] /\ MayTy r e) := by show _ ↔ _; rw [HBB.out, mayTy_ref (by omega)]
  have hcl : ∀ h : t.lives.length <= 1, livesB t.lives = t.lives.all lifeB := fun h => by unfold livesB; rw [decide_eq_true (by omega), Bool.true_and]
  clear HBB HL q2 q3 k1 k2 k3 k4 k5
  by_cases e0 : t.name = []
  rotate_left
  ·have HF : Hid (B = false) := bool_false HBX.out (fun h => e0 h.1)
   rw [decide_eq_false e0] at q1
   clear HBX e0 HV HT hcl
   generalize t.kind = kd at *
   generalize str t.name = S at *
   generalize t.lives.length = n1 at *
   generalize t.elem.length = n2 at *
   go_enter Tryz.func142, Tryz.ntmps142
   go_wp2_with fail
   go_ret
   exact ⟨by rw [HF.out]; rfl, HW.out _ (by first | assumption | exact HB0.out)⟩
  rw [decide_eq_true e0] at q1
  by_cases e1 : t.lives.length <= 1
  rotate_left
  ·have HF : Hid (B = false) := bool_false HBX.out (fun h => e1 h.2.1)
   have i1 : ¬ (t.lives.length : Int) <= 1 := by omega
   clear HBX e0 HV HT hcl
   generalize t.kind = kd at *
   generalize str t.name = S at *
   generalize t.lives.length = n1 at *
   generalize t.elem.length = n2 at *
   go_enter Tryz.func142, Tryz.ntmps142
   go_wp2_with fail
   go_ret
   exact ⟨by rw [HF.out]; rfl, HW.out _ (by first | assumption | exact HB0.out)⟩
  have i1 : (t.lives.length : Int) <= 1 := by omega
  rw [hcl e1] at HV
  clear hcl
  cases f2 : t.lives.all lifeB
  ·have HF : Hid (B = false) := bool_false HBX.out (by rw [f2]; rintro ⟨_, _, h, _⟩; cases h)
   rw [f2] at HV
   clear HBX f2 HT e0
   generalize t.kind = kd at *
   generalize str t.name = S at *
   generalize t.lives.length = n1 at *
   generalize t.elem.length = n2 at *
   go_enter Tryz.func142, Tryz.ntmps142
   go_wp2_with fail
   refine (HV.out _ (by first | assumption | exact HB0.out)).mono ?_
   rintro _ W2 ⟨rfl, hb2⟩
   obtain ⟨a0', a1', a2', a3'⟩ := HS.out W2 hb2
   go_wp2_with fail
   go_ret
   exact ⟨by rw [HF.out]; rfl, HW.out _ (by first | assumption | exact HB0.out)⟩
  rw [f2] at HV HBX
  clear f2
  by_cases e2 : t.elem.length = 1
  rotate_left
  ·have HF : Hid (B = false) := bool_false HBX.out (by rintro ⟨_, _, _, e, h, _⟩; rw [h] at e2; exact e2 rfl)
   have i2 : ((t.elem.length : Int) == 1) = false := by simp; omega
   clear HBX HT e0 e2
   generalize t.kind = kd at *
   generalize str t.name = S at *
   generalize t.lives.length = n1 at *
   generalize t.elem.length = n2 at *
   go_enter Tryz.func142, Tryz.ntmps142
   go_wp2_with fail
   refine (HV.out _ (by first | assumption | exact HB0.out)).mono ?_
   rintro _ W2 ⟨rfl, hb2⟩
   obtain ⟨a0', a1', a2', a3'⟩ := HS.out W2 hb2
   go_wp2_with fail
   go_ret
   exact ⟨by rw [HF.out]; rfl, HW.out _ (by first | assumption | exact HB0.out)⟩
  have i2 : ((t.elem.length : Int) == 1) = true := by simp; omega
  have i3 : (0 : Int) < (t.elem.length : Int) := by omega
  obtain ⟨b, o, c0, c1, c2, c3, rfl, hcell, hcall⟩ := HT.out (by omega)
  have HBY : Hid (B = true ↔ MayTy r (t.elem[0]'(by omega))) := by
   show _ ↔ _
   rw [HBX.out]
   constructor
   ·rintro ⟨_, _, _, e, h, h'⟩
    simp only [h, List.getElem_cons_zero]
    exact h'
   ·intro h
    refine ⟨e0, e1, rfl, t.elem[0]'(by omega), ?_, h⟩
    exact List.ext_getElem (by simpa using e2) (fun j h1 h2 => by simp at h2; subst h2; rfl)
  have HCC : Hid (∀ W, Below (w.heap.size + 1) w2 W -> Calls Tryz.prog 142 #[.agg #[c0, c1, c2, c3], .int .i64 (d + 1)] W fun ev w' => ev = .returned (.bool B) /\ Below (w.heap.size + 1) w2 w') := fun W hb => hcall W hb B HBY.out
  have HCE := hid hcell
  clear HBX HBY HT e0 hcall hcell
  generalize t.kind = kd at *
  generalize str t.name = S at *
  generalize t.lives.length = n1 at *
  generalize t.elem.length = n2 at *
  subst e2
  clear i2 i3 hl8
  go_enter Tryz.func142, Tryz.ntmps142
  go_wp2_with fail
  refine (HV.out _ (by first | assumption | exact HB0.out)).mono ?_
  rintro _ W2 ⟨rfl, hb2⟩
  obtain ⟨a0', a1', a2', a3'⟩ := HS.out W2 hb2
  obtain ⟨g0, g1, g2, g3⟩ := HCE.out W2 hb2
  go_wp2_with fail
  refine (HCC.out _ (by first | assumption | exact HB0.out)).mono ?_
  rintro _ W3 ⟨rfl, hb3⟩
  go_wp2_with fail
  go_ret
  exact ⟨by cases B <;> rfl, HW.out _ hb3⟩
 have HF : Hid (B = false) := bool_false HBB.out (by
  rintro (⟨h, _⟩ | ⟨h, _⟩ | ⟨h, _⟩) <;> omega)
 have b1 : (t.kind == 1) = false := by simp; omega
 have b2 : (t.kind == 2) = false := by simp; omega
 have b3 : (t.kind == 3) = false := by simp; omega
 have b4 : (t.kind == 4) = false := by simp; omega
 have b5 : (t.kind == 5) = false := by simp; omega
 clear HBB HL HV HT q1 q2 q3 k1 k2 k3 k4 k5
 generalize t.kind = kd at *
 generalize str t.name = S at *
 generalize t.lives.length = n1 at *
 generalize t.elem.length = n2 at *
 go_enter Tryz.func142, Tryz.ntmps142
 go_wp2_with fail
 go_ret
 exact ⟨by rw [HF.out]; rfl, HW.out _ (by first | assumption | exact HB0.out)⟩
theorem xty_any : ∀ r, XTyC r
 | 0 => xty_zero
 | r + 1 => xty_step (xty_any r)
end Go.Proofs.YtldbbkheemnnhaaGreatDoor
