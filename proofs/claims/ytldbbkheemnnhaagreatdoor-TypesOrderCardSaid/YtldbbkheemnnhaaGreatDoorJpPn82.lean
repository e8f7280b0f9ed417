/-
  The texts Pn8, Rh8, joined.
-/
import Derived.Test.YtldbbkheemnnhaaGreatDoorJpRq83
import Derived.Test.YtldbbkheemnnhaaGreatDoorJpRg83
import Derived.Test.YtldbbkheemnnhaaGreatDoorJpXr23
namespace Go.Proofs.YtldbbkheemnnhaaGreatDoor
open Go.RowKit
def plainB : Nat -> RTy -> Bool
 | 0, _ => false
 | n + 1, t => (if t.kind = 4 ∨ t.kind = 5 then decide (t.regs.length = 1 /\ t.elem.length <= 1) else decide ((t.kind = 3 ∨ t.regs.length = 0) /\ t.elem.length = 0)) &&
  t.elem.head?.elim true (plainB n)
set_option maxHeartbeats 16000000 in
set_option maxRecDepth 20000 in
theorem plain11 {K : Ctx} : ∀ (n : Nat) {w : World} {cs : List Value} {t : RTy}, RtAt n K w cs t -> K.C <= w.heap.size ->
  Calls Tryz.prog 11 #[.agg cs.toArray] w fun ev w' => ev = .returned (.bool (plainB n t)) /\ Below w.heap.size w w'
 | 0, _, _, _, h, _ => h.elim
 | n + 1, w, cs, t, ht, hC => by
  have IH := hidP (fun (y : World) (hy : Below w.heap.size w y) (cs : List Value) (e : RTy) (he : RtAt n K y cs e) => plain11 n he (Nat.le_trans hC hy.size))
  obtain ⟨v2, v3, rfl, _, h2, h3⟩ := ht
  obtain ⟨a2, p2, rfl⟩ := Ar.form h2
  obtain ⟨a3, p3, rfl⟩ := Ar.form h3
  have AN := hidP (fun i hi => Ar.each h3 i hi)
  have HC := hidP hC
  have HS := hidP (show plainB (n + 1) t = ((if t.kind = 4 ∨ t.kind = 5 then decide (t.regs.length = 1 /\ t.elem.length <= 1) else decide ((t.kind = 3 ∨ t.regs.length = 0) /\ t.elem.length = 0)) && t.elem.head?.elim true (plainB n)) from rfl)
  have HA := hidP (alloc_one w (.cells #[.int .i64 t.kind, .string (str t.name), .slice a2 t.regs.length p2, .slice a3 t.elem.length p3] 25))
  have R2 := hidP (Row.new w 25 [.int .i64 t.kind, .string (str t.name), .slice a2 t.regs.length p2, .slice a3 t.elem.length p3])
  clear h2 h3 hC
  have HN := hidP (show ∀ (h : t.elem.length = 0), t.elem.head?.elim true (plainB n) = true from fun h => by rw [List.eq_nil_of_length_eq_zero h]; rfl)
  have H1 := hidP (show ∀ (h : 0 < t.elem.length), t.elem.head?.elim true (plainB n) = plainB n (t.elem[0]) from fun h => by
   rw [List.head?_eq_getElem?, List.getElem?_eq_getElem h]
   rfl)
  generalize t.elem.head?.elim true (plainB n) = mt at *
  generalize t.kind = kd at *
  generalize str t.name = SN at *
  generalize hnr : t.regs.length = nr at HS HA R2 ⊢
  clear hnr
  generalize hne : t.elem.length = ne at HS HA R2 HN ⊢
  have HNE := hidP hne
  clear hne
  have y0 := R2.out.cell 0
  have y2 := R2.out.cell 2
  have y3 := R2.out.cell 3
  simp only [List.getElem?_cons_zero, List.getElem?_cons_succ] at y0 y2 y3
  by_cases hbad : (if kd = 4 ∨ kd = 5 then decide (nr = 1 /\ ne <= 1) else decide ((kd = 3 ∨ nr = 0) /\ ne = 0)) = false
  ·have HQ := hidP (show plainB (n + 1) t = false by rw [HS.out, hbad, Bool.false_and])
   clear HS IH AN H1 HN HNE
   by_cases k45 : kd = 4 ∨ kd = 5
   ·rw [if_pos k45, decide_eq_false_iff_not] at hbad
    by_cases n1 : nr = 1
    ·have ne2 : (1 : Int) < (ne : Int) := by omega
     have ne0 : (0 : Int) < (ne : Int) := by omega
     subst n1
     clear hbad
     rcases k45 with rfl | rfl
     all_goals
      go_enter Tryz.func11, Tryz.ntmps11
      go_wp2_with fail
      go_ret
      exact ⟨retB HQ.out, HA.out⟩
    ·have m1 : ¬ (nr : Int) = 1 := by omega
     clear hbad n1
     rcases k45 with rfl | rfl
     all_goals
      rcases (show ((0 : Int) < (ne : Int) /\ ¬ (1 : Int) < (ne : Int)) ∨ ((0 : Int) < (ne : Int) /\ (1 : Int) < (ne : Int)) ∨ (¬ (0 : Int) < (ne : Int) /\ ¬ (1 : Int) < (ne : Int)) by omega) with ⟨e0, e1⟩ | ⟨e0, e1⟩ | ⟨e0, e1⟩
      all_goals
       go_enter Tryz.func11, Tryz.ntmps11
       go_wp2_with fail
       go_ret
       exact ⟨retB HQ.out, HA.out⟩
   ·rw [if_neg k45, decide_eq_false_iff_not] at hbad
    obtain ⟨k4, k5⟩ := not_or.mp k45
    clear k45
    by_cases n0 : kd = 3 ∨ nr = 0
    ·have ne0 : (0 : Int) < (ne : Int) := by omega
     clear hbad
     by_cases e1 : (1 : Int) < (ne : Int)
     all_goals
      rcases n0 with rfl | rfl
      ·clear k4 k5
       go_enter Tryz.func11, Tryz.ntmps11
       go_wp2_with fail
       go_ret
       exact ⟨retB HQ.out, HA.out⟩
      ·rcases Decidable.em (kd = 3) with rfl | k3
       ·clear k4 k5
        go_enter Tryz.func11, Tryz.ntmps11
        go_wp2_with fail
        go_ret
        exact ⟨retB HQ.out, HA.out⟩
       ·go_enter Tryz.func11, Tryz.ntmps11
        go_wp2_with fail
        go_ret
        exact ⟨retB HQ.out, HA.out⟩
    ·obtain ⟨k3, n0⟩ := not_or.mp n0
     have m0 : ¬ (nr : Int) = 0 := by omega
     clear hbad n0
     rcases (show ((0 : Int) < (ne : Int) /\ ¬ (1 : Int) < (ne : Int)) ∨ ((0 : Int) < (ne : Int) /\ (1 : Int) < (ne : Int)) ∨ (¬ (0 : Int) < (ne : Int) /\ ¬ (1 : Int) < (ne : Int)) by omega) with ⟨e0, e1⟩ | ⟨e0, e1⟩ | ⟨e0, e1⟩
     all_goals
      go_enter Tryz.func11, Tryz.ntmps11
      go_wp2_with fail
      go_ret
      exact ⟨retB HQ.out, HA.out⟩
  ·rw [Bool.not_eq_false] at hbad
   have HQ := hidP (show plainB (n + 1) t = mt by rw [HS.out, hbad, Bool.true_and])
   clear HS
   have ne1 : ¬ (1 : Int) < (ne : Int) := by
    by_cases k45 : kd = 4 ∨ kd = 5
    ·rw [if_pos k45, decide_eq_true_eq] at hbad
     omega
    ·rw [if_neg k45, decide_eq_true_eq] at hbad
     omega
   by_cases h0 : ne = 0
   ·subst h0
    have HM := hidP (show plainB (n + 1) t = true by rw [HQ.out, HN.out rfl])
    clear HQ IH AN H1 HN HNE
    by_cases k45 : kd = 4 ∨ kd = 5
    ·have n1 : nr = 1 := by
      rw [if_pos k45, decide_eq_true_eq] at hbad
      exact hbad.1
     subst n1
     clear hbad
     rcases k45 with rfl | rfl
     all_goals
      go_enter Tryz.func11, Tryz.ntmps11
      go_wp2_with fail
      go_ret
      exact ⟨retB HM.out, HA.out⟩
    ·rw [if_neg k45, decide_eq_true_eq] at hbad
     obtain ⟨k4, k5⟩ := not_or.mp k45
     clear k45
     rcases Decidable.em (kd = 3) with rfl | k3
     ·clear k4 k5 hbad
      go_enter Tryz.func11, Tryz.ntmps11
      go_wp2_with fail
      go_ret
      exact ⟨retB HM.out, HA.out⟩
     ·obtain rfl : nr = 0 := by
       rcases hbad.1 with h | h
       ·exact absurd h k3
       ·exact h
      clear hbad
      go_enter Tryz.func11, Tryz.ntmps11
      go_wp2_with fail
      go_ret
      exact ⟨retB HM.out, HA.out⟩
   ·obtain ⟨k45, n1, e1⟩ : (kd = 4 ∨ kd = 5) /\ nr = 1 /\ ne = 1 := by
     by_cases k45 : kd = 4 ∨ kd = 5
     ·rw [if_pos k45, decide_eq_true_eq] at hbad
      exact ⟨k45, hbad.1, by omega⟩
     ·rw [if_neg k45, decide_eq_true_eq] at hbad
      exact absurd hbad.2 h0
    subst n1
    subst e1
    have hl : 0 < t.elem.length := by rw [HNE.out]; exact Nat.one_pos
    have HM := hidP (show plainB (n + 1) t = plainB n t.elem[0] by rw [HQ.out, H1.out hl])
    obtain ⟨b1, o1, rfl, hb1, c1, hl1, hc1, hp1⟩ := AN.out 0 hl
    have r1 := hidP (range_le hc1 HA.out (Nat.lt_of_lt_of_le hb1 HC.out))
    have s1 := hidP (show (Tryz.prog.info? 25).map (·.size) = some c1.length by rw [hl1]; exact Tryz.sz25)
    have CALL := hidP (IH.out _ HA.out c1 _ (hp1.below (below_le HA.out HC.out)))
    obtain ⟨q, rfl⟩ : ∃ q, n = q + 1 := by
     cases n with
     | zero => exact hp1.elim
     | succ q => exact ⟨q, rfl⟩
    obtain ⟨x2, x3, rfl, _, g2, g3⟩ := hp1
    obtain ⟨b4, p4, rfl⟩ := Ar.form g2
    obtain ⟨b5, p5, rfl⟩ := Ar.form g3
    have z0 := r1.out 0 _ rfl
    have z1 := r1.out 1 _ rfl
    have z2 := r1.out 2 _ rfl
    have z3 := r1.out 3 _ rfl
    clear g2 g3
    generalize (t.elem[0]).kind = kx at *
    generalize str (t.elem[0]).name = SX at *
    generalize (t.elem[0]).regs.length = nx at *
    generalize (t.elem[0]).elem.length = ex at *
    simp only [Nat.zero_mul, Nat.add_zero] at z0 z1 z2 z3
    clear hbad HQ HN H1 HNE AN hc1 hl1 hb1 ne1 h0 IH r1 s1
    generalize t.elem[0] = x at CALL HM
    rcases k45 with rfl | rfl
    all_goals
     go_enter Tryz.func11, Tryz.ntmps11
     go_wp2_with fail
     refine CALL.out.mono ?_
     rintro _ w5 ⟨rfl, hb5⟩
     have HB5 := hidP (HA.out.trans (below_le hb5 HA.out.size))
     go_wp2_with fail
     go_ret
     exact ⟨retB HM.out, HB5.out⟩
end Go.Proofs.YtldbbkheemnnhaaGreatDoor

namespace Go.Proofs.YtldbbkheemnnhaaGreatDoor
open Go.RowKit
set_option maxHeartbeats 16000000 in
set_option maxRecDepth 20000 in
theorem own38 {K : Ctx} {w : World} {n : Nat} {cs : List Value} {t : RTy} (ht : RtAt (n + 1) K w cs t) (hC : K.C <= w.heap.size) :
  Calls Tryz.prog 38 #[.agg cs.toArray] w fun ev w' => ∃ u, ev = .returned u /\ Below w.heap.size w w' /\ Nms K w' u (ownR t) := by
 obtain ⟨v2, v3, rfl, _, h2, h3⟩ := ht
 obtain ⟨a2, p2, rfl⟩ := Ar.form h2
 obtain ⟨a3, p3, rfl⟩ := Ar.form h3
 have HA := hidP (alloc_one w (.cells #[.int .i64 t.kind, .string (str t.name), .slice a2 t.regs.length p2, .slice a3 t.elem.length p3] 25))
 have R2 := hidP (Row.new w 25 [.int .i64 t.kind, .string (str t.name), .slice a2 t.regs.length p2, .slice a3 t.elem.length p3])
 have H2 := hidP (show Nms K _ _ _ from h2.mono (below_le HA.out hC) fun _ _ _ h => h)
 have HT := hidP (show ∀ (y : World) (a : Option Addr), Nms K y (.slice a t.regs.length p2) t.regs -> Nms K y (.slice a (min 1 t.regs.length) p2) (t.regs.take 1) from fun y a h => by
  rcases hr : t.regs with _ | ⟨x, l⟩
  ·rw [hr] at h; exact h
  ·rw [hr] at h
   have := h.take1
   have e : min 1 (x :: l).length = 1 := by simp only [List.length_cons]; omega
   rw [e]
   exact this)
 have hO := hidP (show ownR t = if t.kind = 3 then t.regs else if t.kind = 4 ∨ t.kind = 5 then t.regs.take 1 else [] from rfl)
 obtain ⟨_, _, e, q2, -⟩ := h2.shape
 cases e
 clear h2 h3
 generalize t.kind = kd at *
 generalize str t.name = SN at *
 generalize t.elem.length = ne at *
 generalize hnr : t.regs.length = nr at HA R2 H2 HT q2 ⊢
 clear hnr
 have y0 := R2.out.cell 0
 have y2 := R2.out.cell 2
 simp only [List.getElem?_cons_zero, List.getElem?_cons_succ] at y0 y2
 by_cases h3 : kd = 3
 ·subst h3
  have hO' := hidP (show ownR t = t.regs from hO.out.trans (if_pos rfl))
  clear hO HT
  go_enter Tryz.func38, Tryz.ntmps38
  go_wp2_with fail
  go_ret
  exact ⟨_, rfl, HA.out, by rw [hO'.out]; exact H2.out⟩
 ·by_cases h4 : kd = 4 ∨ kd = 5
  ·have hO' := hidP (show ownR t = t.regs.take 1 from hO.out.trans ((if_neg h3).trans (if_pos h4)))
   have HU := hidP (HT.out _ _ H2.out)
   have l1 : (min (1 : Int) (nr : Int)) <= (p2 : Int) := by omega
   clear hO H2 HT
   rcases Nat.eq_zero_or_pos nr with rfl | hp
   ·rcases h4 with rfl | rfl
    all_goals
     go_enter Tryz.func38, Tryz.ntmps38
     go_wp2_with fail
     go_ret
     exact ⟨_, rfl, HA.out, by rw [hO'.out]; exact HU.out⟩
   ·have e1 : min (1 : Int) (nr : Int) = 1 := by omega
    have e2 : min 1 nr = 1 := by omega
    rw [e2] at HU
    have q1 : (1 : Int) <= (p2 : Int) := by omega
    rcases h4 with rfl | rfl
    all_goals
     go_enter Tryz.func38, Tryz.ntmps38
     go_wp2_with fail
     go_ret
     exact ⟨_, rfl, HA.out, by rw [hO'.out]; exact HU.out⟩
  ·have hO' := hidP (show ownR t = [] from hO.out.trans ((if_neg h3).trans (if_neg h4)))
   have e3 : (kd == 3) = false := by simpa using h3
   have e4 : (kd == 4) = false := by simp; omega
   have e5 : (kd == 5) = false := by simp; omega
   clear hO H2 HT
   go_enter Tryz.func38, Tryz.ntmps38
   go_wp2_with fail
   go_ret
   exact ⟨_, rfl, HA.out, by rw [hO'.out]; exact ⟨none, 0, rfl, Nat.le_refl _, by simp, fun _ h => by cases h⟩⟩
theorem own_empty3 {w : World} {B : Nat} (hB : B <= w.heap.size) : (w.alloc (.cells #[] 3)).ownsRow B 3 1 (.slice (some ⟨w.heap.size, 0, none⟩) 0 0) 0 [] :=
 ⟨rfl, .inr ⟨w.heap.size, 0, #[], rfl, hB, heap_alloc_new w _, Nat.le_refl _, Nat.zero_le _, rfl, rfl⟩⟩
set_option maxHeartbeats 16000000 in
set_option maxRecDepth 20000 in
theorem regions14 {K : Ctx} : ∀ (n : Nat) {w : World} {cs : List Value} {t : RTy}, RtAt n K w cs t -> K.C <= w.heap.size -> (regL n t).length <= 50000 ->
  Calls Tryz.prog 14 #[.agg cs.toArray] w fun ev w' => ∃ v, ev = .returned v /\ Below w.heap.size w w' /\ w'.ownsRow w.heap.size 3 1 v (regL n t).length (iv (regL n t))
 | 0, _, _, _, h, _, _ => h.elim
 | n + 1, w, cs, t, ht, hC, hn => by
  have IH := hidP (fun (y : World) (hy : Below w.heap.size w y) (cs : List Value) (e : RTy) (he : RtAt n K y cs e) (hl : (regL n e).length <= 50000) => regions14 n he (Nat.le_trans hC hy.size) hl)
  have HR := hidP (regL_succ n t)
  have hAl := alloc_one w (.cells cs.toArray 25)
  have R0 := Row.new w 25 cs
  have hz := size_alloc w (.cells cs.toArray 25)
  have hAe := alloc_one (w.alloc (.cells cs.toArray 25)) (.cells #[] 3)
  have HA := hidP (hAl.trans (below_le hAe (by omega)))
  have OW := hidP (own_empty3 (B := w.heap.size + 1) (w := w.alloc (.cells cs.toArray 25)) (by omega))
  have R1 := hidP (R0.below hAe R0.lt)
  have HZ := hidP (show ((w.alloc (.cells cs.toArray 25)).alloc (.cells #[] 3)).heap.size = w.heap.size + 2 by rw [size_alloc, hz])
  have OWN := hidP (own38 (ht.below (below_le HA.out hC)) (by have := HZ.out; omega))
  have HC := hidP hC
  rw [hz] at OW
  obtain ⟨v2, v3, rfl, _, _, h3⟩ := ht
  obtain ⟨a3, p3, rfl⟩ := Ar.form h3
  have H3 := hidP h3
  have hNX := hidP (show nxtR t = if t.kind = 4 ∨ t.kind = 5 then t.elem.head? else none from rfl)
  rw [HR.out] at hn
  have HN := hidP hn
  clear hAl R0 hAe hz h3 hn hC
  go_enter Tryz.func14, Tryz.ntmps14
  go_wp2_with fail
  refine OWN.out.mono ?_
  rintro _ w2 ⟨u, rfl, hb2, hu⟩
  have hz2 := hb2.size
  rw [HZ.out] at hz2
  have HB2 := hidP (HA.out.trans (below_le hb2 HA.out.size))
  have O2 := hidP (own_sameR OW.out (fun k e => hb2.block k (OW.out.lt k e).2))
  have R2 := hidP (R1.out.below hb2 R1.out.lt)
  have HS2 := hidP (nms_sou hu)
  obtain ⟨a5, p5, rfl⟩ := Ar.form hu
  have HIL := hidP (show (iv (ownR t)).length = (ownR t).length * 1 by rw [iv_len, Nat.mul_one])
  have HI1 := hidP (iv_ones (ownR t))
  have hno : (ownR t).length <= 50000 := by have := HN.out; simp only [List.length_append] at this; omega
  clear OWN OW R1 HA hb2 hu HZ
  generalize hlo : (ownR t).length = lo at *
  have HLO := hidP hlo
  clear hlo
  go_wp2_with (first | (refine wpl_appS (bz := 8) rfl (.tmp 4) (.tmp 6) rfl Tryz.underlying22 Tryz.info3I rfl (by decide) rfl rfl O2.out (by omega) HS2.out HIL.out HI1.out (by omega) (by decide) ?_; intro v6 w6 ho6 hb6 hf6; apply shut))
  show wpList _ _ _ _ _ _
  obtain ⟨a6, p6, rfl⟩ := hf6
  rw [Nat.zero_add, List.nil_append] at ho6
  rw [Nat.zero_add]
  have R6 := hidP (R2.out.below hb6 (by omega))
  have hz6 := hb6.size
  have HB6 := hidP (HB2.out.trans (below_le hb6 (by omega)))
  have HO6 := hidP ho6
  have y0 := R6.out.cell 0
  have y3 := R6.out.cell 3
  simp only [List.getElem?_cons_zero, List.getElem?_cons_succ] at y0 y3
  clear O2 R2 HS2 HIL HI1 hb6 ho6 HB2
  have HND := hidP (show ∀ (h : ¬ ((t.kind = 4 ∨ t.kind = 5) /\ 0 < t.elem.length)), regL (n + 1) t = ownR t from fun h => by
   rw [HR.out, hNX.out]
   by_cases k : t.kind = 4 ∨ t.kind = 5
   ·rw [if_pos k, List.eq_nil_of_length_eq_zero (show t.elem.length = 0 by have := fun q => h ⟨k, q⟩; omega)]
    exact List.append_nil _
   ·rw [if_neg k]
    exact List.append_nil _)
  have HYE := hidP (show ∀ (k : t.kind = 4 ∨ t.kind = 5) (h : 0 < t.elem.length), regL (n + 1) t = ownR t ++ regL n t.elem[0] from fun k h => by
   rw [HR.out, hNX.out, if_pos k, List.head?_eq_getElem?, List.getElem?_eq_getElem h]
   rfl)
  have AN := hidP (fun i hi => Ar.each H3.out i hi)
  have HNN := hidP (show ∀ (k : t.kind = 4 ∨ t.kind = 5) (h : 0 < t.elem.length), lo + (regL n t.elem[0]).length <= 50000 from fun k h => by
   have := HN.out
   rw [← HR.out, HYE.out k h, List.length_append, HLO.out] at this
   exact this)
  clear hNX H3 HN HR
  generalize t.kind = kd at *
  generalize str t.name = SN at *
  generalize hne : t.elem.length = ne at y3 HND R6 ⊢
  have HNE := hidP hne
  clear hne
  by_cases hx : (kd = 4 ∨ kd = 5) /\ 0 < ne
  ·obtain ⟨k, h0⟩ := hx
   have hl : 0 < t.elem.length := by rw [HNE.out]; exact h0
   have l0 : (0 : Int) < (ne : Int) := by omega
   have HW := hidP (HYE.out k hl)
   have hnn := HNN.out k hl
   obtain ⟨b1, o1, rfl, hb1, c1, hl1, hc1, hp1⟩ := AN.out 0 hl
   rw [Nat.zero_mul, Nat.add_zero] at hc1
   have r1 := hidP (range_le hc1 HB6.out (Nat.lt_of_lt_of_le hb1 HC.out))
   have s1 := hidP (show (Tryz.prog.info? 25).map (·.size) = some c1.length by rw [hl1]; exact Tryz.sz25)
   have CALL := hidP (IH.out _ HB6.out c1 _ (hp1.below (below_le HB6.out HC.out)) (by omega))
   clear IH HND HYE AN HNN hl1 hc1 hp1 hb1 HNE
   generalize t.elem[0] = x at *
   rcases k with rfl | rfl
   all_goals
    go_wp2_with (first | (refine wpList_load_mid rfl 25 (.tmp 25) rfl b1 o1 rfl c1 _ r1.out Tryz.underlying25 rfl s1.out ?_))
    refine CALL.out.mono ?_
    rintro _ w7 ⟨v7, rfl, hb7, ho7⟩
    have hz7 := hb7.size
    have O7 := hidP (own_sameR HO6.out (fun k e => hb7.block k (HO6.out.lt k e).2))
    have HB7 := hidP (HB6.out.trans (below_le hb7 HB6.out.size))
    have HS7 := hidP (own_sou ho7)
    have HIL7 := hidP (show (iv (regL n x)).length = (regL n x).length * 1 by rw [iv_len, Nat.mul_one])
    have HI7 := hidP (iv_ones (regL n x))
    obtain ⟨a7, p7, rfl⟩ := own_slice ho7
    clear CALL HO6 hb7 ho7 r1 R6 y0 y3 HB6
    generalize hlx : (regL n x).length = lx at *
    have HLX := hidP hlx
    clear hlx
    go_wp2_with (first | (refine wpl_appS (bz := 8) rfl (.tmp 22) (.tmp 27) rfl Tryz.underlying22 Tryz.info3I rfl (by decide) rfl rfl O7.out (by omega) HS7.out HIL7.out HI7.out (by omega) (by decide) ?_; intro v8 w8 ho8 hb8 hf8; apply shut))
    show wpList _ _ _ _ _ _
    obtain ⟨a8, p8, rfl⟩ := hf8
    have HO8 := hidP (own_base ho8 (Nat.le_succ _))
    have HB8 := hidP (HB7.out.trans (below_le hb8 (Nat.le_succ _)))
    clear O7 HS7 HB7 ho8 hb8
    go_wp2_with fail
    go_ret
    exact ⟨_, rfl, HB8.out, by rw [HW.out, List.length_append, HLO.out, HLX.out, iv_app]; exact HO8.out⟩
  ·have HW := hidP (HND.out hx)
   have HOF := hidP (own_base HO6.out (Nat.le_succ _))
   clear IH HND HYE AN HNN HNE HO6
   by_cases k : kd = 4 ∨ kd = 5
   ·obtain rfl : ne = 0 := by have := fun q => hx ⟨k, q⟩; omega
    clear hx
    rcases k with rfl | rfl
    all_goals
     go_wp2_with fail
     go_ret
     exact ⟨_, rfl, HB6.out, by rw [HW.out, HLO.out]; exact HOF.out⟩
   ·obtain ⟨k4, k5⟩ := not_or.mp k
    clear hx k
    go_wp2_with fail
    go_ret
    exact ⟨_, rfl, HB6.out, by rw [HW.out, HLO.out]; exact HOF.out⟩
end Go.Proofs.YtldbbkheemnnhaaGreatDoor
