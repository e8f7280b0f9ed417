/-
  TypesWell's walk.
-/
import Derived.Test.YtldbbkheemnnhaaGreatDoorJpPn82
import Derived.Test.YtldbbkheemnnhaaGreatDoorJpDp82
import Derived.Test.YtldbbkheemnnhaaGreatDoorJpRq83
import Derived.Test.YtldbbkheemnnhaaGreatDoorJpRg83
import Derived.Test.YtldbbkheemnnhaaGreatDoorJpWrd2
namespace Go.Proofs.YtldbbkheemnnhaaGreatDoor
open Go.RowKit
theorem ownR_le {t : RTy} (h : t.regs.length <= 70) : (ownR t).length <= 70 := by
 unfold ownR
 split
 ·exact h
 ·split
  ·rw [List.length_take]; omega
  ·exact Nat.zero_le _
theorem nxtR_mem {t e : RTy} (h : nxtR t = some e) : e ∈ t.elem /\ (ownR t).length <= 1 := by
 unfold nxtR at h
 split at h
 ·rename_i k
  refine ⟨List.mem_of_mem_head? h, ?_⟩
  unfold ownR
  rw [if_neg (by omega), if_pos k, List.length_take]
  omega
 ·cases h
theorem regL_le : ∀ {k : Nat} {t : RTy}, Fit k t -> (regL k t).length <= 70 * k
 | 0, _, h => h.elim
 | k + 1, t, h => by
  rw [regL_succ, List.length_append]
  have := ownR_le h.1
  rcases hx : nxtR t with _ | e
  ·simp only [resL, List.length_nil]; omega
  ·have := regL_le (h.2.2 e (nxtR_mem hx).1)
   simp only [resL]; omega
theorem wellL_le : ∀ {k : Nat} {t : RTy}, Fit k t -> (wellL k t).length <= 70 * k * k
 | 0, _, h => h.elim
 | k + 1, t, h => by
  simp only [wellL]
  rcases hx : nxtR t with _ | e
  ·simp
  ·have h1 := regL_le (h.2.2 e (nxtR_mem hx).1)
   have h2 := wellL_le (h.2.2 e (nxtR_mem hx).1)
   have h3 := (nxtR_mem hx).2
   have h4 : ((ownR t).flatMap fun a => (regL k e).map fun v => (v, a)).length <= (regL k e).length := by
    rcases ho : ownR t with _ | ⟨a, l⟩
    ·simp
    ·have : l = [] := by rw [ho] at h3; exact List.eq_nil_of_length_eq_zero (by simpa using h3)
     subst this
     simp
   rw [List.length_append]
   have : 70 * (k + 1) * (k + 1) = 70 * k * k + 140 * k + 70 := by
    have e1 : 70 * (k + 1) * (k + 1) = 70 * ((k + 1) * (k + 1)) := Nat.mul_assoc _ _ _
    have e2 : 70 * k * k = 70 * (k * k) := Nat.mul_assoc _ _ _
    have e3 : (k + 1) * (k + 1) = k * k + k + k + 1 := by rw [Nat.add_mul, Nat.mul_add]; omega
    omega
   omega
theorem plain_on {n : Nat} {t : RTy} (h : plainB (n + 1) t = true) (k : t.kind = 4 ∨ t.kind = 5) (h1 : t.elem.length = 1) : ∃ r e, t.regs = [r] /\ t.elem = [e] /\ plainB n e = true /\ wellL (n + 1) t = ((regL n e).map fun v => (v, r)) ++ wellL n e := by
 simp only [plainB, if_pos k, Bool.and_eq_true, decide_eq_true_eq] at h
 obtain ⟨⟨h2, _⟩, h3⟩ := h
 obtain ⟨r, hr⟩ := List.length_eq_one_iff.mp h2
 obtain ⟨e, he⟩ := List.length_eq_one_iff.mp h1
 rw [he] at h3
 refine ⟨r, e, hr, he, h3, ?_⟩
 have hx : nxtR t = some e := by unfold nxtR; rw [if_pos k, he]; rfl
 have ho : ownR t = [r] := by unfold ownR; rw [if_neg (by omega), if_pos k, hr]; rfl
 simp only [wellL, hx, ho, List.flatMap_cons, List.flatMap_nil, List.append_nil]
theorem plain_off {n : Nat} {t : RTy} (h : plainB (n + 1) t = true) (k : ¬ ((t.kind = 4 ∨ t.kind = 5) /\ t.elem.length = 1)) : wellL (n + 1) t = [] := by
 simp only [wellL]
 rcases hx : nxtR t with _ | e
 ·rfl
 ·unfold nxtR at hx
  split at hx
  ·rename_i k4
   simp only [plainB, if_pos k4, Bool.and_eq_true, decide_eq_true_eq] at h
   have := List.mem_of_mem_head? hx
   have : 0 < t.elem.length := List.length_pos_of_mem this
   exact absurd ⟨k4, by omega⟩ k
  ·cases hx
set_option maxHeartbeats 32000000 in
set_option maxRecDepth 20000 in
theorem well_walk {K : Ctx} {w : World} {n : Nat} {cs : List Value} {t : RTy} (hG : Glo w) (_hKB : 100 <= K.B) (hC : K.C <= w.heap.size) (ht : RtAt n K w cs t) :
  Calls Tryz.prog 3 #[.agg cs.toArray] w fun ev w' => ev = .returned (.bool true) /\ Below w.heap.size w w' := by
 obtain ⟨c0, cb, cc, cd, rfl⟩ := ht.four
 have HG := hidP hG
 have HC := hidP hC
 have HT := hidP (fun (y : World) (hy : Below w.heap.size w y) => ht.below (below_le hy hC))
 have OC := hidP ht.ones
 have HA := hidP (alloc_one w (.cells #[c0, cb, cc, cd] 25))
 have R3 := hidP (Row.new w 25 [c0, cb, cc, cd])
 have DP := hidP (deep10 20 (m := 20) (by decide) (by decide) (HT.out _ HA.out) (Nat.le_trans HC.out HA.out.size))
 clear ht hG hC
 go_enter Tryz.func3, Tryz.ntmps3
 go_wp2_with fail
 refine DP.out.mono ?_
 rintro _ w2 ⟨rfl, hb2⟩
 have B2 := hidP (HA.out.trans (below_le hb2 HA.out.size))
 have R2 := hidP (R3.out.below hb2 R3.out.lt)
 have T2 := hidP (told12 (HG.out.below B2.out))
 clear DP HA R3 hb2
 rcases hdd : deepB 20 t with _ | _
 ·have HFT := hidP (deepB_fit hdd)
  clear hdd
  have PL := hidP (plain11 20 ((HT.out _ B2.out).fit HFT.out) (Nat.le_trans HC.out B2.out.size))
  have y0 := R2.out.cell 0
  have y1 := R2.out.cell 1
  have y2 := R2.out.cell 2
  have y3 := R2.out.cell 3
  simp only [List.getElem?_cons_zero, List.getElem?_cons_succ] at y0 y1 y2 y3
  go_wp2_with fail
  refine PL.out.mono ?_
  rintro _ w3 ⟨rfl, hb3⟩
  have B3 := hidP (B2.out.trans (below_le hb3 B2.out.size))
  have R3 := hidP (R2.out.below hb3 R2.out.lt)
  have T3 := hidP (told12 (HG.out.below B3.out))
  clear PL hb3 R2 B2 T2 y0 y1 y2 y3
  rcases hpp : plainB 20 t with _ | _
  ·clear hpp HFT HT
   go_wp2_with fail
   refine T3.out.mono ?_
   rintro _ wT ⟨rfl, hbT⟩
   have BT := hidP (B3.out.trans (below_le hbT B3.out.size))
   clear T3 hbT
   go_wp2_with fail
   go_ret
   exact ⟨rfl, BT.out⟩
  ·have HPP := hidP hpp
   clear hpp T3
   have HRL := hidP (regL_le HFT.out)
   have HWL := hidP (wellL_le HFT.out)
   have WE := hidP (well13 ((HT.out _ B3.out).fit HFT.out) (Nat.le_trans HC.out B3.out.size) (by have := HRL.out; omega) (by have := HWL.out; omega))
   have y0 := R3.out.cell 0
   have y1 := R3.out.cell 1
   have y2 := R3.out.cell 2
   have y3 := R3.out.cell 3
   simp only [List.getElem?_cons_zero, List.getElem?_cons_succ] at y0 y1 y2 y3
   clear HRL
   go_wp2_with fail
   refine WE.out.mono ?_
   rintro _ w4 ⟨v4, rfl, hb4, ho4⟩
   have B4 := hidP (B3.out.trans (below_le hb4 B3.out.size))
   have R4 := hidP (R3.out.below hb4 R3.out.lt)
   have O4 := hidP (own_base ho4 B3.out.size)
   obtain ⟨a4, p4, rfl⟩ := own_slice ho4
   clear WE R3 B3 y0 y1 y2 y3 hb4 ho4
   have y0 := R4.out.cell 0
   have y1 := R4.out.cell 1
   have y2 := R4.out.cell 2
   have y3 := R4.out.cell 3
   simp only [List.getElem?_cons_zero, List.getElem?_cons_succ] at y0 y1 y2 y3
   generalize hnw : (wellL 20 t).length = nw at *
   have HNW := hidP hnw
   have HWN := hidP (show nw <= 28000 from HWL.out)
   clear hnw
   have RZ := hidP (Row.new w4 25 [.int .i64 0, .string ⟨#[]⟩, .slice none 0 0, .slice none 0 0])
   have BZ := hidP (alloc_one w4 (.cells #[.int .i64 0, .string ⟨#[]⟩, .slice none 0 0, .slice none 0 0] 25))
   go_wp2_with (first | (refine stR rfl 25 (.tmp 5) (.tmp 18) rfl (cs := [c0, cb, cc, cd]) rfl rfl RZ.out Tryz.sz25 rfl OC.out ?_; intro w5 R5 S5; apply shut))
   show wpList _ _ _ _ _ _
   have B5 := hidP (BZ.out.trans (S5.below (C := w4.heap.size) BZ.out.size (fun q hq => by have : q = w4.heap.size := hq; omega)))
   have O5 := hidP (own_sameR O4.out (fun k e => B5.out.block k (O4.out.lt k e).2))
   have B5' := hidP (B4.out.trans (below_le B5.out B4.out.size))
   have R5 := hidP R5
   have Hlt := hidP (show w.heap.size < w4.heap.size from R4.out.lt)
   clear RZ BZ S5 B5 O4 B4 R4 y0 y1 y2 y3
   go_wp2_with fail
   go_loopg [4, 5] 21 (fun k v4 v5 wr => ∃ (m : Nat) (t' : RTy) (g j : Nat) (cs' : List Value), v5 = .pointer (some ⟨g, 0, none⟩) /\ v4 = .int .i64 (j : Int) /\ Row wr g 25 cs' /\ w.heap.size <= g /\ RtAt m K wr cs' t' /\ Fit m t' /\ plainB m t' = true /\ j + (wellL m t').length = nw /\ (wellL 20 t).drop j = wellL m t' /\ m + 1 <= k /\ m <= 20 /\ Below w.heap.size w wr /\ wr.ownsRow w.heap.size 32 2 (.slice a4 nw p4) nw (pvs (wellL 20 t)))
   case atStart => exact ⟨20, t, _, 0, _, rfl, rfl, R5.out, Nat.le_of_lt Hlt.out, (HT.out _ B5'.out).fit HFT.out, HFT.out, HPP.out, by rw [HNW.out, Nat.zero_add], rfl, Nat.le_refl _, Nat.le_refl _, B5'.out, O5.out⟩
   case round =>
    obtain ⟨m, t', g, j, cs', rfl, rfl, hR, hg, hT, hF, hP, hj, hd, hm, hm2, hB, hO⟩ := hrel
    obtain ⟨m, rfl⟩ : ∃ q, m = q + 1 := by
     cases m with
     | zero => exact hT.elim
     | succ q => exact ⟨q, rfl⟩
    clear B5' O5 R5 HFT HPP HT HWL
    obtain ⟨v2, v3, rfl, _, h2, h3⟩ := hT
    obtain ⟨a2, p2, rfl⟩ := Ar.form h2
    obtain ⟨a3, p3, rfl⟩ := Ar.form h3
    have y0 := hR.cell 0
    have y2 := hR.cell 2
    have y3 := hR.cell 3
    simp only [List.getElem?_cons_zero, List.getElem?_cons_succ] at y0 y2 y3
    by_cases hx : (t'.kind = 4 ∨ t'.kind = 5) /\ t'.elem.length = 1
    ·obtain ⟨r, e, her, hee, hPe, hW⟩ := plain_on hP hx.1 hx.2
     have hrl : t'.regs.length = 1 := by rw [her]; rfl
     have hel : t'.elem.length = 1 := hx.2
     rw [her] at h2
     rw [hee] at h3
     rw [hrl, hel] at hR
     rw [hrl] at y2
     rw [hel] at y3
     obtain ⟨b2, o2, rfl, hb2, hc2⟩ := nms_cell h2 0 (by simp)
     obtain ⟨b1, o1, rfl, hb1, c1, hl1, hc1, hp1⟩ := h3.head1
     have hFe : Fit m e := hF.2.2 e (by rw [hee]; simp)
     have hre := regL_le hFe
     rw [Nat.add_zero, List.getD_cons_zero] at hc2
     have HEL := hidP (show ∀ i (h : i < (regL m e).length) (h2 : j + i < (wellL 20 t).length), (wellL 20 t)[j + i] = ((regL m e).getD i 0, r) from fun i h h2 => by
      have : ((wellL 20 t).drop j)[i]? = (wellL (m + 1) t')[i]? := by rw [hd]
      rw [List.getElem?_drop, hW, List.getElem?_append_left (by rw [List.length_map]; exact h), List.getElem?_map, List.getElem?_eq_getElem h, List.getElem?_eq_getElem h2] at this
      rw [List.getD_eq_getElem?_getD, List.getElem?_eq_getElem h]
      exact Option.some.inj this)
     have HDR := hidP (show (wellL 20 t).drop (j + (regL m e).length) = wellL m e by
      rw [← List.drop_drop, hd, hW, List.drop_append_of_le_length (by rw [List.length_map]; exact Nat.le_refl _), List.drop_of_length_le (by rw [List.length_map]; exact Nat.le_refl _), List.nil_append])
     have hjn : j + (regL m e).length + (wellL m e).length = nw := by rw [hW, List.length_append, List.length_map] at hj; omega
     have HC' := hidP (Nat.le_trans HC.out hB.size)
     have RG := hidP (regions14 m hp1 HC'.out (by omega))
     have HP1 := hidP hp1
     have HB := hidP hB
     have HO := hidP hO
     have HR := hidP hR
     have HC1 := hidP hc1
     have HC2 := hidP hc2
     have HF := hidP hFe
     have HPE := hidP hPe
     have hone := hidP hp1.ones
     have s1 := hidP (show (Tryz.prog.info? 25).map (·.size) = some c1.length by rw [hl1]; exact Tryz.sz25)
     have hL1 := hidP hl1
     have hon2 := hidP (show ∀ u ∈ [Value.int .i64 t'.kind, .string (str t'.name), .slice (some ⟨b2, o2, none⟩) 1 p2, .slice (some ⟨b1, o1, none⟩) 1 p3], u.oneCell' = true from ones_cons rfl (ones_cons rfl (ones_cons rfl (ones_cons rfl ones_nil))))
     have hk := hx.1
     clear hx hrl hel her hee hF hP hj hd hW hO hR hB hp1 hc1 hc2 hFe hPe h2 h3 hl1 HG
     generalize t'.kind = kd at *
     generalize str t'.name = SN at *
     generalize hni : (regL m e).length = ni at *
     have HNI := hidP hni
     clear hni
     rcases hk with rfl | rfl
     all_goals
      go_wp2_with (first | (refine wpList_load_mid rfl 25 (.tmp 39) rfl b1 o1 rfl c1 _ HC1.out Tryz.underlying25 rfl s1.out ?_))
      refine RG.out.mono ?_
      rintro _ w6 ⟨v6, rfl, hb6, ho6⟩
      have R6 := hidP (HR.out.below hb6 HR.out.lt)
      have O6 := hidP (own_sameR HO.out (fun k e => hb6.block k (HO.out.lt k e).2))
      have B6 := hidP (HB.out.trans (below_le hb6 HB.out.size))
      have N6 := hidP (own_nms (K := K.up w6.heap.size) (l := regL m e) (by rw [HNI.out]; exact ho6) (Nat.le_refl _) (by have := HNI.out; omega))
      have P6 := hidP (own_prs (K := K.up w6.heap.size) (l := wellL 20 t) (by rw [HNW.out]; exact O6.out) (Nat.le_refl _) (by have := HNW.out; have := HWN.out; omega))
      have AP := hidP (fun i hi => Ar.each P6.out i hi)
      have C6 := hidP ((hb6.cell (p := ⟨b2, o2, none⟩) (World.block_lt_of_cell? wr _ HC2.out)).trans HC2.out)
      obtain ⟨a6, p6, rfl⟩ := own_slice ho6
      have T6 := hidP (fun (y : World) (h : Below w6.heap.size w6 y) => HP1.out.below (below_le (hb6.trans (below_le h hb6.size)) HC'.out))
      have G6 := hidP (fun (y : World) (h : Below w6.heap.size w6 y) => range_le HC1.out (hb6.trans (below_le h hb6.size)) (Nat.lt_of_lt_of_le hb1 HC'.out))
      have hlt6 := hidP (show w.heap.size <= w6.heap.size from B6.out.size)
      clear RG HB HO HR HC1 HC2 hb6 ho6 P6 HP1 y0 y2 y3
      go_wp2_with fail
      go_loopg [4, 7] ni (fun q v4 v7 wr2 => ∃ i : Nat, i + q = ni /\ v4 = .int .i64 ((j + i : Nat) : Int) /\ v7 = .int .i64 (i : Int) /\ Below w6.heap.size w6 wr2)
      case atStart => exact ⟨0, by omega, rfl, rfl, Below.refl _ _⟩
      case round =>
       obtain ⟨i, hi, rfl, rfl, hb⟩ := hrel
       have HBQ := hidP hb
       have R7 := hidP (R6.out.below hb R6.out.lt)
       have y0 := R7.out.cell 0
       have y1 := R7.out.cell 1
       have y2 := R7.out.cell 2
       have y3 := R7.out.cell 3
       simp only [List.getElem?_cons_zero, List.getElem?_cons_succ] at y0 y1 y2 y3
       by_cases hlt : i < ni
       ·have hji : j + i < (wellL 20 t).length := by have := HNW.out; omega
        obtain ⟨bw, ow, rfl, hbw, cw, hlw, hcw, hpw⟩ := AP.out (j + i) hji
        have hpw' : cw = [.int .i64 ((wellL 20 t)[j + i]'hji).1, .int .i64 ((wellL 20 t)[j + i]'hji).2] := hpw
        rw [HEL.out i (by have := HNI.out; omega) hji] at hpw'
        subst hpw'
        obtain ⟨bn, on, rfl, hbn, hcn⟩ := nms_cell N6.out i (by have := HNI.out; omega)
        have r10 := (hb.cell (p := ⟨bw, ow + (j + i) * 2 + 0, none⟩) (World.block_lt_of_cell? w6 _ (hcw 0 _ rfl))).trans (hcw 0 _ rfl)
        have r11 := (hb.cell (p := ⟨bw, ow + (j + i) * 2 + 1, none⟩) (World.block_lt_of_cell? w6 _ (hcw 1 _ rfl))).trans (hcw 1 _ rfl)
        have r20 := (hb.cell (p := ⟨bn, on + i, none⟩) (World.block_lt_of_cell? w6 _ hcn)).trans hcn
        have r30 := (hb.cell (p := ⟨b2, o2, none⟩) (World.block_lt_of_cell? w6 _ C6.out)).trans C6.out
        simp only [Nat.add_zero] at r10
        generalize (regL m e).getD i 0 = xv at *
        have hq' : j + (i + 1) = j + i + 1 := rfl
        have l2 : ((j + i : Nat) : Int) < (nw : Int) := by omega
        clear hpw hcw hlw hbw hbn hcn hji hb y0 y1 y3 AP N6 HEL HDR O6 R6 R7 T6 G6 C6
        rw [hq'] at *
        generalize hq : j + i = q at *
        have hq9 : q <= 28000 := by have := HWN.out; omega
        have l1 : (i : Int) < (ni : Int) := by omega
        have l3 : decide (nw <= q) = false := by rw [decide_eq_false_iff_not]; omega
        have l4 : ¬ nw <= q := by omega
        have l5 : ¬ (nw : Int) <= (q : Int) := by omega
        have NQ := run_neq32
        go_wp2_with fail
        go_quiet (fail)
        go_wp2_with fail
        go_roundg (gk - 1)
        case measure => omega
        case rel => exact ⟨i + 1, by omega, by rw [show j + (i + 1) = q + 1 by omega]; go_num, by go_num, HBQ.out.trans ⟨rfl, rfl, rfl, Nat.le_refl _, fun _ _ => rfl⟩⟩
       ·have hin : i = ni := by omega
        subst hin
        have RZ := hidP (Row.new wr 25 [.int .i64 0, .string ⟨#[]⟩, .slice none 0 0, .slice none 0 0])
        have BZ := hidP (alloc_one wr (.cells #[.int .i64 0, .string ⟨#[]⟩, .slice none 0 0, .slice none 0 0] 25))
        clear hlt AP N6 HEL C6 R6 R7 hb
        go_wp2_with (first | (refine stR rfl 25 (.tmp 5) (.tmp 70) rfl (cs := [_, _, _, _]) rfl rfl RZ.out Tryz.sz25 rfl hon2.out ?_; intro w8 R8 S8; apply shut))
        show wpList _ _ _ _ _ _
        have B8 := hidP (BZ.out.trans (S8.below (C := wr.heap.size) BZ.out.size (fun q hq => by have : q = wr.heap.size := hq; omega)))
        have Q8 := hidP (HBQ.out.trans (below_le B8.out HBQ.out.size))
        have G8 := hidP (G6.out w8 Q8.out)
        have z3 := R8.cell 3
        simp only [List.getElem?_cons_zero, List.getElem?_cons_succ] at z3
        have R8 := hidP R8
        clear RZ BZ S8 B8 y0 y1 y2 y3 G6
        go_wp2_with (first | (refine wpList_load_mid rfl 25 (.tmp 35) rfl b1 o1 rfl c1 _ G8.out Tryz.underlying25 rfl s1.out ?_) | (refine stR rfl 25 (.tmp 5) (.tmp 36) rfl (cs := c1) rfl rfl R8.out s1.out hL1.out.symm hone.out ?_; intro w9 R9 S9; apply shut))
        show wpList _ _ _ _ _ _
        have B9 := hidP (Q8.out.trans (S9.below (C := w6.heap.size) (Q8.out.size) (fun q hq => by have : q = wr.heap.size := hq; have := HBQ.out.size; omega)))
        have Q9 := hidP (T6.out w9 B9.out)
        have O9 := hidP (own_sameR O6.out (fun k e => B9.out.block k (O6.out.lt k e).2))
        have W9 := hidP (B6.out.trans (below_le B9.out B6.out.size))
        have R9 := hidP R9
        have hz9 := HBQ.out.size
        clear S9 R8 Q8 G8 T6 O6
        go_wp2_with fail
        go_roundg (m + 1)
        case measure => omega
        case rel => exact ⟨m, e, wr.heap.size, j + i, c1, rfl, rfl, R9.out, by have := hlt6.out; omega, Q9.out, HF.out, HPE.out, hjn, HDR.out, Nat.le_refl _, by omega, W9.out, O9.out⟩
    ·have hW := plain_off hP hx
     have T7 := hidP (told12 (HG.out.below hB))
     have hjn : j = nw := by rw [hW] at hj; simpa using hj
     have HB := hidP hB
     clear h2 h3 hF hP hW hO hd hj hB
     subst hjn
     generalize t'.kind = kd at *
     generalize str t'.name = SN at *
     generalize t'.regs.length = nr at *
     generalize t'.elem.length = ne at *
     clear hR
     have fin := hidP (fun (y : World) (h : Below wr.heap.size wr y) => HB.out.trans (below_le h HB.out.size))
     by_cases k : kd = 4 ∨ kd = 5
     ·have n1 : ¬ (ne : Int) = 1 := by have := fun q => hx ⟨k, q⟩; omega
      clear hx
      rcases k with rfl | rfl
      all_goals
       go_wp2_with fail
       refine T7.out.mono ?_
       rintro _ wT ⟨rfl, hbT⟩
       have BT := hidP (fin.out wT hbT)
       clear hbT
       go_wp2_with fail
       go_ret
       exact ⟨rfl, BT.out⟩
     ·obtain ⟨k4, k5⟩ := not_or.mp k
      clear hx k
      go_wp2_with fail
      refine T7.out.mono ?_
      rintro _ wT ⟨rfl, hbT⟩
      have BT := hidP (fin.out wT hbT)
      clear hbT
      go_wp2_with fail
      go_ret
      exact ⟨rfl, BT.out⟩
 ·clear hdd
  go_wp2_with fail
  refine T2.out.mono ?_
  rintro _ wT ⟨rfl, hbT⟩
  have BT := hidP (B2.out.trans (below_le hbT B2.out.size))
  clear T2 hbT
  go_wp2_with fail
  go_ret
  exact ⟨rfl, BT.out⟩
end Go.Proofs.YtldbbkheemnnhaaGreatDoor
