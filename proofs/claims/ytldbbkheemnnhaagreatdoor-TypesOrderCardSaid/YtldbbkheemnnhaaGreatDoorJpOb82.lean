/-
  The texts Ob8, OrderCard, joined.
-/
import Derived.Test.YtldbbkheemnnhaaGreatDoorJpSpx4
import Derived.Test.YtldbbkheemnnhaaGreatDoorJpBt83
import Derived.Test.YtldbbkheemnnhaaGreatDoorJpWrd3
import Derived.Test.YtldbbkheemnnhaaGreatDoorJpOp82
namespace Go.Proofs.YtldbbkheemnnhaaGreatDoor
open Go.RowKit Go.Maps
theorem region_cut5 {P : Program} {c : Code} {Q : Exit -> Act -> World -> Prop} {a : Act} {w : World} {A : Value -> Value -> Value -> Value -> Value -> Act} {F : Value -> Value -> Value -> Value -> Value -> World -> Prop} (h : c.wp P (fun e a' w' => ∃ v1 v2 v3 v4 v5, e = .normal /\ a' = A v1 v2 v3 v4 v5 /\ F v1 v2 v3 v4 v5 w') a w) (k : ∀ v1 v2 v3 v4 v5 w', F v1 v2 v3 v4 v5 w' -> Q .normal (A v1 v2 v3 v4 v5) w') : c.wp P Q a w :=
 Code.wp_mono (by rintro e a' w' ⟨v1, v2, v3, v4, v5, rfl, rfl, hf⟩; exact k v1 v2 v3 v4 v5 w' hf) h
theorem own_emptyP {w : World} {B : Nat} (hB : B <= w.heap.size) : (w.alloc (.cells #[] 32)).ownsRow B 32 2 (.slice (some ⟨w.heap.size, 0, none⟩) 0 0) 0 [] :=
 ⟨rfl, .inr ⟨w.heap.size, 0, #[], rfl, hB, heap_alloc_new w _, Nat.le_refl _, Nat.zero_le _, rfl, rfl⟩⟩
set_option maxHeartbeats 64000000 in
set_option maxRecDepth 20000 in
theorem order_walk {K : Ctx} {w : World} {n : Nat} {cs : List Value} {t : RTy} {vm vn : Value} {m l : List Int} (hG : Glo w) (_hKB : 100 <= K.B) (hC : K.C <= w.heap.size) (ht : RtAt n K w cs t) (hm : Nms K w vm m) (hn : Nms K w vn l) :
  Calls Tryz.prog 7 #[.agg cs.toArray, vm, vn] w fun ev w' => ev = .returned (.bool true) /\ Below w.heap.size w w' := by
 obtain ⟨am, pm, rfl⟩ := Ar.form hm
 obtain ⟨an, pn, rfl⟩ := Ar.form hn
 obtain ⟨kt, st, y2, m2, r2, y3, m3, r3, rfl⟩ := ht.heads
 have HG := hidP hG
 have HC := hidP hC
 have HT := hidP (fun (y : World) (hy : Below w.heap.size w y) => ht.below (below_le hy hC))
 have HM := hidP (fun (y : World) (hy : Below w.heap.size w y) => show Nms K y (.slice am m.length pm) m from hm.mono (below_le hy hC) fun _ _ _ h => h)
 have HN := hidP (fun (y : World) (hy : Below w.heap.size w y) => show Nms K y (.slice an l.length pn) l from hn.mono (below_le hy hC) fun _ _ _ h => h)
 have HA := hidP (alloc_one w (.cells #[.int .i64 kt, .string st, .slice y2 m2 r2, .slice y3 m3 r3] 25))
 have R3 := hidP (Row.new w 25 [.int .i64 kt, .string st, .slice y2 m2 r2, .slice y3 m3 r3])
 have DP := hidP (deep10 20 (m := 20) (by decide) (by decide) (HT.out _ HA.out) (Nat.le_trans HC.out HA.out.size))
 clear ht hm hn hG hC
 generalize m.length = nm at *
 generalize l.length = nl at *
 go_enter Tryz.func7, Tryz.ntmps7
 go_wp2_with (first | (refine ldR rfl 25 (.tmp 3) rfl rfl R3.out Tryz.underlying25 rfl Tryz.sz25 ?_))
 refine DP.out.mono ?_
 rintro _ w2 ⟨rfl, hb2⟩
 have B2 := hidP (HA.out.trans (below_le hb2 HA.out.size))
 have R32 := hidP (R3.out.below hb2 R3.out.lt)
 have T2 := hidP (told12 (HG.out.below B2.out))
 clear DP HA R3 hb2
 rcases hdd : deepB 20 t with _ | _
 ·have HFT := hidP (deepB_fit hdd)
  clear hdd
  by_cases hm7 : 70 < nm
  ·have l1 : (70 : Int) < (nm : Int) := by omega
   clear hm7
   go_wp2_with fail
   refine T2.out.mono ?_
   rintro _ wT ⟨rfl, hbT⟩
   have BT := hidP (B2.out.trans (below_le hbT B2.out.size))
   clear T2 hbT
   go_wp2_with fail
   go_ret
   exact ⟨rfl, BT.out⟩
  ·have l1 : ¬ (70 : Int) < (nm : Int) := by omega
   clear hm7
   by_cases hn7 : 70 < nl
   ·have l2 : (70 : Int) < (nl : Int) := by omega
    clear hn7
    go_wp2_with fail
    refine T2.out.mono ?_
    rintro _ wT ⟨rfl, hbT⟩
    have BT := hidP (B2.out.trans (below_le hbT B2.out.size))
    clear T2 hbT
    go_wp2_with fail
    go_ret
    exact ⟨rfl, BT.out⟩
   ·have l2 : ¬ (70 : Int) < (nl : Int) := by omega
    have HRL := hidP (show (regL 20 t).length <= 90 from regL_le2 HFT.out)
    have RG := hidP (regions14 20 ((HT.out _ B2.out).fit HFT.out) (Nat.le_trans HC.out B2.out.size) (by have := HRL.out; omega))
    have z0 := R32.out.cell 0
    have z1 := R32.out.cell 1
    have z2 := R32.out.cell 2
    have z3 := R32.out.cell 3
    simp only [List.getElem?_cons_zero, List.getElem?_cons_succ] at z0 z1 z2 z3
    clear hn7 T2
    go_wp2_with fail
    refine RG.out.mono ?_
    rintro _ w3 ⟨v3, rfl, hb3, ho3⟩
    have B3 := hidP (B2.out.trans (below_le hb3 B2.out.size))
    have R33 := hidP (R32.out.below hb3 R32.out.lt)
    obtain ⟨a3, p3, rfl⟩ := own_slice ho3
    have T3 := hidP (told12 (HG.out.below B3.out))
    clear RG B2 R32 hb3 ho3 z0 z1 z2 z3
    generalize (regL 20 t).length = nr at *
    by_cases hr6 : 60 < nr
    ·have l3 : (60 : Int) < (nr : Int) := by omega
     clear hr6
     go_wp2_with fail
     refine T3.out.mono ?_
     rintro _ wT ⟨rfl, hbT⟩
     have BT := hidP (B3.out.trans (below_le hbT B3.out.size))
     clear T3 hbT
     go_wp2_with fail
     go_ret
     exact ⟨rfl, BT.out⟩
    ·have l3 : ¬ (60 : Int) < (nr : Int) := by omega
     clear hr6 T3
     have HBD := hidP (fun (b : Bool) (u : RTy) => askB (n := 20) (both := b) (t := t) (u := u) HFT.out)
     have SB := hidP (sub32 (n := 20) (n2 := 20) ((HT.out _ B3.out).fit HFT.out) ((HT.out _ B3.out).fit HFT.out) (Nat.le_trans HC.out B3.out.size) (fun _ => by have := HBD.out false t; omega))
     go_wp2_with (first | (refine ldR rfl 25 (.tmp 3) rfl rfl R33.out Tryz.underlying25 rfl Tryz.sz25 ?_))
     refine SB.out.mono ?_
     rintro _ w4 ⟨v4, rfl, hb4, ho4⟩
     have B4 := hidP (B3.out.trans (below_le hb4 B3.out.size))
     have R34 := hidP (R33.out.below hb4 R33.out.lt)
     have HSL := hidP (show ∀ u, (subL 20 t u).length <= 400 from fun u => by
      unfold subL
      split
      ·have := HBD.out false u; omega
      ·exact Nat.zero_le _)
     have P4 := hidP (own_prs (K := K.up w4.heap.size) ho4 (Nat.le_refl _) (by have := HSL.out t; omega))
     obtain ⟨a4, p4, rfl⟩ := own_slice ho4
     clear SB B3 R33 hb4 ho4
     generalize hnk : (subL 20 t t).length = nk at *
     have HNK := hidP hnk
     have hnk4 : nk <= 400 := by have := HSL.out t; omega
     clear hnk
     go_wp2_with fail
     go_loopg [8] nk (fun q v8 wr => ∃ i : Nat, i + q = nk /\ v8 = .int .i64 (i : Int) /\ Below w4.heap.size w4 wr)
     case atStart => exact ⟨0, by omega, rfl, Below.refl _ _⟩
     case round =>
      obtain ⟨i, hi, rfl, hb⟩ := hrel
      have HB := hidP hb
      by_cases hlt : i < nk
      ·obtain ⟨b, o, rfl, hbb, c1, c2⟩ := prs_cell P4.out i (by rw [HNK.out]; exact hlt)
       have d1 := (hb.cell (p := ⟨b, o + i * 2, none⟩) hbb).trans c1
       have d2 := (hb.cell (p := ⟨b, o + i * 2 + 1, none⟩) hbb).trans c2
       have hmem : (subL 20 t t).getD i (0, 0) ∈ subL 20 t t := by
        have h : i < (subL 20 t t).length := by rw [HNK.out]; exact hlt
        rw [List.getD_eq_getElem?_getD, List.getElem?_eq_getElem h]
        exact List.getElem_mem h
       have hsf := sub_self hmem
       rw [← hsf] at d2
       generalize ((subL 20 t t).getD i (0, 0)).1 = x at *
       have l4 : (i : Int) < (nk : Int) := by omega
       have hrf : (x == x) = true := beq_self_eq_true x
       clear c1 c2 hb hbb hmem hsf
       go_wp2_with fail
       go_quiet (fail)
       go_wp2_with fail
       go_roundg (gk - 1)
       case measure => omega
       case rel => exact ⟨i + 1, by omega, by go_num, HB.out.trans ⟨rfl, rfl, rfl, Nat.le_refl _, fun _ _ => rfl⟩⟩
      ·have hin : i = nk := by omega
       subst hin
       have R3r := hidP (R34.out.below hb R34.out.lt)
       have BR := hidP (B4.out.trans (below_le hb B4.out.size))
       clear hlt hi hb HB P4 R34 B4
       generalize wr = wS at *
       go_wp2_with fail
       refine reg9 (K := K) (t := t) (n := 20) (m := m) (l := l) (g3 := w.heap.size) rfl rfl rfl rfl R3r.out (Nat.le_trans HC.out BR.out.size) ((HT.out _ BR.out).fit HFT.out) HFT.out (HM.out _ BR.out) (HN.out _ BR.out) ?_
       intro f w5 g7 g8 g9 c e hb5 f9 f10 f11 hR7 hR8 hR9 hX hY
       have B5 := hidP (BR.out.trans (below_le hb5 BR.out.size))
       have R7 := hidP hR7
       have R8 := hidP hR8
       have R9 := hidP hR9
       have X := hidP hX
       have Y := hidP hY
       obtain ⟨c0, c1, c2, c3, rfl⟩ := hX.four
       obtain ⟨e0, e1, e2, e3, rfl⟩ := hY.four
       simp only [List.foldl_cons, List.foldl_nil, List.setIfInBounds_toArray, List.set_cons_succ, List.set_cons_zero, f9, f10, f11]
       generalize f 54 = u54
       generalize f 55 = u55
       generalize f 56 = u56
       generalize f 57 = u57
       generalize f 58 = u58
       generalize f 59 = u59
       generalize f 60 = u60
       have TX := hidP (show RtAt 20 (K.up w5.heap.size) w5 _ t from RtAt.up (show K.C <= w5.heap.size from Nat.le_trans HC.out B5.out.size) ((HT.out _ B5.out).fit HFT.out))
       have HS1 := hidP (show ∀ b : Bool, (askL 20 b t (subN 20 m t)).length <= 200 from fun b => by have := HBD.out b (subN 20 m t); omega)
       have HBM := hidP (fun (b : Bool) (u : RTy) => askB (n := 20) (both := b) (t := subN 20 m t) (u := u) (Fit.sub HFT.out))
       have HOR := hidP (fun (p : Int × Int) (h : p ∈ subL 20 t (subN 20 l t)) => order_two (m := m) (l := l) HFT.out h)
       clear hb5 f9 f10 f11 hR7 hR8 hR9 hX hY R3r BR HM HN HRL
       go_wp2_with fail
       have HL1 := hidP (show (subL 20 t (subN 20 m t)).length <= 400 from HSL.out _)
       have HL2 := hidP (show (subL 20 (subN 20 m t) (subN 20 l t)).length <= 400 from by
        unfold subL
        split
        ·have := HBM.out false (subN 20 l t); omega
        ·exact Nat.zero_le _)
       refine region_cut5 (A := ?_) (F := fun v1 v2 v3 v4 v5 w' => Below w5.heap.size w5 w' /\ w'.ownsRow w5.heap.size 32 2 v5 (subL 20 t (subN 20 m t) ++ subL 20 (subN 20 m t) (subN 20 l t)).length (pvs (subL 20 t (subN 20 m t) ++ subL 20 (subN 20 m t) (subN 20 l t)))) ?_ ?_
       rotate_left
       ·have hS0 : Row w5.drew g7 25 [.int .i64 kt, .string st, .slice y2 m2 r2, .slice y3 m3 r3] /\ Row w5.drew g8 25 [c0, c1, c2, c3] /\ Row w5.drew g9 25 [e0, e1, e2, e3] := ⟨R7.out.drew, R8.out.drew, R9.out.drew⟩
        have BX := hidP (show Below w5.heap.size w5 w5.drew from (Below.refl _ _).drew)
        refine beginL (fun y => Row y g7 25 [.int .i64 kt, .string st, .slice y2 m2 r2, .slice y3 m3 r3] /\ Row y g8 25 [c0, c1, c2, c3] /\ Row y g9 25 [e0, e1, e2, e3]) 10 (by kernel_rfl) hS0 (fun hSS => ?_)
        refine takeL 1 (v := ?_) rfl (some 62) rfl (by decide) (by kernel_rfl) (by kernel_rfl) (by kernel_rfl) (by kernel_rfl) (fun _ _ _ h => by obtain ⟨_, _, _, _, _, h, _⟩ := h; cases h) (Or.inl ⟨by rfl, ?_⟩) hSS ?_
        rotate_left
        ·(intro y hy; have j0 := hy.1.cell 0; have j1 := hy.1.cell 1; have j2 := hy.1.cell 2; have j3 := hy.1.cell 3; have q0 := hy.2.1.cell 0; have q1 := hy.2.1.cell 1; have q2 := hy.2.1.cell 2; have q3 := hy.2.1.cell 3; have s0 := hy.2.2.cell 0; have s1 := hy.2.2.cell 1; have s2 := hy.2.2.cell 2; have s3 := hy.2.2.cell 3; simp only [List.getElem?_cons_zero, List.getElem?_cons_succ] at j0 j1 j2 j3 q0 q1 q2 q3 s0 s1 s2 s3; go_simp; with_reducible rfl)
        try simp only [Act.put]
        try simp only [List.setIfInBounds_toArray]
        try simp only [List.set_cons_succ]
        try simp only [List.set_cons_zero]
        refine takeL 2 (v := ?_) rfl (some 63) rfl (by decide) (by kernel_rfl) (by kernel_rfl) (by kernel_rfl) (by kernel_rfl) (fun _ _ _ h => by obtain ⟨_, _, _, _, _, h, _⟩ := h; cases h) (Or.inl ⟨by rfl, ?_⟩) hSS ?_
        rotate_left
        ·(intro y hy; have j0 := hy.1.cell 0; have j1 := hy.1.cell 1; have j2 := hy.1.cell 2; have j3 := hy.1.cell 3; have q0 := hy.2.1.cell 0; have q1 := hy.2.1.cell 1; have q2 := hy.2.1.cell 2; have q3 := hy.2.1.cell 3; have s0 := hy.2.2.cell 0; have s1 := hy.2.2.cell 1; have s2 := hy.2.2.cell 2; have s3 := hy.2.2.cell 3; simp only [List.getElem?_cons_zero, List.getElem?_cons_succ] at j0 j1 j2 j3 q0 q1 q2 q3 s0 s1 s2 s3; go_simp; with_reducible rfl)
        try simp only [Act.put]
        try simp only [List.setIfInBounds_toArray]
        try simp only [List.set_cons_succ]
        try simp only [List.set_cons_zero]
        refine takeL 5 (v := ?_) rfl (some 66) rfl (by decide) (by kernel_rfl) (by kernel_rfl) (by kernel_rfl) (by kernel_rfl) (fun _ _ _ h => by obtain ⟨_, _, _, _, _, h, _⟩ := h; cases h) (Or.inl ⟨by rfl, ?_⟩) hSS ?_
        rotate_left
        ·(intro y hy; have j0 := hy.1.cell 0; have j1 := hy.1.cell 1; have j2 := hy.1.cell 2; have j3 := hy.1.cell 3; have q0 := hy.2.1.cell 0; have q1 := hy.2.1.cell 1; have q2 := hy.2.1.cell 2; have q3 := hy.2.1.cell 3; have s0 := hy.2.2.cell 0; have s1 := hy.2.2.cell 1; have s2 := hy.2.2.cell 2; have s3 := hy.2.2.cell 3; simp only [List.getElem?_cons_zero, List.getElem?_cons_succ] at j0 j1 j2 j3 q0 q1 q2 q3 s0 s1 s2 s3; go_simp; with_reducible rfl)
        try simp only [Act.put]
        try simp only [List.setIfInBounds_toArray]
        try simp only [List.set_cons_succ]
        try simp only [List.set_cons_zero]
        refine takeL 6 (v := ?_) rfl (some 67) rfl (by decide) (by kernel_rfl) (by kernel_rfl) (by kernel_rfl) (by kernel_rfl) (fun _ _ _ h => by obtain ⟨_, _, _, _, _, h, _⟩ := h; cases h) (Or.inl ⟨by rfl, ?_⟩) hSS ?_
        rotate_left
        ·(intro y hy; have j0 := hy.1.cell 0; have j1 := hy.1.cell 1; have j2 := hy.1.cell 2; have j3 := hy.1.cell 3; have q0 := hy.2.1.cell 0; have q1 := hy.2.1.cell 1; have q2 := hy.2.1.cell 2; have q3 := hy.2.1.cell 3; have s0 := hy.2.2.cell 0; have s1 := hy.2.2.cell 1; have s2 := hy.2.2.cell 2; have s3 := hy.2.2.cell 3; simp only [List.getElem?_cons_zero, List.getElem?_cons_succ] at j0 j1 j2 j3 q0 q1 q2 q3 s0 s1 s2 s3; go_simp; with_reducible rfl)
        try simp only [Act.put]
        try simp only [List.setIfInBounds_toArray]
        try simp only [List.set_cons_succ]
        try simp only [List.set_cons_zero]
        generalize w5.drew = wA at *
        refine readyL (rs := [0, 3]) (by kernel_rfl) (by simp) ?_
        refine ReadyL.cons rfl (fun KK hK => ?_) (ReadyL.cons rfl (fun KK hK => ?_) ReadyL.nil)
        ·refine wantR (by rfl) ?_
         go_simp
         have BAq := alloc_one wA (.cells #[] 32)
         have hSS2 := (⟨hSS.1.below BAq hSS.1.lt, hSS.2.1.below BAq hSS.2.1.lt, hSS.2.2.below BAq hSS.2.2.lt⟩ : Row (wA.alloc (.cells #[] 32)) g7 25 [.int .i64 kt, .string st, .slice y2 m2 r2, .slice y3 m3 r3] /\ Row (wA.alloc (.cells #[] 32)) g8 25 [c0, c1, c2, c3] /\ Row (wA.alloc (.cells #[] 32)) g9 25 [e0, e1, e2, e3])
         have BX2 := hidP (BX.out.trans (below_le BAq BX.out.size))
         have O61 := hidP (own_emptyP (w := wA) (B := w5.heap.size) BX.out.size)
         refine hK.out _ _ (fun _ => hSS2) (fun _ => ?_)
         clear BAq
         clear hK KK hSS BX
         have hSS := hSS2
         have BX := BX2
         clear hSS2 BX2
         generalize wA.alloc (.cells #[] 32) = wB at *
         generalize Value.slice (some ⟨wA.heap.size, 0, none⟩) 0 0 = v61 at *
         try simp only [Act.put]
         try simp only [List.setIfInBounds_toArray]
         try simp only [List.set_cons_succ]
         try simp only [List.set_cons_zero]
         refine readyL (rs := [3]) (by kernel_rfl) (by simp) ?_
         refine ReadyL.cons rfl (fun KK hK => ?_) ReadyL.nil
         refine wantR (by rfl) ?_
         have SC := sub32 (K := K.up w5.heap.size) (n := 20) (n2 := 20) (RtAt.below (K := K.up w5.heap.size) BX.out TX.out) (RtAt.below (K := K.up w5.heap.size) BX.out X.out) BX.out.size (fun _ => by have := HS1.out false; omega)
         go_simp
         refine SC.mono ?_
         rintro _ wC ⟨v64, rfl, hbz, hoz⟩
         have hSS2 := (⟨hSS.1.below hbz hSS.1.lt, hSS.2.1.below hbz hSS.2.1.lt, hSS.2.2.below hbz hSS.2.2.lt⟩ : Row wC g7 25 [.int .i64 kt, .string st, .slice y2 m2 r2, .slice y3 m3 r3] /\ Row wC g8 25 [c0, c1, c2, c3] /\ Row wC g9 25 [e0, e1, e2, e3])
         have BX2 := hidP (BX.out.trans (below_le hbz BX.out.size))
         have O64 := hidP hoz
         have O61b := hidP (own_sameR O61.out (fun q eq => hbz.block q (O61.out.lt q eq).2))
         clear O61
         have O61 := O61b
         clear O61b
         refine hK.out _ _ (fun _ => hSS2) (fun _ => ?_)
         clear SC hbz hoz
         clear hK KK hSS BX
         have hSS := hSS2
         have BX := BX2
         clear hSS2 BX2
         try simp only [Act.put]
         try simp only [List.setIfInBounds_toArray]
         try simp only [List.set_cons_succ]
         try simp only [List.set_cons_zero]
         refine readyL (rs := [4]) (by kernel_rfl) (by simp) ?_
         refine ReadyL.cons rfl (fun KK hK => ?_) ReadyL.nil
         refine wantR (by rfl) ?_
         refine wpo_appS (bz := 16) (.tmp 61) (.tmp 64) rfl Tryz.underlying29 Tryz.info32 rfl (by decide) rfl rfl O61.out BX.out.size (own_souZ O64.out) (pvs_len _) (pvs_ones _) (by have := HL1.out; omega) (by decide) ?_
         intro v65 wD hoz hgz
         have hbz := grown_le hgz BX.out.size (fun k e => (O61.out.lt k e).1)
         have hSS2 := (⟨hSS.1.below hbz R7.out.lt, hSS.2.1.below hbz R8.out.lt, hSS.2.2.below hbz R9.out.lt⟩ : Row wD g7 25 [.int .i64 kt, .string st, .slice y2 m2 r2, .slice y3 m3 r3] /\ Row wD g8 25 [c0, c1, c2, c3] /\ Row wD g9 25 [e0, e1, e2, e3])
         have BX2 := hidP (BX.out.trans hbz)
         have O65 := hidP hoz
         refine hK.out (Act.put _ (some 65) _) _ (fun _ => hSS2) (fun _ => ?_)
         clear hbz hoz hgz O61 O64
         clear hK KK hSS BX
         have hSS := hSS2
         have BX := BX2
         clear hSS2 BX2
         try simp only [Act.put]
         try simp only [List.setIfInBounds_toArray]
         try simp only [List.set_cons_succ]
         try simp only [List.set_cons_zero]
         refine readyL (rs := [7]) (by kernel_rfl) (by simp) ?_
         refine ReadyL.cons rfl (fun KK hK => ?_) ReadyL.nil
         refine wantR (by rfl) ?_
         have SC := sub32 (K := K.up w5.heap.size) (n := 20) (n2 := 20) (RtAt.below (K := K.up w5.heap.size) BX.out X.out) (RtAt.below (K := K.up w5.heap.size) BX.out Y.out) BX.out.size (fun _ => by have := HBM.out false (subN 20 l t); omega)
         go_simp
         refine SC.mono ?_
         rintro _ wE ⟨v68, rfl, hbz, hoz⟩
         have hSS2 := (⟨hSS.1.below hbz hSS.1.lt, hSS.2.1.below hbz hSS.2.1.lt, hSS.2.2.below hbz hSS.2.2.lt⟩ : Row wE g7 25 [.int .i64 kt, .string st, .slice y2 m2 r2, .slice y3 m3 r3] /\ Row wE g8 25 [c0, c1, c2, c3] /\ Row wE g9 25 [e0, e1, e2, e3])
         have BX2 := hidP (BX.out.trans (below_le hbz BX.out.size))
         have O68 := hidP hoz
         have O65b := hidP (own_sameR O65.out (fun q eq => hbz.block q (O65.out.lt q eq).2))
         clear O65
         have O65 := O65b
         clear O65b
         refine hK.out _ _ (fun _ => hSS2) (fun _ => ?_)
         clear SC hbz hoz
         clear hK KK hSS BX
         have hSS := hSS2
         have BX := BX2
         clear hSS2 BX2
         try simp only [Act.put]
         try simp only [List.setIfInBounds_toArray]
         try simp only [List.set_cons_succ]
         try simp only [List.set_cons_zero]
         refine readyL (rs := [8]) (by kernel_rfl) (by simp) ?_
         refine ReadyL.cons rfl (fun KK hK => ?_) ReadyL.nil
         refine wantR (by rfl) ?_
         refine wpo_appS (bz := 16) (.tmp 65) (.tmp 68) rfl Tryz.underlying29 Tryz.info32 rfl (by decide) rfl rfl O65.out BX.out.size (own_souZ O68.out) (pvs_len _) (pvs_ones _) (by have := HL1.out; have := HL2.out; omega) (by decide) ?_
         intro v69 wF hoz hgz
         have hbz := grown_le hgz BX.out.size (fun k e => (O65.out.lt k e).1)
         have hSS2 := (⟨hSS.1.below hbz R7.out.lt, hSS.2.1.below hbz R8.out.lt, hSS.2.2.below hbz R9.out.lt⟩ : Row wF g7 25 [.int .i64 kt, .string st, .slice y2 m2 r2, .slice y3 m3 r3] /\ Row wF g8 25 [c0, c1, c2, c3] /\ Row wF g9 25 [e0, e1, e2, e3])
         have BX2 := hidP (BX.out.trans hbz)
         have O69 := hidP hoz
         refine hK.out (Act.put _ (some 69) _) _ (fun _ => hSS2) (fun _ => ?_)
         clear hbz hoz hgz O65 O68
         clear hK KK hSS BX
         have hSS := hSS2
         have BX := BX2
         clear hSS2 BX2
         try simp only [Act.put]
         try simp only [List.setIfInBounds_toArray]
         try simp only [List.set_cons_succ]
         try simp only [List.set_cons_zero]
         refine takeL 9 (v := ?_) rfl (some 12) rfl (by decide) (by kernel_rfl) (by kernel_rfl) (by kernel_rfl) (by kernel_rfl) (fun _ _ _ h => by obtain ⟨_, _, _, _, _, h, _⟩ := h; cases h) (Or.inl ⟨by rfl, ?_⟩) hSS ?_
         rotate_left
         ·(intro y hy; have j0 := hy.1.cell 0; have j1 := hy.1.cell 1; have j2 := hy.1.cell 2; have j3 := hy.1.cell 3; have q0 := hy.2.1.cell 0; have q1 := hy.2.1.cell 1; have q2 := hy.2.1.cell 2; have q3 := hy.2.1.cell 3; have s0 := hy.2.2.cell 0; have s1 := hy.2.2.cell 1; have s2 := hy.2.2.cell 2; have s3 := hy.2.2.cell 3; simp only [List.getElem?_cons_zero, List.getElem?_cons_succ] at j0 j1 j2 j3 q0 q1 q2 q3 s0 s1 s2 s3; go_simp; with_reducible rfl)
         try simp only [Act.put]
         try simp only [List.setIfInBounds_toArray]
         try simp only [List.set_cons_succ]
         try simp only [List.set_cons_zero]
         refine doneL (by kernel_rfl) ?_ _
         refine ⟨v61, v64, v65, v68, v69, rfl, ?_, BX.out, by
          rw [List.nil_append, Nat.zero_add, ← pvs_app] at O69
          rw [List.length_append]
          exact O69.out⟩
         with_reducible rfl
        ·refine wantR (by rfl) ?_
         have SC := sub32 (K := K.up w5.heap.size) (n := 20) (n2 := 20) (RtAt.below (K := K.up w5.heap.size) BX.out TX.out) (RtAt.below (K := K.up w5.heap.size) BX.out X.out) BX.out.size (fun _ => by have := HS1.out false; omega)
         go_simp
         refine SC.mono ?_
         rintro _ wB ⟨v64, rfl, hbz, hoz⟩
         have hSS2 := (⟨hSS.1.below hbz hSS.1.lt, hSS.2.1.below hbz hSS.2.1.lt, hSS.2.2.below hbz hSS.2.2.lt⟩ : Row wB g7 25 [.int .i64 kt, .string st, .slice y2 m2 r2, .slice y3 m3 r3] /\ Row wB g8 25 [c0, c1, c2, c3] /\ Row wB g9 25 [e0, e1, e2, e3])
         have BX2 := hidP (BX.out.trans (below_le hbz BX.out.size))
         have O64 := hidP hoz
         refine hK.out _ _ (fun _ => hSS2) (fun _ => ?_)
         clear SC hbz hoz
         clear hK KK hSS BX
         have hSS := hSS2
         have BX := BX2
         clear hSS2 BX2
         try simp only [Act.put]
         try simp only [List.setIfInBounds_toArray]
         try simp only [List.set_cons_succ]
         try simp only [List.set_cons_zero]
         refine readyL (rs := [0]) (by kernel_rfl) (by simp) ?_
         refine ReadyL.cons rfl (fun KK hK => ?_) ReadyL.nil
         refine wantR (by rfl) ?_
         go_simp
         have BAq := alloc_one wB (.cells #[] 32)
         have hSS2 := (⟨hSS.1.below BAq hSS.1.lt, hSS.2.1.below BAq hSS.2.1.lt, hSS.2.2.below BAq hSS.2.2.lt⟩ : Row (wB.alloc (.cells #[] 32)) g7 25 [.int .i64 kt, .string st, .slice y2 m2 r2, .slice y3 m3 r3] /\ Row (wB.alloc (.cells #[] 32)) g8 25 [c0, c1, c2, c3] /\ Row (wB.alloc (.cells #[] 32)) g9 25 [e0, e1, e2, e3])
         have BX2 := hidP (BX.out.trans (below_le BAq BX.out.size))
         have O61 := hidP (own_emptyP (w := wB) (B := w5.heap.size) BX.out.size)
         have O64b := hidP (own_sameR O64.out (fun q eq => BAq.block q (O64.out.lt q eq).2))
         clear O64
         have O64 := O64b
         clear O64b
         refine hK.out _ _ (fun _ => hSS2) (fun _ => ?_)
         clear BAq
         clear hK KK hSS BX
         have hSS := hSS2
         have BX := BX2
         clear hSS2 BX2
         generalize wB.alloc (.cells #[] 32) = wC at *
         generalize Value.slice (some ⟨wB.heap.size, 0, none⟩) 0 0 = v61 at *
         try simp only [Act.put]
         try simp only [List.setIfInBounds_toArray]
         try simp only [List.set_cons_succ]
         try simp only [List.set_cons_zero]
         refine readyL (rs := [4]) (by kernel_rfl) (by simp) ?_
         refine ReadyL.cons rfl (fun KK hK => ?_) ReadyL.nil
         refine wantR (by rfl) ?_
         refine wpo_appS (bz := 16) (.tmp 61) (.tmp 64) rfl Tryz.underlying29 Tryz.info32 rfl (by decide) rfl rfl O61.out BX.out.size (own_souZ O64.out) (pvs_len _) (pvs_ones _) (by have := HL1.out; omega) (by decide) ?_
         intro v65 wD hoz hgz
         have hbz := grown_le hgz BX.out.size (fun k e => (O61.out.lt k e).1)
         have hSS2 := (⟨hSS.1.below hbz R7.out.lt, hSS.2.1.below hbz R8.out.lt, hSS.2.2.below hbz R9.out.lt⟩ : Row wD g7 25 [.int .i64 kt, .string st, .slice y2 m2 r2, .slice y3 m3 r3] /\ Row wD g8 25 [c0, c1, c2, c3] /\ Row wD g9 25 [e0, e1, e2, e3])
         have BX2 := hidP (BX.out.trans hbz)
         have O65 := hidP hoz
         refine hK.out (Act.put _ (some 65) _) _ (fun _ => hSS2) (fun _ => ?_)
         clear hbz hoz hgz O61 O64
         clear hK KK hSS BX
         have hSS := hSS2
         have BX := BX2
         clear hSS2 BX2
         try simp only [Act.put]
         try simp only [List.setIfInBounds_toArray]
         try simp only [List.set_cons_succ]
         try simp only [List.set_cons_zero]
         refine readyL (rs := [7]) (by kernel_rfl) (by simp) ?_
         refine ReadyL.cons rfl (fun KK hK => ?_) ReadyL.nil
         refine wantR (by rfl) ?_
         have SC := sub32 (K := K.up w5.heap.size) (n := 20) (n2 := 20) (RtAt.below (K := K.up w5.heap.size) BX.out X.out) (RtAt.below (K := K.up w5.heap.size) BX.out Y.out) BX.out.size (fun _ => by have := HBM.out false (subN 20 l t); omega)
         go_simp
         refine SC.mono ?_
         rintro _ wE ⟨v68, rfl, hbz, hoz⟩
         have hSS2 := (⟨hSS.1.below hbz hSS.1.lt, hSS.2.1.below hbz hSS.2.1.lt, hSS.2.2.below hbz hSS.2.2.lt⟩ : Row wE g7 25 [.int .i64 kt, .string st, .slice y2 m2 r2, .slice y3 m3 r3] /\ Row wE g8 25 [c0, c1, c2, c3] /\ Row wE g9 25 [e0, e1, e2, e3])
         have BX2 := hidP (BX.out.trans (below_le hbz BX.out.size))
         have O68 := hidP hoz
         have O65b := hidP (own_sameR O65.out (fun q eq => hbz.block q (O65.out.lt q eq).2))
         clear O65
         have O65 := O65b
         clear O65b
         refine hK.out _ _ (fun _ => hSS2) (fun _ => ?_)
         clear SC hbz hoz
         clear hK KK hSS BX
         have hSS := hSS2
         have BX := BX2
         clear hSS2 BX2
         try simp only [Act.put]
         try simp only [List.setIfInBounds_toArray]
         try simp only [List.set_cons_succ]
         try simp only [List.set_cons_zero]
         refine readyL (rs := [8]) (by kernel_rfl) (by simp) ?_
         refine ReadyL.cons rfl (fun KK hK => ?_) ReadyL.nil
         refine wantR (by rfl) ?_
         refine wpo_appS (bz := 16) (.tmp 65) (.tmp 68) rfl Tryz.underlying29 Tryz.info32 rfl (by decide) rfl rfl O65.out BX.out.size (own_souZ O68.out) (pvs_len _) (pvs_ones _) (by have := HL1.out; have := HL2.out; omega) (by decide) ?_
         intro v69 wF hoz hgz
         have hbz := grown_le hgz BX.out.size (fun k e => (O65.out.lt k e).1)
         have hSS2 := (⟨hSS.1.below hbz R7.out.lt, hSS.2.1.below hbz R8.out.lt, hSS.2.2.below hbz R9.out.lt⟩ : Row wF g7 25 [.int .i64 kt, .string st, .slice y2 m2 r2, .slice y3 m3 r3] /\ Row wF g8 25 [c0, c1, c2, c3] /\ Row wF g9 25 [e0, e1, e2, e3])
         have BX2 := hidP (BX.out.trans hbz)
         have O69 := hidP hoz
         refine hK.out (Act.put _ (some 69) _) _ (fun _ => hSS2) (fun _ => ?_)
         clear hbz hoz hgz O65 O68
         clear hK KK hSS BX
         have hSS := hSS2
         have BX := BX2
         clear hSS2 BX2
         try simp only [Act.put]
         try simp only [List.setIfInBounds_toArray]
         try simp only [List.set_cons_succ]
         try simp only [List.set_cons_zero]
         refine takeL 9 (v := ?_) rfl (some 12) rfl (by decide) (by kernel_rfl) (by kernel_rfl) (by kernel_rfl) (by kernel_rfl) (fun _ _ _ h => by obtain ⟨_, _, _, _, _, h, _⟩ := h; cases h) (Or.inl ⟨by rfl, ?_⟩) hSS ?_
         rotate_left
         ·(intro y hy; have j0 := hy.1.cell 0; have j1 := hy.1.cell 1; have j2 := hy.1.cell 2; have j3 := hy.1.cell 3; have q0 := hy.2.1.cell 0; have q1 := hy.2.1.cell 1; have q2 := hy.2.1.cell 2; have q3 := hy.2.1.cell 3; have s0 := hy.2.2.cell 0; have s1 := hy.2.2.cell 1; have s2 := hy.2.2.cell 2; have s3 := hy.2.2.cell 3; simp only [List.getElem?_cons_zero, List.getElem?_cons_succ] at j0 j1 j2 j3 q0 q1 q2 q3 s0 s1 s2 s3; go_simp; with_reducible rfl)
         try simp only [Act.put]
         try simp only [List.setIfInBounds_toArray]
         try simp only [List.set_cons_succ]
         try simp only [List.set_cons_zero]
         refine doneL (by kernel_rfl) ?_ _
         refine ⟨v61, v64, v65, v68, v69, rfl, ?_, BX.out, by
          rw [List.nil_append, Nat.zero_add, ← pvs_app] at O69
          rw [List.length_append]
          exact O69.out⟩
         with_reducible rfl
       ·rintro v1 v2 v3 v4 v5 w6 ⟨hb6, ho6⟩
        have R76 := hidP (R7.out.below hb6 R7.out.lt)
        have R96 := hidP (R9.out.below hb6 R9.out.lt)
        have B6 := hidP (B5.out.trans (below_le hb6 B5.out.size))
        have SC := hidP (sub32 (K := K.up w5.heap.size) (n := 20) (n2 := 20) (RtAt.below (K := K.up w5.heap.size) hb6 TX.out) (RtAt.below (K := K.up w5.heap.size) hb6 Y.out) hb6.size (fun _ => by have := HBD.out false (subN 20 l t); omega))
        have O6 := hidP ho6
        obtain ⟨a6, p6, rfl⟩ := own_slice ho6
        have HLL := hidP (show (subL 20 t (subN 20 m t) ++ subL 20 (subN 20 m t) (subN 20 l t)).length <= 40000 by rw [List.length_append]; have := HL1.out; have := HL2.out; omega)
        clear ho6
        generalize hnz : (subL 20 t (subN 20 m t) ++ subL 20 (subN 20 m t) (subN 20 l t)).length = nz at *
        have HNZ := hidP hnz
        clear hnz
        clear R7 R8 R9 TX X Y hb6 B5
        go_wp2_with (first | (refine ldR rfl 25 (.tmp 9) rfl rfl R76.out Tryz.underlying25 rfl Tryz.sz25 ?_) | (refine ldR rfl 25 (.tmp 11) rfl rfl R96.out Tryz.underlying25 rfl Tryz.sz25 ?_))
        refine SC.out.mono ?_
        rintro _ w7 ⟨v7, rfl, hb7, ho7⟩
        have B7 := hidP (B6.out.trans (below_le hb7 B6.out.size))
        have P6 := hidP (own_prs (K := K.up w7.heap.size) (l := subL 20 t (subN 20 m t) ++ subL 20 (subN 20 m t) (subN 20 l t)) (by rw [HNZ.out]; exact own_sameR O6.out (fun q eq => hb7.block q (O6.out.lt q eq).2)) (Nat.le_refl _) (by have := HLL.out; have := HNZ.out; omega))
        have P7 := hidP (own_prs (K := K.up w7.heap.size) ho7 (Nat.le_refl _) (by have := HSL.out (subN 20 l t); omega))
        obtain ⟨a7, p7, rfl⟩ := own_slice ho7
        clear SC R76 R96 O6 B6 hb7 ho7
        generalize hnk : (subL 20 t (subN 20 l t)).length = nk at *
        have HNK2 := hidP hnk
        have hnk4 : nk <= 400 := by have := HSL.out (subN 20 l t); omega
        clear hnk
        go_wp2_with fail
        go_loopg [14] nk (fun q v14 wr => ∃ j : Nat, j + q = nk /\ v14 = .int .i64 (j : Int) /\ Below w7.heap.size w7 wr)
        case atStart => exact ⟨0, by omega, rfl, Below.refl _ _⟩
        case round =>
         obtain ⟨j, hj, rfl, hb⟩ := hrel
         have HB := hidP hb
         by_cases hlt : j < nk
         ·have hlt' : j < (subL 20 t (subN 20 l t)).length := by rw [HNK2.out]; exact hlt
          obtain ⟨b, o, rfl, hbb, c1', c2'⟩ := prs_cell P7.out j hlt'
          have d1 := (hb.cell (p := ⟨b, o + j * 2, none⟩) hbb).trans c1'
          have d2 := (hb.cell (p := ⟨b, o + j * 2 + 1, none⟩) hbb).trans c2'
          have hmem : (subL 20 t (subN 20 l t)).getD j (0, 0) ∈ subL 20 t (subN 20 l t) := by
           rw [List.getD_eq_getElem?_getD, List.getElem?_eq_getElem hlt']
           exact List.getElem_mem hlt'
          have htw := HOR.out _ hmem
          rcases hq : (subL 20 t (subN 20 l t)).getD j (0, 0) with ⟨q1, q2⟩
          rw [hq] at d1 d2 htw
          simp only at d1 d2
          have FO := hidP (follows35 (K := K.up w7.heap.size) (p0 := q1) (p1 := q2) (P6.out.mono hb fun _ _ _ h => h) (show w7.heap.size <= _ from hb.size) (by have := HLL.out; have := HNZ.out; omega) (.inr htw))
          have l4 : (j : Int) < (nk : Int) := by omega
          have RNG := hidP (show ∀ i u, [Value.int .i64 q1, .int .i64 q2][i]? = some u -> wr.cell? ⟨b, o + j * 2 + i, none⟩ = some u from fun i u hu => by
           match i, hu with
           | 0, hu => cases hu; exact d1
           | 1, hu => cases hu; exact d2)
          clear c1' c2' hb hbb hmem htw hq hlt'
          go_wp2_with fail
          refine FO.out.mono ?_
          rintro _ w8 ⟨rfl, hb8⟩
          have HB8 := hidP (HB.out.trans (below_le hb8 HB.out.size))
          clear FO RNG HB hb8
          go_wp2_with fail
          go_roundg (gk - 1)
          case measure => omega
          case rel => exact ⟨j + 1, by omega, by go_num, HB8.out⟩
         ·have hjn : j = nk := by omega
          subst hjn
          have B8 := hidP (B7.out.trans (below_le hb B7.out.size))
          have T8 := hidP (told12 (HG.out.below B8.out))
          clear hlt hj hb HB P6 P7
          go_wp2_with fail
          refine T8.out.mono ?_
          rintro _ wT ⟨rfl, hbT⟩
          have BT := hidP (B8.out.trans (below_le hbT B8.out.size))
          clear T8 hbT
          go_wp2_with fail
          go_ret
          exact ⟨rfl, BT.out⟩
 ·clear hdd
  go_wp2_with fail
  refine T2.out.mono ?_
  rintro _ wT ⟨rfl, hbT⟩
  have BT := hidP (B2.out.trans (below_le hbT B2.out.size))
  clear T2 hbT
  go_wp2_with fail
  go_ret
  exact ⟨rfl, BT.out⟩
end Go.Proofs.YtldbbkheemnnhaaGreatDoor

namespace Go.Proofs.YtldbbkheemnnhaaGreatDoor
open Go.ChangeShapes Go.WideShapes Go.ChangeAt Go.RowKit
set_option maxRecDepth 100000 in
theorem order_lifted (os : Os) (started : os.Started) (H : Type) (enc : TypeId × Value -> H) (F : Stop.Interp) :
  ReturnsInHanded {} Tryz.checked os 7 .any ((OpenSpec.ofChange Rows.typesOrderSpec).preRow enc Tryz.prog Tryz.f7 Rows.typesOrderRow.domain false Rows.typesOrderRow.laid) (((OpenSpec.ofChange Rows.typesOrderSpec).at F).post enc Tryz.prog Tryz.f7 false true false false) := by
 refine returnsInHanded_of_row (C := Tryz.checked) (s := OpenSpec.ofChange Rows.typesOrderSpec) Tryz.ownKn started (by kernel_rfl) Tryz.func7
  (witness_row_at (enc := enc) (C := Tryz.checked) false (laidOf (World.holding Tryz.prog os ⟨#[], #[], []⟩)) #[.agg #[.int .i64 0, .string ⟨#[]⟩, .slice none 0 0, .slice none 0 0], .slice none 0 0, .slice none 0 0] rfl (by kernel_rfl) (by kernel_rfl) (by kernel_rfl)
   (OpenSpec.preRow_of_B rfl 8 (by kernel_rfl) (by kernel_rfl) (laidWorld_met os _))) ?_
 intro W base args ds gs before hval0 hW _ _ hwt _ hsh _
 have hval : ∀ (j : Nat) t v, Tryz.f7.params[j]? = some t -> args[j]? = some v -> Value.okWide Tryz.prog W .any base t v := hval0
 have hW' := hW
 obtain ⟨p, q, hA0, hV, rfl, hfz, hnd⟩ := hW
 have hA : DataW.TrodAll enc Tryz.prog W 0 (fun _ => true) true Tryz.f7.params.toList args.toList ds p := hA0
 rw [Tryz.params7] at hA hval
 obtain ⟨v0, vs0, d0, ds0, p0, q0, hargs, rfl, rfl, h0, r0⟩ := trodAll_cons hA
 obtain ⟨v1, vs1, d1, ds1, p1, q1, rfl, rfl, rfl, h1, r1⟩ := trodAll_cons r0
 obtain ⟨v2, vs2, d2, ds2, p2, q2, rfl, rfl, rfl, h2, r2⟩ := trodAll_cons r1
 obtain ⟨rfl, rfl, rfl⟩ := trodAll_nil r2
 obtain rfl : args = #[v0, v1, v2] := by cases args; simp_all
 obtain ⟨rfl, rfl⟩ := trodVars_none hV
 have hw0 : ∀ n ∈ DataW.weightsEach Tryz.prog (Tryz.f7.params.toList ++ (OpenSpec.ofChange Rows.typesOrderSpec).bare.plain.varTypes Tryz.prog) ([d0, d1, d2] ++ []), n <= reachBytes := by
  intro n hn
  have := List.all_eq_true.1 hwt n hn
  simpa using this
 have g0 : Rch 25 d0 := fun n hn => hw0 n (DataW.weights_mem_each (j := 0) (t := 25) (by rw [Tryz.params7]; rfl) rfl n hn)
 obtain ⟨n0, cs0, t0, rfl, ht0⟩ := open_rty (K := reachK W.heap.size) gd_rch (Nat.le_refl _) (hval 0 25 v0 rfl rfl) h0 g0
 have hlt0 : ∀ x ∈ p0, x.block < W.heap.size := fun x hx => hW'.lt x (by simp [hx])
 have g1 : Rch 22 d1 := fun n hn => hw0 n (DataW.weights_mem_each (j := 1) (t := 22) (by rw [Tryz.params7]; rfl) rfl n hn)
 obtain ⟨l1, hl1⟩ := open_nms (K := reachK W.heap.size) gd_rch (Nat.le_refl _) (hval 1 22 v1 rfl rfl) h1 g1
 have hlt1 : ∀ x ∈ p1, x.block < W.heap.size := fun x hx => hW'.lt x (by simp [hx])
 have g2 : Rch 22 d2 := fun n hn => hw0 n (DataW.weights_mem_each (j := 2) (t := 22) (by rw [Tryz.params7]; rfl) rfl n hn)
 obtain ⟨l2, hl2⟩ := open_nms (K := reachK W.heap.size) gd_rch (Nat.le_refl _) (hval 2 22 v2 rfl rfl) h2 g2
 have hlt2 : ∀ x ∈ p2, x.block < W.heap.size := fun x hx => hW'.lt x (by simp [hx])
 obtain ⟨m, hml⟩ := maxLen_cell hsh
 have hG : Glo W := ⟨World.block_lt_of_cell? W _ hml, m, hml⟩
 have hwalk : Calls Tryz.prog 7 #[.agg cs0.toArray, v1, v2] W fun ev w' => ev = .returned (.bool true) /\ Below W.heap.size W w' := order_walk (K := reachK W.heap.size) hG (show 100 <= reachBytes by decide) (Nat.le_refl _) ht0 hl1 hl2
 refine hwalk.mono fun e W' ⟨he, hB⟩ => ?_
 subst he
 refine ⟨_, rfl, _, _, _, [], p0 ++ (p1 ++ (p2 ++ [])), [], hW', ?_, ?_, ?_, hB.frame _, fun h => by cases h⟩
 ·exact trodAll_cons_mk (shut_bool Tryz.underlying4 _) trodAll_mk0
 ·exact trodAll_cons_mk (Below.trod Tryz.laidAll (by kernel_rfl) (of_decide_eq_true (by kernel_rfl)) h0 hB hlt0) (trodAll_cons_mk (Below.trod Tryz.laidAll (by kernel_rfl) (of_decide_eq_true (by kernel_rfl)) h1 hB hlt1) (trodAll_cons_mk (Below.trod Tryz.laidAll (by kernel_rfl) (of_decide_eq_true (by kernel_rfl)) h2 hB hlt2) trodAll_mk0))
 ·rfl
theorem order_said : Rows.TypesOrderSaid :=
 OpenClaim.holds_of_cond 7 Tryz.f7 rfl rfl rfl rfl rfl rfl rfl ⟨rfl, rfl, rfl, rfl, rfl⟩ rfl rfl rfl rfl rfl (by kernel_rfl) Tryz.func7 (by kernel_rfl)
  (of_decide_eq_true (by kernel_rfl)) (by unfold Func.isWrapper; rw [if_neg (of_decide_eq_false (by kernel_rfl))]; exact ⟨rfl, rfl⟩)
  (fun os started H enc _ F => by rw [OpenClaim.pre_eq_preRow]; exact order_lifted os started H enc F)
theorem order_plain (f : FuncId) (fn : Func) (hf : Tryz.pinned.checked.prog.funcNamed Tryz.f7.name = some f) (hfn : Tryz.pinned.checked.prog.funcs[f]? = some fn) :
  true = Tryz.pinned.checked.prog.looks [] /\ ∀ (j : Nat) t, fn.params[j]? = some t -> Tryz.pinned.checked.prog.wantsStandIn t = false := by
 obtain rfl : f = 7 := Option.some.inj ((show Tryz.prog.funcNamed Tryz.f7.name = some 7 by kernel_rfl).symm.trans hf) |>.symm
 obtain rfl : fn = Tryz.f7 := (Option.some.inj (Tryz.func7.symm.trans hfn)).symm
 refine ⟨by kernel_rfl, fun j t ht => ?_⟩
 rw [Tryz.params7] at ht
 have h3 : t = 22 ∨ t = 25 := by
  rcases j with _ | _ | _ | j
  ·exact (.inr (by simpa using ht.symm))
  ·exact (.inl (by simpa using ht.symm))
  ·exact (.inl (by simpa using ht.symm))
  ·simp at ht
 rcases h3 with rfl | rfl
 ·exact (show Tryz.prog.wantsStandIn 22 = false by kernel_rfl)
 ·exact (show Tryz.prog.wantsStandIn 25 = false by kernel_rfl)
theorem order_card : Rows.TypesOrderCardSaid :=
 Claim7.holds_tied_plain_at .later [] _ _ _ _ order_said (fun _ h => by cases h) (by kernel_rfl) (fun _ h => by cases h) typesOrder_row_tie rfl ⟨rfl, rfl⟩ (by kernel_rfl) rfl order_plain (by kernel_rfl)
end Go.Proofs.YtldbbkheemnnhaaGreatDoor
