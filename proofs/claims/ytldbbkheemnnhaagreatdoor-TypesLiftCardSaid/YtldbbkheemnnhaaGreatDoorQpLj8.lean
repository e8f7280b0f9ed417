/-
  types.lift: the walk.
-/
import Derived.Test.YtldbbkheemnnhaaGreatDoorJpLg82
namespace Go.Proofs.YtldbbkheemnnhaaGreatDoor
open Go.RowKit Go.Maps
theorem region_cut {P : Program} {c : Code} {Q : Exit -> Act -> World -> Prop} {a : Act} {w : World} {A : Nat -> Act} {F : Nat -> World -> Prop} (h : c.wp P (fun e a' w' => ∃ g, e = .normal /\ a' = A g /\ F g w') a w) (k : ∀ g w', F g w' -> Q .normal (A g) w') : c.wp P Q a w :=
 Code.wp_mono (by rintro e a' w' ⟨g, rfl, rfl, hf⟩; exact k g w' hf) h
set_option maxHeartbeats 32000000 in
set_option maxRecDepth 20000 in
theorem lift43 {K : Ctx} {Q : Nat -> Prop} {B : Nat} {gl gs b c gm : Nat} {L : List Sct} {lives : List Bs} (hBB : B <= 1048576) (hKg : K.C <= gl) (hL9 : ∀ x ∈ L, x.lives.length <= 1000) : ∀ (n : Nat) {kq : Nat} {w : World} {cs : List Value} {t : Ty} {nx : Int}, Lif Q B w gl gs b c gm L lives nx -> TyAt n K w cs t -> FitT kq t -> -9223372036854775808 <= nx -> nx + 1000 * (kq : Int) <= 4611686018427387904 ->
  Calls Tryz.prog 43 #[.pointer (some ⟨gl, 0, none⟩), .agg cs.toArray] w fun ev w' => ∃ d, ev = .returned (.agg d.toArray) /\ Stay (fun k => k = gl) w w' /\ Lif Q B w' gl gs b c gm L lives (liftN L lives kq t nx).2 /\ RtQ kq (Fr w w') K.B w' d (liftN L lives kq t nx).1
 | 0, _, _, _, _, _, _, h, _, _, _ => h.elim
 | n + 1, kq0, w, cs, t, nx, hli, ht, hf, hn1, hn2 => by
  obtain ⟨kq, rfl⟩ : ∃ j, kq0 = j + 1 := by
   cases kq0 with
   | zero => exact hf.elim
   | succ j => exact ⟨j, rfl⟩
  have hgl := hidP hli.row.lt
  have IH := hidP (fun (y : World) (hy : Stay (fun k => k = gl) w y) (nx' : Int) (hl : Lif Q B y gl gs b c gm L lives nx') (cs : List Value) (e : Ty) (he : TyAt n K y cs e) (hf : FitT kq e) (h1 : -9223372036854775808 <= nx') (h2 : nx' + 1000 * (kq : Int) <= 4611686018427387904) => lift43 hBB hKg hL9 n hl he hf h1 h2)
  have LI := hidP hli
  obtain ⟨hf1, hf3⟩ := hf
  have HF3 := hidP hf3
  obtain ⟨v2, v3, rfl, hB, h2, h3⟩ := ht
  obtain ⟨a2, p2, rfl⟩ := Ar.form h2
  obtain ⟨a3, p3, rfl⟩ := Ar.form h3
  have H2 := hidP h2
  have H3 := hidP h3
  have hsm := K.small
  have CL := hidP (cloneO t.name (by omega))
  have HBN := hidP hB
  have HLN := hidP (show livN L t.name <= 1000 by
   unfold livN
   rcases hf : L.find? (fun x => x.name == t.name) with _ | x
   ·rw [hf]; exact Nat.zero_le _
   ·rw [hf]; exact hL9 x (List.mem_of_find?_eq_some hf))
  have HNN := hidP (show t.name.length <= 140737488355328 by omega)
  clear hli h2 h3 hf3 hB
  have hkn : 1 <= (kq : Int) + 1 := by omega
  have hn3 : nx <= 4611686018427386904 := by omega
  generalize hnl : t.lives.length = nl at *
  have HNL := hidP hnl
  clear hnl
  generalize hne : t.elem.length = ne at *
  have HNE := hidP hne
  clear hne
  generalize hsn : str t.name = SN at *
  have HSN := hidP hsn
  clear hsn
  generalize hkd : t.kind = kd at *
  have HKD := hidP hkd
  clear hkd
  have HA := hidP (alloc_two w (.cells #[.int .i64 kd, .string SN, .slice a2 nl p2, .slice a3 ne p3] 36) (.cells z25.toArray 25))
  have R2 := hidP ((Row.new w 36 [.int .i64 kd, .string SN, .slice a2 nl p2, .slice a3 ne p3]).alloc (.cells z25.toArray 25))
  have R4 := hidP (Row.new (w.alloc (.cells #[.int .i64 kd, .string SN, .slice a2 nl p2, .slice a3 ne p3] 36)) 25 z25)
  have HZ := hidP (size_two w (.cells #[.int .i64 kd, .string SN, .slice a2 nl p2, .slice a3 ne p3] 36) (.cells z25.toArray 25))
  rw [size_alloc] at R4
  go_enter Tryz.func43, Tryz.ntmps43
  go_wp2_with fail
  generalize hW : (w.alloc (.cells #[.int .i64 kd, .string SN, .slice a2 nl p2, .slice a3 ne p3] 36)).alloc (.cells z25.toArray 25) = W at R2 R4 HA HZ
  have HW := hidP hW
  clear hW
  first
   | rw [HW.out]
   | rw [show (w.alloc (.cells #[.int .i64 kd, .string SN, .slice a2 nl p2, .slice a3 ne p3] 36)).alloc (.cells #[.int .i64 0, .string ⟨#[]⟩, .slice none 0 0, .slice none 0 0] 25) = W from HW.out]
  clear HW
  refine region_cut (A := ?_) (F := fun g w' => W.heap.size <= g /\ Below W.heap.size W w' /\ Row w' g 25 [.int .i64 kd, .string SN, .slice none 0 0, .slice none 0 0]) ?_ ?_
  rotate_left
  ·have hS0 : Row W.drew w.heap.size 36 [.int .i64 kd, .string SN, .slice a2 nl p2, .slice a3 ne p3] := R2.out.drew
   have HWD := hidP (show Below W.heap.size W W.drew from (Below.refl _ _).drew)
   refine beginL (fun y => Row y w.heap.size 36 [.int .i64 kd, .string SN, .slice a2 nl p2, .slice a3 ne p3]) 8 (by kernel_rfl) hS0 (fun hSS => ?_)
   refine takeL 0 (v := ?_) rfl (some 8) rfl (by decide) (by kernel_rfl) (by kernel_rfl) (by kernel_rfl) (by kernel_rfl) (fun _ _ _ h => by obtain ⟨_, h, _⟩ := h; cases h) (Or.inl ⟨by rfl, ?_⟩) hSS ?_
   rotate_left
   ·(intro y hy; have hk0 := hy.cell 0; have hk1 := hy.cell 1; simp only [List.getElem?_cons_zero, List.getElem?_cons_succ] at hk0 hk1; go_simp; with_reducible rfl)
   try simp only [Act.put]
   try simp only [List.setIfInBounds_toArray]
   try simp only [List.set_cons_succ]
   try simp only [List.set_cons_zero]
   refine takeL 1 (v := ?_) rfl (some 9) rfl (by decide) (by kernel_rfl) (by kernel_rfl) (by kernel_rfl) (by kernel_rfl) (fun _ _ _ h => by obtain ⟨_, h, _⟩ := h; cases h) (Or.inl ⟨by rfl, ?_⟩) hSS ?_
   rotate_left
   ·(intro y hy; have hk0 := hy.cell 0; have hk1 := hy.cell 1; simp only [List.getElem?_cons_zero, List.getElem?_cons_succ] at hk0 hk1; go_simp; with_reducible rfl)
   try simp only [Act.put]
   try simp only [List.setIfInBounds_toArray]
   try simp only [List.set_cons_succ]
   try simp only [List.set_cons_zero]
   refine takeL 2 (v := ?_) rfl (some 10) rfl (by decide) (by kernel_rfl) (by kernel_rfl) (by kernel_rfl) (by kernel_rfl) (fun _ _ _ h => by obtain ⟨_, h, _⟩ := h; cases h) (Or.inl ⟨by rfl, ?_⟩) hSS ?_
   rotate_left
   ·(intro y hy; have hk0 := hy.cell 0; have hk1 := hy.cell 1; simp only [List.getElem?_cons_zero, List.getElem?_cons_succ] at hk0 hk1; go_simp; with_reducible rfl)
   try simp only [Act.put]
   try simp only [List.setIfInBounds_toArray]
   try simp only [List.set_cons_succ]
   try simp only [List.set_cons_zero]
   refine takeL 3 (v := ?_) rfl (some 11) rfl (by decide) (by kernel_rfl) (by kernel_rfl) (by kernel_rfl) (by kernel_rfl) (fun _ _ _ h => by obtain ⟨_, h, _⟩ := h; cases h) (Or.inl ⟨by rfl, ?_⟩) hSS ?_
   rotate_left
   ·(intro y hy; have hk0 := hy.cell 0; have hk1 := hy.cell 1; simp only [List.getElem?_cons_zero, List.getElem?_cons_succ] at hk0 hk1; go_simp; with_reducible rfl)
   try simp only [Act.put]
   try simp only [List.setIfInBounds_toArray]
   try simp only [List.set_cons_succ]
   try simp only [List.set_cons_zero]
   refine readyL (rs := [4, 6]) (by kernel_rfl) (by simp) ?_
   refine ReadyL.cons rfl (fun KK hK => ?_) (ReadyL.cons rfl (fun KK hK => ?_) ReadyL.nil)
   ·refine wantR (by rfl) ?_
    go_simp
    refine (CL.out _).mono ?_
    rintro _ w3 ⟨rfl, hb3⟩
    have hSS2 := hSS.below hb3 hSS.lt
    have HB3 := hidP (HWD.out.trans (below_le hb3 HWD.out.size))
    refine hK.out _ _ (fun _ => hSS2) (fun _ => ?_)
    clear hK KK hSS
    have hSS := hSS2
    clear hSS2
    clear hb3
    try simp only [Act.put]
    try simp only [List.setIfInBounds_toArray]
    try simp only [List.set_cons_succ]
    try simp only [List.set_cons_zero]
    refine takeL 5 (v := ?_) rfl (some 13) rfl (by decide) (by kernel_rfl) (by kernel_rfl) (by kernel_rfl) (by kernel_rfl) (fun _ _ _ h => by obtain ⟨_, h, _⟩ := h; cases h) (Or.inl ⟨by rfl, ?_⟩) hSS ?_
    rotate_left
    ·(intro y hy; have hk0 := hy.cell 0; have hk1 := hy.cell 1; simp only [List.getElem?_cons_zero, List.getElem?_cons_succ] at hk0 hk1; go_simp; with_reducible rfl)
    try simp only [Act.put]
    try simp only [List.setIfInBounds_toArray]
    try simp only [List.set_cons_succ]
    try simp only [List.set_cons_zero]
    refine readyL (rs := [6]) (by kernel_rfl) (by simp) ?_
    refine ReadyL.cons rfl (fun KK hK => ?_) ReadyL.nil
    refine wantR (by rfl) ?_
    refine wpo_al25 rfl ?_
    intro w4 R5 B4 Z4
    have hSS2 := hSS.below B4 hSS.lt
    have HB4 := hidP (HB3.out.trans (below_le B4 HB3.out.size))
    have hg5 := hidP (show W.heap.size <= w3.heap.size from HB3.out.size)
    replace R5 := hidP R5
    refine hK.out (Act.put _ (some 5) _) _ (fun _ => hSS2) (fun _ => ?_)
    clear hK KK hSS HB3 B4 Z4
    have hSS := hSS2
    clear hSS2
    generalize w3.heap.size = g5 at *
    try simp only [Act.put]
    try simp only [List.setIfInBounds_toArray]
    try simp only [List.set_cons_succ]
    try simp only [List.set_cons_zero]
    refine readyL (rs := [7]) (by kernel_rfl) (by simp) ?_
    refine ReadyL.cons rfl (fun KK hK => ?_) ReadyL.nil
    refine wantR (by rfl) ?_
    refine wpo_stR 25 (.tmp 5) (.tmp 13) rfl (cs := [.int .i64 kd, .string SN, .slice none 0 0, .slice none 0 0]) rfl rfl R5.out Tryz.sz25 rfl (ones_cons rfl (ones_cons rfl (ones_cons rfl (ones_cons rfl ones_nil)))) ?_
    intro w5 RO5 S5
    have hne5 : w.heap.size ≠ g5 := by have := hg5.out; have := HZ.out; omega
    have hSS2 := S5.row hSS hne5
    have HB5 := hidP (HB4.out.trans (S5.below (C := W.heap.size) HB4.out.size (fun q hq => by have : q = g5 := hq; have := hg5.out; omega)))
    refine hK.out (Act.put _ none _) _ (fun _ => hSS2) (fun _ => ?_)
    try simp only [Act.put]
    try simp only [List.setIfInBounds_toArray]
    refine doneL (by kernel_rfl) ?_ _
    refine ⟨g5, rfl, ?_, hg5.out, HB5.out, RO5⟩
    with_reducible rfl
   ·refine wantR (by rfl) ?_
    refine wpo_al25 rfl ?_
    intro wA RA BA ZA
    have hSS2 := hSS.below BA hSS.lt
    have HBA := hidP (HWD.out.trans (below_le BA HWD.out.size))
    have hg5 := hidP (show W.heap.size <= W.drew.heap.size from HWD.out.size)
    replace RA := hidP RA
    refine hK.out (Act.put _ (some 5) _) _ (fun _ => hSS2) (fun _ => ?_)
    clear hK KK hSS BA ZA
    have hSS := hSS2
    clear hSS2
    generalize hge : W.drew.heap.size = g5 at *
    clear hge
    try simp only [Act.put]
    try simp only [List.setIfInBounds_toArray]
    try simp only [List.set_cons_succ]
    try simp only [List.set_cons_zero]
    refine readyL (rs := [4]) (by kernel_rfl) (by simp) ?_
    refine ReadyL.cons rfl (fun KK hK => ?_) ReadyL.nil
    refine wantR (by rfl) ?_
    go_simp
    refine (CL.out _).mono ?_
    rintro _ w4 ⟨rfl, hb3⟩
    have hSS2 := hSS.below hb3 hSS.lt
    have HB4 := hidP (HBA.out.trans (below_le hb3 HBA.out.size))
    have R5 := hidP (RA.out.below hb3 RA.out.lt)
    refine hK.out _ _ (fun _ => hSS2) (fun _ => ?_)
    clear hK KK hSS
    have hSS := hSS2
    clear hSS2
    clear hb3 HBA RA
    try simp only [Act.put]
    try simp only [List.setIfInBounds_toArray]
    try simp only [List.set_cons_succ]
    try simp only [List.set_cons_zero]
    refine takeL 5 (v := ?_) rfl (some 13) rfl (by decide) (by kernel_rfl) (by kernel_rfl) (by kernel_rfl) (by kernel_rfl) (fun _ _ _ h => by obtain ⟨_, h, _⟩ := h; cases h) (Or.inl ⟨by rfl, ?_⟩) hSS ?_
    rotate_left
    ·(intro y hy; have hk0 := hy.cell 0; have hk1 := hy.cell 1; simp only [List.getElem?_cons_zero, List.getElem?_cons_succ] at hk0 hk1; go_simp; with_reducible rfl)
    try simp only [Act.put]
    try simp only [List.setIfInBounds_toArray]
    try simp only [List.set_cons_succ]
    try simp only [List.set_cons_zero]
    refine readyL (rs := [7]) (by kernel_rfl) (by simp) ?_
    refine ReadyL.cons rfl (fun KK hK => ?_) ReadyL.nil
    refine wantR (by rfl) ?_
    refine wpo_stR 25 (.tmp 5) (.tmp 13) rfl (cs := [.int .i64 kd, .string SN, .slice none 0 0, .slice none 0 0]) rfl rfl R5.out Tryz.sz25 rfl (ones_cons rfl (ones_cons rfl (ones_cons rfl (ones_cons rfl ones_nil)))) ?_
    intro w5 RO5 S5
    have hne5 : w.heap.size ≠ g5 := by have := hg5.out; have := HZ.out; omega
    have hSS2 := S5.row hSS hne5
    have HB5 := hidP (HB4.out.trans (S5.below (C := W.heap.size) HB4.out.size (fun q hq => by have : q = g5 := hq; have := hg5.out; omega)))
    refine hK.out (Act.put _ none _) _ (fun _ => hSS2) (fun _ => ?_)
    try simp only [Act.put]
    try simp only [List.setIfInBounds_toArray]
    refine doneL (by kernel_rfl) ?_ _
    refine ⟨g5, rfl, ?_, hg5.out, HB5.out, RO5⟩
    with_reducible rfl
  ·rintro g5 w5 ⟨hg5', HB5', RO5'⟩
   have hg5 := hidP (show w.heap.size + 2 <= g5 by have := HZ.out; omega)
   have HBW := hidP (HA.out.trans (below_le HB5' HA.out.size))
   have RI := hidP (R2.out.below HB5' (by have := HZ.out; omega))
   have RR := hidP (R4.out.below HB5' (by have := HZ.out; omega))
   have RO := hidP RO5'
   have hg6 := hidP RO5'.lt
   have LI5 := hidP (LI.out.past HBW.out)
   have KC5 := hidP (show Below K.C w w5 from below_le HBW.out (by have := hgl.out; omega))
   have ST5 := hidP (show Stay (fun k => k = gl) w w5 from Stay.of_below HBW.out)
   have HC5 := hidP (show K.C <= w5.heap.size by have := hgl.out; have := HBW.out.size; omega)
   have hz5 := hidP HBW.out.size
   have L5 := hidP (H2.out.below KC5.out)
   have y2 := RI.out.cell 2
   have y0 := RI.out.cell 0
   simp only [List.getElem?_cons_zero, List.getElem?_cons_succ] at y2 y0
   clear hg5' HB5' RO5' R2 R4 HA
   have HFC : Hid (∀ (wq : World) (v : Value) (l : List Int) (k : Nat), wq.ownsRow w5.heap.size 3 1 v k (iv l) -> k = l.length -> k <= 1000 -> ArQ 1 8 NmAt (Fr w5 wq) wq v l) := fun wq v l k h e hk => (own_gro (by rw [← e]; exact h)).done (bz := 8) moNm (by omega)
   rcases (show kd = 3 ∨ kd = 4 ∨ kd = 5 ∨ (kd ≠ 3 /\ kd ≠ 4 /\ kd ≠ 5) by omega) with rfl | rfl | rfl | ⟨h3, h4, h5⟩
   ·go_wp2_with fail
    refine (written70 LI5.out.row LI5.out.mp L5.out HC5.out (by have := HNL.out; omega)).mono ?_
    rintro _ w6 ⟨u, rfl, hb6, ho6⟩
    obtain ⟨au, pu, rfl⟩ := own_slice ho6
    have RO6 := hidP (RO.out.below hb6 hg6.out)
    have RI6 := hidP (RI.out.below hb6 RI.out.lt)
    have RR6 := hidP (RR.out.below hb6 RR.out.lt)
    have LI6 := hidP (LI5.out.past hb6)
    have ST6 := hidP (ST5.out.trans (Stay.of_below hb6))
    have HO6 := hidP ho6
    clear RO RI RR ho6 y2 y0
    go_wp2_with (first | (refine stC rfl 22 (.tmp 22) (.tmp 21) rfl rfl rfl RO6.out (svN RO6.out rfl _ _ _) ?_; intro w7 R7 S7; apply shut))
    show wpList _ _ _ _ _ _
    simp only [List.set_cons_zero, List.set_cons_succ] at R7
    have RO7 := hidP R7
    have RI7 := hidP (S7.row RI6.out (by have := hg5.out; omega))
    have RR7 := hidP (S7.row RR6.out (by have := hg5.out; omega))
    have LI7 := hidP (LI6.out.stay S7 (fun k e => by have : k = g5 := e; have := hg5.out; have := hgl.out; omega))
    have ST7 := hidP (ST6.out.step S7 (fun i hi e => absurd hi (by have : i = g5 := e; have := hg5.out; omega)))
    have SW7 := hidP (show Stay (fun k => k = g5) w6 w7 from S7)
    have hz7 := hidP (show w5.heap.size <= w7.heap.size from Nat.le_trans hb6.size S7.size)
    have y1 := RI7.out.cell 1
    have y2 := RI7.out.cell 2
    have y3 := RI7.out.cell 3
    simp only [List.getElem?_cons_zero, List.getElem?_cons_succ] at y1 y2 y3
    clear R7 S7 RO6 RI6 RR6 LI6 ST6 hb6
    have HDR := hidP (HFC.out w6 _ (t.lives.map (numL lives)) _ HO6.out (by rw [List.length_map]) (by have := HNL.out; omega))
    rw [HNL.out] at RO7 HDR
    try rw [HNL.out]
    have DR7 := hidP (show ArQ 1 8 NmAt (Fr w5 w7) w7 (.slice au nl pu) (t.lives.map (numL lives)) from HDR.out.mono (kp_stay SW7.out (fun k e => by have : k = g5 := e; have := hg6.out; omega) (Nat.le_refl _)) fun _ _ _ h => h)
    by_cases h0 : nl = 0
    ·subst h0
     have hle : t.lives = [] := List.length_eq_zero_iff.1 HNL.out
     have LQ := hidP (show liftN L lives (kq + 1) t nx = (⟨3, t.name, loL nx (livN L t.name), []⟩, nx + (livN L t.name : Int)) by
      rw [liftN, if_pos HKD.out, if_pos hle, HKD.out])
     clear HDR DR7 SW7 HO6
     go_wp2_with fail
     rw [← HSN.out]
     refine (livesOf72 LI7.out HNN.out hBB).mono ?_
     rintro _ wL ⟨rfl, hbL⟩
     rw [HSN.out]
     have ROL := hidP (RO7.out.below hbL RO7.out.lt)
     have RIL := hidP (RI7.out.below hbL RI7.out.lt)
     have RRL := hidP (RR7.out.below hbL RR7.out.lt)
     have LIL := hidP (LI7.out.past hbL)
     have STL := hidP (ST7.out.trans (Stay.of_below hbL))
     have hzL := hidP (Nat.le_trans hz7.out hbL.size)
     clear hbL RO7 RI7 RR7 LI7 ST7 y3 y1
     go_wp2_with fail
     refine (leftOut71 LIL.out.row HLN.out hn1 (by omega)).mono ?_
     rintro _ w8 ⟨u8, rfl, hst8, hro8, ho8⟩
     obtain ⟨a8, p8, rfl⟩ := own_slice ho8
     have RO8 := hidP (hst8.row ROL.out (by have := hg5.out; have := hgl.out; omega))
     have RI8 := hidP (hst8.row RIL.out (by have := hgl.out; omega))
     have RR8 := hidP (hst8.row RRL.out (by have := hgl.out; omega))
     have LI8 := hidP (LIL.out.next hst8 hro8)
     have ST8 := hidP (STL.out.trans hst8)
     have HO8 := hidP ho8
     have hz8 := hidP (Nat.le_trans hzL.out hst8.size)
     clear hst8 hro8 ho8 ROL RIL RRL LIL STL y2
     go_wp2_with (first | (refine stC rfl 22 (.tmp 33) (.tmp 32) rfl rfl rfl RO8.out (svN RO8.out rfl _ _ _) ?_; intro w9 R9 S9; apply shut))
     show wpList _ _ _ _ _ _
     simp only [List.set_cons_zero, List.set_cons_succ] at R9
     have RO9 := hidP R9
     have RI9 := hidP (S9.row RI8.out (by have := hg5.out; omega))
     have RR9 := hidP (S9.row RR8.out (by have := hg5.out; omega))
     have LI9 := hidP (LI8.out.stay S9 (fun k e => by have : k = g5 := e; have := hg5.out; have := hgl.out; omega))
     have ST9 := hidP (ST8.out.step S9 (fun i hi e => absurd hi (by have : i = g5 := e; have := hg5.out; omega)))
     have hz9 := hidP (Nat.le_trans hz8.out S9.size)
     have DR9 := hidP (show ArQ 1 8 NmAt (Fr w5 w9) w9 (.slice a8 (livN L t.name) p8) (loL nx (livN L t.name)) from (HFC.out w8 _ _ _ (own_base HO8.out hzL.out) (loL_len _ _).symm HLN.out).mono (kp_stay S9 (fun k e => by have : k = g5 := e; have := hg6.out; omega) (Nat.le_refl _)) fun _ _ _ h => h)
     have DE9 := hidP (show ArQ 4 72 (RtQ kq (Fr w5 w9) K.B w9) (Fr w5 w9) w9 (.slice none 0 0) ([] : List RTy) from nil_arQ)
     clear R9 S9 RO8 RI8 RR8 LI8 ST8 HO8
     go_wp2_with (first | (refine ldR rfl 25 (.tmp 5) rfl rfl RO9.out Tryz.underlying25 rfl Tryz.sz25 ?_) | (refine stR rfl 25 (.tmp 4) (.tmp 67) rfl (cs := [.int .i64 3, .string SN, .slice a8 (livN L t.name) p8, .slice none 0 0]) rfl rfl RR9.out Tryz.sz25 rfl (ones_cons rfl (ones_cons rfl (ones_cons rfl (ones_cons rfl ones_nil)))) ?_; intro wF RF SF; apply shut))
     show wpList _ _ _ _ _ _
     have STF := hidP (ST9.out.step SF (fun i hi e => absurd hi (by have : i = w.heap.size + 1 := e; omega)))
     have LIF := hidP (LI9.out.stay SF (fun k e => by have : k = w.heap.size + 1 := e; have := hgl.out; omega))
     have hlF : ∀ k, k = w.heap.size + 1 -> k < w5.heap.size := fun k e => by have := hg5.out; have := hg6.out; omega
     have KF := hidP (show Kp (Fr w5 w9) (Fr w wF) w9 wF from kp_stay SF (fun k e => hlF k e) hz5.out)
     have DA := hidP (show ArQ 1 8 NmAt (Fr w wF) wF (.slice a8 (livN L t.name) p8) (loL nx (livN L t.name)) from DR9.out.mono KF.out fun _ _ _ h => h)
     have DB := hidP (show ArQ 4 72 (RtQ kq (Fr w wF) K.B wF) (Fr w wF) wF (.slice none 0 0) ([]) from DE9.out.mono KF.out fun _ _ _ h => RtQ.mono KF.out h)
     replace RF := hidP RF
     clear SF KF RO9 RR9 ST9 LI9 DR9 DE9 hlF
     go_wp2_with fail
     exact bodyPost_ret (v := .agg #[.int .i64 3, .string SN, .slice a8 (livN L t.name) p8, .slice none 0 0]) (results_cell_row Tryz.results43 _ _ (w.heap.size + 1) 25 _ (0, 0) _ rfl RF.out.heap Tryz.underlying25 rfl (by kernel_rfl)) rfl ⟨[.int .i64 3, .string SN, .slice a8 (livN L t.name) p8, .slice none 0 0], rfl, STF.out, by rw [LQ.out]; exact LIF.out, by
      rw [LQ.out]
      exact ⟨_, _, by rw [HSN.out], HBN.out, DA.out, DB.out⟩⟩
    ·have hle : t.lives ≠ [] := fun e => h0 (by rw [← HNL.out, e]; rfl)
     have LQ := hidP (show liftN L lives (kq + 1) t nx = (⟨3, t.name, t.lives.map (numL lives), []⟩, nx) by
      rw [liftN, if_pos HKD.out, if_neg hle, HKD.out])
     have e0 : ((nl : Int) == 0) = false := by simp; omega
     have DE7 := hidP (show ArQ 4 72 (RtQ kq (Fr w5 w7) K.B w7) (Fr w5 w7) w7 (.slice none 0 0) ([] : List RTy) from nil_arQ)
     clear HDR SW7 HO6 y3 y1
     go_wp2_with (first | (refine ldR rfl 25 (.tmp 5) rfl rfl RO7.out Tryz.underlying25 rfl Tryz.sz25 ?_) | (refine stR rfl 25 (.tmp 4) (.tmp 67) rfl (cs := [.int .i64 3, .string SN, .slice au nl pu, .slice none 0 0]) rfl rfl RR7.out Tryz.sz25 rfl (ones_cons rfl (ones_cons rfl (ones_cons rfl (ones_cons rfl ones_nil)))) ?_; intro wF RF SF; apply shut))
     show wpList _ _ _ _ _ _
     have STF := hidP (ST7.out.step SF (fun i hi e => absurd hi (by have : i = w.heap.size + 1 := e; omega)))
     have LIF := hidP (LI7.out.stay SF (fun k e => by have : k = w.heap.size + 1 := e; have := hgl.out; omega))
     have hlF : ∀ k, k = w.heap.size + 1 -> k < w5.heap.size := fun k e => by have := hg5.out; have := hg6.out; omega
     have KF := hidP (show Kp (Fr w5 w7) (Fr w wF) w7 wF from kp_stay SF (fun k e => hlF k e) hz5.out)
     have DA := hidP (show ArQ 1 8 NmAt (Fr w wF) wF (.slice au nl pu) (t.lives.map (numL lives)) from DR7.out.mono KF.out fun _ _ _ h => h)
     have DB := hidP (show ArQ 4 72 (RtQ kq (Fr w wF) K.B wF) (Fr w wF) wF (.slice none 0 0) ([]) from DE7.out.mono KF.out fun _ _ _ h => RtQ.mono KF.out h)
     replace RF := hidP RF
     clear SF KF RO7 RR7 ST7 LI7 DR7 DE7 hlF
     go_wp2_with fail
     exact bodyPost_ret (v := .agg #[.int .i64 3, .string SN, .slice au nl pu, .slice none 0 0]) (results_cell_row Tryz.results43 _ _ (w.heap.size + 1) 25 _ (0, 0) _ rfl RF.out.heap Tryz.underlying25 rfl (by kernel_rfl)) rfl ⟨[.int .i64 3, .string SN, .slice au nl pu, .slice none 0 0], rfl, STF.out, by rw [LQ.out]; exact LIF.out, by
      rw [LQ.out]
      exact ⟨_, _, by rw [HSN.out], HBN.out, DA.out, DB.out⟩⟩
   ·by_cases h0 : nl = 0
    ·subst h0
     have hle : t.lives = [] := List.length_eq_zero_iff.1 HNL.out
     have HLQ := hidP (fun e es (he : t.elem = e :: es) => show liftN L lives (kq + 1) t nx = (⟨4, t.name, [nx], [(liftN L lives kq e (nx + 1)).1]⟩, (liftN L lives kq e (nx + 1)).2) by
      rw [liftN, if_neg (by rw [HKD.out]; decide), if_pos (by rw [HKD.out]; exact .inl rfl), he]
      simp only [if_pos hle]
      rw [HKD.out])
     have HLZ := hidP (fun (he : t.elem = []) => show liftN L lives (kq + 1) t nx = (⟨4, t.name, [nx], []⟩, nx + 1) by
      rw [liftN, if_neg (by rw [HKD.out]; decide), if_pos (by rw [HKD.out]; exact .inl rfl), he]
      simp only [if_pos hle]
      rw [HKD.out])
     go_wp2_with fail
     refine (first73 L5.out).mono ?_
     rintro _ wz ⟨u73, rfl, hwz, hu73⟩
     rw [hwz]
     clear hwz
     generalize hq1 : t.lives.take 1 = l1 at hu73
     have HQ1 := hidP hq1
     have hl1 : l1.length = 0 := by rw [← hq1, List.length_take, HNL.out]; omega
     have L1 := hidP hu73
     obtain ⟨a73, p73, e73⟩ := Ar.form hu73
     rw [hl1] at e73
     subst e73
     have HL1 := hidP hl1
     clear hu73 hq1 hl1
     go_wp2_with fail
     refine (written70 LI5.out.row LI5.out.mp L1.out HC5.out (by have := HL1.out; omega)).mono ?_
     rintro _ w6 ⟨u, rfl, hb6, ho6⟩
     rw [HL1.out] at ho6
     obtain ⟨au, pu, rfl⟩ := own_slice ho6
     have RO6 := hidP (RO.out.below hb6 hg6.out)
     have RI6 := hidP (RI.out.below hb6 RI.out.lt)
     have RR6 := hidP (RR.out.below hb6 RR.out.lt)
     have LI6 := hidP (LI5.out.past hb6)
     have ST6 := hidP (ST5.out.trans (Stay.of_below hb6))
     have HO6 := hidP ho6
     clear RO RI RR ho6 y2 y0
     go_wp2_with (first | (refine stC rfl 22 (.tmp 42) (.tmp 41) rfl rfl rfl RO6.out (svN RO6.out rfl _ _ _) ?_; intro w7 R7 S7; apply shut))
     show wpList _ _ _ _ _ _
     simp only [List.set_cons_zero, List.set_cons_succ] at R7
     have RO7 := hidP R7
     have RI7 := hidP (S7.row RI6.out (by have := hg5.out; omega))
     have RR7 := hidP (S7.row RR6.out (by have := hg5.out; omega))
     have LI7 := hidP (LI6.out.stay S7 (fun k e => by have : k = g5 := e; have := hg5.out; have := hgl.out; omega))
     have ST7 := hidP (ST6.out.step S7 (fun i hi e => absurd hi (by have : i = g5 := e; have := hg5.out; omega)))
     have SW7 := hidP (show Stay (fun k => k = g5) w6 w7 from S7)
     have hz7 := hidP (show w5.heap.size <= w7.heap.size from Nat.le_trans hb6.size S7.size)
     have y1 := RI7.out.cell 1
     have y2 := RI7.out.cell 2
     have y3 := RI7.out.cell 3
     simp only [List.getElem?_cons_zero, List.getElem?_cons_succ] at y1 y2 y3
     clear R7 S7 RO6 RI6 RR6 LI6 ST6 hb6
     have HDR := hidP (HFC.out w6 _ (l1.map (numL lives)) _ HO6.out (by rw [List.length_map, HL1.out]) (by decide))
     have SK := hidP (kp_stay (w0 := w5) SW7.out (fun k e => by have : k = g5 := e; have := hg6.out; omega) (Nat.le_refl _))
     clear HO6 SW7
     clear HDR SK
     go_wp2_with fail
     refine Calls.mono (show Calls Tryz.prog 71 #[.pointer (some ⟨gl, 0, none⟩), .int .i64 ((1 : Nat) : Int)] w7 _ from leftOut71 LI7.out.row (by decide) hn1 (by omega)) ?_
     rintro _ w8 ⟨u8, rfl, hst8, hro8, ho8⟩
     obtain ⟨a8, p8, rfl⟩ := own_slice ho8
     have RO8 := hidP (hst8.row RO7.out (by have := hg5.out; have := hgl.out; omega))
     have RI8 := hidP (hst8.row RI7.out (by have := hgl.out; omega))
     have RR8 := hidP (hst8.row RR7.out (by have := hgl.out; omega))
     have LI8 := hidP (LI7.out.next hst8 hro8)
     have ST8 := hidP (ST7.out.trans hst8)
     have HO8 := hidP ho8
     have hz8 := hidP (Nat.le_trans hz7.out hst8.size)
     clear hst8 hro8 ho8 RO7 RI7 RR7 LI7 ST7 y2
     go_wp2_with (first | (refine stC rfl 22 (.tmp 49) (.tmp 48) rfl rfl rfl RO8.out (svN RO8.out rfl _ _ _) ?_; intro w9 R9 S9; apply shut))
     show wpList _ _ _ _ _ _
     simp only [List.set_cons_zero, List.set_cons_succ] at R9
     have RO9 := hidP R9
     have RI9 := hidP (S9.row RI8.out (by have := hg5.out; omega))
     have RR9 := hidP (S9.row RR8.out (by have := hg5.out; omega))
     have LI9 := hidP (LI8.out.stay S9 (fun k e => by have : k = g5 := e; have := hg5.out; have := hgl.out; omega))
     have ST9 := hidP (ST8.out.step S9 (fun i hi e => absurd hi (by have : i = g5 := e; have := hg5.out; omega)))
     have hz9 := hidP (Nat.le_trans hz8.out S9.size)
     have DR9 := hidP (show ArQ 1 8 NmAt (Fr w5 w9) w9 (.slice a8 1 p8) [nx] from (HFC.out w8 _ [nx] _ (by
      have h1 := own_base HO8.out hz7.out
      rw [show loL nx 1 = [nx] by simp [loL]] at h1
      exact h1) rfl (by simp)).mono (kp_stay S9 (fun k e => by have : k = g5 := e; have := hg6.out; omega) (Nat.le_refl _)) fun _ _ _ h => h)
     clear R9 S9 RO8 RI8 RR8 ST8 HO8 LI8
     have E9 := hidP (H3.out.mono (ST9.out.below (C := K.C) (by have := hgl.out; omega) (fun k e => by have : k = gl := e; omega)) (fun _ _ _ h => h.below (ST9.out.below (C := K.C) (by have := hgl.out; omega) (fun k e => by have : k = gl := e; omega))))
     have y3b := RI9.out.cell 3
     simp only [List.getElem?_cons_zero, List.getElem?_cons_succ] at y3b
     try clear y3
     try clear y1
     go_wp2_with fail
     try clear y2
     refine (first74 E9.out).mono ?_
     rintro _ wz2 ⟨u74, rfl, hwz, hu74⟩
     rw [hwz]
     clear hwz
     clear E9 y3b
     rcases hel : t.elem with _ | ⟨e, es⟩
     ·have LQ := hidP (HLZ.out hel)
      rw [hel] at hu74
      obtain ⟨a74, p74, e74⟩ := Ar.form hu74
      have e74' : u74 = .slice a74 0 p74 := e74
      subst e74'
      clear hu74 e74 hel HLQ HLZ
      go_wp2_with fail
      go_loopg [54] 0 (fun k v54 wr => v54 = .int .i64 0 /\ wr = w9)
      case atStart => exact ⟨rfl, rfl⟩
      case round =>
       obtain ⟨rfl, hwr⟩ := hrel
       rw [hwr]
       clear hwr
       have DE9 := hidP (show ArQ 4 72 (RtQ kq (Fr w5 w9) K.B w9) (Fr w5 w9) w9 (.slice none 0 0) ([] : List RTy) from nil_arQ)
       go_wp2_with (first | (refine ldR rfl 25 (.tmp 5) rfl rfl RO9.out Tryz.underlying25 rfl Tryz.sz25 ?_) | (refine stR rfl 25 (.tmp 4) (.tmp 67) rfl (cs := [.int .i64 4, .string SN, .slice a8 1 p8, .slice none 0 0]) rfl rfl RR9.out Tryz.sz25 rfl (ones_cons rfl (ones_cons rfl (ones_cons rfl (ones_cons rfl ones_nil)))) ?_; intro wF RF SF; apply shut))
       show wpList _ _ _ _ _ _
       have STF := hidP (ST9.out.step SF (fun i hi e => absurd hi (by have : i = w.heap.size + 1 := e; omega)))
       have LIF := hidP (LI9.out.stay SF (fun k e => by have : k = w.heap.size + 1 := e; have := hgl.out; omega))
       have hlF : ∀ k, k = w.heap.size + 1 -> k < w5.heap.size := fun k e => by have := hg5.out; have := hg6.out; omega
       have KF := hidP (show Kp (Fr w5 w9) (Fr w wF) w9 wF from kp_stay SF (fun k e => hlF k e) hz5.out)
       have DA := hidP (show ArQ 1 8 NmAt (Fr w wF) wF (.slice a8 1 p8) ([nx]) from DR9.out.mono KF.out fun _ _ _ h => h)
       have DB := hidP (show ArQ 4 72 (RtQ kq (Fr w wF) K.B wF) (Fr w wF) wF (.slice none 0 0) ([]) from DE9.out.mono KF.out fun _ _ _ h => RtQ.mono KF.out h)
       replace RF := hidP RF
       clear SF KF RO9 RR9 ST9 LI9 DR9 DE9 hlF
       go_wp2_with fail
       exact bodyPost_ret (v := .agg #[.int .i64 4, .string SN, .slice a8 1 p8, .slice none 0 0]) (results_cell_row Tryz.results43 _ _ (w.heap.size + 1) 25 _ (0, 0) _ rfl RF.out.heap Tryz.underlying25 rfl (by kernel_rfl)) rfl ⟨[.int .i64 4, .string SN, .slice a8 1 p8, .slice none 0 0], rfl, STF.out, by rw [LQ.out]; exact LIF.out, by
        rw [LQ.out]
        exact ⟨_, _, by rw [HSN.out], HBN.out, DA.out, DB.out⟩⟩
     ·have LQ := hidP (HLQ.out e es hel)
      have HFe := hidP (HF3.out e (by rw [hel]; rfl))
      rw [hel] at hu74
      obtain ⟨a74, p74, e74⟩ := Ar.form hu74
      have e74' : u74 = .slice a74 1 p74 := e74
      subst e74'
      obtain ⟨b1, o1, rfl, hb1, c1, hl1, hr1, hp1⟩ := Ar.head1 (l := []) (show Ar 4 72 (TyAt n K w9) K w9 (.slice a74 1 p74) [e] from hu74)
      clear hu74 e74 HLZ HLQ
      have l4 := hp1.len
      obtain ⟨ca, cb, cc, cd, rfl⟩ : ∃ d0 d1 d2 d3, c1 = [d0, d1, d2, d3] := by
       match c1, l4 with
       | [d0, d1, d2, d3], _ => exact ⟨_, _, _, _, rfl⟩
      have HP1 := hidP hp1
      have HR1 := hidP hr1
      have n1 := hidP (show (#[ca, cb, cc, cd] : Array Value).all (·.oneCell') = true from one_mem hp1.one)
      have hCE := hidP (show K.C <= w9.heap.size by have := hgl.out; have := ST9.out.size; omega)
      clear hp1 hr1 hl1 l4 hb1
      go_wp2_with fail
      go_loopg [54] 1 (fun k v54 wr => (k = 1 /\ v54 = .int .i64 0 /\ wr = w9) ∨ (k = 0 /\ v54 = .int .i64 1 /\ ∃ v, Row wr g5 25 [.int .i64 4, .string SN, .slice a8 1 p8, v] /\ Row wr (w.heap.size + 1) 25 z25 /\ Lif Q B wr gl gs b c gm L lives (liftN L lives kq e (nx + 1)).2 /\ Stay (fun k => k = gl) w wr /\ ArQ 1 8 NmAt (Fr w5 wr) wr (.slice a8 1 p8) ([nx]) /\ ArQ 4 72 (RtQ kq (Fr w5 wr) K.B wr) (Fr w5 wr) wr v [(liftN L lives kq e (nx + 1)).1]))
      case atStart => exact .inl ⟨rfl, rfl, rfl⟩
      case round =>
       rcases hrel with ⟨hk1, rfl, hwr⟩ | ⟨hk0, rfl, v, hv1, hv2, hv3, hv4, hv5, hv6⟩
       ·rw [hwr]
        have hk9 := hidP hk1
        clear hwr hk1
        go_wp2_with (first | (refine wpList_load_mid rfl 36 (.tmp 56) rfl b1 o1 rfl [ca, cb, cc, cd] _ HR1.out Tryz.underlying36 rfl Tryz.sz36 ?_) | (refine store_new rfl 36 (.tmp 7) (.tmp 57) rfl #[ca, cb, cc, cd] _ 36 rfl rfl Tryz.sz36 rfl n1.out ?_; apply shut))
        show wpList _ _ _ _ _ _
        have hB9 := alloc_one w9 (.cells #[ca, cb, cc, cd] 36)
        have R9q := hidP (Row.new w9 36 [ca, cb, cc, cd])
        have RW9 := hidP (RO9.out.below hB9 RO9.out.lt)
        have TX := hidP (show Stay (fun k => k = gl ∨ k = g5) w9 (w9.alloc (.cells #[ca, cb, cc, cd] 36)) from Stay.of_below hB9)
        have LIA := hidP (LI9.out.past hB9)
        have hltg := hidP RO9.out.lt
        have GR0 := hidP (show Gro 4 25 (PRt kq K.B) w9 (w9.alloc (.cells #[ca, cb, cc, cd] 36)) (.slice none 0 0) ([] : List RTy) from Gro.nil)
        have STA := hidP (ST9.out.trans (Stay.of_below hB9))
        have BKA := hidP (below_le hB9 hCE.out)
        have hzA := hidP hB9.size
        generalize hwA : w9.alloc (.cells #[ca, cb, cc, cd] 36) = wA at *
        clear hwA
        clear hB9
        generalize hg7 : w9.heap.size = g7 at R9q ⊢
        have HG7 := hidP hg7
        clear hg7
        go_wp2_with fail
        have hS1 : Row wA.drew g5 25 [.int .i64 4, .string SN, .slice a8 1 p8, .slice none 0 0] /\ Row wA.drew g7 36 [ca, cb, cc, cd] := ⟨RW9.out.drew, R9q.out.drew⟩
        have LID := hidP (LIA.out.stay (X := fun _ => False) ((Stay.refl (fun _ => False) wA).drew) (fun _ h => h.elim))
        have STD := hidP (STA.out.trans ((Stay.refl (fun k => k = gl) wA).drew))
        have TD := hidP (TX.out.trans ((Stay.refl (fun k => k = gl ∨ k = g5) wA).drew))
        have BKD := hidP (show Below K.C w9 wA.drew from BKA.out.drew)
        have ID := hidP (IH.out wA.drew STD.out (nx + 1) LID.out [ca, cb, cc, cd] e (HP1.out.below BKD.out) HFe.out (by omega) (by omega))
        have GD := hidP (GR0.out.stay (moRt kq K.B) ((Stay.refl (fun _ => False) wA).drew) (fun _ h => h.elim))
        have BES := hidP (fun (y : World) => (GD.out.beside (w := y) (show w9.heap.size <= wA.drew.heap.size from hzA.out) : Kp (Fr wA.drew y) (Qv w9 y (.slice none 0 0)) y y))
        have ZD := hidP (show w9.heap.size <= wA.drew.heap.size from hzA.out)
        clear RW9 R9q GR0 STA TX LIA BKA hzA LID STD BKD
        refine beginL (fun y => Row y g5 25 [.int .i64 4, .string SN, .slice a8 1 p8, .slice none 0 0] /\ Row y g7 36 [ca, cb, cc, cd]) 8 (by kernel_rfl) hS1 (fun hSS => ?_)
        refine takeL 0 (v := ?_) rfl (some 58) rfl (by decide) (by kernel_rfl) (by kernel_rfl) (by kernel_rfl) (by kernel_rfl) (fun _ _ _ h => h) (Or.inl ⟨by rfl, ?_⟩) hSS ?_
        rotate_left
        ·(intro y hy; have j3 := hy.1.cell 3; have q0 := hy.2.cell 0; have q1 := hy.2.cell 1; have q2 := hy.2.cell 2; have q3 := hy.2.cell 3; simp only [List.getElem?_cons_zero, List.getElem?_cons_succ] at j3 q0 q1 q2 q3; go_simp; with_reducible rfl)
        try simp only [Act.put]
        try simp only [List.setIfInBounds_toArray]
        try simp only [List.set_cons_succ]
        try simp only [List.set_cons_zero]
        refine takeL 1 (v := ?_) rfl (some 59) rfl (by decide) (by kernel_rfl) (by kernel_rfl) (by kernel_rfl) (by kernel_rfl) (fun _ _ _ h => h) (Or.inl ⟨by rfl, ?_⟩) hSS ?_
        rotate_left
        ·(intro y hy; have j3 := hy.1.cell 3; have q0 := hy.2.cell 0; have q1 := hy.2.cell 1; have q2 := hy.2.cell 2; have q3 := hy.2.cell 3; simp only [List.getElem?_cons_zero, List.getElem?_cons_succ] at j3 q0 q1 q2 q3; go_simp; with_reducible rfl)
        try simp only [Act.put]
        try simp only [List.setIfInBounds_toArray]
        try simp only [List.set_cons_succ]
        try simp only [List.set_cons_zero]
        refine takeL 2 (v := ?_) rfl (some 60) rfl (by decide) (by kernel_rfl) (by kernel_rfl) (by kernel_rfl) (by kernel_rfl) (fun _ _ _ h => h) (Or.inl ⟨by rfl, ?_⟩) hSS ?_
        rotate_left
        ·(intro y hy; have j3 := hy.1.cell 3; have q0 := hy.2.cell 0; have q1 := hy.2.cell 1; have q2 := hy.2.cell 2; have q3 := hy.2.cell 3; simp only [List.getElem?_cons_zero, List.getElem?_cons_succ] at j3 q0 q1 q2 q3; go_simp; with_reducible rfl)
        try simp only [Act.put]
        try simp only [List.setIfInBounds_toArray]
        try simp only [List.set_cons_succ]
        try simp only [List.set_cons_zero]
        refine takeL 3 (v := ?_) rfl (some 61) rfl (by decide) (by kernel_rfl) (by kernel_rfl) (by kernel_rfl) (by kernel_rfl) (fun _ _ _ h => h) (Or.inl ⟨by rfl, ?_⟩) hSS ?_
        rotate_left
        ·(intro y hy; have j3 := hy.1.cell 3; have q0 := hy.2.cell 0; have q1 := hy.2.cell 1; have q2 := hy.2.cell 2; have q3 := hy.2.cell 3; simp only [List.getElem?_cons_zero, List.getElem?_cons_succ] at j3 q0 q1 q2 q3; go_simp; with_reducible rfl)
        try simp only [Act.put]
        try simp only [List.setIfInBounds_toArray]
        try simp only [List.set_cons_succ]
        try simp only [List.set_cons_zero]
        refine readyL (rs := [4]) (by kernel_rfl) (by simp) ?_
        refine ReadyL.cons rfl (fun KK hK => ?_) ReadyL.nil
        refine wantR (by rfl) ?_
        go_simp
        refine ID.out.mono ?_
        rintro _ wq ⟨c6, rfl, hst6, hli6, hq6⟩
        have hSS2 := (⟨hst6.row hSS.1 (by have := hg5.out; have := hgl.out; omega), hst6.row hSS.2 (by have := HG7.out; have := hltg.out; have := hg5.out; have := hgl.out; omega)⟩ : Row wq g5 25 [.int .i64 4, .string SN, .slice a8 1 p8, .slice none 0 0] /\ Row wq g7 36 [ca, cb, cc, cd])
        have G6 := hidP (GD.out.stay (moRt kq K.B) hst6 (fun k e => by have : k = gl := e; have := hltg.out; have := hg5.out; have := hgl.out; omega))
        have T6 := hidP (TD.out.step hst6 (fun i hi hy => Or.inl hy))
        have Z6 := hidP (Nat.le_trans ZD.out hst6.size)
        have LI6q := hidP hli6
        have Q6 := hidP hq6
        refine hK.out _ _ (fun _ => hSS2) (fun _ => ?_)
        clear hK KK hSS hst6 hli6 hq6 GD TD ID
        have hSS := hSS2
        clear hSS2
        try simp only [Act.put]
        try simp only [List.setIfInBounds_toArray]
        try simp only [List.set_cons_succ]
        try simp only [List.set_cons_zero]
        refine readyL (rs := [5]) (by kernel_rfl) (by simp) ?_
        refine ReadyL.cons rfl (fun KK hK => ?_) ReadyL.nil
        refine wantR (by rfl) ?_
        refine wpo_bsU 23 25 4 72 _ (.agg c6.toArray) (.tmp 62) rfl Tryz.underlying23 Tryz.info25S (by decide) (by decide) rfl c6 rfl Q6.out.len rfl ?_
        intro w7q hR7 hB7 hz7q
        have hSS2 := (⟨hSS.1.below hB7 hSS.1.lt, hSS.2.below hB7 hSS.2.lt⟩ : Row w7q g5 25 [.int .i64 4, .string SN, .slice a8 1 p8, .slice none 0 0] /\ Row w7q g7 36 [ca, cb, cc, cd])
        have G7 := hidP (G6.out.past (moRt kq K.B) hB7)
        have T7 := hidP (T6.out.trans (Stay.of_below hB7))
        have Z7 := hidP (Nat.le_trans Z6.out hB7.size)
        have LI7q := hidP (LI6q.out.past hB7)
        have Q7 := hidP (show RtQ kq (Fr wA.drew w7q) K.B w7q c6 (liftN L lives kq e (nx + 1)).1 from Q6.out.mono (kp_stay (X := fun _ => False) (Stay.of_below hB7) (fun _ h => h.elim) (Nat.le_refl _)))
        have R7q := hidP hR7
        refine hK.out (Act.put _ (some 63) _) _ (fun _ => hSS2) (fun _ => ?_)
        clear hK KK hSS hB7 hR7 hz7q G6 T6 Z6 Q6 LI6q
        have hSS := hSS2
        clear hSS2
        try simp only [Act.put]
        try simp only [List.setIfInBounds_toArray]
        try simp only [List.set_cons_succ]
        try simp only [List.set_cons_zero]
        refine readyL (rs := [6]) (by kernel_rfl) (by simp) ?_
        refine ReadyL.cons rfl (fun KK hK => ?_) ReadyL.nil
        refine wantR (by rfl) ?_
        refine wpo_groK (.tmp 59) (.tmp 63) (moRt kq K.B) rfl Tryz.underlying23 Tryz.info25S rfl (by decide) rfl rfl G7.out Z7.out R7q.out Q7.out.len Q7.out.ones (x := (liftN L lives kq e (nx + 1)).1) (Q7.out.mono (BES.out w7q)) (by decide) (by decide) ?_
        intro fo fp w8q G8 B8 K8
        have hSS2 := (⟨hSS.1.below B8 hltg.out, hSS.2.keep (K8 _ hSS.2.lt (fun h => by cases h))⟩ : Row w8q g5 25 [.int .i64 4, .string SN, .slice a8 1 p8, .slice none 0 0] /\ Row w8q g7 36 [ca, cb, cc, cd])
        have T8 := hidP (T7.out.step (stay_up B8) (fun i hi hy => absurd hi (Nat.not_lt.2 hy)))
        have LI8q := hidP (LI7q.out.stay (stay_up B8) (fun k hk => by have := hltg.out; have := hg5.out; have := hgl.out; have : w9.heap.size <= k := hk; omega))
        replace G8 := hidP G8
        refine hK.out (Act.put _ (some 64) _) _ (fun _ => hSS2) (fun _ => ?_)
        clear hK KK hSS B8 K8 G7 T7 Z7 Q7 R7q LI7q
        have hSS := hSS2
        clear hSS2
        try simp only [Act.put]
        try simp only [List.setIfInBounds_toArray]
        try simp only [List.set_cons_succ]
        try simp only [List.set_cons_zero]
        refine takeL 7 (v := ?_) rfl (some 65) rfl (by decide) (by kernel_rfl) (by kernel_rfl) (by kernel_rfl) (by kernel_rfl) (fun _ _ _ h => h) (Or.inl ⟨by rfl, ?_⟩) hSS ?_
        rotate_left
        ·(intro y hy; have j3 := hy.1.cell 3; have q0 := hy.2.cell 0; have q1 := hy.2.cell 1; have q2 := hy.2.cell 2; have q3 := hy.2.cell 3; simp only [List.getElem?_cons_zero, List.getElem?_cons_succ] at j3 q0 q1 q2 q3; go_simp; with_reducible rfl)
        try simp only [Act.put]
        try simp only [List.setIfInBounds_toArray]
        try simp only [List.set_cons_succ]
        try simp only [List.set_cons_zero]
        refine readyL (rs := [8]) (by kernel_rfl) (by simp) ?_
        refine ReadyL.cons rfl (fun KK hK => ?_) ReadyL.nil
        refine wantR (by rfl) ?_
        refine wpo_stC (v := .slice fo 1 fp) 23 (.tmp 65) (.tmp 64) rfl rfl rfl hSS.1 (sv23 hSS.1 rfl _ _ _) ?_
        intro w9q R9z S9z
        simp only [List.set_cons_zero, List.set_cons_succ] at R9z
        have G9 := hidP (G8.out.stay (moRt kq K.B) S9z (fun k e => by have : k = g5 := e; have := hltg.out; omega))
        have T9 := hidP (T8.out.step S9z (fun i hi hy => Or.inr hy))
        have LI9q := hidP (LI8q.out.stay S9z (fun k e => by have : k = g5 := e; have := hg5.out; have := hgl.out; omega))
        replace R9z := hidP R9z
        refine hK.out (Act.put _ none _) _ (fun h => absurd rfl h) (fun _ => ?_)
        clear hK KK hSS T8 G8 S9z LI8q
        refine doneL (by kernel_rfl) ?_ _
        have DEe := hidP (show ArQ 4 72 (RtQ kq (Fr w5 w9q) K.B w9q) (Fr w5 w9q) w9q (.slice fo 1 fp) [(liftN L lives kq e (nx + 1)).1] from (G9.out.done (bz := 72) (moRt kq K.B) (by simp)).mono (Kp.fr' hz9.out) fun _ _ _ h => RtQ.mono (Kp.fr' hz9.out) h)
        have DRe := hidP (show ArQ 1 8 NmAt (Fr w5 w9q) w9q (.slice a8 1 p8) ([nx]) from DR9.out.mono (kp_stay T9.out (fun k e => by have := hg5.out; have := hg6.out; have := hgl.out; rcases e with h | h <;> omega) (Nat.le_refl _)) fun _ _ _ h => h)
        have RRe := hidP (T9.out.row RR9.out (by have := hg5.out; have := hgl.out; show ¬ (w.heap.size + 1 = gl ∨ w.heap.size + 1 = g5); omega))
        have STe := hidP (ST9.out.step T9.out (fun i hi e => by have := hg5.out; rcases e with h | h; exact h; omega))
        clear G9 T9 DR9 RR9 ST9 RO9 LI9 BES ZD
        go_wp2_with fail
        go_roundg 0
        case measure => have := hk9.out; omega
        case rel => exact .inr ⟨rfl, by go_num, _, R9z.out, RRe.out, LI9q.out, STe.out, DRe.out, DEe.out⟩
       ·obtain ⟨ao9, cp9, rfl⟩ := hv6.form
        have ROZ := hidP hv1
        have RRZ := hidP hv2
        have LIZ := hidP hv3
        have STZ := hidP hv4
        have DRZ := hidP hv5
        have DEZ := hidP hv6
        clear hv1 hv2 hv3 hv4 hv5 hv6 DR9 RR9 ST9 RO9 LI9 HR1 HP1
        generalize wr = wZ at *
        go_wp2_with (first | (refine ldR rfl 25 (.tmp 5) rfl rfl ROZ.out Tryz.underlying25 rfl Tryz.sz25 ?_) | (refine stR rfl 25 (.tmp 4) (.tmp 67) rfl (cs := [.int .i64 4, .string SN, .slice a8 1 p8, .slice ao9 1 cp9]) rfl rfl RRZ.out Tryz.sz25 rfl (ones_cons rfl (ones_cons rfl (ones_cons rfl (ones_cons rfl ones_nil)))) ?_; intro wF RF SF; apply shut))
        show wpList _ _ _ _ _ _
        have STF := hidP (STZ.out.step SF (fun i hi e => absurd hi (by have : i = w.heap.size + 1 := e; omega)))
        have LIF := hidP (LIZ.out.stay SF (fun k e => by have : k = w.heap.size + 1 := e; have := hgl.out; omega))
        have hlF : ∀ k, k = w.heap.size + 1 -> k < w5.heap.size := fun k e => by have := hg5.out; have := hg6.out; omega
        have KF := hidP (show Kp (Fr w5 wZ) (Fr w wF) wZ wF from kp_stay SF (fun k e => hlF k e) hz5.out)
        have DA := hidP (show ArQ 1 8 NmAt (Fr w wF) wF (.slice a8 1 p8) ([nx]) from DRZ.out.mono KF.out fun _ _ _ h => h)
        have DB := hidP (show ArQ 4 72 (RtQ kq (Fr w wF) K.B wF) (Fr w wF) wF (.slice ao9 1 cp9) ([(liftN L lives kq e (nx + 1)).1]) from DEZ.out.mono KF.out fun _ _ _ h => RtQ.mono KF.out h)
        replace RF := hidP RF
        clear SF KF ROZ RRZ STZ LIZ DRZ DEZ hlF
        go_wp2_with fail
        exact bodyPost_ret (v := .agg #[.int .i64 4, .string SN, .slice a8 1 p8, .slice ao9 1 cp9]) (results_cell_row Tryz.results43 _ _ (w.heap.size + 1) 25 _ (0, 0) _ rfl RF.out.heap Tryz.underlying25 rfl (by kernel_rfl)) rfl ⟨[.int .i64 4, .string SN, .slice a8 1 p8, .slice ao9 1 cp9], rfl, STF.out, by rw [LQ.out]; exact LIF.out, by
         rw [LQ.out]
         exact ⟨_, _, by rw [HSN.out], HBN.out, DA.out, DB.out⟩⟩
    ·have hle : t.lives ≠ [] := fun e => h0 (by rw [← HNL.out, e]; rfl)
     have HLQ := hidP (fun e es (he : t.elem = e :: es) => show liftN L lives (kq + 1) t nx = (⟨4, t.name, (t.lives.take 1).map (numL lives), [(liftN L lives kq e nx).1]⟩, (liftN L lives kq e nx).2) by
      rw [liftN, if_neg (by rw [HKD.out]; decide), if_pos (by rw [HKD.out]; exact .inl rfl), he]
      simp only [if_neg hle]
      rw [HKD.out])
     have HLZ := hidP (fun (he : t.elem = []) => show liftN L lives (kq + 1) t nx = (⟨4, t.name, (t.lives.take 1).map (numL lives), []⟩, nx) by
      rw [liftN, if_neg (by rw [HKD.out]; decide), if_pos (by rw [HKD.out]; exact .inl rfl), he]
      simp only [if_neg hle]
      rw [HKD.out])
     have e0 : ((nl : Int) == 0) = false := by simp; omega
     go_wp2_with fail
     refine (first73 L5.out).mono ?_
     rintro _ wz ⟨u73, rfl, hwz, hu73⟩
     rw [hwz]
     clear hwz
     generalize hq1 : t.lives.take 1 = l1 at hu73
     have HQ1 := hidP hq1
     have hl1 : l1.length = 1 := by rw [← hq1, List.length_take, HNL.out]; omega
     have L1 := hidP hu73
     obtain ⟨a73, p73, e73⟩ := Ar.form hu73
     rw [hl1] at e73
     subst e73
     have HL1 := hidP hl1
     clear hu73 hq1 hl1
     go_wp2_with fail
     refine (written70 LI5.out.row LI5.out.mp L1.out HC5.out (by have := HL1.out; omega)).mono ?_
     rintro _ w6 ⟨u, rfl, hb6, ho6⟩
     rw [HL1.out] at ho6
     obtain ⟨au, pu, rfl⟩ := own_slice ho6
     have RO6 := hidP (RO.out.below hb6 hg6.out)
     have RI6 := hidP (RI.out.below hb6 RI.out.lt)
     have RR6 := hidP (RR.out.below hb6 RR.out.lt)
     have LI6 := hidP (LI5.out.past hb6)
     have ST6 := hidP (ST5.out.trans (Stay.of_below hb6))
     have HO6 := hidP ho6
     clear RO RI RR ho6 y2 y0
     go_wp2_with (first | (refine stC rfl 22 (.tmp 42) (.tmp 41) rfl rfl rfl RO6.out (svN RO6.out rfl _ _ _) ?_; intro w7 R7 S7; apply shut))
     show wpList _ _ _ _ _ _
     simp only [List.set_cons_zero, List.set_cons_succ] at R7
     have RO7 := hidP R7
     have RI7 := hidP (S7.row RI6.out (by have := hg5.out; omega))
     have RR7 := hidP (S7.row RR6.out (by have := hg5.out; omega))
     have LI7 := hidP (LI6.out.stay S7 (fun k e => by have : k = g5 := e; have := hg5.out; have := hgl.out; omega))
     have ST7 := hidP (ST6.out.step S7 (fun i hi e => absurd hi (by have : i = g5 := e; have := hg5.out; omega)))
     have SW7 := hidP (show Stay (fun k => k = g5) w6 w7 from S7)
     have hz7 := hidP (show w5.heap.size <= w7.heap.size from Nat.le_trans hb6.size S7.size)
     have y1 := RI7.out.cell 1
     have y2 := RI7.out.cell 2
     have y3 := RI7.out.cell 3
     simp only [List.getElem?_cons_zero, List.getElem?_cons_succ] at y1 y2 y3
     clear R7 S7 RO6 RI6 RR6 LI6 ST6 hb6
     have HDR := hidP (HFC.out w6 _ (l1.map (numL lives)) _ HO6.out (by rw [List.length_map, HL1.out]) (by decide))
     have SK := hidP (kp_stay (w0 := w5) SW7.out (fun k e => by have : k = g5 := e; have := hg6.out; omega) (Nat.le_refl _))
     clear HO6 SW7
     have DR7 := hidP (show ArQ 1 8 NmAt (Fr w5 w7) w7 (.slice au 1 pu) ((t.lives.take 1).map (numL lives)) from by rw [HQ1.out]; exact HDR.out.mono SK.out fun _ _ _ h => h)
     clear HDR SK
     have E7 := hidP (H3.out.mono (ST7.out.below (C := K.C) (by have := hgl.out; omega) (fun k e => by have : k = gl := e; omega)) (fun _ _ _ h => h.below (ST7.out.below (C := K.C) (by have := hgl.out; omega) (fun k e => by have : k = gl := e; omega))))
     have y3b := RI7.out.cell 3
     simp only [List.getElem?_cons_zero, List.getElem?_cons_succ] at y3b
     try clear y3
     try clear y1
     go_wp2_with fail
     try clear y2
     refine (first74 E7.out).mono ?_
     rintro _ wz2 ⟨u74, rfl, hwz, hu74⟩
     rw [hwz]
     clear hwz
     clear E7 y3b
     rcases hel : t.elem with _ | ⟨e, es⟩
     ·have LQ := hidP (HLZ.out hel)
      rw [hel] at hu74
      obtain ⟨a74, p74, e74⟩ := Ar.form hu74
      have e74' : u74 = .slice a74 0 p74 := e74
      subst e74'
      clear hu74 e74 hel HLQ HLZ
      go_wp2_with fail
      go_loopg [54] 0 (fun k v54 wr => v54 = .int .i64 0 /\ wr = w7)
      case atStart => exact ⟨rfl, rfl⟩
      case round =>
       obtain ⟨rfl, hwr⟩ := hrel
       rw [hwr]
       clear hwr
       have DE7 := hidP (show ArQ 4 72 (RtQ kq (Fr w5 w7) K.B w7) (Fr w5 w7) w7 (.slice none 0 0) ([] : List RTy) from nil_arQ)
       go_wp2_with (first | (refine ldR rfl 25 (.tmp 5) rfl rfl RO7.out Tryz.underlying25 rfl Tryz.sz25 ?_) | (refine stR rfl 25 (.tmp 4) (.tmp 67) rfl (cs := [.int .i64 4, .string SN, .slice au 1 pu, .slice none 0 0]) rfl rfl RR7.out Tryz.sz25 rfl (ones_cons rfl (ones_cons rfl (ones_cons rfl (ones_cons rfl ones_nil)))) ?_; intro wF RF SF; apply shut))
       show wpList _ _ _ _ _ _
       have STF := hidP (ST7.out.step SF (fun i hi e => absurd hi (by have : i = w.heap.size + 1 := e; omega)))
       have LIF := hidP (LI7.out.stay SF (fun k e => by have : k = w.heap.size + 1 := e; have := hgl.out; omega))
       have hlF : ∀ k, k = w.heap.size + 1 -> k < w5.heap.size := fun k e => by have := hg5.out; have := hg6.out; omega
       have KF := hidP (show Kp (Fr w5 w7) (Fr w wF) w7 wF from kp_stay SF (fun k e => hlF k e) hz5.out)
       have DA := hidP (show ArQ 1 8 NmAt (Fr w wF) wF (.slice au 1 pu) ((t.lives.take 1).map (numL lives)) from DR7.out.mono KF.out fun _ _ _ h => h)
       have DB := hidP (show ArQ 4 72 (RtQ kq (Fr w wF) K.B wF) (Fr w wF) wF (.slice none 0 0) ([]) from DE7.out.mono KF.out fun _ _ _ h => RtQ.mono KF.out h)
       replace RF := hidP RF
       clear SF KF RO7 RR7 ST7 LI7 DR7 DE7 hlF
       go_wp2_with fail
       exact bodyPost_ret (v := .agg #[.int .i64 4, .string SN, .slice au 1 pu, .slice none 0 0]) (results_cell_row Tryz.results43 _ _ (w.heap.size + 1) 25 _ (0, 0) _ rfl RF.out.heap Tryz.underlying25 rfl (by kernel_rfl)) rfl ⟨[.int .i64 4, .string SN, .slice au 1 pu, .slice none 0 0], rfl, STF.out, by rw [LQ.out]; exact LIF.out, by
        rw [LQ.out]
        exact ⟨_, _, by rw [HSN.out], HBN.out, DA.out, DB.out⟩⟩
     ·have LQ := hidP (HLQ.out e es hel)
      have HFe := hidP (HF3.out e (by rw [hel]; rfl))
      rw [hel] at hu74
      obtain ⟨a74, p74, e74⟩ := Ar.form hu74
      have e74' : u74 = .slice a74 1 p74 := e74
      subst e74'
      obtain ⟨b1, o1, rfl, hb1, c1, hl1, hr1, hp1⟩ := Ar.head1 (l := []) (show Ar 4 72 (TyAt n K w7) K w7 (.slice a74 1 p74) [e] from hu74)
      clear hu74 e74 HLZ HLQ
      have l4 := hp1.len
      obtain ⟨ca, cb, cc, cd, rfl⟩ : ∃ d0 d1 d2 d3, c1 = [d0, d1, d2, d3] := by
       match c1, l4 with
       | [d0, d1, d2, d3], _ => exact ⟨_, _, _, _, rfl⟩
      have HP1 := hidP hp1
      have HR1 := hidP hr1
      have n1 := hidP (show (#[ca, cb, cc, cd] : Array Value).all (·.oneCell') = true from one_mem hp1.one)
      have hCE := hidP (show K.C <= w7.heap.size by have := hgl.out; have := ST7.out.size; omega)
      clear hp1 hr1 hl1 l4 hb1
      go_wp2_with fail
      go_loopg [54] 1 (fun k v54 wr => (k = 1 /\ v54 = .int .i64 0 /\ wr = w7) ∨ (k = 0 /\ v54 = .int .i64 1 /\ ∃ v, Row wr g5 25 [.int .i64 4, .string SN, .slice au 1 pu, v] /\ Row wr (w.heap.size + 1) 25 z25 /\ Lif Q B wr gl gs b c gm L lives (liftN L lives kq e (nx)).2 /\ Stay (fun k => k = gl) w wr /\ ArQ 1 8 NmAt (Fr w5 wr) wr (.slice au 1 pu) ((t.lives.take 1).map (numL lives)) /\ ArQ 4 72 (RtQ kq (Fr w5 wr) K.B wr) (Fr w5 wr) wr v [(liftN L lives kq e (nx)).1]))
      case atStart => exact .inl ⟨rfl, rfl, rfl⟩
      case round =>
       rcases hrel with ⟨hk1, rfl, hwr⟩ | ⟨hk0, rfl, v, hv1, hv2, hv3, hv4, hv5, hv6⟩
       ·rw [hwr]
        have hk9 := hidP hk1
        clear hwr hk1
        go_wp2_with (first | (refine wpList_load_mid rfl 36 (.tmp 56) rfl b1 o1 rfl [ca, cb, cc, cd] _ HR1.out Tryz.underlying36 rfl Tryz.sz36 ?_) | (refine store_new rfl 36 (.tmp 7) (.tmp 57) rfl #[ca, cb, cc, cd] _ 36 rfl rfl Tryz.sz36 rfl n1.out ?_; apply shut))
        show wpList _ _ _ _ _ _
        have hB9 := alloc_one w7 (.cells #[ca, cb, cc, cd] 36)
        have R9q := hidP (Row.new w7 36 [ca, cb, cc, cd])
        have RW9 := hidP (RO7.out.below hB9 RO7.out.lt)
        have TX := hidP (show Stay (fun k => k = gl ∨ k = g5) w7 (w7.alloc (.cells #[ca, cb, cc, cd] 36)) from Stay.of_below hB9)
        have LIA := hidP (LI7.out.past hB9)
        have hltg := hidP RO7.out.lt
        have GR0 := hidP (show Gro 4 25 (PRt kq K.B) w7 (w7.alloc (.cells #[ca, cb, cc, cd] 36)) (.slice none 0 0) ([] : List RTy) from Gro.nil)
        have STA := hidP (ST7.out.trans (Stay.of_below hB9))
        have BKA := hidP (below_le hB9 hCE.out)
        have hzA := hidP hB9.size
        generalize hwA : w7.alloc (.cells #[ca, cb, cc, cd] 36) = wA at *
        clear hwA
        clear hB9
        generalize hg7 : w7.heap.size = g7 at R9q ⊢
        have HG7 := hidP hg7
        clear hg7
        go_wp2_with fail
        have hS1 : Row wA.drew g5 25 [.int .i64 4, .string SN, .slice au 1 pu, .slice none 0 0] /\ Row wA.drew g7 36 [ca, cb, cc, cd] := ⟨RW9.out.drew, R9q.out.drew⟩
        have LID := hidP (LIA.out.stay (X := fun _ => False) ((Stay.refl (fun _ => False) wA).drew) (fun _ h => h.elim))
        have STD := hidP (STA.out.trans ((Stay.refl (fun k => k = gl) wA).drew))
        have TD := hidP (TX.out.trans ((Stay.refl (fun k => k = gl ∨ k = g5) wA).drew))
        have BKD := hidP (show Below K.C w7 wA.drew from BKA.out.drew)
        have ID := hidP (IH.out wA.drew STD.out (nx) LID.out [ca, cb, cc, cd] e (HP1.out.below BKD.out) HFe.out (by omega) (by omega))
        have GD := hidP (GR0.out.stay (moRt kq K.B) ((Stay.refl (fun _ => False) wA).drew) (fun _ h => h.elim))
        have BES := hidP (fun (y : World) => (GD.out.beside (w := y) (show w7.heap.size <= wA.drew.heap.size from hzA.out) : Kp (Fr wA.drew y) (Qv w7 y (.slice none 0 0)) y y))
        have ZD := hidP (show w7.heap.size <= wA.drew.heap.size from hzA.out)
        clear RW9 R9q GR0 STA TX LIA BKA hzA LID STD BKD
        refine beginL (fun y => Row y g5 25 [.int .i64 4, .string SN, .slice au 1 pu, .slice none 0 0] /\ Row y g7 36 [ca, cb, cc, cd]) 8 (by kernel_rfl) hS1 (fun hSS => ?_)
        refine takeL 0 (v := ?_) rfl (some 58) rfl (by decide) (by kernel_rfl) (by kernel_rfl) (by kernel_rfl) (by kernel_rfl) (fun _ _ _ h => h) (Or.inl ⟨by rfl, ?_⟩) hSS ?_
        rotate_left
        ·(intro y hy; have j3 := hy.1.cell 3; have q0 := hy.2.cell 0; have q1 := hy.2.cell 1; have q2 := hy.2.cell 2; have q3 := hy.2.cell 3; simp only [List.getElem?_cons_zero, List.getElem?_cons_succ] at j3 q0 q1 q2 q3; go_simp; with_reducible rfl)
        try simp only [Act.put]
        try simp only [List.setIfInBounds_toArray]
        try simp only [List.set_cons_succ]
        try simp only [List.set_cons_zero]
        refine takeL 1 (v := ?_) rfl (some 59) rfl (by decide) (by kernel_rfl) (by kernel_rfl) (by kernel_rfl) (by kernel_rfl) (fun _ _ _ h => h) (Or.inl ⟨by rfl, ?_⟩) hSS ?_
        rotate_left
        ·(intro y hy; have j3 := hy.1.cell 3; have q0 := hy.2.cell 0; have q1 := hy.2.cell 1; have q2 := hy.2.cell 2; have q3 := hy.2.cell 3; simp only [List.getElem?_cons_zero, List.getElem?_cons_succ] at j3 q0 q1 q2 q3; go_simp; with_reducible rfl)
        try simp only [Act.put]
        try simp only [List.setIfInBounds_toArray]
        try simp only [List.set_cons_succ]
        try simp only [List.set_cons_zero]
        refine takeL 2 (v := ?_) rfl (some 60) rfl (by decide) (by kernel_rfl) (by kernel_rfl) (by kernel_rfl) (by kernel_rfl) (fun _ _ _ h => h) (Or.inl ⟨by rfl, ?_⟩) hSS ?_
        rotate_left
        ·(intro y hy; have j3 := hy.1.cell 3; have q0 := hy.2.cell 0; have q1 := hy.2.cell 1; have q2 := hy.2.cell 2; have q3 := hy.2.cell 3; simp only [List.getElem?_cons_zero, List.getElem?_cons_succ] at j3 q0 q1 q2 q3; go_simp; with_reducible rfl)
        try simp only [Act.put]
        try simp only [List.setIfInBounds_toArray]
        try simp only [List.set_cons_succ]
        try simp only [List.set_cons_zero]
        refine takeL 3 (v := ?_) rfl (some 61) rfl (by decide) (by kernel_rfl) (by kernel_rfl) (by kernel_rfl) (by kernel_rfl) (fun _ _ _ h => h) (Or.inl ⟨by rfl, ?_⟩) hSS ?_
        rotate_left
        ·(intro y hy; have j3 := hy.1.cell 3; have q0 := hy.2.cell 0; have q1 := hy.2.cell 1; have q2 := hy.2.cell 2; have q3 := hy.2.cell 3; simp only [List.getElem?_cons_zero, List.getElem?_cons_succ] at j3 q0 q1 q2 q3; go_simp; with_reducible rfl)
        try simp only [Act.put]
        try simp only [List.setIfInBounds_toArray]
        try simp only [List.set_cons_succ]
        try simp only [List.set_cons_zero]
        refine readyL (rs := [4]) (by kernel_rfl) (by simp) ?_
        refine ReadyL.cons rfl (fun KK hK => ?_) ReadyL.nil
        refine wantR (by rfl) ?_
        go_simp
        refine ID.out.mono ?_
        rintro _ wq ⟨c6, rfl, hst6, hli6, hq6⟩
        have hSS2 := (⟨hst6.row hSS.1 (by have := hg5.out; have := hgl.out; omega), hst6.row hSS.2 (by have := HG7.out; have := hltg.out; have := hg5.out; have := hgl.out; omega)⟩ : Row wq g5 25 [.int .i64 4, .string SN, .slice au 1 pu, .slice none 0 0] /\ Row wq g7 36 [ca, cb, cc, cd])
        have G6 := hidP (GD.out.stay (moRt kq K.B) hst6 (fun k e => by have : k = gl := e; have := hltg.out; have := hg5.out; have := hgl.out; omega))
        have T6 := hidP (TD.out.step hst6 (fun i hi hy => Or.inl hy))
        have Z6 := hidP (Nat.le_trans ZD.out hst6.size)
        have LI6q := hidP hli6
        have Q6 := hidP hq6
        refine hK.out _ _ (fun _ => hSS2) (fun _ => ?_)
        clear hK KK hSS hst6 hli6 hq6 GD TD ID
        have hSS := hSS2
        clear hSS2
        try simp only [Act.put]
        try simp only [List.setIfInBounds_toArray]
        try simp only [List.set_cons_succ]
        try simp only [List.set_cons_zero]
        refine readyL (rs := [5]) (by kernel_rfl) (by simp) ?_
        refine ReadyL.cons rfl (fun KK hK => ?_) ReadyL.nil
        refine wantR (by rfl) ?_
        refine wpo_bsU 23 25 4 72 _ (.agg c6.toArray) (.tmp 62) rfl Tryz.underlying23 Tryz.info25S (by decide) (by decide) rfl c6 rfl Q6.out.len rfl ?_
        intro w7q hR7 hB7 hz7q
        have hSS2 := (⟨hSS.1.below hB7 hSS.1.lt, hSS.2.below hB7 hSS.2.lt⟩ : Row w7q g5 25 [.int .i64 4, .string SN, .slice au 1 pu, .slice none 0 0] /\ Row w7q g7 36 [ca, cb, cc, cd])
        have G7 := hidP (G6.out.past (moRt kq K.B) hB7)
        have T7 := hidP (T6.out.trans (Stay.of_below hB7))
        have Z7 := hidP (Nat.le_trans Z6.out hB7.size)
        have LI7q := hidP (LI6q.out.past hB7)
        have Q7 := hidP (show RtQ kq (Fr wA.drew w7q) K.B w7q c6 (liftN L lives kq e (nx)).1 from Q6.out.mono (kp_stay (X := fun _ => False) (Stay.of_below hB7) (fun _ h => h.elim) (Nat.le_refl _)))
        have R7q := hidP hR7
        refine hK.out (Act.put _ (some 63) _) _ (fun _ => hSS2) (fun _ => ?_)
        clear hK KK hSS hB7 hR7 hz7q G6 T6 Z6 Q6 LI6q
        have hSS := hSS2
        clear hSS2
        try simp only [Act.put]
        try simp only [List.setIfInBounds_toArray]
        try simp only [List.set_cons_succ]
        try simp only [List.set_cons_zero]
        refine readyL (rs := [6]) (by kernel_rfl) (by simp) ?_
        refine ReadyL.cons rfl (fun KK hK => ?_) ReadyL.nil
        refine wantR (by rfl) ?_
        refine wpo_groK (.tmp 59) (.tmp 63) (moRt kq K.B) rfl Tryz.underlying23 Tryz.info25S rfl (by decide) rfl rfl G7.out Z7.out R7q.out Q7.out.len Q7.out.ones (x := (liftN L lives kq e (nx)).1) (Q7.out.mono (BES.out w7q)) (by decide) (by decide) ?_
        intro fo fp w8q G8 B8 K8
        have hSS2 := (⟨hSS.1.below B8 hltg.out, hSS.2.keep (K8 _ hSS.2.lt (fun h => by cases h))⟩ : Row w8q g5 25 [.int .i64 4, .string SN, .slice au 1 pu, .slice none 0 0] /\ Row w8q g7 36 [ca, cb, cc, cd])
        have T8 := hidP (T7.out.step (stay_up B8) (fun i hi hy => absurd hi (Nat.not_lt.2 hy)))
        have LI8q := hidP (LI7q.out.stay (stay_up B8) (fun k hk => by have := hltg.out; have := hg5.out; have := hgl.out; have : w7.heap.size <= k := hk; omega))
        replace G8 := hidP G8
        refine hK.out (Act.put _ (some 64) _) _ (fun _ => hSS2) (fun _ => ?_)
        clear hK KK hSS B8 K8 G7 T7 Z7 Q7 R7q LI7q
        have hSS := hSS2
        clear hSS2
        try simp only [Act.put]
        try simp only [List.setIfInBounds_toArray]
        try simp only [List.set_cons_succ]
        try simp only [List.set_cons_zero]
        refine takeL 7 (v := ?_) rfl (some 65) rfl (by decide) (by kernel_rfl) (by kernel_rfl) (by kernel_rfl) (by kernel_rfl) (fun _ _ _ h => h) (Or.inl ⟨by rfl, ?_⟩) hSS ?_
        rotate_left
        ·(intro y hy; have j3 := hy.1.cell 3; have q0 := hy.2.cell 0; have q1 := hy.2.cell 1; have q2 := hy.2.cell 2; have q3 := hy.2.cell 3; simp only [List.getElem?_cons_zero, List.getElem?_cons_succ] at j3 q0 q1 q2 q3; go_simp; with_reducible rfl)
        try simp only [Act.put]
        try simp only [List.setIfInBounds_toArray]
        try simp only [List.set_cons_succ]
        try simp only [List.set_cons_zero]
        refine readyL (rs := [8]) (by kernel_rfl) (by simp) ?_
        refine ReadyL.cons rfl (fun KK hK => ?_) ReadyL.nil
        refine wantR (by rfl) ?_
        refine wpo_stC (v := .slice fo 1 fp) 23 (.tmp 65) (.tmp 64) rfl rfl rfl hSS.1 (sv23 hSS.1 rfl _ _ _) ?_
        intro w9q R9z S9z
        simp only [List.set_cons_zero, List.set_cons_succ] at R9z
        have G9 := hidP (G8.out.stay (moRt kq K.B) S9z (fun k e => by have : k = g5 := e; have := hltg.out; omega))
        have T9 := hidP (T8.out.step S9z (fun i hi hy => Or.inr hy))
        have LI9q := hidP (LI8q.out.stay S9z (fun k e => by have : k = g5 := e; have := hg5.out; have := hgl.out; omega))
        replace R9z := hidP R9z
        refine hK.out (Act.put _ none _) _ (fun h => absurd rfl h) (fun _ => ?_)
        clear hK KK hSS T8 G8 S9z LI8q
        refine doneL (by kernel_rfl) ?_ _
        have DEe := hidP (show ArQ 4 72 (RtQ kq (Fr w5 w9q) K.B w9q) (Fr w5 w9q) w9q (.slice fo 1 fp) [(liftN L lives kq e (nx)).1] from (G9.out.done (bz := 72) (moRt kq K.B) (by simp)).mono (Kp.fr' hz7.out) fun _ _ _ h => RtQ.mono (Kp.fr' hz7.out) h)
        have DRe := hidP (show ArQ 1 8 NmAt (Fr w5 w9q) w9q (.slice au 1 pu) ((t.lives.take 1).map (numL lives)) from DR7.out.mono (kp_stay T9.out (fun k e => by have := hg5.out; have := hg6.out; have := hgl.out; rcases e with h | h <;> omega) (Nat.le_refl _)) fun _ _ _ h => h)
        have RRe := hidP (T9.out.row RR7.out (by have := hg5.out; have := hgl.out; show ¬ (w.heap.size + 1 = gl ∨ w.heap.size + 1 = g5); omega))
        have STe := hidP (ST7.out.step T9.out (fun i hi e => by have := hg5.out; rcases e with h | h; exact h; omega))
        clear G9 T9 DR7 RR7 ST7 RO7 LI7 BES ZD
        go_wp2_with fail
        go_roundg 0
        case measure => have := hk9.out; omega
        case rel => exact .inr ⟨rfl, by go_num, _, R9z.out, RRe.out, LI9q.out, STe.out, DRe.out, DEe.out⟩
       ·obtain ⟨ao9, cp9, rfl⟩ := hv6.form
        have ROZ := hidP hv1
        have RRZ := hidP hv2
        have LIZ := hidP hv3
        have STZ := hidP hv4
        have DRZ := hidP hv5
        have DEZ := hidP hv6
        clear hv1 hv2 hv3 hv4 hv5 hv6 DR7 RR7 ST7 RO7 LI7 HR1 HP1
        generalize wr = wZ at *
        go_wp2_with (first | (refine ldR rfl 25 (.tmp 5) rfl rfl ROZ.out Tryz.underlying25 rfl Tryz.sz25 ?_) | (refine stR rfl 25 (.tmp 4) (.tmp 67) rfl (cs := [.int .i64 4, .string SN, .slice au 1 pu, .slice ao9 1 cp9]) rfl rfl RRZ.out Tryz.sz25 rfl (ones_cons rfl (ones_cons rfl (ones_cons rfl (ones_cons rfl ones_nil)))) ?_; intro wF RF SF; apply shut))
        show wpList _ _ _ _ _ _
        have STF := hidP (STZ.out.step SF (fun i hi e => absurd hi (by have : i = w.heap.size + 1 := e; omega)))
        have LIF := hidP (LIZ.out.stay SF (fun k e => by have : k = w.heap.size + 1 := e; have := hgl.out; omega))
        have hlF : ∀ k, k = w.heap.size + 1 -> k < w5.heap.size := fun k e => by have := hg5.out; have := hg6.out; omega
        have KF := hidP (show Kp (Fr w5 wZ) (Fr w wF) wZ wF from kp_stay SF (fun k e => hlF k e) hz5.out)
        have DA := hidP (show ArQ 1 8 NmAt (Fr w wF) wF (.slice au 1 pu) ((t.lives.take 1).map (numL lives)) from DRZ.out.mono KF.out fun _ _ _ h => h)
        have DB := hidP (show ArQ 4 72 (RtQ kq (Fr w wF) K.B wF) (Fr w wF) wF (.slice ao9 1 cp9) ([(liftN L lives kq e (nx)).1]) from DEZ.out.mono KF.out fun _ _ _ h => RtQ.mono KF.out h)
        replace RF := hidP RF
        clear SF KF ROZ RRZ STZ LIZ DRZ DEZ hlF
        go_wp2_with fail
        exact bodyPost_ret (v := .agg #[.int .i64 4, .string SN, .slice au 1 pu, .slice ao9 1 cp9]) (results_cell_row Tryz.results43 _ _ (w.heap.size + 1) 25 _ (0, 0) _ rfl RF.out.heap Tryz.underlying25 rfl (by kernel_rfl)) rfl ⟨[.int .i64 4, .string SN, .slice au 1 pu, .slice ao9 1 cp9], rfl, STF.out, by rw [LQ.out]; exact LIF.out, by
         rw [LQ.out]
         exact ⟨_, _, by rw [HSN.out], HBN.out, DA.out, DB.out⟩⟩
   ·by_cases h0 : nl = 0
    ·subst h0
     have hle : t.lives = [] := List.length_eq_zero_iff.1 HNL.out
     have HLQ := hidP (fun e es (he : t.elem = e :: es) => show liftN L lives (kq + 1) t nx = (⟨5, t.name, [nx], [(liftN L lives kq e (nx + 1)).1]⟩, (liftN L lives kq e (nx + 1)).2) by
      rw [liftN, if_neg (by rw [HKD.out]; decide), if_pos (by rw [HKD.out]; exact .inr rfl), he]
      simp only [if_pos hle]
      rw [HKD.out])
     have HLZ := hidP (fun (he : t.elem = []) => show liftN L lives (kq + 1) t nx = (⟨5, t.name, [nx], []⟩, nx + 1) by
      rw [liftN, if_neg (by rw [HKD.out]; decide), if_pos (by rw [HKD.out]; exact .inr rfl), he]
      simp only [if_pos hle]
      rw [HKD.out])
     go_wp2_with fail
     refine (first73 L5.out).mono ?_
     rintro _ wz ⟨u73, rfl, hwz, hu73⟩
     rw [hwz]
     clear hwz
     generalize hq1 : t.lives.take 1 = l1 at hu73
     have HQ1 := hidP hq1
     have hl1 : l1.length = 0 := by rw [← hq1, List.length_take, HNL.out]; omega
     have L1 := hidP hu73
     obtain ⟨a73, p73, e73⟩ := Ar.form hu73
     rw [hl1] at e73
     subst e73
     have HL1 := hidP hl1
     clear hu73 hq1 hl1
     go_wp2_with fail
     refine (written70 LI5.out.row LI5.out.mp L1.out HC5.out (by have := HL1.out; omega)).mono ?_
     rintro _ w6 ⟨u, rfl, hb6, ho6⟩
     rw [HL1.out] at ho6
     obtain ⟨au, pu, rfl⟩ := own_slice ho6
     have RO6 := hidP (RO.out.below hb6 hg6.out)
     have RI6 := hidP (RI.out.below hb6 RI.out.lt)
     have RR6 := hidP (RR.out.below hb6 RR.out.lt)
     have LI6 := hidP (LI5.out.past hb6)
     have ST6 := hidP (ST5.out.trans (Stay.of_below hb6))
     have HO6 := hidP ho6
     clear RO RI RR ho6 y2 y0
     go_wp2_with (first | (refine stC rfl 22 (.tmp 42) (.tmp 41) rfl rfl rfl RO6.out (svN RO6.out rfl _ _ _) ?_; intro w7 R7 S7; apply shut))
     show wpList _ _ _ _ _ _
     simp only [List.set_cons_zero, List.set_cons_succ] at R7
     have RO7 := hidP R7
     have RI7 := hidP (S7.row RI6.out (by have := hg5.out; omega))
     have RR7 := hidP (S7.row RR6.out (by have := hg5.out; omega))
     have LI7 := hidP (LI6.out.stay S7 (fun k e => by have : k = g5 := e; have := hg5.out; have := hgl.out; omega))
     have ST7 := hidP (ST6.out.step S7 (fun i hi e => absurd hi (by have : i = g5 := e; have := hg5.out; omega)))
     have SW7 := hidP (show Stay (fun k => k = g5) w6 w7 from S7)
     have hz7 := hidP (show w5.heap.size <= w7.heap.size from Nat.le_trans hb6.size S7.size)
     have y1 := RI7.out.cell 1
     have y2 := RI7.out.cell 2
     have y3 := RI7.out.cell 3
     simp only [List.getElem?_cons_zero, List.getElem?_cons_succ] at y1 y2 y3
     clear R7 S7 RO6 RI6 RR6 LI6 ST6 hb6
     have HDR := hidP (HFC.out w6 _ (l1.map (numL lives)) _ HO6.out (by rw [List.length_map, HL1.out]) (by decide))
     have SK := hidP (kp_stay (w0 := w5) SW7.out (fun k e => by have : k = g5 := e; have := hg6.out; omega) (Nat.le_refl _))
     clear HO6 SW7
     clear HDR SK
     go_wp2_with fail
     refine Calls.mono (show Calls Tryz.prog 71 #[.pointer (some ⟨gl, 0, none⟩), .int .i64 ((1 : Nat) : Int)] w7 _ from leftOut71 LI7.out.row (by decide) hn1 (by omega)) ?_
     rintro _ w8 ⟨u8, rfl, hst8, hro8, ho8⟩
     obtain ⟨a8, p8, rfl⟩ := own_slice ho8
     have RO8 := hidP (hst8.row RO7.out (by have := hg5.out; have := hgl.out; omega))
     have RI8 := hidP (hst8.row RI7.out (by have := hgl.out; omega))
     have RR8 := hidP (hst8.row RR7.out (by have := hgl.out; omega))
     have LI8 := hidP (LI7.out.next hst8 hro8)
     have ST8 := hidP (ST7.out.trans hst8)
     have HO8 := hidP ho8
     have hz8 := hidP (Nat.le_trans hz7.out hst8.size)
     clear hst8 hro8 ho8 RO7 RI7 RR7 LI7 ST7 y2
     go_wp2_with (first | (refine stC rfl 22 (.tmp 49) (.tmp 48) rfl rfl rfl RO8.out (svN RO8.out rfl _ _ _) ?_; intro w9 R9 S9; apply shut))
     show wpList _ _ _ _ _ _
     simp only [List.set_cons_zero, List.set_cons_succ] at R9
     have RO9 := hidP R9
     have RI9 := hidP (S9.row RI8.out (by have := hg5.out; omega))
     have RR9 := hidP (S9.row RR8.out (by have := hg5.out; omega))
     have LI9 := hidP (LI8.out.stay S9 (fun k e => by have : k = g5 := e; have := hg5.out; have := hgl.out; omega))
     have ST9 := hidP (ST8.out.step S9 (fun i hi e => absurd hi (by have : i = g5 := e; have := hg5.out; omega)))
     have hz9 := hidP (Nat.le_trans hz8.out S9.size)
     have DR9 := hidP (show ArQ 1 8 NmAt (Fr w5 w9) w9 (.slice a8 1 p8) [nx] from (HFC.out w8 _ [nx] _ (by
      have h1 := own_base HO8.out hz7.out
      rw [show loL nx 1 = [nx] by simp [loL]] at h1
      exact h1) rfl (by simp)).mono (kp_stay S9 (fun k e => by have : k = g5 := e; have := hg6.out; omega) (Nat.le_refl _)) fun _ _ _ h => h)
     clear R9 S9 RO8 RI8 RR8 ST8 HO8 LI8
     have E9 := hidP (H3.out.mono (ST9.out.below (C := K.C) (by have := hgl.out; omega) (fun k e => by have : k = gl := e; omega)) (fun _ _ _ h => h.below (ST9.out.below (C := K.C) (by have := hgl.out; omega) (fun k e => by have : k = gl := e; omega))))
     have y3b := RI9.out.cell 3
     simp only [List.getElem?_cons_zero, List.getElem?_cons_succ] at y3b
     try clear y3
     try clear y1
     go_wp2_with fail
     try clear y2
     refine (first74 E9.out).mono ?_
     rintro _ wz2 ⟨u74, rfl, hwz, hu74⟩
     rw [hwz]
     clear hwz
     clear E9 y3b
     rcases hel : t.elem with _ | ⟨e, es⟩
     ·have LQ := hidP (HLZ.out hel)
      rw [hel] at hu74
      obtain ⟨a74, p74, e74⟩ := Ar.form hu74
      have e74' : u74 = .slice a74 0 p74 := e74
      subst e74'
      clear hu74 e74 hel HLQ HLZ
      go_wp2_with fail
      go_loopg [54] 0 (fun k v54 wr => v54 = .int .i64 0 /\ wr = w9)
      case atStart => exact ⟨rfl, rfl⟩
      case round =>
       obtain ⟨rfl, hwr⟩ := hrel
       rw [hwr]
       clear hwr
       have DE9 := hidP (show ArQ 4 72 (RtQ kq (Fr w5 w9) K.B w9) (Fr w5 w9) w9 (.slice none 0 0) ([] : List RTy) from nil_arQ)
       go_wp2_with (first | (refine ldR rfl 25 (.tmp 5) rfl rfl RO9.out Tryz.underlying25 rfl Tryz.sz25 ?_) | (refine stR rfl 25 (.tmp 4) (.tmp 67) rfl (cs := [.int .i64 5, .string SN, .slice a8 1 p8, .slice none 0 0]) rfl rfl RR9.out Tryz.sz25 rfl (ones_cons rfl (ones_cons rfl (ones_cons rfl (ones_cons rfl ones_nil)))) ?_; intro wF RF SF; apply shut))
       show wpList _ _ _ _ _ _
       have STF := hidP (ST9.out.step SF (fun i hi e => absurd hi (by have : i = w.heap.size + 1 := e; omega)))
       have LIF := hidP (LI9.out.stay SF (fun k e => by have : k = w.heap.size + 1 := e; have := hgl.out; omega))
       have hlF : ∀ k, k = w.heap.size + 1 -> k < w5.heap.size := fun k e => by have := hg5.out; have := hg6.out; omega
       have KF := hidP (show Kp (Fr w5 w9) (Fr w wF) w9 wF from kp_stay SF (fun k e => hlF k e) hz5.out)
       have DA := hidP (show ArQ 1 8 NmAt (Fr w wF) wF (.slice a8 1 p8) ([nx]) from DR9.out.mono KF.out fun _ _ _ h => h)
       have DB := hidP (show ArQ 4 72 (RtQ kq (Fr w wF) K.B wF) (Fr w wF) wF (.slice none 0 0) ([]) from DE9.out.mono KF.out fun _ _ _ h => RtQ.mono KF.out h)
       replace RF := hidP RF
       clear SF KF RO9 RR9 ST9 LI9 DR9 DE9 hlF
       go_wp2_with fail
       exact bodyPost_ret (v := .agg #[.int .i64 5, .string SN, .slice a8 1 p8, .slice none 0 0]) (results_cell_row Tryz.results43 _ _ (w.heap.size + 1) 25 _ (0, 0) _ rfl RF.out.heap Tryz.underlying25 rfl (by kernel_rfl)) rfl ⟨[.int .i64 5, .string SN, .slice a8 1 p8, .slice none 0 0], rfl, STF.out, by rw [LQ.out]; exact LIF.out, by
        rw [LQ.out]
        exact ⟨_, _, by rw [HSN.out], HBN.out, DA.out, DB.out⟩⟩
     ·have LQ := hidP (HLQ.out e es hel)
      have HFe := hidP (HF3.out e (by rw [hel]; rfl))
      rw [hel] at hu74
      obtain ⟨a74, p74, e74⟩ := Ar.form hu74
      have e74' : u74 = .slice a74 1 p74 := e74
      subst e74'
      obtain ⟨b1, o1, rfl, hb1, c1, hl1, hr1, hp1⟩ := Ar.head1 (l := []) (show Ar 4 72 (TyAt n K w9) K w9 (.slice a74 1 p74) [e] from hu74)
      clear hu74 e74 HLZ HLQ
      have l4 := hp1.len
      obtain ⟨ca, cb, cc, cd, rfl⟩ : ∃ d0 d1 d2 d3, c1 = [d0, d1, d2, d3] := by
       match c1, l4 with
       | [d0, d1, d2, d3], _ => exact ⟨_, _, _, _, rfl⟩
      have HP1 := hidP hp1
      have HR1 := hidP hr1
      have n1 := hidP (show (#[ca, cb, cc, cd] : Array Value).all (·.oneCell') = true from one_mem hp1.one)
      have hCE := hidP (show K.C <= w9.heap.size by have := hgl.out; have := ST9.out.size; omega)
      clear hp1 hr1 hl1 l4 hb1
      go_wp2_with fail
      go_loopg [54] 1 (fun k v54 wr => (k = 1 /\ v54 = .int .i64 0 /\ wr = w9) ∨ (k = 0 /\ v54 = .int .i64 1 /\ ∃ v, Row wr g5 25 [.int .i64 5, .string SN, .slice a8 1 p8, v] /\ Row wr (w.heap.size + 1) 25 z25 /\ Lif Q B wr gl gs b c gm L lives (liftN L lives kq e (nx + 1)).2 /\ Stay (fun k => k = gl) w wr /\ ArQ 1 8 NmAt (Fr w5 wr) wr (.slice a8 1 p8) ([nx]) /\ ArQ 4 72 (RtQ kq (Fr w5 wr) K.B wr) (Fr w5 wr) wr v [(liftN L lives kq e (nx + 1)).1]))
      case atStart => exact .inl ⟨rfl, rfl, rfl⟩
      case round =>
       rcases hrel with ⟨hk1, rfl, hwr⟩ | ⟨hk0, rfl, v, hv1, hv2, hv3, hv4, hv5, hv6⟩
       ·rw [hwr]
        have hk9 := hidP hk1
        clear hwr hk1
        go_wp2_with (first | (refine wpList_load_mid rfl 36 (.tmp 56) rfl b1 o1 rfl [ca, cb, cc, cd] _ HR1.out Tryz.underlying36 rfl Tryz.sz36 ?_) | (refine store_new rfl 36 (.tmp 7) (.tmp 57) rfl #[ca, cb, cc, cd] _ 36 rfl rfl Tryz.sz36 rfl n1.out ?_; apply shut))
        show wpList _ _ _ _ _ _
        have hB9 := alloc_one w9 (.cells #[ca, cb, cc, cd] 36)
        have R9q := hidP (Row.new w9 36 [ca, cb, cc, cd])
        have RW9 := hidP (RO9.out.below hB9 RO9.out.lt)
        have TX := hidP (show Stay (fun k => k = gl ∨ k = g5) w9 (w9.alloc (.cells #[ca, cb, cc, cd] 36)) from Stay.of_below hB9)
        have LIA := hidP (LI9.out.past hB9)
        have hltg := hidP RO9.out.lt
        have GR0 := hidP (show Gro 4 25 (PRt kq K.B) w9 (w9.alloc (.cells #[ca, cb, cc, cd] 36)) (.slice none 0 0) ([] : List RTy) from Gro.nil)
        have STA := hidP (ST9.out.trans (Stay.of_below hB9))
        have BKA := hidP (below_le hB9 hCE.out)
        have hzA := hidP hB9.size
        generalize hwA : w9.alloc (.cells #[ca, cb, cc, cd] 36) = wA at *
        clear hwA
        clear hB9
        generalize hg7 : w9.heap.size = g7 at R9q ⊢
        have HG7 := hidP hg7
        clear hg7
        go_wp2_with fail
        have hS1 : Row wA.drew g5 25 [.int .i64 5, .string SN, .slice a8 1 p8, .slice none 0 0] /\ Row wA.drew g7 36 [ca, cb, cc, cd] := ⟨RW9.out.drew, R9q.out.drew⟩
        have LID := hidP (LIA.out.stay (X := fun _ => False) ((Stay.refl (fun _ => False) wA).drew) (fun _ h => h.elim))
        have STD := hidP (STA.out.trans ((Stay.refl (fun k => k = gl) wA).drew))
        have TD := hidP (TX.out.trans ((Stay.refl (fun k => k = gl ∨ k = g5) wA).drew))
        have BKD := hidP (show Below K.C w9 wA.drew from BKA.out.drew)
        have ID := hidP (IH.out wA.drew STD.out (nx + 1) LID.out [ca, cb, cc, cd] e (HP1.out.below BKD.out) HFe.out (by omega) (by omega))
        have GD := hidP (GR0.out.stay (moRt kq K.B) ((Stay.refl (fun _ => False) wA).drew) (fun _ h => h.elim))
        have BES := hidP (fun (y : World) => (GD.out.beside (w := y) (show w9.heap.size <= wA.drew.heap.size from hzA.out) : Kp (Fr wA.drew y) (Qv w9 y (.slice none 0 0)) y y))
        have ZD := hidP (show w9.heap.size <= wA.drew.heap.size from hzA.out)
        clear RW9 R9q GR0 STA TX LIA BKA hzA LID STD BKD
        refine beginL (fun y => Row y g5 25 [.int .i64 5, .string SN, .slice a8 1 p8, .slice none 0 0] /\ Row y g7 36 [ca, cb, cc, cd]) 8 (by kernel_rfl) hS1 (fun hSS => ?_)
        refine takeL 0 (v := ?_) rfl (some 58) rfl (by decide) (by kernel_rfl) (by kernel_rfl) (by kernel_rfl) (by kernel_rfl) (fun _ _ _ h => h) (Or.inl ⟨by rfl, ?_⟩) hSS ?_
        rotate_left
        ·(intro y hy; have j3 := hy.1.cell 3; have q0 := hy.2.cell 0; have q1 := hy.2.cell 1; have q2 := hy.2.cell 2; have q3 := hy.2.cell 3; simp only [List.getElem?_cons_zero, List.getElem?_cons_succ] at j3 q0 q1 q2 q3; go_simp; with_reducible rfl)
        try simp only [Act.put]
        try simp only [List.setIfInBounds_toArray]
        try simp only [List.set_cons_succ]
        try simp only [List.set_cons_zero]
        refine takeL 1 (v := ?_) rfl (some 59) rfl (by decide) (by kernel_rfl) (by kernel_rfl) (by kernel_rfl) (by kernel_rfl) (fun _ _ _ h => h) (Or.inl ⟨by rfl, ?_⟩) hSS ?_
        rotate_left
        ·(intro y hy; have j3 := hy.1.cell 3; have q0 := hy.2.cell 0; have q1 := hy.2.cell 1; have q2 := hy.2.cell 2; have q3 := hy.2.cell 3; simp only [List.getElem?_cons_zero, List.getElem?_cons_succ] at j3 q0 q1 q2 q3; go_simp; with_reducible rfl)
        try simp only [Act.put]
        try simp only [List.setIfInBounds_toArray]
        try simp only [List.set_cons_succ]
        try simp only [List.set_cons_zero]
        refine takeL 2 (v := ?_) rfl (some 60) rfl (by decide) (by kernel_rfl) (by kernel_rfl) (by kernel_rfl) (by kernel_rfl) (fun _ _ _ h => h) (Or.inl ⟨by rfl, ?_⟩) hSS ?_
        rotate_left
        ·(intro y hy; have j3 := hy.1.cell 3; have q0 := hy.2.cell 0; have q1 := hy.2.cell 1; have q2 := hy.2.cell 2; have q3 := hy.2.cell 3; simp only [List.getElem?_cons_zero, List.getElem?_cons_succ] at j3 q0 q1 q2 q3; go_simp; with_reducible rfl)
        try simp only [Act.put]
        try simp only [List.setIfInBounds_toArray]
        try simp only [List.set_cons_succ]
        try simp only [List.set_cons_zero]
        refine takeL 3 (v := ?_) rfl (some 61) rfl (by decide) (by kernel_rfl) (by kernel_rfl) (by kernel_rfl) (by kernel_rfl) (fun _ _ _ h => h) (Or.inl ⟨by rfl, ?_⟩) hSS ?_
        rotate_left
        ·(intro y hy; have j3 := hy.1.cell 3; have q0 := hy.2.cell 0; have q1 := hy.2.cell 1; have q2 := hy.2.cell 2; have q3 := hy.2.cell 3; simp only [List.getElem?_cons_zero, List.getElem?_cons_succ] at j3 q0 q1 q2 q3; go_simp; with_reducible rfl)
        try simp only [Act.put]
        try simp only [List.setIfInBounds_toArray]
        try simp only [List.set_cons_succ]
        try simp only [List.set_cons_zero]
        refine readyL (rs := [4]) (by kernel_rfl) (by simp) ?_
        refine ReadyL.cons rfl (fun KK hK => ?_) ReadyL.nil
        refine wantR (by rfl) ?_
        go_simp
        refine ID.out.mono ?_
        rintro _ wq ⟨c6, rfl, hst6, hli6, hq6⟩
        have hSS2 := (⟨hst6.row hSS.1 (by have := hg5.out; have := hgl.out; omega), hst6.row hSS.2 (by have := HG7.out; have := hltg.out; have := hg5.out; have := hgl.out; omega)⟩ : Row wq g5 25 [.int .i64 5, .string SN, .slice a8 1 p8, .slice none 0 0] /\ Row wq g7 36 [ca, cb, cc, cd])
        have G6 := hidP (GD.out.stay (moRt kq K.B) hst6 (fun k e => by have : k = gl := e; have := hltg.out; have := hg5.out; have := hgl.out; omega))
        have T6 := hidP (TD.out.step hst6 (fun i hi hy => Or.inl hy))
        have Z6 := hidP (Nat.le_trans ZD.out hst6.size)
        have LI6q := hidP hli6
        have Q6 := hidP hq6
        refine hK.out _ _ (fun _ => hSS2) (fun _ => ?_)
        clear hK KK hSS hst6 hli6 hq6 GD TD ID
        have hSS := hSS2
        clear hSS2
        try simp only [Act.put]
        try simp only [List.setIfInBounds_toArray]
        try simp only [List.set_cons_succ]
        try simp only [List.set_cons_zero]
        refine readyL (rs := [5]) (by kernel_rfl) (by simp) ?_
        refine ReadyL.cons rfl (fun KK hK => ?_) ReadyL.nil
        refine wantR (by rfl) ?_
        refine wpo_bsU 23 25 4 72 _ (.agg c6.toArray) (.tmp 62) rfl Tryz.underlying23 Tryz.info25S (by decide) (by decide) rfl c6 rfl Q6.out.len rfl ?_
        intro w7q hR7 hB7 hz7q
        have hSS2 := (⟨hSS.1.below hB7 hSS.1.lt, hSS.2.below hB7 hSS.2.lt⟩ : Row w7q g5 25 [.int .i64 5, .string SN, .slice a8 1 p8, .slice none 0 0] /\ Row w7q g7 36 [ca, cb, cc, cd])
        have G7 := hidP (G6.out.past (moRt kq K.B) hB7)
        have T7 := hidP (T6.out.trans (Stay.of_below hB7))
        have Z7 := hidP (Nat.le_trans Z6.out hB7.size)
        have LI7q := hidP (LI6q.out.past hB7)
        have Q7 := hidP (show RtQ kq (Fr wA.drew w7q) K.B w7q c6 (liftN L lives kq e (nx + 1)).1 from Q6.out.mono (kp_stay (X := fun _ => False) (Stay.of_below hB7) (fun _ h => h.elim) (Nat.le_refl _)))
        have R7q := hidP hR7
        refine hK.out (Act.put _ (some 63) _) _ (fun _ => hSS2) (fun _ => ?_)
        clear hK KK hSS hB7 hR7 hz7q G6 T6 Z6 Q6 LI6q
        have hSS := hSS2
        clear hSS2
        try simp only [Act.put]
        try simp only [List.setIfInBounds_toArray]
        try simp only [List.set_cons_succ]
        try simp only [List.set_cons_zero]
        refine readyL (rs := [6]) (by kernel_rfl) (by simp) ?_
        refine ReadyL.cons rfl (fun KK hK => ?_) ReadyL.nil
        refine wantR (by rfl) ?_
        refine wpo_groK (.tmp 59) (.tmp 63) (moRt kq K.B) rfl Tryz.underlying23 Tryz.info25S rfl (by decide) rfl rfl G7.out Z7.out R7q.out Q7.out.len Q7.out.ones (x := (liftN L lives kq e (nx + 1)).1) (Q7.out.mono (BES.out w7q)) (by decide) (by decide) ?_
        intro fo fp w8q G8 B8 K8
        have hSS2 := (⟨hSS.1.below B8 hltg.out, hSS.2.keep (K8 _ hSS.2.lt (fun h => by cases h))⟩ : Row w8q g5 25 [.int .i64 5, .string SN, .slice a8 1 p8, .slice none 0 0] /\ Row w8q g7 36 [ca, cb, cc, cd])
        have T8 := hidP (T7.out.step (stay_up B8) (fun i hi hy => absurd hi (Nat.not_lt.2 hy)))
        have LI8q := hidP (LI7q.out.stay (stay_up B8) (fun k hk => by have := hltg.out; have := hg5.out; have := hgl.out; have : w9.heap.size <= k := hk; omega))
        replace G8 := hidP G8
        refine hK.out (Act.put _ (some 64) _) _ (fun _ => hSS2) (fun _ => ?_)
        clear hK KK hSS B8 K8 G7 T7 Z7 Q7 R7q LI7q
        have hSS := hSS2
        clear hSS2
        try simp only [Act.put]
        try simp only [List.setIfInBounds_toArray]
        try simp only [List.set_cons_succ]
        try simp only [List.set_cons_zero]
        refine takeL 7 (v := ?_) rfl (some 65) rfl (by decide) (by kernel_rfl) (by kernel_rfl) (by kernel_rfl) (by kernel_rfl) (fun _ _ _ h => h) (Or.inl ⟨by rfl, ?_⟩) hSS ?_
        rotate_left
        ·(intro y hy; have j3 := hy.1.cell 3; have q0 := hy.2.cell 0; have q1 := hy.2.cell 1; have q2 := hy.2.cell 2; have q3 := hy.2.cell 3; simp only [List.getElem?_cons_zero, List.getElem?_cons_succ] at j3 q0 q1 q2 q3; go_simp; with_reducible rfl)
        try simp only [Act.put]
        try simp only [List.setIfInBounds_toArray]
        try simp only [List.set_cons_succ]
        try simp only [List.set_cons_zero]
        refine readyL (rs := [8]) (by kernel_rfl) (by simp) ?_
        refine ReadyL.cons rfl (fun KK hK => ?_) ReadyL.nil
        refine wantR (by rfl) ?_
        refine wpo_stC (v := .slice fo 1 fp) 23 (.tmp 65) (.tmp 64) rfl rfl rfl hSS.1 (sv23 hSS.1 rfl _ _ _) ?_
        intro w9q R9z S9z
        simp only [List.set_cons_zero, List.set_cons_succ] at R9z
        have G9 := hidP (G8.out.stay (moRt kq K.B) S9z (fun k e => by have : k = g5 := e; have := hltg.out; omega))
        have T9 := hidP (T8.out.step S9z (fun i hi hy => Or.inr hy))
        have LI9q := hidP (LI8q.out.stay S9z (fun k e => by have : k = g5 := e; have := hg5.out; have := hgl.out; omega))
        replace R9z := hidP R9z
        refine hK.out (Act.put _ none _) _ (fun h => absurd rfl h) (fun _ => ?_)
        clear hK KK hSS T8 G8 S9z LI8q
        refine doneL (by kernel_rfl) ?_ _
        have DEe := hidP (show ArQ 4 72 (RtQ kq (Fr w5 w9q) K.B w9q) (Fr w5 w9q) w9q (.slice fo 1 fp) [(liftN L lives kq e (nx + 1)).1] from (G9.out.done (bz := 72) (moRt kq K.B) (by simp)).mono (Kp.fr' hz9.out) fun _ _ _ h => RtQ.mono (Kp.fr' hz9.out) h)
        have DRe := hidP (show ArQ 1 8 NmAt (Fr w5 w9q) w9q (.slice a8 1 p8) ([nx]) from DR9.out.mono (kp_stay T9.out (fun k e => by have := hg5.out; have := hg6.out; have := hgl.out; rcases e with h | h <;> omega) (Nat.le_refl _)) fun _ _ _ h => h)
        have RRe := hidP (T9.out.row RR9.out (by have := hg5.out; have := hgl.out; show ¬ (w.heap.size + 1 = gl ∨ w.heap.size + 1 = g5); omega))
        have STe := hidP (ST9.out.step T9.out (fun i hi e => by have := hg5.out; rcases e with h | h; exact h; omega))
        clear G9 T9 DR9 RR9 ST9 RO9 LI9 BES ZD
        go_wp2_with fail
        go_roundg 0
        case measure => have := hk9.out; omega
        case rel => exact .inr ⟨rfl, by go_num, _, R9z.out, RRe.out, LI9q.out, STe.out, DRe.out, DEe.out⟩
       ·obtain ⟨ao9, cp9, rfl⟩ := hv6.form
        have ROZ := hidP hv1
        have RRZ := hidP hv2
        have LIZ := hidP hv3
        have STZ := hidP hv4
        have DRZ := hidP hv5
        have DEZ := hidP hv6
        clear hv1 hv2 hv3 hv4 hv5 hv6 DR9 RR9 ST9 RO9 LI9 HR1 HP1
        generalize wr = wZ at *
        go_wp2_with (first | (refine ldR rfl 25 (.tmp 5) rfl rfl ROZ.out Tryz.underlying25 rfl Tryz.sz25 ?_) | (refine stR rfl 25 (.tmp 4) (.tmp 67) rfl (cs := [.int .i64 5, .string SN, .slice a8 1 p8, .slice ao9 1 cp9]) rfl rfl RRZ.out Tryz.sz25 rfl (ones_cons rfl (ones_cons rfl (ones_cons rfl (ones_cons rfl ones_nil)))) ?_; intro wF RF SF; apply shut))
        show wpList _ _ _ _ _ _
        have STF := hidP (STZ.out.step SF (fun i hi e => absurd hi (by have : i = w.heap.size + 1 := e; omega)))
        have LIF := hidP (LIZ.out.stay SF (fun k e => by have : k = w.heap.size + 1 := e; have := hgl.out; omega))
        have hlF : ∀ k, k = w.heap.size + 1 -> k < w5.heap.size := fun k e => by have := hg5.out; have := hg6.out; omega
        have KF := hidP (show Kp (Fr w5 wZ) (Fr w wF) wZ wF from kp_stay SF (fun k e => hlF k e) hz5.out)
        have DA := hidP (show ArQ 1 8 NmAt (Fr w wF) wF (.slice a8 1 p8) ([nx]) from DRZ.out.mono KF.out fun _ _ _ h => h)
        have DB := hidP (show ArQ 4 72 (RtQ kq (Fr w wF) K.B wF) (Fr w wF) wF (.slice ao9 1 cp9) ([(liftN L lives kq e (nx + 1)).1]) from DEZ.out.mono KF.out fun _ _ _ h => RtQ.mono KF.out h)
        replace RF := hidP RF
        clear SF KF ROZ RRZ STZ LIZ DRZ DEZ hlF
        go_wp2_with fail
        exact bodyPost_ret (v := .agg #[.int .i64 5, .string SN, .slice a8 1 p8, .slice ao9 1 cp9]) (results_cell_row Tryz.results43 _ _ (w.heap.size + 1) 25 _ (0, 0) _ rfl RF.out.heap Tryz.underlying25 rfl (by kernel_rfl)) rfl ⟨[.int .i64 5, .string SN, .slice a8 1 p8, .slice ao9 1 cp9], rfl, STF.out, by rw [LQ.out]; exact LIF.out, by
         rw [LQ.out]
         exact ⟨_, _, by rw [HSN.out], HBN.out, DA.out, DB.out⟩⟩
    ·have hle : t.lives ≠ [] := fun e => h0 (by rw [← HNL.out, e]; rfl)
     have HLQ := hidP (fun e es (he : t.elem = e :: es) => show liftN L lives (kq + 1) t nx = (⟨5, t.name, (t.lives.take 1).map (numL lives), [(liftN L lives kq e nx).1]⟩, (liftN L lives kq e nx).2) by
      rw [liftN, if_neg (by rw [HKD.out]; decide), if_pos (by rw [HKD.out]; exact .inr rfl), he]
      simp only [if_neg hle]
      rw [HKD.out])
     have HLZ := hidP (fun (he : t.elem = []) => show liftN L lives (kq + 1) t nx = (⟨5, t.name, (t.lives.take 1).map (numL lives), []⟩, nx) by
      rw [liftN, if_neg (by rw [HKD.out]; decide), if_pos (by rw [HKD.out]; exact .inr rfl), he]
      simp only [if_neg hle]
      rw [HKD.out])
     have e0 : ((nl : Int) == 0) = false := by simp; omega
     go_wp2_with fail
     refine (first73 L5.out).mono ?_
     rintro _ wz ⟨u73, rfl, hwz, hu73⟩
     rw [hwz]
     clear hwz
     generalize hq1 : t.lives.take 1 = l1 at hu73
     have HQ1 := hidP hq1
     have hl1 : l1.length = 1 := by rw [← hq1, List.length_take, HNL.out]; omega
     have L1 := hidP hu73
     obtain ⟨a73, p73, e73⟩ := Ar.form hu73
     rw [hl1] at e73
     subst e73
     have HL1 := hidP hl1
     clear hu73 hq1 hl1
     go_wp2_with fail
     refine (written70 LI5.out.row LI5.out.mp L1.out HC5.out (by have := HL1.out; omega)).mono ?_
     rintro _ w6 ⟨u, rfl, hb6, ho6⟩
     rw [HL1.out] at ho6
     obtain ⟨au, pu, rfl⟩ := own_slice ho6
     have RO6 := hidP (RO.out.below hb6 hg6.out)
     have RI6 := hidP (RI.out.below hb6 RI.out.lt)
     have RR6 := hidP (RR.out.below hb6 RR.out.lt)
     have LI6 := hidP (LI5.out.past hb6)
     have ST6 := hidP (ST5.out.trans (Stay.of_below hb6))
     have HO6 := hidP ho6
     clear RO RI RR ho6 y2 y0
     go_wp2_with (first | (refine stC rfl 22 (.tmp 42) (.tmp 41) rfl rfl rfl RO6.out (svN RO6.out rfl _ _ _) ?_; intro w7 R7 S7; apply shut))
     show wpList _ _ _ _ _ _
     simp only [List.set_cons_zero, List.set_cons_succ] at R7
     have RO7 := hidP R7
     have RI7 := hidP (S7.row RI6.out (by have := hg5.out; omega))
     have RR7 := hidP (S7.row RR6.out (by have := hg5.out; omega))
     have LI7 := hidP (LI6.out.stay S7 (fun k e => by have : k = g5 := e; have := hg5.out; have := hgl.out; omega))
     have ST7 := hidP (ST6.out.step S7 (fun i hi e => absurd hi (by have : i = g5 := e; have := hg5.out; omega)))
     have SW7 := hidP (show Stay (fun k => k = g5) w6 w7 from S7)
     have hz7 := hidP (show w5.heap.size <= w7.heap.size from Nat.le_trans hb6.size S7.size)
     have y1 := RI7.out.cell 1
     have y2 := RI7.out.cell 2
     have y3 := RI7.out.cell 3
     simp only [List.getElem?_cons_zero, List.getElem?_cons_succ] at y1 y2 y3
     clear R7 S7 RO6 RI6 RR6 LI6 ST6 hb6
     have HDR := hidP (HFC.out w6 _ (l1.map (numL lives)) _ HO6.out (by rw [List.length_map, HL1.out]) (by decide))
     have SK := hidP (kp_stay (w0 := w5) SW7.out (fun k e => by have : k = g5 := e; have := hg6.out; omega) (Nat.le_refl _))
     clear HO6 SW7
     have DR7 := hidP (show ArQ 1 8 NmAt (Fr w5 w7) w7 (.slice au 1 pu) ((t.lives.take 1).map (numL lives)) from by rw [HQ1.out]; exact HDR.out.mono SK.out fun _ _ _ h => h)
     clear HDR SK
     have E7 := hidP (H3.out.mono (ST7.out.below (C := K.C) (by have := hgl.out; omega) (fun k e => by have : k = gl := e; omega)) (fun _ _ _ h => h.below (ST7.out.below (C := K.C) (by have := hgl.out; omega) (fun k e => by have : k = gl := e; omega))))
     have y3b := RI7.out.cell 3
     simp only [List.getElem?_cons_zero, List.getElem?_cons_succ] at y3b
     try clear y3
     try clear y1
     go_wp2_with fail
     try clear y2
     refine (first74 E7.out).mono ?_
     rintro _ wz2 ⟨u74, rfl, hwz, hu74⟩
     rw [hwz]
     clear hwz
     clear E7 y3b
     rcases hel : t.elem with _ | ⟨e, es⟩
     ·have LQ := hidP (HLZ.out hel)
      rw [hel] at hu74
      obtain ⟨a74, p74, e74⟩ := Ar.form hu74
      have e74' : u74 = .slice a74 0 p74 := e74
      subst e74'
      clear hu74 e74 hel HLQ HLZ
      go_wp2_with fail
      go_loopg [54] 0 (fun k v54 wr => v54 = .int .i64 0 /\ wr = w7)
      case atStart => exact ⟨rfl, rfl⟩
      case round =>
       obtain ⟨rfl, hwr⟩ := hrel
       rw [hwr]
       clear hwr
       have DE7 := hidP (show ArQ 4 72 (RtQ kq (Fr w5 w7) K.B w7) (Fr w5 w7) w7 (.slice none 0 0) ([] : List RTy) from nil_arQ)
       go_wp2_with (first | (refine ldR rfl 25 (.tmp 5) rfl rfl RO7.out Tryz.underlying25 rfl Tryz.sz25 ?_) | (refine stR rfl 25 (.tmp 4) (.tmp 67) rfl (cs := [.int .i64 5, .string SN, .slice au 1 pu, .slice none 0 0]) rfl rfl RR7.out Tryz.sz25 rfl (ones_cons rfl (ones_cons rfl (ones_cons rfl (ones_cons rfl ones_nil)))) ?_; intro wF RF SF; apply shut))
       show wpList _ _ _ _ _ _
       have STF := hidP (ST7.out.step SF (fun i hi e => absurd hi (by have : i = w.heap.size + 1 := e; omega)))
       have LIF := hidP (LI7.out.stay SF (fun k e => by have : k = w.heap.size + 1 := e; have := hgl.out; omega))
       have hlF : ∀ k, k = w.heap.size + 1 -> k < w5.heap.size := fun k e => by have := hg5.out; have := hg6.out; omega
       have KF := hidP (show Kp (Fr w5 w7) (Fr w wF) w7 wF from kp_stay SF (fun k e => hlF k e) hz5.out)
       have DA := hidP (show ArQ 1 8 NmAt (Fr w wF) wF (.slice au 1 pu) ((t.lives.take 1).map (numL lives)) from DR7.out.mono KF.out fun _ _ _ h => h)
       have DB := hidP (show ArQ 4 72 (RtQ kq (Fr w wF) K.B wF) (Fr w wF) wF (.slice none 0 0) ([]) from DE7.out.mono KF.out fun _ _ _ h => RtQ.mono KF.out h)
       replace RF := hidP RF
       clear SF KF RO7 RR7 ST7 LI7 DR7 DE7 hlF
       go_wp2_with fail
       exact bodyPost_ret (v := .agg #[.int .i64 5, .string SN, .slice au 1 pu, .slice none 0 0]) (results_cell_row Tryz.results43 _ _ (w.heap.size + 1) 25 _ (0, 0) _ rfl RF.out.heap Tryz.underlying25 rfl (by kernel_rfl)) rfl ⟨[.int .i64 5, .string SN, .slice au 1 pu, .slice none 0 0], rfl, STF.out, by rw [LQ.out]; exact LIF.out, by
        rw [LQ.out]
        exact ⟨_, _, by rw [HSN.out], HBN.out, DA.out, DB.out⟩⟩
     ·have LQ := hidP (HLQ.out e es hel)
      have HFe := hidP (HF3.out e (by rw [hel]; rfl))
      rw [hel] at hu74
      obtain ⟨a74, p74, e74⟩ := Ar.form hu74
      have e74' : u74 = .slice a74 1 p74 := e74
      subst e74'
      obtain ⟨b1, o1, rfl, hb1, c1, hl1, hr1, hp1⟩ := Ar.head1 (l := []) (show Ar 4 72 (TyAt n K w7) K w7 (.slice a74 1 p74) [e] from hu74)
      clear hu74 e74 HLZ HLQ
      have l4 := hp1.len
      obtain ⟨ca, cb, cc, cd, rfl⟩ : ∃ d0 d1 d2 d3, c1 = [d0, d1, d2, d3] := by
       match c1, l4 with
       | [d0, d1, d2, d3], _ => exact ⟨_, _, _, _, rfl⟩
      have HP1 := hidP hp1
      have HR1 := hidP hr1
      have n1 := hidP (show (#[ca, cb, cc, cd] : Array Value).all (·.oneCell') = true from one_mem hp1.one)
      have hCE := hidP (show K.C <= w7.heap.size by have := hgl.out; have := ST7.out.size; omega)
      clear hp1 hr1 hl1 l4 hb1
      go_wp2_with fail
      go_loopg [54] 1 (fun k v54 wr => (k = 1 /\ v54 = .int .i64 0 /\ wr = w7) ∨ (k = 0 /\ v54 = .int .i64 1 /\ ∃ v, Row wr g5 25 [.int .i64 5, .string SN, .slice au 1 pu, v] /\ Row wr (w.heap.size + 1) 25 z25 /\ Lif Q B wr gl gs b c gm L lives (liftN L lives kq e (nx)).2 /\ Stay (fun k => k = gl) w wr /\ ArQ 1 8 NmAt (Fr w5 wr) wr (.slice au 1 pu) ((t.lives.take 1).map (numL lives)) /\ ArQ 4 72 (RtQ kq (Fr w5 wr) K.B wr) (Fr w5 wr) wr v [(liftN L lives kq e (nx)).1]))
      case atStart => exact .inl ⟨rfl, rfl, rfl⟩
      case round =>
       rcases hrel with ⟨hk1, rfl, hwr⟩ | ⟨hk0, rfl, v, hv1, hv2, hv3, hv4, hv5, hv6⟩
       ·rw [hwr]
        have hk9 := hidP hk1
        clear hwr hk1
        go_wp2_with (first | (refine wpList_load_mid rfl 36 (.tmp 56) rfl b1 o1 rfl [ca, cb, cc, cd] _ HR1.out Tryz.underlying36 rfl Tryz.sz36 ?_) | (refine store_new rfl 36 (.tmp 7) (.tmp 57) rfl #[ca, cb, cc, cd] _ 36 rfl rfl Tryz.sz36 rfl n1.out ?_; apply shut))
        show wpList _ _ _ _ _ _
        have hB9 := alloc_one w7 (.cells #[ca, cb, cc, cd] 36)
        have R9q := hidP (Row.new w7 36 [ca, cb, cc, cd])
        have RW9 := hidP (RO7.out.below hB9 RO7.out.lt)
        have TX := hidP (show Stay (fun k => k = gl ∨ k = g5) w7 (w7.alloc (.cells #[ca, cb, cc, cd] 36)) from Stay.of_below hB9)
        have LIA := hidP (LI7.out.past hB9)
        have hltg := hidP RO7.out.lt
        have GR0 := hidP (show Gro 4 25 (PRt kq K.B) w7 (w7.alloc (.cells #[ca, cb, cc, cd] 36)) (.slice none 0 0) ([] : List RTy) from Gro.nil)
        have STA := hidP (ST7.out.trans (Stay.of_below hB9))
        have BKA := hidP (below_le hB9 hCE.out)
        have hzA := hidP hB9.size
        generalize hwA : w7.alloc (.cells #[ca, cb, cc, cd] 36) = wA at *
        clear hwA
        clear hB9
        generalize hg7 : w7.heap.size = g7 at R9q ⊢
        have HG7 := hidP hg7
        clear hg7
        go_wp2_with fail
        have hS1 : Row wA.drew g5 25 [.int .i64 5, .string SN, .slice au 1 pu, .slice none 0 0] /\ Row wA.drew g7 36 [ca, cb, cc, cd] := ⟨RW9.out.drew, R9q.out.drew⟩
        have LID := hidP (LIA.out.stay (X := fun _ => False) ((Stay.refl (fun _ => False) wA).drew) (fun _ h => h.elim))
        have STD := hidP (STA.out.trans ((Stay.refl (fun k => k = gl) wA).drew))
        have TD := hidP (TX.out.trans ((Stay.refl (fun k => k = gl ∨ k = g5) wA).drew))
        have BKD := hidP (show Below K.C w7 wA.drew from BKA.out.drew)
        have ID := hidP (IH.out wA.drew STD.out (nx) LID.out [ca, cb, cc, cd] e (HP1.out.below BKD.out) HFe.out (by omega) (by omega))
        have GD := hidP (GR0.out.stay (moRt kq K.B) ((Stay.refl (fun _ => False) wA).drew) (fun _ h => h.elim))
        have BES := hidP (fun (y : World) => (GD.out.beside (w := y) (show w7.heap.size <= wA.drew.heap.size from hzA.out) : Kp (Fr wA.drew y) (Qv w7 y (.slice none 0 0)) y y))
        have ZD := hidP (show w7.heap.size <= wA.drew.heap.size from hzA.out)
        clear RW9 R9q GR0 STA TX LIA BKA hzA LID STD BKD
        refine beginL (fun y => Row y g5 25 [.int .i64 5, .string SN, .slice au 1 pu, .slice none 0 0] /\ Row y g7 36 [ca, cb, cc, cd]) 8 (by kernel_rfl) hS1 (fun hSS => ?_)
        refine takeL 0 (v := ?_) rfl (some 58) rfl (by decide) (by kernel_rfl) (by kernel_rfl) (by kernel_rfl) (by kernel_rfl) (fun _ _ _ h => h) (Or.inl ⟨by rfl, ?_⟩) hSS ?_
        rotate_left
        ·(intro y hy; have j3 := hy.1.cell 3; have q0 := hy.2.cell 0; have q1 := hy.2.cell 1; have q2 := hy.2.cell 2; have q3 := hy.2.cell 3; simp only [List.getElem?_cons_zero, List.getElem?_cons_succ] at j3 q0 q1 q2 q3; go_simp; with_reducible rfl)
        try simp only [Act.put]
        try simp only [List.setIfInBounds_toArray]
        try simp only [List.set_cons_succ]
        try simp only [List.set_cons_zero]
        refine takeL 1 (v := ?_) rfl (some 59) rfl (by decide) (by kernel_rfl) (by kernel_rfl) (by kernel_rfl) (by kernel_rfl) (fun _ _ _ h => h) (Or.inl ⟨by rfl, ?_⟩) hSS ?_
        rotate_left
        ·(intro y hy; have j3 := hy.1.cell 3; have q0 := hy.2.cell 0; have q1 := hy.2.cell 1; have q2 := hy.2.cell 2; have q3 := hy.2.cell 3; simp only [List.getElem?_cons_zero, List.getElem?_cons_succ] at j3 q0 q1 q2 q3; go_simp; with_reducible rfl)
        try simp only [Act.put]
        try simp only [List.setIfInBounds_toArray]
        try simp only [List.set_cons_succ]
        try simp only [List.set_cons_zero]
        refine takeL 2 (v := ?_) rfl (some 60) rfl (by decide) (by kernel_rfl) (by kernel_rfl) (by kernel_rfl) (by kernel_rfl) (fun _ _ _ h => h) (Or.inl ⟨by rfl, ?_⟩) hSS ?_
        rotate_left
        ·(intro y hy; have j3 := hy.1.cell 3; have q0 := hy.2.cell 0; have q1 := hy.2.cell 1; have q2 := hy.2.cell 2; have q3 := hy.2.cell 3; simp only [List.getElem?_cons_zero, List.getElem?_cons_succ] at j3 q0 q1 q2 q3; go_simp; with_reducible rfl)
        try simp only [Act.put]
        try simp only [List.setIfInBounds_toArray]
        try simp only [List.set_cons_succ]
        try simp only [List.set_cons_zero]
        refine takeL 3 (v := ?_) rfl (some 61) rfl (by decide) (by kernel_rfl) (by kernel_rfl) (by kernel_rfl) (by kernel_rfl) (fun _ _ _ h => h) (Or.inl ⟨by rfl, ?_⟩) hSS ?_
        rotate_left
        ·(intro y hy; have j3 := hy.1.cell 3; have q0 := hy.2.cell 0; have q1 := hy.2.cell 1; have q2 := hy.2.cell 2; have q3 := hy.2.cell 3; simp only [List.getElem?_cons_zero, List.getElem?_cons_succ] at j3 q0 q1 q2 q3; go_simp; with_reducible rfl)
        try simp only [Act.put]
        try simp only [List.setIfInBounds_toArray]
        try simp only [List.set_cons_succ]
        try simp only [List.set_cons_zero]
        refine readyL (rs := [4]) (by kernel_rfl) (by simp) ?_
        refine ReadyL.cons rfl (fun KK hK => ?_) ReadyL.nil
        refine wantR (by rfl) ?_
        go_simp
        refine ID.out.mono ?_
        rintro _ wq ⟨c6, rfl, hst6, hli6, hq6⟩
        have hSS2 := (⟨hst6.row hSS.1 (by have := hg5.out; have := hgl.out; omega), hst6.row hSS.2 (by have := HG7.out; have := hltg.out; have := hg5.out; have := hgl.out; omega)⟩ : Row wq g5 25 [.int .i64 5, .string SN, .slice au 1 pu, .slice none 0 0] /\ Row wq g7 36 [ca, cb, cc, cd])
        have G6 := hidP (GD.out.stay (moRt kq K.B) hst6 (fun k e => by have : k = gl := e; have := hltg.out; have := hg5.out; have := hgl.out; omega))
        have T6 := hidP (TD.out.step hst6 (fun i hi hy => Or.inl hy))
        have Z6 := hidP (Nat.le_trans ZD.out hst6.size)
        have LI6q := hidP hli6
        have Q6 := hidP hq6
        refine hK.out _ _ (fun _ => hSS2) (fun _ => ?_)
        clear hK KK hSS hst6 hli6 hq6 GD TD ID
        have hSS := hSS2
        clear hSS2
        try simp only [Act.put]
        try simp only [List.setIfInBounds_toArray]
        try simp only [List.set_cons_succ]
        try simp only [List.set_cons_zero]
        refine readyL (rs := [5]) (by kernel_rfl) (by simp) ?_
        refine ReadyL.cons rfl (fun KK hK => ?_) ReadyL.nil
        refine wantR (by rfl) ?_
        refine wpo_bsU 23 25 4 72 _ (.agg c6.toArray) (.tmp 62) rfl Tryz.underlying23 Tryz.info25S (by decide) (by decide) rfl c6 rfl Q6.out.len rfl ?_
        intro w7q hR7 hB7 hz7q
        have hSS2 := (⟨hSS.1.below hB7 hSS.1.lt, hSS.2.below hB7 hSS.2.lt⟩ : Row w7q g5 25 [.int .i64 5, .string SN, .slice au 1 pu, .slice none 0 0] /\ Row w7q g7 36 [ca, cb, cc, cd])
        have G7 := hidP (G6.out.past (moRt kq K.B) hB7)
        have T7 := hidP (T6.out.trans (Stay.of_below hB7))
        have Z7 := hidP (Nat.le_trans Z6.out hB7.size)
        have LI7q := hidP (LI6q.out.past hB7)
        have Q7 := hidP (show RtQ kq (Fr wA.drew w7q) K.B w7q c6 (liftN L lives kq e (nx)).1 from Q6.out.mono (kp_stay (X := fun _ => False) (Stay.of_below hB7) (fun _ h => h.elim) (Nat.le_refl _)))
        have R7q := hidP hR7
        refine hK.out (Act.put _ (some 63) _) _ (fun _ => hSS2) (fun _ => ?_)
        clear hK KK hSS hB7 hR7 hz7q G6 T6 Z6 Q6 LI6q
        have hSS := hSS2
        clear hSS2
        try simp only [Act.put]
        try simp only [List.setIfInBounds_toArray]
        try simp only [List.set_cons_succ]
        try simp only [List.set_cons_zero]
        refine readyL (rs := [6]) (by kernel_rfl) (by simp) ?_
        refine ReadyL.cons rfl (fun KK hK => ?_) ReadyL.nil
        refine wantR (by rfl) ?_
        refine wpo_groK (.tmp 59) (.tmp 63) (moRt kq K.B) rfl Tryz.underlying23 Tryz.info25S rfl (by decide) rfl rfl G7.out Z7.out R7q.out Q7.out.len Q7.out.ones (x := (liftN L lives kq e (nx)).1) (Q7.out.mono (BES.out w7q)) (by decide) (by decide) ?_
        intro fo fp w8q G8 B8 K8
        have hSS2 := (⟨hSS.1.below B8 hltg.out, hSS.2.keep (K8 _ hSS.2.lt (fun h => by cases h))⟩ : Row w8q g5 25 [.int .i64 5, .string SN, .slice au 1 pu, .slice none 0 0] /\ Row w8q g7 36 [ca, cb, cc, cd])
        have T8 := hidP (T7.out.step (stay_up B8) (fun i hi hy => absurd hi (Nat.not_lt.2 hy)))
        have LI8q := hidP (LI7q.out.stay (stay_up B8) (fun k hk => by have := hltg.out; have := hg5.out; have := hgl.out; have : w7.heap.size <= k := hk; omega))
        replace G8 := hidP G8
        refine hK.out (Act.put _ (some 64) _) _ (fun _ => hSS2) (fun _ => ?_)
        clear hK KK hSS B8 K8 G7 T7 Z7 Q7 R7q LI7q
        have hSS := hSS2
        clear hSS2
        try simp only [Act.put]
        try simp only [List.setIfInBounds_toArray]
        try simp only [List.set_cons_succ]
        try simp only [List.set_cons_zero]
        refine takeL 7 (v := ?_) rfl (some 65) rfl (by decide) (by kernel_rfl) (by kernel_rfl) (by kernel_rfl) (by kernel_rfl) (fun _ _ _ h => h) (Or.inl ⟨by rfl, ?_⟩) hSS ?_
        rotate_left
        ·(intro y hy; have j3 := hy.1.cell 3; have q0 := hy.2.cell 0; have q1 := hy.2.cell 1; have q2 := hy.2.cell 2; have q3 := hy.2.cell 3; simp only [List.getElem?_cons_zero, List.getElem?_cons_succ] at j3 q0 q1 q2 q3; go_simp; with_reducible rfl)
        try simp only [Act.put]
        try simp only [List.setIfInBounds_toArray]
        try simp only [List.set_cons_succ]
        try simp only [List.set_cons_zero]
        refine readyL (rs := [8]) (by kernel_rfl) (by simp) ?_
        refine ReadyL.cons rfl (fun KK hK => ?_) ReadyL.nil
        refine wantR (by rfl) ?_
        refine wpo_stC (v := .slice fo 1 fp) 23 (.tmp 65) (.tmp 64) rfl rfl rfl hSS.1 (sv23 hSS.1 rfl _ _ _) ?_
        intro w9q R9z S9z
        simp only [List.set_cons_zero, List.set_cons_succ] at R9z
        have G9 := hidP (G8.out.stay (moRt kq K.B) S9z (fun k e => by have : k = g5 := e; have := hltg.out; omega))
        have T9 := hidP (T8.out.step S9z (fun i hi hy => Or.inr hy))
        have LI9q := hidP (LI8q.out.stay S9z (fun k e => by have : k = g5 := e; have := hg5.out; have := hgl.out; omega))
        replace R9z := hidP R9z
        refine hK.out (Act.put _ none _) _ (fun h => absurd rfl h) (fun _ => ?_)
        clear hK KK hSS T8 G8 S9z LI8q
        refine doneL (by kernel_rfl) ?_ _
        have DEe := hidP (show ArQ 4 72 (RtQ kq (Fr w5 w9q) K.B w9q) (Fr w5 w9q) w9q (.slice fo 1 fp) [(liftN L lives kq e (nx)).1] from (G9.out.done (bz := 72) (moRt kq K.B) (by simp)).mono (Kp.fr' hz7.out) fun _ _ _ h => RtQ.mono (Kp.fr' hz7.out) h)
        have DRe := hidP (show ArQ 1 8 NmAt (Fr w5 w9q) w9q (.slice au 1 pu) ((t.lives.take 1).map (numL lives)) from DR7.out.mono (kp_stay T9.out (fun k e => by have := hg5.out; have := hg6.out; have := hgl.out; rcases e with h | h <;> omega) (Nat.le_refl _)) fun _ _ _ h => h)
        have RRe := hidP (T9.out.row RR7.out (by have := hg5.out; have := hgl.out; show ¬ (w.heap.size + 1 = gl ∨ w.heap.size + 1 = g5); omega))
        have STe := hidP (ST7.out.step T9.out (fun i hi e => by have := hg5.out; rcases e with h | h; exact h; omega))
        clear G9 T9 DR7 RR7 ST7 RO7 LI7 BES ZD
        go_wp2_with fail
        go_roundg 0
        case measure => have := hk9.out; omega
        case rel => exact .inr ⟨rfl, by go_num, _, R9z.out, RRe.out, LI9q.out, STe.out, DRe.out, DEe.out⟩
       ·obtain ⟨ao9, cp9, rfl⟩ := hv6.form
        have ROZ := hidP hv1
        have RRZ := hidP hv2
        have LIZ := hidP hv3
        have STZ := hidP hv4
        have DRZ := hidP hv5
        have DEZ := hidP hv6
        clear hv1 hv2 hv3 hv4 hv5 hv6 DR7 RR7 ST7 RO7 LI7 HR1 HP1
        generalize wr = wZ at *
        go_wp2_with (first | (refine ldR rfl 25 (.tmp 5) rfl rfl ROZ.out Tryz.underlying25 rfl Tryz.sz25 ?_) | (refine stR rfl 25 (.tmp 4) (.tmp 67) rfl (cs := [.int .i64 5, .string SN, .slice au 1 pu, .slice ao9 1 cp9]) rfl rfl RRZ.out Tryz.sz25 rfl (ones_cons rfl (ones_cons rfl (ones_cons rfl (ones_cons rfl ones_nil)))) ?_; intro wF RF SF; apply shut))
        show wpList _ _ _ _ _ _
        have STF := hidP (STZ.out.step SF (fun i hi e => absurd hi (by have : i = w.heap.size + 1 := e; omega)))
        have LIF := hidP (LIZ.out.stay SF (fun k e => by have : k = w.heap.size + 1 := e; have := hgl.out; omega))
        have hlF : ∀ k, k = w.heap.size + 1 -> k < w5.heap.size := fun k e => by have := hg5.out; have := hg6.out; omega
        have KF := hidP (show Kp (Fr w5 wZ) (Fr w wF) wZ wF from kp_stay SF (fun k e => hlF k e) hz5.out)
        have DA := hidP (show ArQ 1 8 NmAt (Fr w wF) wF (.slice au 1 pu) ((t.lives.take 1).map (numL lives)) from DRZ.out.mono KF.out fun _ _ _ h => h)
        have DB := hidP (show ArQ 4 72 (RtQ kq (Fr w wF) K.B wF) (Fr w wF) wF (.slice ao9 1 cp9) ([(liftN L lives kq e (nx)).1]) from DEZ.out.mono KF.out fun _ _ _ h => RtQ.mono KF.out h)
        replace RF := hidP RF
        clear SF KF ROZ RRZ STZ LIZ DRZ DEZ hlF
        go_wp2_with fail
        exact bodyPost_ret (v := .agg #[.int .i64 5, .string SN, .slice au 1 pu, .slice ao9 1 cp9]) (results_cell_row Tryz.results43 _ _ (w.heap.size + 1) 25 _ (0, 0) _ rfl RF.out.heap Tryz.underlying25 rfl (by kernel_rfl)) rfl ⟨[.int .i64 5, .string SN, .slice au 1 pu, .slice ao9 1 cp9], rfl, STF.out, by rw [LQ.out]; exact LIF.out, by
         rw [LQ.out]
         exact ⟨_, _, by rw [HSN.out], HBN.out, DA.out, DB.out⟩⟩
   ·have LQ := hidP (show liftN L lives (kq + 1) t nx = (⟨kd, t.name, [], []⟩, nx) by
     rw [liftN, if_neg (by rw [HKD.out]; exact h3), if_neg (by rw [HKD.out]; omega), HKD.out])
    have e3 : (kd == 3) = false := by simpa using h3
    have e4 : (kd == 4) = false := by simpa using h4
    have e5 : (kd == 5) = false := by simpa using h5
    have DR5 := hidP (show ArQ 1 8 NmAt (Fr w5 w5) w5 (.slice none 0 0) ([] : List Int) from nil_arQ)
    have DE5 := hidP (show ArQ 4 72 (RtQ kq (Fr w5 w5) K.B w5) (Fr w5 w5) w5 (.slice none 0 0) ([] : List RTy) from nil_arQ)
    have RO5 := hidP RO.out
    have RR5 := hidP RR.out
    clear y2 RO RR
    go_wp2_with (first | (refine ldR rfl 25 (.tmp 5) rfl rfl RO5.out Tryz.underlying25 rfl Tryz.sz25 ?_) | (refine stR rfl 25 (.tmp 4) (.tmp 67) rfl (cs := [.int .i64 kd, .string SN, .slice none 0 0, .slice none 0 0]) rfl rfl RR5.out Tryz.sz25 rfl (ones_cons rfl (ones_cons rfl (ones_cons rfl (ones_cons rfl ones_nil)))) ?_; intro wF RF SF; apply shut))
    show wpList _ _ _ _ _ _
    have STF := hidP (ST5.out.step SF (fun i hi e => absurd hi (by have : i = w.heap.size + 1 := e; omega)))
    have LIF := hidP (LI5.out.stay SF (fun k e => by have : k = w.heap.size + 1 := e; have := hgl.out; omega))
    have hlF : ∀ k, k = w.heap.size + 1 -> k < w5.heap.size := fun k e => by have := hg5.out; have := hg6.out; omega
    have KF := hidP (show Kp (Fr w5 w5) (Fr w wF) w5 wF from kp_stay SF (fun k e => hlF k e) hz5.out)
    have DA := hidP (show ArQ 1 8 NmAt (Fr w wF) wF (.slice none 0 0) ([]) from DR5.out.mono KF.out fun _ _ _ h => h)
    have DB := hidP (show ArQ 4 72 (RtQ kq (Fr w wF) K.B wF) (Fr w wF) wF (.slice none 0 0) ([]) from DE5.out.mono KF.out fun _ _ _ h => RtQ.mono KF.out h)
    replace RF := hidP RF
    clear SF KF RO5 RR5 ST5 LI5 DR5 DE5 hlF
    go_wp2_with fail
    exact bodyPost_ret (v := .agg #[.int .i64 kd, .string SN, .slice none 0 0, .slice none 0 0]) (results_cell_row Tryz.results43 _ _ (w.heap.size + 1) 25 _ (0, 0) _ rfl RF.out.heap Tryz.underlying25 rfl (by kernel_rfl)) rfl ⟨[.int .i64 kd, .string SN, .slice none 0 0, .slice none 0 0], rfl, STF.out, by rw [LQ.out]; exact LIF.out, by
     rw [LQ.out]
     exact ⟨_, _, by rw [HSN.out], HBN.out, DA.out, DB.out⟩⟩
end Go.Proofs.YtldbbkheemnnhaaGreatDoor
