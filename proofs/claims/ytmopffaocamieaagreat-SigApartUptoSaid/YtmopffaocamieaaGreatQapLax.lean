/-
  SigApart: two sigs with the same bytes are the same.
-/
import Derived.Test.YtmopffaocamieaaGreatJapLas3
import Derived.Test.YtmopffaocamieaaGreatQapLa3
import Derived.Test.YtmopffaocamieaaGreatQapWpo
namespace Go.Proofs.YtmopffaocamieaaGreat
open Go.RowKit

set_option maxHeartbeats 8000000 in
set_option maxRecDepth 20000 in
theorem apart_main {n : Nat} {K : Ctx} {w : World} (he : Env K w) {c d : Crt} {cs ds : List Value} (hx : CrtAt n K w cs c) (hy : CrtAt n K w ds d) (gc : ¬ GrtC n c) (gd : ¬ GrtC n d) :
    Calls Tryz.prog 7 #[.agg cs.toArray, .agg ds.toArray] w fun ev w' => ev = .returned (.bool true) ∧ Below w.heap.size w w' := by
  have hC := he.C
  have L1 : c.structs.length ≤ 1000 := by rcases Nat.lt_or_ge 300 c.structs.length with h | h; exact absurd (.inl h) gc; omega
  have L2 : c.funcs.length ≤ 1000 := by rcases Nat.lt_or_ge 300 c.funcs.length with h | h; exact absurd (.inr (.inl h)) gc; omega
  have L3 : d.structs.length ≤ 1000 := by rcases Nat.lt_or_ge 300 d.structs.length with h | h; exact absurd (.inl h) gd; omega
  have L4 : d.funcs.length ≤ 1000 := by rcases Nat.lt_or_ge 300 d.funcs.length with h | h; exact absurd (.inr (.inl h)) gd; omega
  obtain ⟨v0, v1, rfl, h0, h1⟩ := hx
  obtain ⟨z0, z1, rfl, k0, k1⟩ := hy
  obtain ⟨a0, c0, rfl⟩ := h0.form
  obtain ⟨a1, c1, rfl⟩ := h1.form
  obtain ⟨b0, e0, rfl⟩ := k0.form
  obtain ⟨b1, e1, rfl⟩ := k1.form
  obtain ⟨W0, hW0⟩ : ∃ W0, W0 = (w.alloc (.cells #[.slice a0 c.structs.length c0, .slice a1 c.funcs.length c1] 25)).alloc (.cells #[.slice b0 d.structs.length e0, .slice b1 d.funcs.length e1] 25) := ⟨_, rfl⟩
  have hBW : Below w.heap.size w W0 := by rw [hW0]; exact alloc_two w _ _
  have hsz : W0.heap.size = w.heap.size + 2 := by rw [hW0, size_alloc, size_alloc]
  have R2 : Row W0 w.heap.size 25 [.slice a0 c.structs.length c0, .slice a1 c.funcs.length c1] := by rw [hW0]; exact (Row.new w 25 [.slice a0 c.structs.length c0, .slice a1 c.funcs.length c1]).alloc _
  have R3 : Row W0 (w.heap.size + 1) 25 [.slice b0 d.structs.length e0, .slice b1 d.funcs.length e1] := by
    have := Row.new (w.alloc (.cells #[.slice a0 c.structs.length c0, .slice a1 c.funcs.length c1] 25)) 25 [.slice b0 d.structs.length e0, .slice b1 d.funcs.length e1]
    rw [size_alloc] at this; rw [hW0]; exact this
  have hK := below_le hBW hC
  have HX : Hid (∀ y, Below K.C w y → CrtAt n K y [.slice a0 c.structs.length c0, .slice a1 c.funcs.length c1] c ∧ CrtAt n K y [.slice b0 d.structs.length e0, .slice b1 d.funcs.length e1] d) := fun y hb => ⟨CrtAt.below ⟨_, _, rfl, h0, h1⟩ hb, CrtAt.below ⟨_, _, rfl, k0, k1⟩ hb⟩
  have G1 : Hid (Calls Tryz.prog 8 #[.agg #[.slice a0 c.structs.length c0, .slice a1 c.funcs.length c1]] W0 fun ev w' => ev = .returned (.bool false) ∧ Below W0.heap.size W0 w') := great_any (Nat.le_trans hC hBW.size) (HX.out W0 hK).1 false ⟨fun h => (by cases h), fun h => absurd h gc⟩
  have G2 : Hid (∀ w1, Below W0.heap.size W0 w1 → Calls Tryz.prog 8 #[.agg #[.slice b0 d.structs.length e0, .slice b1 d.funcs.length e1]] w1 fun ev w' => ev = .returned (.bool false) ∧ Below W0.heap.size W0 w') := fun w1 h1 =>
    (great_any (Nat.le_trans hC (Nat.le_trans hBW.size h1.size)) (HX.out w1 (hK.trans (h1.mono (Nat.le_trans hC hBW.size)))).2 false ⟨fun h => (by cases h), fun h => absurd h gd⟩).mono fun _ _ q => ⟨q.1, h1.trans (q.2.mono h1.size)⟩
  have HR : Hid (∀ w1, Below W0.heap.size W0 w1 → (w1.cell? ⟨w.heap.size + 1, 0, none⟩ = some (.slice b0 d.structs.length e0) ∧ w1.cell? ⟨w.heap.size + 1, 1, none⟩ = some (.slice b1 d.funcs.length e1)) ∧ Row w1 w.heap.size 25 [.slice a0 c.structs.length c0, .slice a1 c.funcs.length c1] ∧ Row w1 (w.heap.size + 1) 25 [.slice b0 d.structs.length e0, .slice b1 d.funcs.length e1] ∧ Below w.heap.size w w1) := fun w1 h1 => ⟨⟨(R3.below h1 R3.lt).cell 0, (R3.below h1 R3.lt).cell 1⟩, R2.below h1 R2.lt, R3.below h1 R3.lt, hBW.trans (h1.mono hBW.size)⟩
  have HW : Hid (W0 = (w.alloc (.cells #[.slice a0 c.structs.length c0, .slice a1 c.funcs.length c1] 25)).alloc (.cells #[.slice b0 d.structs.length e0, .slice b1 d.funcs.length e1] 25)) := hW0
  have HE0 := hidS he
  have HL : Hid (∀ c' d', c' = c → d' = d → (c'.structs.length ≤ 1000 ∧ c'.funcs.length ≤ 1000) ∧ d'.structs.length ≤ 1000 ∧ d'.funcs.length ≤ 1000) := fun _ _ e1 e2 => by rw [e1, e2]; exact ⟨⟨L1, L2⟩, L3, L4⟩
  generalize c.structs.length = l1 at *
  generalize c.funcs.length = l2 at *
  generalize d.structs.length = l3 at *
  generalize d.funcs.length = l4 at *
  clear h0 h1 k0 k1 R2 R3 gc gd hK hBW hC hW0 L1 L2 L3 L4 he hsz
  go_enter Tryz.func7, Tryz.ntmps7
  go_wp2_with fail
  rw [← HW.out]
  refine G1.out.mono ?_
  rintro _ w1 ⟨rfl, hb⟩
  have D := hidS (G2.out w1 hb)
  obtain ⟨x1, x2⟩ := (HR.out w1 hb).1
  clear G1 G2 hb HW
  go_wp2_with fail
  refine D.out.mono ?_
  rintro _ w2 ⟨rfl, hb⟩
  obtain ⟨-, RA, RB, hbw⟩ := HR.out w2 hb
  clear D x1 x2 HR hb
  go_wp2_with fail
  have hb2 := below_le hbw HE0.out.C
  have HEn := hidS (HE0.out.below hb2)
  have HB0 := hidS hbw
  have qc := (HX.out w2 hb2).1
  have qd := (HX.out w2 hb2).2
  clear HX HE0 hbw
  refine reg3 (gA := w.heap.size) (gB := w.heap.size + 1) rfl rfl rfl RA RB HEn.out.C qc qd (HL.out c d rfl rfl).1.1 (HL.out c d rfl rfl).1.2 (HL.out c d rfl rfl).2.1 (HL.out c d rfl rfl).2.2 ?_
  clear RA RB qc qd hb2 HL
  intro f w3 gs gt u0 u1 v0 v1 hB3 e5 e6 _ _ Rs Rt hc hd
  have oc := ofC_ok n c
  have od := ofC_ok n d
  have HBx := hidS (HB0.out.trans (below_le hB3 HB0.out.size))
  have hEn : Env (K.up w3.heap.size) w3 := by
    have h := HEn.out.below (below_le hB3 HEn.out.C)
    exact ⟨Nat.le_refl _, Nat.lt_of_lt_of_le h.z h.C, h.ml, h.B⟩
  generalize ofC n c = X at *
  generalize ofC n d = Y at *
  have CP1 : Hid (Calls Tryz.prog 13 #[.agg #[.string (str [97]), u0, u1]] w3 fun ev w' => ∃ x e, ev = .returned (.tuple #[x, e]) ∧ PutW [97] X w' x e ∧ Below w3.heap.size w3 w') := putW_any hEn hc [97] (by decide)
  have CP2 : Hid (∀ y, Below w3.heap.size w3 y → Calls Tryz.prog 13 #[.agg #[.string (str [97]), v0, v1]] y fun ev w' => ∃ x e, ev = .returned (.tuple #[x, e]) ∧ PutW [97] Y w' x e ∧ Below y.heap.size y w') := fun y hy => putW_any (hEn.below hy) (hd.below hy) [97] (by decide)
  have CS0 : Hid (∀ B, (B = true ↔ X = Y) → ∀ y, Below w3.heap.size w3 y → Calls Tryz.prog 11 #[.agg #[.string (str [97]), u0, u1], .agg #[.string (str [97]), v0, v1]] y fun ev w' => ev = .returned (.bool B) ∧ Below y.heap.size y w') := fun B hB y hy => ssame_any (K := K.up w3.heap.size) hy.size (hc.below hy) (hd.below hy) [97] [97] B ⟨fun h => ⟨rfl, hB.1 h⟩, fun h => hB.2 h.2⟩
  have HRs := hidS Rs
  have HRt := hidS Rt
  obtain ⟨p0, p1, ep, hp0, hp1⟩ := hc
  cases ep
  obtain ⟨q0, q1, eq, hq0, hq1⟩ := hd
  cases eq
  obtain ⟨s0, s1, rfl⟩ := hp0.form
  obtain ⟨s2, s3, rfl⟩ := hp1.form
  obtain ⟨s4, s5, rfl⟩ := hq0.form
  obtain ⟨s6, s7, rfl⟩ := hq1.form
  have x0 := Rs.cell 0
  have x1 := Rs.cell 1
  have x2 := Rs.cell 2
  simp only [List.getElem?_cons_zero, List.getElem?_cons_succ] at x0 x1 x2
  clear Rs Rt hp0 hp1 hq0 hq1 hEn oc od
  simp only [List.foldl_cons, List.foldl_nil, List.setIfInBounds_toArray, List.set_cons_zero, List.set_cons_succ, e5, e6]
  clear e5 e6
  generalize f 18 = f18
  generalize f 19 = f19
  generalize f 20 = f20
  generalize f 21 = f21
  generalize X.structs.length = n0 at *
  generalize X.funcs.length = n1 at *
  generalize Y.structs.length = n2 at *
  generalize Y.funcs.length = n3 at *
  go_wp2_with fail
  refine CP1.out.mono ?_
  rintro _ w4 ⟨x, e, rfl, hpx, hb4⟩
  have y0 := (HRt.out.below hb4 HRt.out.lt).cell 0
  have y1 := (HRt.out.below hb4 HRt.out.lt).cell 1
  have y2 := (HRt.out.below hb4 HRt.out.lt).cell 2
  simp only [List.getElem?_cons_zero, List.getElem?_cons_succ] at y0 y1 y2
  have CQ := hidS (CP2.out w4 hb4)
  have HPX := hidS hpx
  clear CP1 CP2 x0 x1 x2 hpx hB3
  obtain ⟨xa, xk, xc, hxs⟩ : ∃ ao k q, x = .slice ao k q := by
    by_cases hm : MaySig [97] X
    · obtain ⟨_, ao, k, q, e1, _⟩ := HPX.out.yes hm; exact ⟨_, _, _, e1⟩
    · obtain ⟨b, _, e1⟩ := HPX.out.no hm; exact ⟨_, _, _, e1⟩
  subst hxs
  have HB4 := hidS hb4
  clear hb4
  go_wp2_with fail
  refine CQ.out.mono ?_
  rintro _ w5 ⟨y, e', rfl, hpy, hb5⟩
  have HPY := hidS hpy
  have HB5 : Hid (Below w3.heap.size w3 w5) := hidS (HB4.out.trans (below_le hb5 HB4.out.size))
  have HPX5 := hidS (HPX.out.past hb5)
  obtain ⟨ya, yk, yc, hys⟩ : ∃ ao k q, y = .slice ao k q := by
    by_cases hm : MaySig [97] Y
    · obtain ⟨_, ao, k, q, e1, _⟩ := HPY.out.yes hm; exact ⟨_, _, _, e1⟩
    · obtain ⟨b, _, e1⟩ := HPY.out.no hm; exact ⟨_, _, _, e1⟩
  subst hys
  have T : Hid (∀ y, Below w3.heap.size w3 y → Calls Tryz.prog 9 #[] y fun ev w' => ev = .returned (.bool true) ∧ Below w.heap.size w w') := fun y hy =>
    (told_any y).mono fun _ _ q => ⟨q.1, (HBx.out.trans (below_le hy HBx.out.size)).trans (below_le q.2 (Nat.le_trans HBx.out.size hy.size))⟩
  clear CQ y0 y1 y2 hb5 hpy HPX HB4
  by_cases m1 : MaySig [97] X
  rotate_left
  · obtain ⟨b, he1, -⟩ := HPX5.out.no m1
    subst he1
    have TT := hidS (T.out w5 HB5.out)
    clear T HPX5 HPY HB5 CS0 HRs HRt m1 HBx HB0
    go_wp2_with fail
    refine TT.out.mono ?_
    rintro _ w6 ⟨rfl, hb⟩
    go_wp2_with fail
    go_ret
    exact ⟨rfl, hb⟩
  by_cases m2 : MaySig [97] Y
  rotate_left
  · obtain ⟨b, he2, -⟩ := HPY.out.no m2
    obtain ⟨he1, -⟩ := HPX5.out.yes m1
    subst he1 he2
    have TT := hidS (T.out w5 HB5.out)
    clear T HPX5 HPY HB5 CS0 HRs HRt m1 m2 HBx HB0
    go_wp2_with fail
    refine TT.out.mono ?_
    rintro _ w6 ⟨rfl, hb⟩
    go_wp2_with fail
    go_ret
    exact ⟨rfl, hb⟩
  obtain ⟨he1, _, _, _, ex, hsx⟩ := HPX5.out.yes m1
  obtain ⟨he2, _, _, _, ey, hsy⟩ := HPY.out.yes m2
  cases ex
  cases ey
  subst he1 he2
  have hinj : sigB [97] X = sigB [97] Y ↔ X = Y := ⟨fun h => (sig_inj m1 m2 h).2, fun h => by rw [h]⟩
  generalize sigB [97] X = LX at *
  generalize sigB [97] Y = LY at *
  have HE : Hid (∀ y, Below w5.heap.size w5 y → Row y gs 27 [.string (str [97]), .slice s0 n0 s1, .slice s2 n1 s3] ∧ Row y gt 27 [.string (str [97]), .slice s4 n2 s5, .slice s6 n3 s7] ∧ (convert 33 9 (.slice xa xk xc)).run Tryz.prog y = .ok (.string (str LX)) y ∧ (convert 33 9 (.slice ya yk yc)).run Tryz.prog y = .ok (.string (str LY)) y ∧ Below w.heap.size w y) := fun y hy => by
    have hb := HB5.out.trans (below_le hy HB5.out.size)
    exact ⟨HRs.out.below hb HRs.out.lt, HRt.out.below hb HRt.out.lt, conv_sl y _ _ (hsx.below hy), conv_sl y _ _ (hsy.below hy), HBx.out.trans (below_le hb HBx.out.size)⟩
  have CT : Hid (∀ y, Below w5.heap.size w5 y → Calls Tryz.prog 9 #[] y fun ev w' => ev = .returned (.bool true) ∧ Below w5.heap.size w5 w') := fun y hy => (told_any y).mono fun _ _ q => ⟨q.1, hy.trans (below_le q.2 hy.size)⟩
  have CS1 : Hid (∀ B, (B = true ↔ X = Y) → ∀ y, Below w5.heap.size w5 y → Calls Tryz.prog 11 #[.agg #[.string (str [97]), .slice s0 n0 s1, .slice s2 n1 s3], .agg #[.string (str [97]), .slice s4 n2 s5, .slice s6 n3 s7]] y fun ev w' => ev = .returned (.bool B) ∧ Below w5.heap.size w5 w') := fun B hB y hy => (CS0.out B hB y (HB5.out.trans (below_le hy HB5.out.size))).mono fun _ _ q => ⟨q.1, hy.trans (below_le q.2 hy.size)⟩
  clear T HPX5 HPY CS0 HRs HRt m1 m2 HBx hsx hsy HB5 HB0
  by_cases hXY : X = Y
  · have CS := hidS (CS1.out true ⟨fun _ => hXY, fun _ => rfl⟩)
    have hB8 : ((str LX).toList == (str LY).toList) = true := by rw [hinj.2 hXY]; simp
    clear CS1 hinj hXY
    have he : ((str LX).toList == (str LY).toList) = true := hB8
    have hS0 : Below w5.heap.size w5 w5.drew := (Below.refl _ _).drew
    generalize str LX = SX at *
    generalize str LY = SY at *
    go_wp2_with fail
    refine beginL (fun y => Below w5.heap.size w5 y) 12 (by kernel_rfl) hS0 (fun hSS => ?_)
    refine readyL (rs := [0]) (by kernel_rfl) (by simp) ?_
    refine ReadyL.cons rfl (fun KK hK => ?_) ReadyL.nil
    refine wantR (by rfl) ?_
    go_simp
    refine (CT.out _ hSS).mono ?_
    clear hSS
    rintro _ w4 ⟨rfl, hSS⟩
    refine hK.out _ _ (fun _ => hSS) (fun _ => ?_)
    clear hK KK
    try simp only [Act.put]
    try simp only [List.setIfInBounds_toArray]
    try simp only [List.set_cons_succ]
    try simp only [List.set_cons_zero]
    refine takeL 1 (v := ?vt1) rfl (some 40) rfl (by decide) (by kernel_rfl) (by kernel_rfl) (by kernel_rfl) (by kernel_rfl) (fun _ _ _ h => h) (Or.inl ⟨by rfl, ?ht1⟩) hSS ?rt1
    case ht1 => (intro y hy; go_simp; with_reducible rfl)
    try simp only [Act.put]
    try simp only [List.setIfInBounds_toArray]
    try simp only [List.set_cons_succ]
    try simp only [List.set_cons_zero]
    refine takeL 2 (v := ?vt2) rfl (some 41) rfl (by decide) (by kernel_rfl) (by kernel_rfl) (by kernel_rfl) (by kernel_rfl) (fun _ _ _ h => h) (Or.inl ⟨by rfl, ?ht2⟩) hSS ?rt2
    case ht2 => (intro y hy; go_simp; with_reducible rfl)
    try simp only [Act.put]
    try simp only [List.setIfInBounds_toArray]
    try simp only [List.set_cons_succ]
    try simp only [List.set_cons_zero]
    refine takeL 3 (v := ?vt3) rfl (some 42) rfl (by decide) (by kernel_rfl) (by kernel_rfl) (by kernel_rfl) (by kernel_rfl) (fun _ _ _ h => h) (Or.inl ⟨by rfl, ?ht3⟩) hSS ?rt3
    case ht3 => (intro y hy; have cv := (HE.out y hy).2.2.1; go_simp; with_reducible rfl)
    try simp only [Act.put]
    try simp only [List.setIfInBounds_toArray]
    try simp only [List.set_cons_succ]
    try simp only [List.set_cons_zero]
    refine takeL 4 (v := ?vt4) rfl (some 43) rfl (by decide) (by kernel_rfl) (by kernel_rfl) (by kernel_rfl) (by kernel_rfl) (fun _ _ _ h => h) (Or.inl ⟨by rfl, ?ht4⟩) hSS ?rt4
    case ht4 => (intro y hy; go_simp; with_reducible rfl)
    try simp only [Act.put]
    try simp only [List.setIfInBounds_toArray]
    try simp only [List.set_cons_succ]
    try simp only [List.set_cons_zero]
    refine takeL 5 (v := ?vt5) rfl (some 44) rfl (by decide) (by kernel_rfl) (by kernel_rfl) (by kernel_rfl) (by kernel_rfl) (fun _ _ _ h => h) (Or.inl ⟨by rfl, ?ht5⟩) hSS ?rt5
    case ht5 => (intro y hy; have cv := (HE.out y hy).2.2.2.1; go_simp; with_reducible rfl)
    try simp only [Act.put]
    try simp only [List.setIfInBounds_toArray]
    try simp only [List.set_cons_succ]
    try simp only [List.set_cons_zero]
    refine takeL 6 (v := ?vt6) rfl (some 45) rfl (by decide) (by kernel_rfl) (by kernel_rfl) (by kernel_rfl) (by kernel_rfl) (fun _ _ _ h => h) (Or.inl ⟨by rfl, ?ht6⟩) hSS ?rt6
    case ht6 => (intro y hy; go_simp; with_reducible rfl)
    try simp only [Act.put]
    try simp only [List.setIfInBounds_toArray]
    try simp only [List.set_cons_succ]
    try simp only [List.set_cons_zero]
    refine takeL 7 (v := ?vt7) rfl (some 46) rfl (by decide) (by kernel_rfl) (by kernel_rfl) (by kernel_rfl) (by kernel_rfl) (fun _ _ _ h => h) (Or.inl ⟨by rfl, ?ht7⟩) hSS ?rt7
    case ht7 => (intro y hy; have c0 := (HE.out y hy).1.cell 0; have c1 := (HE.out y hy).1.cell 1; have c2 := (HE.out y hy).1.cell 2; simp only [List.getElem?_cons_zero, List.getElem?_cons_succ] at c0 c1 c2; go_simp; with_reducible rfl)
    try simp only [Act.put]
    try simp only [List.setIfInBounds_toArray]
    try simp only [List.set_cons_succ]
    try simp only [List.set_cons_zero]
    refine takeL 8 (v := ?vt8) rfl (some 47) rfl (by decide) (by kernel_rfl) (by kernel_rfl) (by kernel_rfl) (by kernel_rfl) (fun _ _ _ h => h) (Or.inl ⟨by rfl, ?ht8⟩) hSS ?rt8
    case ht8 => (intro y hy; have c0 := (HE.out y hy).2.1.cell 0; have c1 := (HE.out y hy).2.1.cell 1; have c2 := (HE.out y hy).2.1.cell 2; simp only [List.getElem?_cons_zero, List.getElem?_cons_succ] at c0 c1 c2; go_simp; with_reducible rfl)
    try simp only [Act.put]
    try simp only [List.setIfInBounds_toArray]
    try simp only [List.set_cons_succ]
    try simp only [List.set_cons_zero]
    refine readyL (rs := [9]) (by kernel_rfl) (by simp) ?_
    refine ReadyL.cons rfl (fun KK hK => ?_) ReadyL.nil
    refine wantR (by rfl) ?_
    go_simp
    refine (CS.out w4 hSS).mono ?_
    clear hSS
    rintro _ w5 ⟨rfl, hSS⟩
    refine hK.out _ _ (fun _ => hSS) (fun _ => ?_)
    clear hK KK
    try simp only [Act.put]
    try simp only [List.setIfInBounds_toArray]
    try simp only [List.set_cons_succ]
    try simp only [List.set_cons_zero]
    refine takeL 10 (v := ?vt10) rfl (some 49) rfl (by decide) (by kernel_rfl) (by kernel_rfl) (by kernel_rfl) (by kernel_rfl) (fun _ _ _ h => h) (Or.inl ⟨by rfl, ?ht10⟩) hSS ?rt10
    case ht10 => (intro y hy; go_simp; with_reducible rfl)
    try simp only [Act.put]
    try simp only [List.setIfInBounds_toArray]
    try simp only [List.set_cons_succ]
    try simp only [List.set_cons_zero]
    refine takeL 11 (v := ?vt11) rfl (some 50) rfl (by decide) (by kernel_rfl) (by kernel_rfl) (by kernel_rfl) (by kernel_rfl) (fun _ _ _ h => h) (Or.inl ⟨by rfl, ?ht11⟩) hSS ?rt11
    case ht11 => (intro y hy; go_simp; with_reducible rfl)
    try simp only [Act.put]
    try simp only [List.setIfInBounds_toArray]
    try simp only [List.set_cons_succ]
    try simp only [List.set_cons_zero]
    refine readyL (rs := [12]) (by kernel_rfl) (by simp) ?_
    refine ReadyL.cons rfl (fun KK hK => ?_) ReadyL.nil
    have HQ := hidS (HE.out w5 hSS).2.2.2.2
    clear HE CT CS
    go_simp
    refine hK.out _ _ (fun h => absurd rfl h) (fun _ => ?_)
    clear hK KK
    refine doneL (by kernel_rfl) ?_ _
    go_wp2_with fail
    go_ret
    exact ⟨rfl, HQ.out⟩
  · have CS := hidS (CS1.out false ⟨fun h => (by cases h), fun h => absurd h hXY⟩)
    have hB8 : ((str LX).toList == (str LY).toList) = false := by rw [list_str, list_str, beq_eq_false_iff_ne]; exact fun h => hXY (hinj.1 h)
    clear CS1 hinj hXY
    have he : ((str LX).toList == (str LY).toList) = false := hB8
    have hS0 : Below w5.heap.size w5 w5.drew := (Below.refl _ _).drew
    generalize str LX = SX at *
    generalize str LY = SY at *
    go_wp2_with fail
    refine beginL (fun y => Below w5.heap.size w5 y) 12 (by kernel_rfl) hS0 (fun hSS => ?_)
    refine readyL (rs := [0]) (by kernel_rfl) (by simp) ?_
    refine ReadyL.cons rfl (fun KK hK => ?_) ReadyL.nil
    refine wantR (by rfl) ?_
    go_simp
    refine (CT.out _ hSS).mono ?_
    clear hSS
    rintro _ w4 ⟨rfl, hSS⟩
    refine hK.out _ _ (fun _ => hSS) (fun _ => ?_)
    clear hK KK
    try simp only [Act.put]
    try simp only [List.setIfInBounds_toArray]
    try simp only [List.set_cons_succ]
    try simp only [List.set_cons_zero]
    refine takeL 1 (v := ?vf1) rfl (some 40) rfl (by decide) (by kernel_rfl) (by kernel_rfl) (by kernel_rfl) (by kernel_rfl) (fun _ _ _ h => h) (Or.inl ⟨by rfl, ?hf1⟩) hSS ?rf1
    case hf1 => (intro y hy; go_simp; with_reducible rfl)
    try simp only [Act.put]
    try simp only [List.setIfInBounds_toArray]
    try simp only [List.set_cons_succ]
    try simp only [List.set_cons_zero]
    refine takeL 2 (v := ?vf2) rfl (some 41) rfl (by decide) (by kernel_rfl) (by kernel_rfl) (by kernel_rfl) (by kernel_rfl) (fun _ _ _ h => h) (Or.inl ⟨by rfl, ?hf2⟩) hSS ?rf2
    case hf2 => (intro y hy; go_simp; with_reducible rfl)
    try simp only [Act.put]
    try simp only [List.setIfInBounds_toArray]
    try simp only [List.set_cons_succ]
    try simp only [List.set_cons_zero]
    refine takeL 3 (v := ?vf3) rfl (some 42) rfl (by decide) (by kernel_rfl) (by kernel_rfl) (by kernel_rfl) (by kernel_rfl) (fun _ _ _ h => h) (Or.inl ⟨by rfl, ?hf3⟩) hSS ?rf3
    case hf3 => (intro y hy; have cv := (HE.out y hy).2.2.1; go_simp; with_reducible rfl)
    try simp only [Act.put]
    try simp only [List.setIfInBounds_toArray]
    try simp only [List.set_cons_succ]
    try simp only [List.set_cons_zero]
    refine takeL 4 (v := ?vf4) rfl (some 43) rfl (by decide) (by kernel_rfl) (by kernel_rfl) (by kernel_rfl) (by kernel_rfl) (fun _ _ _ h => h) (Or.inl ⟨by rfl, ?hf4⟩) hSS ?rf4
    case hf4 => (intro y hy; go_simp; with_reducible rfl)
    try simp only [Act.put]
    try simp only [List.setIfInBounds_toArray]
    try simp only [List.set_cons_succ]
    try simp only [List.set_cons_zero]
    refine takeL 5 (v := ?vf5) rfl (some 44) rfl (by decide) (by kernel_rfl) (by kernel_rfl) (by kernel_rfl) (by kernel_rfl) (fun _ _ _ h => h) (Or.inl ⟨by rfl, ?hf5⟩) hSS ?rf5
    case hf5 => (intro y hy; have cv := (HE.out y hy).2.2.2.1; go_simp; with_reducible rfl)
    try simp only [Act.put]
    try simp only [List.setIfInBounds_toArray]
    try simp only [List.set_cons_succ]
    try simp only [List.set_cons_zero]
    refine takeL 6 (v := ?vf6) rfl (some 45) rfl (by decide) (by kernel_rfl) (by kernel_rfl) (by kernel_rfl) (by kernel_rfl) (fun _ _ _ h => h) (Or.inl ⟨by rfl, ?hf6⟩) hSS ?rf6
    case hf6 => (intro y hy; go_simp; with_reducible rfl)
    try simp only [Act.put]
    try simp only [List.setIfInBounds_toArray]
    try simp only [List.set_cons_succ]
    try simp only [List.set_cons_zero]
    refine takeL 7 (v := ?vf7) rfl (some 46) rfl (by decide) (by kernel_rfl) (by kernel_rfl) (by kernel_rfl) (by kernel_rfl) (fun _ _ _ h => h) (Or.inl ⟨by rfl, ?hf7⟩) hSS ?rf7
    case hf7 => (intro y hy; have c0 := (HE.out y hy).1.cell 0; have c1 := (HE.out y hy).1.cell 1; have c2 := (HE.out y hy).1.cell 2; simp only [List.getElem?_cons_zero, List.getElem?_cons_succ] at c0 c1 c2; go_simp; with_reducible rfl)
    try simp only [Act.put]
    try simp only [List.setIfInBounds_toArray]
    try simp only [List.set_cons_succ]
    try simp only [List.set_cons_zero]
    refine takeL 8 (v := ?vf8) rfl (some 47) rfl (by decide) (by kernel_rfl) (by kernel_rfl) (by kernel_rfl) (by kernel_rfl) (fun _ _ _ h => h) (Or.inl ⟨by rfl, ?hf8⟩) hSS ?rf8
    case hf8 => (intro y hy; have c0 := (HE.out y hy).2.1.cell 0; have c1 := (HE.out y hy).2.1.cell 1; have c2 := (HE.out y hy).2.1.cell 2; simp only [List.getElem?_cons_zero, List.getElem?_cons_succ] at c0 c1 c2; go_simp; with_reducible rfl)
    try simp only [Act.put]
    try simp only [List.setIfInBounds_toArray]
    try simp only [List.set_cons_succ]
    try simp only [List.set_cons_zero]
    refine readyL (rs := [9]) (by kernel_rfl) (by simp) ?_
    refine ReadyL.cons rfl (fun KK hK => ?_) ReadyL.nil
    refine wantR (by rfl) ?_
    go_simp
    refine (CS.out w4 hSS).mono ?_
    clear hSS
    rintro _ w5 ⟨rfl, hSS⟩
    refine hK.out _ _ (fun _ => hSS) (fun _ => ?_)
    clear hK KK
    try simp only [Act.put]
    try simp only [List.setIfInBounds_toArray]
    try simp only [List.set_cons_succ]
    try simp only [List.set_cons_zero]
    refine takeL 10 (v := ?vf10) rfl (some 49) rfl (by decide) (by kernel_rfl) (by kernel_rfl) (by kernel_rfl) (by kernel_rfl) (fun _ _ _ h => h) (Or.inl ⟨by rfl, ?hf10⟩) hSS ?rf10
    case hf10 => (intro y hy; go_simp; with_reducible rfl)
    try simp only [Act.put]
    try simp only [List.setIfInBounds_toArray]
    try simp only [List.set_cons_succ]
    try simp only [List.set_cons_zero]
    refine takeL 11 (v := ?vf11) rfl (some 50) rfl (by decide) (by kernel_rfl) (by kernel_rfl) (by kernel_rfl) (by kernel_rfl) (fun _ _ _ h => h) (Or.inl ⟨by rfl, ?hf11⟩) hSS ?rf11
    case hf11 => (intro y hy; go_simp; with_reducible rfl)
    try simp only [Act.put]
    try simp only [List.setIfInBounds_toArray]
    try simp only [List.set_cons_succ]
    try simp only [List.set_cons_zero]
    refine readyL (rs := [12]) (by kernel_rfl) (by simp) ?_
    refine ReadyL.cons rfl (fun KK hK => ?_) ReadyL.nil
    have HQ := hidS (HE.out w5 hSS).2.2.2.2
    clear HE CT CS
    go_simp
    refine hK.out _ _ (fun h => absurd rfl h) (fun _ => ?_)
    clear hK KK
    refine doneL (by kernel_rfl) ?_ _
    go_wp2_with fail
    go_ret
    exact ⟨rfl, HQ.out⟩

set_option maxHeartbeats 8000000 in
set_option maxRecDepth 20000 in
theorem apart_walk {n : Nat} {K : Ctx} {w : World} (he : Env K w) {c d : Crt} {cs ds : List Value} (hx : CrtAt n K w cs c) (hy : CrtAt n K w ds d) :
    Calls Tryz.prog 7 #[.agg cs.toArray, .agg ds.toArray] w fun ev w' => ev = .returned (.bool true) ∧ Below w.heap.size w w' := by
  have hC := he.C
  have HE0 := hidS he
  have HX0 := hidS hx
  have HY0 := hidS hy
  obtain ⟨v0, v1, rfl, h0, h1⟩ := hx
  obtain ⟨z0, z1, rfl, k0, k1⟩ := hy
  obtain ⟨a0, c0, rfl, _, gb0, A0⟩ := h0.shape
  obtain ⟨a1, c1, rfl, _, gb1, A1⟩ := h1.shape
  obtain ⟨b0, e0, rfl, _, hb0, B0⟩ := k0.shape
  obtain ⟨b1, e1, rfl, _, hb1, B1⟩ := k1.shape
  obtain ⟨W0, hW0⟩ : ∃ W0, W0 = (w.alloc (.cells #[.slice a0 c.structs.length c0, .slice a1 c.funcs.length c1] 25)).alloc (.cells #[.slice b0 d.structs.length e0, .slice b1 d.funcs.length e1] 25) := ⟨_, rfl⟩
  have hBW : Below w.heap.size w W0 := by rw [hW0]; exact alloc_two w _ _
  have hsz : W0.heap.size = w.heap.size + 2 := by rw [hW0, size_alloc, size_alloc]
  have R2 : Row W0 w.heap.size 25 [.slice a0 c.structs.length c0, .slice a1 c.funcs.length c1] := by rw [hW0]; exact (Row.new w 25 [.slice a0 c.structs.length c0, .slice a1 c.funcs.length c1]).alloc _
  have R3 : Row W0 (w.heap.size + 1) 25 [.slice b0 d.structs.length e0, .slice b1 d.funcs.length e1] := by
    have := Row.new (w.alloc (.cells #[.slice a0 c.structs.length c0, .slice a1 c.funcs.length c1] 25)) 25 [.slice b0 d.structs.length e0, .slice b1 d.funcs.length e1]
    rw [size_alloc] at this; rw [hW0]; exact this
  have hK := below_le hBW hC
  have HX : Hid (∀ y, Below K.C w y → CrtAt n K y [.slice a0 c.structs.length c0, .slice a1 c.funcs.length c1] c ∧ CrtAt n K y [.slice b0 d.structs.length e0, .slice b1 d.funcs.length e1] d) := fun y hb => ⟨CrtAt.below ⟨_, _, rfl, h0, h1⟩ hb, CrtAt.below ⟨_, _, rfl, k0, k1⟩ hb⟩
  have G1 : Hid (∀ B, (B = true ↔ GrtC n c) → Calls Tryz.prog 8 #[.agg #[.slice a0 c.structs.length c0, .slice a1 c.funcs.length c1]] W0 fun ev w' => ev = .returned (.bool B) ∧ Below W0.heap.size W0 w') := fun B hB => great_any (Nat.le_trans hC hBW.size) (HX.out W0 hK).1 B hB
  have G2 : Hid (∀ w1, Below W0.heap.size W0 w1 → ∀ B, (B = true ↔ GrtC n d) → Calls Tryz.prog 8 #[.agg #[.slice b0 d.structs.length e0, .slice b1 d.funcs.length e1]] w1 fun ev w' => ev = .returned (.bool B) ∧ Below W0.heap.size W0 w') := fun w1 h1 B hB =>
    (great_any (Nat.le_trans hC (Nat.le_trans hBW.size h1.size)) (HX.out w1 (hK.trans (h1.mono (Nat.le_trans hC hBW.size)))).2 B hB).mono fun _ _ q => ⟨q.1, h1.trans (q.2.mono h1.size)⟩
  have T : Hid (∀ w1, Below W0.heap.size W0 w1 → Calls Tryz.prog 9 #[] w1 fun ev w' => ev = .returned (.bool true) ∧ Below w.heap.size w w') := fun w1 h1 =>
    (told_any w1).mono fun _ _ q => ⟨q.1, hBW.trans (((h1.trans (q.2.mono h1.size))).mono hBW.size)⟩
  have HR : Hid (∀ w1, Below W0.heap.size W0 w1 → w1.cell? ⟨w.heap.size + 1, 0, none⟩ = some (.slice b0 d.structs.length e0) ∧ w1.cell? ⟨w.heap.size + 1, 1, none⟩ = some (.slice b1 d.funcs.length e1)) := fun w1 h1 => ⟨(R3.below h1 R3.lt).cell 0, (R3.below h1 R3.lt).cell 1⟩
  by_cases gc : GrtC n c
  · clear HX0 HY0 HE0 he
    have U := hidS (G1.out true ⟨fun _ => gc, fun _ => rfl⟩)
    subst hW0
    clear G1 G2 HR HX A0 A1 B0 B1 h0 h1 k0 k1 R2 R3 gc hK hBW hC
    generalize c.structs.length = l1 at *
    generalize c.funcs.length = l2 at *
    generalize d.structs.length = l3 at *
    generalize d.funcs.length = l4 at *
    go_enter Tryz.func7, Tryz.ntmps7
    go_wp2_with fail
    refine U.out.mono ?_
    rintro _ w1 ⟨rfl, hb⟩
    have D := hidS (T.out w1 hb)
    clear T U hb
    go_wp2_with fail
    refine D.out.mono ?_
    rintro _ w2 ⟨rfl, hb⟩
    go_wp2_with fail
    go_ret
    exact ⟨rfl, hb⟩
  by_cases gd : GrtC n d
  · clear HX0 HY0 HE0 he
    have U := hidS (G1.out false ⟨fun h => (by cases h), fun h => absurd h gc⟩)
    have V : Hid (∀ w1, Below W0.heap.size W0 w1 → _) := fun w1 h1 => G2.out w1 h1 true ⟨fun _ => gd, fun _ => rfl⟩
    subst hW0
    clear G1 G2 HX A0 A1 B0 B1 h0 h1 k0 k1 R2 R3 gc gd hK hBW hC
    generalize c.structs.length = l1 at *
    generalize c.funcs.length = l2 at *
    generalize d.structs.length = l3 at *
    generalize d.funcs.length = l4 at *
    go_enter Tryz.func7, Tryz.ntmps7
    go_wp2_with fail
    refine U.out.mono ?_
    rintro _ w1 ⟨rfl, hb⟩
    have D := hidS (V.out w1 hb)
    obtain ⟨x1, x2⟩ := HR.out w1 hb
    clear V U hb HR
    go_wp2_with fail
    refine D.out.mono ?_
    rintro _ w2 ⟨rfl, hb⟩
    have D2 := hidS (T.out w2 hb)
    clear D T hb x1 x2
    go_wp2_with fail
    refine D2.out.mono ?_
    rintro _ w3 ⟨rfl, hb⟩
    go_wp2_with fail
    go_ret
    exact ⟨rfl, hb⟩
  exact apart_main HE0.out HX0.out HY0.out gc gd
end Go.Proofs.YtmopffaocamieaaGreat
