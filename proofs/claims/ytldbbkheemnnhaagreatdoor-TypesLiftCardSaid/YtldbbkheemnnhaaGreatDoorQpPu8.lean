/-
  types.Sub: pairs of two lists of numbers, of two types.
-/
import Derived.Test.YtldbbkheemnnhaaGreatDoorJpRq83
import Derived.Test.YtldbbkheemnnhaaGreatDoorJpRg83
namespace Go.Proofs.YtldbbkheemnnhaaGreatDoor
open Go.RowKit
def pairL (both : Bool) : List Int -> List Int -> List (Int × Int)
 | x :: l, y :: m => (if both then [(x, y), (y, x)] else [(x, y)]) ++ pairL both l m
 | _, _ => []
theorem pairL_len {both : Bool} : ∀ {l m : List Int}, (pairL both l m).length <= 2 * l.length
 | [], _ => by simp [pairL]
 | _ :: _, [] => by simp [pairL]
 | x :: l, y :: m => by
  have := pairL_len (both := both) (l := l) (m := m)
  simp only [pairL, List.length_append, List.length_cons]
  split <;> simp <;> omega
theorem pairL_next {both : Bool} : ∀ {l m : List Int} {i : Nat}, i < l.length -> i < m.length -> pairL both (l.take (i + 1)) (m.take (i + 1)) = pairL both (l.take i) (m.take i) ++ (if both then [(l.getD i 0, m.getD i 0), (m.getD i 0, l.getD i 0)] else [(l.getD i 0, m.getD i 0)])
 | [], _, _, h, _ => by cases h
 | _ :: _, [], _, _, h => by cases h
 | x :: l, y :: m, 0, _, _ => by simp [pairL]
 | x :: l, y :: m, i + 1, h, h' => by
  have := pairL_next (both := both) (l := l) (m := m) (i := i) (by simpa using h) (by simpa using h')
  simp only [List.take_succ_cons, pairL, List.getD_cons_succ]
  rw [this, List.append_assoc]
theorem pairL_take {both : Bool} : ∀ {l m : List Int}, l.length <= m.length -> pairL both l (m.take l.length) = pairL both l m
 | [], _, _ => by simp [pairL]
 | _ :: _, [], h => by cases h
 | x :: l, y :: m, h => by
  simp only [List.length_cons, List.take_succ_cons, pairL]
  rw [pairL_take (by simpa using h)]
set_option maxHeartbeats 16000000 in
set_option maxRecDepth 20000 in
theorem pairUp78 {K : Ctx} {w : World} {B : Nat} {va vb vp : Value} {la lb : List Int} {acc : List (Int × Int)} {both : Bool} (hp : w.ownsRow B 32 2 vp acc.length (pvs acc)) (ha : Nms K w va la) (hb : Nms K w vb lb) (hC : K.C <= B) (hB : B <= w.heap.size) (hl : la.length <= lb.length) (hn : acc.length + 2 * la.length <= 90000) :
  Calls Tryz.prog 78 #[vp, va, vb, .bool both] w fun ev w' => ∃ v, ev = .returned v /\ Below B w w' /\ w'.ownsRow B 32 2 v (acc ++ pairL both la lb).length (pvs (acc ++ pairL both la lb)) := by
 obtain ⟨a1, p1, rfl⟩ := Ar.form ha
 obtain ⟨a2, p2, rfl⟩ := Ar.form hb
 obtain ⟨a0, p0, rfl⟩ := own_slice hp
 have HP := hidP hp
 have A1 := hidP (fun i hi => nms_cell ha i hi)
 have A2 := hidP (fun i hi => nms_cell hb i hi)
 have HC := hidP hC
 have HBW := hidP hB
 have HN := hidP hn
 have HL := hidP hl
 have HTK := hidP (pairL_take (both := both) hl)
 have hl5 : la.length <= 50000 := by omega
 clear hp ha hb hC hB hn
 generalize hna : la.length = na at *
 have HNA := hidP hna
 clear hna
 generalize hnb : lb.length = nb at *
 have HNB := hidP hnb
 clear hnb
 go_enter Tryz.func78, Tryz.ntmps78
 go_wp2_with fail
 go_loopg [0, 12] na (fun r v0 v12 wr => ∃ (i : Nat) (acc2 : List (Int × Int)), i + r = na /\ v12 = .int .i64 (i : Int) /\ acc2 = acc ++ pairL both (la.take i) (lb.take i) /\ wr.ownsRow B 32 2 v0 acc2.length (pvs acc2) /\ Below B w wr)
 case atStart => exact ⟨0, acc, by omega, rfl, by simp [pairL], HP.out, Below.refl _ _⟩
 case round =>
  obtain ⟨i, acc2, hi, rfl, ha2, ho2, hb2⟩ := hrel
  have HA2 := hidP ha2
  have HO2 := hidP ho2
  have HB2 := hidP hb2
  obtain ⟨aa2, pp2, rfl⟩ := own_slice ho2
  clear ha2 ho2 hb2 HP
  by_cases hlt : i < na
  ·obtain ⟨b1, o1, rfl, hb1, hc1⟩ := A1.out i (by have := HNA.out; omega)
   obtain ⟨b2, o2, rfl, hb2, hc2⟩ := A2.out i (by have := HNB.out; omega)
   have HA3 := hidP (show acc2.length <= acc.length + 2 * i by
    rw [HA2.out, List.length_append]
    have := pairL_len (both := both) (l := la.take i) (m := lb.take i)
    rw [List.length_take] at this
    omega)
   have HX := hidP (pairL_next (both := both) (l := la) (m := lb) (i := i) (by have := HNA.out; omega) (by have := HNB.out; omega))
   generalize la.getD i 0 = x at *
   generalize lb.getD i 0 = y at *
   have l1 : (i : Int) < (na : Int) := by omega
   have l2 : (i : Int) < (nb : Int) := by omega
   have hS0 : wr.drew.cell? ⟨b1, o1 + i, none⟩ = some (.int .i64 x) /\ wr.drew.cell? ⟨b2, o2 + i, none⟩ = some (.int .i64 y) := ⟨(HB2.out.drew.cell (p := ⟨b1, o1 + i, none⟩) (Nat.lt_of_lt_of_le hb1 HC.out)).trans hc1, (HB2.out.drew.cell (p := ⟨b2, o2 + i, none⟩) (Nat.lt_of_lt_of_le hb2 HC.out)).trans hc2⟩
   have HKP := hidP (fun (y1 y2 : World) (h : Below B y1 y2) (hs : y1.cell? ⟨b1, o1 + i, none⟩ = some (.int .i64 x) /\ y1.cell? ⟨b2, o2 + i, none⟩ = some (.int .i64 y)) => show y2.cell? ⟨b1, o1 + i, none⟩ = some (.int .i64 x) /\ y2.cell? ⟨b2, o2 + i, none⟩ = some (.int .i64 y) from ⟨(h.cell (p := ⟨b1, o1 + i, none⟩) (Nat.lt_of_lt_of_le hb1 HC.out)).trans hs.1, (h.cell (p := ⟨b2, o2 + i, none⟩) (Nat.lt_of_lt_of_le hb2 HC.out)).trans hs.2⟩)
   have OD := hidP (own_sameR (w' := wr.drew) HO2.out (fun q eq => rfl))
   have BD := hidP (HB2.out.drew)
   have ZD := hidP (Nat.le_trans HBW.out BD.out.size)
   clear hc1 hc2 hb1 hb2 HO2 HB2
   go_wp2_with fail
   refine beginL (fun y0 => y0.cell? ⟨b1, o1 + i, none⟩ = some (.int .i64 x) /\ y0.cell? ⟨b2, o2 + i, none⟩ = some (.int .i64 y)) 13 (by kernel_rfl) hS0 (fun hSS => ?_)
   refine takeL 0 (v := ?_) rfl (some 15) rfl (by decide) (by kernel_rfl) (by kernel_rfl) (by kernel_rfl) (by kernel_rfl) (fun _ _ _ h => h) (Or.inl ⟨by rfl, ?_⟩) hSS ?_
   rotate_left
   ·(intro y hy; have hk0 := hy.1; have hk1 := hy.2; go_simp; with_reducible rfl)
   try simp only [Act.put]
   try simp only [List.setIfInBounds_toArray]
   try simp only [List.set_cons_succ]
   try simp only [List.set_cons_zero]
   refine takeL 1 (v := ?_) rfl (some 16) rfl (by decide) (by kernel_rfl) (by kernel_rfl) (by kernel_rfl) (by kernel_rfl) (fun _ _ _ h => h) (Or.inl ⟨by rfl, ?_⟩) hSS ?_
   rotate_left
   ·(intro y hy; have hk0 := hy.1; have hk1 := hy.2; go_simp; with_reducible rfl)
   try simp only [Act.put]
   try simp only [List.setIfInBounds_toArray]
   try simp only [List.set_cons_succ]
   try simp only [List.set_cons_zero]
   refine takeL 2 (v := ?_) rfl (some 17) rfl (by decide) (by kernel_rfl) (by kernel_rfl) (by kernel_rfl) (by kernel_rfl) (fun _ _ _ h => h) (Or.inl ⟨by rfl, ?_⟩) hSS ?_
   rotate_left
   ·(intro y hy; have hk0 := hy.1; have hk1 := hy.2; go_simp; with_reducible rfl)
   try simp only [Act.put]
   try simp only [List.setIfInBounds_toArray]
   try simp only [List.set_cons_succ]
   try simp only [List.set_cons_zero]
   refine takeL 3 (v := ?_) rfl (some 18) rfl (by decide) (by kernel_rfl) (by kernel_rfl) (by kernel_rfl) (by kernel_rfl) (fun _ _ _ h => h) (Or.inl ⟨by rfl, ?_⟩) hSS ?_
   rotate_left
   ·(intro y hy; have hk0 := hy.1; have hk1 := hy.2; go_simp; with_reducible rfl)
   try simp only [Act.put]
   try simp only [List.setIfInBounds_toArray]
   try simp only [List.set_cons_succ]
   try simp only [List.set_cons_zero]
   refine takeL 4 (v := ?_) rfl (some 19) rfl (by decide) (by kernel_rfl) (by kernel_rfl) (by kernel_rfl) (by kernel_rfl) (fun _ _ _ h => h) (Or.inl ⟨by rfl, ?_⟩) hSS ?_
   rotate_left
   ·(intro y hy; have hk0 := hy.1; have hk1 := hy.2; go_simp; with_reducible rfl)
   try simp only [Act.put]
   try simp only [List.setIfInBounds_toArray]
   try simp only [List.set_cons_succ]
   try simp only [List.set_cons_zero]
   refine takeL 5 (v := ?_) rfl (some 20) rfl (by decide) (by kernel_rfl) (by kernel_rfl) (by kernel_rfl) (by kernel_rfl) (fun _ _ _ h => h) (Or.inl ⟨by rfl, ?_⟩) hSS ?_
   rotate_left
   ·(intro y hy; have hk0 := hy.1; have hk1 := hy.2; go_simp; with_reducible rfl)
   try simp only [Act.put]
   try simp only [List.setIfInBounds_toArray]
   try simp only [List.set_cons_succ]
   try simp only [List.set_cons_zero]
   refine takeL 6 (v := ?_) rfl (some 21) rfl (by decide) (by kernel_rfl) (by kernel_rfl) (by kernel_rfl) (by kernel_rfl) (fun _ _ _ h => h) (Or.inl ⟨by rfl, ?_⟩) hSS ?_
   rotate_left
   ·(intro y hy; have hk0 := hy.1; have hk1 := hy.2; go_simp; with_reducible rfl)
   try simp only [Act.put]
   try simp only [List.setIfInBounds_toArray]
   try simp only [List.set_cons_succ]
   try simp only [List.set_cons_zero]
   refine takeL 7 (v := ?_) rfl (some 22) rfl (by decide) (by kernel_rfl) (by kernel_rfl) (by kernel_rfl) (by kernel_rfl) (fun _ _ _ h => h) (Or.inl ⟨by rfl, ?_⟩) hSS ?_
   rotate_left
   ·(intro y hy; have hk0 := hy.1; have hk1 := hy.2; go_simp; with_reducible rfl)
   try simp only [Act.put]
   try simp only [List.setIfInBounds_toArray]
   try simp only [List.set_cons_succ]
   try simp only [List.set_cons_zero]
   refine takeL 8 (v := ?_) rfl (some 23) rfl (by decide) (by kernel_rfl) (by kernel_rfl) (by kernel_rfl) (by kernel_rfl) (fun _ _ _ h => h) (Or.inl ⟨by rfl, ?_⟩) hSS ?_
   rotate_left
   ·(intro y hy; have hk0 := hy.1; have hk1 := hy.2; go_simp; with_reducible rfl)
   try simp only [Act.put]
   try simp only [List.setIfInBounds_toArray]
   try simp only [List.set_cons_succ]
   try simp only [List.set_cons_zero]
   refine takeL 9 (v := ?_) rfl (some 24) rfl (by decide) (by kernel_rfl) (by kernel_rfl) (by kernel_rfl) (by kernel_rfl) (fun _ _ _ h => h) (Or.inl ⟨by rfl, ?_⟩) hSS ?_
   rotate_left
   ·(intro y hy; have hk0 := hy.1; have hk1 := hy.2; go_simp; with_reducible rfl)
   try simp only [Act.put]
   try simp only [List.setIfInBounds_toArray]
   try simp only [List.set_cons_succ]
   try simp only [List.set_cons_zero]
   refine readyL (rs := [10]) (by kernel_rfl) (by simp) ?_
   refine ReadyL.cons rfl (fun KK hK => ?_) ReadyL.nil
   refine wantR (by rfl) ?_
   refine wpo_bsU 29 32 2 16 _ (.agg #[.int .i64 x, .int .i64 y]) (.tmp 24) rfl Tryz.underlying29 Tryz.info32 (by decide) (by decide) rfl [.int .i64 x, .int .i64 y] rfl rfl rfl ?_
   intro w7 hR7 hB7 hz7
   have hSS2 := HKP.out _ _ (below_le hB7 ZD.out) hSS
   have hOW := hidP (own_sameR OD.out (fun q eq => hB7.block q (OD.out.lt q eq).2))
   have hSR := hidP (sou_row2 (c := 1) hR7)
   have HB7 := hidP (BD.out.trans (below_le hB7 ZD.out))
   have hz8 := hidP (Nat.le_trans ZD.out hB7.size)
   refine hK.out (Act.put _ (some 25) _) _ (fun _ => hSS2) (fun _ => ?_)
   clear hK KK hSS hR7 hB7 hz7 OD BD ZD
   have hSS := hSS2
   clear hSS2
   try simp only [Act.put]
   try simp only [List.setIfInBounds_toArray]
   try simp only [List.set_cons_succ]
   try simp only [List.set_cons_zero]
   refine readyL (rs := [11]) (by kernel_rfl) (by simp) ?_
   refine ReadyL.cons rfl (fun KK hK => ?_) ReadyL.nil
   refine wantR (by rfl) ?_
   refine wpo_appS (bz := 16) (.tmp 15) (.tmp 25) rfl Tryz.underlying29 Tryz.info32 rfl (by decide) rfl rfl hOW.out hz8.out hSR.out rfl (by intro u hu; simp at hu; rcases hu with rfl | rfl <;> rfl) (by have := HA3.out; have := HN.out; have := HNA.out; omega) (by decide) ?_
   intro v9 w9 ho9 hg9
   have hb9 := grown_le hg9 hz8.out (fun k e => (hOW.out.lt k e).1)
   have hSS2 := HKP.out _ _ hb9 hSS
   obtain ⟨a9, c9, rfl⟩ := own_slice ho9
   have HO9 := hidP ho9
   have HB9 := hidP (HB7.out.trans hb9)
   have HZ9 := hidP (Nat.le_trans hz8.out hb9.size)
   refine hK.out (Act.put _ (some 26) _) _ (fun _ => hSS2) (fun _ => ?_)
   clear hK KK hSS hOW hSR HB7 hz8 ho9 hg9 hb9
   have hSS := hSS2
   clear hSS2
   try simp only [Act.put]
   try simp only [List.setIfInBounds_toArray]
   try simp only [List.set_cons_succ]
   try simp only [List.set_cons_zero]
   refine takeL 12 (v := ?_) rfl (some 0) rfl (by decide) (by kernel_rfl) (by kernel_rfl) (by kernel_rfl) (by kernel_rfl) (fun _ _ _ h => h) (Or.inl ⟨by rfl, ?_⟩) hSS ?_
   rotate_left
   ·(intro y hy; have hk0 := hy.1; have hk1 := hy.2; go_simp; with_reducible rfl)
   try simp only [Act.put]
   try simp only [List.setIfInBounds_toArray]
   try simp only [List.set_cons_succ]
   try simp only [List.set_cons_zero]
   refine doneL (by kernel_rfl) ?_ _
   cases both with
   | false =>
    go_wp2_with fail
    go_roundg (na - (i + 1))
    case measure => omega
    case rel =>
     refine ⟨i + 1, acc2 ++ [(x, y)], by omega, by go_num, by rw [HX.out, HA2.out, List.append_assoc]; rfl, ?_, HB9.out⟩
     rw [List.length_append, pvs_app]
     exact HO9.out
   | true =>
    have hS0 := HKP.out _ _ (Below.refl B _) (show _ /\ _ from ⟨hSS.1, hSS.2⟩)
    have OD := hidP (own_sameR (w' := w9.drew) HO9.out (fun q eq => rfl))
    have BD := hidP (HB9.out.drew)
    have ZD := hidP (show B <= w9.drew.heap.size from HZ9.out)
    clear hSS HO9 HB9
    go_wp2_with fail
    refine beginL (fun y0 => y0.cell? ⟨b1, o1 + i, none⟩ = some (.int .i64 x) /\ y0.cell? ⟨b2, o2 + i, none⟩ = some (.int .i64 y)) 13 (by kernel_rfl) (show _ /\ _ from ⟨hS0.1, hS0.2⟩) (fun hSS => ?_)
    refine takeL 0 (v := ?_) rfl (some 28) rfl (by decide) (by kernel_rfl) (by kernel_rfl) (by kernel_rfl) (by kernel_rfl) (fun _ _ _ h => h) (Or.inl ⟨by rfl, ?_⟩) hSS ?_
    rotate_left
    ·(intro y hy; have hk0 := hy.1; have hk1 := hy.2; go_simp; with_reducible rfl)
    try simp only [Act.put]
    try simp only [List.setIfInBounds_toArray]
    try simp only [List.set_cons_succ]
    try simp only [List.set_cons_zero]
    refine takeL 1 (v := ?_) rfl (some 29) rfl (by decide) (by kernel_rfl) (by kernel_rfl) (by kernel_rfl) (by kernel_rfl) (fun _ _ _ h => h) (Or.inl ⟨by rfl, ?_⟩) hSS ?_
    rotate_left
    ·(intro y hy; have hk0 := hy.1; have hk1 := hy.2; go_simp; with_reducible rfl)
    try simp only [Act.put]
    try simp only [List.setIfInBounds_toArray]
    try simp only [List.set_cons_succ]
    try simp only [List.set_cons_zero]
    refine takeL 2 (v := ?_) rfl (some 30) rfl (by decide) (by kernel_rfl) (by kernel_rfl) (by kernel_rfl) (by kernel_rfl) (fun _ _ _ h => h) (Or.inl ⟨by rfl, ?_⟩) hSS ?_
    rotate_left
    ·(intro y hy; have hk0 := hy.1; have hk1 := hy.2; go_simp; with_reducible rfl)
    try simp only [Act.put]
    try simp only [List.setIfInBounds_toArray]
    try simp only [List.set_cons_succ]
    try simp only [List.set_cons_zero]
    refine takeL 3 (v := ?_) rfl (some 31) rfl (by decide) (by kernel_rfl) (by kernel_rfl) (by kernel_rfl) (by kernel_rfl) (fun _ _ _ h => h) (Or.inl ⟨by rfl, ?_⟩) hSS ?_
    rotate_left
    ·(intro y hy; have hk0 := hy.1; have hk1 := hy.2; go_simp; with_reducible rfl)
    try simp only [Act.put]
    try simp only [List.setIfInBounds_toArray]
    try simp only [List.set_cons_succ]
    try simp only [List.set_cons_zero]
    refine takeL 4 (v := ?_) rfl (some 32) rfl (by decide) (by kernel_rfl) (by kernel_rfl) (by kernel_rfl) (by kernel_rfl) (fun _ _ _ h => h) (Or.inl ⟨by rfl, ?_⟩) hSS ?_
    rotate_left
    ·(intro y hy; have hk0 := hy.1; have hk1 := hy.2; go_simp; with_reducible rfl)
    try simp only [Act.put]
    try simp only [List.setIfInBounds_toArray]
    try simp only [List.set_cons_succ]
    try simp only [List.set_cons_zero]
    refine takeL 5 (v := ?_) rfl (some 33) rfl (by decide) (by kernel_rfl) (by kernel_rfl) (by kernel_rfl) (by kernel_rfl) (fun _ _ _ h => h) (Or.inl ⟨by rfl, ?_⟩) hSS ?_
    rotate_left
    ·(intro y hy; have hk0 := hy.1; have hk1 := hy.2; go_simp; with_reducible rfl)
    try simp only [Act.put]
    try simp only [List.setIfInBounds_toArray]
    try simp only [List.set_cons_succ]
    try simp only [List.set_cons_zero]
    refine takeL 6 (v := ?_) rfl (some 34) rfl (by decide) (by kernel_rfl) (by kernel_rfl) (by kernel_rfl) (by kernel_rfl) (fun _ _ _ h => h) (Or.inl ⟨by rfl, ?_⟩) hSS ?_
    rotate_left
    ·(intro y hy; have hk0 := hy.1; have hk1 := hy.2; go_simp; with_reducible rfl)
    try simp only [Act.put]
    try simp only [List.setIfInBounds_toArray]
    try simp only [List.set_cons_succ]
    try simp only [List.set_cons_zero]
    refine takeL 7 (v := ?_) rfl (some 35) rfl (by decide) (by kernel_rfl) (by kernel_rfl) (by kernel_rfl) (by kernel_rfl) (fun _ _ _ h => h) (Or.inl ⟨by rfl, ?_⟩) hSS ?_
    rotate_left
    ·(intro y hy; have hk0 := hy.1; have hk1 := hy.2; go_simp; with_reducible rfl)
    try simp only [Act.put]
    try simp only [List.setIfInBounds_toArray]
    try simp only [List.set_cons_succ]
    try simp only [List.set_cons_zero]
    refine takeL 8 (v := ?_) rfl (some 36) rfl (by decide) (by kernel_rfl) (by kernel_rfl) (by kernel_rfl) (by kernel_rfl) (fun _ _ _ h => h) (Or.inl ⟨by rfl, ?_⟩) hSS ?_
    rotate_left
    ·(intro y hy; have hk0 := hy.1; have hk1 := hy.2; go_simp; with_reducible rfl)
    try simp only [Act.put]
    try simp only [List.setIfInBounds_toArray]
    try simp only [List.set_cons_succ]
    try simp only [List.set_cons_zero]
    refine takeL 9 (v := ?_) rfl (some 37) rfl (by decide) (by kernel_rfl) (by kernel_rfl) (by kernel_rfl) (by kernel_rfl) (fun _ _ _ h => h) (Or.inl ⟨by rfl, ?_⟩) hSS ?_
    rotate_left
    ·(intro y hy; have hk0 := hy.1; have hk1 := hy.2; go_simp; with_reducible rfl)
    try simp only [Act.put]
    try simp only [List.setIfInBounds_toArray]
    try simp only [List.set_cons_succ]
    try simp only [List.set_cons_zero]
    refine readyL (rs := [10]) (by kernel_rfl) (by simp) ?_
    refine ReadyL.cons rfl (fun KK hK => ?_) ReadyL.nil
    refine wantR (by rfl) ?_
    refine wpo_bsU 29 32 2 16 _ (.agg #[.int .i64 y, .int .i64 x]) (.tmp 37) rfl Tryz.underlying29 Tryz.info32 (by decide) (by decide) rfl [.int .i64 y, .int .i64 x] rfl rfl rfl ?_
    intro w7 hR7 hB7 hz7
    have hSS2 := HKP.out _ _ (below_le hB7 ZD.out) hSS
    have hOW := hidP (own_sameR OD.out (fun q eq => hB7.block q (OD.out.lt q eq).2))
    have hSR := hidP (sou_row2 (c := 1) hR7)
    have HB7 := hidP (BD.out.trans (below_le hB7 ZD.out))
    have hz8 := hidP (Nat.le_trans ZD.out hB7.size)
    refine hK.out (Act.put _ (some 38) _) _ (fun _ => hSS2) (fun _ => ?_)
    clear hK KK hSS hR7 hB7 hz7 OD BD ZD
    have hSS := hSS2
    clear hSS2
    try simp only [Act.put]
    try simp only [List.setIfInBounds_toArray]
    try simp only [List.set_cons_succ]
    try simp only [List.set_cons_zero]
    refine readyL (rs := [11]) (by kernel_rfl) (by simp) ?_
    refine ReadyL.cons rfl (fun KK hK => ?_) ReadyL.nil
    refine wantR (by rfl) ?_
    refine wpo_appS (bz := 16) (.tmp 28) (.tmp 38) rfl Tryz.underlying29 Tryz.info32 rfl (by decide) rfl rfl hOW.out hz8.out hSR.out rfl (by intro u hu; simp at hu; rcases hu with rfl | rfl <;> rfl) (by have := HA3.out; have := HN.out; have := HNA.out; omega) (by decide) ?_
    intro v9 w10 ho9 hg9
    have hb9 := grown_le hg9 hz8.out (fun k e => (hOW.out.lt k e).1)
    have hSS2 := HKP.out _ _ hb9 hSS
    obtain ⟨a10, c10, rfl⟩ := own_slice ho9
    have HO10 := hidP ho9
    have HB10 := hidP (HB7.out.trans hb9)
    have HZ10 := hidP (Nat.le_trans hz8.out hb9.size)
    refine hK.out (Act.put _ (some 39) _) _ (fun _ => hSS2) (fun _ => ?_)
    clear hK KK hSS hOW hSR HB7 hz8 ho9 hg9 hb9
    have hSS := hSS2
    clear hSS2
    try simp only [Act.put]
    try simp only [List.setIfInBounds_toArray]
    try simp only [List.set_cons_succ]
    try simp only [List.set_cons_zero]
    refine takeL 12 (v := ?_) rfl (some 0) rfl (by decide) (by kernel_rfl) (by kernel_rfl) (by kernel_rfl) (by kernel_rfl) (fun _ _ _ h => h) (Or.inl ⟨by rfl, ?_⟩) hSS ?_
    rotate_left
    ·(intro y hy; have hk0 := hy.1; have hk1 := hy.2; go_simp; with_reducible rfl)
    try simp only [Act.put]
    try simp only [List.setIfInBounds_toArray]
    try simp only [List.set_cons_succ]
    try simp only [List.set_cons_zero]
    refine doneL (by kernel_rfl) ?_ _
    go_wp2_with fail
    go_roundg (na - (i + 1))
    case measure => omega
    case rel =>
     refine ⟨i + 1, (acc2 ++ [(x, y)]) ++ [(y, x)], by omega, by go_num, by rw [HX.out, HA2.out]; simp, ?_, HB10.out⟩
     rw [List.length_append, List.length_append, pvs_app, pvs_app]
     exact HO10.out
  ·have hi2 : i = na := by omega
   subst hi2
   clear hlt
   have HF := hidP (show acc2 = acc ++ pairL both la lb by
    rw [HA2.out]
    congr 1
    have := HTK.out
    have h1 := HNA.out
    rw [← h1, List.take_length, h1]
    exact this)
   go_wp2_with fail
   go_ret
   exact ⟨_, rfl, HB2.out, by rw [← HF.out]; exact HO2.out⟩
end Go.Proofs.YtldbbkheemnnhaaGreatDoor
