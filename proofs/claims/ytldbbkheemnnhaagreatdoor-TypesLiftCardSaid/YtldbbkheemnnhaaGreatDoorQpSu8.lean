/-
  types.Subst.
-/
import Derived.Test.YtldbbkheemnnhaaGreatDoorJpRq83
namespace Go.Proofs.YtldbbkheemnnhaaGreatDoor
open Go.RowKit
theorem stay_up {C : Nat} {b c : World} (h : Below C b c) : Stay (fun k => C <= k) b c := ⟨h.os, h.tape, h.output, h.size, fun k _ hn => h.block k (Nat.lt_of_not_le hn)⟩
theorem Ar.nth {α : Type} {z bz : Nat} {P : List Value -> α -> Prop} {K : Ctx} {w : World} {a : Option Addr} {n p : Nat} {l : List α} (h : Ar z bz P K w (.slice a n p) l) (i : Nat) (hi : i < l.length) :
  ∃ x, l[i]? = some x /\ ∃ b o, a = some ⟨b, o, none⟩ /\ b < K.C /\ ∃ cs, cs.length = z /\ w.rangeAt b (o + i * z) cs /\ P cs x := ⟨l[i], List.getElem?_eq_getElem hi, h.each i hi⟩
set_option maxHeartbeats 32000000 in
set_option maxRecDepth 20000 in
theorem subst23 {K : Ctx} : ∀ (n : Nat) {w : World} {cs : List Value} {t : RTy} {vm : Value} {m : List Int}, RtAt n K w cs t -> Fit n t -> Nms K w vm m -> K.C <= w.heap.size ->
  Calls Tryz.prog 23 #[.agg cs.toArray, vm] w fun ev w' => ∃ c, ev = .returned (.agg c.toArray) /\ Below w.heap.size w w' /\ RtQ n (Fr w w') K.B w' c (subN n m t)
 | 0, _, _, _, _, _, h, _, _, _ => h.elim
 | n + 1, w, cs, t, vm, m, ht, hf, hm, hC => by
  have IH := hidP (fun (y : World) (hy : Below w.heap.size w y) (cs : List Value) (e : RTy) (he : RtAt n K y cs e) (hf : Fit n e) => subst23 n he hf (hm.mono (below_le hy hC) fun _ _ _ h => h) (Nat.le_trans hC hy.size))
  obtain ⟨hf1, hf2, hf3⟩ := hf
  have HF3 := hidP hf3
  obtain ⟨v2, v3, rfl, hB, h2, h3⟩ := ht
  obtain ⟨a2, p2, rfl⟩ := Ar.form h2
  obtain ⟨a3, p3, rfl⟩ := Ar.form h3
  obtain ⟨a1, p1, rfl⟩ := Ar.form hm
  have hm9 : m.length <= 140737488355328 := by obtain ⟨_, _, _, _, z1, _⟩ := hm.shape; omega
  have A2 := hidP (fun i hi => nms_cell h2 i hi)
  have AM := hidP (fun i hi => nms_cell hm i hi)
  have A3 := hidP (fun i hi => Ar.nth h3 i hi)
  have HC := hidP hC
  have hsm := K.small
  have CL := hidP (cloneO t.name (by omega))
  have HBN := hidP hB
  have PN := hidP (show ∀ x : Int, putN m x = if 0 <= x /\ x < (m.length : Int) then m.getD x.toNat 0 else x from fun _ => rfl)
  have HSB := hidP (show subN (n + 1) m t = ⟨t.kind, t.name, t.regs.map (putN m), t.elem.map (subN n m)⟩ from rfl)
  clear h2 h3 hm hC hf3 hB
  generalize hnr : t.regs.length = nr at *
  have HNR := hidP hnr
  clear hnr
  generalize hne : t.elem.length = ne at *
  have HNE := hidP hne
  clear hne
  generalize hnm : m.length = nm at *
  have HNM := hidP hnm
  clear hnm
  generalize hsn : str t.name = SN at *
  have HSN := hidP hsn
  clear hsn
  generalize hkd : t.kind = kd at *
  have HKD := hidP hkd
  clear hkd
  have HA := hidP (alloc_two w (.cells #[.int .i64 kd, .string SN, .slice a2 nr p2, .slice a3 ne p3] 25) (.cells z25.toArray 25))
  have R2 := hidP ((Row.new w 25 [.int .i64 kd, .string SN, .slice a2 nr p2, .slice a3 ne p3]).alloc (.cells z25.toArray 25))
  have R4 := hidP (Row.new (w.alloc (.cells #[.int .i64 kd, .string SN, .slice a2 nr p2, .slice a3 ne p3] 25)) 25 z25)
  have HZ := hidP (size_two w (.cells #[.int .i64 kd, .string SN, .slice a2 nr p2, .slice a3 ne p3] 25) (.cells z25.toArray 25))
  rw [size_alloc] at R4
  go_enter Tryz.func23, Tryz.ntmps23
  go_wp2_with fail
  generalize hW : (w.alloc (.cells #[.int .i64 kd, .string SN, .slice a2 nr p2, .slice a3 ne p3] 25)).alloc (.cells z25.toArray 25) = W at R2 R4 HA HZ
  have HW := hidP hW
  clear hW
  first
   | rw [HW.out]
   | rw [show (w.alloc (.cells #[.int .i64 kd, .string SN, .slice a2 nr p2, .slice a3 ne p3] 25)).alloc (.cells #[.int .i64 0, .string ⟨#[]⟩, .slice none 0 0, .slice none 0 0] 25) = W from HW.out]
  clear HW
  have hS0 : Row W.drew w.heap.size 25 [.int .i64 kd, .string SN, .slice a2 nr p2, .slice a3 ne p3] := R2.out.drew
  have HWD := hidP (show Below W.heap.size W W.drew from (Below.refl _ _).drew)
  refine beginL (fun y => Row y w.heap.size 25 [.int .i64 kd, .string SN, .slice a2 nr p2, .slice a3 ne p3]) 8 (by kernel_rfl) hS0 (fun hSS => ?_)
  refine takeL 0 (v := ?_) rfl (some 10) rfl (by decide) (by kernel_rfl) (by kernel_rfl) (by kernel_rfl) (by kernel_rfl) (fun _ _ _ h => h) (Or.inl ⟨by rfl, ?_⟩) hSS ?_
  rotate_left
  ·(intro y hy; have hk0 := hy.cell 0; have hk1 := hy.cell 1; simp only [List.getElem?_cons_zero, List.getElem?_cons_succ] at hk0 hk1; go_simp; with_reducible rfl)
  try simp only [Act.put]
  try simp only [List.setIfInBounds_toArray]
  try simp only [List.set_cons_succ]
  try simp only [List.set_cons_zero]
  refine takeL 1 (v := ?_) rfl (some 11) rfl (by decide) (by kernel_rfl) (by kernel_rfl) (by kernel_rfl) (by kernel_rfl) (fun _ _ _ h => h) (Or.inl ⟨by rfl, ?_⟩) hSS ?_
  rotate_left
  ·(intro y hy; have hk0 := hy.cell 0; have hk1 := hy.cell 1; simp only [List.getElem?_cons_zero, List.getElem?_cons_succ] at hk0 hk1; go_simp; with_reducible rfl)
  try simp only [Act.put]
  try simp only [List.setIfInBounds_toArray]
  try simp only [List.set_cons_succ]
  try simp only [List.set_cons_zero]
  refine takeL 2 (v := ?_) rfl (some 12) rfl (by decide) (by kernel_rfl) (by kernel_rfl) (by kernel_rfl) (by kernel_rfl) (fun _ _ _ h => h) (Or.inl ⟨by rfl, ?_⟩) hSS ?_
  rotate_left
  ·(intro y hy; have hk0 := hy.cell 0; have hk1 := hy.cell 1; simp only [List.getElem?_cons_zero, List.getElem?_cons_succ] at hk0 hk1; go_simp; with_reducible rfl)
  try simp only [Act.put]
  try simp only [List.setIfInBounds_toArray]
  try simp only [List.set_cons_succ]
  try simp only [List.set_cons_zero]
  refine takeL 3 (v := ?_) rfl (some 13) rfl (by decide) (by kernel_rfl) (by kernel_rfl) (by kernel_rfl) (by kernel_rfl) (fun _ _ _ h => h) (Or.inl ⟨by rfl, ?_⟩) hSS ?_
  rotate_left
  ·(intro y hy; have hk0 := hy.cell 0; have hk1 := hy.cell 1; simp only [List.getElem?_cons_zero, List.getElem?_cons_succ] at hk0 hk1; go_simp; with_reducible rfl)
  try simp only [Act.put]
  try simp only [List.setIfInBounds_toArray]
  try simp only [List.set_cons_succ]
  try simp only [List.set_cons_zero]
  refine readyL (rs := [4, 6]) (by kernel_rfl) (by simp) ?_
  refine ReadyL.cons rfl (fun KK hK => ?A) (ReadyL.cons rfl (fun KK hK => ?B) ReadyL.nil)
  case' A =>
   refine wantR (by rfl) ?_
   go_simp
   refine (CL.out _).mono ?_
   rintro _ w3 ⟨rfl, hb3⟩
   have hSS2 := hSS.below hb3 hSS.lt
   have HB3 := hidP (HWD.out.trans (below_le hb3 HWD.out.size))
   refine hK.out _ _ (fun _ => hSS2) (fun _ => ?_)
   clear hK KK hSS
   have hSS := hSS2
   clear hSS2
   clear hb3
   try simp only [Act.put]
   try simp only [List.setIfInBounds_toArray]
   try simp only [List.set_cons_succ]
   try simp only [List.set_cons_zero]
   refine takeL 5 (v := ?_) rfl (some 15) rfl (by decide) (by kernel_rfl) (by kernel_rfl) (by kernel_rfl) (by kernel_rfl) (fun _ _ _ h => h) (Or.inl ⟨by rfl, ?_⟩) hSS ?_
   rotate_left
   ·(intro y hy; have hk0 := hy.cell 0; have hk1 := hy.cell 1; simp only [List.getElem?_cons_zero, List.getElem?_cons_succ] at hk0 hk1; go_simp; with_reducible rfl)
   try simp only [Act.put]
   try simp only [List.setIfInBounds_toArray]
   try simp only [List.set_cons_succ]
   try simp only [List.set_cons_zero]
   refine readyL (rs := [6]) (by kernel_rfl) (by simp) ?_
   refine ReadyL.cons rfl (fun KK hK => ?_) ReadyL.nil
   refine wantR (by rfl) ?_
   refine wpo_al25 rfl ?_
   intro w4 R5 B4 Z4
   have hSS2 := hSS.below B4 hSS.lt
   have HB4 := hidP (HB3.out.trans (below_le B4 HB3.out.size))
   have hg5 := hidP (show W.heap.size <= w3.heap.size from HB3.out.size)
   replace R5 := hidP R5
   refine hK.out (Act.put _ (some 5) _) _ (fun _ => hSS2) (fun _ => ?_)
   clear hK KK hSS HB3 B4 Z4
   have hSS := hSS2
   clear hSS2
   generalize w3.heap.size = g5 at *
   try simp only [Act.put]
   try simp only [List.setIfInBounds_toArray]
   try simp only [List.set_cons_succ]
   try simp only [List.set_cons_zero]
  case' B =>
   refine wantR (by rfl) ?_
   refine wpo_al25 rfl ?_
   intro wA RA BA ZA
   have hSS2 := hSS.below BA hSS.lt
   have HBA := hidP (HWD.out.trans (below_le BA HWD.out.size))
   have hg5 := hidP (show W.heap.size <= W.drew.heap.size from HWD.out.size)
   replace RA := hidP RA
   refine hK.out (Act.put _ (some 5) _) _ (fun _ => hSS2) (fun _ => ?_)
   clear hK KK hSS BA ZA
   have hSS := hSS2
   clear hSS2
   generalize hge : W.drew.heap.size = g5 at *
   clear hge
   try simp only [Act.put]
   try simp only [List.setIfInBounds_toArray]
   try simp only [List.set_cons_succ]
   try simp only [List.set_cons_zero]
   refine readyL (rs := [4]) (by kernel_rfl) (by simp) ?_
   refine ReadyL.cons rfl (fun KK hK => ?_) ReadyL.nil
   refine wantR (by rfl) ?_
   go_simp
   refine (CL.out _).mono ?_
   rintro _ w4 ⟨rfl, hb3⟩
   have hSS2 := hSS.below hb3 hSS.lt
   have HB4 := hidP (HBA.out.trans (below_le hb3 HBA.out.size))
   have R5 := hidP (RA.out.below hb3 RA.out.lt)
   refine hK.out _ _ (fun _ => hSS2) (fun _ => ?_)
   clear hK KK hSS
   have hSS := hSS2
   clear hSS2
   clear hb3 HBA RA
   try simp only [Act.put]
   try simp only [List.setIfInBounds_toArray]
   try simp only [List.set_cons_succ]
   try simp only [List.set_cons_zero]
   refine takeL 5 (v := ?_) rfl (some 15) rfl (by decide) (by kernel_rfl) (by kernel_rfl) (by kernel_rfl) (by kernel_rfl) (fun _ _ _ h => h) (Or.inl ⟨by rfl, ?_⟩) hSS ?_
   rotate_left
   ·(intro y hy; have hk0 := hy.cell 0; have hk1 := hy.cell 1; simp only [List.getElem?_cons_zero, List.getElem?_cons_succ] at hk0 hk1; go_simp; with_reducible rfl)
   try simp only [Act.put]
   try simp only [List.setIfInBounds_toArray]
   try simp only [List.set_cons_succ]
   try simp only [List.set_cons_zero]
  all_goals
   refine readyL (rs := [7]) (by kernel_rfl) (by simp) ?_
   refine ReadyL.cons rfl (fun KK hK => ?_) ReadyL.nil
   refine wantR (by rfl) ?_
   refine wpo_stR 25 (.tmp 5) (.tmp 15) rfl (cs := [.int .i64 kd, .string SN, .slice none 0 0, .slice none 0 0]) rfl rfl R5.out Tryz.sz25 rfl (ones_cons rfl (ones_cons rfl (ones_cons rfl (ones_cons rfl ones_nil)))) ?_
   intro w5 RO5 S5
   have hne5 : w.heap.size ≠ g5 := by have := hg5.out; have := HZ.out; omega
   have hSS2 := S5.row hSS hne5
   have HB5 := hidP (HB4.out.trans (S5.below (C := W.heap.size) HB4.out.size (fun q hq => by have : q = g5 := hq; have := hg5.out; omega)))
   replace RO5 := hidP RO5
   refine hK.out (Act.put _ none _) _ (fun _ => hSS2) (fun _ => ?_)
   clear hK KK hSS S5 R5 HB4
   try simp only [Act.put]
   try simp only [List.setIfInBounds_toArray]
   refine doneL (by kernel_rfl) ?_ _
   have RI := hidP hSS2
   have y2 := hSS2.cell 2
   simp only [List.getElem?_cons_zero, List.getElem?_cons_succ] at y2
   have RR := hidP (R4.out.below HB5.out (by have := HZ.out; omega))
   have HBW := hidP (HA.out.trans (below_le HB5.out HA.out.size))
   clear hSS2 R2 R4 hS0 HWD
   go_wp2_with fail
   go_loopg [19] nr (fun k v19 wr => ∃ (i : Nat) (v : Value), i + k = nr /\ v19 = .int .i64 (i : Int) /\ Stay (fun k => k = g5) w5 wr /\ Row wr g5 25 [.int .i64 kd, .string SN, v, .slice none 0 0] /\ Gro 1 3 PNm w5 wr v ((t.regs.take i).map (putN m)))
   case atStart => exact ⟨0, _, by omega, rfl, Stay.refl _ _, RO5.out, Gro.nil⟩
   case round =>
    obtain ⟨i, v, hi, rfl, hst, hro, hgr⟩ := hrel
    have ST := hidP hst
    have RO := hidP hro
    have GR := hidP hgr
    obtain ⟨ao, cp, rfl⟩ := hgr.form
    have hlt5 := hidP RO5.out.lt
    clear hst hro hgr RO5 y2
    by_cases hlt : i < nr
    ·obtain ⟨b1, o1, rfl, hb1, hc1⟩ := A2.out i (by have := HNR.out; omega)
     have SO := hidP (fun (k : Nat) (hk : k < w.heap.size) => show ¬ (k = g5) from by have := hg5.out; have := HZ.out; omega)
     have WC := hidP (fun (k o : Nat) (u : Value) (hk : k < K.C) (h : w.cell? ⟨k, o, none⟩ = some u) => show wr.cell? ⟨k, o, none⟩ = some u from by
      have hkw := Nat.lt_of_lt_of_le hk HC.out
      have e5 := (HBW.out.cell (p := ⟨k, o, none⟩) hkw).trans h
      have e6 := ST.out.block k (Nat.lt_of_lt_of_le hkw HBW.out.size) (SO.out k hkw)
      unfold World.cell? at e5 ⊢
      simp only at e5 ⊢
      rw [e6]; exact e5)
     have hc1' := WC.out _ _ _ hb1 hc1
     have l1 : (i : Int) < (nr : Int) := by omega
     have HL := hidP (show ((t.regs.take i).map (putN m)).length = i by rw [List.length_map, List.length_take, HNR.out]; omega)
     have HG := hidP (show (t.regs.take (i + 1)).map (putN m) = (t.regs.take i).map (putN m) ++ [putN m (t.regs.getD i 0)] by
      rw [List.take_succ_eq_append_getElem (by have := HNR.out; omega), List.map_append]
      simp [List.getD, List.getElem?_eq_getElem (show i < t.regs.length by have := HNR.out; omega)])
     have PX := hidP (PN.out (t.regs.getD i 0))
     generalize (t.regs.take i).map (putN m) = acc at *
     rw [HL.out] at RO GR
     generalize t.regs.getD i 0 = x at *
     have y2 := RO.out.cell 2
     simp only [List.getElem?_cons_zero, List.getElem?_cons_succ] at y2
     have hsz5 := hidP ST.out.size
     clear hb1 hc1
     have HX : Hid ((∃ j : Nat, x = j /\ (j : Int) < (nm : Int) /\ putN m x = m.getD j 0) ∨ (0 <= x /\ ¬ x < (nm : Int) /\ putN m x = x) ∨ (¬ 0 <= x /\ putN m x = x)) := by
      show _ ∨ _ ∨ _
      have h1 := PX.out
      rcases Int.lt_or_le x 0 with h | h
      ·exact .inr (.inr ⟨by omega, by rw [h1, if_neg (by omega)]⟩)
      ·rcases Int.lt_or_le x (nm : Int) with h' | h'
       ·refine .inl ⟨x.toNat, by omega, by omega, ?_⟩
        rw [h1, if_pos ⟨h, h'⟩]
       ·exact .inr (.inl ⟨h, by omega, by rw [h1, if_neg (by omega)]⟩)
     clear PX
     have FIN := hidP (fun (y : Int) (hy : putN m x = y) => (hy ▸ HG.out : (t.regs.take (i + 1)).map (putN m) = acc ++ [y]))
     rcases HX.out with ⟨j, rfl, hj, hy⟩ | ⟨hx1, hx2, hy⟩ | ⟨hx1, hy⟩
     case inl =>
      obtain ⟨b4, o4, rfl, hb4, hc4⟩ := AM.out j (by have := HNM.out; omega)
      have hc4' := WC.out _ _ _ hb4 hc4
      have F1 := hidP (FIN.out _ hy)
      generalize m.getD j 0 = y at *
      clear hb4 hc4 hy FIN HX HG
      have l2 : (0 : Int) <= (j : Int) := by omega
      go_wp2_with (first | (refine bsliceU rfl 22 3 1 8 _ (.int .i64 y) (.tmp 37) rfl Tryz.underlying22 Tryz.info3I (by decide) (by decide) rfl [.int .i64 y] rfl rfl rfl ?_; intro w7 hR7 hB7 hz7; apply shut))
      show wpList _ _ _ _ _ _
      have R7 := hidP (RO.out.below hB7 RO.out.lt)
      have G7 := hidP (GR.out.past moNm hB7)
      have S7 := hidP (ST.out.trans (Stay.of_below hB7))
      have hz8 := hidP (show w5.heap.size <= w7.heap.size from Nat.le_trans hsz5.out hB7.size)
      have RN := hidP hR7
      clear RO GR ST hR7 hB7 hz7 y2
      go_wp2_with (first | (refine wpl_gro rfl (.tmp 36) (.tmp 38) moNm rfl Tryz.underlying22 Tryz.info3I rfl (by decide) rfl rfl G7.out hz8.out RN.out rfl (ones_cons rfl ones_nil) (x := y) (show NmAt _ _ from rfl) (by have := HL.out; omega) (by decide) ?_; intro eo ep w8 G8 B8; apply shut))
      show wpList _ _ _ _ _ _
      rw [HL.out] at G8
      try rw [HL.out]
      have R8 := hidP (R7.out.below B8 hlt5.out)
      have S8 := hidP (S7.out.step (stay_up B8) (fun i hi hy => absurd hi (Nat.not_lt.2 hy)))
      replace G8 := hidP G8
      have hz9 := hidP (Nat.le_trans hz8.out B8.size)
      clear R7 G7 S7 RN B8 hz8
      go_wp2_with (first | (refine stC rfl 22 (.tmp 40) (.tmp 39) rfl rfl rfl R8.out (svN R8.out rfl _ _ _) ?_; intro w9 R9 S9; apply shut))
      show wpList _ _ _ _ _ _
      simp only [List.set_cons_zero, List.set_cons_succ] at R9
      have G9 := hidP (G8.out.stay moNm S9 (fun k e => by have : k = g5 := e; have := hlt5.out; omega))
      have ST9 := hidP (S8.out.trans S9)
      replace R9 := hidP R9
      clear R8 S8 G8 S9
      go_wp2_with fail
      go_roundg (gk - 1)
      case measure => omega
      case rel => exact ⟨i + 1, _, by omega, by go_num, ST9.out, R9.out, by rw [F1.out]; exact G9.out⟩
     case inr.inl =>
      have F1 := hidP (FIN.out _ hy)
      clear hy FIN HX HG
      go_wp2_with (first | (refine bsliceU rfl 22 3 1 8 _ (.int .i64 x) (.tmp 37) rfl Tryz.underlying22 Tryz.info3I (by decide) (by decide) rfl [.int .i64 x] rfl rfl rfl ?_; intro w7 hR7 hB7 hz7; apply shut))
      show wpList _ _ _ _ _ _
      have R7 := hidP (RO.out.below hB7 RO.out.lt)
      have G7 := hidP (GR.out.past moNm hB7)
      have S7 := hidP (ST.out.trans (Stay.of_below hB7))
      have hz8 := hidP (show w5.heap.size <= w7.heap.size from Nat.le_trans hsz5.out hB7.size)
      have RN := hidP hR7
      clear RO GR ST hR7 hB7 hz7 y2
      go_wp2_with (first | (refine wpl_gro rfl (.tmp 36) (.tmp 38) moNm rfl Tryz.underlying22 Tryz.info3I rfl (by decide) rfl rfl G7.out hz8.out RN.out rfl (ones_cons rfl ones_nil) (x := x) (show NmAt _ _ from rfl) (by have := HL.out; omega) (by decide) ?_; intro eo ep w8 G8 B8; apply shut))
      show wpList _ _ _ _ _ _
      rw [HL.out] at G8
      try rw [HL.out]
      have R8 := hidP (R7.out.below B8 hlt5.out)
      have S8 := hidP (S7.out.step (stay_up B8) (fun i hi hy => absurd hi (Nat.not_lt.2 hy)))
      replace G8 := hidP G8
      have hz9 := hidP (Nat.le_trans hz8.out B8.size)
      clear R7 G7 S7 RN B8 hz8
      go_wp2_with (first | (refine stC rfl 22 (.tmp 40) (.tmp 39) rfl rfl rfl R8.out (svN R8.out rfl _ _ _) ?_; intro w9 R9 S9; apply shut))
      show wpList _ _ _ _ _ _
      simp only [List.set_cons_zero, List.set_cons_succ] at R9
      have G9 := hidP (G8.out.stay moNm S9 (fun k e => by have : k = g5 := e; have := hlt5.out; omega))
      have ST9 := hidP (S8.out.trans S9)
      replace R9 := hidP R9
      clear R8 S8 G8 S9
      go_wp2_with fail
      go_roundg (gk - 1)
      case measure => omega
      case rel => exact ⟨i + 1, _, by omega, by go_num, ST9.out, R9.out, by rw [F1.out]; exact G9.out⟩
     case inr.inr =>
      have F1 := hidP (FIN.out _ hy)
      clear hy FIN HX HG
      go_wp2_with (first | (refine bsliceU rfl 22 3 1 8 _ (.int .i64 x) (.tmp 37) rfl Tryz.underlying22 Tryz.info3I (by decide) (by decide) rfl [.int .i64 x] rfl rfl rfl ?_; intro w7 hR7 hB7 hz7; apply shut))
      show wpList _ _ _ _ _ _
      have R7 := hidP (RO.out.below hB7 RO.out.lt)
      have G7 := hidP (GR.out.past moNm hB7)
      have S7 := hidP (ST.out.trans (Stay.of_below hB7))
      have hz8 := hidP (show w5.heap.size <= w7.heap.size from Nat.le_trans hsz5.out hB7.size)
      have RN := hidP hR7
      clear RO GR ST hR7 hB7 hz7 y2
      go_wp2_with (first | (refine wpl_gro rfl (.tmp 36) (.tmp 38) moNm rfl Tryz.underlying22 Tryz.info3I rfl (by decide) rfl rfl G7.out hz8.out RN.out rfl (ones_cons rfl ones_nil) (x := x) (show NmAt _ _ from rfl) (by have := HL.out; omega) (by decide) ?_; intro eo ep w8 G8 B8; apply shut))
      show wpList _ _ _ _ _ _
      rw [HL.out] at G8
      try rw [HL.out]
      have R8 := hidP (R7.out.below B8 hlt5.out)
      have S8 := hidP (S7.out.step (stay_up B8) (fun i hi hy => absurd hi (Nat.not_lt.2 hy)))
      replace G8 := hidP G8
      have hz9 := hidP (Nat.le_trans hz8.out B8.size)
      clear R7 G7 S7 RN B8 hz8
      go_wp2_with (first | (refine stC rfl 22 (.tmp 40) (.tmp 39) rfl rfl rfl R8.out (svN R8.out rfl _ _ _) ?_; intro w9 R9 S9; apply shut))
      show wpList _ _ _ _ _ _
      simp only [List.set_cons_zero, List.set_cons_succ] at R9
      have G9 := hidP (G8.out.stay moNm S9 (fun k e => by have : k = g5 := e; have := hlt5.out; omega))
      have ST9 := hidP (S8.out.trans S9)
      replace R9 := hidP R9
      clear R8 S8 G8 S9
      go_wp2_with fail
      go_roundg (gk - 1)
      case measure => omega
      case rel => exact ⟨i + 1, _, by omega, by go_num, ST9.out, R9.out, by rw [F1.out]; exact G9.out⟩
    ·have e : i = nr := by omega
     subst e
     have HT := hidP (show t.regs.take i = t.regs by rw [← HNR.out, List.take_length])
     rw [HT.out] at GR
     have HLr := hidP (show (t.regs.map (putN m)).length = i by rw [List.length_map, HNR.out])
     have DN := hidP (GR.out.done (bz := 8) moNm (by have := HLr.out; omega))
     have RIr := hidP (ST.out.row RI.out (by have := hg5.out; have := HZ.out; omega))
     have RRr := hidP (ST.out.row RR.out (by have := hg5.out; have := HZ.out; omega))
     have BW := hidP (HBW.out.trans (ST.out.below (C := w.heap.size) HBW.out.size (fun q hq => by have : q = g5 := hq; have := hg5.out; have := HZ.out; omega)))
     have y3 := RIr.out.cell 3
     simp only [List.getElem?_cons_zero, List.getElem?_cons_succ] at y3
     have hz5 := hidP ST.out.size
     have HBW5 := hidP (show w.heap.size <= w5.heap.size from HBW.out.size)
     generalize wr = wc at *
     have e7 : (t.regs.map (putN m)).length = i := HLr.out
     rw [HT.out] at RO
     rw [e7] at RO DN
     clear hlt GR ST RI RR HBW A2 AM PN e7
     go_wp2_with fail
     go_loopg [45] ne (fun k v45 wr => ∃ (i2 : Nat) (v : Value), i2 + k = ne /\ v45 = .int .i64 (i2 : Int) /\ Stay (fun k => k = g5) wc wr /\ Row wr g5 25 [.int .i64 kd, .string SN, .slice ao i cp, v] /\ Gro 4 25 (PRt n K.B) wc wr v ((t.elem.take i2).map (subN n m)))
     case atStart => exact ⟨0, _, by omega, rfl, Stay.refl _ _, RO.out, Gro.nil⟩
     case round =>
      obtain ⟨i2, v, hi, rfl, hst, hro, hgr⟩ := hrel
      have ST := hidP hst
      have RW := hidP hro
      have GR := hidP hgr
      obtain ⟨eo, ep, rfl⟩ := hgr.form
      have hltc := hidP RO.out.lt
      clear hst hro hgr RO y3
      by_cases hlt : i2 < ne
      ·obtain ⟨e, hie, b1, o1, rfl, hb1, c1, hl1, hr1, hp1⟩ := A3.out i2 hlt
       have hmem : e ∈ t.elem := List.mem_of_getElem? hie
       have HFe := hidP (HF3.out e hmem)
       have BWr := hidP (BW.out.trans (ST.out.below (C := w.heap.size) BW.out.size (fun q hq => by have : q = g5 := hq; have := hg5.out; have := HZ.out; omega)))
       have hr2 := hidP (range_le hr1 BWr.out (Nat.lt_of_lt_of_le hb1 HC.out))
       have HPe := hidP (fun (y : World) (hy : Below w.heap.size w y) => hp1.below (below_le hy HC.out))
       have HLe := hidP (show ((t.elem.take i2).map (subN n m)).length = i2 by rw [List.length_map, List.length_take, HNE.out]; omega)
       have HGe := hidP (show (t.elem.take (i2 + 1)).map (subN n m) = (t.elem.take i2).map (subN n m) ++ [subN n m e] by
        rw [List.take_add_one, hie, List.map_append]; rfl)
       have s1 := hidP (show (Tryz.prog.info? 25).map (·.size) = some c1.length by rw [hl1]; exact Tryz.sz25)
       have s1' := hidP (show (Tryz.prog.info? 25).map (·.size) = some c1.toArray.size by rw [List.size_toArray]; exact s1.out)
       have e1 := hidP (show (4 : Nat) = c1.toArray.size by rw [List.size_toArray]; exact hl1.symm)
       have n1 := hidP (one_mem hp1.ones)
       generalize (t.elem.take i2).map (subN n m) = acc at *
       rw [HLe.out] at RW GR
       have hszc := hidP ST.out.size
       have l1 : (i2 : Int) < (ne : Int) := by omega
       obtain ⟨ca, cb, cc, cd, rfl⟩ := hp1.four
       clear hp1 hr1 hb1 hl1 hmem hie
       go_wp2_with (first | (refine wpList_load_mid rfl 25 (.tmp 47) rfl b1 (o1 + i2 * 4) rfl [ca, cb, cc, cd] _ hr2.out Tryz.underlying25 rfl s1.out ?_) | (refine store_new rfl 25 (.tmp 9) (.tmp 48) rfl #[ca, cb, cc, cd] _ 25 rfl rfl s1'.out e1.out n1.out ?_; apply shut))
       show wpList _ _ _ _ _ _
       have hB9 := alloc_one wr (.cells #[ca, cb, cc, cd] 25)
       have R9 := hidP (Row.new wr 25 [ca, cb, cc, cd])
       have RW9 := hidP (RW.out.below hB9 RW.out.lt)
       have GR9 := hidP (GR.out.past (moRt n K.B) hB9)
       have ST9 := hidP (ST.out.trans (Stay.of_below hB9))
       have BW9 := hidP (BWr.out.trans (below_le hB9 BWr.out.size))
       have hz9 := hidP (Nat.le_trans hszc.out hB9.size)
       generalize hwA : wr.alloc (.cells #[ca, cb, cc, cd] 25) = wA at *
       have HWA := hidP hwA
       clear hwA
       have NE9 := hidP (fun (hq : (Value.slice eo i2 ep).ownBlock = some wr.heap.size) => Nat.lt_irrefl _ (GR.out.own_lt hq))
       clear RW GR ST hr2 hB9 BWr hszc s1' e1 n1
       generalize hg9 : wr.heap.size = g9 at *
       have HG9 := hidP hg9
       clear hg9
       go_wp2_with fail
       have hS1 : Row wA.drew g5 25 [.int .i64 kd, .string SN, .slice ao i cp, .slice eo i2 ep] /\ Row wA.drew g9 25 [ca, cb, cc, cd] := ⟨RW9.out.drew, R9.out.drew⟩
       have BD := hidP (BW9.out.drew)
       have ID := hidP (IH.out _ BD.out [ca, cb, cc, cd] e (HPe.out _ BD.out) HFe.out)
       have GD := hidP (GR9.out.stay (moRt n K.B) ((Stay.refl (fun _ => False) wA).drew) (fun _ h => h.elim))
       have SD := hidP (ST9.out.trans ((Stay.refl (fun k => k = g5) wA).drew))
       have BES := hidP (fun (y : World) => (GD.out.beside (w := y) (show wc.heap.size <= wA.drew.heap.size from hz9.out) : Kp (Fr wA.drew y) (Qv wc y (.slice eo i2 ep)) y y))
       have ZD := hidP (show wc.heap.size <= wA.drew.heap.size from hz9.out)
       clear RW9 R9 GR9 ST9 BW9 hz9
       refine beginL (fun y => Row y g5 25 [.int .i64 kd, .string SN, .slice ao i cp, .slice eo i2 ep] /\ Row y g9 25 [ca, cb, cc, cd]) 8 (by kernel_rfl) hS1 (fun hSS => ?_)
       refine takeL 0 (v := ?_) rfl (some 49) rfl (by decide) (by kernel_rfl) (by kernel_rfl) (by kernel_rfl) (by kernel_rfl) (fun _ _ _ h => h) (Or.inl ⟨by rfl, ?_⟩) hSS ?_
       rotate_left
       ·(intro y hy; have j3 := hy.1.cell 3; have q0 := hy.2.cell 0; have q1 := hy.2.cell 1; have q2 := hy.2.cell 2; have q3 := hy.2.cell 3; simp only [List.getElem?_cons_zero, List.getElem?_cons_succ] at j3 q0 q1 q2 q3; go_simp; with_reducible rfl)
       try simp only [Act.put]
       try simp only [List.setIfInBounds_toArray]
       try simp only [List.set_cons_succ]
       try simp only [List.set_cons_zero]
       refine takeL 1 (v := ?_) rfl (some 50) rfl (by decide) (by kernel_rfl) (by kernel_rfl) (by kernel_rfl) (by kernel_rfl) (fun _ _ _ h => h) (Or.inl ⟨by rfl, ?_⟩) hSS ?_
       rotate_left
       ·(intro y hy; have j3 := hy.1.cell 3; have q0 := hy.2.cell 0; have q1 := hy.2.cell 1; have q2 := hy.2.cell 2; have q3 := hy.2.cell 3; simp only [List.getElem?_cons_zero, List.getElem?_cons_succ] at j3 q0 q1 q2 q3; go_simp; with_reducible rfl)
       try simp only [Act.put]
       try simp only [List.setIfInBounds_toArray]
       try simp only [List.set_cons_succ]
       try simp only [List.set_cons_zero]
       refine takeL 2 (v := ?_) rfl (some 51) rfl (by decide) (by kernel_rfl) (by kernel_rfl) (by kernel_rfl) (by kernel_rfl) (fun _ _ _ h => h) (Or.inl ⟨by rfl, ?_⟩) hSS ?_
       rotate_left
       ·(intro y hy; have j3 := hy.1.cell 3; have q0 := hy.2.cell 0; have q1 := hy.2.cell 1; have q2 := hy.2.cell 2; have q3 := hy.2.cell 3; simp only [List.getElem?_cons_zero, List.getElem?_cons_succ] at j3 q0 q1 q2 q3; go_simp; with_reducible rfl)
       try simp only [Act.put]
       try simp only [List.setIfInBounds_toArray]
       try simp only [List.set_cons_succ]
       try simp only [List.set_cons_zero]
       refine takeL 3 (v := ?_) rfl (some 52) rfl (by decide) (by kernel_rfl) (by kernel_rfl) (by kernel_rfl) (by kernel_rfl) (fun _ _ _ h => h) (Or.inl ⟨by rfl, ?_⟩) hSS ?_
       rotate_left
       ·(intro y hy; have j3 := hy.1.cell 3; have q0 := hy.2.cell 0; have q1 := hy.2.cell 1; have q2 := hy.2.cell 2; have q3 := hy.2.cell 3; simp only [List.getElem?_cons_zero, List.getElem?_cons_succ] at j3 q0 q1 q2 q3; go_simp; with_reducible rfl)
       try simp only [Act.put]
       try simp only [List.setIfInBounds_toArray]
       try simp only [List.set_cons_succ]
       try simp only [List.set_cons_zero]
       refine readyL (rs := [4]) (by kernel_rfl) (by simp) ?_
       refine ReadyL.cons rfl (fun KK hK => ?_) ReadyL.nil
       refine wantR (by rfl) ?_
       go_simp
       refine ID.out.mono ?_
       rintro _ w6 ⟨c6, rfl, hb6, hq6⟩
       have hSS2 := (⟨hSS.1.below hb6 hSS.1.lt, hSS.2.below hb6 hSS.2.lt⟩ : Row w6 g5 25 [.int .i64 kd, .string SN, .slice ao i cp, .slice eo i2 ep] /\ Row w6 g9 25 [ca, cb, cc, cd])
       have hz6 := hb6.size
       have G6 := hidP (GD.out.past (moRt n K.B) hb6)
       have T6 := hidP (SD.out.trans (Stay.of_below hb6))
       have Z6 := hidP (Nat.le_trans ZD.out hz6)
       have Q6 := hidP hq6
       refine hK.out _ _ (fun _ => hSS2) (fun _ => ?_)
       clear hK KK hSS hb6 hq6 GD SD ID BD hz6
       have hSS := hSS2
       clear hSS2
       try simp only [Act.put]
       try simp only [List.setIfInBounds_toArray]
       try simp only [List.set_cons_succ]
       try simp only [List.set_cons_zero]
       refine readyL (rs := [5]) (by kernel_rfl) (by simp) ?_
       refine ReadyL.cons rfl (fun KK hK => ?_) ReadyL.nil
       refine wantR (by rfl) ?_
       refine wpo_bsU 23 25 4 72 _ (.agg c6.toArray) (.tmp 53) rfl Tryz.underlying23 Tryz.info25S (by decide) (by decide) rfl c6 rfl Q6.out.len rfl ?_
       intro w7 hR7 hB7 hz7
       have hSS2 := (⟨hSS.1.below hB7 hSS.1.lt, hSS.2.below hB7 hSS.2.lt⟩ : Row w7 g5 25 [.int .i64 kd, .string SN, .slice ao i cp, .slice eo i2 ep] /\ Row w7 g9 25 [ca, cb, cc, cd])
       have G7 := hidP (G6.out.past (moRt n K.B) hB7)
       have T7 := hidP (T6.out.trans (Stay.of_below hB7))
       have Z7 := hidP (Nat.le_trans Z6.out hB7.size)
       have Q7 := hidP (show RtQ n (Fr wA.drew w7) K.B w7 c6 (subN n m e) from Q6.out.mono (kp_stay (X := fun _ => False) (Stay.of_below hB7) (fun _ h => h.elim) (Nat.le_refl _)))
       have R7 := hidP hR7
       refine hK.out (Act.put _ (some 54) _) _ (fun _ => hSS2) (fun _ => ?_)
       clear hK KK hSS hB7 hR7 hz7 G6 T6 Z6 Q6
       have hSS := hSS2
       clear hSS2
       try simp only [Act.put]
       try simp only [List.setIfInBounds_toArray]
       try simp only [List.set_cons_succ]
       try simp only [List.set_cons_zero]
       refine readyL (rs := [6]) (by kernel_rfl) (by simp) ?_
       refine ReadyL.cons rfl (fun KK hK => ?_) ReadyL.nil
       refine wantR (by rfl) ?_
       refine wpo_groK (.tmp 50) (.tmp 54) (moRt n K.B) rfl Tryz.underlying23 Tryz.info25S rfl (by decide) rfl rfl G7.out Z7.out R7.out Q7.out.len Q7.out.ones (x := subN n m e) (Q7.out.mono (BES.out w7)) (by have := HLe.out; omega) (by decide) ?_
       intro fo fp w8 G8 B8 K8
       rw [HLe.out] at G8
       have hSS2 := (⟨hSS.1.below B8 hltc.out, hSS.2.keep (K8 _ hSS.2.lt NE9.out)⟩ : Row w8 g5 25 [.int .i64 kd, .string SN, .slice ao i cp, .slice eo i2 ep] /\ Row w8 g9 25 [ca, cb, cc, cd])
       have T8 := hidP (T7.out.step (stay_up B8) (fun i hi hy => absurd hi (Nat.not_lt.2 hy)))
       replace G8 := hidP G8
       try rw [HLe.out]
       refine hK.out (Act.put _ (some 55) _) _ (fun _ => hSS2) (fun _ => ?_)
       clear hK KK hSS B8 K8 G7 T7 Z7 Q7 R7
       have hSS := hSS2
       clear hSS2
       try simp only [Act.put]
       try simp only [List.setIfInBounds_toArray]
       try simp only [List.set_cons_succ]
       try simp only [List.set_cons_zero]
       refine takeL 7 (v := ?_) rfl (some 56) rfl (by decide) (by kernel_rfl) (by kernel_rfl) (by kernel_rfl) (by kernel_rfl) (fun _ _ _ h => h) (Or.inl ⟨by rfl, ?_⟩) hSS ?_
       rotate_left
       ·(intro y hy; have j3 := hy.1.cell 3; have q0 := hy.2.cell 0; have q1 := hy.2.cell 1; have q2 := hy.2.cell 2; have q3 := hy.2.cell 3; simp only [List.getElem?_cons_zero, List.getElem?_cons_succ] at j3 q0 q1 q2 q3; go_simp; with_reducible rfl)
       try simp only [Act.put]
       try simp only [List.setIfInBounds_toArray]
       try simp only [List.set_cons_succ]
       try simp only [List.set_cons_zero]
       refine readyL (rs := [8]) (by kernel_rfl) (by simp) ?_
       refine ReadyL.cons rfl (fun KK hK => ?_) ReadyL.nil
       refine wantR (by rfl) ?_
       refine wpo_stC (v := .slice fo (i2 + 1) fp) 23 (.tmp 56) (.tmp 55) rfl rfl rfl hSS.1 (sv23 hSS.1 rfl _ _ _) ?_
       intro w9 R9 S9
       simp only [List.set_cons_zero, List.set_cons_succ] at R9
       have G9 := hidP (G8.out.stay (moRt n K.B) S9 (fun k e => by have : k = g5 := e; have := hltc.out; omega))
       have T9 := hidP (T8.out.trans S9)
       replace R9 := hidP R9
       refine hK.out (Act.put _ none _) _ (fun h => absurd rfl h) (fun _ => ?_)
       clear hK KK hSS T8 G8 S9
       refine doneL (by kernel_rfl) ?_ _
       go_wp2_with fail
       go_roundg (gk - 1)
       case measure => omega
       case rel => exact ⟨i2 + 1, _, by omega, by go_num, T9.out, R9.out, by rw [HGe.out]; exact G9.out⟩
      ·have e : ne = i2 := by omega
       have HT := hidP (show t.elem.take i2 = t.elem by rw [← e, ← HNE.out, List.take_length])
       rw [HT.out] at GR RW
       have HLe := hidP (show (t.elem.map (subN n m)).length = ne by rw [List.length_map, HNE.out])
       have DE := hidP (GR.out.done (bz := 72) (moRt n K.B) (by have := HLe.out; omega))
       rw [HLe.out] at DE RW
       have RI2 := hidP (ST.out.row RIr.out (by have := hg5.out; have := HZ.out; omega))
       have RR2 := hidP (ST.out.row RRr.out (by have := hg5.out; have := HZ.out; omega))
       have BW2 := hidP (BW.out.trans (ST.out.below (C := w.heap.size) BW.out.size (fun q hq => by have : q = g5 := hq; have := hg5.out; have := HZ.out; omega)))
       have K2 := hidP (show Kp (Fr w5 wc) (Fr w5 wr) wc wr from kp_stay ST.out (fun k e => by have : k = g5 := e; have := hlt5.out; omega) (Nat.le_refl _))
       have hzc := hidP ST.out.size
       clear GR ST RIr RRr BW HT A3 IH
       go_wp2_with (first | (refine ldR rfl 25 (.tmp 5) rfl rfl RW.out Tryz.underlying25 rfl Tryz.sz25 ?_) | (refine stR rfl 25 (.tmp 4) (.tmp 58) rfl (cs := [.int .i64 kd, .string SN, .slice ao i cp, .slice eo ne ep]) rfl rfl RR2.out Tryz.sz25 rfl (ones_cons rfl (ones_cons rfl (ones_cons rfl (ones_cons rfl ones_nil)))) ?_; intro wF RF SF; apply shut))
       show wpList _ _ _ _ _ _
       have BF := hidP (BW2.out.trans (SF.below (C := w.heap.size) BW2.out.size (fun q hq => by have : q = w.heap.size + 1 := hq; omega)))
       have hne9 : ∀ k, k = w.heap.size + 1 -> k < w5.heap.size := fun k e => by have := hlt5.out; have := hg5.out; have := HZ.out; omega
       have KA := hidP (show Kp (Fr w5 wr) (Fr w wF) wr wF from kp_stay SF (fun k e => hne9 k e) (by have := HBW5.out; omega))
       have KB := hidP (show Kp (Fr wc wr) (Fr w wF) wr wF from kp_stay SF (fun k e => Nat.lt_of_lt_of_le (hne9 k e) hz5.out) (by have := HBW5.out; have := hz5.out; omega))
       have DA := hidP (show ArQ 1 8 NmAt (Fr w wF) wF (.slice ao i cp) (t.regs.map (putN m)) from (DN.out.mono K2.out fun _ _ _ h => h).mono KA.out fun _ _ _ h => h)
       have DB := hidP (show ArQ 4 72 (RtQ n (Fr w wF) K.B wF) (Fr w wF) wF (.slice eo ne ep) (t.elem.map (subN n m)) from DE.out.mono KB.out fun _ _ _ h => RtQ.mono KB.out h)
       replace RF := hidP RF
       clear SF KA KB DN DE K2 hne9 RW RR2
       go_wp2_with fail
       exact bodyPost_ret (v := .agg #[.int .i64 kd, .string SN, .slice ao i cp, .slice eo ne ep]) (results_cell_row Tryz.results23 _ _ (w.heap.size + 1) 25 _ (0, 0) _ rfl RF.out.heap Tryz.underlying25 rfl (by kernel_rfl)) rfl ⟨[.int .i64 kd, .string SN, .slice ao i cp, .slice eo ne ep], rfl, BF.out, by
        rw [HSB.out]
        exact ⟨_, _, by rw [HSN.out], HBN.out, DA.out, DB.out⟩⟩
end Go.Proofs.YtldbbkheemnnhaaGreatDoor
