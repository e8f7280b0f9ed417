/-
  The texts Lk8, Ix8, joined.
-/
import Derived.Test.YtldbbkheemnnhaaGreatDoorQpLj8
import Derived.Test.YtldbbkheemnnhaaGreatDoorJpLg82
namespace Go.Proofs.YtldbbkheemnnhaaGreatDoor
open Go.RowKit Go.Maps
theorem Tryz.sz79 : (Tryz.prog.info? 79).map (·.size) = some 3 := by kernel_rfl
set_option maxHeartbeats 16000000 in
set_option maxRecDepth 20000 in
theorem lift17 {K : Ctx} {Q : Nat -> Prop} {B : Nat} {gs b c : Nat} {L : List Sct} {lives : List Bs} {w : World} {n kq : Nat} {cs : List Value} {t : Ty} {vl : Value} {nx : Int} (hBB : B <= 1048576) (hL9 : ∀ x ∈ L, x.lives.length <= 1000) (hs : Scp Q B w gs b c L) (ht : TyAt n K w cs t) (hl : Strs K w vl lives) (hC : K.C <= w.heap.size) (hll : lives.length <= 1000) (hf : FitT kq t) (hn1 : -9223372036854775808 <= nx) (hn2 : nx + 1000 * (kq : Int) <= 4611686018427387904) :
  Calls Tryz.prog 17 #[.pointer (some ⟨gs, 0, none⟩), .agg cs.toArray, vl, .int .i64 nx] w fun ev w' => ∃ d, ev = .returned (.tuple #[.agg d.toArray, .int .i64 (liftN L lives kq t nx).2]) /\ Below w.heap.size w w' /\ RtQ kq (Fr w w') K.B w' d (liftN L lives kq t nx).1 := by
 have HA := hidP (alloc_two w (.cells cs.toArray 36) (.cells z25.toArray 25))
 have R5 := hidP ((Row.new w 36 cs).alloc (.cells z25.toArray 25))
 have R8 := hidP (Row.new (w.alloc (.cells cs.toArray 36)) 25 z25)
 have HZ := hidP (size_two w (.cells cs.toArray 36) (.cells z25.toArray 25))
 rw [size_alloc] at R8
 have HS := hidP (fun (y : World) (hy : Below w.heap.size w y) => hs.past hy)
 have HT := hidP (fun (y : World) (hy : Below w.heap.size w y) => ht.below (below_le hy hC))
 have hgs := hidP hs.row.lt
 have hgb := hidP hs.map.lt
 have hgq := hidP hs.sub
 have PL := hidP (fun (y : World) (hy : Below w.heap.size w y) => placesOf42 (hl.below (below_le hy hC)) (Nat.le_trans hC hy.size) hll)
 have HC := hidP hC
 have s5 := hidP (show (Tryz.prog.info? 36).map (·.size) = some cs.length by rw [ht.len]; exact Tryz.sz36)
 clear hs ht hl hC
 go_enter Tryz.func17, Tryz.ntmps17
 go_wp2_with fail
 generalize hW : (w.alloc (.cells cs.toArray 36)).alloc (.cells z25.toArray 25) = W at R5 R8 HA HZ
 have HW := hidP hW
 clear hW
 first
  | rw [HW.out]
  | rw [show (w.alloc (.cells cs.toArray 36)).alloc (.cells #[.int .i64 0, .string ⟨#[]⟩, .slice none 0 0, .slice none 0 0] 25) = W from HW.out]
 clear HW
 refine (PL.out W HA.out).mono ?_
 rintro _ w1 ⟨gm, rfl, hmp, hb1, hm1, hm2⟩
 have MP1 := hidP hmp
 have B1 := hidP (HA.out.trans (below_le hb1 HA.out.size))
 have R51 := hidP (R5.out.below hb1 R5.out.lt)
 have R81 := hidP (R8.out.below hb1 R8.out.lt)
 have hm := hidP hm2
 have RN := hidP (Row.new w1 79 [.pointer none, .map none, .int .i64 0])
 have BN := hidP (alloc_one w1 (.cells #[.pointer none, .map none, .int .i64 0] 79))
 clear PL R5 R8 HA hmp hb1 hm1 hm2
 go_wp2_with (first | (refine stR rfl 79 (.tmp 10) (.tmp 16) rfl (cs := [.pointer (some ⟨gs, 0, none⟩), .map (some gm), .int .i64 nx]) rfl rfl RN.out Tryz.sz79 rfl (ones_cons rfl (ones_cons rfl (ones_cons rfl ones_nil))) ?_; intro w2 R2 S2; apply shut))
 show wpList _ _ _ _ _ _
 have hz1 := B1.out.size
 have BS := hidP (BN.out.trans (S2.below (C := w1.heap.size) BN.out.size (fun q hq => Nat.le_of_eq hq.symm)))
 have B2 := hidP (B1.out.trans (below_le BS.out B1.out.size))
 have R52 := hidP (R51.out.below BS.out R51.out.lt)
 have R82 := hidP (R81.out.below BS.out R81.out.lt)
 have MP2 := hidP (MP1.out.below BS.out)
 have LI2 := hidP (show Lif Q B w2 w1.heap.size gs b c gm L lives nx from ⟨R2, MP2.out, HS.out _ B2.out, by have := hgs.out; omega, by have := hgb.out; omega, fun k hk => by have := hgq.out k hk; omega, hm.out⟩)
 have HT2 := hidP (HT.out _ B2.out)
 have hg1 := hidP (show w.heap.size + 2 <= w1.heap.size by have := R81.out.lt; omega)
 have LF := hidP (lift43 hBB (show K.C <= w1.heap.size by have := HC.out; omega) hL9 n LI2.out HT2.out hf hn1 hn2)
 have hz2 := hidP (show w1.heap.size < w2.heap.size by have := LI2.out.row.lt; omega)
 clear RN BN R2 S2 BS R51 R81 MP1 MP2 B1 LI2 HT2 HS HT
 generalize hg10 : w1.heap.size = g10 at *
 clear hg10
 go_wp2_with (first | (refine ldR rfl 36 (.tmp 5) rfl rfl R52.out Tryz.underlying36 rfl s5.out ?_))
 refine LF.out.mono ?_
 rintro _ w3 ⟨d, rfl, hst3, hli3, hq3⟩
 obtain ⟨d0, d1, d2, d3, rfl⟩ : ∃ e0 e1 e2 e3, d = [e0, e1, e2, e3] := by
  match d, hq3.len with
  | [e0, e1, e2, e3], _ => exact ⟨_, _, _, _, rfl⟩
 have Q3 := hidP hq3
 have OD := hidP hq3.ones
 have RL3 := hidP hli3.row
 have R83 := hidP (hst3.row R82.out (by have := hg1.out; omega))
 have B3 := hidP (B2.out.trans (hst3.below (C := w.heap.size) B2.out.size (fun q hq => by have : q = g10 := hq; have := hg1.out; omega)))
 have hz3 := hidP hst3.size
 have RN := hidP (Row.new w3 25 z25)
 have BN := hidP (alloc_one w3 (.cells z25.toArray 25))
 unfold z25 at RN BN
 clear LF R52 R82 B2 hst3 hli3 hq3 s5
 generalize hnx : (liftN L lives kq t nx).2 = nx2 at *
 have HNX := hidP hnx
 clear hnx
 go_wp2_with (first | (refine stR rfl 25 (.tmp 11) (.tmp 18) rfl (cs := [d0, d1, d2, d3]) rfl rfl RN.out Tryz.sz25 rfl OD.out ?_; intro w4 R4 S4; apply shut))
 show wpList _ _ _ _ _ _
 have BS := hidP (BN.out.trans (S4.below (C := w3.heap.size) BN.out.size (fun q hq => Nat.le_of_eq hq.symm)))
 have RL4 := hidP (RL3.out.below BS.out RL3.out.lt)
 have R84 := hidP (R83.out.below BS.out R83.out.lt)
 have B4 := hidP (B3.out.trans (below_le BS.out B3.out.size))
 have Q4 := hidP (show RtQ kq (Fr w2 w4) K.B w4 [d0, d1, d2, d3] (liftN L lives kq t nx).1 from Q3.out.mono (kp_stay (X := fun _ => False) (Stay.of_below BS.out) (fun _ h => h.elim) (Nat.le_refl _)))
 have R4' := hidP R4
 clear RN BN BS R4 S4 RL3 R83 B3 Q3
 go_wp2_with fail
 have hS0 : Row w4.drew w3.heap.size 25 [d0, d1, d2, d3] /\ Row w4.drew g10 79 [.pointer (some ⟨gs, 0, none⟩), .map (some gm), .int .i64 nx2] := ⟨R4'.out.drew, RL4.out.drew⟩
 have R8D := hidP R84.out.drew
 have BD := hidP B4.out.drew
 have hlt3 := hidP R4'.out.lt
 have QD := hidP (show RtQ kq (Fr w2 w4.drew) K.B w4.drew [d0, d1, d2, d3] (liftN L lives kq t nx).1 from Q4.out.mono (kp_stay (X := fun _ => False) ((Stay.refl (fun _ => False) w4).drew) (fun _ h => h.elim) (Nat.le_refl _)))
 clear R4' RL4 R84 B4 Q4
 refine beginL (fun y => Row y w3.heap.size 25 [d0, d1, d2, d3] /\ Row y g10 79 [.pointer (some ⟨gs, 0, none⟩), .map (some gm), .int .i64 nx2]) 5 (by kernel_rfl) hS0 (fun hSS => ?_)
 refine takeL 0 (v := ?_) rfl (some 19) rfl (by decide) (by kernel_rfl) (by kernel_rfl) (by kernel_rfl) (by kernel_rfl) (fun _ _ _ h => h) (Or.inl ⟨by rfl, ?_⟩) hSS ?_
 rotate_left
 ·(intro y hy; have j0 := hy.1.cell 0; have j1 := hy.1.cell 1; have j2 := hy.1.cell 2; have j3 := hy.1.cell 3; have q2 := hy.2.cell 2; simp only [List.getElem?_cons_zero, List.getElem?_cons_succ] at j0 j1 j2 j3 q2; go_simp; with_reducible rfl)
 try simp only [Act.put]
 try simp only [List.setIfInBounds_toArray]
 try simp only [List.set_cons_succ]
 try simp only [List.set_cons_zero]
 refine takeL 1 (v := ?_) rfl (some 20) rfl (by decide) (by kernel_rfl) (by kernel_rfl) (by kernel_rfl) (by kernel_rfl) (fun _ _ _ h => h) (Or.inl ⟨by rfl, ?_⟩) hSS ?_
 rotate_left
 ·(intro y hy; have j0 := hy.1.cell 0; have j1 := hy.1.cell 1; have j2 := hy.1.cell 2; have j3 := hy.1.cell 3; have q2 := hy.2.cell 2; simp only [List.getElem?_cons_zero, List.getElem?_cons_succ] at j0 j1 j2 j3 q2; go_simp; with_reducible rfl)
 try simp only [Act.put]
 try simp only [List.setIfInBounds_toArray]
 try simp only [List.set_cons_succ]
 try simp only [List.set_cons_zero]
 refine takeL 2 (v := ?_) rfl (some 21) rfl (by decide) (by kernel_rfl) (by kernel_rfl) (by kernel_rfl) (by kernel_rfl) (fun _ _ _ h => h) (Or.inl ⟨by rfl, ?_⟩) hSS ?_
 rotate_left
 ·(intro y hy; have j0 := hy.1.cell 0; have j1 := hy.1.cell 1; have j2 := hy.1.cell 2; have j3 := hy.1.cell 3; have q2 := hy.2.cell 2; simp only [List.getElem?_cons_zero, List.getElem?_cons_succ] at j0 j1 j2 j3 q2; go_simp; with_reducible rfl)
 try simp only [Act.put]
 try simp only [List.setIfInBounds_toArray]
 try simp only [List.set_cons_succ]
 try simp only [List.set_cons_zero]
 refine readyL (rs := [3]) (by kernel_rfl) (by simp) ?_
 refine ReadyL.cons rfl (fun KK hK => ?_) ReadyL.nil
 refine wantR (by rfl) ?_
 refine wpo_stR 25 (.tmp 8) (.tmp 19) rfl (cs := [d0, d1, d2, d3]) rfl rfl R8D.out Tryz.sz25 rfl OD.out ?_
 intro wF RF SF
 have hne1 : w3.heap.size ≠ w.heap.size + 1 := by have := hg1.out; have := hz2.out; have := hz3.out; omega
 have hne2 : g10 ≠ w.heap.size + 1 := by have := hg1.out; omega
 have hSS2 := (⟨SF.row hSS.1 hne1, SF.row hSS.2 hne2⟩ : Row wF w3.heap.size 25 [d0, d1, d2, d3] /\ Row wF g10 79 [.pointer (some ⟨gs, 0, none⟩), .map (some gm), .int .i64 nx2])
 have BF := hidP (BD.out.trans (SF.below (C := w.heap.size) BD.out.size (fun q hq => by have : q = w.heap.size + 1 := hq; omega)))
 have QF := hidP (show RtQ kq (Fr w wF) K.B wF [d0, d1, d2, d3] (liftN L lives kq t nx).1 from QD.out.mono (kp_stay SF (fun k e => by have : k = w.heap.size + 1 := e; have := hg1.out; have := hz2.out; omega) (by have := hg1.out; have := hz2.out; omega)))
 have RF' := hidP RF
 refine hK.out (Act.put _ none _) _ (fun _ => hSS2) (fun _ => ?_)
 clear hK KK hSS RF SF QD BD R8D
 have hSS := hSS2
 clear hSS2
 try simp only [Act.put]
 try simp only [List.setIfInBounds_toArray]
 try simp only [List.set_cons_succ]
 try simp only [List.set_cons_zero]
 refine takeL 4 (v := ?_) rfl (some 9) rfl (by decide) (by kernel_rfl) (by kernel_rfl) (by kernel_rfl) (by kernel_rfl) (fun _ _ _ h => h) (Or.inl ⟨by rfl, ?_⟩) hSS ?_
 rotate_left
 ·(intro y hy; have j0 := hy.1.cell 0; have j1 := hy.1.cell 1; have j2 := hy.1.cell 2; have j3 := hy.1.cell 3; have q2 := hy.2.cell 2; simp only [List.getElem?_cons_zero, List.getElem?_cons_succ] at j0 j1 j2 j3 q2; go_simp; with_reducible rfl)
 try simp only [Act.put]
 try simp only [List.setIfInBounds_toArray]
 try simp only [List.set_cons_succ]
 try simp only [List.set_cons_zero]
 refine doneL (by kernel_rfl) ?_ _
 go_wp2_with fail
 exact bodyPost_ret (v := .tuple #[.agg #[d0, d1, d2, d3], .int .i64 nx2]) (results_cell_row2 Tryz.results17 _ _ (w.heap.size + 1) 25 _ (0, 0) _ rfl RF'.out.heap Tryz.underlying25 rfl (by kernel_rfl)) rfl ⟨_, by rw [HNX.out], BF.out, QF.out⟩
end Go.Proofs.YtldbbkheemnnhaaGreatDoor

namespace Go.Proofs.YtldbbkheemnnhaaGreatDoor
open Go.RowKit
def idxK (nm : Bs) : Nat -> List Fld -> Int
 | _, [] => -1
 | i, f :: l => if f.name = nm then (i : Int) else idxK nm (i + 1) l
set_option maxHeartbeats 1000000 in
theorem clo116 (g : Nat) (n a : Bs) (mu : Bool) (t0 t1 t2 t3 : Value) (w : World) (hc : w.cell? ⟨g, 0, none⟩ = some (.string (str n))) :
  Calls Tryz.prog 116 #[.agg #[.bool mu, .string (str a), t0, t1, t2, t3], .pointer (some ⟨g, 0, none⟩)] w fun ev w' => ev = .returned (.bool (decide (a = n))) /\ Below w.heap.size w w' := by
 have hb := str_beq a n
 have HB := hidP (alloc_one w (.cells #[.bool mu, .string (str a), t0, t1, t2, t3] 145))
 have hc2 := (HB.out.cell (p := ⟨g, 0, none⟩) (World.block_lt_of_cell? w _ hc)).trans hc
 have hr : (w.alloc (.cells #[.bool mu, .string (str a), t0, t1, t2, t3] 145)).cell? ⟨w.heap.size, 1, none⟩ = some (.string (str a)) := (Row.new w 145 [.bool mu, .string (str a), t0, t1, t2, t3]).cell 1
 generalize decide (a = n) = B at *
 generalize str a = A at *
 generalize str n = N at *
 go_enter Tryz.func116, Tryz.ntmps116
 go_wp2_with fail
 go_ret
 exact ⟨rfl, HB.out⟩
theorem retI {a b : Int} (h : a = b) : Ending.returned (Value.int .i64 b) = Ending.returned (.int .i64 a) := by rw [h]
theorem Tryz.sz145 : (Tryz.prog.info? 145).map (·.size) = some 6 := by kernel_rfl
set_option maxHeartbeats 8000000 in
set_option maxRecDepth 20000 in
theorem idx115 {K : Ctx} {w : World} {g : Nat} {nm : Bs} {v : Value} {fs : List Fld} (h : Ar 6 96 (FldAt K w) K w v fs) (hc : w.cell? ⟨g, 0, none⟩ = some (.string (str nm))) (hC : K.C <= w.heap.size) :
  Calls Tryz.prog 115 #[v, .func (.func 116) #[] #[.pointer (some ⟨g, 0, none⟩)]] w fun ev w' => ev = .returned (.int .i64 (idxK nm 0 fs)) /\ Below w.heap.size w w' := by
 obtain ⟨ao, cap, rfl⟩ := Ar.form h
 have hlen : fs.length <= 140737488355328 := by obtain ⟨_, _, _, _, z1, _⟩ := h.shape; omega
 have AN := hidP (fun i hi => Ar.nth h i hi)
 have HCC := hidP (fun (y : World) (hy : Below w.heap.size w y) => (hy.cell (p := ⟨g, 0, none⟩) (World.block_lt_of_cell? w _ hc)).trans hc)
 have HC := hidP hC
 clear h hc hC
 generalize hnl : fs.length = nl at *
 have HNL := hidP hnl
 clear hnl
 go_enter Tryz.func115, Tryz.ntmps115
 go_wp2_with fail
 go_loopg [8] nl (fun k v8 wr => ∃ i : Nat, i + k = nl /\ v8 = .int .i64 (i : Int) /\ Below w.heap.size w wr /\ idxK nm i (fs.drop i) = idxK nm 0 fs)
 case atStart => exact ⟨0, by omega, rfl, Below.refl _ _, rfl⟩
 case round =>
  obtain ⟨i, hi, rfl, hb, hd⟩ := hrel
  have HB := hidP hb
  have HD := hidP hd
  clear hb hd
  by_cases hlt : i < nl
  ·obtain ⟨f, hif, b1, o1, rfl, hb1, c1, hl1, hr1, hp1⟩ := AN.out i hlt
   obtain ⟨ts, rfl, hfn, n9, hty⟩ := hp1
   obtain ⟨t0, t1, t2, t3, rfl⟩ : ∃ d0 d1 d2 d3, ts = [d0, d1, d2, d3] := by
    match ts, hty.len with
    | [d0, d1, d2, d3], _ => exact ⟨_, _, _, _, rfl⟩
   have RG := hidP (range_le hr1 HB.out (Nat.lt_of_lt_of_le hb1 HC.out))
   have C1 := hidP (clo116 g nm f.name f.mu t0 t1 t2 t3 wr (HCC.out wr HB.out))
   have HX := hidP (show idxK nm 0 fs = if f.name = nm then (i : Int) else idxK nm (i + 1) (fs.drop (i + 1)) by
    rw [← HD.out, List.drop_eq_getElem_cons (by have := HNL.out; omega)]
    have : fs[i]'(by have := HNL.out; omega) = f := by
     rw [List.getElem?_eq_getElem (by have := HNL.out; omega)] at hif
     exact Option.some.inj hif
    rw [this]; rfl)
   have l1 : (i : Int) < (nl : Int) := by omega
   generalize str f.name = SN at *
   generalize f.mu = mu at *
   clear hr1 hb1 hl1 hty hif hfn
   by_cases hm : f.name = nm
   ·rw [decide_eq_true hm] at C1
    rw [if_pos hm] at HX
    clear hm
    go_wp2_with (first | (refine wpList_load_mid rfl 145 (.tmp 14) rfl b1 (o1 + i * 6) rfl [.bool mu, .string SN, t0, t1, t2, t3] _ RG.out Tryz.underlying145 rfl Tryz.sz145 ?_; apply shut))
    show wpList _ _ _ _ _ _
    go_wp2_with fail
    refine C1.out.mono ?_
    rintro _ w5 ⟨rfl, hb5⟩
    have B5 := hidP (HB.out.trans (below_le hb5 HB.out.size))
    clear C1 hb5 RG
    go_wp2_with fail
    go_ret
    exact ⟨retI HX.out, B5.out⟩
   ·rw [decide_eq_false hm] at C1
    rw [if_neg hm] at HX
    clear hm
    go_wp2_with (first | (refine wpList_load_mid rfl 145 (.tmp 14) rfl b1 (o1 + i * 6) rfl [.bool mu, .string SN, t0, t1, t2, t3] _ RG.out Tryz.underlying145 rfl Tryz.sz145 ?_; apply shut))
    show wpList _ _ _ _ _ _
    go_wp2_with fail
    refine C1.out.mono ?_
    rintro _ w5 ⟨rfl, hb5⟩
    have B5 := hidP (HB.out.trans (below_le hb5 HB.out.size))
    clear C1 hb5 RG HB
    go_wp2_with fail
    go_roundg (gk - 1)
    case measure => omega
    case rel => exact ⟨i + 1, by omega, by go_num, B5.out, HX.out.symm⟩
  ·have e : i = nl := by omega
   have HF := hidP (show idxK nm 0 fs = -1 by
    rw [← HD.out, List.drop_eq_nil_of_le (by have := HNL.out; omega)]
    rfl)
   subst e
   clear hlt
   go_wp2_with fail
   go_ret
   exact ⟨retI HF.out, HB.out⟩
end Go.Proofs.YtldbbkheemnnhaaGreatDoor
