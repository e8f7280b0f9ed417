/-
  The document: Lift.
-/
import Derived.Test.YtldbbkheemnnhaaGreatDoorJpLg82
import Derived.Test.YtldbbkheemnnhaaGreatDoorQpSu8
import Derived.Test.YtldbbkheemnnhaaGreatDoorJpXl82
import Derived.Test.YtldbbkheemnnhaaGreatDoorJpXw82
namespace Go.Proofs.YtldbbkheemnnhaaGreatDoor
open Go.RowKit Go.Maps
def FitH : Nat -> Ty -> Prop
 | 0, _ => False
 | n + 1, t => t.lives.length <= 1000 /\ ∀ e, t.elem.head? = some e -> FitH n e
theorem xstruct_any {Q : Nat -> Prop} {B : Nat} {w : World} {g : Nat} {L : List Sct} (H : XSc Q B w g L) (hL : L.length <= 1000) (s : Bs) :
  ∃ (c0 c1 c3 c4 : Value) (aL : Option Addr) (pL : Nat) (b : Bool), (∀ u ∈ [c0, c1, .slice aL (livN L s) pL, c3, c4], u.oneCell' = true) /\ Calls Tryz.prog 45 #[.pointer (some ⟨g, 0, none⟩), .string (str s)] w fun ev w' => ev = .returned (.tuple #[.agg #[c0, c1, .slice aL (livN L s) pL, c3, c4], .bool b]) /\ Below w.heap.size w w' := by
 rcases hf : L.find? (fun x => x.name == s) with _ | x
 ·have hno : ∀ x ∈ L, x.name ≠ s := fun x hx e => by
   have := List.find?_eq_none.1 hf x hx
   rw [e] at this
   exact this (by simp)
  have h0 : livN L s = 0 := by unfold livN; rw [hf]
  refine ⟨.bool false, .string ⟨#[]⟩, .slice none 0 0, .int .i64 0, none, 0, false, ?_, ?_⟩
  ·rw [h0]; intro u hu; simp only [List.mem_cons, List.not_mem_nil, or_false] at hu; rcases hu with rfl | rfl | rfl | rfl | rfl <;> rfl
  ·rw [h0]; exact xstruct_no H hL hno
 ·have hx : x ∈ L := List.mem_of_find?_eq_some hf
  have hn : x.name = s := by have := List.find?_some hf; simpa using this
  have h0 : livN L s = x.lives.length := by unfold livN; rw [hf]
  obtain ⟨cs, hq, hc⟩ := xstruct_yes H hL hx
  obtain ⟨v2, v3, rfl, _, q2, q3⟩ := hq
  obtain ⟨a2, p2, rfl⟩ := ArQ.form q2
  obtain ⟨a3, p3, rfl⟩ := ArQ.form q3
  rw [hn] at hc
  refine ⟨_, _, _, _, a2, p2, true, ?_, by rw [h0]; exact hc⟩
  rw [h0]; intro u hu; simp only [List.mem_cons, List.not_mem_nil, or_false] at hu; rcases hu with rfl | rfl | rfl | rfl | rfl <;> rfl
theorem arq_rt {n B g : Nat} {w5 w : World} {cs : List Value} {x : RTy} (h : Row w g 25 cs) (hq : RtQ n (Fr w5 w) B w cs x) (hg : w5.heap.size <= g) : ArQ 4 72 (RtQ n (Fr w5 w) B w) (Fr w5 w) w (.slice (some ⟨g, 0, none⟩) 1 1) [x] :=
 ⟨some ⟨g, 0, none⟩, 1, rfl, Nat.le_refl _, by simp, fun i hi => by
  obtain rfl : i = 0 := by simpa using hi
  exact ⟨g, 0, rfl, ⟨hg, h.lt⟩, cs, hq.len, fun j hj => by rw [h.cell, show 0 + 0 * 4 + j = j by omega], hq⟩⟩
theorem arq_n1 {g : Nat} {w5 w : World} {x : Int} (h : Row w g 3 [.int .i64 x]) (hg : w5.heap.size <= g) : ArQ 1 8 NmAt (Fr w5 w) w (.slice (some ⟨g, 0, none⟩) 1 1) [x] :=
 ⟨some ⟨g, 0, none⟩, 1, rfl, Nat.le_refl _, by simp, fun i hi => by
  obtain rfl : i = 0 := by simpa using hi
  exact ⟨g, 0, rfl, ⟨hg, h.lt⟩, [.int .i64 x], rfl, fun j hj => by rw [h.cell, show 0 + 0 * 1 + j = j by omega], rfl⟩⟩
theorem own_ne84 {w : World} {B z n g : Nat} {v : Value} {xs cs : List Value} (h : w.ownsRow B 3 z v n xs) (r : Row w g 84 cs) : ¬ v.ownBlock = some g := by
 intro hb
 rcases h.2 with ⟨h1, _⟩ | ⟨g', cap, cur, h1, _, hg, _⟩
 ·subst h1; cases hb
 ·subst h1
  have e1 : g' = g := by
   have : some g' = some g := hb
   exact Option.some.inj this
  subst e1
  rw [r.heap] at hg
  cases hg
set_option maxHeartbeats 64000000 in
set_option maxRecDepth 20000 in
theorem xlift18 {K : Ctx} {Q : Nat -> Prop} {B g : Nat} {L : List Sct} {lives : List Bs} (hL9 : ∀ x ∈ L, x.lives.length <= 1000) (hLL : L.length <= 1000) : ∀ (n : Nat) {kq : Nat} {w : World} {cs : List Value} {t : Ty} {vl : Value} {nx : Int}, XSc Q B w g L -> TyAt n K w cs t -> Strs K w vl lives -> K.C <= w.heap.size -> FitH kq t -> -9223372036854775808 <= nx -> nx + 1000 * (kq : Int) <= 4611686018427387904 ->
  Calls Tryz.prog 18 #[.pointer (some ⟨g, 0, none⟩), .agg cs.toArray, vl, .int .i64 nx] w fun ev w' => ∃ d, ev = .returned (.tuple #[.agg d.toArray, .int .i64 (liftN L lives kq t nx).2]) /\ Below w.heap.size w w' /\ RtQ kq (Fr w w') K.B w' d (liftN L lives kq t nx).1
 | 0, _, _, _, _, _, _, _, h, _, _, _, _, _ => h.elim
 | n + 1, kq0, w, cs, t, vl, nx, hx, ht, hl, hC, hf, hn1, hn2 => by
  obtain ⟨kq, rfl⟩ : ∃ j, kq0 = j + 1 := by
   cases kq0 with
   | zero => exact hf.elim
   | succ j => exact ⟨j, rfl⟩
  have IH := hidP (fun (y : World) (hy : Below w.heap.size w y) (nx' : Int) (cs : List Value) (e : Ty) (he : TyAt n K y cs e) (hf : FitH kq e) (h1 : -9223372036854775808 <= nx') (h2 : nx' + 1000 * (kq : Int) <= 4611686018427387904) => xlift18 hL9 hLL n (hx.past hy) he (hl.below (below_le hy hC)) (Nat.le_trans hC hy.size) hf h1 h2)
  have NUM := hidP (fun (y : World) (hy : Below w.heap.size w y) (x : Bs) => number44 (x := x) (hl.below (below_le hy hC)))
  have XST := hidP (fun (y : World) (hy : Below w.heap.size w y) => xstruct_any (hx.past hy) hLL t.name)
  obtain ⟨al, pl, rfl⟩ := Ar.form hl
  obtain ⟨hf1, hf3⟩ := hf
  have HF3 := hidP hf3
  obtain ⟨v2, v3, rfl, hB, h2, h3⟩ := ht
  obtain ⟨a2, p2, rfl⟩ := Ar.form h2
  obtain ⟨a3, p3, rfl⟩ := Ar.form h3
  have A2 := hidP (show ∀ i, i < t.lives.length -> ∃ y, t.lives[i]? = some y /\ ∃ b o, a2 = some ⟨b, o, none⟩ /\ b < K.C /\ w.cell? ⟨b, o + i, none⟩ = some (.string (str y)) from fun i h => by
   obtain ⟨b, o, e, hb, cs, hc, hr, hp⟩ := Ar.each h2 i h
   obtain ⟨rfl, _⟩ := hp
   refine ⟨t.lives[i], List.getElem?_eq_getElem h, b, o, e, hb, ?_⟩
   have := hr 0 _ rfl
   rw [Nat.mul_one, Nat.add_zero] at this
   exact this)
  have A3 := hidP (fun i hi => ar_nth h3 i hi)
  have HC := hidP hC
  have hlv9 : livN L t.name <= 1000 := by
   unfold livN
   rcases hf : L.find? (fun x => x.name == t.name) with _ | x
   ·rw [hf]; exact Nat.zero_le _
   ·rw [hf]; exact hL9 x (List.mem_of_find?_eq_some hf)
  have HBN := hidP hB
  clear h2 h3 hf3 hB hx hl hC
  have hkn : 1 <= (kq : Int) + 1 := by omega
  have hn3 : nx <= 4611686018427386904 := by omega
  generalize hnl : t.lives.length = nl at *
  have HNL := hidP hnl
  clear hnl
  generalize hne : t.elem.length = ne at *
  have HNE := hidP hne
  clear hne
  generalize hsn : str t.name = SN at *
  have HSN := hidP hsn
  clear hsn
  generalize hkd : t.kind = kd at *
  have HKD := hidP hkd
  clear hkd
  have HA := hidP (alloc_two w (.cells #[.int .i64 kd, .string SN, .slice a2 nl p2, .slice a3 ne p3] 36) (.cells z25.toArray 25))
  have R2 := hidP ((Row.new w 36 [.int .i64 kd, .string SN, .slice a2 nl p2, .slice a3 ne p3]).alloc (.cells z25.toArray 25))
  have r4 := Row.new (w.alloc (.cells #[.int .i64 kd, .string SN, .slice a2 nl p2, .slice a3 ne p3] 36)) 25 z25
  have HZ := hidP (size_two w (.cells #[.int .i64 kd, .string SN, .slice a2 nl p2, .slice a3 ne p3] 36) (.cells z25.toArray 25))
  rw [size_alloc] at r4
  have R4 := hidP r4
  clear r4
  go_enter Tryz.func18, Tryz.ntmps18
  unfold z25 at R2 R4 HA HZ
  have rz := Row.new ((w.alloc (.cells #[.int .i64 kd, .string SN, .slice a2 nl p2, .slice a3 ne p3] 36)).alloc (.cells #[.int .i64 0, .string ⟨#[]⟩, .slice none 0 0, .slice none 0 0] 25)) 25 [.int .i64 0, .string ⟨#[]⟩, .slice none 0 0, .slice none 0 0]
  have BZ := hidP (alloc_one ((w.alloc (.cells #[.int .i64 kd, .string SN, .slice a2 nl p2, .slice a3 ne p3] 36)).alloc (.cells #[.int .i64 0, .string ⟨#[]⟩, .slice none 0 0, .slice none 0 0] 25)) (.cells #[.int .i64 0, .string ⟨#[]⟩, .slice none 0 0, .slice none 0 0] 25))
  rw [HZ.out] at rz
  have RZ := hidP rz
  have x0 := R2.out.cell 0
  have x1 := R2.out.cell 1
  simp only [List.getElem?_cons_zero, List.getElem?_cons_succ] at x0 x1
  clear rz
  go_wp2_with (first | (refine stR rfl 25 (.tmp 10) (.tmp 21) rfl (cs := [.int .i64 kd, .string SN, .slice none 0 0, .slice none 0 0]) rfl rfl RZ.out Tryz.sz25 rfl (ones_cons rfl (ones_cons rfl (ones_cons rfl (ones_cons rfl ones_nil)))) ?_; intro w5 RO5 S5; apply shut))
  show wpList _ _ _ _ _ _
  have HB5 := hidP (BZ.out.trans (S5.below (C := ((w.alloc (.cells #[.int .i64 kd, .string SN, .slice a2 nl p2, .slice a3 ne p3] 36)).alloc (.cells #[.int .i64 0, .string ⟨#[]⟩, .slice none 0 0, .slice none 0 0] 25)).heap.size) BZ.out.size (fun q hq => by have : q = w.heap.size + 2 := hq; have := HZ.out; omega)))
  clear RZ BZ S5 x0 x1
  generalize hW : (w.alloc (.cells #[.int .i64 kd, .string SN, .slice a2 nl p2, .slice a3 ne p3] 36)).alloc (.cells #[.int .i64 0, .string ⟨#[]⟩, .slice none 0 0, .slice none 0 0] 25) = W at R2 R4 HA HZ HB5
  have hg5 := hidP (show W.heap.size <= w.heap.size + 2 from Nat.le_of_eq HZ.out)
  have hg5b := hidP (show w.heap.size + 1 < w.heap.size + 2 by omega)
  generalize w.heap.size + 2 = g5 at RO5 hg5 hg5b ⊢
  replace RO5 := hidP RO5
  have RI := hidP (R2.out.below HB5.out (by have := HZ.out; omega))
  have RR := hidP (R4.out.below HB5.out (by have := HZ.out; omega))
  have HBW := hidP (HA.out.trans (below_le HB5.out HA.out.size))
  have hz5 := hidP (show w.heap.size + 2 <= w5.heap.size by have := HB5.out.size; have := HZ.out; omega)
  have hlt5 := hidP RO5.out.lt
  have y0 := RI.out.cell 0
  have y2 := RI.out.cell 2
  have y3 := RI.out.cell 3
  simp only [List.getElem?_cons_zero, List.getElem?_cons_succ] at y0 y2 y3
  clear R2 R4 HA HZ HB5 hW
  by_cases k3 : kd = 3
  ·subst k3
   have LQ0 := hidP (show nl = 0 -> liftN L lives (kq + 1) t nx = (⟨3, t.name, loL nx (livN L t.name), []⟩, nx + (livN L t.name : Int)) from fun h => by
    rw [liftN, if_pos HKD.out, if_pos (List.eq_nil_of_length_eq_zero (by rw [HNL.out]; exact h)), HKD.out])
   have LQ1 := hidP (show nl ≠ 0 -> liftN L lives (kq + 1) t nx = (⟨3, t.name, t.lives.map (numL lives), []⟩, nx) from fun h => by
    rw [liftN, if_pos HKD.out, if_neg (fun e => h (by rw [← HNL.out, e]; rfl)), HKD.out])
   have hnl9 : nl <= 1000 := by have := HNL.out; omega
   clear IH A3 HF3 y3
   go_wp2_with fail
   go_loopg [11] nl (fun k v11 wr => ∃ (i : Nat) (v : Value), i + k = nl /\ v11 = .int .i64 (i : Int) /\ Stay (fun k => k = g5) w5 wr /\ Row wr g5 25 [.int .i64 3, .string SN, v, .slice none 0 0] /\ Gro 1 3 PNm w5 wr v ((t.lives.take i).map (numL lives)))
   case atStart => exact ⟨0, _, by omega, rfl, Stay.refl _ _, RO5.out, Gro.nil⟩
   case round =>
    obtain ⟨i, v, hi, rfl, hst, hro, hgr⟩ := hrel
    have ST := hidP hst
    have RO := hidP hro
    have GR := hidP hgr
    obtain ⟨ao, cp, rfl⟩ := hgr.form
    have RIw := hidP (ST.out.row RI.out (by have := hg5b.out; omega))
    have BW := hidP (HBW.out.trans (ST.out.below (C := w.heap.size) HBW.out.size (fun q hq => by have : q = g5 := hq; have := hg5b.out; omega)))
    have x2 := RIw.out.cell 2
    simp only [List.getElem?_cons_zero, List.getElem?_cons_succ] at x2
    clear hst hro hgr RO5 y2 y0
    by_cases hlt : i < nl
    ·obtain ⟨l0, hl0, b1, o1, rfl, hb1, hc1⟩ := A2.out i hlt
     have hc1' := (BW.out.cell (p := ⟨b1, o1 + i, none⟩) (Nat.lt_of_lt_of_le hb1 HC.out)).trans hc1
     have l1 : (i : Int) < (nl : Int) := by omega
     have HL := hidP (show ((t.lives.take i).map (numL lives)).length = i by rw [List.length_map, List.length_take, HNL.out]; omega)
     have HG := hidP (show (t.lives.take (i + 1)).map (numL lives) = (t.lives.take i).map (numL lives) ++ [numL lives l0] by
      rw [List.take_add_one, hl0, List.map_append]; rfl)
     have ND := hidP (NUM.out wr.drew BW.out.drew l0)
     have hbk := hidP (show b1 < w5.heap.size from Nat.lt_of_lt_of_le (Nat.lt_of_lt_of_le hb1 HC.out) (by have := hz5.out; omega))
     have hbw := hidP (show w.heap.size < w5.heap.size by have := hz5.out; omega)
     generalize (t.lives.take i).map (numL lives) = acc at *
     rw [HL.out] at RO GR
     generalize numL lives l0 = x at *
     generalize str l0 = S1 at *
     have hszc := hidP ST.out.size
     have hS1 : Row wr.drew g5 25 [.int .i64 3, .string SN, .slice ao i cp, .slice none 0 0] /\ Row wr.drew w.heap.size 36 [.int .i64 3, .string SN, .slice (some ⟨b1, o1, none⟩) nl p2, .slice a3 ne p3] /\ wr.drew.cell? ⟨b1, o1 + i, none⟩ = some (.string S1) := ⟨RO.out.drew, RIw.out.drew, hc1'⟩
     have GD := hidP (GR.out.stay moNm ((Stay.refl (fun _ => False) wr).drew) (fun _ h => h.elim))
     have SD := hidP (ST.out.trans ((Stay.refl (fun k => k = g5) wr).drew))
     have ZD := hidP (show w5.heap.size <= wr.drew.heap.size from hszc.out)
     clear hl0 hb1 hc1 hc1' RIw BW GR ST hszc
     try rw [HL.out]
     go_wp2_with fail
     refine beginL (fun y => Row y g5 25 [.int .i64 3, .string SN, .slice ao i cp, .slice none 0 0] /\ Row y w.heap.size 36 [.int .i64 3, .string SN, .slice (some ⟨b1, o1, none⟩) nl p2, .slice a3 ne p3] /\ y.cell? ⟨b1, o1 + i, none⟩ = some (.string S1)) 12 (by kernel_rfl) hS1 (fun hSS => ?_)
     refine takeL 0 (v := ?_) rfl (some 33) rfl (by decide) (by kernel_rfl) (by kernel_rfl) (by kernel_rfl) (by kernel_rfl) (fun _ _ _ h => h) (Or.inl ⟨by rfl, ?_⟩) hSS ?_
     rotate_left
     ·(intro y hy; have j2 := hy.1.cell 2; have k2 := hy.2.1.cell 2; have q0 := hy.2.2; simp only [List.getElem?_cons_zero, List.getElem?_cons_succ] at j2 k2; go_simp; with_reducible rfl)
     try simp only [Act.put]
     try simp only [List.setIfInBounds_toArray]
     try simp only [List.set_cons_succ]
     try simp only [List.set_cons_zero]
     refine takeL 1 (v := ?_) rfl (some 34) rfl (by decide) (by kernel_rfl) (by kernel_rfl) (by kernel_rfl) (by kernel_rfl) (fun _ _ _ h => h) (Or.inl ⟨by rfl, ?_⟩) hSS ?_
     rotate_left
     ·(intro y hy; have j2 := hy.1.cell 2; have k2 := hy.2.1.cell 2; have q0 := hy.2.2; simp only [List.getElem?_cons_zero, List.getElem?_cons_succ] at j2 k2; go_simp; with_reducible rfl)
     try simp only [Act.put]
     try simp only [List.setIfInBounds_toArray]
     try simp only [List.set_cons_succ]
     try simp only [List.set_cons_zero]
     refine takeL 2 (v := ?_) rfl (some 35) rfl (by decide) (by kernel_rfl) (by kernel_rfl) (by kernel_rfl) (by kernel_rfl) (fun _ _ _ h => h) (Or.inl ⟨by rfl, ?_⟩) hSS ?_
     rotate_left
     ·(intro y hy; have j2 := hy.1.cell 2; have k2 := hy.2.1.cell 2; have q0 := hy.2.2; simp only [List.getElem?_cons_zero, List.getElem?_cons_succ] at j2 k2; go_simp; with_reducible rfl)
     try simp only [Act.put]
     try simp only [List.setIfInBounds_toArray]
     try simp only [List.set_cons_succ]
     try simp only [List.set_cons_zero]
     refine takeL 3 (v := ?_) rfl (some 36) rfl (by decide) (by kernel_rfl) (by kernel_rfl) (by kernel_rfl) (by kernel_rfl) (fun _ _ _ h => h) (Or.inl ⟨by rfl, ?_⟩) hSS ?_
     rotate_left
     ·(intro y hy; have j2 := hy.1.cell 2; have k2 := hy.2.1.cell 2; have q0 := hy.2.2; simp only [List.getElem?_cons_zero, List.getElem?_cons_succ] at j2 k2; go_simp; with_reducible rfl)
     try simp only [Act.put]
     try simp only [List.setIfInBounds_toArray]
     try simp only [List.set_cons_succ]
     try simp only [List.set_cons_zero]
     refine takeL 4 (v := ?_) rfl (some 37) rfl (by decide) (by kernel_rfl) (by kernel_rfl) (by kernel_rfl) (by kernel_rfl) (fun _ _ _ h => h) (Or.inl ⟨by rfl, ?_⟩) hSS ?_
     rotate_left
     ·(intro y hy; have j2 := hy.1.cell 2; have k2 := hy.2.1.cell 2; have q0 := hy.2.2; simp only [List.getElem?_cons_zero, List.getElem?_cons_succ] at j2 k2; go_simp; with_reducible rfl)
     try simp only [Act.put]
     try simp only [List.setIfInBounds_toArray]
     try simp only [List.set_cons_succ]
     try simp only [List.set_cons_zero]
     refine takeL 5 (v := ?_) rfl (some 38) rfl (by decide) (by kernel_rfl) (by kernel_rfl) (by kernel_rfl) (by kernel_rfl) (fun _ _ _ h => h) (Or.inl ⟨by rfl, ?_⟩) hSS ?_
     rotate_left
     ·(intro y hy; have j2 := hy.1.cell 2; have k2 := hy.2.1.cell 2; have q0 := hy.2.2; simp only [List.getElem?_cons_zero, List.getElem?_cons_succ] at j2 k2; go_simp; with_reducible rfl)
     try simp only [Act.put]
     try simp only [List.setIfInBounds_toArray]
     try simp only [List.set_cons_succ]
     try simp only [List.set_cons_zero]
     refine takeL 6 (v := ?_) rfl (some 39) rfl (by decide) (by kernel_rfl) (by kernel_rfl) (by kernel_rfl) (by kernel_rfl) (fun _ _ _ h => h) (Or.inl ⟨by rfl, ?_⟩) hSS ?_
     rotate_left
     ·(intro y hy; have j2 := hy.1.cell 2; have k2 := hy.2.1.cell 2; have q0 := hy.2.2; simp only [List.getElem?_cons_zero, List.getElem?_cons_succ] at j2 k2; go_simp; with_reducible rfl)
     try simp only [Act.put]
     try simp only [List.setIfInBounds_toArray]
     try simp only [List.set_cons_succ]
     try simp only [List.set_cons_zero]
     refine takeL 7 (v := ?_) rfl (some 40) rfl (by decide) (by kernel_rfl) (by kernel_rfl) (by kernel_rfl) (by kernel_rfl) (fun _ _ _ h => h) (Or.inl ⟨by rfl, ?_⟩) hSS ?_
     rotate_left
     ·(intro y hy; have j2 := hy.1.cell 2; have k2 := hy.2.1.cell 2; have q0 := hy.2.2; simp only [List.getElem?_cons_zero, List.getElem?_cons_succ] at j2 k2; go_simp; with_reducible rfl)
     try simp only [Act.put]
     try simp only [List.setIfInBounds_toArray]
     try simp only [List.set_cons_succ]
     try simp only [List.set_cons_zero]
     refine readyL (rs := [8]) (by kernel_rfl) (by simp) ?_
     refine ReadyL.cons rfl (fun KK hK => ?_) ReadyL.nil
     refine wantR (by rfl) ?_
     go_simp
     refine ND.out.mono ?_
     rintro _ wz ⟨rfl, hwz⟩
     rw [hwz]
     refine hK.out _ _ (fun _ => hSS) (fun _ => ?_)
     clear hK KK ND hwz
     try simp only [Act.put]
     try simp only [List.setIfInBounds_toArray]
     try simp only [List.set_cons_succ]
     try simp only [List.set_cons_zero]
     refine readyL (rs := [9]) (by kernel_rfl) (by simp) ?_
     refine ReadyL.cons rfl (fun KK hK => ?_) ReadyL.nil
     refine wantR (by rfl) ?_
     refine wpo_bsU 22 3 1 8 _ (.int .i64 x) (.tmp 41) rfl Tryz.underlying22 Tryz.info3I (by decide) (by decide) rfl [.int .i64 x] rfl rfl rfl ?_
     intro w7 hR7 hB7 hz7
     have hSS2 := (⟨hSS.1.below hB7 hSS.1.lt, hSS.2.1.below hB7 hSS.2.1.lt, (hB7.cell (p := ⟨b1, o1 + i, none⟩) (World.block_lt_of_cell? _ _ hSS.2.2)).trans hSS.2.2⟩ : Row w7 g5 25 [.int .i64 3, .string SN, .slice ao i cp, .slice none 0 0] /\ Row w7 w.heap.size 36 [.int .i64 3, .string SN, .slice (some ⟨b1, o1, none⟩) nl p2, .slice a3 ne p3] /\ w7.cell? ⟨b1, o1 + i, none⟩ = some (.string S1))
     have G7 := hidP (GD.out.past moNm hB7)
     have T7 := hidP (SD.out.trans (Stay.of_below hB7))
     have Z7 := hidP (Nat.le_trans ZD.out hB7.size)
     have R7 := hidP hR7
     refine hK.out (Act.put _ (some 42) _) _ (fun _ => hSS2) (fun _ => ?_)
     clear hK KK hSS hB7 hR7 hz7 GD SD ZD
     have hSS := hSS2
     clear hSS2
     try simp only [Act.put]
     try simp only [List.setIfInBounds_toArray]
     try simp only [List.set_cons_succ]
     try simp only [List.set_cons_zero]
     refine readyL (rs := [10]) (by kernel_rfl) (by simp) ?_
     refine ReadyL.cons rfl (fun KK hK => ?_) ReadyL.nil
     refine wantR (by rfl) ?_
     refine wpo_groK (.tmp 34) (.tmp 42) moNm rfl Tryz.underlying22 Tryz.info3I rfl (by decide) rfl rfl G7.out Z7.out R7.out rfl (ones_cons rfl ones_nil) (x := x) (show NmAt _ _ from rfl) (by have := HL.out; omega) (by decide) ?_
     intro fo fp w8 G8 B8 K8
     rw [HL.out] at G8
     have hSS2 := (⟨hSS.1.below B8 hlt5.out, hSS.2.1.below B8 hbw.out, (B8.cell (p := ⟨b1, o1 + i, none⟩) hbk.out).trans hSS.2.2⟩ : Row w8 g5 25 [.int .i64 3, .string SN, .slice ao i cp, .slice none 0 0] /\ Row w8 w.heap.size 36 [.int .i64 3, .string SN, .slice (some ⟨b1, o1, none⟩) nl p2, .slice a3 ne p3] /\ w8.cell? ⟨b1, o1 + i, none⟩ = some (.string S1))
     have T8 := hidP (T7.out.step (stay_up B8) (fun i hi hy => absurd hi (Nat.not_lt.2 hy)))
     replace G8 := hidP G8
     try rw [HL.out]
     refine hK.out (Act.put _ (some 43) _) _ (fun _ => hSS2) (fun _ => ?_)
     clear hK KK hSS B8 K8 G7 T7 Z7 R7
     have hSS := hSS2
     clear hSS2
     try simp only [Act.put]
     try simp only [List.setIfInBounds_toArray]
     try simp only [List.set_cons_succ]
     try simp only [List.set_cons_zero]
     refine takeL 11 (v := ?_) rfl (some 44) rfl (by decide) (by kernel_rfl) (by kernel_rfl) (by kernel_rfl) (by kernel_rfl) (fun _ _ _ h => h) (Or.inl ⟨by rfl, ?_⟩) hSS ?_
     rotate_left
     ·(intro y hy; have j2 := hy.1.cell 2; have k2 := hy.2.1.cell 2; have q0 := hy.2.2; simp only [List.getElem?_cons_zero, List.getElem?_cons_succ] at j2 k2; go_simp; with_reducible rfl)
     try simp only [Act.put]
     try simp only [List.setIfInBounds_toArray]
     try simp only [List.set_cons_succ]
     try simp only [List.set_cons_zero]
     refine readyL (rs := [12]) (by kernel_rfl) (by simp) ?_
     refine ReadyL.cons rfl (fun KK hK => ?_) ReadyL.nil
     refine wantR (by rfl) ?_
     refine wpo_stC (v := .slice fo (i + 1) fp) 22 (.tmp 44) (.tmp 43) rfl rfl rfl hSS.1 (svN hSS.1 rfl _ _ _) ?_
     intro w9 R9 S9
     simp only [List.set_cons_zero, List.set_cons_succ] at R9
     have G9 := hidP (G8.out.stay moNm S9 (fun k e => by have : k = g5 := e; have := hlt5.out; omega))
     have T9 := hidP (T8.out.trans S9)
     replace R9 := hidP R9
     refine hK.out (Act.put _ none _) _ (fun h => absurd rfl h) (fun _ => ?_)
     clear hK KK hSS T8 G8 S9
     refine doneL (by kernel_rfl) ?_ _
     go_wp2_with fail
     go_roundg (gk - 1)
     case measure => omega
     case rel => exact ⟨i + 1, _, by omega, by go_num, T9.out, R9.out, by rw [HG.out]; exact G9.out⟩
    ·have e : i = nl := by omega
     subst e
     have HT := hidP (show t.lives.take i = t.lives by rw [← HNL.out, List.take_length])
     rw [HT.out] at GR RO
     have HLr := hidP (show (t.lives.map (numL lives)).length = i by rw [List.length_map, HNL.out])
     rw [HLr.out] at RO GR
     have RRw := hidP (ST.out.row RR.out (by have := hg5b.out; omega))
     have hszc := hidP ST.out.size
     obtain ⟨c0, c1, c3, c4, aL, pL, bb, hone, hcall⟩ := XST.out wr BW.out
     have CALL := hidP hcall
     have ONE := hidP hone
     have y1 := RIw.out.cell 1
     simp only [List.getElem?_cons_zero, List.getElem?_cons_succ] at y1
     have HLV := hidP hlv9
     generalize hNLv : livN L t.name = NL at *
     clear hlt hi HT A2 NUM XST hcall hone RI RR HBW
     generalize wr = wc at *
     go_wp2_with fail
     refine CALL.out.mono ?_
     rintro _ w6 ⟨rfl, hb6⟩
     have RO6 := hidP (RO.out.below hb6 RO.out.lt)
     have RI6 := hidP (RIw.out.below hb6 RIw.out.lt)
     have RR6 := hidP (RRw.out.below hb6 RRw.out.lt)
     have GR6 := hidP (GR.out.past moNm hb6)
     have BW6 := hidP (BW.out.trans (below_le hb6 BW.out.size))
     have hz6 := hidP (Nat.le_trans hszc.out hb6.size)
     have RN := hidP (Row.new w6 84 [.bool false, .string ⟨#[]⟩, .slice none 0 0, .slice none 0 0, .int .i64 0])
     have BN := hidP (alloc_one w6 (.cells #[.bool false, .string ⟨#[]⟩, .slice none 0 0, .slice none 0 0, .int .i64 0] 84))
     clear CALL RO RIw RRw GR ST BW hb6 y1 x2 hszc
     go_wp2_with (first | (refine stR rfl 84 (.tmp 12) (.tmp 50) rfl (cs := [c0, c1, .slice aL NL pL, c3, c4]) rfl rfl RN.out Tryz.sz84 rfl ONE.out ?_; intro w7 R7 S7; apply shut))
     show wpList _ _ _ _ _ _
     have BX := hidP (BN.out.trans (S7.below (C := w6.heap.size) BN.out.size (fun q hq => Nat.le_of_eq hq.symm)))
     have RO7 := hidP (RO6.out.below BX.out RO6.out.lt)
     have RI7 := hidP (RI6.out.below BX.out RI6.out.lt)
     have RR7 := hidP (RR6.out.below BX.out RR6.out.lt)
     have GR7 := hidP (GR6.out.past moNm BX.out)
     have BW7 := hidP (BW6.out.trans (below_le BX.out BW6.out.size))
     have hz7 := hidP (Nat.le_trans hz6.out BX.out.size)
     have RX7 := hidP R7
     have hgX := hidP (show g5 < w6.heap.size from RO6.out.lt)
     have hgY := hidP (show w.heap.size < w6.heap.size from RI6.out.lt)
     clear RN BN S7 R7 RO6 RI6 RR6 GR6 BW6 BX ONE
     have hgZ := hidP (show w6.heap.size < w7.heap.size from RX7.out.lt)
     generalize w6.heap.size = gX at *
     generalize hrg : t.lives.map (numL lives) = regs0 at *
     have HRG := hidP hrg
     clear hrg
     go_wp2_with fail
     go_loopg [3, 14] (if i = 0 then NL else 0) (fun k v3 v14 wr2 => ∃ (j : Nat) (v : Value), j + k = (if i = 0 then NL else 0) /\ v14 = .int .i64 (j : Int) /\ v3 = .int .i64 (nx + (j : Int)) /\ Row wr2 g5 25 [.int .i64 3, .string SN, v, .slice none 0 0] /\ Gro 1 3 PNm w5 wr2 v (regs0 ++ loL nx j) /\ Row wr2 w.heap.size 36 [.int .i64 3, .string SN, .slice a2 i p2, .slice a3 ne p3] /\ Row wr2 (w.heap.size + 1) 25 [.int .i64 0, .string ⟨#[]⟩, .slice none 0 0, .slice none 0 0] /\ Row wr2 gX 84 [c0, c1, .slice aL NL pL, c3, c4] /\ Below w.heap.size w wr2 /\ w5.heap.size <= wr2.heap.size)
     case atStart => exact ⟨0, _, by omega, rfl, by rw [Int.natCast_zero, Int.add_zero], RO7.out, by
      have e : regs0 ++ loL nx 0 = regs0 := by simp [loL]
      rw [e]; exact GR7.out, RI7.out, RR7.out, RX7.out, BW7.out, hz7.out⟩
     case round =>
      obtain ⟨j, v, hj, rfl, rfl, hro, hgr, hri, hrr, hrx, hbw, hzw⟩ := hrel
      have RO := hidP hro
      have GR := hidP hgr
      have RIw := hidP hri
      have RRw := hidP hrr
      have RXw := hidP hrx
      have BWw := hidP hbw
      have ZW := hidP hzw
      obtain ⟨ao2, cp2, rfl⟩ := hgr.form
      have x2 := RIw.out.cell 2
      have q2 := RXw.out.cell 2
      simp only [List.getElem?_cons_zero, List.getElem?_cons_succ] at x2 q2
      have HLJ := hidP (show (regs0 ++ loL nx j).length = i + j by rw [List.length_append, loL_len, HLr.out])
      have hNL9 : NL <= 1000 := HLV.out
      clear hro hgr hri hrr hrx hbw hzw RO7 GR7 RI7 RR7 RX7 BW7 hz7
      by_cases hg : j < NL /\ i = 0
      ·obtain ⟨hjl, rfl⟩ := hg
       have hj2 : j + gk = NL := by rw [if_pos rfl] at hj; exact hj
       have l1 : (j : Int) < (NL : Int) := by omega
       have HSU := hidP (show regs0 ++ loL nx (j + 1) = (regs0 ++ loL nx j) ++ [nx + (j : Int)] by rw [loL_succ, List.append_assoc])
       replace HLJ := hidP (show (regs0 ++ loL nx j).length = j by have := HLJ.out; omega)
       generalize regs0 ++ loL nx j = acc at *
       rw [HLJ.out] at RO GR
       have y5 := RO.out.cell 2
       simp only [List.getElem?_cons_zero, List.getElem?_cons_succ] at y5
       have NEX := hidP (show ¬ (Value.slice ao2 j cp2).ownBlock = some gX from by
        obtain ⟨_, _, ho⟩ := GR.out.ex
        exact own_ne84 ho RXw.out)
       clear hj
       go_wp2_with (first | (refine bsliceU rfl 22 3 1 8 _ (.int .i64 (nx + (j : Int))) (.tmp 67) rfl Tryz.underlying22 Tryz.info3I (by decide) (by decide) rfl [.int .i64 (nx + (j : Int))] rfl rfl rfl ?_; intro w8 hR8 hB8 hz8; apply shut))
       show wpList _ _ _ _ _ _
       have R8 := hidP (RO.out.below hB8 RO.out.lt)
       have G8 := hidP (GR.out.past moNm hB8)
       have I8 := hidP (RIw.out.below hB8 RIw.out.lt)
       have F8 := hidP (RRw.out.below hB8 RRw.out.lt)
       have X8 := hidP (RXw.out.below hB8 RXw.out.lt)
       have BB8 := hidP (BWw.out.trans (below_le hB8 BWw.out.size))
       have Z8 := hidP (Nat.le_trans ZW.out hB8.size)
       have RN := hidP hR8
       clear RO GR hR8 hB8 hz8 y5 x2 q2 RIw RXw RRw BWw ZW
       go_wp2_with (first | (refine wpList_plain rfl fun _ hKK => wpo_groK (.tmp 66) (.tmp 68) moNm rfl Tryz.underlying22 Tryz.info3I rfl (by decide) rfl rfl G8.out Z8.out RN.out rfl (ones_cons rfl ones_nil) (x := nx + (j : Int)) (show NmAt _ _ from rfl) (by have := HLJ.out; omega) (by decide) ?_; intro eo ep w9 G9 B9 K9; refine hKK _ _ ?_; clear hKK; apply shut))
       show wpList _ _ _ _ _ _
       rw [HLJ.out] at G9
       try rw [HLJ.out]
       have R9 := hidP (R8.out.below B9 hlt5.out)
       have I9 := hidP (I8.out.below B9 (by have := hz5.out; omega))
       have F9 := hidP (F8.out.below B9 (by have := hz5.out; omega))
       have X9 := hidP (X8.out.keep (K9 _ X8.out.lt NEX.out))
       have BB9 := hidP (BB8.out.trans (below_le B9 (by have := hz5.out; omega)))
       have Z9 := hidP (Nat.le_trans Z8.out B9.size)
       replace G9 := hidP G9
       clear R8 G8 I8 F8 X8 BB8 Z8 RN B9 K9 NEX
       go_wp2_with (first | (refine stC rfl 22 (.tmp 70) (.tmp 69) rfl rfl rfl R9.out (svN R9.out rfl _ _ _) ?_; intro wA RA SA; apply shut))
       show wpList _ _ _ _ _ _
       simp only [List.set_cons_zero, List.set_cons_succ] at RA
       have GA := hidP (G9.out.stay moNm SA (fun k e => by have : k = g5 := e; have := hlt5.out; omega))
       have IA := hidP (SA.row I9.out (by have := hg5b.out; omega))
       have FA := hidP (SA.row F9.out (by have := hg5b.out; omega))
       have XA := hidP (SA.row X9.out (by have := hgX.out; omega))
       have BBA := hidP (BB9.out.trans (SA.below (C := w.heap.size) BB9.out.size (fun q hq => by have : q = g5 := hq; have := hg5b.out; omega)))
       have ZA := hidP (Nat.le_trans Z9.out SA.size)
       replace RA := hidP RA
       clear R9 G9 I9 F9 X9 BB9 Z9 SA
       go_wp2_with fail
       go_roundg (gk - 1)
       case measure => omega
       case rel => exact ⟨j + 1, _, by first | (rw [if_pos rfl]; omega) | (rw [if_pos trivial]; omega), by go_num, by rw [Int.natCast_succ, ← Int.add_assoc], RA.out, by rw [HSU.out]; exact GA.out, IA.out, FA.out, XA.out, BBA.out, ZA.out⟩
      ·have LQ := hidP (show liftN L lives (kq + 1) t nx = (⟨3, t.name, regs0 ++ loL nx j, []⟩, nx + (j : Int)) by
        by_cases hi0 : i = 0
        ·have hjN : j = NL := by rw [if_pos hi0] at hj; have := fun h => hg ⟨h, hi0⟩; omega
         have hr0 : regs0 = [] := List.eq_nil_of_length_eq_zero (by rw [HLr.out]; exact hi0)
         rw [LQ0.out hi0, hr0, hjN, List.nil_append]
        ·have hj0 : j = 0 := by rw [if_neg hi0] at hj; omega
         subst hj0
         rw [LQ1.out hi0]
         simp [loL])
       have hor : ((j : Int) < (NL : Int) /\ i ≠ 0) ∨ ¬ (j : Int) < (NL : Int) := by
        by_cases h : j < NL
        ·exact .inl ⟨by omega, fun e => hg ⟨h, e⟩⟩
        ·exact .inr (by omega)
       have hij : i + j <= 2000 := by
        by_cases hi0 : i = 0
        ·rw [if_pos hi0] at hj; omega
        ·rw [if_neg hi0] at hj; omega
       rw [HLJ.out] at RO GR
       have DN := hidP (show ArQ 1 8 NmAt (Fr w5 wr) wr (.slice ao2 (i + j) cp2) (regs0 ++ loL nx j) from by
        exact GR.out.done (bz := 8) moNm (by have := HLJ.out; omega))
       have DE := hidP (show ArQ 4 72 (RtQ kq (Fr w5 wr) K.B wr) (Fr w5 wr) wr (.slice none 0 0) ([] : List RTy) from nil_arQ)
       clear hg hj GR RXw HLJ HRG HLr LQ0 LQ1 RIw
       rcases hor with ⟨l1, l2⟩ | l1
       all_goals
        try (have l3 : ((i : Int) == 0) = false := by simp; omega)
        generalize wr = wz at *
        go_wp2_with (first | (refine ldR rfl 25 (.tmp 10) rfl rfl RO.out Tryz.underlying25 rfl Tryz.sz25 ?_) | (refine stR rfl 25 (.tmp 8) (.tmp 112) rfl (cs := [.int .i64 3, .string SN, .slice ao2 (i + j) cp2, .slice none 0 0]) rfl rfl RRw.out Tryz.sz25 rfl (ones_cons rfl (ones_cons rfl (ones_cons rfl (ones_cons rfl ones_nil)))) ?_; intro wF RF SF; apply shut))
        show wpList _ _ _ _ _ _
        have BF := hidP (BWw.out.trans (SF.below (C := w.heap.size) BWw.out.size (fun q hq => by have : q = w.heap.size + 1 := hq; omega)))
        have hlF : ∀ k, k = w.heap.size + 1 -> k < w5.heap.size := fun k e => by have := hg5.out; have := hz5.out; omega
        have KF := hidP (show Kp (Fr w5 wz) (Fr w wF) wz wF from kp_stay SF (fun k e => hlF k e) (by have := hz5.out; omega))
        have DA := hidP (show ArQ 1 8 NmAt (Fr w wF) wF (.slice ao2 (i + j) cp2) _ from DN.out.mono KF.out fun _ _ _ h => h)
        have DB := hidP (show ArQ 4 72 (RtQ kq (Fr w wF) K.B wF) (Fr w wF) wF (.slice none 0 0) _ from DE.out.mono KF.out fun _ _ _ h => RtQ.mono KF.out h)
        replace RF := hidP RF
        clear SF KF hlF RO RRw
        go_wp2_with fail
        exact bodyPost_ret (v := .tuple #[.agg #[.int .i64 3, .string SN, .slice ao2 (i + j) cp2, .slice none 0 0], .int .i64 (nx + (j : Int))]) (results_cell_row2 Tryz.results18 _ _ (w.heap.size + 1) 25 _ (0, 0) _ rfl RF.out.heap Tryz.underlying25 rfl (by kernel_rfl)) rfl ⟨[.int .i64 3, .string SN, .slice ao2 (i + j) cp2, .slice none 0 0], by rw [LQ.out], BF.out, by
         rw [LQ.out]
         exact ⟨_, _, by rw [HSN.out], HBN.out, DA.out, DB.out⟩⟩
  ·by_cases k45 : kd = 4 ∨ kd = 5
   ·rcases k45 with rfl | rfl
    ·have LQE := hidP (fun (x1 nx2 : Int) (hx : (if t.lives = [] then [nx] else (t.lives.take 1).map (numL lives)) = [x1]) (hn : (if t.lives = [] then nx + 1 else nx) = nx2) (e : Ty) (es : List Ty) (he : t.elem = e :: es) => show liftN L lives (kq + 1) t nx = (⟨4, t.name, [x1], [(liftN L lives kq e nx2).1]⟩, (liftN L lives kq e nx2).2) by
      rw [liftN, if_neg (by rw [HKD.out]; decide), if_pos (by rw [HKD.out]; decide), he]
      simp only [hx, hn]
      rw [HKD.out])
     have LQZ := hidP (fun (x1 nx2 : Int) (hx : (if t.lives = [] then [nx] else (t.lives.take 1).map (numL lives)) = [x1]) (hn : (if t.lives = [] then nx + 1 else nx) = nx2) (he : t.elem = []) => show liftN L lives (kq + 1) t nx = (⟨4, t.name, [x1], []⟩, nx2) by
      rw [liftN, if_neg (by rw [HKD.out]; decide), if_pos (by rw [HKD.out]; decide), he]
      simp only [hx, hn]
      rw [HKD.out])
     clear XST
     by_cases h0 : nl = 0
     ·subst h0
      have hle : t.lives = [] := List.eq_nil_of_length_eq_zero HNL.out
      have HX := hidP (show (if t.lives = [] then [nx] else (t.lives.take 1).map (numL lives)) = [nx] from if_pos hle)
      have HN := hidP (show (if t.lives = [] then nx + 1 else nx) = nx + 1 from if_pos hle)
      clear hle A2 NUM
      go_wp2_with (first | (refine bsliceU rfl 22 3 1 8 _ (.int .i64 nx) (.tmp 88) rfl Tryz.underlying22 Tryz.info3I (by decide) (by decide) rfl [.int .i64 nx] rfl rfl rfl ?_; intro w6 hR6 hB6 hz6; apply shut))
      show wpList _ _ _ _ _ _
      have R6 := hidP hR6
      have RO6 := hidP (RO5.out.below hB6 hlt5.out)
      have RI6 := hidP (RI.out.below hB6 RI.out.lt)
      have RR6 := hidP (RR.out.below hB6 RR.out.lt)
      have BW6 := hidP (HBW.out.trans (below_le hB6 HBW.out.size))
      have hg6 := hidP (Nat.le_refl w5.heap.size)
      clear hR6 RO5 RI RR HBW y0 y2 y3 hz6
      go_wp2_with (first | (refine stC rfl 22 (.tmp 90) (.tmp 89) rfl rfl rfl RO6.out (svN RO6.out rfl _ _ _) ?_; intro w7 R7 S7; apply shut))
      show wpList _ _ _ _ _ _
      simp only [List.set_cons_zero, List.set_cons_succ] at R7
      have RO7 := hidP R7
      have RI7 := hidP (S7.row RI6.out (by have := hg5b.out; omega))
      have RR7 := hidP (S7.row RR6.out (by have := hg5b.out; omega))
      have BW7 := hidP (BW6.out.trans (S7.below (C := w.heap.size) BW6.out.size (fun q hq => by have : q = g5 := hq; have := hg5b.out; omega)))
      clear R7
      have R7 := hidP (S7.row R6.out (by have := hlt5.out; omega))
      obtain ⟨g6, hge⟩ : ∃ y, y = w5.heap.size := ⟨_, rfl⟩
      rw [← hge] at R7 RO7
      have hg6 := hidP (show w5.heap.size <= g6 from Nat.le_of_eq hge.symm)
      try rw [← hge]
      clear S7 hB6 RO6 RI6 RR6 BW6 R6 hge
      have y3 := RI7.out.cell 3
      simp only [List.getElem?_cons_zero, List.getElem?_cons_succ] at y3
      by_cases hne0 : ne = 0
      ·subst hne0
       have LQ := hidP (LQZ.out (nx) (nx + 1) HX.out HN.out (List.eq_nil_of_length_eq_zero HNE.out))
       have DN := hidP (arq_n1 R7.out hg6.out)
       have DE := hidP (show ArQ 4 72 (RtQ kq (Fr w5 w7) K.B w7) (Fr w5 w7) w7 (.slice none 0 0) ([] : List RTy) from nil_arQ)
       clear LQE LQZ IH A3 HF3 R7
       go_wp2_with (first | (refine ldR rfl 25 (.tmp 10) rfl rfl RO7.out Tryz.underlying25 rfl Tryz.sz25 ?_) | (refine stR rfl 25 (.tmp 8) (.tmp 112) rfl (cs := [.int .i64 4, .string SN, .slice (some ⟨g6, 0, none⟩) 1 1, .slice none 0 0]) rfl rfl RR7.out Tryz.sz25 rfl (ones_cons rfl (ones_cons rfl (ones_cons rfl (ones_cons rfl ones_nil)))) ?_; intro wF RF SF; apply shut))
       show wpList _ _ _ _ _ _
       have BF := hidP (BW7.out.trans (SF.below (C := w.heap.size) BW7.out.size (fun q hq => by have : q = w.heap.size + 1 := hq; omega)))
       have hlF : ∀ k, k = w.heap.size + 1 -> k < w5.heap.size := fun k e => by have := hg5.out; have := hz5.out; omega
       have KF := hidP (show Kp (Fr w5 w7) (Fr w wF) w7 wF from kp_stay SF (fun k e => hlF k e) (by have := hz5.out; omega))
       have DA := hidP (show ArQ 1 8 NmAt (Fr w wF) wF (.slice (some ⟨g6, 0, none⟩) 1 1) _ from DN.out.mono KF.out fun _ _ _ h => h)
       have DB := hidP (show ArQ 4 72 (RtQ kq (Fr w wF) K.B wF) (Fr w wF) wF (.slice none 0 0) _ from DE.out.mono KF.out fun _ _ _ h => RtQ.mono KF.out h)
       replace RF := hidP RF
       clear SF KF hlF RO7 RR7
       go_wp2_with fail
       exact bodyPost_ret (v := .tuple #[.agg #[.int .i64 4, .string SN, .slice (some ⟨g6, 0, none⟩) 1 1, .slice none 0 0], .int .i64 (nx + 1)]) (results_cell_row2 Tryz.results18 _ _ (w.heap.size + 1) 25 _ (0, 0) _ rfl RF.out.heap Tryz.underlying25 rfl (by kernel_rfl)) rfl ⟨[.int .i64 4, .string SN, .slice (some ⟨g6, 0, none⟩) 1 1, .slice none 0 0], by rw [LQ.out], BF.out, by
        rw [LQ.out]
        exact ⟨_, _, by rw [HSN.out], HBN.out, DA.out, DB.out⟩⟩
      ·obtain ⟨e, he0, b1, o1, rfl, hb1, c1, hl1, hr1, hp1⟩ := A3.out 0 (by omega)
       obtain ⟨es, hes⟩ : ∃ es, t.elem = e :: es := by
        rcases hl : t.elem with _ | ⟨e', es⟩
        ·rw [hl] at he0; cases he0
        ·rw [hl, List.getElem?_cons_zero] at he0; cases he0; exact ⟨es, rfl⟩
       have LQ := hidP (LQE.out (nx) (nx + 1) HX.out HN.out e es hes)
       have l0 : (0 : Int) < (ne : Int) := by omega
       rw [Nat.zero_mul, Nat.add_zero] at hr1
       have r1 := hidP (range_le hr1 BW7.out (Nat.lt_of_lt_of_le hb1 HC.out))
       have s1 := hidP (show (Tryz.prog.info? 36).map (·.size) = some c1.length by rw [hl1]; exact Tryz.sz36)
       have CALL := hidP (IH.out w7 BW7.out (nx + 1) c1 e (hp1.below (below_le BW7.out HC.out)) (HF3.out e (by rw [hes]; rfl)) (by omega) (by omega))
       clear LQE LQZ IH A3 HF3 hp1 hr1 hb1 hl1 he0 hes hne0
       go_wp2_with (first | (refine wpList_load_mid rfl 36 (.tmp 101) rfl b1 o1 rfl c1 _ r1.out Tryz.underlying36 rfl s1.out ?_))
       refine CALL.out.mono ?_
       rintro _ w8 ⟨d, rfl, hb8, hq8⟩
       obtain ⟨d0, d1, d2, d3, rfl⟩ : ∃ e0 e1 e2 e3, d = [e0, e1, e2, e3] := by
        match d, hq8.len with
        | [e0, e1, e2, e3], _ => exact ⟨_, _, _, _, rfl⟩
       have R8 := hidP (R7.out.below hb8 R7.out.lt)
       have RO8 := hidP (RO7.out.below hb8 RO7.out.lt)
       have RR8 := hidP (RR7.out.below hb8 RR7.out.lt)
       have BW8 := hidP (BW7.out.trans (below_le hb8 BW7.out.size))
       have Q8 := hidP hq8
       have hz7 := hidP (show w5.heap.size <= w7.heap.size by have := R7.out.lt; have := hg6.out; omega)
       have RN := hidP (Row.new w8 25 [.int .i64 0, .string ⟨#[]⟩, .slice none 0 0, .slice none 0 0])
       have BN := hidP (alloc_one w8 (.cells #[.int .i64 0, .string ⟨#[]⟩, .slice none 0 0, .slice none 0 0] 25))
       generalize (liftN L lives kq e (nx + 1)).2 = nx3 at *
       generalize (liftN L lives kq e (nx + 1)).1 = te at *
       clear CALL R7 RO7 RR7 RI7 hb8 hq8 r1 s1 y3
       go_wp2_with (first | (refine stR rfl 25 (.tmp 15) (.tmp 106) rfl (cs := [d0, d1, d2, d3]) rfl rfl RN.out Tryz.sz25 rfl Q8.out.ones ?_; intro w9 R9 S9; apply shut))
       show wpList _ _ _ _ _ _
       have BX := hidP (BN.out.trans (S9.below (C := w8.heap.size) BN.out.size (fun q hq => Nat.le_of_eq hq.symm)))
       have RO9 := hidP (RO8.out.below BX.out RO8.out.lt)
       have RR9 := hidP (RR8.out.below BX.out RR8.out.lt)
       have RG9 := hidP (R8.out.below BX.out R8.out.lt)
       have BW9 := hidP (BW8.out.trans (below_le BX.out BW8.out.size))
       have Q9 := hidP (show RtQ kq (Fr w7 w9) K.B w9 [d0, d1, d2, d3] te from Q8.out.mono (kp_stay (X := fun _ => False) (Stay.of_below BX.out) (fun _ h => h.elim) (Nat.le_refl _)))
       have R9 := hidP R9
       clear RN BN S9 RO8 RR8 R8 BW8 Q8 BX
       go_wp2_with (first | (refine ldR rfl 25 (.tmp 15) rfl rfl R9.out Tryz.underlying25 rfl Tryz.sz25 ?_; refine bsliceU rfl 23 25 4 72 _ (.agg #[d0, d1, d2, d3]) (.tmp 108) rfl Tryz.underlying23 Tryz.info25S (by decide) (by decide) rfl [d0, d1, d2, d3] rfl rfl rfl ?_; intro wA hRA hBA hzA; apply shut))
       show wpList _ _ _ _ _ _
       have ROA := hidP (RO9.out.below hBA RO9.out.lt)
       have RRA := hidP (RR9.out.below hBA RR9.out.lt)
       have RGA := hidP (RG9.out.below hBA RG9.out.lt)
       have BWA := hidP (BW9.out.trans (below_le hBA BW9.out.size))
       have QA := hidP (show RtQ kq (Fr w7 wA) K.B wA [d0, d1, d2, d3] te from Q9.out.mono (kp_stay (X := fun _ => False) (Stay.of_below hBA) (fun _ h => h.elim) (Nat.le_refl _)))
       have RNA := hidP hRA
       have hgA := hidP (show w5.heap.size <= w9.heap.size by have := BW9.out.size; have := RG9.out.lt; have := hg6.out; omega)
       clear R9 RO9 RR9 RG9 BW9 Q9 hRA hBA hzA
       generalize w9.heap.size = gA at *
       go_wp2_with (first | (refine stC rfl 23 (.tmp 110) (.tmp 109) rfl rfl rfl ROA.out (sv23 ROA.out rfl _ _ _) ?_; intro wB RB SB; apply shut))
       show wpList _ _ _ _ _ _
       simp only [List.set_cons_zero, List.set_cons_succ] at RB
       have ROB := hidP RB
       have RRB := hidP (SB.row RRA.out (by have := hg5.out; have := hg5b.out; omega))
       have RGB := hidP (SB.row RGA.out (by have := hlt5.out; have := hg6.out; omega))
       have RNB := hidP (SB.row RNA.out (by have := hlt5.out; have := hgA.out; omega))
       have BWB := hidP (BWA.out.trans (SB.below (C := w.heap.size) BWA.out.size (fun q hq => by have : q = g5 := hq; have := hg5b.out; omega)))
       have QB := hidP (show RtQ kq (Fr w5 wB) K.B wB [d0, d1, d2, d3] te from QA.out.mono (kp_stay SB (fun k e => by have : k = g5 := e; have := hlt5.out; have := hz7.out; omega) hz7.out))
       have DN := hidP (arq_n1 RGB.out hg6.out)
       have DE := hidP (arq_rt RNB.out QB.out hgA.out)
       clear RB SB ROA RRA RGA RNA BWA QA RGB RNB QB
       go_wp2_with (first | (refine ldR rfl 25 (.tmp 10) rfl rfl ROB.out Tryz.underlying25 rfl Tryz.sz25 ?_) | (refine stR rfl 25 (.tmp 8) (.tmp 112) rfl (cs := [.int .i64 4, .string SN, .slice (some ⟨g6, 0, none⟩) 1 1, .slice (some ⟨gA, 0, none⟩) 1 1]) rfl rfl RRB.out Tryz.sz25 rfl (ones_cons rfl (ones_cons rfl (ones_cons rfl (ones_cons rfl ones_nil)))) ?_; intro wF RF SF; apply shut))
       show wpList _ _ _ _ _ _
       have BF := hidP (BWB.out.trans (SF.below (C := w.heap.size) BWB.out.size (fun q hq => by have : q = w.heap.size + 1 := hq; omega)))
       have hlF : ∀ k, k = w.heap.size + 1 -> k < w5.heap.size := fun k e => by have := hg5.out; have := hz5.out; omega
       have KF := hidP (show Kp (Fr w5 wB) (Fr w wF) wB wF from kp_stay SF (fun k e => hlF k e) (by have := hz5.out; omega))
       have DA := hidP (show ArQ 1 8 NmAt (Fr w wF) wF (.slice (some ⟨g6, 0, none⟩) 1 1) _ from DN.out.mono KF.out fun _ _ _ h => h)
       have DB := hidP (show ArQ 4 72 (RtQ kq (Fr w wF) K.B wF) (Fr w wF) wF (.slice (some ⟨gA, 0, none⟩) 1 1) _ from DE.out.mono KF.out fun _ _ _ h => RtQ.mono KF.out h)
       replace RF := hidP RF
       clear SF KF hlF ROB RRB
       go_wp2_with fail
       exact bodyPost_ret (v := .tuple #[.agg #[.int .i64 4, .string SN, .slice (some ⟨g6, 0, none⟩) 1 1, .slice (some ⟨gA, 0, none⟩) 1 1], .int .i64 nx3]) (results_cell_row2 Tryz.results18 _ _ (w.heap.size + 1) 25 _ (0, 0) _ rfl RF.out.heap Tryz.underlying25 rfl (by kernel_rfl)) rfl ⟨[.int .i64 4, .string SN, .slice (some ⟨g6, 0, none⟩) 1 1, .slice (some ⟨gA, 0, none⟩) 1 1], by rw [LQ.out], BF.out, by
        rw [LQ.out]
        exact ⟨_, _, by rw [HSN.out], HBN.out, DA.out, DB.out⟩⟩
     ·obtain ⟨l0, hl0, b2, o2, rfl, hb2, hc2⟩ := A2.out 0 (by omega)
      have hle : t.lives ≠ [] := fun e => by rw [e] at hl0; cases hl0
      have hlt : t.lives.take 1 = [l0] := by
       rcases hl : t.lives with _ | ⟨y, ys⟩
       ·exact absurd hl hle
       ·rw [hl, List.getElem?_cons_zero] at hl0; cases hl0; rfl
      have HX := hidP (show (if t.lives = [] then [nx] else (t.lives.take 1).map (numL lives)) = [numL lives l0] by rw [if_neg hle, hlt]; rfl)
      have HN := hidP (show (if t.lives = [] then nx + 1 else nx) = nx from if_neg hle)
      have c2 := (HBW.out.cell (p := ⟨b2, o2 + 0, none⟩) (Nat.lt_of_lt_of_le hb2 HC.out)).trans hc2
      rw [Nat.add_zero] at c2
      have NU := hidP (NUM.out w5 HBW.out l0)
      have l1 : (0 : Int) < (nl : Int) := by omega
      generalize numL lives l0 = x1 at *
      generalize str l0 = S0 at *
      clear hle hlt hl0 hc2 hb2 NUM A2 h0
      go_wp2_with fail
      refine NU.out.mono ?_
      rintro _ wz ⟨rfl, hwz⟩
      rw [hwz]
      clear hwz NU c2
      go_wp2_with (first | (refine bsliceU rfl 22 3 1 8 _ (.int .i64 x1) (.tmp 85) rfl Tryz.underlying22 Tryz.info3I (by decide) (by decide) rfl [.int .i64 x1] rfl rfl rfl ?_; intro w6 hR6 hB6 hz6; apply shut))
      show wpList _ _ _ _ _ _
      have R6 := hidP hR6
      have RO6 := hidP (RO5.out.below hB6 hlt5.out)
      have RI6 := hidP (RI.out.below hB6 RI.out.lt)
      have RR6 := hidP (RR.out.below hB6 RR.out.lt)
      have BW6 := hidP (HBW.out.trans (below_le hB6 HBW.out.size))
      have hg6 := hidP (Nat.le_refl w5.heap.size)
      clear hR6 RO5 RI RR HBW y0 y2 y3 hz6
      go_wp2_with (first | (refine stC rfl 22 (.tmp 87) (.tmp 86) rfl rfl rfl RO6.out (svN RO6.out rfl _ _ _) ?_; intro w7 R7 S7; apply shut))
      show wpList _ _ _ _ _ _
      simp only [List.set_cons_zero, List.set_cons_succ] at R7
      have RO7 := hidP R7
      have RI7 := hidP (S7.row RI6.out (by have := hg5b.out; omega))
      have RR7 := hidP (S7.row RR6.out (by have := hg5b.out; omega))
      have BW7 := hidP (BW6.out.trans (S7.below (C := w.heap.size) BW6.out.size (fun q hq => by have : q = g5 := hq; have := hg5b.out; omega)))
      clear R7
      have R7 := hidP (S7.row R6.out (by have := hlt5.out; omega))
      obtain ⟨g6, hge⟩ : ∃ y, y = w5.heap.size := ⟨_, rfl⟩
      rw [← hge] at R7 RO7
      have hg6 := hidP (show w5.heap.size <= g6 from Nat.le_of_eq hge.symm)
      try rw [← hge]
      clear S7 hB6 RO6 RI6 RR6 BW6 R6 hge
      have y3 := RI7.out.cell 3
      simp only [List.getElem?_cons_zero, List.getElem?_cons_succ] at y3
      by_cases hne0 : ne = 0
      ·subst hne0
       have LQ := hidP (LQZ.out (x1) (nx) HX.out HN.out (List.eq_nil_of_length_eq_zero HNE.out))
       have DN := hidP (arq_n1 R7.out hg6.out)
       have DE := hidP (show ArQ 4 72 (RtQ kq (Fr w5 w7) K.B w7) (Fr w5 w7) w7 (.slice none 0 0) ([] : List RTy) from nil_arQ)
       clear LQE LQZ IH A3 HF3 R7
       go_wp2_with (first | (refine ldR rfl 25 (.tmp 10) rfl rfl RO7.out Tryz.underlying25 rfl Tryz.sz25 ?_) | (refine stR rfl 25 (.tmp 8) (.tmp 112) rfl (cs := [.int .i64 4, .string SN, .slice (some ⟨g6, 0, none⟩) 1 1, .slice none 0 0]) rfl rfl RR7.out Tryz.sz25 rfl (ones_cons rfl (ones_cons rfl (ones_cons rfl (ones_cons rfl ones_nil)))) ?_; intro wF RF SF; apply shut))
       show wpList _ _ _ _ _ _
       have BF := hidP (BW7.out.trans (SF.below (C := w.heap.size) BW7.out.size (fun q hq => by have : q = w.heap.size + 1 := hq; omega)))
       have hlF : ∀ k, k = w.heap.size + 1 -> k < w5.heap.size := fun k e => by have := hg5.out; have := hz5.out; omega
       have KF := hidP (show Kp (Fr w5 w7) (Fr w wF) w7 wF from kp_stay SF (fun k e => hlF k e) (by have := hz5.out; omega))
       have DA := hidP (show ArQ 1 8 NmAt (Fr w wF) wF (.slice (some ⟨g6, 0, none⟩) 1 1) _ from DN.out.mono KF.out fun _ _ _ h => h)
       have DB := hidP (show ArQ 4 72 (RtQ kq (Fr w wF) K.B wF) (Fr w wF) wF (.slice none 0 0) _ from DE.out.mono KF.out fun _ _ _ h => RtQ.mono KF.out h)
       replace RF := hidP RF
       clear SF KF hlF RO7 RR7
       go_wp2_with fail
       exact bodyPost_ret (v := .tuple #[.agg #[.int .i64 4, .string SN, .slice (some ⟨g6, 0, none⟩) 1 1, .slice none 0 0], .int .i64 (nx)]) (results_cell_row2 Tryz.results18 _ _ (w.heap.size + 1) 25 _ (0, 0) _ rfl RF.out.heap Tryz.underlying25 rfl (by kernel_rfl)) rfl ⟨[.int .i64 4, .string SN, .slice (some ⟨g6, 0, none⟩) 1 1, .slice none 0 0], by rw [LQ.out], BF.out, by
        rw [LQ.out]
        exact ⟨_, _, by rw [HSN.out], HBN.out, DA.out, DB.out⟩⟩
      ·obtain ⟨e, he0, b1, o1, rfl, hb1, c1, hl1, hr1, hp1⟩ := A3.out 0 (by omega)
       obtain ⟨es, hes⟩ : ∃ es, t.elem = e :: es := by
        rcases hl : t.elem with _ | ⟨e', es⟩
        ·rw [hl] at he0; cases he0
        ·rw [hl, List.getElem?_cons_zero] at he0; cases he0; exact ⟨es, rfl⟩
       have LQ := hidP (LQE.out (x1) (nx) HX.out HN.out e es hes)
       have l0 : (0 : Int) < (ne : Int) := by omega
       rw [Nat.zero_mul, Nat.add_zero] at hr1
       have r1 := hidP (range_le hr1 BW7.out (Nat.lt_of_lt_of_le hb1 HC.out))
       have s1 := hidP (show (Tryz.prog.info? 36).map (·.size) = some c1.length by rw [hl1]; exact Tryz.sz36)
       have CALL := hidP (IH.out w7 BW7.out (nx) c1 e (hp1.below (below_le BW7.out HC.out)) (HF3.out e (by rw [hes]; rfl)) (by omega) (by omega))
       clear LQE LQZ IH A3 HF3 hp1 hr1 hb1 hl1 he0 hes hne0
       go_wp2_with (first | (refine wpList_load_mid rfl 36 (.tmp 101) rfl b1 o1 rfl c1 _ r1.out Tryz.underlying36 rfl s1.out ?_))
       refine CALL.out.mono ?_
       rintro _ w8 ⟨d, rfl, hb8, hq8⟩
       obtain ⟨d0, d1, d2, d3, rfl⟩ : ∃ e0 e1 e2 e3, d = [e0, e1, e2, e3] := by
        match d, hq8.len with
        | [e0, e1, e2, e3], _ => exact ⟨_, _, _, _, rfl⟩
       have R8 := hidP (R7.out.below hb8 R7.out.lt)
       have RO8 := hidP (RO7.out.below hb8 RO7.out.lt)
       have RR8 := hidP (RR7.out.below hb8 RR7.out.lt)
       have BW8 := hidP (BW7.out.trans (below_le hb8 BW7.out.size))
       have Q8 := hidP hq8
       have hz7 := hidP (show w5.heap.size <= w7.heap.size by have := R7.out.lt; have := hg6.out; omega)
       have RN := hidP (Row.new w8 25 [.int .i64 0, .string ⟨#[]⟩, .slice none 0 0, .slice none 0 0])
       have BN := hidP (alloc_one w8 (.cells #[.int .i64 0, .string ⟨#[]⟩, .slice none 0 0, .slice none 0 0] 25))
       generalize (liftN L lives kq e (nx)).2 = nx3 at *
       generalize (liftN L lives kq e (nx)).1 = te at *
       clear CALL R7 RO7 RR7 RI7 hb8 hq8 r1 s1 y3
       go_wp2_with (first | (refine stR rfl 25 (.tmp 15) (.tmp 106) rfl (cs := [d0, d1, d2, d3]) rfl rfl RN.out Tryz.sz25 rfl Q8.out.ones ?_; intro w9 R9 S9; apply shut))
       show wpList _ _ _ _ _ _
       have BX := hidP (BN.out.trans (S9.below (C := w8.heap.size) BN.out.size (fun q hq => Nat.le_of_eq hq.symm)))
       have RO9 := hidP (RO8.out.below BX.out RO8.out.lt)
       have RR9 := hidP (RR8.out.below BX.out RR8.out.lt)
       have RG9 := hidP (R8.out.below BX.out R8.out.lt)
       have BW9 := hidP (BW8.out.trans (below_le BX.out BW8.out.size))
       have Q9 := hidP (show RtQ kq (Fr w7 w9) K.B w9 [d0, d1, d2, d3] te from Q8.out.mono (kp_stay (X := fun _ => False) (Stay.of_below BX.out) (fun _ h => h.elim) (Nat.le_refl _)))
       have R9 := hidP R9
       clear RN BN S9 RO8 RR8 R8 BW8 Q8 BX
       go_wp2_with (first | (refine ldR rfl 25 (.tmp 15) rfl rfl R9.out Tryz.underlying25 rfl Tryz.sz25 ?_; refine bsliceU rfl 23 25 4 72 _ (.agg #[d0, d1, d2, d3]) (.tmp 108) rfl Tryz.underlying23 Tryz.info25S (by decide) (by decide) rfl [d0, d1, d2, d3] rfl rfl rfl ?_; intro wA hRA hBA hzA; apply shut))
       show wpList _ _ _ _ _ _
       have ROA := hidP (RO9.out.below hBA RO9.out.lt)
       have RRA := hidP (RR9.out.below hBA RR9.out.lt)
       have RGA := hidP (RG9.out.below hBA RG9.out.lt)
       have BWA := hidP (BW9.out.trans (below_le hBA BW9.out.size))
       have QA := hidP (show RtQ kq (Fr w7 wA) K.B wA [d0, d1, d2, d3] te from Q9.out.mono (kp_stay (X := fun _ => False) (Stay.of_below hBA) (fun _ h => h.elim) (Nat.le_refl _)))
       have RNA := hidP hRA
       have hgA := hidP (show w5.heap.size <= w9.heap.size by have := BW9.out.size; have := RG9.out.lt; have := hg6.out; omega)
       clear R9 RO9 RR9 RG9 BW9 Q9 hRA hBA hzA
       generalize w9.heap.size = gA at *
       go_wp2_with (first | (refine stC rfl 23 (.tmp 110) (.tmp 109) rfl rfl rfl ROA.out (sv23 ROA.out rfl _ _ _) ?_; intro wB RB SB; apply shut))
       show wpList _ _ _ _ _ _
       simp only [List.set_cons_zero, List.set_cons_succ] at RB
       have ROB := hidP RB
       have RRB := hidP (SB.row RRA.out (by have := hg5.out; have := hg5b.out; omega))
       have RGB := hidP (SB.row RGA.out (by have := hlt5.out; have := hg6.out; omega))
       have RNB := hidP (SB.row RNA.out (by have := hlt5.out; have := hgA.out; omega))
       have BWB := hidP (BWA.out.trans (SB.below (C := w.heap.size) BWA.out.size (fun q hq => by have : q = g5 := hq; have := hg5b.out; omega)))
       have QB := hidP (show RtQ kq (Fr w5 wB) K.B wB [d0, d1, d2, d3] te from QA.out.mono (kp_stay SB (fun k e => by have : k = g5 := e; have := hlt5.out; have := hz7.out; omega) hz7.out))
       have DN := hidP (arq_n1 RGB.out hg6.out)
       have DE := hidP (arq_rt RNB.out QB.out hgA.out)
       clear RB SB ROA RRA RGA RNA BWA QA RGB RNB QB
       go_wp2_with (first | (refine ldR rfl 25 (.tmp 10) rfl rfl ROB.out Tryz.underlying25 rfl Tryz.sz25 ?_) | (refine stR rfl 25 (.tmp 8) (.tmp 112) rfl (cs := [.int .i64 4, .string SN, .slice (some ⟨g6, 0, none⟩) 1 1, .slice (some ⟨gA, 0, none⟩) 1 1]) rfl rfl RRB.out Tryz.sz25 rfl (ones_cons rfl (ones_cons rfl (ones_cons rfl (ones_cons rfl ones_nil)))) ?_; intro wF RF SF; apply shut))
       show wpList _ _ _ _ _ _
       have BF := hidP (BWB.out.trans (SF.below (C := w.heap.size) BWB.out.size (fun q hq => by have : q = w.heap.size + 1 := hq; omega)))
       have hlF : ∀ k, k = w.heap.size + 1 -> k < w5.heap.size := fun k e => by have := hg5.out; have := hz5.out; omega
       have KF := hidP (show Kp (Fr w5 wB) (Fr w wF) wB wF from kp_stay SF (fun k e => hlF k e) (by have := hz5.out; omega))
       have DA := hidP (show ArQ 1 8 NmAt (Fr w wF) wF (.slice (some ⟨g6, 0, none⟩) 1 1) _ from DN.out.mono KF.out fun _ _ _ h => h)
       have DB := hidP (show ArQ 4 72 (RtQ kq (Fr w wF) K.B wF) (Fr w wF) wF (.slice (some ⟨gA, 0, none⟩) 1 1) _ from DE.out.mono KF.out fun _ _ _ h => RtQ.mono KF.out h)
       replace RF := hidP RF
       clear SF KF hlF ROB RRB
       go_wp2_with fail
       exact bodyPost_ret (v := .tuple #[.agg #[.int .i64 4, .string SN, .slice (some ⟨g6, 0, none⟩) 1 1, .slice (some ⟨gA, 0, none⟩) 1 1], .int .i64 nx3]) (results_cell_row2 Tryz.results18 _ _ (w.heap.size + 1) 25 _ (0, 0) _ rfl RF.out.heap Tryz.underlying25 rfl (by kernel_rfl)) rfl ⟨[.int .i64 4, .string SN, .slice (some ⟨g6, 0, none⟩) 1 1, .slice (some ⟨gA, 0, none⟩) 1 1], by rw [LQ.out], BF.out, by
        rw [LQ.out]
        exact ⟨_, _, by rw [HSN.out], HBN.out, DA.out, DB.out⟩⟩
    ·have LQE := hidP (fun (x1 nx2 : Int) (hx : (if t.lives = [] then [nx] else (t.lives.take 1).map (numL lives)) = [x1]) (hn : (if t.lives = [] then nx + 1 else nx) = nx2) (e : Ty) (es : List Ty) (he : t.elem = e :: es) => show liftN L lives (kq + 1) t nx = (⟨5, t.name, [x1], [(liftN L lives kq e nx2).1]⟩, (liftN L lives kq e nx2).2) by
      rw [liftN, if_neg (by rw [HKD.out]; decide), if_pos (by rw [HKD.out]; decide), he]
      simp only [hx, hn]
      rw [HKD.out])
     have LQZ := hidP (fun (x1 nx2 : Int) (hx : (if t.lives = [] then [nx] else (t.lives.take 1).map (numL lives)) = [x1]) (hn : (if t.lives = [] then nx + 1 else nx) = nx2) (he : t.elem = []) => show liftN L lives (kq + 1) t nx = (⟨5, t.name, [x1], []⟩, nx2) by
      rw [liftN, if_neg (by rw [HKD.out]; decide), if_pos (by rw [HKD.out]; decide), he]
      simp only [hx, hn]
      rw [HKD.out])
     clear XST
     by_cases h0 : nl = 0
     ·subst h0
      have hle : t.lives = [] := List.eq_nil_of_length_eq_zero HNL.out
      have HX := hidP (show (if t.lives = [] then [nx] else (t.lives.take 1).map (numL lives)) = [nx] from if_pos hle)
      have HN := hidP (show (if t.lives = [] then nx + 1 else nx) = nx + 1 from if_pos hle)
      clear hle A2 NUM
      go_wp2_with (first | (refine bsliceU rfl 22 3 1 8 _ (.int .i64 nx) (.tmp 88) rfl Tryz.underlying22 Tryz.info3I (by decide) (by decide) rfl [.int .i64 nx] rfl rfl rfl ?_; intro w6 hR6 hB6 hz6; apply shut))
      show wpList _ _ _ _ _ _
      have R6 := hidP hR6
      have RO6 := hidP (RO5.out.below hB6 hlt5.out)
      have RI6 := hidP (RI.out.below hB6 RI.out.lt)
      have RR6 := hidP (RR.out.below hB6 RR.out.lt)
      have BW6 := hidP (HBW.out.trans (below_le hB6 HBW.out.size))
      have hg6 := hidP (Nat.le_refl w5.heap.size)
      clear hR6 RO5 RI RR HBW y0 y2 y3 hz6
      go_wp2_with (first | (refine stC rfl 22 (.tmp 90) (.tmp 89) rfl rfl rfl RO6.out (svN RO6.out rfl _ _ _) ?_; intro w7 R7 S7; apply shut))
      show wpList _ _ _ _ _ _
      simp only [List.set_cons_zero, List.set_cons_succ] at R7
      have RO7 := hidP R7
      have RI7 := hidP (S7.row RI6.out (by have := hg5b.out; omega))
      have RR7 := hidP (S7.row RR6.out (by have := hg5b.out; omega))
      have BW7 := hidP (BW6.out.trans (S7.below (C := w.heap.size) BW6.out.size (fun q hq => by have : q = g5 := hq; have := hg5b.out; omega)))
      clear R7
      have R7 := hidP (S7.row R6.out (by have := hlt5.out; omega))
      obtain ⟨g6, hge⟩ : ∃ y, y = w5.heap.size := ⟨_, rfl⟩
      rw [← hge] at R7 RO7
      have hg6 := hidP (show w5.heap.size <= g6 from Nat.le_of_eq hge.symm)
      try rw [← hge]
      clear S7 hB6 RO6 RI6 RR6 BW6 R6 hge
      have y3 := RI7.out.cell 3
      simp only [List.getElem?_cons_zero, List.getElem?_cons_succ] at y3
      by_cases hne0 : ne = 0
      ·subst hne0
       have LQ := hidP (LQZ.out (nx) (nx + 1) HX.out HN.out (List.eq_nil_of_length_eq_zero HNE.out))
       have DN := hidP (arq_n1 R7.out hg6.out)
       have DE := hidP (show ArQ 4 72 (RtQ kq (Fr w5 w7) K.B w7) (Fr w5 w7) w7 (.slice none 0 0) ([] : List RTy) from nil_arQ)
       clear LQE LQZ IH A3 HF3 R7
       go_wp2_with (first | (refine ldR rfl 25 (.tmp 10) rfl rfl RO7.out Tryz.underlying25 rfl Tryz.sz25 ?_) | (refine stR rfl 25 (.tmp 8) (.tmp 112) rfl (cs := [.int .i64 5, .string SN, .slice (some ⟨g6, 0, none⟩) 1 1, .slice none 0 0]) rfl rfl RR7.out Tryz.sz25 rfl (ones_cons rfl (ones_cons rfl (ones_cons rfl (ones_cons rfl ones_nil)))) ?_; intro wF RF SF; apply shut))
       show wpList _ _ _ _ _ _
       have BF := hidP (BW7.out.trans (SF.below (C := w.heap.size) BW7.out.size (fun q hq => by have : q = w.heap.size + 1 := hq; omega)))
       have hlF : ∀ k, k = w.heap.size + 1 -> k < w5.heap.size := fun k e => by have := hg5.out; have := hz5.out; omega
       have KF := hidP (show Kp (Fr w5 w7) (Fr w wF) w7 wF from kp_stay SF (fun k e => hlF k e) (by have := hz5.out; omega))
       have DA := hidP (show ArQ 1 8 NmAt (Fr w wF) wF (.slice (some ⟨g6, 0, none⟩) 1 1) _ from DN.out.mono KF.out fun _ _ _ h => h)
       have DB := hidP (show ArQ 4 72 (RtQ kq (Fr w wF) K.B wF) (Fr w wF) wF (.slice none 0 0) _ from DE.out.mono KF.out fun _ _ _ h => RtQ.mono KF.out h)
       replace RF := hidP RF
       clear SF KF hlF RO7 RR7
       go_wp2_with fail
       exact bodyPost_ret (v := .tuple #[.agg #[.int .i64 5, .string SN, .slice (some ⟨g6, 0, none⟩) 1 1, .slice none 0 0], .int .i64 (nx + 1)]) (results_cell_row2 Tryz.results18 _ _ (w.heap.size + 1) 25 _ (0, 0) _ rfl RF.out.heap Tryz.underlying25 rfl (by kernel_rfl)) rfl ⟨[.int .i64 5, .string SN, .slice (some ⟨g6, 0, none⟩) 1 1, .slice none 0 0], by rw [LQ.out], BF.out, by
        rw [LQ.out]
        exact ⟨_, _, by rw [HSN.out], HBN.out, DA.out, DB.out⟩⟩
      ·obtain ⟨e, he0, b1, o1, rfl, hb1, c1, hl1, hr1, hp1⟩ := A3.out 0 (by omega)
       obtain ⟨es, hes⟩ : ∃ es, t.elem = e :: es := by
        rcases hl : t.elem with _ | ⟨e', es⟩
        ·rw [hl] at he0; cases he0
        ·rw [hl, List.getElem?_cons_zero] at he0; cases he0; exact ⟨es, rfl⟩
       have LQ := hidP (LQE.out (nx) (nx + 1) HX.out HN.out e es hes)
       have l0 : (0 : Int) < (ne : Int) := by omega
       rw [Nat.zero_mul, Nat.add_zero] at hr1
       have r1 := hidP (range_le hr1 BW7.out (Nat.lt_of_lt_of_le hb1 HC.out))
       have s1 := hidP (show (Tryz.prog.info? 36).map (·.size) = some c1.length by rw [hl1]; exact Tryz.sz36)
       have CALL := hidP (IH.out w7 BW7.out (nx + 1) c1 e (hp1.below (below_le BW7.out HC.out)) (HF3.out e (by rw [hes]; rfl)) (by omega) (by omega))
       clear LQE LQZ IH A3 HF3 hp1 hr1 hb1 hl1 he0 hes hne0
       go_wp2_with (first | (refine wpList_load_mid rfl 36 (.tmp 101) rfl b1 o1 rfl c1 _ r1.out Tryz.underlying36 rfl s1.out ?_))
       refine CALL.out.mono ?_
       rintro _ w8 ⟨d, rfl, hb8, hq8⟩
       obtain ⟨d0, d1, d2, d3, rfl⟩ : ∃ e0 e1 e2 e3, d = [e0, e1, e2, e3] := by
        match d, hq8.len with
        | [e0, e1, e2, e3], _ => exact ⟨_, _, _, _, rfl⟩
       have R8 := hidP (R7.out.below hb8 R7.out.lt)
       have RO8 := hidP (RO7.out.below hb8 RO7.out.lt)
       have RR8 := hidP (RR7.out.below hb8 RR7.out.lt)
       have BW8 := hidP (BW7.out.trans (below_le hb8 BW7.out.size))
       have Q8 := hidP hq8
       have hz7 := hidP (show w5.heap.size <= w7.heap.size by have := R7.out.lt; have := hg6.out; omega)
       have RN := hidP (Row.new w8 25 [.int .i64 0, .string ⟨#[]⟩, .slice none 0 0, .slice none 0 0])
       have BN := hidP (alloc_one w8 (.cells #[.int .i64 0, .string ⟨#[]⟩, .slice none 0 0, .slice none 0 0] 25))
       generalize (liftN L lives kq e (nx + 1)).2 = nx3 at *
       generalize (liftN L lives kq e (nx + 1)).1 = te at *
       clear CALL R7 RO7 RR7 RI7 hb8 hq8 r1 s1 y3
       go_wp2_with (first | (refine stR rfl 25 (.tmp 15) (.tmp 106) rfl (cs := [d0, d1, d2, d3]) rfl rfl RN.out Tryz.sz25 rfl Q8.out.ones ?_; intro w9 R9 S9; apply shut))
       show wpList _ _ _ _ _ _
       have BX := hidP (BN.out.trans (S9.below (C := w8.heap.size) BN.out.size (fun q hq => Nat.le_of_eq hq.symm)))
       have RO9 := hidP (RO8.out.below BX.out RO8.out.lt)
       have RR9 := hidP (RR8.out.below BX.out RR8.out.lt)
       have RG9 := hidP (R8.out.below BX.out R8.out.lt)
       have BW9 := hidP (BW8.out.trans (below_le BX.out BW8.out.size))
       have Q9 := hidP (show RtQ kq (Fr w7 w9) K.B w9 [d0, d1, d2, d3] te from Q8.out.mono (kp_stay (X := fun _ => False) (Stay.of_below BX.out) (fun _ h => h.elim) (Nat.le_refl _)))
       have R9 := hidP R9
       clear RN BN S9 RO8 RR8 R8 BW8 Q8 BX
       go_wp2_with (first | (refine ldR rfl 25 (.tmp 15) rfl rfl R9.out Tryz.underlying25 rfl Tryz.sz25 ?_; refine bsliceU rfl 23 25 4 72 _ (.agg #[d0, d1, d2, d3]) (.tmp 108) rfl Tryz.underlying23 Tryz.info25S (by decide) (by decide) rfl [d0, d1, d2, d3] rfl rfl rfl ?_; intro wA hRA hBA hzA; apply shut))
       show wpList _ _ _ _ _ _
       have ROA := hidP (RO9.out.below hBA RO9.out.lt)
       have RRA := hidP (RR9.out.below hBA RR9.out.lt)
       have RGA := hidP (RG9.out.below hBA RG9.out.lt)
       have BWA := hidP (BW9.out.trans (below_le hBA BW9.out.size))
       have QA := hidP (show RtQ kq (Fr w7 wA) K.B wA [d0, d1, d2, d3] te from Q9.out.mono (kp_stay (X := fun _ => False) (Stay.of_below hBA) (fun _ h => h.elim) (Nat.le_refl _)))
       have RNA := hidP hRA
       have hgA := hidP (show w5.heap.size <= w9.heap.size by have := BW9.out.size; have := RG9.out.lt; have := hg6.out; omega)
       clear R9 RO9 RR9 RG9 BW9 Q9 hRA hBA hzA
       generalize w9.heap.size = gA at *
       go_wp2_with (first | (refine stC rfl 23 (.tmp 110) (.tmp 109) rfl rfl rfl ROA.out (sv23 ROA.out rfl _ _ _) ?_; intro wB RB SB; apply shut))
       show wpList _ _ _ _ _ _
       simp only [List.set_cons_zero, List.set_cons_succ] at RB
       have ROB := hidP RB
       have RRB := hidP (SB.row RRA.out (by have := hg5.out; have := hg5b.out; omega))
       have RGB := hidP (SB.row RGA.out (by have := hlt5.out; have := hg6.out; omega))
       have RNB := hidP (SB.row RNA.out (by have := hlt5.out; have := hgA.out; omega))
       have BWB := hidP (BWA.out.trans (SB.below (C := w.heap.size) BWA.out.size (fun q hq => by have : q = g5 := hq; have := hg5b.out; omega)))
       have QB := hidP (show RtQ kq (Fr w5 wB) K.B wB [d0, d1, d2, d3] te from QA.out.mono (kp_stay SB (fun k e => by have : k = g5 := e; have := hlt5.out; have := hz7.out; omega) hz7.out))
       have DN := hidP (arq_n1 RGB.out hg6.out)
       have DE := hidP (arq_rt RNB.out QB.out hgA.out)
       clear RB SB ROA RRA RGA RNA BWA QA RGB RNB QB
       go_wp2_with (first | (refine ldR rfl 25 (.tmp 10) rfl rfl ROB.out Tryz.underlying25 rfl Tryz.sz25 ?_) | (refine stR rfl 25 (.tmp 8) (.tmp 112) rfl (cs := [.int .i64 5, .string SN, .slice (some ⟨g6, 0, none⟩) 1 1, .slice (some ⟨gA, 0, none⟩) 1 1]) rfl rfl RRB.out Tryz.sz25 rfl (ones_cons rfl (ones_cons rfl (ones_cons rfl (ones_cons rfl ones_nil)))) ?_; intro wF RF SF; apply shut))
       show wpList _ _ _ _ _ _
       have BF := hidP (BWB.out.trans (SF.below (C := w.heap.size) BWB.out.size (fun q hq => by have : q = w.heap.size + 1 := hq; omega)))
       have hlF : ∀ k, k = w.heap.size + 1 -> k < w5.heap.size := fun k e => by have := hg5.out; have := hz5.out; omega
       have KF := hidP (show Kp (Fr w5 wB) (Fr w wF) wB wF from kp_stay SF (fun k e => hlF k e) (by have := hz5.out; omega))
       have DA := hidP (show ArQ 1 8 NmAt (Fr w wF) wF (.slice (some ⟨g6, 0, none⟩) 1 1) _ from DN.out.mono KF.out fun _ _ _ h => h)
       have DB := hidP (show ArQ 4 72 (RtQ kq (Fr w wF) K.B wF) (Fr w wF) wF (.slice (some ⟨gA, 0, none⟩) 1 1) _ from DE.out.mono KF.out fun _ _ _ h => RtQ.mono KF.out h)
       replace RF := hidP RF
       clear SF KF hlF ROB RRB
       go_wp2_with fail
       exact bodyPost_ret (v := .tuple #[.agg #[.int .i64 5, .string SN, .slice (some ⟨g6, 0, none⟩) 1 1, .slice (some ⟨gA, 0, none⟩) 1 1], .int .i64 nx3]) (results_cell_row2 Tryz.results18 _ _ (w.heap.size + 1) 25 _ (0, 0) _ rfl RF.out.heap Tryz.underlying25 rfl (by kernel_rfl)) rfl ⟨[.int .i64 5, .string SN, .slice (some ⟨g6, 0, none⟩) 1 1, .slice (some ⟨gA, 0, none⟩) 1 1], by rw [LQ.out], BF.out, by
        rw [LQ.out]
        exact ⟨_, _, by rw [HSN.out], HBN.out, DA.out, DB.out⟩⟩
     ·obtain ⟨l0, hl0, b2, o2, rfl, hb2, hc2⟩ := A2.out 0 (by omega)
      have hle : t.lives ≠ [] := fun e => by rw [e] at hl0; cases hl0
      have hlt : t.lives.take 1 = [l0] := by
       rcases hl : t.lives with _ | ⟨y, ys⟩
       ·exact absurd hl hle
       ·rw [hl, List.getElem?_cons_zero] at hl0; cases hl0; rfl
      have HX := hidP (show (if t.lives = [] then [nx] else (t.lives.take 1).map (numL lives)) = [numL lives l0] by rw [if_neg hle, hlt]; rfl)
      have HN := hidP (show (if t.lives = [] then nx + 1 else nx) = nx from if_neg hle)
      have c2 := (HBW.out.cell (p := ⟨b2, o2 + 0, none⟩) (Nat.lt_of_lt_of_le hb2 HC.out)).trans hc2
      rw [Nat.add_zero] at c2
      have NU := hidP (NUM.out w5 HBW.out l0)
      have l1 : (0 : Int) < (nl : Int) := by omega
      generalize numL lives l0 = x1 at *
      generalize str l0 = S0 at *
      clear hle hlt hl0 hc2 hb2 NUM A2 h0
      go_wp2_with fail
      refine NU.out.mono ?_
      rintro _ wz ⟨rfl, hwz⟩
      rw [hwz]
      clear hwz NU c2
      go_wp2_with (first | (refine bsliceU rfl 22 3 1 8 _ (.int .i64 x1) (.tmp 85) rfl Tryz.underlying22 Tryz.info3I (by decide) (by decide) rfl [.int .i64 x1] rfl rfl rfl ?_; intro w6 hR6 hB6 hz6; apply shut))
      show wpList _ _ _ _ _ _
      have R6 := hidP hR6
      have RO6 := hidP (RO5.out.below hB6 hlt5.out)
      have RI6 := hidP (RI.out.below hB6 RI.out.lt)
      have RR6 := hidP (RR.out.below hB6 RR.out.lt)
      have BW6 := hidP (HBW.out.trans (below_le hB6 HBW.out.size))
      have hg6 := hidP (Nat.le_refl w5.heap.size)
      clear hR6 RO5 RI RR HBW y0 y2 y3 hz6
      go_wp2_with (first | (refine stC rfl 22 (.tmp 87) (.tmp 86) rfl rfl rfl RO6.out (svN RO6.out rfl _ _ _) ?_; intro w7 R7 S7; apply shut))
      show wpList _ _ _ _ _ _
      simp only [List.set_cons_zero, List.set_cons_succ] at R7
      have RO7 := hidP R7
      have RI7 := hidP (S7.row RI6.out (by have := hg5b.out; omega))
      have RR7 := hidP (S7.row RR6.out (by have := hg5b.out; omega))
      have BW7 := hidP (BW6.out.trans (S7.below (C := w.heap.size) BW6.out.size (fun q hq => by have : q = g5 := hq; have := hg5b.out; omega)))
      clear R7
      have R7 := hidP (S7.row R6.out (by have := hlt5.out; omega))
      obtain ⟨g6, hge⟩ : ∃ y, y = w5.heap.size := ⟨_, rfl⟩
      rw [← hge] at R7 RO7
      have hg6 := hidP (show w5.heap.size <= g6 from Nat.le_of_eq hge.symm)
      try rw [← hge]
      clear S7 hB6 RO6 RI6 RR6 BW6 R6 hge
      have y3 := RI7.out.cell 3
      simp only [List.getElem?_cons_zero, List.getElem?_cons_succ] at y3
      by_cases hne0 : ne = 0
      ·subst hne0
       have LQ := hidP (LQZ.out (x1) (nx) HX.out HN.out (List.eq_nil_of_length_eq_zero HNE.out))
       have DN := hidP (arq_n1 R7.out hg6.out)
       have DE := hidP (show ArQ 4 72 (RtQ kq (Fr w5 w7) K.B w7) (Fr w5 w7) w7 (.slice none 0 0) ([] : List RTy) from nil_arQ)
       clear LQE LQZ IH A3 HF3 R7
       go_wp2_with (first | (refine ldR rfl 25 (.tmp 10) rfl rfl RO7.out Tryz.underlying25 rfl Tryz.sz25 ?_) | (refine stR rfl 25 (.tmp 8) (.tmp 112) rfl (cs := [.int .i64 5, .string SN, .slice (some ⟨g6, 0, none⟩) 1 1, .slice none 0 0]) rfl rfl RR7.out Tryz.sz25 rfl (ones_cons rfl (ones_cons rfl (ones_cons rfl (ones_cons rfl ones_nil)))) ?_; intro wF RF SF; apply shut))
       show wpList _ _ _ _ _ _
       have BF := hidP (BW7.out.trans (SF.below (C := w.heap.size) BW7.out.size (fun q hq => by have : q = w.heap.size + 1 := hq; omega)))
       have hlF : ∀ k, k = w.heap.size + 1 -> k < w5.heap.size := fun k e => by have := hg5.out; have := hz5.out; omega
       have KF := hidP (show Kp (Fr w5 w7) (Fr w wF) w7 wF from kp_stay SF (fun k e => hlF k e) (by have := hz5.out; omega))
       have DA := hidP (show ArQ 1 8 NmAt (Fr w wF) wF (.slice (some ⟨g6, 0, none⟩) 1 1) _ from DN.out.mono KF.out fun _ _ _ h => h)
       have DB := hidP (show ArQ 4 72 (RtQ kq (Fr w wF) K.B wF) (Fr w wF) wF (.slice none 0 0) _ from DE.out.mono KF.out fun _ _ _ h => RtQ.mono KF.out h)
       replace RF := hidP RF
       clear SF KF hlF RO7 RR7
       go_wp2_with fail
       exact bodyPost_ret (v := .tuple #[.agg #[.int .i64 5, .string SN, .slice (some ⟨g6, 0, none⟩) 1 1, .slice none 0 0], .int .i64 (nx)]) (results_cell_row2 Tryz.results18 _ _ (w.heap.size + 1) 25 _ (0, 0) _ rfl RF.out.heap Tryz.underlying25 rfl (by kernel_rfl)) rfl ⟨[.int .i64 5, .string SN, .slice (some ⟨g6, 0, none⟩) 1 1, .slice none 0 0], by rw [LQ.out], BF.out, by
        rw [LQ.out]
        exact ⟨_, _, by rw [HSN.out], HBN.out, DA.out, DB.out⟩⟩
      ·obtain ⟨e, he0, b1, o1, rfl, hb1, c1, hl1, hr1, hp1⟩ := A3.out 0 (by omega)
       obtain ⟨es, hes⟩ : ∃ es, t.elem = e :: es := by
        rcases hl : t.elem with _ | ⟨e', es⟩
        ·rw [hl] at he0; cases he0
        ·rw [hl, List.getElem?_cons_zero] at he0; cases he0; exact ⟨es, rfl⟩
       have LQ := hidP (LQE.out (x1) (nx) HX.out HN.out e es hes)
       have l0 : (0 : Int) < (ne : Int) := by omega
       rw [Nat.zero_mul, Nat.add_zero] at hr1
       have r1 := hidP (range_le hr1 BW7.out (Nat.lt_of_lt_of_le hb1 HC.out))
       have s1 := hidP (show (Tryz.prog.info? 36).map (·.size) = some c1.length by rw [hl1]; exact Tryz.sz36)
       have CALL := hidP (IH.out w7 BW7.out (nx) c1 e (hp1.below (below_le BW7.out HC.out)) (HF3.out e (by rw [hes]; rfl)) (by omega) (by omega))
       clear LQE LQZ IH A3 HF3 hp1 hr1 hb1 hl1 he0 hes hne0
       go_wp2_with (first | (refine wpList_load_mid rfl 36 (.tmp 101) rfl b1 o1 rfl c1 _ r1.out Tryz.underlying36 rfl s1.out ?_))
       refine CALL.out.mono ?_
       rintro _ w8 ⟨d, rfl, hb8, hq8⟩
       obtain ⟨d0, d1, d2, d3, rfl⟩ : ∃ e0 e1 e2 e3, d = [e0, e1, e2, e3] := by
        match d, hq8.len with
        | [e0, e1, e2, e3], _ => exact ⟨_, _, _, _, rfl⟩
       have R8 := hidP (R7.out.below hb8 R7.out.lt)
       have RO8 := hidP (RO7.out.below hb8 RO7.out.lt)
       have RR8 := hidP (RR7.out.below hb8 RR7.out.lt)
       have BW8 := hidP (BW7.out.trans (below_le hb8 BW7.out.size))
       have Q8 := hidP hq8
       have hz7 := hidP (show w5.heap.size <= w7.heap.size by have := R7.out.lt; have := hg6.out; omega)
       have RN := hidP (Row.new w8 25 [.int .i64 0, .string ⟨#[]⟩, .slice none 0 0, .slice none 0 0])
       have BN := hidP (alloc_one w8 (.cells #[.int .i64 0, .string ⟨#[]⟩, .slice none 0 0, .slice none 0 0] 25))
       generalize (liftN L lives kq e (nx)).2 = nx3 at *
       generalize (liftN L lives kq e (nx)).1 = te at *
       clear CALL R7 RO7 RR7 RI7 hb8 hq8 r1 s1 y3
       go_wp2_with (first | (refine stR rfl 25 (.tmp 15) (.tmp 106) rfl (cs := [d0, d1, d2, d3]) rfl rfl RN.out Tryz.sz25 rfl Q8.out.ones ?_; intro w9 R9 S9; apply shut))
       show wpList _ _ _ _ _ _
       have BX := hidP (BN.out.trans (S9.below (C := w8.heap.size) BN.out.size (fun q hq => Nat.le_of_eq hq.symm)))
       have RO9 := hidP (RO8.out.below BX.out RO8.out.lt)
       have RR9 := hidP (RR8.out.below BX.out RR8.out.lt)
       have RG9 := hidP (R8.out.below BX.out R8.out.lt)
       have BW9 := hidP (BW8.out.trans (below_le BX.out BW8.out.size))
       have Q9 := hidP (show RtQ kq (Fr w7 w9) K.B w9 [d0, d1, d2, d3] te from Q8.out.mono (kp_stay (X := fun _ => False) (Stay.of_below BX.out) (fun _ h => h.elim) (Nat.le_refl _)))
       have R9 := hidP R9
       clear RN BN S9 RO8 RR8 R8 BW8 Q8 BX
       go_wp2_with (first | (refine ldR rfl 25 (.tmp 15) rfl rfl R9.out Tryz.underlying25 rfl Tryz.sz25 ?_; refine bsliceU rfl 23 25 4 72 _ (.agg #[d0, d1, d2, d3]) (.tmp 108) rfl Tryz.underlying23 Tryz.info25S (by decide) (by decide) rfl [d0, d1, d2, d3] rfl rfl rfl ?_; intro wA hRA hBA hzA; apply shut))
       show wpList _ _ _ _ _ _
       have ROA := hidP (RO9.out.below hBA RO9.out.lt)
       have RRA := hidP (RR9.out.below hBA RR9.out.lt)
       have RGA := hidP (RG9.out.below hBA RG9.out.lt)
       have BWA := hidP (BW9.out.trans (below_le hBA BW9.out.size))
       have QA := hidP (show RtQ kq (Fr w7 wA) K.B wA [d0, d1, d2, d3] te from Q9.out.mono (kp_stay (X := fun _ => False) (Stay.of_below hBA) (fun _ h => h.elim) (Nat.le_refl _)))
       have RNA := hidP hRA
       have hgA := hidP (show w5.heap.size <= w9.heap.size by have := BW9.out.size; have := RG9.out.lt; have := hg6.out; omega)
       clear R9 RO9 RR9 RG9 BW9 Q9 hRA hBA hzA
       generalize w9.heap.size = gA at *
       go_wp2_with (first | (refine stC rfl 23 (.tmp 110) (.tmp 109) rfl rfl rfl ROA.out (sv23 ROA.out rfl _ _ _) ?_; intro wB RB SB; apply shut))
       show wpList _ _ _ _ _ _
       simp only [List.set_cons_zero, List.set_cons_succ] at RB
       have ROB := hidP RB
       have RRB := hidP (SB.row RRA.out (by have := hg5.out; have := hg5b.out; omega))
       have RGB := hidP (SB.row RGA.out (by have := hlt5.out; have := hg6.out; omega))
       have RNB := hidP (SB.row RNA.out (by have := hlt5.out; have := hgA.out; omega))
       have BWB := hidP (BWA.out.trans (SB.below (C := w.heap.size) BWA.out.size (fun q hq => by have : q = g5 := hq; have := hg5b.out; omega)))
       have QB := hidP (show RtQ kq (Fr w5 wB) K.B wB [d0, d1, d2, d3] te from QA.out.mono (kp_stay SB (fun k e => by have : k = g5 := e; have := hlt5.out; have := hz7.out; omega) hz7.out))
       have DN := hidP (arq_n1 RGB.out hg6.out)
       have DE := hidP (arq_rt RNB.out QB.out hgA.out)
       clear RB SB ROA RRA RGA RNA BWA QA RGB RNB QB
       go_wp2_with (first | (refine ldR rfl 25 (.tmp 10) rfl rfl ROB.out Tryz.underlying25 rfl Tryz.sz25 ?_) | (refine stR rfl 25 (.tmp 8) (.tmp 112) rfl (cs := [.int .i64 5, .string SN, .slice (some ⟨g6, 0, none⟩) 1 1, .slice (some ⟨gA, 0, none⟩) 1 1]) rfl rfl RRB.out Tryz.sz25 rfl (ones_cons rfl (ones_cons rfl (ones_cons rfl (ones_cons rfl ones_nil)))) ?_; intro wF RF SF; apply shut))
       show wpList _ _ _ _ _ _
       have BF := hidP (BWB.out.trans (SF.below (C := w.heap.size) BWB.out.size (fun q hq => by have : q = w.heap.size + 1 := hq; omega)))
       have hlF : ∀ k, k = w.heap.size + 1 -> k < w5.heap.size := fun k e => by have := hg5.out; have := hz5.out; omega
       have KF := hidP (show Kp (Fr w5 wB) (Fr w wF) wB wF from kp_stay SF (fun k e => hlF k e) (by have := hz5.out; omega))
       have DA := hidP (show ArQ 1 8 NmAt (Fr w wF) wF (.slice (some ⟨g6, 0, none⟩) 1 1) _ from DN.out.mono KF.out fun _ _ _ h => h)
       have DB := hidP (show ArQ 4 72 (RtQ kq (Fr w wF) K.B wF) (Fr w wF) wF (.slice (some ⟨gA, 0, none⟩) 1 1) _ from DE.out.mono KF.out fun _ _ _ h => RtQ.mono KF.out h)
       replace RF := hidP RF
       clear SF KF hlF ROB RRB
       go_wp2_with fail
       exact bodyPost_ret (v := .tuple #[.agg #[.int .i64 5, .string SN, .slice (some ⟨g6, 0, none⟩) 1 1, .slice (some ⟨gA, 0, none⟩) 1 1], .int .i64 nx3]) (results_cell_row2 Tryz.results18 _ _ (w.heap.size + 1) 25 _ (0, 0) _ rfl RF.out.heap Tryz.underlying25 rfl (by kernel_rfl)) rfl ⟨[.int .i64 5, .string SN, .slice (some ⟨g6, 0, none⟩) 1 1, .slice (some ⟨gA, 0, none⟩) 1 1], by rw [LQ.out], BF.out, by
        rw [LQ.out]
        exact ⟨_, _, by rw [HSN.out], HBN.out, DA.out, DB.out⟩⟩
   ·have HQ := hidP (show liftN L lives (kq + 1) t nx = (⟨t.kind, t.name, [], []⟩, nx) by
     rw [liftN, if_neg (by rw [HKD.out]; exact k3), if_neg (by rw [HKD.out]; exact k45)])
    rw [HKD.out] at HQ
    have e3 : (kd == 3) = false := by simpa using k3
    have e4 : (kd == 4) = false := by simp; omega
    have e5 : (kd == 5) = false := by simp; omega
    have DN := hidP (show ArQ 1 8 NmAt (Fr w5 w5) w5 (.slice none 0 0) ([] : List Int) from nil_arQ)
    have DE := hidP (show ArQ 4 72 (RtQ kq (Fr w5 w5) K.B w5) (Fr w5 w5) w5 (.slice none 0 0) ([] : List RTy) from nil_arQ)
    clear k3 k45 IH NUM XST A2 A3 HF3
    go_wp2_with (first | (refine ldR rfl 25 (.tmp 10) rfl rfl RO5.out Tryz.underlying25 rfl Tryz.sz25 ?_) | (refine stR rfl 25 (.tmp 8) (.tmp 112) rfl (cs := [.int .i64 kd, .string SN, .slice none 0 0, .slice none 0 0]) rfl rfl RR.out Tryz.sz25 rfl (ones_cons rfl (ones_cons rfl (ones_cons rfl (ones_cons rfl ones_nil)))) ?_; intro wF RF SF; apply shut))
    show wpList _ _ _ _ _ _
    have BF := hidP (HBW.out.trans (SF.below (C := w.heap.size) HBW.out.size (fun q hq => by have : q = w.heap.size + 1 := hq; omega)))
    have hlF : ∀ k, k = w.heap.size + 1 -> k < w5.heap.size := fun k e => by have := hg5.out; have := hz5.out; omega
    have KF := hidP (show Kp (Fr w5 w5) (Fr w wF) w5 wF from kp_stay SF (fun k e => hlF k e) (by have := hz5.out; omega))
    have DA := hidP (show ArQ 1 8 NmAt (Fr w wF) wF (.slice none 0 0) _ from DN.out.mono KF.out fun _ _ _ h => h)
    have DB := hidP (show ArQ 4 72 (RtQ kq (Fr w wF) K.B wF) (Fr w wF) wF (.slice none 0 0) _ from DE.out.mono KF.out fun _ _ _ h => RtQ.mono KF.out h)
    replace RF := hidP RF
    clear SF KF hlF RO5 RR
    go_wp2_with fail
    exact bodyPost_ret (v := .tuple #[.agg #[.int .i64 kd, .string SN, .slice none 0 0, .slice none 0 0], .int .i64 nx]) (results_cell_row2 Tryz.results18 _ _ (w.heap.size + 1) 25 _ (0, 0) _ rfl RF.out.heap Tryz.underlying25 rfl (by kernel_rfl)) rfl ⟨[.int .i64 kd, .string SN, .slice none 0 0, .slice none 0 0], by rw [HQ.out], BF.out, by
     rw [HQ.out]
     exact ⟨_, _, by rw [HSN.out], HBN.out, DA.out, DB.out⟩⟩
end Go.Proofs.YtldbbkheemnnhaaGreatDoor
