/-
  The document on whether a type is well.
-/
import Derived.Test.YtldbbkheemnnhaaGreatDoorJpXr23
namespace Go.Proofs.YtldbbkheemnnhaaGreatDoor
open Go.RowKit
theorem wit_all {L : List Sct} {l : List Bs} {a : Bs} : ∀ {d : Nat} {e : Ty}, okT L l d e -> flT d e -> (∀ z ∈ e.lives, z = a) -> ∀ z ∈ witL d e, z = a
 | 0, _, h, _, _ => h.elim
 | d + 1, e, h, hf, ha => by
  intro z hz
  simp only [witL, List.mem_append] at hz
  rcases hz with hz | hz
  ·exact ha z hz
  ·obtain ⟨_, hf | ⟨_, e', he, hf'⟩⟩ := hf
   ·simp [hf] at hz
   ·simp only [he] at hz
    rcases h with h | ⟨h, _⟩ | ⟨_, a', e2, h1, h2, _, h4, h5⟩
    ·rename_i hk; rcases h with h | h <;> rcases hk with hk | hk <;> omega
    ·rename_i hk; rcases hk with hk | hk <;> omega
    ·rw [he] at h2
     have e3 : e' = e2 := by injection h2
     subst e3
     have : a' = a := ha a' (by rw [h1]; simp)
     subst this
     exact wit_all h5 hf' h4 z hz
theorem below_drewN3 (C n : Nat) (w : World) : Below C w (w.drewN n) := ⟨rfl, rfl, rfl, Nat.le_refl _, fun _ _ => rfl⟩
abbrev zf : List Value := [.bool false, .string ⟨#[]⟩, .slice none 0 0, .slice none 0 0, .int .i64 0, .string ⟨#[]⟩, .slice none 0 0, .slice none 0 0, .slice none 0 0, .int .i64 0]
set_option maxHeartbeats 16000000 in
set_option maxRecDepth 20000 in
theorem xwell_yes {L : List Sct} {K : Ctx} {l : List Bs} : ∀ (d : Nat) {w : World} {n : Nat} {cs : List Value} {t : Ty}, d <= 70 -> TyAt n K w cs t -> K.C <= w.heap.size -> okT L l d t -> flT d t ->
  Calls Tryz.prog 147 #[.agg cs.toArray, .agg zf.toArray, .bool true] w fun ev w' => ev = .returned (.bool true) /\ Below w.heap.size w w'
 | 0, _, _, _, _, _, _, _, hok, _ => hok.elim
 | d + 1, w, n, cs, t, hd, ht, hC, hok, hf => by
  have IH := hidP (fun (y : World) (hy : Below w.heap.size w y) (n : Nat) (cs : List Value) (t : Ty) (ht : TyAt n K y cs t) (hk : okT L l d t) (hf : flT d t) => xwell_yes d (by omega) ht (Nat.le_trans hC hy.size) hk hf)
  have hsm := K.small
  obtain ⟨n, rfl⟩ : ∃ m, n = m + 1 := by
   cases n with
   | zero => exact ht.elim
   | succ m => exact ⟨m, rfl⟩
  obtain ⟨v2, v3, rfl, hB, h2, h3⟩ := ht
  obtain ⟨a2, p2, rfl⟩ := Ar.form h2
  obtain ⟨a3, p3, rfl⟩ := Ar.form h3
  have hcase : (t.kind ≠ 4 /\ t.kind ≠ 5) ∨ ((t.kind = 4 ∨ t.kind = 5) /\ ∃ a e, t.lives = [a] /\ t.elem = [e] /\ a ∈ l /\ (∀ z ∈ e.lives, z = a) /\ okT L l d e) := by
   rcases hok with h | ⟨h, _⟩ | h
   ·left; rcases h with h | h <;> rw [h] <;> decide
   ·left; rw [h]; decide
   ·exact .inr h
  rcases hcase with hk | ⟨hk, a, e, e1, e2, ha, he, hke⟩
  ·have q1 : (t.kind != 4) = true := by simpa using hk.1
   have q2 : (t.kind != 5) = true := by simpa using hk.2
   have HA := hidP (alloc_two w (.cells #[.int .i64 t.kind, .string (str t.name), .slice a2 t.lives.length p2, .slice a3 t.elem.length p3] 36) (.cells zf.toArray 114))
   have R0 : Row ((w.alloc (.cells #[.int .i64 t.kind, .string (str t.name), .slice a2 t.lives.length p2, .slice a3 t.elem.length p3] 36)).alloc (.cells zf.toArray 114)) w.heap.size 36 [.int .i64 t.kind, .string (str t.name), .slice a2 t.lives.length p2, .slice a3 t.elem.length p3] := (Row.new w 36 _).alloc _
   have y0 := R0.cell 0
   simp only [List.getElem?_cons_zero] at y0
   clear h2 h3 hok hf hk IH hB R0
   generalize t.kind = kd at *
   generalize str t.name = SN at *
   generalize t.lives.length = nl at *
   generalize t.elem.length = ne at *
   unfold zf at *
   go_enter Tryz.func147, Tryz.ntmps147
   go_wp2_with fail
   go_ret
   exact ⟨rfl, HA.out⟩
  ·have q1 : (t.kind != 4) = false ∨ (t.kind != 4) = true /\ (t.kind != 5) = false := by rcases hk with h | h <;> rw [h] <;> decide
   obtain ⟨_, hf | ⟨_, e', he', hfe⟩⟩ := hf
   ·rw [hf] at e2; cases e2
   have e3 : e' = e := by rw [e2] at he'; injection he' with h; exact h.symm
   subst e3
   have HWA := hidP (wit_all hke hfe he)
   rw [e1] at h2
   rw [e2] at h3
   obtain ⟨b2, o2, rfl, hbC2, c2, hc2, hrg2, htx⟩ := ar_one h2
   obtain ⟨b', o', rfl, hbC, ce, hcl, hrg, hte⟩ := ar_one h3
   obtain ⟨rfl, hBa⟩ := htx
   have z2 := hrg2 0 (.string (str a)) rfl
   rw [Nat.add_zero] at z2
   rw [e1, e2, show [a].length = 1 from rfl, show [e'].length = 1 from rfl]
   obtain ⟨c0, c1, c3, c4, rfl⟩ := list4 hcl
   obtain ⟨W0, hW0⟩ : ∃ W0, W0 = (w.alloc (.cells #[.int .i64 t.kind, .string (str t.name), .slice (some ⟨b2, o2, none⟩) 1 p2, .slice (some ⟨b', o', none⟩) 1 p3] 36)).alloc (.cells zf.toArray 114) := ⟨_, rfl⟩
   have HA : Hid (Below w.heap.size w W0) := by rw [hW0]; exact alloc_two w _ _
   have R0 : Hid (Row W0 w.heap.size 36 [.int .i64 t.kind, .string (str t.name), .slice (some ⟨b2, o2, none⟩) 1 p2, .slice (some ⟨b', o', none⟩) 1 p3]) := by rw [hW0]; exact (Row.new w 36 _).alloc _
   have R1 : Hid (Row W0 (w.heap.size + 1) 114 zf) := by
    have := Row.new (w.alloc (.cells #[.int .i64 t.kind, .string (str t.name), .slice (some ⟨b2, o2, none⟩) 1 p2, .slice (some ⟨b', o', none⟩) 1 p3] 36)) 114 zf
    rw [size_alloc] at this; rw [hW0]; exact this
   have hsz : Hid (W0.heap.size = w.heap.size + 2) := by rw [hW0]; exact size_two w _ _
   have WI := hidP (within_any d (by omega) (hte.below (below_le HA.out hC)) (Nat.le_trans hC HA.out.size) hfe)
   have HI := hidP (fun y (hy : Below w.heap.size w y) => IH.out y hy n _ e' (hte.below (below_le hy hC)) hke hfe)
   have hwl := witL_len hfe
   have Z2 := hidP (fun (y : World) (hy : Below w.heap.size w y) => (hy.cell (p := ⟨b2, o2, none⟩) (show b2 < w.heap.size by omega)).trans z2)
   have RG := hidP (fun (y : World) (hy : Below w.heap.size w y) => range_below hrg hy)
   have hone := hidP hte.one
   have HW0 := hidP hW0
   have hrg0 := RG.out W0 HA.out
   have hone4 : c0.oneCell' = true /\ c1.oneCell' = true := ⟨hone.out c0 (by simp), hone.out c1 (by simp)⟩
   have HRG0 := hidP hrg0
   clear h2 h3 hok hk IH hB hte hke hrg hcl he e1 e2 hbC hrg2 hbC2 hc2 z2 ha he' hfe hW0 hrg0 hone4
   generalize t.kind = kd at *
   generalize str t.name = SN at *
   have HSA : Hid (∀ z ∈ witL d e', str z = str a) := fun z hz => by rw [HWA.out z hz]
   generalize str a = SA at *
   clear HWA
   have y0 := R0.out.cell 0
   have y2 := R0.out.cell 2
   have y3 := R0.out.cell 3
   simp only [List.getElem?_cons_zero, List.getElem?_cons_succ] at y0 y2 y3
   unfold zf at *
   have KEY : Hid (∀ (w3 : World) v5, Below W0.heap.size W0 w3 -> (∃ L, Cel 1 (TxAt K) L (witL d e') /\ w3.ownsRow W0.heap.size 9 1 v5 (witL d e').length L.flatten) -> ∃ a5 p5, v5 = .slice a5 (witL d e').length p5 /\ ∀ i, i < (witL d e').length -> ∃ b o, a5 = some ⟨b, o, none⟩ /\ w3.cell? ⟨b, o + i, none⟩ = some (.string SA)) := by
    rintro w3 v5 hb ⟨L5, hc5, ho5⟩
    obtain ⟨a5, p5, rfl⟩ := own_slice ho5
    refine ⟨a5, p5, rfl, fun i hi => ?_⟩
    have hS : Strs ⟨w3.heap.size, K.B, hsm⟩ w3 (.slice a5 (witL d e').length p5) (witL d e') := ar_own (P := TxAt ⟨w3.heap.size, K.B, hsm⟩) (hc5.mono fun _ _ h => h) ho5 (Nat.le_refl _) (by omega)
    obtain ⟨b, o, e, _, hc, _⟩ := hS.cellAt hi
    refine ⟨b, o, e, ?_⟩
    rw [hc, HSA.out _ (by simp [List.getD, List.getElem?_eq_getElem hi])]
   rcases q1 with q1 | ⟨q1, q2⟩
   all_goals
    go_enter Tryz.func147, Tryz.ntmps147
    go_wp2_with (first | (refine wpList_load_mid rfl 36 (.tmp 29) rfl b' o' rfl [c0, c1, c3, c4] _ (by rw [← HW0.out]; exact HRG0.out) Tryz.underlying36 rfl Tryz.sz36 ?_; apply shut))
    show wpList _ _ _ _ _ _
    rw [← HW0.out]
    go_wp2_with fail
    refine WI.out.mono ?_
    rintro _ w3 ⟨v5, rfl, hb3, h5⟩
    obtain ⟨a5, p5, rfl, h5c⟩ := KEY.out w3 v5 hb3 h5
    have H5 := hidP h5c
    have hzz := hsz.out
    have R3 := hidP (R0.out.below hb3 R0.out.lt)
    have R4 := hidP (R1.out.below hb3 R1.out.lt)
    have HB3 := hidP (HA.out.trans (below_le hb3 HA.out.size))
    have x2 := R3.out.cell 2
    simp only [List.getElem?_cons_zero, List.getElem?_cons_succ] at x2
    have x5 := Z2.out w3 HB3.out
    have HH := hidP (HI.out)
    clear h5 h5c KEY hb3 R0 R1 WI y0 y2 y3 HW0 HA HRG0
    generalize (witL d e').length = nw at *
    go_wp2_with fail
    go_loopw [8] (fun i wr => ∃ (k : Nat), k <= nw /\ i = .int .i64 k /\ Below w3.heap.size w3 wr) (fun i _ => nw - (intOf i).toNat)
    case atStart => exact ⟨0, by omega, rfl, Below.refl _ _⟩
    case round =>
     obtain ⟨k, hk, rfl, hbq⟩ := hrel
     have HBQ := hidP hbq
     have r2 := hbq.cell (p := ⟨w.heap.size, 2, none⟩) (show w.heap.size < w3.heap.size from R3.out.lt)
     rw [x2] at r2
     have r5 := hbq.cell (p := ⟨b2, o2, none⟩) (show b2 < w3.heap.size from World.block_lt_of_cell? w3 _ x5)
     rw [x5] at r5
     clear hbq
     by_cases h3 : k < nw
     ·have l1 : (k : Int) < (nw : Int) := by omega
      obtain ⟨b9, o9, rfl, c9⟩ := H5.out k h3
      have c9' := (HBQ.out.cell (p := ⟨b9, o9 + k, none⟩) (show b9 < w3.heap.size from World.block_lt_of_cell? w3 _ c9)).trans c9
      clear c9 x2 x5
      have qe : (SA.toList != SA.toList) = false := by simp
      have qe2 : (SA.toList == SA.toList) = true := by simp
      go_wp2_with fail
      go_quiet (fail)
      go_wp2_with fail
      go_roundw
      case rel => exact ⟨k + 1, by omega, by go_num, HBQ.out.trans (below_drewN3 _ _ _)⟩
      case measure => simp [intOf]; omega
     ·obtain rfl : k = nw := by omega
      clear x2 x5 r2 r5
      have HDB := HB3.out.trans (below_le HBQ.out HB3.out.size)
      have HD := hidP (HDB.drew)
      have hS0 : Row wr.drew w.heap.size 36 [.int .i64 kd, .string SN, .slice (some ⟨b2, o2, none⟩) 1 p2, .slice (some ⟨b', o', none⟩) 1 p3] /\ Row wr.drew (w.heap.size + 1) 114 [.bool false, .string ⟨#[]⟩, .slice none 0 0, .slice none 0 0, .int .i64 0, .string ⟨#[]⟩, .slice none 0 0, .slice none 0 0, .slice none 0 0, .int .i64 0] /\ wr.drew.rangeAt b' o' [c0, c1, c3, c4] := ⟨(R3.out.below HBQ.out R3.out.lt).drew, (R4.out.below HBQ.out R4.out.lt).drew, RG.out _ HD.out⟩
      go_wp2_with fail
      refine beginL (fun y => Row y w.heap.size 36 [.int .i64 kd, .string SN, .slice (some ⟨b2, o2, none⟩) 1 p2, .slice (some ⟨b', o', none⟩) 1 p3] /\ Row y (w.heap.size + 1) 114 [.bool false, .string ⟨#[]⟩, .slice none 0 0, .slice none 0 0, .int .i64 0, .string ⟨#[]⟩, .slice none 0 0, .slice none 0 0, .slice none 0 0, .int .i64 0] /\ y.rangeAt b' o' [c0, c1, c3, c4]) 7 (by kernel_rfl) hS0 (fun hSS => ?_)
      refine takeL 0 (v := ?_) rfl (some 67) rfl (by decide) (by kernel_rfl) (by kernel_rfl) (by kernel_rfl) (by kernel_rfl) (fun _ _ _ h => h) (Or.inl ⟨by rfl, ?_⟩) hSS ?_
      rotate_left
      ·(intro y hy; have hk3 := hy.1.cell 3; have j0 := hy.2.1.cell 0; have j1 := hy.2.1.cell 1; have j2 := hy.2.1.cell 2; have j3 := hy.2.1.cell 3; have j4 := hy.2.1.cell 4; have j5 := hy.2.1.cell 5; have j6 := hy.2.1.cell 6; have j7 := hy.2.1.cell 7; have j8 := hy.2.1.cell 8; have j9 := hy.2.1.cell 9; have r0 := hy.2.2 0 c0 rfl; have r1 := hy.2.2 1 c1 rfl; have r2 := hy.2.2 2 c3 rfl; have r3 := hy.2.2 3 c4 rfl; simp only [List.getElem?_cons_zero, List.getElem?_cons_succ, Nat.add_zero] at hk3 j0 j1 j2 j3 j4 j5 j6 j7 j8 j9 r0 r1 r2 r3; go_simp; with_reducible rfl)
      try simp only [Act.put]
      try simp only [List.setIfInBounds_toArray]
      try simp only [List.set_cons_succ]
      try simp only [List.set_cons_zero]
      refine takeL 1 (v := ?_) rfl (some 68) rfl (by decide) (by kernel_rfl) (by kernel_rfl) (by kernel_rfl) (by kernel_rfl) (fun _ _ _ h => h) (Or.inl ⟨by rfl, ?_⟩) hSS ?_
      rotate_left
      ·(intro y hy; have hk3 := hy.1.cell 3; have j0 := hy.2.1.cell 0; have j1 := hy.2.1.cell 1; have j2 := hy.2.1.cell 2; have j3 := hy.2.1.cell 3; have j4 := hy.2.1.cell 4; have j5 := hy.2.1.cell 5; have j6 := hy.2.1.cell 6; have j7 := hy.2.1.cell 7; have j8 := hy.2.1.cell 8; have j9 := hy.2.1.cell 9; have r0 := hy.2.2 0 c0 rfl; have r1 := hy.2.2 1 c1 rfl; have r2 := hy.2.2 2 c3 rfl; have r3 := hy.2.2 3 c4 rfl; simp only [List.getElem?_cons_zero, List.getElem?_cons_succ, Nat.add_zero] at hk3 j0 j1 j2 j3 j4 j5 j6 j7 j8 j9 r0 r1 r2 r3; go_simp; with_reducible rfl)
      try simp only [Act.put]
      try simp only [List.setIfInBounds_toArray]
      try simp only [List.set_cons_succ]
      try simp only [List.set_cons_zero]
      refine takeL 2 (v := ?_) rfl (some 69) rfl (by decide) (by kernel_rfl) (by kernel_rfl) (by kernel_rfl) (by kernel_rfl) (fun _ _ _ h => h) (Or.inl ⟨by rfl, ?_⟩) hSS ?_
      rotate_left
      ·(intro y hy; have hk3 := hy.1.cell 3; have j0 := hy.2.1.cell 0; have j1 := hy.2.1.cell 1; have j2 := hy.2.1.cell 2; have j3 := hy.2.1.cell 3; have j4 := hy.2.1.cell 4; have j5 := hy.2.1.cell 5; have j6 := hy.2.1.cell 6; have j7 := hy.2.1.cell 7; have j8 := hy.2.1.cell 8; have j9 := hy.2.1.cell 9; have r0 := hy.2.2 0 c0 rfl; have r1 := hy.2.2 1 c1 rfl; have r2 := hy.2.2 2 c3 rfl; have r3 := hy.2.2 3 c4 rfl; simp only [List.getElem?_cons_zero, List.getElem?_cons_succ, Nat.add_zero] at hk3 j0 j1 j2 j3 j4 j5 j6 j7 j8 j9 r0 r1 r2 r3; go_simp; with_reducible rfl)
      try simp only [Act.put]
      try simp only [List.setIfInBounds_toArray]
      try simp only [List.set_cons_succ]
      try simp only [List.set_cons_zero]
      refine takeL 3 (v := ?_) rfl (some 70) rfl (by decide) (by kernel_rfl) (by kernel_rfl) (by kernel_rfl) (by kernel_rfl) (fun _ _ _ h => h) (Or.inl ⟨by rfl, ?_⟩) hSS ?_
      rotate_left
      ·(intro y hy; have hk3 := hy.1.cell 3; have j0 := hy.2.1.cell 0; have j1 := hy.2.1.cell 1; have j2 := hy.2.1.cell 2; have j3 := hy.2.1.cell 3; have j4 := hy.2.1.cell 4; have j5 := hy.2.1.cell 5; have j6 := hy.2.1.cell 6; have j7 := hy.2.1.cell 7; have j8 := hy.2.1.cell 8; have j9 := hy.2.1.cell 9; have r0 := hy.2.2 0 c0 rfl; have r1 := hy.2.2 1 c1 rfl; have r2 := hy.2.2 2 c3 rfl; have r3 := hy.2.2 3 c4 rfl; simp only [List.getElem?_cons_zero, List.getElem?_cons_succ, Nat.add_zero] at hk3 j0 j1 j2 j3 j4 j5 j6 j7 j8 j9 r0 r1 r2 r3; go_simp; with_reducible rfl)
      try simp only [Act.put]
      try simp only [List.setIfInBounds_toArray]
      try simp only [List.set_cons_succ]
      try simp only [List.set_cons_zero]
      refine takeL 4 (v := ?_) rfl (some 71) rfl (by decide) (by kernel_rfl) (by kernel_rfl) (by kernel_rfl) (by kernel_rfl) (fun _ _ _ h => h) (Or.inl ⟨by rfl, ?_⟩) hSS ?_
      rotate_left
      ·(intro y hy; have hk3 := hy.1.cell 3; have j0 := hy.2.1.cell 0; have j1 := hy.2.1.cell 1; have j2 := hy.2.1.cell 2; have j3 := hy.2.1.cell 3; have j4 := hy.2.1.cell 4; have j5 := hy.2.1.cell 5; have j6 := hy.2.1.cell 6; have j7 := hy.2.1.cell 7; have j8 := hy.2.1.cell 8; have j9 := hy.2.1.cell 9; have r0 := hy.2.2 0 c0 rfl; have r1 := hy.2.2 1 c1 rfl; have r2 := hy.2.2 2 c3 rfl; have r3 := hy.2.2 3 c4 rfl; simp only [List.getElem?_cons_zero, List.getElem?_cons_succ, Nat.add_zero] at hk3 j0 j1 j2 j3 j4 j5 j6 j7 j8 j9 r0 r1 r2 r3; go_simp; with_reducible rfl)
      try simp only [Act.put]
      try simp only [List.setIfInBounds_toArray]
      try simp only [List.set_cons_succ]
      try simp only [List.set_cons_zero]
      refine takeL 5 (v := ?_) rfl (some 72) rfl (by decide) (by kernel_rfl) (by kernel_rfl) (by kernel_rfl) (by kernel_rfl) (fun _ _ _ h => h) (Or.inl ⟨by rfl, ?_⟩) hSS ?_
      rotate_left
      ·(intro y hy; have hk3 := hy.1.cell 3; have j0 := hy.2.1.cell 0; have j1 := hy.2.1.cell 1; have j2 := hy.2.1.cell 2; have j3 := hy.2.1.cell 3; have j4 := hy.2.1.cell 4; have j5 := hy.2.1.cell 5; have j6 := hy.2.1.cell 6; have j7 := hy.2.1.cell 7; have j8 := hy.2.1.cell 8; have j9 := hy.2.1.cell 9; have r0 := hy.2.2 0 c0 rfl; have r1 := hy.2.2 1 c1 rfl; have r2 := hy.2.2 2 c3 rfl; have r3 := hy.2.2 3 c4 rfl; simp only [List.getElem?_cons_zero, List.getElem?_cons_succ, Nat.add_zero] at hk3 j0 j1 j2 j3 j4 j5 j6 j7 j8 j9 r0 r1 r2 r3; go_simp; with_reducible rfl)
      try simp only [Act.put]
      try simp only [List.setIfInBounds_toArray]
      try simp only [List.set_cons_succ]
      try simp only [List.set_cons_zero]
      refine readyL (rs := [6]) (by kernel_rfl) (by simp) ?_
      refine ReadyL.cons rfl (fun KK hK => ?_) ReadyL.nil
      refine wantR (by rfl) ?_
      go_simp
      refine (HH.out _ HD.out).mono ?_
      rintro _ w6 ⟨rfl, hb6⟩
      have HB6 := hidP (HD.out.trans (below_le hb6 HD.out.size))
      have hSS2 : Row w6 w.heap.size 36 [.int .i64 kd, .string SN, .slice (some ⟨b2, o2, none⟩) 1 p2, .slice (some ⟨b', o', none⟩) 1 p3] /\ Row w6 (w.heap.size + 1) 114 [.bool false, .string ⟨#[]⟩, .slice none 0 0, .slice none 0 0, .int .i64 0, .string ⟨#[]⟩, .slice none 0 0, .slice none 0 0, .slice none 0 0, .int .i64 0] /\ w6.rangeAt b' o' [c0, c1, c3, c4] := ⟨hSS.1.below hb6 hSS.1.lt, hSS.2.1.below hb6 hSS.2.1.lt, RG.out _ HB6.out⟩
      refine hK.out _ _ (fun _ => hSS2) (fun _ => ?_)
      clear hK KK hSS
      have hSS := hSS2
      clear hSS2
      try simp only [Act.put]
      try simp only [List.setIfInBounds_toArray]
      try simp only [List.set_cons_succ]
      try simp only [List.set_cons_zero]
      refine readyL (rs := [7]) (by kernel_rfl) (by simp) ?_
      refine ReadyL.cons rfl (fun KK hK => ?_) ReadyL.nil
      refine wantR (by rfl) ?_
      have hk3 := hSS.1.cell 3; have j0 := hSS.2.1.cell 0; have j1 := hSS.2.1.cell 1; have j2 := hSS.2.1.cell 2; have j3 := hSS.2.1.cell 3; have j4 := hSS.2.1.cell 4; have j5 := hSS.2.1.cell 5; have j6 := hSS.2.1.cell 6; have j7 := hSS.2.1.cell 7; have j8 := hSS.2.1.cell 8; have j9 := hSS.2.1.cell 9; have r0 := hSS.2.2 0 c0 rfl; have r1 := hSS.2.2 1 c1 rfl; have r2 := hSS.2.2 2 c3 rfl; have r3 := hSS.2.2 3 c4 rfl; simp only [List.getElem?_cons_zero, List.getElem?_cons_succ, Nat.add_zero] at hk3 j0 j1 j2 j3 j4 j5 j6 j7 j8 j9 r0 r1 r2 r3; go_simp
      refine hK.out _ _ (fun _ => hSS) (fun _ => ?_)
      clear hK KK
      try simp only [Act.put]
      try simp only [List.setIfInBounds_toArray]
      try simp only [List.set_cons_succ]
      try simp only [List.set_cons_zero]
      refine doneL (by kernel_rfl) ?_ _
      go_wp2_with fail
      go_ret
      exact ⟨rfl, HB6.out⟩
end Go.Proofs.YtldbbkheemnnhaaGreatDoor
