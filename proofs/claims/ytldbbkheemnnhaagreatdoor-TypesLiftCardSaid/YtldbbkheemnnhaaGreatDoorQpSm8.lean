/-
  The document: two types that are one are the same.
-/
import Derived.Test.YtldbbkheemnnhaaGreatDoorJpRg83
namespace Go.Proofs.YtldbbkheemnnhaaGreatDoor
open Go.RowKit
theorem RtAt.one {K : Ctx} {w : World} : ∀ {n : Nat} {cs : List Value} {t : RTy}, RtAt n K w cs t -> ∃ c0 c1 c2 c3, cs = [c0, c1, c2, c3]
  | 0, _, _, h => h.elim
  | n + 1, _, _, h => by obtain ⟨v2, v3, rfl, _⟩ := h; exact ⟨_, _, _, _, rfl⟩
set_option maxHeartbeats 16000000 in
set_option maxRecDepth 20000 in
theorem xsame28 {K : Ctx} : ∀ (n : Nat) {m : Nat} {w : World} {cs ds : List Value} {t : RTy}, RtAt n K w cs t -> RtAt m K w ds t -> K.C <= w.heap.size ->
    Calls Tryz.prog 28 #[.agg cs.toArray, .agg ds.toArray] w fun ev w' => ev = .returned (.bool true) /\ Below w.heap.size w w'
  | 0, _, _, _, _, _, h, _, _ => h.elim
  | n + 1, m, w, cs, ds, t, ht, hu, hC => by
    have IH := hidP (fun (y : World) (hy : Below w.heap.size w y) (cs ds : List Value) (t : RTy) (m : Nat) (ht : RtAt n K y cs t) (hu : RtAt m K y ds t) => xsame28 n ht hu (Nat.le_trans hC hy.size))
    obtain ⟨m, rfl⟩ : ∃ j, m = j + 1 := by
      cases m with
      | zero => exact hu.elim
      | succ j => exact ⟨j, rfl⟩
    obtain ⟨v2, v3, rfl, _, h2, h3⟩ := ht
    obtain ⟨u2, u3, rfl, _, k2, k3⟩ := hu
    obtain ⟨a2, p2, rfl⟩ := Ar.form h2
    obtain ⟨f2, g2, rfl⟩ := Ar.form k2
    obtain ⟨a3, p3, rfl, q1, z1, A1⟩ := h3.shape
    obtain ⟨f3, g3, rfl, q2, z2, A2⟩ := k3.shape
    have A1 := hidP A1
    have A2 := hidP A2
    have HC := hidP hC
    have hW0 : ((w.alloc (.cells #[.int .i64 t.kind, .string (str t.name), .slice a2 t.regs.length p2, .slice a3 t.elem.length p3] 25)).alloc (.cells #[.int .i64 t.kind, .string (str t.name), .slice f2 t.regs.length g2, .slice f3 t.elem.length g3] 25)) = _ := rfl
    have HA := hidP (alloc_two w (.cells #[.int .i64 t.kind, .string (str t.name), .slice a2 t.regs.length p2, .slice a3 t.elem.length p3] 25) (.cells #[.int .i64 t.kind, .string (str t.name), .slice f2 t.regs.length g2, .slice f3 t.elem.length g3] 25))
    have R0 := hidP ((Row.new w 25 [.int .i64 t.kind, .string (str t.name), .slice a2 t.regs.length p2, .slice a3 t.elem.length p3]).alloc (.cells #[.int .i64 t.kind, .string (str t.name), .slice f2 t.regs.length g2, .slice f3 t.elem.length g3] 25))
    have R1 := hidP (Row.new (w.alloc (.cells #[.int .i64 t.kind, .string (str t.name), .slice a2 t.regs.length p2, .slice a3 t.elem.length p3] 25)) 25 [.int .i64 t.kind, .string (str t.name), .slice f2 t.regs.length g2, .slice f3 t.elem.length g3])
    clear hW0 h2 h3 k2 k3 hC
    have hlen : t.elem.length <= 140737488355328 := by omega
    generalize hnl : t.elem.length = nl at q1 q2 hlen HA R0 R1 ⊢
    have HNL := hidP hnl
    clear hnl z1 z2
    generalize str t.name = SN at *
    generalize t.kind = kd at *
    generalize t.regs.length = rl at *
    have y0 := R0.out.cell 0
    have y1 := R0.out.cell 1
    have y2 := R0.out.cell 2
    have y3 := R0.out.cell 3
    have x0 := R1.out.cell 0
    have x1 := R1.out.cell 1
    have x2 := R1.out.cell 2
    have x3 := R1.out.cell 3
    rw [size_alloc] at x0 x1 x2 x3
    simp only [List.getElem?_cons_zero, List.getElem?_cons_succ] at y0 y1 y2 y3 x0 x1 x2 x3
    go_enter Tryz.func28, Tryz.ntmps28
    go_wp2_with fail
    clear y0 y1 y2 y3 x0 x1 x2 x3
    rw [size_alloc] at R1
    go_loopg [5] nl (fun k v5 wr => ∃ i : Nat, i + k = nl /\ v5 = .int .i64 (i : Int) /\ Below w.heap.size w wr /\ Row wr w.heap.size 25 [.int .i64 kd, .string SN, .slice a2 rl p2, .slice a3 nl p3] /\ Row wr (w.heap.size + 1) 25 [.int .i64 kd, .string SN, .slice f2 rl g2, .slice f3 nl g3])
    case atStart => exact ⟨0, by omega, rfl, HA.out, R0.out, R1.out⟩
    case round =>
      obtain ⟨i, hi, rfl, hb, hr0, hr1⟩ := hrel
      have HB := hidP hb
      have y3 := hr0.cell 3
      have x3 := hr1.cell 3
      simp only [List.getElem?_cons_zero, List.getElem?_cons_succ] at y3 x3
      clear R0 R1 HA hb
      by_cases hlt : i < nl
      . obtain ⟨b1, o1, rfl, hb1, c1, hl1, hc1, hp1⟩ := A1.out i (by have := HNL.out; omega)
        obtain ⟨b2, o2, rfl, hb2, c2, hl2, hc2, hp2⟩ := A2.out i (by have := HNL.out; omega)
        obtain ⟨ca, cb, cc, cd, rfl⟩ := hp1.one
        obtain ⟨da, db, dc, dd, rfl⟩ := hp2.one
        have RG := hidP (fun (y : World) (hy : Below w.heap.size w y) => show y.rangeAt b1 (o1 + i * 4) [ca, cb, cc, cd] /\ y.rangeAt b2 (o2 + i * 4) [da, db, dc, dd] from
          ⟨fun j u hj => (hy.cell (p := ⟨b1, o1 + i * 4 + j, none⟩) (by have := HC.out; show b1 < _; omega)).trans ((hc1 j (by rcases Nat.lt_or_ge j 4 with h | h; exact h; rw [List.getElem?_eq_none (by simpa using h)] at hj; cases hj)).trans hj),
           fun j u hj => (hy.cell (p := ⟨b2, o2 + i * 4 + j, none⟩) (by have := HC.out; show b2 < _; omega)).trans ((hc2 j (by rcases Nat.lt_or_ge j 4 with h | h; exact h; rw [List.getElem?_eq_none (by simpa using h)] at hj; cases hj)).trans hj)⟩)
        have HH := hidP (fun (y : World) (hy : Below w.heap.size w y) => IH.out y hy _ _ _ m (hp1.below (below_le hy HC.out)) (hp2.below (below_le hy HC.out)))
        clear hl1 hl2 hc1 hc2 hp1 hp2
        have HD := hidP (HB.out.drew)
        have hS0 : Row wr.drew w.heap.size 25 [.int .i64 kd, .string SN, .slice a2 rl p2, .slice (some ⟨b1, o1, none⟩) nl p3] /\ Row wr.drew (w.heap.size + 1) 25 [.int .i64 kd, .string SN, .slice f2 rl g2, .slice (some ⟨b2, o2, none⟩) nl g3] /\ wr.drew.rangeAt b1 (o1 + i * 4) [ca, cb, cc, cd] /\ wr.drew.rangeAt b2 (o2 + i * 4) [da, db, dc, dd] := ⟨hr0.drew, hr1.drew, RG.out _ HD.out⟩
        have l1 : (i : Int) < (nl : Int) := by omega
        clear hr0 hr1
        go_wp2_with fail
        refine beginL (fun y => Row y w.heap.size 25 [.int .i64 kd, .string SN, .slice a2 rl p2, .slice (some ⟨b1, o1, none⟩) nl p3] /\ Row y (w.heap.size + 1) 25 [.int .i64 kd, .string SN, .slice f2 rl g2, .slice (some ⟨b2, o2, none⟩) nl g3] /\ y.rangeAt b1 (o1 + i * 4) [ca, cb, cc, cd] /\ y.rangeAt b2 (o2 + i * 4) [da, db, dc, dd]) 12 (by kernel_rfl) hS0 (fun hSS => ?_)
        refine takeL 0 (v := ?_) rfl (some 43) rfl (by decide) (by kernel_rfl) (by kernel_rfl) (by kernel_rfl) (by kernel_rfl) (fun _ _ _ h => h) (Or.inl ⟨by rfl, ?_⟩) hSS ?_
        rotate_left
        . (intro y hy; have j3 := hy.1.cell 3; have k3 := hy.2.1.cell 3; have r0 := hy.2.2.1 0 _ rfl; have s0 := hy.2.2.2 0 _ rfl; have r1 := hy.2.2.1 1 _ rfl; have s1 := hy.2.2.2 1 _ rfl; have r2 := hy.2.2.1 2 _ rfl; have s2 := hy.2.2.2 2 _ rfl; have r3 := hy.2.2.1 3 _ rfl; have s3 := hy.2.2.2 3 _ rfl; simp only [List.getElem?_cons_zero, List.getElem?_cons_succ, Nat.add_zero] at j3 k3 r0 r1 r2 r3 s0 s1 s2 s3; go_simp; with_reducible rfl)
        try simp only [Act.put]
        try simp only [List.setIfInBounds_toArray]
        try simp only [List.set_cons_succ]
        try simp only [List.set_cons_zero]
        refine takeL 1 (v := ?_) rfl (some 44) rfl (by decide) (by kernel_rfl) (by kernel_rfl) (by kernel_rfl) (by kernel_rfl) (fun _ _ _ h => h) (Or.inl ⟨by rfl, ?_⟩) hSS ?_
        rotate_left
        . (intro y hy; have j3 := hy.1.cell 3; have k3 := hy.2.1.cell 3; have r0 := hy.2.2.1 0 _ rfl; have s0 := hy.2.2.2 0 _ rfl; have r1 := hy.2.2.1 1 _ rfl; have s1 := hy.2.2.2 1 _ rfl; have r2 := hy.2.2.1 2 _ rfl; have s2 := hy.2.2.2 2 _ rfl; have r3 := hy.2.2.1 3 _ rfl; have s3 := hy.2.2.2 3 _ rfl; simp only [List.getElem?_cons_zero, List.getElem?_cons_succ, Nat.add_zero] at j3 k3 r0 r1 r2 r3 s0 s1 s2 s3; go_simp; with_reducible rfl)
        try simp only [Act.put]
        try simp only [List.setIfInBounds_toArray]
        try simp only [List.set_cons_succ]
        try simp only [List.set_cons_zero]
        refine takeL 2 (v := ?_) rfl (some 45) rfl (by decide) (by kernel_rfl) (by kernel_rfl) (by kernel_rfl) (by kernel_rfl) (fun _ _ _ h => h) (Or.inl ⟨by rfl, ?_⟩) hSS ?_
        rotate_left
        . (intro y hy; have j3 := hy.1.cell 3; have k3 := hy.2.1.cell 3; have r0 := hy.2.2.1 0 _ rfl; have s0 := hy.2.2.2 0 _ rfl; have r1 := hy.2.2.1 1 _ rfl; have s1 := hy.2.2.2 1 _ rfl; have r2 := hy.2.2.1 2 _ rfl; have s2 := hy.2.2.2 2 _ rfl; have r3 := hy.2.2.1 3 _ rfl; have s3 := hy.2.2.2 3 _ rfl; simp only [List.getElem?_cons_zero, List.getElem?_cons_succ, Nat.add_zero] at j3 k3 r0 r1 r2 r3 s0 s1 s2 s3; go_simp; with_reducible rfl)
        try simp only [Act.put]
        try simp only [List.setIfInBounds_toArray]
        try simp only [List.set_cons_succ]
        try simp only [List.set_cons_zero]
        refine takeL 3 (v := ?_) rfl (some 46) rfl (by decide) (by kernel_rfl) (by kernel_rfl) (by kernel_rfl) (by kernel_rfl) (fun _ _ _ h => h) (Or.inl ⟨by rfl, ?_⟩) hSS ?_
        rotate_left
        . (intro y hy; have j3 := hy.1.cell 3; have k3 := hy.2.1.cell 3; have r0 := hy.2.2.1 0 _ rfl; have s0 := hy.2.2.2 0 _ rfl; have r1 := hy.2.2.1 1 _ rfl; have s1 := hy.2.2.2 1 _ rfl; have r2 := hy.2.2.1 2 _ rfl; have s2 := hy.2.2.2 2 _ rfl; have r3 := hy.2.2.1 3 _ rfl; have s3 := hy.2.2.2 3 _ rfl; simp only [List.getElem?_cons_zero, List.getElem?_cons_succ, Nat.add_zero] at j3 k3 r0 r1 r2 r3 s0 s1 s2 s3; go_simp; with_reducible rfl)
        try simp only [Act.put]
        try simp only [List.setIfInBounds_toArray]
        try simp only [List.set_cons_succ]
        try simp only [List.set_cons_zero]
        refine takeL 4 (v := ?_) rfl (some 47) rfl (by decide) (by kernel_rfl) (by kernel_rfl) (by kernel_rfl) (by kernel_rfl) (fun _ _ _ h => h) (Or.inl ⟨by rfl, ?_⟩) hSS ?_
        rotate_left
        . (intro y hy; have j3 := hy.1.cell 3; have k3 := hy.2.1.cell 3; have r0 := hy.2.2.1 0 _ rfl; have s0 := hy.2.2.2 0 _ rfl; have r1 := hy.2.2.1 1 _ rfl; have s1 := hy.2.2.2 1 _ rfl; have r2 := hy.2.2.1 2 _ rfl; have s2 := hy.2.2.2 2 _ rfl; have r3 := hy.2.2.1 3 _ rfl; have s3 := hy.2.2.2 3 _ rfl; simp only [List.getElem?_cons_zero, List.getElem?_cons_succ, Nat.add_zero] at j3 k3 r0 r1 r2 r3 s0 s1 s2 s3; go_simp; with_reducible rfl)
        try simp only [Act.put]
        try simp only [List.setIfInBounds_toArray]
        try simp only [List.set_cons_succ]
        try simp only [List.set_cons_zero]
        refine takeL 5 (v := ?_) rfl (some 48) rfl (by decide) (by kernel_rfl) (by kernel_rfl) (by kernel_rfl) (by kernel_rfl) (fun _ _ _ h => h) (Or.inl ⟨by rfl, ?_⟩) hSS ?_
        rotate_left
        . (intro y hy; have j3 := hy.1.cell 3; have k3 := hy.2.1.cell 3; have r0 := hy.2.2.1 0 _ rfl; have s0 := hy.2.2.2 0 _ rfl; have r1 := hy.2.2.1 1 _ rfl; have s1 := hy.2.2.2 1 _ rfl; have r2 := hy.2.2.1 2 _ rfl; have s2 := hy.2.2.2 2 _ rfl; have r3 := hy.2.2.1 3 _ rfl; have s3 := hy.2.2.2 3 _ rfl; simp only [List.getElem?_cons_zero, List.getElem?_cons_succ, Nat.add_zero] at j3 k3 r0 r1 r2 r3 s0 s1 s2 s3; go_simp; with_reducible rfl)
        try simp only [Act.put]
        try simp only [List.setIfInBounds_toArray]
        try simp only [List.set_cons_succ]
        try simp only [List.set_cons_zero]
        refine takeL 6 (v := ?_) rfl (some 49) rfl (by decide) (by kernel_rfl) (by kernel_rfl) (by kernel_rfl) (by kernel_rfl) (fun _ _ _ h => h) (Or.inl ⟨by rfl, ?_⟩) hSS ?_
        rotate_left
        . (intro y hy; have j3 := hy.1.cell 3; have k3 := hy.2.1.cell 3; have r0 := hy.2.2.1 0 _ rfl; have s0 := hy.2.2.2 0 _ rfl; have r1 := hy.2.2.1 1 _ rfl; have s1 := hy.2.2.2 1 _ rfl; have r2 := hy.2.2.1 2 _ rfl; have s2 := hy.2.2.2 2 _ rfl; have r3 := hy.2.2.1 3 _ rfl; have s3 := hy.2.2.2 3 _ rfl; simp only [List.getElem?_cons_zero, List.getElem?_cons_succ, Nat.add_zero] at j3 k3 r0 r1 r2 r3 s0 s1 s2 s3; go_simp; with_reducible rfl)
        try simp only [Act.put]
        try simp only [List.setIfInBounds_toArray]
        try simp only [List.set_cons_succ]
        try simp only [List.set_cons_zero]
        refine takeL 7 (v := ?_) rfl (some 50) rfl (by decide) (by kernel_rfl) (by kernel_rfl) (by kernel_rfl) (by kernel_rfl) (fun _ _ _ h => h) (Or.inl ⟨by rfl, ?_⟩) hSS ?_
        rotate_left
        . (intro y hy; have j3 := hy.1.cell 3; have k3 := hy.2.1.cell 3; have r0 := hy.2.2.1 0 _ rfl; have s0 := hy.2.2.2 0 _ rfl; have r1 := hy.2.2.1 1 _ rfl; have s1 := hy.2.2.2 1 _ rfl; have r2 := hy.2.2.1 2 _ rfl; have s2 := hy.2.2.2 2 _ rfl; have r3 := hy.2.2.1 3 _ rfl; have s3 := hy.2.2.2 3 _ rfl; simp only [List.getElem?_cons_zero, List.getElem?_cons_succ, Nat.add_zero] at j3 k3 r0 r1 r2 r3 s0 s1 s2 s3; go_simp; with_reducible rfl)
        try simp only [Act.put]
        try simp only [List.setIfInBounds_toArray]
        try simp only [List.set_cons_succ]
        try simp only [List.set_cons_zero]
        refine takeL 8 (v := ?_) rfl (some 51) rfl (by decide) (by kernel_rfl) (by kernel_rfl) (by kernel_rfl) (by kernel_rfl) (fun _ _ _ h => h) (Or.inl ⟨by rfl, ?_⟩) hSS ?_
        rotate_left
        . (intro y hy; have j3 := hy.1.cell 3; have k3 := hy.2.1.cell 3; have r0 := hy.2.2.1 0 _ rfl; have s0 := hy.2.2.2 0 _ rfl; have r1 := hy.2.2.1 1 _ rfl; have s1 := hy.2.2.2 1 _ rfl; have r2 := hy.2.2.1 2 _ rfl; have s2 := hy.2.2.2 2 _ rfl; have r3 := hy.2.2.1 3 _ rfl; have s3 := hy.2.2.2 3 _ rfl; simp only [List.getElem?_cons_zero, List.getElem?_cons_succ, Nat.add_zero] at j3 k3 r0 r1 r2 r3 s0 s1 s2 s3; go_simp; with_reducible rfl)
        try simp only [Act.put]
        try simp only [List.setIfInBounds_toArray]
        try simp only [List.set_cons_succ]
        try simp only [List.set_cons_zero]
        refine takeL 9 (v := ?_) rfl (some 52) rfl (by decide) (by kernel_rfl) (by kernel_rfl) (by kernel_rfl) (by kernel_rfl) (fun _ _ _ h => h) (Or.inl ⟨by rfl, ?_⟩) hSS ?_
        rotate_left
        . (intro y hy; have j3 := hy.1.cell 3; have k3 := hy.2.1.cell 3; have r0 := hy.2.2.1 0 _ rfl; have s0 := hy.2.2.2 0 _ rfl; have r1 := hy.2.2.1 1 _ rfl; have s1 := hy.2.2.2 1 _ rfl; have r2 := hy.2.2.1 2 _ rfl; have s2 := hy.2.2.2 2 _ rfl; have r3 := hy.2.2.1 3 _ rfl; have s3 := hy.2.2.2 3 _ rfl; simp only [List.getElem?_cons_zero, List.getElem?_cons_succ, Nat.add_zero] at j3 k3 r0 r1 r2 r3 s0 s1 s2 s3; go_simp; with_reducible rfl)
        try simp only [Act.put]
        try simp only [List.setIfInBounds_toArray]
        try simp only [List.set_cons_succ]
        try simp only [List.set_cons_zero]
        refine readyL (rs := [10]) (by kernel_rfl) (by simp) ?_
        refine ReadyL.cons rfl (fun KK hK => ?_) ReadyL.nil
        refine wantR (by rfl) ?_
        go_simp
        refine (HH.out _ HD.out).mono ?_
        rintro _ w6 ⟨rfl, hb6⟩
        have HB6 := hidP (HD.out.trans (below_le hb6 HD.out.size))
        have hSS2 : Row w6 w.heap.size 25 [.int .i64 kd, .string SN, .slice a2 rl p2, .slice (some ⟨b1, o1, none⟩) nl p3] /\ Row w6 (w.heap.size + 1) 25 [.int .i64 kd, .string SN, .slice f2 rl g2, .slice (some ⟨b2, o2, none⟩) nl g3] /\ w6.rangeAt b1 (o1 + i * 4) [ca, cb, cc, cd] /\ w6.rangeAt b2 (o2 + i * 4) [da, db, dc, dd] := ⟨hSS.1.below hb6 hSS.1.lt, hSS.2.1.below hb6 hSS.2.1.lt, RG.out _ HB6.out⟩
        refine hK.out _ _ (fun _ => hSS2) (fun _ => ?_)
        clear hK KK hSS
        have hSS := hSS2
        clear hSS2
        try simp only [Act.put]
        try simp only [List.setIfInBounds_toArray]
        try simp only [List.set_cons_succ]
        try simp only [List.set_cons_zero]
        refine takeL 11 (v := ?_) rfl (some 54) rfl (by decide) (by kernel_rfl) (by kernel_rfl) (by kernel_rfl) (by kernel_rfl) (fun _ _ _ h => h) (Or.inl ⟨by rfl, ?_⟩) hSS ?_
        rotate_left
        . (intro y hy; have j3 := hy.1.cell 3; have k3 := hy.2.1.cell 3; have r0 := hy.2.2.1 0 _ rfl; have s0 := hy.2.2.2 0 _ rfl; have r1 := hy.2.2.1 1 _ rfl; have s1 := hy.2.2.2 1 _ rfl; have r2 := hy.2.2.1 2 _ rfl; have s2 := hy.2.2.2 2 _ rfl; have r3 := hy.2.2.1 3 _ rfl; have s3 := hy.2.2.2 3 _ rfl; simp only [List.getElem?_cons_zero, List.getElem?_cons_succ, Nat.add_zero] at j3 k3 r0 r1 r2 r3 s0 s1 s2 s3; go_simp; with_reducible rfl)
        try simp only [Act.put]
        try simp only [List.setIfInBounds_toArray]
        try simp only [List.set_cons_succ]
        try simp only [List.set_cons_zero]
        refine doneL (by kernel_rfl) ?_ _
        go_wp2_with fail
        go_roundg (gk - 1)
        case measure => omega
        case rel => exact ⟨i + 1, by omega, by go_num, HB6.out, hSS.1, hSS.2.1⟩
      . have e : i = nl := by omega
        subst e
        clear hlt hr0 hr1
        go_wp2_with fail
        go_ret
        exact ⟨rfl, HB.out⟩
end Go.Proofs.YtldbbkheemnnhaaGreatDoor
