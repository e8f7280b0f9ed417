/-
  The law of paths.
-/
import Derived.Test.YtldbbkheemnnhaaGreatDoorJpWrd2
import Derived.Test.YtldbbkheemnnhaaGreatDoorQpDp8
namespace Go.Proofs.YtldbbkheemnnhaaGreatDoor
open Go.RowKit Go.Maps
def ErrV (v : Value) (code : Int) : Prop := (code = 0 /\ v = .nilIface) ∨ (code ≠ 0 /\ ∃ g, v = .iface 141 (.pointer (some ⟨g, 0, none⟩)))
theorem ErrAt.v {w : World} {v : Value} {code : Int} {a : Nat} (h : ErrAt w v code a) : ErrV v code := by
 rcases h with h | ⟨h, g, e, _⟩
 ·exact .inl h
 ·exact .inr ⟨h, g, e⟩
theorem own_ne {w : World} {B e z n g t : Nat} {v : Value} {xs cs : List Value} (h : w.ownsRow B e z v n xs) (r : Row w g t cs) (het : e ≠ t) : v.ownBlock ≠ some g := by
 intro hb
 rcases h.2 with ⟨h1, _⟩ | ⟨g', cap, cur, h1, _, hg, _⟩
 ·subst h1; cases hb
 ·subst h1
  have e1 : g' = g := by
   have : some g' = some g := hb
   exact Option.some.inj this
  subst e1
  rw [r.heap] at hg
  cases hg
  exact het rfl
theorem own_strs {K : Ctx} {w : World} {B : Nat} {v : Value} {l : List Bs} {L : List (List Value)} (hc : Cel 1 (TxAt K) L l) (h : w.ownsRow B 9 1 v l.length L.flatten) (hK : w.heap.size <= K.C) (hl : l.length <= 50000) : Strs K w v l :=
 ar_own hc h hK (by omega)
section
variable {L : List Sct} {D : Nat}
theorem atR_shift : ∀ (q : List Bs) (t : RTy) (i j : Nat), (atR L D t i q).1 = (atR L D t j q).1 /\ (atR L D t i q).2.1 = (atR L D t j q).2.1
 | [], _, _, _ => ⟨rfl, rfl⟩
 | nm :: q, t, i, j => by
  simp only [atR]
  split
  ·exact atR_shift q _ _ _
  ·exact ⟨rfl, rfl⟩
theorem atR_app (q : List Bs) : ∀ (p : List Bs) (t : RTy) (i : Nat), (atR L D t i p).2.1 = 0 -> (atR L D t i (p ++ q)).1 = (atR L D (atR L D t i p).1 0 q).1 /\ (atR L D t i (p ++ q)).2.1 = (atR L D (atR L D t i p).1 0 q).2.1
 | [], t, i, _ => atR_shift q t i 0
 | nm :: p, t, i, h => by
  simp only [atR, List.cons_append] at h ⊢
  split
  ·rename_i hc
   rw [if_pos hc] at h
   exact atR_app q p _ _ h
  ·rename_i hc
   rw [if_neg hc] at h
   exact absurd h hc
theorem atR_bad (q : List Bs) : ∀ (p : List Bs) (t : RTy) (i : Nat), (atR L D t i p).2.1 ≠ 0 -> (atR L D t i (p ++ q)).2.1 ≠ 0
 | [], _, _, h => absurd rfl h
 | nm :: p, t, i, h => by
  simp only [atR, List.cons_append] at h ⊢
  split
  ·rename_i hc
   rw [if_pos hc] at h
   exact atR_bad q p _ _ h
  ·rename_i hc
   exact hc
theorem fit_at {n : Nat} (hOL : OkL L D) (hD : D <= n) : ∀ (p : List Bs) (t : RTy) (i : Nat), Fit n t -> Fit n (atR L D t i p).1
 | [], _, _, h => h
 | nm :: p, t, i, h => by
  simp only [atR]
  split
  ·exact fit_at hOL hD p _ _ (Fit.step hOL hD h)
  ·cases n with
   | zero => exact h.elim
   | succ j => exact Fit.zero
end
set_option maxHeartbeats 32000000 in
set_option maxRecDepth 20000 in
theorem path_walk {K : Ctx} {w : World} {n : Nat} {cs : List Value} {t : RTy} {vp vq : Value} {p q : List Bs} (hG : Glo w) (hKB : 100 <= K.B) (hC : K.C <= w.heap.size) (ht : RtAt n K w cs t) (hp : Strs K w vp p) (hq : Strs K w vq q) :
  Calls Tryz.prog 8 #[.agg cs.toArray, vp, vq] w fun ev w' => ev = .returned (.bool true) /\ Below w.heap.size w w' := by
 obtain ⟨ap, pp, rfl⟩ := Ar.form hp
 obtain ⟨aq, pq, rfl⟩ := Ar.form hq
 obtain ⟨c0, cb, cc, cd, rfl⟩ := ht.four
 have HG := hidP hG
 have HC := hidP hC
 have HT := hidP (fun (y : World) (hy : Below w.heap.size w y) => ht.below (below_le hy hC))
 have HP := hidP (fun (y : World) (hy : Below w.heap.size w y) => hp.below (below_le hy hC))
 have HQ := hidP (fun (y : World) (hy : Below w.heap.size w y) => hq.below (below_le hy hC))
 have OC := hidP ht.ones
 have HA := hidP (alloc_one w (.cells #[c0, cb, cc, cd] 25))
 have R3 := hidP (Row.new w 25 [c0, cb, cc, cd])
 have WD := hidP (world_any (hG.below HA.out))
 have HSL := hidP (fun (h : p.length <= 10) => HP)
 clear ht hp hq hG hC HSL
 generalize hnp : p.length = np at *
 have HNP := hidP hnp
 clear hnp
 generalize hnq : q.length = nq at *
 have HNQ := hidP hnq
 clear hnq
 go_enter Tryz.func8, Tryz.ntmps8
 go_wp2_with fail
 refine WD.out.mono ?_
 rintro _ w2 ⟨g, gx, b, c, rfl, hb2, ⟨Q, hs2⟩, _⟩
 have B2 := hidP (HA.out.trans (below_le hb2 HA.out.size))
 have R32 := hidP (R3.out.below hb2 R3.out.lt)
 have S2 := hidP hs2
 have DP := hidP (deep10 60 (m := 60) (by decide) (by decide) (HT.out w2 B2.out) (Nat.le_trans HC.out B2.out.size))
 have y0 := R32.out.cell 0
 have y1 := R32.out.cell 1
 have y2 := R32.out.cell 2
 have y3 := R32.out.cell 3
 simp only [List.getElem?_cons_zero, List.getElem?_cons_succ] at y0 y1 y2 y3
 clear WD HA R3 hb2 hs2
 go_wp2_with fail
 refine DP.out.mono ?_
 rintro _ w3 ⟨rfl, hb3⟩
 have B3 := hidP (B2.out.trans (below_le hb3 B2.out.size))
 have R33 := hidP (R32.out.below hb3 R32.out.lt)
 have S3 := hidP (S2.out.past hb3)
 have TD3 := hidP (told12 (HG.out.below B3.out))
 clear DP R32 S2 B2 y0 y1 y2 y3 hb3
 rcases hdd : deepB 60 t with _ | _
 ·have HFT := hidP (deepB_fit hdd)
  clear hdd
  by_cases hlp : 10 < np
  ·have l1 : (10 : Int) < (np : Int) := by omega
   clear hlp
   go_wp2_with fail
   refine TD3.out.mono ?_
   rintro _ wT ⟨rfl, hbT⟩
   have BT := hidP (B3.out.trans (below_le hbT B3.out.size))
   clear TD3 hbT
   go_wp2_with fail
   go_ret
   exact ⟨rfl, BT.out⟩
  ·by_cases hlq : 10 < nq
   ·have l1 : ¬ (10 : Int) < (np : Int) := by omega
    have l2 : (10 : Int) < (nq : Int) := by omega
    clear hlp hlq
    go_wp2_with fail
    refine TD3.out.mono ?_
    rintro _ wT ⟨rfl, hbT⟩
    have BT := hidP (B3.out.trans (below_le hbT B3.out.size))
    clear TD3 hbT
    go_wp2_with fail
    go_ret
    exact ⟨rfl, BT.out⟩
   ·have l1 : ¬ (10 : Int) < (np : Int) := by omega
    have l2 : ¬ (10 : Int) < (nq : Int) := by omega
    have hlp' : np <= 10 := by omega
    have hlq' : nq <= 10 := by omega
    clear hlp hlq TD3
    have AT1 := hidP (at21 (K := K) (B := 100) (D := 2) (n := 60) (path := p) (by decide) hKB wokL (by decide) S3.out (RtAt.fit HFT.out (HT.out w3 B3.out)) HFT.out (HP.out w3 B3.out) (Nat.le_trans HC.out B3.out.size))
    go_wp2_with (first | (refine ldR rfl 25 (.tmp 3) rfl rfl R33.out Tryz.underlying25 rfl Tryz.sz25 ?_))
    refine AT1.out.mono ?_
    rintro _ w4 ⟨d, v1, rfl, hb4, hq4, he4⟩
    obtain ⟨d0, d1, d2, d3, rfl⟩ : ∃ e0 e1 e2 e3, d = [e0, e1, e2, e3] := by
     match d, hq4.len with
     | [e0, e1, e2, e3], _ => exact ⟨_, _, _, _, rfl⟩
    have B4 := hidP (B3.out.trans (below_le hb4 B3.out.size))
    have hz34 := hidP hb4.size
    have R34 := hidP (R33.out.below hb4 R33.out.lt)
    have S4 := hidP (S3.out.past hb4)
    have Q4 := hidP hq4
    have E4 := hidP he4.v
    have RN := hidP (Row.new w4 25 z25)
    have BN := hidP (alloc_one w4 (.cells z25.toArray 25))
    unfold z25 at RN BN
    clear AT1 R33 S3 hb4 hq4 he4
    go_wp2_with (first | (refine stR rfl 25 (.tmp 9) (.tmp 45) rfl (cs := [d0, d1, d2, d3]) rfl rfl RN.out Tryz.sz25 rfl Q4.out.ones ?_; intro w5 R9 S5x; apply shut))
    show wpList _ _ _ _ _ _
    have B45 := hidP (BN.out.trans (S5x.below (C := w4.heap.size) BN.out.size (fun q hq => Nat.le_of_eq hq.symm)))
    have B5 := hidP (B4.out.trans (below_le B45.out B4.out.size))
    have R35 := hidP (R34.out.below B45.out R34.out.lt)
    have S5 := hidP (S4.out.past B45.out)
    have Q5 := hidP (show RtQ 60 (Fr w3 w5) K.B w5 [d0, d1, d2, d3] (atR wLs 2 t 0 p).1 from Q4.out.mono (kp_stay (X := fun _ => False) (Stay.of_below B45.out) (fun _ h => h.elim) (Nat.le_refl _)))
    have R95 := hidP R9
    have hz35 := hidP (show w3.heap.size <= w5.heap.size by have := B45.out.size; have h4 := hz34.out; omega)
    clear RN BN R9 S5x R34 S4 Q4 B4
    go_wp2_with fail
    have hw5 := hidP R35.out.lt
    have hS0 : Row w5.drew w.heap.size 25 [c0, cb, cc, cd] := R35.out.drew
    have BX := hidP (show Below w5.heap.size w5 w5.drew from (Below.refl _ _).drew)
    refine beginL (fun y => Row y w.heap.size 25 [c0, cb, cc, cd]) 14 (by kernel_rfl) hS0 (fun hSS => ?_)
    refine takeL 0 (v := ?_) rfl (some 48) rfl (by decide) (by kernel_rfl) (by kernel_rfl) (by kernel_rfl) (by kernel_rfl) (fun _ _ _ h => h) (Or.inl ⟨by rfl, ?_⟩) hSS ?_
    rotate_left
    ·(intro y hy; have q0 := hy.cell 0; have q1 := hy.cell 1; have q2 := hy.cell 2; have q3 := hy.cell 3; simp only [List.getElem?_cons_zero, List.getElem?_cons_succ] at q0 q1 q2 q3; go_simp; with_reducible rfl)
    try simp only [Act.put]
    try simp only [List.setIfInBounds_toArray]
    try simp only [List.set_cons_succ]
    try simp only [List.set_cons_zero]
    refine takeL 1 (v := ?_) rfl (some 49) rfl (by decide) (by kernel_rfl) (by kernel_rfl) (by kernel_rfl) (by kernel_rfl) (fun _ _ _ h => h) (Or.inl ⟨by rfl, ?_⟩) hSS ?_
    rotate_left
    ·(intro y hy; have q0 := hy.cell 0; have q1 := hy.cell 1; have q2 := hy.cell 2; have q3 := hy.cell 3; simp only [List.getElem?_cons_zero, List.getElem?_cons_succ] at q0 q1 q2 q3; go_simp; with_reducible rfl)
    try simp only [Act.put]
    try simp only [List.setIfInBounds_toArray]
    try simp only [List.set_cons_succ]
    try simp only [List.set_cons_zero]
    refine takeL 3 (v := ?_) rfl (some 51) rfl (by decide) (by kernel_rfl) (by kernel_rfl) (by kernel_rfl) (by kernel_rfl) (fun _ _ _ h => h) (Or.inl ⟨by rfl, ?_⟩) hSS ?_
    rotate_left
    ·(intro y hy; have q0 := hy.cell 0; have q1 := hy.cell 1; have q2 := hy.cell 2; have q3 := hy.cell 3; simp only [List.getElem?_cons_zero, List.getElem?_cons_succ] at q0 q1 q2 q3; go_simp; with_reducible rfl)
    try simp only [Act.put]
    try simp only [List.setIfInBounds_toArray]
    try simp only [List.set_cons_succ]
    try simp only [List.set_cons_zero]
    refine takeL 5 (v := ?_) rfl (some 53) rfl (by decide) (by kernel_rfl) (by kernel_rfl) (by kernel_rfl) (by kernel_rfl) (fun _ _ _ h => h) (Or.inl ⟨by rfl, ?_⟩) hSS ?_
    rotate_left
    ·(intro y hy; have q0 := hy.cell 0; have q1 := hy.cell 1; have q2 := hy.cell 2; have q3 := hy.cell 3; simp only [List.getElem?_cons_zero, List.getElem?_cons_succ] at q0 q1 q2 q3; go_simp; with_reducible rfl)
    try simp only [Act.put]
    try simp only [List.setIfInBounds_toArray]
    try simp only [List.set_cons_succ]
    try simp only [List.set_cons_zero]
    generalize w5.drew = wS at *
    refine readyL (rs := [2, 11]) (by kernel_rfl) (by simp) ?_
    refine ReadyL.cons rfl (fun KK hK => ?P0) (ReadyL.cons rfl (fun KK hK => ?R0) ReadyL.nil)
    case' P0 =>
     refine wantR (by rfl) ?_
     go_simp
     have BAq := alloc_one wS (.cells #[] 9)
     have OW := hidP (own_empty (w := wS) (B := w5.heap.size) (show w5.heap.size <= wS.heap.size from BX.out.size))
     have hbq : Below w5.heap.size wS (wS.alloc (.cells #[] 9)) := below_le BAq (show w5.heap.size <= wS.heap.size from BX.out.size)
     have BX2 := hidP (BX.out.trans hbq)
     have hSS2 := hSS.below hbq (show w.heap.size < w5.heap.size from hw5.out)
     refine hK.out _ _ (fun _ => hSS2) (fun _ => ?_)
     clear hK KK hSS BAq hbq BX
     have hSS := hSS2
     have BX := BX2
     clear hSS2 BX2
     generalize Value.slice (some ⟨wS.heap.size, 0, none⟩) 0 0 = v50 at *
     generalize wS.alloc (.cells #[] 9) = x1 at *
     try simp only [Act.put]
     try simp only [List.setIfInBounds_toArray]
     try simp only [List.set_cons_succ]
     try simp only [List.set_cons_zero]
     refine readyL (rs := [4, 11]) (by kernel_rfl) (by simp) ?_
     refine ReadyL.cons rfl (fun KK hK => ?P1) (ReadyL.cons rfl (fun KK hK => ?R1) ReadyL.nil)
     case' P1 =>
      refine wantR (by rfl) ?_
      obtain ⟨L1, hc1', hsq⟩ := strs_sou (HP.out x1 (B5.out.trans (below_le BX.out B5.out.size)))
      have hc1 := hidP hc1'
      rw [HNP.out] at hsq
      refine wpo_appS (bz := 16) (.tmp 50) (.tmp 51) rfl Tryz.underlying33 Tryz.info9S rfl (by decide) rfl rfl OW.out (show w5.heap.size <= x1.heap.size from BX.out.size) hsq (by rw [flat_lenS hc1'.all, hc1'.len, HNP.out]) hc1'.ones (by omega) (by decide) ?_
      intro v52 x2 hoq hgq
      have hbq := grown_le hgq (show w5.heap.size <= x1.heap.size from BX.out.size) (fun k e => (OW.out.lt k e).1)
      have BX2 := hidP (BX.out.trans hbq)
      have OW2 := hidP hoq
      have hSS2 := hSS.below hbq (show w.heap.size < w5.heap.size from hw5.out)
      refine hK.out (Act.put _ (some 52) _) _ (fun _ => hSS2) (fun _ => ?_)
      clear hK KK hSS hbq BX hoq hgq OW hsq hc1'
      have hSS := hSS2
      have BX := BX2
      have OW := OW2
      clear hSS2 BX2 OW2
      try simp only [Act.put]
      try simp only [List.setIfInBounds_toArray]
      try simp only [List.set_cons_succ]
      try simp only [List.set_cons_zero]
      refine readyL (rs := [6, 11]) (by kernel_rfl) (by simp) ?_
      refine ReadyL.cons rfl (fun KK hK => ?P2) (ReadyL.cons rfl (fun KK hK => ?R2) ReadyL.nil)
      case' P2 =>
       refine wantR (by rfl) ?_
       obtain ⟨L2, hc2', hsq⟩ := strs_sou (HQ.out x2 (B5.out.trans (below_le BX.out B5.out.size)))
       have hc2 := hidP hc2'
       rw [HNQ.out] at hsq
       refine wpo_appS (bz := 16) (.tmp 52) (.tmp 53) rfl Tryz.underlying33 Tryz.info9S rfl (by decide) rfl rfl OW.out (show w5.heap.size <= x2.heap.size from BX.out.size) hsq (by rw [flat_lenS hc2'.all, hc2'.len, HNQ.out]) hc2'.ones (by omega) (by decide) ?_
       intro v54 x3 hoq hgq
       have hbq := grown_le hgq (show w5.heap.size <= x2.heap.size from BX.out.size) (fun k e => (OW.out.lt k e).1)
       have BX2 := hidP (BX.out.trans hbq)
       have OW2 := hidP hoq
       have hSS2 := hSS.below hbq (show w.heap.size < w5.heap.size from hw5.out)
       refine hK.out (Act.put _ (some 54) _) _ (fun _ => hSS2) (fun _ => ?_)
       clear hK KK hSS hbq BX hoq hgq OW hsq hc2'
       have hSS := hSS2
       have BX := BX2
       have OW := OW2
       clear hSS2 BX2 OW2
       try simp only [Act.put]
       try simp only [List.setIfInBounds_toArray]
       try simp only [List.set_cons_succ]
       try simp only [List.set_cons_zero]
       refine readyL (rs := [7, 11]) (by kernel_rfl) (by simp) ?_
       refine ReadyL.cons rfl (fun KK hK => ?P3) (ReadyL.cons rfl (fun KK hK => ?R3) ReadyL.nil)
       case' P3 =>
        refine wantR (by rfl) ?_
        have hws := BX.out.size
        have hlpq : (p ++ q).length = 0 + np + nq := by rw [List.length_append, HNP.out, HNQ.out]; omega
        have AT2 := at21 (K := K.up x3.heap.size) (w := x3) (B := 100) (D := 2) (n := 60) (path := p ++ q) (by decide) hKB wokL (by decide) (S5.out.past BX.out) (RtAt.up (show K.C <= x3.heap.size by have := HC.out; have := B5.out.size; omega) (RtAt.fit HFT.out (HT.out x3 (B5.out.trans (below_le BX.out B5.out.size))))) HFT.out (own_strs (K := K.up x3.heap.size) (hc1.out.app hc2.out) (by rw [List.flatten_append, hlpq]; exact OW.out) (Nat.le_refl _) (by rw [hlpq]; omega)) (Nat.le_refl _)
        go_simp
        refine AT2.mono ?_
        rintro _ x4 ⟨d', v2, rfl, hbz, hq7, he7⟩
        obtain ⟨e0, e1, e2, e3, rfl⟩ : ∃ f0 f1 f2 f3, d' = [f0, f1, f2, f3] := by
         match d', hq7.len with
         | [f0, f1, f2, f3], _ => exact ⟨_, _, _, _, rfl⟩
        have hbq : Below w5.heap.size x3 x4 := below_le hbz (show w5.heap.size <= x3.heap.size from BX.out.size)
        have BX2 := hidP (BX.out.trans hbq)
        have E7 := hidP he7.v
        have Q7 := hidP (show RtQ 60 (Fr w5 x4) K.B x4 [e0, e1, e2, e3] (atR wLs 2 t 0 (p ++ q)).1 from hq7.mono (Kp.fr' BX.out.size))
        have hSS2 := hSS.below hbq (show w.heap.size < w5.heap.size from hw5.out)
        refine hK.out _ _ (fun _ => hSS2) (fun _ => ?_)
        clear hK KK hSS hbq BX hbz hq7 he7 OW AT2
        have hSS := hSS2
        have BX := BX2
        clear hSS2 BX2
        try simp only [Act.put]
        try simp only [List.setIfInBounds_toArray]
        try simp only [List.set_cons_succ]
        try simp only [List.set_cons_zero]
        refine takeL 8 (v := ?_) rfl (some 47) rfl (by decide) (by kernel_rfl) (by kernel_rfl) (by kernel_rfl) (by kernel_rfl) (fun _ _ _ h => h) (Or.inl ⟨by rfl, ?_⟩) hSS ?_
        rotate_left
        ·(intro y hy; have q0 := hy.cell 0; have q1 := hy.cell 1; have q2 := hy.cell 2; have q3 := hy.cell 3; simp only [List.getElem?_cons_zero, List.getElem?_cons_succ] at q0 q1 q2 q3; go_simp; with_reducible rfl)
        try simp only [Act.put]
        try simp only [List.setIfInBounds_toArray]
        try simp only [List.set_cons_succ]
        try simp only [List.set_cons_zero]
        refine takeL 9 (v := ?_) rfl (some 56) rfl (by decide) (by kernel_rfl) (by kernel_rfl) (by kernel_rfl) (by kernel_rfl) (fun _ _ _ h => h) (Or.inl ⟨by rfl, ?_⟩) hSS ?_
        rotate_left
        ·(intro y hy; have q0 := hy.cell 0; have q1 := hy.cell 1; have q2 := hy.cell 2; have q3 := hy.cell 3; simp only [List.getElem?_cons_zero, List.getElem?_cons_succ] at q0 q1 q2 q3; go_simp; with_reducible rfl)
        try simp only [Act.put]
        try simp only [List.setIfInBounds_toArray]
        try simp only [List.set_cons_succ]
        try simp only [List.set_cons_zero]
        refine takeL 10 (v := ?_) rfl (some 57) rfl (by decide) (by kernel_rfl) (by kernel_rfl) (by kernel_rfl) (by kernel_rfl) (fun _ _ _ h => h) (Or.inl ⟨by rfl, ?_⟩) hSS ?_
        rotate_left
        ·(intro y hy; have q0 := hy.cell 0; have q1 := hy.cell 1; have q2 := hy.cell 2; have q3 := hy.cell 3; simp only [List.getElem?_cons_zero, List.getElem?_cons_succ] at q0 q1 q2 q3; go_simp; with_reducible rfl)
        try simp only [Act.put]
        try simp only [List.setIfInBounds_toArray]
        try simp only [List.set_cons_succ]
        try simp only [List.set_cons_zero]
        refine readyL (rs := [11]) (by kernel_rfl) (by simp) ?_
        refine ReadyL.cons rfl (fun KK hK => ?_) ReadyL.nil
        refine wantR (by rfl) ?_
        refine wpo_al25 rfl ?_
        intro x5 RAq BAq ZAq
        have hbq : Below w5.heap.size x4 x5 := below_le BAq (show w5.heap.size <= x4.heap.size from BX.out.size)
        have BX2 := hidP (BX.out.trans hbq)
        have Q72 := hidP (show RtQ 60 (fun k => Fr w5 x5 k /\ k ≠ x4.heap.size) K.B x5 [e0, e1, e2, e3] (atR wLs 2 t 0 (p ++ q)).1 from Q7.out.mono ⟨fun k hk => ⟨⟨hk.1, Nat.lt_of_lt_of_le hk.2 BAq.size⟩, Nat.ne_of_lt hk.2⟩, fun k hk => BAq.block k hk.2⟩)
        have E72 := hidP E7.out
        have RG := hidP RAq
        have hgm := hidP (show w5.heap.size <= x4.heap.size from BX.out.size)
        have hSS2 := hSS.below hbq (show w.heap.size < w5.heap.size from hw5.out)
        refine hK.out (Act.put _ (some 11) _) _ (fun _ => hSS2) (fun _ => ?_)
        clear hK KK hSS BAq ZAq RAq hbq BX
        have hSS := hSS2
        have BX := BX2
        clear hSS2 BX2
        clear Q7 E7
        have Q7 := Q72
        have E7 := E72
        clear Q72 E72
        generalize hgg : x4.heap.size = g11 at *
        clear hgg
        try simp only [Act.put]
        try simp only [List.setIfInBounds_toArray]
        try simp only [List.set_cons_succ]
        try simp only [List.set_cons_zero]
        refine readyL (rs := [12]) (by kernel_rfl) (by simp) ?_
        refine ReadyL.cons rfl (fun KK hK => ?_) ReadyL.nil
        refine wantR (by rfl) ?_
        refine wpo_stR 25 (.tmp 11) (.tmp 56) rfl (cs := [e0, e1, e2, e3]) rfl rfl RG.out Tryz.sz25 rfl Q7.out.ones ?_
        intro w6 RF SF
        have BX6 := hidP (BX.out.trans (SF.below (C := w5.heap.size) BX.out.size (fun q hq => by have : q = g11 := hq; have := hgm.out; omega)))
        have hSS2 := SF.row hSS (by have := hgm.out; have := hw5.out; show w.heap.size ≠ g11; omega)
        have R11 := hidP RF
        have Q6 := hidP (show RtQ 60 (Fr w5 w6) K.B w6 [e0, e1, e2, e3] (atR wLs 2 t 0 (p ++ q)).1 from Q7.out.mono ⟨fun k hk => ⟨hk.1.1, Nat.lt_of_lt_of_le hk.1.2 SF.size⟩, fun k hk => SF.block k hk.1.2 hk.2⟩)
        have E6 := hidP E7.out
        refine hK.out (Act.put _ none _) _ (fun _ => hSS2) (fun _ => ?_)
        clear hK KK hSS SF RF RG BX Q7 E7 hgm
        have hSS := hSS2
        clear hSS2
        try simp only [Act.put]
        try simp only [List.setIfInBounds_toArray]
        try simp only [List.set_cons_succ]
        try simp only [List.set_cons_zero]
        refine takeL 13 (v := ?_) rfl (some 12) rfl (by decide) (by kernel_rfl) (by kernel_rfl) (by kernel_rfl) (by kernel_rfl) (fun _ _ _ h => h) (Or.inl ⟨by rfl, ?_⟩) hSS ?_
        rotate_left
        ·(intro y hy; have q0 := hy.cell 0; have q1 := hy.cell 1; have q2 := hy.cell 2; have q3 := hy.cell 3; simp only [List.getElem?_cons_zero, List.getElem?_cons_succ] at q0 q1 q2 q3; go_simp; with_reducible rfl)
        try simp only [Act.put]
        try simp only [List.setIfInBounds_toArray]
        try simp only [List.set_cons_succ]
        try simp only [List.set_cons_zero]
        refine doneL (by kernel_rfl) ?_ _
        clear hSS
       case' R3 =>
        refine wantR (by rfl) ?_
        refine wpo_al25 rfl ?_
        intro x6 RAq BAq ZAq
        have hbq : Below w5.heap.size x3 x6 := below_le BAq (show w5.heap.size <= x3.heap.size from BX.out.size)
        have BX2 := hidP (BX.out.trans hbq)
        have OW2 := hidP (own_sameR OW.out (fun q eq => BAq.block q (OW.out.lt q eq).2))
        have RG := hidP RAq
        have hgm := hidP (show w5.heap.size <= x3.heap.size from BX.out.size)
        have hSS2 := hSS.below hbq (show w.heap.size < w5.heap.size from hw5.out)
        refine hK.out (Act.put _ (some 11) _) _ (fun _ => hSS2) (fun _ => ?_)
        clear hK KK hSS BAq ZAq RAq hbq BX
        have hSS := hSS2
        have BX := BX2
        clear hSS2 BX2
        clear OW
        have OW := OW2
        clear OW2
        generalize hgg : x3.heap.size = g11 at *
        clear hgg
        try simp only [Act.put]
        try simp only [List.setIfInBounds_toArray]
        try simp only [List.set_cons_succ]
        try simp only [List.set_cons_zero]
        refine readyL (rs := [7]) (by kernel_rfl) (by simp) ?_
        refine ReadyL.cons rfl (fun KK hK => ?_) ReadyL.nil
        refine wantR (by rfl) ?_
        have hws := BX.out.size
        have hlpq : (p ++ q).length = 0 + np + nq := by rw [List.length_append, HNP.out, HNQ.out]; omega
        have AT2 := at21 (K := K.up x6.heap.size) (w := x6) (B := 100) (D := 2) (n := 60) (path := p ++ q) (by decide) hKB wokL (by decide) (S5.out.past BX.out) (RtAt.up (show K.C <= x6.heap.size by have := HC.out; have := B5.out.size; omega) (RtAt.fit HFT.out (HT.out x6 (B5.out.trans (below_le BX.out B5.out.size))))) HFT.out (own_strs (K := K.up x6.heap.size) (hc1.out.app hc2.out) (by rw [List.flatten_append, hlpq]; exact OW.out) (Nat.le_refl _) (by rw [hlpq]; omega)) (Nat.le_refl _)
        go_simp
        refine AT2.mono ?_
        rintro _ x7 ⟨d', v2, rfl, hbz, hq7, he7⟩
        obtain ⟨e0, e1, e2, e3, rfl⟩ : ∃ f0 f1 f2 f3, d' = [f0, f1, f2, f3] := by
         match d', hq7.len with
         | [f0, f1, f2, f3], _ => exact ⟨_, _, _, _, rfl⟩
        have hbq : Below w5.heap.size x6 x7 := below_le hbz (show w5.heap.size <= x6.heap.size from BX.out.size)
        have BX2 := hidP (BX.out.trans hbq)
        have E7 := hidP he7.v
        have RG2 := hidP (RG.out.below hbz RG.out.lt)
        have Q7 := hidP (show RtQ 60 (fun k => Fr w5 x7 k /\ k ≠ g11) K.B x7 [e0, e1, e2, e3] (atR wLs 2 t 0 (p ++ q)).1 from hq7.mono ⟨fun k hk => ⟨⟨Nat.le_trans BX.out.size hk.1, hk.2⟩, fun e => by have := hk.1; have := RG.out.lt; omega⟩, fun _ _ => rfl⟩)
        have hSS2 := hSS.below hbq (show w.heap.size < w5.heap.size from hw5.out)
        refine hK.out _ _ (fun _ => hSS2) (fun _ => ?_)
        clear hK KK hSS hbq BX hbz hq7 he7 OW AT2
        have hSS := hSS2
        have BX := BX2
        clear hSS2 BX2
        clear RG
        have RG := RG2
        clear RG2
        try simp only [Act.put]
        try simp only [List.setIfInBounds_toArray]
        try simp only [List.set_cons_succ]
        try simp only [List.set_cons_zero]
        refine takeL 8 (v := ?_) rfl (some 47) rfl (by decide) (by kernel_rfl) (by kernel_rfl) (by kernel_rfl) (by kernel_rfl) (fun _ _ _ h => h) (Or.inl ⟨by rfl, ?_⟩) hSS ?_
        rotate_left
        ·(intro y hy; have q0 := hy.cell 0; have q1 := hy.cell 1; have q2 := hy.cell 2; have q3 := hy.cell 3; simp only [List.getElem?_cons_zero, List.getElem?_cons_succ] at q0 q1 q2 q3; go_simp; with_reducible rfl)
        try simp only [Act.put]
        try simp only [List.setIfInBounds_toArray]
        try simp only [List.set_cons_succ]
        try simp only [List.set_cons_zero]
        refine takeL 9 (v := ?_) rfl (some 56) rfl (by decide) (by kernel_rfl) (by kernel_rfl) (by kernel_rfl) (by kernel_rfl) (fun _ _ _ h => h) (Or.inl ⟨by rfl, ?_⟩) hSS ?_
        rotate_left
        ·(intro y hy; have q0 := hy.cell 0; have q1 := hy.cell 1; have q2 := hy.cell 2; have q3 := hy.cell 3; simp only [List.getElem?_cons_zero, List.getElem?_cons_succ] at q0 q1 q2 q3; go_simp; with_reducible rfl)
        try simp only [Act.put]
        try simp only [List.setIfInBounds_toArray]
        try simp only [List.set_cons_succ]
        try simp only [List.set_cons_zero]
        refine takeL 10 (v := ?_) rfl (some 57) rfl (by decide) (by kernel_rfl) (by kernel_rfl) (by kernel_rfl) (by kernel_rfl) (fun _ _ _ h => h) (Or.inl ⟨by rfl, ?_⟩) hSS ?_
        rotate_left
        ·(intro y hy; have q0 := hy.cell 0; have q1 := hy.cell 1; have q2 := hy.cell 2; have q3 := hy.cell 3; simp only [List.getElem?_cons_zero, List.getElem?_cons_succ] at q0 q1 q2 q3; go_simp; with_reducible rfl)
        try simp only [Act.put]
        try simp only [List.setIfInBounds_toArray]
        try simp only [List.set_cons_succ]
        try simp only [List.set_cons_zero]
        refine readyL (rs := [12]) (by kernel_rfl) (by simp) ?_
        refine ReadyL.cons rfl (fun KK hK => ?_) ReadyL.nil
        refine wantR (by rfl) ?_
        refine wpo_stR 25 (.tmp 11) (.tmp 56) rfl (cs := [e0, e1, e2, e3]) rfl rfl RG.out Tryz.sz25 rfl Q7.out.ones ?_
        intro w6 RF SF
        have BX6 := hidP (BX.out.trans (SF.below (C := w5.heap.size) BX.out.size (fun q hq => by have : q = g11 := hq; have := hgm.out; omega)))
        have hSS2 := SF.row hSS (by have := hgm.out; have := hw5.out; show w.heap.size ≠ g11; omega)
        have R11 := hidP RF
        have Q6 := hidP (show RtQ 60 (Fr w5 w6) K.B w6 [e0, e1, e2, e3] (atR wLs 2 t 0 (p ++ q)).1 from Q7.out.mono ⟨fun k hk => ⟨hk.1.1, Nat.lt_of_lt_of_le hk.1.2 SF.size⟩, fun k hk => SF.block k hk.1.2 hk.2⟩)
        have E6 := hidP E7.out
        refine hK.out (Act.put _ none _) _ (fun _ => hSS2) (fun _ => ?_)
        clear hK KK hSS SF RF RG BX Q7 E7 hgm
        have hSS := hSS2
        clear hSS2
        try simp only [Act.put]
        try simp only [List.setIfInBounds_toArray]
        try simp only [List.set_cons_succ]
        try simp only [List.set_cons_zero]
        refine takeL 13 (v := ?_) rfl (some 12) rfl (by decide) (by kernel_rfl) (by kernel_rfl) (by kernel_rfl) (by kernel_rfl) (fun _ _ _ h => h) (Or.inl ⟨by rfl, ?_⟩) hSS ?_
        rotate_left
        ·(intro y hy; have q0 := hy.cell 0; have q1 := hy.cell 1; have q2 := hy.cell 2; have q3 := hy.cell 3; simp only [List.getElem?_cons_zero, List.getElem?_cons_succ] at q0 q1 q2 q3; go_simp; with_reducible rfl)
        try simp only [Act.put]
        try simp only [List.setIfInBounds_toArray]
        try simp only [List.set_cons_succ]
        try simp only [List.set_cons_zero]
        refine doneL (by kernel_rfl) ?_ _
        clear hSS
      case' R2 =>
       refine wantR (by rfl) ?_
       refine wpo_al25 rfl ?_
       intro x8 RAq BAq ZAq
       have hbq : Below w5.heap.size x2 x8 := below_le BAq (show w5.heap.size <= x2.heap.size from BX.out.size)
       have BX2 := hidP (BX.out.trans hbq)
       have OW2 := hidP (own_sameR OW.out (fun q eq => BAq.block q (OW.out.lt q eq).2))
       have RG := hidP RAq
       have hgm := hidP (show w5.heap.size <= x2.heap.size from BX.out.size)
       have hSS2 := hSS.below hbq (show w.heap.size < w5.heap.size from hw5.out)
       refine hK.out (Act.put _ (some 11) _) _ (fun _ => hSS2) (fun _ => ?_)
       clear hK KK hSS BAq ZAq RAq hbq BX
       have hSS := hSS2
       have BX := BX2
       clear hSS2 BX2
       clear OW
       have OW := OW2
       clear OW2
       generalize hgg : x2.heap.size = g11 at *
       clear hgg
       try simp only [Act.put]
       try simp only [List.setIfInBounds_toArray]
       try simp only [List.set_cons_succ]
       try simp only [List.set_cons_zero]
       refine readyL (rs := [6]) (by kernel_rfl) (by simp) ?_
       refine ReadyL.cons rfl (fun KK hK => ?_) ReadyL.nil
       refine wantR (by rfl) ?_
       obtain ⟨L2, hc2', hsq⟩ := strs_sou (HQ.out x8 (B5.out.trans (below_le BX.out B5.out.size)))
       have hc2 := hidP hc2'
       rw [HNQ.out] at hsq
       refine wpo_appS (bz := 16) (.tmp 52) (.tmp 53) rfl Tryz.underlying33 Tryz.info9S rfl (by decide) rfl rfl OW.out (show w5.heap.size <= x8.heap.size from BX.out.size) hsq (by rw [flat_lenS hc2'.all, hc2'.len, HNQ.out]) hc2'.ones (by omega) (by decide) ?_
       intro v54 x9 hoq hgq
       have hbq := grown_le hgq (show w5.heap.size <= x8.heap.size from BX.out.size) (fun k e => (OW.out.lt k e).1)
       have BX2 := hidP (BX.out.trans hbq)
       have OW2 := hidP hoq
       have RG2 := hidP (RG.out.keep (hgq.block _ RG.out.lt (fun e => own_ne OW.out RG.out (by decide) e.symm)))
       have hSS2 := hSS.below hbq (show w.heap.size < w5.heap.size from hw5.out)
       refine hK.out (Act.put _ (some 54) _) _ (fun _ => hSS2) (fun _ => ?_)
       clear hK KK hSS hbq BX hoq hgq OW hsq hc2'
       have hSS := hSS2
       have BX := BX2
       have OW := OW2
       clear hSS2 BX2 OW2
       clear RG
       have RG := RG2
       clear RG2
       try simp only [Act.put]
       try simp only [List.setIfInBounds_toArray]
       try simp only [List.set_cons_succ]
       try simp only [List.set_cons_zero]
       refine readyL (rs := [7]) (by kernel_rfl) (by simp) ?_
       refine ReadyL.cons rfl (fun KK hK => ?_) ReadyL.nil
       refine wantR (by rfl) ?_
       have hws := BX.out.size
       have hlpq : (p ++ q).length = 0 + np + nq := by rw [List.length_append, HNP.out, HNQ.out]; omega
       have AT2 := at21 (K := K.up x9.heap.size) (w := x9) (B := 100) (D := 2) (n := 60) (path := p ++ q) (by decide) hKB wokL (by decide) (S5.out.past BX.out) (RtAt.up (show K.C <= x9.heap.size by have := HC.out; have := B5.out.size; omega) (RtAt.fit HFT.out (HT.out x9 (B5.out.trans (below_le BX.out B5.out.size))))) HFT.out (own_strs (K := K.up x9.heap.size) (hc1.out.app hc2.out) (by rw [List.flatten_append, hlpq]; exact OW.out) (Nat.le_refl _) (by rw [hlpq]; omega)) (Nat.le_refl _)
       go_simp
       refine AT2.mono ?_
       rintro _ x10 ⟨d', v2, rfl, hbz, hq7, he7⟩
       obtain ⟨e0, e1, e2, e3, rfl⟩ : ∃ f0 f1 f2 f3, d' = [f0, f1, f2, f3] := by
        match d', hq7.len with
        | [f0, f1, f2, f3], _ => exact ⟨_, _, _, _, rfl⟩
       have hbq : Below w5.heap.size x9 x10 := below_le hbz (show w5.heap.size <= x9.heap.size from BX.out.size)
       have BX2 := hidP (BX.out.trans hbq)
       have E7 := hidP he7.v
       have RG2 := hidP (RG.out.below hbz RG.out.lt)
       have Q7 := hidP (show RtQ 60 (fun k => Fr w5 x10 k /\ k ≠ g11) K.B x10 [e0, e1, e2, e3] (atR wLs 2 t 0 (p ++ q)).1 from hq7.mono ⟨fun k hk => ⟨⟨Nat.le_trans BX.out.size hk.1, hk.2⟩, fun e => by have := hk.1; have := RG.out.lt; omega⟩, fun _ _ => rfl⟩)
       have hSS2 := hSS.below hbq (show w.heap.size < w5.heap.size from hw5.out)
       refine hK.out _ _ (fun _ => hSS2) (fun _ => ?_)
       clear hK KK hSS hbq BX hbz hq7 he7 OW AT2
       have hSS := hSS2
       have BX := BX2
       clear hSS2 BX2
       clear RG
       have RG := RG2
       clear RG2
       try simp only [Act.put]
       try simp only [List.setIfInBounds_toArray]
       try simp only [List.set_cons_succ]
       try simp only [List.set_cons_zero]
       refine takeL 8 (v := ?_) rfl (some 47) rfl (by decide) (by kernel_rfl) (by kernel_rfl) (by kernel_rfl) (by kernel_rfl) (fun _ _ _ h => h) (Or.inl ⟨by rfl, ?_⟩) hSS ?_
       rotate_left
       ·(intro y hy; have q0 := hy.cell 0; have q1 := hy.cell 1; have q2 := hy.cell 2; have q3 := hy.cell 3; simp only [List.getElem?_cons_zero, List.getElem?_cons_succ] at q0 q1 q2 q3; go_simp; with_reducible rfl)
       try simp only [Act.put]
       try simp only [List.setIfInBounds_toArray]
       try simp only [List.set_cons_succ]
       try simp only [List.set_cons_zero]
       refine takeL 9 (v := ?_) rfl (some 56) rfl (by decide) (by kernel_rfl) (by kernel_rfl) (by kernel_rfl) (by kernel_rfl) (fun _ _ _ h => h) (Or.inl ⟨by rfl, ?_⟩) hSS ?_
       rotate_left
       ·(intro y hy; have q0 := hy.cell 0; have q1 := hy.cell 1; have q2 := hy.cell 2; have q3 := hy.cell 3; simp only [List.getElem?_cons_zero, List.getElem?_cons_succ] at q0 q1 q2 q3; go_simp; with_reducible rfl)
       try simp only [Act.put]
       try simp only [List.setIfInBounds_toArray]
       try simp only [List.set_cons_succ]
       try simp only [List.set_cons_zero]
       refine takeL 10 (v := ?_) rfl (some 57) rfl (by decide) (by kernel_rfl) (by kernel_rfl) (by kernel_rfl) (by kernel_rfl) (fun _ _ _ h => h) (Or.inl ⟨by rfl, ?_⟩) hSS ?_
       rotate_left
       ·(intro y hy; have q0 := hy.cell 0; have q1 := hy.cell 1; have q2 := hy.cell 2; have q3 := hy.cell 3; simp only [List.getElem?_cons_zero, List.getElem?_cons_succ] at q0 q1 q2 q3; go_simp; with_reducible rfl)
       try simp only [Act.put]
       try simp only [List.setIfInBounds_toArray]
       try simp only [List.set_cons_succ]
       try simp only [List.set_cons_zero]
       refine readyL (rs := [12]) (by kernel_rfl) (by simp) ?_
       refine ReadyL.cons rfl (fun KK hK => ?_) ReadyL.nil
       refine wantR (by rfl) ?_
       refine wpo_stR 25 (.tmp 11) (.tmp 56) rfl (cs := [e0, e1, e2, e3]) rfl rfl RG.out Tryz.sz25 rfl Q7.out.ones ?_
       intro w6 RF SF
       have BX6 := hidP (BX.out.trans (SF.below (C := w5.heap.size) BX.out.size (fun q hq => by have : q = g11 := hq; have := hgm.out; omega)))
       have hSS2 := SF.row hSS (by have := hgm.out; have := hw5.out; show w.heap.size ≠ g11; omega)
       have R11 := hidP RF
       have Q6 := hidP (show RtQ 60 (Fr w5 w6) K.B w6 [e0, e1, e2, e3] (atR wLs 2 t 0 (p ++ q)).1 from Q7.out.mono ⟨fun k hk => ⟨hk.1.1, Nat.lt_of_lt_of_le hk.1.2 SF.size⟩, fun k hk => SF.block k hk.1.2 hk.2⟩)
       have E6 := hidP E7.out
       refine hK.out (Act.put _ none _) _ (fun _ => hSS2) (fun _ => ?_)
       clear hK KK hSS SF RF RG BX Q7 E7 hgm
       have hSS := hSS2
       clear hSS2
       try simp only [Act.put]
       try simp only [List.setIfInBounds_toArray]
       try simp only [List.set_cons_succ]
       try simp only [List.set_cons_zero]
       refine takeL 13 (v := ?_) rfl (some 12) rfl (by decide) (by kernel_rfl) (by kernel_rfl) (by kernel_rfl) (by kernel_rfl) (fun _ _ _ h => h) (Or.inl ⟨by rfl, ?_⟩) hSS ?_
       rotate_left
       ·(intro y hy; have q0 := hy.cell 0; have q1 := hy.cell 1; have q2 := hy.cell 2; have q3 := hy.cell 3; simp only [List.getElem?_cons_zero, List.getElem?_cons_succ] at q0 q1 q2 q3; go_simp; with_reducible rfl)
       try simp only [Act.put]
       try simp only [List.setIfInBounds_toArray]
       try simp only [List.set_cons_succ]
       try simp only [List.set_cons_zero]
       refine doneL (by kernel_rfl) ?_ _
       clear hSS
     case' R1 =>
      refine wantR (by rfl) ?_
      refine wpo_al25 rfl ?_
      intro x11 RAq BAq ZAq
      have hbq : Below w5.heap.size x1 x11 := below_le BAq (show w5.heap.size <= x1.heap.size from BX.out.size)
      have BX2 := hidP (BX.out.trans hbq)
      have OW2 := hidP (own_sameR OW.out (fun q eq => BAq.block q (OW.out.lt q eq).2))
      have RG := hidP RAq
      have hgm := hidP (show w5.heap.size <= x1.heap.size from BX.out.size)
      have hSS2 := hSS.below hbq (show w.heap.size < w5.heap.size from hw5.out)
      refine hK.out (Act.put _ (some 11) _) _ (fun _ => hSS2) (fun _ => ?_)
      clear hK KK hSS BAq ZAq RAq hbq BX
      have hSS := hSS2
      have BX := BX2
      clear hSS2 BX2
      clear OW
      have OW := OW2
      clear OW2
      generalize hgg : x1.heap.size = g11 at *
      clear hgg
      try simp only [Act.put]
      try simp only [List.setIfInBounds_toArray]
      try simp only [List.set_cons_succ]
      try simp only [List.set_cons_zero]
      refine readyL (rs := [4]) (by kernel_rfl) (by simp) ?_
      refine ReadyL.cons rfl (fun KK hK => ?_) ReadyL.nil
      refine wantR (by rfl) ?_
      obtain ⟨L1, hc1', hsq⟩ := strs_sou (HP.out x11 (B5.out.trans (below_le BX.out B5.out.size)))
      have hc1 := hidP hc1'
      rw [HNP.out] at hsq
      refine wpo_appS (bz := 16) (.tmp 50) (.tmp 51) rfl Tryz.underlying33 Tryz.info9S rfl (by decide) rfl rfl OW.out (show w5.heap.size <= x11.heap.size from BX.out.size) hsq (by rw [flat_lenS hc1'.all, hc1'.len, HNP.out]) hc1'.ones (by omega) (by decide) ?_
      intro v52 x12 hoq hgq
      have hbq := grown_le hgq (show w5.heap.size <= x11.heap.size from BX.out.size) (fun k e => (OW.out.lt k e).1)
      have BX2 := hidP (BX.out.trans hbq)
      have OW2 := hidP hoq
      have RG2 := hidP (RG.out.keep (hgq.block _ RG.out.lt (fun e => own_ne OW.out RG.out (by decide) e.symm)))
      have hSS2 := hSS.below hbq (show w.heap.size < w5.heap.size from hw5.out)
      refine hK.out (Act.put _ (some 52) _) _ (fun _ => hSS2) (fun _ => ?_)
      clear hK KK hSS hbq BX hoq hgq OW hsq hc1'
      have hSS := hSS2
      have BX := BX2
      have OW := OW2
      clear hSS2 BX2 OW2
      clear RG
      have RG := RG2
      clear RG2
      try simp only [Act.put]
      try simp only [List.setIfInBounds_toArray]
      try simp only [List.set_cons_succ]
      try simp only [List.set_cons_zero]
      refine readyL (rs := [6]) (by kernel_rfl) (by simp) ?_
      refine ReadyL.cons rfl (fun KK hK => ?_) ReadyL.nil
      refine wantR (by rfl) ?_
      obtain ⟨L2, hc2', hsq⟩ := strs_sou (HQ.out x12 (B5.out.trans (below_le BX.out B5.out.size)))
      have hc2 := hidP hc2'
      rw [HNQ.out] at hsq
      refine wpo_appS (bz := 16) (.tmp 52) (.tmp 53) rfl Tryz.underlying33 Tryz.info9S rfl (by decide) rfl rfl OW.out (show w5.heap.size <= x12.heap.size from BX.out.size) hsq (by rw [flat_lenS hc2'.all, hc2'.len, HNQ.out]) hc2'.ones (by omega) (by decide) ?_
      intro v54 x13 hoq hgq
      have hbq := grown_le hgq (show w5.heap.size <= x12.heap.size from BX.out.size) (fun k e => (OW.out.lt k e).1)
      have BX2 := hidP (BX.out.trans hbq)
      have OW2 := hidP hoq
      have RG2 := hidP (RG.out.keep (hgq.block _ RG.out.lt (fun e => own_ne OW.out RG.out (by decide) e.symm)))
      have hSS2 := hSS.below hbq (show w.heap.size < w5.heap.size from hw5.out)
      refine hK.out (Act.put _ (some 54) _) _ (fun _ => hSS2) (fun _ => ?_)
      clear hK KK hSS hbq BX hoq hgq OW hsq hc2'
      have hSS := hSS2
      have BX := BX2
      have OW := OW2
      clear hSS2 BX2 OW2
      clear RG
      have RG := RG2
      clear RG2
      try simp only [Act.put]
      try simp only [List.setIfInBounds_toArray]
      try simp only [List.set_cons_succ]
      try simp only [List.set_cons_zero]
      refine readyL (rs := [7]) (by kernel_rfl) (by simp) ?_
      refine ReadyL.cons rfl (fun KK hK => ?_) ReadyL.nil
      refine wantR (by rfl) ?_
      have hws := BX.out.size
      have hlpq : (p ++ q).length = 0 + np + nq := by rw [List.length_append, HNP.out, HNQ.out]; omega
      have AT2 := at21 (K := K.up x13.heap.size) (w := x13) (B := 100) (D := 2) (n := 60) (path := p ++ q) (by decide) hKB wokL (by decide) (S5.out.past BX.out) (RtAt.up (show K.C <= x13.heap.size by have := HC.out; have := B5.out.size; omega) (RtAt.fit HFT.out (HT.out x13 (B5.out.trans (below_le BX.out B5.out.size))))) HFT.out (own_strs (K := K.up x13.heap.size) (hc1.out.app hc2.out) (by rw [List.flatten_append, hlpq]; exact OW.out) (Nat.le_refl _) (by rw [hlpq]; omega)) (Nat.le_refl _)
      go_simp
      refine AT2.mono ?_
      rintro _ x14 ⟨d', v2, rfl, hbz, hq7, he7⟩
      obtain ⟨e0, e1, e2, e3, rfl⟩ : ∃ f0 f1 f2 f3, d' = [f0, f1, f2, f3] := by
       match d', hq7.len with
       | [f0, f1, f2, f3], _ => exact ⟨_, _, _, _, rfl⟩
      have hbq : Below w5.heap.size x13 x14 := below_le hbz (show w5.heap.size <= x13.heap.size from BX.out.size)
      have BX2 := hidP (BX.out.trans hbq)
      have E7 := hidP he7.v
      have RG2 := hidP (RG.out.below hbz RG.out.lt)
      have Q7 := hidP (show RtQ 60 (fun k => Fr w5 x14 k /\ k ≠ g11) K.B x14 [e0, e1, e2, e3] (atR wLs 2 t 0 (p ++ q)).1 from hq7.mono ⟨fun k hk => ⟨⟨Nat.le_trans BX.out.size hk.1, hk.2⟩, fun e => by have := hk.1; have := RG.out.lt; omega⟩, fun _ _ => rfl⟩)
      have hSS2 := hSS.below hbq (show w.heap.size < w5.heap.size from hw5.out)
      refine hK.out _ _ (fun _ => hSS2) (fun _ => ?_)
      clear hK KK hSS hbq BX hbz hq7 he7 OW AT2
      have hSS := hSS2
      have BX := BX2
      clear hSS2 BX2
      clear RG
      have RG := RG2
      clear RG2
      try simp only [Act.put]
      try simp only [List.setIfInBounds_toArray]
      try simp only [List.set_cons_succ]
      try simp only [List.set_cons_zero]
      refine takeL 8 (v := ?_) rfl (some 47) rfl (by decide) (by kernel_rfl) (by kernel_rfl) (by kernel_rfl) (by kernel_rfl) (fun _ _ _ h => h) (Or.inl ⟨by rfl, ?_⟩) hSS ?_
      rotate_left
      ·(intro y hy; have q0 := hy.cell 0; have q1 := hy.cell 1; have q2 := hy.cell 2; have q3 := hy.cell 3; simp only [List.getElem?_cons_zero, List.getElem?_cons_succ] at q0 q1 q2 q3; go_simp; with_reducible rfl)
      try simp only [Act.put]
      try simp only [List.setIfInBounds_toArray]
      try simp only [List.set_cons_succ]
      try simp only [List.set_cons_zero]
      refine takeL 9 (v := ?_) rfl (some 56) rfl (by decide) (by kernel_rfl) (by kernel_rfl) (by kernel_rfl) (by kernel_rfl) (fun _ _ _ h => h) (Or.inl ⟨by rfl, ?_⟩) hSS ?_
      rotate_left
      ·(intro y hy; have q0 := hy.cell 0; have q1 := hy.cell 1; have q2 := hy.cell 2; have q3 := hy.cell 3; simp only [List.getElem?_cons_zero, List.getElem?_cons_succ] at q0 q1 q2 q3; go_simp; with_reducible rfl)
      try simp only [Act.put]
      try simp only [List.setIfInBounds_toArray]
      try simp only [List.set_cons_succ]
      try simp only [List.set_cons_zero]
      refine takeL 10 (v := ?_) rfl (some 57) rfl (by decide) (by kernel_rfl) (by kernel_rfl) (by kernel_rfl) (by kernel_rfl) (fun _ _ _ h => h) (Or.inl ⟨by rfl, ?_⟩) hSS ?_
      rotate_left
      ·(intro y hy; have q0 := hy.cell 0; have q1 := hy.cell 1; have q2 := hy.cell 2; have q3 := hy.cell 3; simp only [List.getElem?_cons_zero, List.getElem?_cons_succ] at q0 q1 q2 q3; go_simp; with_reducible rfl)
      try simp only [Act.put]
      try simp only [List.setIfInBounds_toArray]
      try simp only [List.set_cons_succ]
      try simp only [List.set_cons_zero]
      refine readyL (rs := [12]) (by kernel_rfl) (by simp) ?_
      refine ReadyL.cons rfl (fun KK hK => ?_) ReadyL.nil
      refine wantR (by rfl) ?_
      refine wpo_stR 25 (.tmp 11) (.tmp 56) rfl (cs := [e0, e1, e2, e3]) rfl rfl RG.out Tryz.sz25 rfl Q7.out.ones ?_
      intro w6 RF SF
      have BX6 := hidP (BX.out.trans (SF.below (C := w5.heap.size) BX.out.size (fun q hq => by have : q = g11 := hq; have := hgm.out; omega)))
      have hSS2 := SF.row hSS (by have := hgm.out; have := hw5.out; show w.heap.size ≠ g11; omega)
      have R11 := hidP RF
      have Q6 := hidP (show RtQ 60 (Fr w5 w6) K.B w6 [e0, e1, e2, e3] (atR wLs 2 t 0 (p ++ q)).1 from Q7.out.mono ⟨fun k hk => ⟨hk.1.1, Nat.lt_of_lt_of_le hk.1.2 SF.size⟩, fun k hk => SF.block k hk.1.2 hk.2⟩)
      have E6 := hidP E7.out
      refine hK.out (Act.put _ none _) _ (fun _ => hSS2) (fun _ => ?_)
      clear hK KK hSS SF RF RG BX Q7 E7 hgm
      have hSS := hSS2
      clear hSS2
      try simp only [Act.put]
      try simp only [List.setIfInBounds_toArray]
      try simp only [List.set_cons_succ]
      try simp only [List.set_cons_zero]
      refine takeL 13 (v := ?_) rfl (some 12) rfl (by decide) (by kernel_rfl) (by kernel_rfl) (by kernel_rfl) (by kernel_rfl) (fun _ _ _ h => h) (Or.inl ⟨by rfl, ?_⟩) hSS ?_
      rotate_left
      ·(intro y hy; have q0 := hy.cell 0; have q1 := hy.cell 1; have q2 := hy.cell 2; have q3 := hy.cell 3; simp only [List.getElem?_cons_zero, List.getElem?_cons_succ] at q0 q1 q2 q3; go_simp; with_reducible rfl)
      try simp only [Act.put]
      try simp only [List.setIfInBounds_toArray]
      try simp only [List.set_cons_succ]
      try simp only [List.set_cons_zero]
      refine doneL (by kernel_rfl) ?_ _
      clear hSS
    case' R0 =>
     refine wantR (by rfl) ?_
     refine wpo_al25 rfl ?_
     intro x15 RAq BAq ZAq
     have hbq : Below w5.heap.size wS x15 := below_le BAq (show w5.heap.size <= wS.heap.size from BX.out.size)
     have BX2 := hidP (BX.out.trans hbq)
     have RG := hidP RAq
     have hgm := hidP (show w5.heap.size <= wS.heap.size from BX.out.size)
     have hSS2 := hSS.below hbq (show w.heap.size < w5.heap.size from hw5.out)
     refine hK.out (Act.put _ (some 11) _) _ (fun _ => hSS2) (fun _ => ?_)
     clear hK KK hSS BAq ZAq RAq hbq BX
     have hSS := hSS2
     have BX := BX2
     clear hSS2 BX2
     generalize hgg : wS.heap.size = g11 at *
     clear hgg
     try simp only [Act.put]
     try simp only [List.setIfInBounds_toArray]
     try simp only [List.set_cons_succ]
     try simp only [List.set_cons_zero]
     refine readyL (rs := [2]) (by kernel_rfl) (by simp) ?_
     refine ReadyL.cons rfl (fun KK hK => ?_) ReadyL.nil
     refine wantR (by rfl) ?_
     go_simp
     have BAq := alloc_one x15 (.cells #[] 9)
     have OW := hidP (own_empty (w := x15) (B := w5.heap.size) (show w5.heap.size <= x15.heap.size from BX.out.size))
     have hbq : Below w5.heap.size x15 (x15.alloc (.cells #[] 9)) := below_le BAq (show w5.heap.size <= x15.heap.size from BX.out.size)
     have BX2 := hidP (BX.out.trans hbq)
     have RG2 := hidP (RG.out.below BAq RG.out.lt)
     have hSS2 := hSS.below hbq (show w.heap.size < w5.heap.size from hw5.out)
     refine hK.out _ _ (fun _ => hSS2) (fun _ => ?_)
     clear hK KK hSS BAq hbq BX
     have hSS := hSS2
     have BX := BX2
     clear hSS2 BX2
     clear RG
     have RG := RG2
     clear RG2
     generalize Value.slice (some ⟨x15.heap.size, 0, none⟩) 0 0 = v50 at *
     generalize x15.alloc (.cells #[] 9) = x16 at *
     try simp only [Act.put]
     try simp only [List.setIfInBounds_toArray]
     try simp only [List.set_cons_succ]
     try simp only [List.set_cons_zero]
     refine readyL (rs := [4]) (by kernel_rfl) (by simp) ?_
     refine ReadyL.cons rfl (fun KK hK => ?_) ReadyL.nil
     refine wantR (by rfl) ?_
     obtain ⟨L1, hc1', hsq⟩ := strs_sou (HP.out x16 (B5.out.trans (below_le BX.out B5.out.size)))
     have hc1 := hidP hc1'
     rw [HNP.out] at hsq
     refine wpo_appS (bz := 16) (.tmp 50) (.tmp 51) rfl Tryz.underlying33 Tryz.info9S rfl (by decide) rfl rfl OW.out (show w5.heap.size <= x16.heap.size from BX.out.size) hsq (by rw [flat_lenS hc1'.all, hc1'.len, HNP.out]) hc1'.ones (by omega) (by decide) ?_
     intro v52 x17 hoq hgq
     have hbq := grown_le hgq (show w5.heap.size <= x16.heap.size from BX.out.size) (fun k e => (OW.out.lt k e).1)
     have BX2 := hidP (BX.out.trans hbq)
     have OW2 := hidP hoq
     have RG2 := hidP (RG.out.keep (hgq.block _ RG.out.lt (fun e => own_ne OW.out RG.out (by decide) e.symm)))
     have hSS2 := hSS.below hbq (show w.heap.size < w5.heap.size from hw5.out)
     refine hK.out (Act.put _ (some 52) _) _ (fun _ => hSS2) (fun _ => ?_)
     clear hK KK hSS hbq BX hoq hgq OW hsq hc1'
     have hSS := hSS2
     have BX := BX2
     have OW := OW2
     clear hSS2 BX2 OW2
     clear RG
     have RG := RG2
     clear RG2
     try simp only [Act.put]
     try simp only [List.setIfInBounds_toArray]
     try simp only [List.set_cons_succ]
     try simp only [List.set_cons_zero]
     refine readyL (rs := [6]) (by kernel_rfl) (by simp) ?_
     refine ReadyL.cons rfl (fun KK hK => ?_) ReadyL.nil
     refine wantR (by rfl) ?_
     obtain ⟨L2, hc2', hsq⟩ := strs_sou (HQ.out x17 (B5.out.trans (below_le BX.out B5.out.size)))
     have hc2 := hidP hc2'
     rw [HNQ.out] at hsq
     refine wpo_appS (bz := 16) (.tmp 52) (.tmp 53) rfl Tryz.underlying33 Tryz.info9S rfl (by decide) rfl rfl OW.out (show w5.heap.size <= x17.heap.size from BX.out.size) hsq (by rw [flat_lenS hc2'.all, hc2'.len, HNQ.out]) hc2'.ones (by omega) (by decide) ?_
     intro v54 x18 hoq hgq
     have hbq := grown_le hgq (show w5.heap.size <= x17.heap.size from BX.out.size) (fun k e => (OW.out.lt k e).1)
     have BX2 := hidP (BX.out.trans hbq)
     have OW2 := hidP hoq
     have RG2 := hidP (RG.out.keep (hgq.block _ RG.out.lt (fun e => own_ne OW.out RG.out (by decide) e.symm)))
     have hSS2 := hSS.below hbq (show w.heap.size < w5.heap.size from hw5.out)
     refine hK.out (Act.put _ (some 54) _) _ (fun _ => hSS2) (fun _ => ?_)
     clear hK KK hSS hbq BX hoq hgq OW hsq hc2'
     have hSS := hSS2
     have BX := BX2
     have OW := OW2
     clear hSS2 BX2 OW2
     clear RG
     have RG := RG2
     clear RG2
     try simp only [Act.put]
     try simp only [List.setIfInBounds_toArray]
     try simp only [List.set_cons_succ]
     try simp only [List.set_cons_zero]
     refine readyL (rs := [7]) (by kernel_rfl) (by simp) ?_
     refine ReadyL.cons rfl (fun KK hK => ?_) ReadyL.nil
     refine wantR (by rfl) ?_
     have hws := BX.out.size
     have hlpq : (p ++ q).length = 0 + np + nq := by rw [List.length_append, HNP.out, HNQ.out]; omega
     have AT2 := at21 (K := K.up x18.heap.size) (w := x18) (B := 100) (D := 2) (n := 60) (path := p ++ q) (by decide) hKB wokL (by decide) (S5.out.past BX.out) (RtAt.up (show K.C <= x18.heap.size by have := HC.out; have := B5.out.size; omega) (RtAt.fit HFT.out (HT.out x18 (B5.out.trans (below_le BX.out B5.out.size))))) HFT.out (own_strs (K := K.up x18.heap.size) (hc1.out.app hc2.out) (by rw [List.flatten_append, hlpq]; exact OW.out) (Nat.le_refl _) (by rw [hlpq]; omega)) (Nat.le_refl _)
     go_simp
     refine AT2.mono ?_
     rintro _ x19 ⟨d', v2, rfl, hbz, hq7, he7⟩
     obtain ⟨e0, e1, e2, e3, rfl⟩ : ∃ f0 f1 f2 f3, d' = [f0, f1, f2, f3] := by
      match d', hq7.len with
      | [f0, f1, f2, f3], _ => exact ⟨_, _, _, _, rfl⟩
     have hbq : Below w5.heap.size x18 x19 := below_le hbz (show w5.heap.size <= x18.heap.size from BX.out.size)
     have BX2 := hidP (BX.out.trans hbq)
     have E7 := hidP he7.v
     have RG2 := hidP (RG.out.below hbz RG.out.lt)
     have Q7 := hidP (show RtQ 60 (fun k => Fr w5 x19 k /\ k ≠ g11) K.B x19 [e0, e1, e2, e3] (atR wLs 2 t 0 (p ++ q)).1 from hq7.mono ⟨fun k hk => ⟨⟨Nat.le_trans BX.out.size hk.1, hk.2⟩, fun e => by have := hk.1; have := RG.out.lt; omega⟩, fun _ _ => rfl⟩)
     have hSS2 := hSS.below hbq (show w.heap.size < w5.heap.size from hw5.out)
     refine hK.out _ _ (fun _ => hSS2) (fun _ => ?_)
     clear hK KK hSS hbq BX hbz hq7 he7 OW AT2
     have hSS := hSS2
     have BX := BX2
     clear hSS2 BX2
     clear RG
     have RG := RG2
     clear RG2
     try simp only [Act.put]
     try simp only [List.setIfInBounds_toArray]
     try simp only [List.set_cons_succ]
     try simp only [List.set_cons_zero]
     refine takeL 8 (v := ?_) rfl (some 47) rfl (by decide) (by kernel_rfl) (by kernel_rfl) (by kernel_rfl) (by kernel_rfl) (fun _ _ _ h => h) (Or.inl ⟨by rfl, ?_⟩) hSS ?_
     rotate_left
     ·(intro y hy; have q0 := hy.cell 0; have q1 := hy.cell 1; have q2 := hy.cell 2; have q3 := hy.cell 3; simp only [List.getElem?_cons_zero, List.getElem?_cons_succ] at q0 q1 q2 q3; go_simp; with_reducible rfl)
     try simp only [Act.put]
     try simp only [List.setIfInBounds_toArray]
     try simp only [List.set_cons_succ]
     try simp only [List.set_cons_zero]
     refine takeL 9 (v := ?_) rfl (some 56) rfl (by decide) (by kernel_rfl) (by kernel_rfl) (by kernel_rfl) (by kernel_rfl) (fun _ _ _ h => h) (Or.inl ⟨by rfl, ?_⟩) hSS ?_
     rotate_left
     ·(intro y hy; have q0 := hy.cell 0; have q1 := hy.cell 1; have q2 := hy.cell 2; have q3 := hy.cell 3; simp only [List.getElem?_cons_zero, List.getElem?_cons_succ] at q0 q1 q2 q3; go_simp; with_reducible rfl)
     try simp only [Act.put]
     try simp only [List.setIfInBounds_toArray]
     try simp only [List.set_cons_succ]
     try simp only [List.set_cons_zero]
     refine takeL 10 (v := ?_) rfl (some 57) rfl (by decide) (by kernel_rfl) (by kernel_rfl) (by kernel_rfl) (by kernel_rfl) (fun _ _ _ h => h) (Or.inl ⟨by rfl, ?_⟩) hSS ?_
     rotate_left
     ·(intro y hy; have q0 := hy.cell 0; have q1 := hy.cell 1; have q2 := hy.cell 2; have q3 := hy.cell 3; simp only [List.getElem?_cons_zero, List.getElem?_cons_succ] at q0 q1 q2 q3; go_simp; with_reducible rfl)
     try simp only [Act.put]
     try simp only [List.setIfInBounds_toArray]
     try simp only [List.set_cons_succ]
     try simp only [List.set_cons_zero]
     refine readyL (rs := [12]) (by kernel_rfl) (by simp) ?_
     refine ReadyL.cons rfl (fun KK hK => ?_) ReadyL.nil
     refine wantR (by rfl) ?_
     refine wpo_stR 25 (.tmp 11) (.tmp 56) rfl (cs := [e0, e1, e2, e3]) rfl rfl RG.out Tryz.sz25 rfl Q7.out.ones ?_
     intro w6 RF SF
     have BX6 := hidP (BX.out.trans (SF.below (C := w5.heap.size) BX.out.size (fun q hq => by have : q = g11 := hq; have := hgm.out; omega)))
     have hSS2 := SF.row hSS (by have := hgm.out; have := hw5.out; show w.heap.size ≠ g11; omega)
     have R11 := hidP RF
     have Q6 := hidP (show RtQ 60 (Fr w5 w6) K.B w6 [e0, e1, e2, e3] (atR wLs 2 t 0 (p ++ q)).1 from Q7.out.mono ⟨fun k hk => ⟨hk.1.1, Nat.lt_of_lt_of_le hk.1.2 SF.size⟩, fun k hk => SF.block k hk.1.2 hk.2⟩)
     have E6 := hidP E7.out
     refine hK.out (Act.put _ none _) _ (fun _ => hSS2) (fun _ => ?_)
     clear hK KK hSS SF RF RG BX Q7 E7 hgm
     have hSS := hSS2
     clear hSS2
     try simp only [Act.put]
     try simp only [List.setIfInBounds_toArray]
     try simp only [List.set_cons_succ]
     try simp only [List.set_cons_zero]
     refine takeL 13 (v := ?_) rfl (some 12) rfl (by decide) (by kernel_rfl) (by kernel_rfl) (by kernel_rfl) (by kernel_rfl) (fun _ _ _ h => h) (Or.inl ⟨by rfl, ?_⟩) hSS ?_
     rotate_left
     ·(intro y hy; have q0 := hy.cell 0; have q1 := hy.cell 1; have q2 := hy.cell 2; have q3 := hy.cell 3; simp only [List.getElem?_cons_zero, List.getElem?_cons_succ] at q0 q1 q2 q3; go_simp; with_reducible rfl)
     try simp only [Act.put]
     try simp only [List.setIfInBounds_toArray]
     try simp only [List.set_cons_succ]
     try simp only [List.set_cons_zero]
     refine doneL (by kernel_rfl) ?_ _
     clear hSS
    all_goals
     have B6 := hidP (B5.out.trans (below_le BX6.out B5.out.size))
     have R96 := hidP (R95.out.below BX6.out R95.out.lt)
     have S6 := hidP (S5.out.past BX6.out)
     have Q56 := hidP (show RtQ 60 (Fr w3 w6) K.B w6 [d0, d1, d2, d3] (atR wLs 2 t 0 p).1 from Q5.out.mono (kp_stay (X := fun _ => False) (Stay.of_below BX6.out) (fun _ h => h.elim) (Nat.le_refl _)))
     have TD := hidP (fun (y : World) (hy : Below w.heap.size w y) => told12 (HG.out.below hy))
     have hz56 := hidP BX6.out.size
     clear R95 S5 Q5 BX6 B5 hw5 hz35 R35
     rcases E4.out with ⟨he, hv⟩ | ⟨he, gE, hv⟩
     ·subst hv
      have AX := hidP (atR_app (L := wLs) (D := 2) q p t 0 he)
      have AT3 := hidP (at21 (K := K.up w6.heap.size) (w := w6) (B := 100) (D := 2) (n := 60) (path := q) (by decide) hKB wokL (by decide) S6.out (RtQ.to (K := K.up w6.heap.size) rfl (fun k hk => hk.2) Q56.out) (fit_at wokL (by decide) p t 0 HFT.out) (Ar.up (HQ.out w6 B6.out) (show K.C <= w6.heap.size from Nat.le_trans HC.out B6.out.size) (fun _ _ _ h => h)) (Nat.le_refl _))
      clear E4 he
      go_wp2_with (first | (refine ldR rfl 25 (.tmp 9) rfl rfl R96.out Tryz.underlying25 rfl Tryz.sz25 ?_))
      refine AT3.out.mono ?_
      rintro _ w7 ⟨d', v3, rfl, hb7, hq7, he7⟩
      obtain ⟨f0, f1, f2, f3, rfl⟩ : ∃ h0 h1 h2 h3, d' = [h0, h1, h2, h3] := by
       match d', hq7.len with
       | [h0, h1, h2, h3], _ => exact ⟨_, _, _, _, rfl⟩
      have Q7 := hidP hq7
      have E7 := hidP he7.v
      have B7 := hidP (B6.out.trans (below_le hb7 B6.out.size))
      have R117 := hidP (R11.out.below hb7 R11.out.lt)
      have Q67 := hidP (show RtQ 60 (Fr w5 w7) K.B w7 [e0, e1, e2, e3] (atR wLs 2 t 0 (p ++ q)).1 from Q6.out.mono (kp_stay (X := fun _ => False) (Stay.of_below hb7) (fun _ h => h.elim) (Nat.le_refl _)))
      have RN := hidP (Row.new w7 25 z25)
      have BN := hidP (alloc_one w7 (.cells z25.toArray 25))
      unfold z25 at RN BN
      clear AT3 R96 S6 Q56 R11 Q6 hb7 hq7 he7
      go_wp2_with (first | (refine stR rfl 25 (.tmp 13) (.tmp 70) rfl (cs := [f0, f1, f2, f3]) rfl rfl RN.out Tryz.sz25 rfl Q7.out.ones ?_; intro w8 R13 S8; apply shut))
      show wpList _ _ _ _ _ _
      have B78 := hidP (BN.out.trans (S8.below (C := w7.heap.size) BN.out.size (fun q hq => Nat.le_of_eq hq.symm)))
      have B8 := hidP (B7.out.trans (below_le B78.out B7.out.size))
      have R118 := hidP (R117.out.below B78.out R117.out.lt)
      have R138 := hidP R13
      have Q67T := hidP (show RtQ 60 (Fr w5 w7) K.B w7 [e0, e1, e2, e3] (atR wLs 2 (atR wLs 2 t 0 p).1 0 q).1 from by rw [← AX.out.1]; exact Q67.out)
      have EX := hidP (fun (y : World) (hy : Below w8.heap.size w8 y) => exact19 (K := K.up w7.heap.size) 60 (m := 60) (w := y) (t := (atR wLs 2 (atR wLs 2 t 0 p).1 0 q).1) ((RtQ.to (K := K.up w7.heap.size) rfl (fun k hk => hk.2) Q7.out).below (B78.out.trans (below_le hy B78.out.size))) ((RtQ.to (K := K.up w7.heap.size) rfl (fun k hk => hk.2) Q67T.out).below (B78.out.trans (below_le hy B78.out.size))) (show w7.heap.size <= y.heap.size from Nat.le_trans B78.out.size hy.size))
      have HV := hidP (show (v3 = .nilIface /\ v2 = .nilIface) ∨ ∃ g3 g2, v3 = .iface 141 (.pointer (some ⟨g3, 0, none⟩)) /\ v2 = .iface 141 (.pointer (some ⟨g2, 0, none⟩)) by
       have ha := AX.out.2
       rcases E7.out with ⟨h3, hv3⟩ | ⟨h3, g3, hv3⟩
       ·rcases E6.out with ⟨h2, hv2⟩ | ⟨h2, g2, hv2⟩
        ·exact .inl ⟨hv3, hv2⟩
        ·exact absurd (ha.trans h3) h2
       ·rcases E6.out with ⟨h2, hv2⟩ | ⟨h2, g2, hv2⟩
        ·exact absurd (ha.symm.trans h2) h3
        ·exact .inr ⟨g3, g2, hv3, hv2⟩)
      clear RN BN R13 S8 R117 B7 B78 Q7 Q67 Q67T E7 E6 AX HFT HP HQ HT
      go_wp2_with fail
      have hS1 : Row w8.drew w7.heap.size 25 [f0, f1, f2, f3] /\ Row w8.drew g11 25 [e0, e1, e2, e3] := ⟨R138.out.drew, R118.out.drew⟩
      have BD := hidP (show Below w8.heap.size w8 w8.drew from (Below.refl _ _).drew)
      have TD8 := hidP (TD.out w8.drew (B8.out.trans (below_le BD.out B8.out.size)))
      clear R138 R118 TD
      rcases HV.out with ⟨rfl, rfl⟩ | ⟨g3, g2, rfl, rfl⟩
      all_goals
       refine beginL (fun y => Row y w7.heap.size 25 [f0, f1, f2, f3] /\ Row y g11 25 [e0, e1, e2, e3]) 14 (by kernel_rfl) hS1 (fun hSS => ?_)
       refine readyL (rs := [0]) (by kernel_rfl) (by simp) ?_
       refine ReadyL.cons rfl (fun KK hK => ?_) ReadyL.nil
       refine wantR (by rfl) ?_
       go_simp
       refine TD8.out.mono ?_
       rintro _ w9 ⟨rfl, hb9⟩
       have hSS2 := (⟨hSS.1.below hb9 hSS.1.lt, hSS.2.below hb9 hSS.2.lt⟩ : Row w9 w7.heap.size 25 [f0, f1, f2, f3] /\ Row w9 g11 25 [e0, e1, e2, e3])
       have B9 := hidP (show Below w8.heap.size w8 w9 from BD.out.trans (below_le hb9 BD.out.size))
       refine hK.out _ _ (fun _ => hSS2) (fun _ => ?_)
       clear hK KK hSS hb9 BD TD8
       have hSS := hSS2
       clear hSS2
       try simp only [Act.put]
       try simp only [List.setIfInBounds_toArray]
       try simp only [List.set_cons_succ]
       try simp only [List.set_cons_zero]
       refine takeL 1 (v := ?_) rfl (some 73) rfl (by decide) (by kernel_rfl) (by kernel_rfl) (by kernel_rfl) (by kernel_rfl) (fun _ _ _ h => h) (Or.inl ⟨by rfl, ?_⟩) hSS ?_
       rotate_left
       ·(intro y hy; have j0 := hy.1.cell 0; have j1 := hy.1.cell 1; have j2 := hy.1.cell 2; have j3 := hy.1.cell 3; have q0 := hy.2.cell 0; have q1 := hy.2.cell 1; have q2 := hy.2.cell 2; have q3 := hy.2.cell 3; simp only [List.getElem?_cons_zero, List.getElem?_cons_succ] at j0 j1 j2 j3 q0 q1 q2 q3; go_simp; with_reducible rfl)
       try simp only [Act.put]
       try simp only [List.setIfInBounds_toArray]
       try simp only [List.set_cons_succ]
       try simp only [List.set_cons_zero]
       refine takeL 2 (v := ?_) rfl (some 74) rfl (by decide) (by kernel_rfl) (by kernel_rfl) (by kernel_rfl) (by kernel_rfl) (fun _ _ _ h => h) (Or.inl ⟨by rfl, ?_⟩) hSS ?_
       rotate_left
       ·(intro y hy; have j0 := hy.1.cell 0; have j1 := hy.1.cell 1; have j2 := hy.1.cell 2; have j3 := hy.1.cell 3; have q0 := hy.2.cell 0; have q1 := hy.2.cell 1; have q2 := hy.2.cell 2; have q3 := hy.2.cell 3; simp only [List.getElem?_cons_zero, List.getElem?_cons_succ] at j0 j1 j2 j3 q0 q1 q2 q3; go_simp; with_reducible rfl)
       try simp only [Act.put]
       try simp only [List.setIfInBounds_toArray]
       try simp only [List.set_cons_succ]
       try simp only [List.set_cons_zero]
       refine takeL 3 (v := ?_) rfl (some 75) rfl (by decide) (by kernel_rfl) (by kernel_rfl) (by kernel_rfl) (by kernel_rfl) (fun _ _ _ h => h) (Or.inl ⟨by rfl, ?_⟩) hSS ?_
       rotate_left
       ·(intro y hy; have j0 := hy.1.cell 0; have j1 := hy.1.cell 1; have j2 := hy.1.cell 2; have j3 := hy.1.cell 3; have q0 := hy.2.cell 0; have q1 := hy.2.cell 1; have q2 := hy.2.cell 2; have q3 := hy.2.cell 3; simp only [List.getElem?_cons_zero, List.getElem?_cons_succ] at j0 j1 j2 j3 q0 q1 q2 q3; go_simp; with_reducible rfl)
       try simp only [Act.put]
       try simp only [List.setIfInBounds_toArray]
       try simp only [List.set_cons_succ]
       try simp only [List.set_cons_zero]
       refine takeL 4 (v := ?_) rfl (some 76) rfl (by decide) (by kernel_rfl) (by kernel_rfl) (by kernel_rfl) (by kernel_rfl) (fun _ _ _ h => h) (Or.inl ⟨by rfl, ?_⟩) hSS ?_
       rotate_left
       ·(intro y hy; have j0 := hy.1.cell 0; have j1 := hy.1.cell 1; have j2 := hy.1.cell 2; have j3 := hy.1.cell 3; have q0 := hy.2.cell 0; have q1 := hy.2.cell 1; have q2 := hy.2.cell 2; have q3 := hy.2.cell 3; simp only [List.getElem?_cons_zero, List.getElem?_cons_succ] at j0 j1 j2 j3 q0 q1 q2 q3; go_simp; with_reducible rfl)
       try simp only [Act.put]
       try simp only [List.setIfInBounds_toArray]
       try simp only [List.set_cons_succ]
       try simp only [List.set_cons_zero]
       refine takeL 5 (v := ?_) rfl (some 77) rfl (by decide) (by kernel_rfl) (by kernel_rfl) (by kernel_rfl) (by kernel_rfl) (fun _ _ _ h => h) (Or.inl ⟨by rfl, ?_⟩) hSS ?_
       rotate_left
       ·(intro y hy; have j0 := hy.1.cell 0; have j1 := hy.1.cell 1; have j2 := hy.1.cell 2; have j3 := hy.1.cell 3; have q0 := hy.2.cell 0; have q1 := hy.2.cell 1; have q2 := hy.2.cell 2; have q3 := hy.2.cell 3; simp only [List.getElem?_cons_zero, List.getElem?_cons_succ] at j0 j1 j2 j3 q0 q1 q2 q3; go_simp; with_reducible rfl)
       try simp only [Act.put]
       try simp only [List.setIfInBounds_toArray]
       try simp only [List.set_cons_succ]
       try simp only [List.set_cons_zero]
       refine takeL 6 (v := ?_) rfl (some 78) rfl (by decide) (by kernel_rfl) (by kernel_rfl) (by kernel_rfl) (by kernel_rfl) (fun _ _ _ h => h) (Or.inl ⟨by rfl, ?_⟩) hSS ?_
       rotate_left
       ·(intro y hy; have j0 := hy.1.cell 0; have j1 := hy.1.cell 1; have j2 := hy.1.cell 2; have j3 := hy.1.cell 3; have q0 := hy.2.cell 0; have q1 := hy.2.cell 1; have q2 := hy.2.cell 2; have q3 := hy.2.cell 3; simp only [List.getElem?_cons_zero, List.getElem?_cons_succ] at j0 j1 j2 j3 q0 q1 q2 q3; go_simp; with_reducible rfl)
       try simp only [Act.put]
       try simp only [List.setIfInBounds_toArray]
       try simp only [List.set_cons_succ]
       try simp only [List.set_cons_zero]
       refine takeL 7 (v := ?_) rfl (some 79) rfl (by decide) (by kernel_rfl) (by kernel_rfl) (by kernel_rfl) (by kernel_rfl) (fun _ _ _ h => h) (Or.inl ⟨by rfl, ?_⟩) hSS ?_
       rotate_left
       ·(intro y hy; have j0 := hy.1.cell 0; have j1 := hy.1.cell 1; have j2 := hy.1.cell 2; have j3 := hy.1.cell 3; have q0 := hy.2.cell 0; have q1 := hy.2.cell 1; have q2 := hy.2.cell 2; have q3 := hy.2.cell 3; simp only [List.getElem?_cons_zero, List.getElem?_cons_succ] at j0 j1 j2 j3 q0 q1 q2 q3; go_simp; with_reducible rfl)
       try simp only [Act.put]
       try simp only [List.setIfInBounds_toArray]
       try simp only [List.set_cons_succ]
       try simp only [List.set_cons_zero]
       refine takeL 8 (v := ?_) rfl (some 80) rfl (by decide) (by kernel_rfl) (by kernel_rfl) (by kernel_rfl) (by kernel_rfl) (fun _ _ _ h => h) (Or.inl ⟨by rfl, ?_⟩) hSS ?_
       rotate_left
       ·(intro y hy; have j0 := hy.1.cell 0; have j1 := hy.1.cell 1; have j2 := hy.1.cell 2; have j3 := hy.1.cell 3; have q0 := hy.2.cell 0; have q1 := hy.2.cell 1; have q2 := hy.2.cell 2; have q3 := hy.2.cell 3; simp only [List.getElem?_cons_zero, List.getElem?_cons_succ] at j0 j1 j2 j3 q0 q1 q2 q3; go_simp; with_reducible rfl)
       try simp only [Act.put]
       try simp only [List.setIfInBounds_toArray]
       try simp only [List.set_cons_succ]
       try simp only [List.set_cons_zero]
       refine takeL 9 (v := ?_) rfl (some 81) rfl (by decide) (by kernel_rfl) (by kernel_rfl) (by kernel_rfl) (by kernel_rfl) (fun _ _ _ h => h) (Or.inl ⟨by rfl, ?_⟩) hSS ?_
       rotate_left
       ·(intro y hy; have j0 := hy.1.cell 0; have j1 := hy.1.cell 1; have j2 := hy.1.cell 2; have j3 := hy.1.cell 3; have q0 := hy.2.cell 0; have q1 := hy.2.cell 1; have q2 := hy.2.cell 2; have q3 := hy.2.cell 3; simp only [List.getElem?_cons_zero, List.getElem?_cons_succ] at j0 j1 j2 j3 q0 q1 q2 q3; go_simp; with_reducible rfl)
       try simp only [Act.put]
       try simp only [List.setIfInBounds_toArray]
       try simp only [List.set_cons_succ]
       try simp only [List.set_cons_zero]
       refine takeL 10 (v := ?_) rfl (some 82) rfl (by decide) (by kernel_rfl) (by kernel_rfl) (by kernel_rfl) (by kernel_rfl) (fun _ _ _ h => h) (Or.inl ⟨by rfl, ?_⟩) hSS ?_
       rotate_left
       ·(intro y hy; have j0 := hy.1.cell 0; have j1 := hy.1.cell 1; have j2 := hy.1.cell 2; have j3 := hy.1.cell 3; have q0 := hy.2.cell 0; have q1 := hy.2.cell 1; have q2 := hy.2.cell 2; have q3 := hy.2.cell 3; simp only [List.getElem?_cons_zero, List.getElem?_cons_succ] at j0 j1 j2 j3 q0 q1 q2 q3; go_simp; with_reducible rfl)
       try simp only [Act.put]
       try simp only [List.setIfInBounds_toArray]
       try simp only [List.set_cons_succ]
       try simp only [List.set_cons_zero]
       refine readyL (rs := [11]) (by kernel_rfl) (by simp) ?_
       refine ReadyL.cons rfl (fun KK hK => ?_) ReadyL.nil
       refine wantR (by rfl) ?_
       go_simp
       refine (EX.out w9 B9.out).mono ?_
       rintro _ w10 ⟨rfl, hb10⟩
       have hSS2 := (⟨hSS.1.below hb10 hSS.1.lt, hSS.2.below hb10 hSS.2.lt⟩ : Row w10 w7.heap.size 25 [f0, f1, f2, f3] /\ Row w10 g11 25 [e0, e1, e2, e3])
       have BF := hidP (B8.out.trans (below_le (B9.out.trans (below_le hb10 B9.out.size)) B8.out.size))
       refine hK.out _ _ (fun _ => hSS2) (fun _ => ?_)
       clear hK KK hSS hb10 B9 EX
       have hSS := hSS2
       clear hSS2
       try simp only [Act.put]
       try simp only [List.setIfInBounds_toArray]
       try simp only [List.set_cons_succ]
       try simp only [List.set_cons_zero]
       refine takeL 12 (v := ?_) rfl (some 84) rfl (by decide) (by kernel_rfl) (by kernel_rfl) (by kernel_rfl) (by kernel_rfl) (fun _ _ _ h => h) (Or.inl ⟨by rfl, ?_⟩) hSS ?_
       rotate_left
       ·(intro y hy; have j0 := hy.1.cell 0; have j1 := hy.1.cell 1; have j2 := hy.1.cell 2; have j3 := hy.1.cell 3; have q0 := hy.2.cell 0; have q1 := hy.2.cell 1; have q2 := hy.2.cell 2; have q3 := hy.2.cell 3; simp only [List.getElem?_cons_zero, List.getElem?_cons_succ] at j0 j1 j2 j3 q0 q1 q2 q3; go_simp; with_reducible rfl)
       try simp only [Act.put]
       try simp only [List.setIfInBounds_toArray]
       try simp only [List.set_cons_succ]
       try simp only [List.set_cons_zero]
       refine takeL 13 (v := ?_) rfl (some 6) rfl (by decide) (by kernel_rfl) (by kernel_rfl) (by kernel_rfl) (by kernel_rfl) (fun _ _ _ h => h) (Or.inl ⟨by rfl, ?_⟩) hSS ?_
       rotate_left
       ·(intro y hy; have j0 := hy.1.cell 0; have j1 := hy.1.cell 1; have j2 := hy.1.cell 2; have j3 := hy.1.cell 3; have q0 := hy.2.cell 0; have q1 := hy.2.cell 1; have q2 := hy.2.cell 2; have q3 := hy.2.cell 3; simp only [List.getElem?_cons_zero, List.getElem?_cons_succ] at j0 j1 j2 j3 q0 q1 q2 q3; go_simp; with_reducible rfl)
       try simp only [Act.put]
       try simp only [List.setIfInBounds_toArray]
       try simp only [List.set_cons_succ]
       try simp only [List.set_cons_zero]
       refine doneL (by kernel_rfl) ?_ _
       go_wp2_with fail
       go_ret
       exact ⟨rfl, BF.out⟩
     ·subst hv
      have HE := hidP (atR_bad (L := wLs) (D := 2) q p t 0 he)
      obtain ⟨g2, hv2⟩ : ∃ g2, v2 = .iface 141 (.pointer (some ⟨g2, 0, none⟩)) := by
       rcases E6.out with ⟨h, _⟩ | ⟨_, g2, hv2⟩
       ·exact absurd h HE.out
       ·exact ⟨g2, hv2⟩
      subst hv2
      have TD6 := hidP (TD.out w6 B6.out)
      clear TD HE he E4 E6 R96 S6 Q56 R11 Q6
      go_wp2_with fail
      refine TD6.out.mono ?_
      rintro _ wT ⟨rfl, hbT⟩
      have BT := hidP (B6.out.trans (below_le hbT B6.out.size))
      clear TD6 hbT
      go_wp2_with fail
      go_ret
      exact ⟨rfl, BT.out⟩
 ·clear hdd
  go_wp2_with fail
  refine TD3.out.mono ?_
  rintro _ wT ⟨rfl, hbT⟩
  have BT := hidP (B3.out.trans (below_le hbT B3.out.size))
  clear TD3 hbT
  go_wp2_with fail
  go_ret
  exact ⟨rfl, BT.out⟩
end Go.Proofs.YtldbbkheemnnhaaGreatDoor
