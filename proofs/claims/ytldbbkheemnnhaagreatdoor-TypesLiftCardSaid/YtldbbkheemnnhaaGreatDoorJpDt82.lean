/-
  The texts Dt8, Lw8, joined.
-/
import Derived.Test.YtldbbkheemnnhaaGreatDoorQpXf8
import Derived.Test.YtldbbkheemnnhaaGreatDoorJpLk82
import Derived.Test.YtldbbkheemnnhaaGreatDoorJpWrd2
namespace Go.Proofs.YtldbbkheemnnhaaGreatDoor
open Go.RowKit
def deepT : Nat -> Ty -> Bool
 | 0, _ => true
 | k + 1, t => decide (2 < t.elem.length) || (decide (70 < t.lives.length) || t.elem.head?.elim false (deepT k))
theorem deepT_fit : ∀ {k : Nat} {t : Ty}, deepT k t = false -> FitH k t
 | 0, _, h => by simp [deepT] at h
 | k + 1, t, h => by
  simp only [deepT, Bool.or_eq_false_iff, decide_eq_false_iff_not] at h
  refine ⟨by omega, fun e he => deepT_fit ?_⟩
  have := h.2.2
  rw [he] at this
  exact this
theorem TyAt.cells {K : Ctx} {w : World} : ∀ {n : Nat} {cs : List Value} {t : Ty}, TyAt n K w cs t -> ∃ k s a2 l2 p2 a3 l3 p3, cs = [.int .i64 k, .string s, .slice a2 l2 p2, .slice a3 l3 p3]
 | 0, _, _, h => h.elim
 | n + 1, _, _, h => by
  obtain ⟨v2, v3, rfl, _, h2, h3⟩ := h
  obtain ⟨a2, p2, rfl⟩ := Ar.form h2
  obtain ⟨a3, p3, rfl⟩ := Ar.form h3
  exact ⟨_, _, _, _, _, _, _, _, rfl⟩
set_option maxHeartbeats 16000000 in
set_option maxRecDepth 20000 in
theorem deep16 {K : Ctx} : ∀ (k : Nat) {n : Nat} {m : Int} {w : World} {cs : List Value} {t : Ty}, m = (k : Int) -> m <= 100000 -> TyAt n K w cs t -> K.C <= w.heap.size ->
  Calls Tryz.prog 16 #[.agg cs.toArray, .int .i64 m] w fun ev w' => ev = .returned (.bool (deepT k t)) /\ Below w.heap.size w w'
 | k, 0, _, _, _, _, _, _, h, _ => h.elim
 | k, n + 1, m, w, cs, t, hm, hm9, ht, hC => by
  have IH := hidP (fun (k' : Nat) (hk : k = k' + 1) (y : World) (hy : Below w.heap.size w y) (cs : List Value) (e : Ty) (he : TyAt n K y cs e) => deep16 k' (m := (k' : Int)) rfl (by omega) he (Nat.le_trans hC hy.size))
  obtain ⟨v2, v3, rfl, _, h2, h3⟩ := ht
  obtain ⟨a2, p2, rfl⟩ := Ar.form h2
  obtain ⟨a3, p3, rfl⟩ := Ar.form h3
  have AN := hidP (fun i hi => ar_nth h3 i hi)
  have HC := hidP hC
  have HA := hidP (alloc_one w (.cells #[.int .i64 t.kind, .string (str t.name), .slice a2 t.lives.length p2, .slice a3 t.elem.length p3] 36))
  have R2 := hidP (Row.new w 36 [.int .i64 t.kind, .string (str t.name), .slice a2 t.lives.length p2, .slice a3 t.elem.length p3])
  clear h2 h3 hC
  cases k with
  | zero =>
   have hm0 : m = 0 := by omega
   subst hm0
   clear hm IH AN R2
   generalize t.kind = kd at *
   generalize str t.name = SN at *
   generalize t.lives.length = nl at *
   generalize t.elem.length = ne at *
   go_enter Tryz.func16, Tryz.ntmps16
   go_wp2_with fail
   go_ret
   exact ⟨rfl, HA.out⟩
  | succ k =>
   have HS := hidP (show deepT (k + 1) t = (decide (2 < t.elem.length) || (decide (70 < t.lives.length) || t.elem.head?.elim false (deepT k))) from rfl)
   have HE := hidP (fun e (h : t.elem[0]? = some e) => show t.elem.head?.elim false (deepT k) = deepT k e by rw [List.head?_eq_getElem?, h]; rfl)
   have H0 := hidP (fun (h : t.elem.length = 0) => show t.elem.head?.elim false (deepT k) = false by rw [List.eq_nil_of_length_eq_zero h]; rfl)
   have l0 : ¬ m <= 0 := by omega
   have y2 := R2.out.cell 2
   have y3 := R2.out.cell 3
   simp only [List.getElem?_cons_zero, List.getElem?_cons_succ] at y2 y3
   generalize t.elem.head?.elim false (deepT k) = mt at *
   generalize t.kind = kd at *
   generalize str t.name = SN at *
   generalize t.lives.length = nl at *
   generalize t.elem.length = ne at *
   by_cases h2 : 2 < ne
   ·have HQ := hidP (show deepT (k + 1) t = true by rw [HS.out, decide_eq_true h2]; rfl)
    have l2 : (2 : Int) < (ne : Int) := by omega
    clear HS HE H0 IH AN h2
    go_enter Tryz.func16, Tryz.ntmps16
    go_wp2_with fail
    go_ret
    exact ⟨retB HQ.out, HA.out⟩
   ·have l2 : ¬ (2 : Int) < (ne : Int) := by omega
    by_cases h7 : 70 < nl
    ·have HQ := hidP (show deepT (k + 1) t = true by rw [HS.out, decide_eq_true h7]; simp)
     have l7 : (70 : Int) < (nl : Int) := by omega
     clear HS HE H0 IH AN h2 h7
     go_enter Tryz.func16, Tryz.ntmps16
     go_wp2_with fail
     go_ret
     exact ⟨retB HQ.out, HA.out⟩
    ·have l7 : ¬ (70 : Int) < (nl : Int) := by omega
     have HQ := hidP (show deepT (k + 1) t = mt by rw [HS.out, decide_eq_false h2, decide_eq_false h7]; simp)
     clear HS h2 h7
     by_cases h0 : ne = 0
     ·subst h0
      have HM := hidP (HQ.out.trans (H0.out rfl))
      clear HE H0 IH AN HQ
      go_enter Tryz.func16, Tryz.ntmps16
      go_wp2_with fail
      go_ret
      exact ⟨retB HM.out, HA.out⟩
     ·obtain ⟨e, he, b1, o1, rfl, hb1, c1, hl1, hr1, hp1⟩ := AN.out 0 (by omega)
      have HM := hidP (HQ.out.trans (HE.out e he))
      rw [Nat.zero_mul, Nat.add_zero] at hr1
      have CALL := hidP (IH.out k rfl _ HA.out c1 e (hp1.below (below_le HA.out HC.out)))
      have hr2 := range_le hr1 HA.out (Nat.lt_of_lt_of_le hb1 HC.out)
      obtain ⟨ek, es, e2, e3, e4, e5, e6, e7, rfl⟩ := hp1.cells
      have z0 := hr2 0 _ rfl
      have z1 := hr2 1 _ rfl
      have z2 := hr2 2 _ rfl
      have z3 := hr2 3 _ rfl
      rw [Nat.add_zero] at z0
      have l8 : (0 : Int) < (ne : Int) := by omega
      have l9 : 0 < ne := by omega
      clear HE H0 IH AN HQ hr1 hr2 hp1 hb1 hl1 he h0
      go_enter Tryz.func16, Tryz.ntmps16
      go_wp2_with fail
      refine CALL.out.mono ?_
      rintro _ w3 ⟨rfl, hb3⟩
      have HB3 := hidP (HA.out.trans (below_le hb3 HA.out.size))
      clear CALL hb3 z0 z1 z2 z3 y2 y3
      generalize deepT k e = bb at *
      cases bb
      all_goals
       go_wp2_with fail
       go_ret
       exact ⟨retB HM.out, HB3.out⟩
end Go.Proofs.YtldbbkheemnnhaaGreatDoor

namespace Go.Proofs.YtldbbkheemnnhaaGreatDoor
open Go.RowKit Go.Maps
theorem FitH.fitT : ∀ {n : Nat} {t : Ty}, FitH n t -> FitT n t
 | 0, _, h => h.elim
 | _ + 1, _, h => ⟨h.1, fun e he => (h.2 e he).fitT⟩
theorem RtQ.heads {Q : Nat -> Prop} {B : Nat} {w : World} : ∀ {n : Nat} {cs : List Value} {t : RTy}, RtQ n Q B w cs t -> ∃ k s a2 l2 p2 a3 l3 p3, cs = [.int .i64 k, .string s, .slice a2 l2 p2, .slice a3 l3 p3]
 | 0, _, _, h => h.elim
 | n + 1, _, _, h => by
  obtain ⟨v2, v3, rfl, _, h2, h3⟩ := h
  obtain ⟨a2, p2, rfl⟩ := h2.form
  obtain ⟨a3, p3, rfl⟩ := h3.form
  exact ⟨_, _, _, _, _, _, _, _, rfl⟩
set_option maxHeartbeats 64000000 in
set_option maxRecDepth 20000 in
theorem lift_walk {K : Ctx} {w : World} {n : Nat} {cs : List Value} {t : Ty} {vl : Value} {lives : List Bs} {nx : Int} (hG : Glo w) (_hKB : 100 <= K.B) (hC : K.C <= w.heap.size) (ht : TyAt n K w cs t) (hl : Strs K w vl lives) (hx : -9223372036854775808 <= nx) :
  Calls Tryz.prog 4 #[.agg cs.toArray, vl, .int .i64 nx] w fun ev w' => ev = .returned (.bool true) /\ Below w.heap.size w w' := by
 obtain ⟨al, pl, rfl⟩ := Ar.form hl
 obtain ⟨kt, st, y2, m2, r2, y3, m3, r3, rfl⟩ := ht.cells
 have HG := hidP hG
 have HC := hidP hC
 have HT := hidP (fun (y : World) (hy : Below w.heap.size w y) => ht.below (below_le hy hC))
 have HL := hidP (fun (y : World) (hy : Below w.heap.size w y) => hl.below (below_le hy hC))
 have HA := hidP (alloc_one w (.cells #[.int .i64 kt, .string st, .slice y2 m2 r2, .slice y3 m3 r3] 36))
 have R3 := hidP (Row.new w 36 [.int .i64 kt, .string st, .slice y2 m2 r2, .slice y3 m3 r3])
 have WD := hidP (world_any (hG.below HA.out))
 clear ht hl hG hC
 generalize hnl : lives.length = nl at *
 have HNL := hidP hnl
 clear hnl
 go_enter Tryz.func4, Tryz.ntmps4
 go_wp2_with fail
 refine WD.out.mono ?_
 rintro _ w2 ⟨g, gx, b, c, rfl, hb2, ⟨Q, hs2⟩, ⟨Q', hx2⟩⟩
 have B2 := hidP (HA.out.trans (below_le hb2 HA.out.size))
 have R32 := hidP (R3.out.below hb2 R3.out.lt)
 have S2 := hidP hs2
 have X2 := hidP hx2
 have DP := hidP (deep16 60 (m := 60) (by decide) (by decide) (HT.out w2 B2.out) (Nat.le_trans HC.out B2.out.size))
 have z0 := R32.out.cell 0
 have z1 := R32.out.cell 1
 have z2 := R32.out.cell 2
 have z3 := R32.out.cell 3
 simp only [List.getElem?_cons_zero, List.getElem?_cons_succ] at z0 z1 z2 z3
 clear WD HA R3 hb2 hs2 hx2
 go_wp2_with fail
 refine DP.out.mono ?_
 rintro _ w3 ⟨rfl, hb3⟩
 have B3 := hidP (B2.out.trans (below_le hb3 B2.out.size))
 have R33 := hidP (R32.out.below hb3 R32.out.lt)
 have S3 := hidP (S2.out.past hb3)
 have X3 := hidP (X2.out.past hb3)
 have T3 := hidP (told12 (HG.out.below B3.out))
 clear DP B2 R32 S2 X2 hb3 z0 z1 z2 z3
 rcases hdd : deepT 60 t with _ | _
 ·have HFT := hidP (deepT_fit hdd)
  clear hdd
  by_cases hl7 : 70 < nl
  ·have l1 : (70 : Int) < (nl : Int) := by omega
   clear hl7
   go_wp2_with fail
   refine T3.out.mono ?_
   rintro _ wT ⟨rfl, hbT⟩
   have BT := hidP (B3.out.trans (below_le hbT B3.out.size))
   clear T3 hbT
   go_wp2_with fail
   go_ret
   exact ⟨rfl, BT.out⟩
  ·have l1 : ¬ (70 : Int) < (nl : Int) := by omega
   by_cases hn4 : 1099511627776 < nx
   ·clear hl7
    go_wp2_with fail
    refine T3.out.mono ?_
    rintro _ wT ⟨rfl, hbT⟩
    have BT := hidP (B3.out.trans (below_le hbT B3.out.size))
    clear T3 hbT
    go_wp2_with fail
    go_ret
    exact ⟨rfl, BT.out⟩
   ·have LF := hidP (lift17 (kq := 60) (by decide) (fun x hx => by have := wokL.lives x hx; omega) S3.out (HT.out w3 B3.out) (HL.out w3 B3.out) (Nat.le_trans HC.out B3.out.size) (by have := HNL.out; omega) HFT.out.fitT hx (by omega))
    clear T3 hl7
    go_wp2_with (first | (refine ldR rfl 36 (.tmp 3) rfl rfl R33.out Tryz.underlying36 rfl Tryz.sz36 ?_))
    refine LF.out.mono ?_
    rintro _ w4 ⟨d, rfl, hb4, hq4⟩
    obtain ⟨dk, ds, d2, d3, d4, d5, d6, d7, rfl⟩ := hq4.heads
    have B4 := hidP (B3.out.trans (below_le hb4 B3.out.size))
    have R34 := hidP (R33.out.below hb4 R33.out.lt)
    have X4 := hidP (X3.out.past hb4)
    have Q4 := hidP hq4
    have RN := hidP (Row.new w4 25 [.int .i64 0, .string ⟨#[]⟩, .slice none 0 0, .slice none 0 0])
    have BN := hidP (alloc_one w4 (.cells #[.int .i64 0, .string ⟨#[]⟩, .slice none 0 0, .slice none 0 0] 25))
    clear LF R33 S3 X3 hb4 hq4 B3
    go_wp2_with (first | (refine stR rfl 25 (.tmp 9) (.tmp 43) rfl (cs := [.int .i64 dk, .string ds, .slice d2 d3 d4, .slice d5 d6 d7]) rfl rfl RN.out Tryz.sz25 rfl Q4.out.ones ?_; intro w5 R9 S9; apply shut))
    show wpList _ _ _ _ _ _
    have BX := hidP (BN.out.trans (S9.below (C := w4.heap.size) BN.out.size (fun q hq => Nat.le_of_eq hq.symm)))
    have B5 := hidP (B4.out.trans (below_le BX.out B4.out.size))
    have R35 := hidP (R34.out.below BX.out R34.out.lt)
    have X5 := hidP (X4.out.past BX.out)
    have Q5 := hidP (show RtQ 60 (Fr w3 w5) K.B w5 [.int .i64 dk, .string ds, .slice d2 d3 d4, .slice d5 d6 d7] _ from Q4.out.mono (kp_stay (X := fun _ => False) (Stay.of_below BX.out) (fun _ h => h.elim) (Nat.le_refl _)))
    have RD5 := hidP R9
    have XL := hidP (xlift18 (kq := 60) (fun x hx => by have := wokL.lives x hx; omega) (by decide) n X5.out (HT.out w5 B5.out) (HL.out w5 B5.out) (Nat.le_trans HC.out B5.out.size) HFT.out hx (by omega))
    clear RN BN R9 S9 R34 X4 Q4 B4 BX
    generalize (liftN wLs lives 60 t nx).2 = nz at *
    generalize (liftN wLs lives 60 t nx).1 = tt at *
    go_wp2_with (first | (refine ldR rfl 36 (.tmp 3) rfl rfl R35.out Tryz.underlying36 rfl Tryz.sz36 ?_))
    refine XL.out.mono ?_
    rintro _ w6 ⟨e, rfl, hb6, hq6⟩
    obtain ⟨ek, es, e2, e3, e4, e5, e6, e7, rfl⟩ := hq6.heads
    have B6 := hidP (B5.out.trans (below_le hb6 B5.out.size))
    have RD6 := hidP (RD5.out.below hb6 RD5.out.lt)
    have Q56 := hidP (show RtQ 60 (Fr w3 w6) K.B w6 [.int .i64 dk, .string ds, .slice d2 d3 d4, .slice d5 d6 d7] tt from Q5.out.mono (kp_stay (X := fun _ => False) (Stay.of_below hb6) (fun _ h => h.elim) (Nat.le_refl _)))
    have Q6 := hidP hq6
    have RN := hidP (Row.new w6 25 [.int .i64 0, .string ⟨#[]⟩, .slice none 0 0, .slice none 0 0])
    have BN := hidP (alloc_one w6 (.cells #[.int .i64 0, .string ⟨#[]⟩, .slice none 0 0, .slice none 0 0] 25))
    clear XL R35 X5 Q5 RD5 hb6 hq6 B5 HT HL HFT
    go_wp2_with (first | (refine stR rfl 25 (.tmp 11) (.tmp 51) rfl (cs := [.int .i64 ek, .string es, .slice e2 e3 e4, .slice e5 e6 e7]) rfl rfl RN.out Tryz.sz25 rfl Q6.out.ones ?_; intro w7 R11 S11; apply shut))
    show wpList _ _ _ _ _ _
    have BX := hidP (BN.out.trans (S11.below (C := w6.heap.size) BN.out.size (fun q hq => Nat.le_of_eq hq.symm)))
    have B7 := hidP (B6.out.trans (below_le BX.out B6.out.size))
    have RD7 := hidP (RD6.out.below BX.out RD6.out.lt)
    have RE7 := hidP R11
    have QD7 := hidP (show RtQ 60 (Fr w3 w7) K.B w7 [.int .i64 dk, .string ds, .slice d2 d3 d4, .slice d5 d6 d7] tt from Q56.out.mono (kp_stay (X := fun _ => False) (Stay.of_below BX.out) (fun _ h => h.elim) (Nat.le_refl _)))
    have QE7 := hidP (show RtQ 60 (Fr w5 w7) K.B w7 [.int .i64 ek, .string es, .slice e2 e3 e4, .slice e5 e6 e7] tt from Q6.out.mono (kp_stay (X := fun _ => False) (Stay.of_below BX.out) (fun _ h => h.elim) (Nat.le_refl _)))
    have T7 := hidP (told12 (HG.out.below B7.out))
    clear RN BN R11 S11 RD6 Q56 Q6 B6 BX
    go_wp2_with fail
    refine T7.out.mono ?_
    rintro _ w8 ⟨rfl, hb8⟩
    have B8 := hidP (B7.out.trans (below_le hb8 B7.out.size))
    have RD8 := hidP (RD7.out.below hb8 RD7.out.lt)
    have RE8 := hidP (RE7.out.below hb8 RE7.out.lt)
    have EX := hidP (exact19 (K := K.up w7.heap.size) 60 (m := 60) (RtAt.below (K := K.up w7.heap.size) hb8 (RtQ.to (K := K.up w7.heap.size) rfl (fun k hk => hk.2) QD7.out)) (RtAt.below (K := K.up w7.heap.size) hb8 (RtQ.to (K := K.up w7.heap.size) rfl (fun k hk => hk.2) QE7.out)) hb8.size)
    have z0 := RD8.out.cell 0
    have z1 := RD8.out.cell 1
    have z2 := RD8.out.cell 2
    have z3 := RD8.out.cell 3
    have x0 := RE8.out.cell 0
    have x1 := RE8.out.cell 1
    have x2 := RE8.out.cell 2
    have x3 := RE8.out.cell 3
    simp only [List.getElem?_cons_zero, List.getElem?_cons_succ] at z0 z1 z2 z3 x0 x1 x2 x3
    clear T7 B7 RD7 RE7 QD7 QE7 hb8
    go_wp2_with fail
    refine EX.out.mono ?_
    rintro _ w9 ⟨rfl, hb9⟩
    have B9 := hidP (B8.out.trans (below_le hb9 B8.out.size))
    clear EX B8 RD8 RE8 hb9 z0 z1 z2 z3 x0 x1 x2 x3
    go_wp2_with fail
    go_ret
    exact ⟨by simp, B9.out⟩
 ·clear hdd
  go_wp2_with fail
  refine T3.out.mono ?_
  rintro _ wT ⟨rfl, hbT⟩
  have BT := hidP (B3.out.trans (below_le hbT B3.out.size))
  clear T3 hbT
  go_wp2_with fail
  go_ret
  exact ⟨rfl, BT.out⟩
end Go.Proofs.YtldbbkheemnnhaaGreatDoor
