/-
  The texts Sk8, Sm8, joined.
-/
import Derived.Test.YtldbbkheemnnhaaGreatDoorQpPu8
import Derived.Test.YtldbbkheemnnhaaGreatDoorJpRg83
namespace Go.Proofs.YtldbbkheemnnhaaGreatDoor
open Go.RowKit
def ownP (both : Bool) (a b : RTy) : List (Int × Int) := if a.kind = 3 then pairL true (ownR a) (ownR b) else if a.kind = 4 ∨ a.kind = 5 then pairL both (ownR a) (ownR b) else []
def askL : Nat -> Bool -> RTy -> RTy -> List (Int × Int)
 | 0, _, _, _ => []
 | n + 1, both, a, b => ownP both a b ++ (match nxtR a, nxtR b with
  | some x, some y => askL n (both || a.kind == 5) x y
  | _, _ => [])
def resA (m : Nat) (both : Bool) : Option RTy -> Option RTy -> List (Int × Int)
 | some a, some b => askL m both a b
 | _, _ => []
theorem askL_succ (n : Nat) (both : Bool) (a b : RTy) : askL (n + 1) both a b = ownP both a b ++ resA n (both || a.kind == 5) (nxtR a) (nxtR b) := by
 simp only [askL]
 cases nxtR a <;> cases nxtR b <;> rfl
def sameO (m : Nat) : Option RTy -> Option RTy -> Prop
 | some a, some b => sameN m a b = true
 | none, none => True
 | _, _ => False
theorem sameN_parts {n : Nat} {a b : RTy} (h : sameN (n + 1) a b = true) : a.kind = b.kind /\ a.name = b.name /\ a.regs.length = b.regs.length /\ allS (sameN n) a.elem b.elem = true := by
 simp only [sameN, Bool.and_eq_true, beq_iff_eq, decide_eq_true_eq] at h
 exact ⟨h.1, h.2.1, h.2.2.1, h.2.2.2⟩
theorem sameN_next {n : Nat} {a b : RTy} (h : sameN (n + 1) a b = true) : sameO n (nxtR a) (nxtR b) := by
 obtain ⟨h1, _, _, h4⟩ := sameN_parts h
 unfold nxtR
 rw [← h1]
 split
 ·generalize a.elem = x at h4
  generalize b.elem = y at h4
  match x, y, h4 with
  | [], [], _ => trivial
  | x :: _, y :: _, h4 =>
   simp only [allS, Bool.and_eq_true] at h4
   exact h4.1
  | [], _ :: _, h4 => cases h4
  | _ :: _, [], h4 => cases h4
 ·trivial
theorem sameN_own {n : Nat} {a b : RTy} (h : sameN (n + 1) a b = true) : (ownR a).length = (ownR b).length := by
 obtain ⟨h1, _, h3, _⟩ := sameN_parts h
 unfold ownR
 rw [← h1]
 split
 ·exact h3
 ·split
  ·rw [List.length_take, List.length_take, h3]
  ·rfl
theorem pairL_ge {both : Bool} : ∀ {l m : List Int}, l.length <= m.length -> l.length <= (pairL both l m).length
 | [], _, _ => Nat.zero_le _
 | _ :: _, [], h => by cases h
 | x :: l, y :: m, h => by
  have := pairL_ge (both := both) (l := l) (m := m) (by simpa using h)
  simp only [pairL, List.length_append, List.length_cons]
  split <;> simp <;> omega
set_option maxHeartbeats 16000000 in
set_option maxRecDepth 20000 in
theorem ask53 {K : Ctx} {w : World} {n n2 : Nat} {va vb : Value} {t u : RTy} (ha : PtR n K w va (some t)) (hb : PtR n2 K w vb (some u)) (hs : sameN n t u = true) (hC : K.C <= w.heap.size) (hl : (askL n false t u).length <= 40000) :
  Calls Tryz.prog 53 #[va, vb] w fun ev w' => ∃ v, ev = .returned v /\ Below w.heap.size w w' /\ w'.ownsRow w.heap.size 32 2 v (askL n false t u).length (pvs (askL n false t u)) := by
 have HA := hidP ha
 have HB := hidP hb
 have HS := hidP hs
 have HC := hidP hC
 have HL := hidP hl
 clear ha hb hs hC hl
 generalize hR : askL n false t u = R at *
 have HR := hidP hR
 clear hR
 go_enter Tryz.func53, Tryz.ntmps53
 go_wp2_with fail
 go_loopg [0, 1, 5, 6] n (fun k v0 v1 v5 v6 wr => ∃ (ca cb : Option RTy) (m m2 : Nat) (both : Bool) (acc : List (Int × Int)), PtR m K wr v0 ca /\ PtR m2 K wr v1 cb /\ v6 = .bool both /\ acc ++ resA m both ca cb = R /\ sameO m ca cb /\ m <= k /\ wr.ownsRow w.heap.size 32 2 v5 acc.length (pvs acc) /\ Below w.heap.size w wr)
 case atStart => exact ⟨some t, some u, n, n2, false, [], HA.out, HB.out, rfl, HR.out, HS.out, Nat.le_refl _, ⟨rfl, .inl ⟨rfl, rfl⟩⟩, Below.refl _ _⟩
 case round =>
  obtain ⟨ca, cb, m, m2, both, acc, hpa, hpb, rfl, he, hso, hm, ho, hbl⟩ := hrel
  have HE := hidP he
  have HO := hidP ho
  have HBL := hidP hbl
  clear HA HB HS HR he ho hbl
  rcases ca with _ | a
  ·rcases cb with _ | b
   ·have hpa' : _ = _ := hpa
    subst hpa'
    have hpb' : _ = _ := hpb
    subst hpb'
    have HF := hidP (show acc = R by have := HE.out; simpa [resA] using this)
    clear hpa hpb hso HE
    go_wp2_with fail
    go_ret
    exact ⟨_, rfl, HBL.out, by rw [← HF.out]; exact HO.out⟩
   ·exact hso.elim
  ·rcases cb with _ | b
   ·exact hso.elim
   ·obtain ⟨b1, o1, c1, rfl, hb1, r1, T1⟩ := hpa
    obtain ⟨b2, o2, c2, rfl, hb2, r2, T2⟩ := hpb
    obtain ⟨m, rfl⟩ : ∃ j, m = j + 1 := by
     cases m with
     | zero => exact T1.elim
     | succ j => exact ⟨j, rfl⟩
    obtain ⟨m2, rfl⟩ : ∃ j, m2 = j + 1 := by
     cases m2 with
     | zero => exact T2.elim
     | succ j => exact ⟨j, rfl⟩
    have hsn : sameN (m + 1) a b = true := hso
    have HSN := hidP (sameN_next hsn)
    have HOL := hidP (sameN_own hsn)
    have OWA := hidP (own37 T1 r1)
    have OWB := hidP (own37 T2 r2)
    have WIA := hidP (fun (y : World) (hy : Below w.heap.size wr y) => within36 (T1.below (below_le hy HC.out)) (range_le r1 hy (Nat.lt_of_lt_of_le hb1 HC.out)))
    have WIB := hidP (fun (y : World) (hy : Below w.heap.size wr y) => within36 (T2.below (below_le hy HC.out)) (range_le r2 hy (Nat.lt_of_lt_of_le hb2 HC.out)))
    have hq : acc ++ (ownP both a b ++ resA m (both || a.kind == 5) (nxtR a) (nxtR b)) = R := by
     rw [← askL_succ]; exact HE.out
    have HQ := hidP hq
    have c0 : wr.cell? ⟨b1, o1, none⟩ = some (.int .i64 a.kind) := by
     obtain ⟨_, _, rfl, _⟩ := T1
     have := r1 0 _ rfl
     rwa [Nat.add_zero] at this
    have HOP := hidP (show ownP both a b = if a.kind = 3 then pairL true (ownR a) (ownR b) else if a.kind = 4 ∨ a.kind = 5 then pairL both (ownR a) (ownR b) else [] from rfl)
    have hm' : m + 1 <= gk := hm
    clear hso hsn HE r1 r2 T1 T2 hb1 hb2 hq hm
    generalize a.kind = kd at *
    obtain ⟨a5, p5, rfl⟩ := own_slice HO.out
    rcases (show kd = 3 ∨ kd = 4 ∨ kd = 5 ∨ (kd ≠ 3 /\ kd ≠ 4 /\ kd ≠ 5) by omega) with rfl | rfl | rfl | ⟨h3, h4, h5⟩
    ·have HP := hidP (show ownP both a b = pairL true (ownR a) (ownR b) from HOP.out.trans (if_pos rfl))
     have HN := hidP (show acc.length + 2 * (ownR a).length <= 90000 by
      have h1 := congrArg List.length HQ.out
      rw [HP.out, List.length_append, List.length_append] at h1
      have h2 := pairL_ge (both := true) (l := ownR a) (m := ownR b) (Nat.le_of_eq HOL.out)
      have := HL.out
      omega)
     clear HOP
     go_wp2_with fail
     refine OWA.out.mono ?_
     rintro _ _ ⟨ua, rfl, rfl, hua⟩
     have HUA := hidP hua
     clear OWA hua
     go_wp2_with fail
     refine OWB.out.mono ?_
     rintro _ _ ⟨ub, rfl, rfl, hub⟩
     have HUB := hidP hub
     clear OWB hub
     go_wp2_with fail
     refine (pairUp78 HO.out HUA.out HUB.out HC.out HBL.out.size (Nat.le_of_eq HOL.out) HN.out).mono ?_
     rintro _ w6 ⟨v6, rfl, hb6, ho6⟩
     obtain ⟨acc6, hX⟩ : ∃ q, q = acc ++ pairL true (ownR a) (ownR b) := ⟨_, rfl⟩
     rw [← hX] at ho6
     have HX := hidP hX
     have HO6 := hidP ho6
     have HB6 := hidP hb6
     clear hX
     obtain ⟨a6, p6, rfl⟩ := own_slice ho6
     clear HUA HUB HO HN ho6 hb6 c0
     go_wp2_with fail
     refine (WIA.out w6 HB6.out).mono ?_
     rintro _ _ ⟨u7, rfl, rfl, hu7⟩
     have HU7 := hidP hu7
     have WB := hidP (WIB.out _ HB6.out)
     clear WIA WIB hu7
     go_wp2_with fail
     refine WB.out.mono ?_
     rintro _ _ ⟨u8, rfl, rfl, hu8⟩
     have HU8 := hidP hu8
     clear WB hu8
     go_wp2_with fail
     go_roundg (gk - 1)
     case measure => omega
     case rel => exact ⟨nxtR a, nxtR b, m, m2, both, acc6, HU7.out, HU8.out, rfl, by
       have := HQ.out
       rw [HP.out, ← List.append_assoc, ← HX.out] at this
       simpa using this, HSN.out, by omega, HO6.out, HBL.out.trans HB6.out⟩
    ·have HP := hidP (show ownP both a b = pairL both (ownR a) (ownR b) from HOP.out.trans ((if_neg (by decide)).trans (if_pos (.inl rfl))))
     have HN := hidP (show acc.length + 2 * (ownR a).length <= 90000 by
      have h1 := congrArg List.length HQ.out
      rw [HP.out, List.length_append, List.length_append] at h1
      have h2 := pairL_ge (both := both) (l := ownR a) (m := ownR b) (Nat.le_of_eq HOL.out)
      have := HL.out
      omega)
     clear HOP
     go_wp2_with fail
     refine OWA.out.mono ?_
     rintro _ _ ⟨ua, rfl, rfl, hua⟩
     have HUA := hidP hua
     clear OWA hua
     go_wp2_with fail
     refine OWB.out.mono ?_
     rintro _ _ ⟨ub, rfl, rfl, hub⟩
     have HUB := hidP hub
     clear OWB hub
     go_wp2_with fail
     refine (pairUp78 HO.out HUA.out HUB.out HC.out HBL.out.size (Nat.le_of_eq HOL.out) HN.out).mono ?_
     rintro _ w6 ⟨v6, rfl, hb6, ho6⟩
     obtain ⟨acc6, hX⟩ : ∃ q, q = acc ++ pairL both (ownR a) (ownR b) := ⟨_, rfl⟩
     rw [← hX] at ho6
     have HX := hidP hX
     have HO6 := hidP ho6
     have HB6 := hidP hb6
     clear hX
     obtain ⟨a6, p6, rfl⟩ := own_slice ho6
     clear HUA HUB HO HN ho6 hb6 c0
     go_wp2_with fail
     refine (WIA.out w6 HB6.out).mono ?_
     rintro _ _ ⟨u7, rfl, rfl, hu7⟩
     have HU7 := hidP hu7
     have WB := hidP (WIB.out _ HB6.out)
     clear WIA WIB hu7
     go_wp2_with fail
     refine WB.out.mono ?_
     rintro _ _ ⟨u8, rfl, rfl, hu8⟩
     have HU8 := hidP hu8
     clear WB hu8
     go_wp2_with fail
     go_roundg (gk - 1)
     case measure => omega
     case rel => exact ⟨nxtR a, nxtR b, m, m2, both, acc6, HU7.out, HU8.out, rfl, by
       have := HQ.out
       rw [HP.out, ← List.append_assoc, ← HX.out] at this
       simpa using this, HSN.out, by omega, HO6.out, HBL.out.trans HB6.out⟩
    ·have HP := hidP (show ownP both a b = pairL both (ownR a) (ownR b) from HOP.out.trans ((if_neg (by decide)).trans (if_pos (.inr rfl))))
     have HN := hidP (show acc.length + 2 * (ownR a).length <= 90000 by
      have h1 := congrArg List.length HQ.out
      rw [HP.out, List.length_append, List.length_append] at h1
      have h2 := pairL_ge (both := both) (l := ownR a) (m := ownR b) (Nat.le_of_eq HOL.out)
      have := HL.out
      omega)
     clear HOP
     go_wp2_with fail
     refine OWA.out.mono ?_
     rintro _ _ ⟨ua, rfl, rfl, hua⟩
     have HUA := hidP hua
     clear OWA hua
     go_wp2_with fail
     refine OWB.out.mono ?_
     rintro _ _ ⟨ub, rfl, rfl, hub⟩
     have HUB := hidP hub
     clear OWB hub
     go_wp2_with fail
     refine (pairUp78 HO.out HUA.out HUB.out HC.out HBL.out.size (Nat.le_of_eq HOL.out) HN.out).mono ?_
     rintro _ w6 ⟨v6, rfl, hb6, ho6⟩
     obtain ⟨acc6, hX⟩ : ∃ q, q = acc ++ pairL both (ownR a) (ownR b) := ⟨_, rfl⟩
     rw [← hX] at ho6
     have HX := hidP hX
     have HO6 := hidP ho6
     have HB6 := hidP hb6
     clear hX
     obtain ⟨a6, p6, rfl⟩ := own_slice ho6
     clear HUA HUB HO HN ho6 hb6 c0
     go_wp2_with fail
     refine (WIA.out w6 HB6.out).mono ?_
     rintro _ _ ⟨u7, rfl, rfl, hu7⟩
     have HU7 := hidP hu7
     have WB := hidP (WIB.out _ HB6.out)
     clear WIA WIB hu7
     go_wp2_with fail
     refine WB.out.mono ?_
     rintro _ _ ⟨u8, rfl, rfl, hu8⟩
     have HU8 := hidP hu8
     clear WB hu8
     go_wp2_with fail
     go_roundg (gk - 1)
     case measure => omega
     case rel => exact ⟨nxtR a, nxtR b, m, m2, true, acc6, HU7.out, HU8.out, rfl, by
       have := HQ.out
       rw [HP.out, ← List.append_assoc, ← HX.out] at this
       simpa using this, HSN.out, by omega, HO6.out, HBL.out.trans HB6.out⟩
    ·have HP := hidP (show ownP both a b = [] from HOP.out.trans ((if_neg h3).trans (if_neg (by omega))))
     have e3 : (kd == 3) = false := by simpa using h3
     have e4 : (kd == 4) = false := by simpa using h4
     have e5 : (kd == 5) = false := by simpa using h5
     have WA := hidP (WIA.out _ (Below.refl _ _))
     have WB := hidP (WIB.out _ (Below.refl _ _))
     clear HOP OWA OWB WIA WIB h3 h4
     go_wp2_with fail
     refine WA.out.mono ?_
     rintro _ _ ⟨u7, rfl, rfl, hu7⟩
     have HU7 := hidP hu7
     clear WA hu7
     go_wp2_with fail
     refine WB.out.mono ?_
     rintro _ _ ⟨u8, rfl, rfl, hu8⟩
     have HU8 := hidP hu8
     clear WB hu8
     go_wp2_with fail
     go_roundg (gk - 1)
     case measure => omega
     case rel => exact ⟨nxtR a, nxtR b, m, m2, both, acc, HU7.out, HU8.out, rfl, by
       have := HQ.out
       rw [HP.out, e5, Bool.or_false] at this
       simpa using this, HSN.out, by omega, HO.out, HBL.out⟩
def subL (n : Nat) (t u : RTy) : List (Int × Int) := if sameN n t u = true then askL n false t u else []
set_option maxHeartbeats 16000000 in
set_option maxRecDepth 20000 in
theorem sub32 {K : Ctx} {w : World} {n n2 : Nat} {cs ds : List Value} {t u : RTy} (ht : RtAt n K w cs t) (hu : RtAt n2 K w ds u) (hC : K.C <= w.heap.size) (hl : sameN n t u = true -> (askL n false t u).length <= 40000) :
  Calls Tryz.prog 32 #[.agg cs.toArray, .agg ds.toArray] w fun ev w' => ∃ v, ev = .returned v /\ Below w.heap.size w w' /\ w'.ownsRow w.heap.size 32 2 v (subL n t u).length (pvs (subL n t u)) := by
 have HA := hidP (alloc_two w (.cells cs.toArray 25) (.cells ds.toArray 25))
 have R0 := hidP ((Row.new w 25 cs).alloc (.cells ds.toArray 25))
 have R1 := hidP (Row.new (w.alloc (.cells cs.toArray 25)) 25 ds)
 have hz := size_two w (.cells cs.toArray 25) (.cells ds.toArray 25)
 have hCW : K.C <= ((w.alloc (.cells cs.toArray 25)).alloc (.cells ds.toArray 25)).heap.size := Nat.le_trans hC HA.out.size
 have SM := hidP (same27 n (ht.below (below_le HA.out hC)) (hu.below (below_le HA.out hC)) hCW)
 have HT := hidP (fun (y : World) (hy : Below w.heap.size w y) => And.intro (ht.below (below_le hy hC)) (hu.below (below_le hy hC)))
 have HL := hidP hl
 have HC := hidP hC
 have s1 := hidP (show (Tryz.prog.info? 25).map (·.size) = some cs.length by rw [ht.len]; exact Tryz.sz25)
 have s2 := hidP (show (Tryz.prog.info? 25).map (·.size) = some ds.length by rw [hu.len]; exact Tryz.sz25)
 rw [size_alloc] at R1
 have HZ := hidP hz
 clear ht hu hl hC hCW hz
 go_enter Tryz.func32, Tryz.ntmps32
 go_wp2_with (first | (refine ldR rfl 25 (.tmp 2) rfl rfl R0.out Tryz.underlying25 rfl s1.out ?_) | (refine ldR rfl 25 (.tmp 3) rfl rfl R1.out Tryz.underlying25 rfl s2.out ?_))
 refine SM.out.mono ?_
 rintro _ w3 ⟨rfl, hb3⟩
 have R03 := hidP (R0.out.below hb3 (by have := HZ.out; omega))
 have R13 := hidP (R1.out.below hb3 (by have := HZ.out; omega))
 have hz3 : w.heap.size + 2 <= w3.heap.size := by have := HZ.out; have := hb3.size; omega
 have HZ3 := hidP hz3
 have HB3 := hidP (HA.out.trans (below_le hb3 HA.out.size))
 clear SM R0 R1 HA HZ hb3 hz3
 rcases hsn : sameN n t u with _ | _
 ·have HX := hidP (show subL n t u = [] from if_neg (by rw [hsn]; decide))
  clear hsn
  go_wp2_with fail
  go_ret
  exact ⟨_, rfl, HB3.out, by rw [HX.out]; exact ⟨rfl, .inl ⟨rfl, rfl⟩⟩⟩
 ·have hTU := HT.out _ HB3.out
  have AK := hidP (ask53 (K := K.up w3.heap.size) (va := .pointer (some ⟨w.heap.size, 0, none⟩)) (vb := .pointer (some ⟨w.heap.size + 1, 0, none⟩)) ⟨w.heap.size, 0, cs, rfl, by show w.heap.size < w3.heap.size; have := HZ3.out; omega, R03.out.range, hTU.1.up (by have := HC.out; have := HZ3.out; omega)⟩ ⟨w.heap.size + 1, 0, ds, rfl, by show w.heap.size + 1 < w3.heap.size; have := HZ3.out; omega, R13.out.range, hTU.2.up (by have := HC.out; have := HZ3.out; omega)⟩ hsn (Nat.le_refl _) (HL.out hsn))
  have HX := hidP (show subL n t u = askL n false t u from if_pos hsn)
  clear hsn hTU R03 R13 HT
  go_wp2_with fail
  refine AK.out.mono ?_
  rintro _ w4 ⟨v4, rfl, hb4, ho4⟩
  have HB4 := hidP (HB3.out.trans (below_le hb4 HB3.out.size))
  have HO4 := hidP (own_base ho4 HB3.out.size)
  clear AK ho4 hb4
  go_wp2_with fail
  go_ret
  exact ⟨_, rfl, HB4.out, by rw [HX.out]; exact HO4.out⟩
end Go.Proofs.YtldbbkheemnnhaaGreatDoor

namespace Go.Proofs.YtldbbkheemnnhaaGreatDoor
open Go.RowKit
theorem RtAt.one {K : Ctx} {w : World} : ∀ {n : Nat} {cs : List Value} {t : RTy}, RtAt n K w cs t -> ∃ c0 c1 c2 c3, cs = [c0, c1, c2, c3]
  | 0, _, _, h => h.elim
  | n + 1, _, _, h => by obtain ⟨v2, v3, rfl, _⟩ := h; exact ⟨_, _, _, _, rfl⟩
set_option maxHeartbeats 16000000 in
set_option maxRecDepth 20000 in
theorem xsame28 {K : Ctx} : ∀ (n : Nat) {m : Nat} {w : World} {cs ds : List Value} {t : RTy}, RtAt n K w cs t -> RtAt m K w ds t -> K.C <= w.heap.size ->
    Calls Tryz.prog 28 #[.agg cs.toArray, .agg ds.toArray] w fun ev w' => ev = .returned (.bool true) /\ Below w.heap.size w w'
  | 0, _, _, _, _, _, h, _, _ => h.elim
  | n + 1, m, w, cs, ds, t, ht, hu, hC => by
    have IH := hidP (fun (y : World) (hy : Below w.heap.size w y) (cs ds : List Value) (t : RTy) (m : Nat) (ht : RtAt n K y cs t) (hu : RtAt m K y ds t) => xsame28 n ht hu (Nat.le_trans hC hy.size))
    obtain ⟨m, rfl⟩ : ∃ j, m = j + 1 := by
      cases m with
      | zero => exact hu.elim
      | succ j => exact ⟨j, rfl⟩
    obtain ⟨v2, v3, rfl, _, h2, h3⟩ := ht
    obtain ⟨u2, u3, rfl, _, k2, k3⟩ := hu
    obtain ⟨a2, p2, rfl⟩ := Ar.form h2
    obtain ⟨f2, g2, rfl⟩ := Ar.form k2
    obtain ⟨a3, p3, rfl, q1, z1, A1⟩ := h3.shape
    obtain ⟨f3, g3, rfl, q2, z2, A2⟩ := k3.shape
    have A1 := hidP A1
    have A2 := hidP A2
    have HC := hidP hC
    have hW0 : ((w.alloc (.cells #[.int .i64 t.kind, .string (str t.name), .slice a2 t.regs.length p2, .slice a3 t.elem.length p3] 25)).alloc (.cells #[.int .i64 t.kind, .string (str t.name), .slice f2 t.regs.length g2, .slice f3 t.elem.length g3] 25)) = _ := rfl
    have HA := hidP (alloc_two w (.cells #[.int .i64 t.kind, .string (str t.name), .slice a2 t.regs.length p2, .slice a3 t.elem.length p3] 25) (.cells #[.int .i64 t.kind, .string (str t.name), .slice f2 t.regs.length g2, .slice f3 t.elem.length g3] 25))
    have R0 := hidP ((Row.new w 25 [.int .i64 t.kind, .string (str t.name), .slice a2 t.regs.length p2, .slice a3 t.elem.length p3]).alloc (.cells #[.int .i64 t.kind, .string (str t.name), .slice f2 t.regs.length g2, .slice f3 t.elem.length g3] 25))
    have R1 := hidP (Row.new (w.alloc (.cells #[.int .i64 t.kind, .string (str t.name), .slice a2 t.regs.length p2, .slice a3 t.elem.length p3] 25)) 25 [.int .i64 t.kind, .string (str t.name), .slice f2 t.regs.length g2, .slice f3 t.elem.length g3])
    clear hW0 h2 h3 k2 k3 hC
    have hlen : t.elem.length <= 140737488355328 := by omega
    generalize hnl : t.elem.length = nl at q1 q2 hlen HA R0 R1 ⊢
    have HNL := hidP hnl
    clear hnl z1 z2
    generalize str t.name = SN at *
    generalize t.kind = kd at *
    generalize t.regs.length = rl at *
    have y0 := R0.out.cell 0
    have y1 := R0.out.cell 1
    have y2 := R0.out.cell 2
    have y3 := R0.out.cell 3
    have x0 := R1.out.cell 0
    have x1 := R1.out.cell 1
    have x2 := R1.out.cell 2
    have x3 := R1.out.cell 3
    rw [size_alloc] at x0 x1 x2 x3
    simp only [List.getElem?_cons_zero, List.getElem?_cons_succ] at y0 y1 y2 y3 x0 x1 x2 x3
    go_enter Tryz.func28, Tryz.ntmps28
    go_wp2_with fail
    clear y0 y1 y2 y3 x0 x1 x2 x3
    rw [size_alloc] at R1
    go_loopg [5] nl (fun k v5 wr => ∃ i : Nat, i + k = nl /\ v5 = .int .i64 (i : Int) /\ Below w.heap.size w wr /\ Row wr w.heap.size 25 [.int .i64 kd, .string SN, .slice a2 rl p2, .slice a3 nl p3] /\ Row wr (w.heap.size + 1) 25 [.int .i64 kd, .string SN, .slice f2 rl g2, .slice f3 nl g3])
    case atStart => exact ⟨0, by omega, rfl, HA.out, R0.out, R1.out⟩
    case round =>
      obtain ⟨i, hi, rfl, hb, hr0, hr1⟩ := hrel
      have HB := hidP hb
      have y3 := hr0.cell 3
      have x3 := hr1.cell 3
      simp only [List.getElem?_cons_zero, List.getElem?_cons_succ] at y3 x3
      clear R0 R1 HA hb
      by_cases hlt : i < nl
      . obtain ⟨b1, o1, rfl, hb1, c1, hl1, hc1, hp1⟩ := A1.out i (by have := HNL.out; omega)
        obtain ⟨b2, o2, rfl, hb2, c2, hl2, hc2, hp2⟩ := A2.out i (by have := HNL.out; omega)
        obtain ⟨ca, cb, cc, cd, rfl⟩ := hp1.one
        obtain ⟨da, db, dc, dd, rfl⟩ := hp2.one
        have RG := hidP (fun (y : World) (hy : Below w.heap.size w y) => show y.rangeAt b1 (o1 + i * 4) [ca, cb, cc, cd] /\ y.rangeAt b2 (o2 + i * 4) [da, db, dc, dd] from
          ⟨fun j u hj => (hy.cell (p := ⟨b1, o1 + i * 4 + j, none⟩) (by have := HC.out; show b1 < _; omega)).trans ((hc1 j (by rcases Nat.lt_or_ge j 4 with h | h; exact h; rw [List.getElem?_eq_none (by simpa using h)] at hj; cases hj)).trans hj),
           fun j u hj => (hy.cell (p := ⟨b2, o2 + i * 4 + j, none⟩) (by have := HC.out; show b2 < _; omega)).trans ((hc2 j (by rcases Nat.lt_or_ge j 4 with h | h; exact h; rw [List.getElem?_eq_none (by simpa using h)] at hj; cases hj)).trans hj)⟩)
        have HH := hidP (fun (y : World) (hy : Below w.heap.size w y) => IH.out y hy _ _ _ m (hp1.below (below_le hy HC.out)) (hp2.below (below_le hy HC.out)))
        clear hl1 hl2 hc1 hc2 hp1 hp2
        have HD := hidP (HB.out.drew)
        have hS0 : Row wr.drew w.heap.size 25 [.int .i64 kd, .string SN, .slice a2 rl p2, .slice (some ⟨b1, o1, none⟩) nl p3] /\ Row wr.drew (w.heap.size + 1) 25 [.int .i64 kd, .string SN, .slice f2 rl g2, .slice (some ⟨b2, o2, none⟩) nl g3] /\ wr.drew.rangeAt b1 (o1 + i * 4) [ca, cb, cc, cd] /\ wr.drew.rangeAt b2 (o2 + i * 4) [da, db, dc, dd] := ⟨hr0.drew, hr1.drew, RG.out _ HD.out⟩
        have l1 : (i : Int) < (nl : Int) := by omega
        clear hr0 hr1
        go_wp2_with fail
        refine beginL (fun y => Row y w.heap.size 25 [.int .i64 kd, .string SN, .slice a2 rl p2, .slice (some ⟨b1, o1, none⟩) nl p3] /\ Row y (w.heap.size + 1) 25 [.int .i64 kd, .string SN, .slice f2 rl g2, .slice (some ⟨b2, o2, none⟩) nl g3] /\ y.rangeAt b1 (o1 + i * 4) [ca, cb, cc, cd] /\ y.rangeAt b2 (o2 + i * 4) [da, db, dc, dd]) 12 (by kernel_rfl) hS0 (fun hSS => ?_)
        refine takeL 0 (v := ?_) rfl (some 43) rfl (by decide) (by kernel_rfl) (by kernel_rfl) (by kernel_rfl) (by kernel_rfl) (fun _ _ _ h => h) (Or.inl ⟨by rfl, ?_⟩) hSS ?_
        rotate_left
        . (intro y hy; have j3 := hy.1.cell 3; have k3 := hy.2.1.cell 3; have r0 := hy.2.2.1 0 _ rfl; have s0 := hy.2.2.2 0 _ rfl; have r1 := hy.2.2.1 1 _ rfl; have s1 := hy.2.2.2 1 _ rfl; have r2 := hy.2.2.1 2 _ rfl; have s2 := hy.2.2.2 2 _ rfl; have r3 := hy.2.2.1 3 _ rfl; have s3 := hy.2.2.2 3 _ rfl; simp only [List.getElem?_cons_zero, List.getElem?_cons_succ, Nat.add_zero] at j3 k3 r0 r1 r2 r3 s0 s1 s2 s3; go_simp; with_reducible rfl)
        try simp only [Act.put]
        try simp only [List.setIfInBounds_toArray]
        try simp only [List.set_cons_succ]
        try simp only [List.set_cons_zero]
        refine takeL 1 (v := ?_) rfl (some 44) rfl (by decide) (by kernel_rfl) (by kernel_rfl) (by kernel_rfl) (by kernel_rfl) (fun _ _ _ h => h) (Or.inl ⟨by rfl, ?_⟩) hSS ?_
        rotate_left
        . (intro y hy; have j3 := hy.1.cell 3; have k3 := hy.2.1.cell 3; have r0 := hy.2.2.1 0 _ rfl; have s0 := hy.2.2.2 0 _ rfl; have r1 := hy.2.2.1 1 _ rfl; have s1 := hy.2.2.2 1 _ rfl; have r2 := hy.2.2.1 2 _ rfl; have s2 := hy.2.2.2 2 _ rfl; have r3 := hy.2.2.1 3 _ rfl; have s3 := hy.2.2.2 3 _ rfl; simp only [List.getElem?_cons_zero, List.getElem?_cons_succ, Nat.add_zero] at j3 k3 r0 r1 r2 r3 s0 s1 s2 s3; go_simp; with_reducible rfl)
        try simp only [Act.put]
        try simp only [List.setIfInBounds_toArray]
        try simp only [List.set_cons_succ]
        try simp only [List.set_cons_zero]
        refine takeL 2 (v := ?_) rfl (some 45) rfl (by decide) (by kernel_rfl) (by kernel_rfl) (by kernel_rfl) (by kernel_rfl) (fun _ _ _ h => h) (Or.inl ⟨by rfl, ?_⟩) hSS ?_
        rotate_left
        . (intro y hy; have j3 := hy.1.cell 3; have k3 := hy.2.1.cell 3; have r0 := hy.2.2.1 0 _ rfl; have s0 := hy.2.2.2 0 _ rfl; have r1 := hy.2.2.1 1 _ rfl; have s1 := hy.2.2.2 1 _ rfl; have r2 := hy.2.2.1 2 _ rfl; have s2 := hy.2.2.2 2 _ rfl; have r3 := hy.2.2.1 3 _ rfl; have s3 := hy.2.2.2 3 _ rfl; simp only [List.getElem?_cons_zero, List.getElem?_cons_succ, Nat.add_zero] at j3 k3 r0 r1 r2 r3 s0 s1 s2 s3; go_simp; with_reducible rfl)
        try simp only [Act.put]
        try simp only [List.setIfInBounds_toArray]
        try simp only [List.set_cons_succ]
        try simp only [List.set_cons_zero]
        refine takeL 3 (v := ?_) rfl (some 46) rfl (by decide) (by kernel_rfl) (by kernel_rfl) (by kernel_rfl) (by kernel_rfl) (fun _ _ _ h => h) (Or.inl ⟨by rfl, ?_⟩) hSS ?_
        rotate_left
        . (intro y hy; have j3 := hy.1.cell 3; have k3 := hy.2.1.cell 3; have r0 := hy.2.2.1 0 _ rfl; have s0 := hy.2.2.2 0 _ rfl; have r1 := hy.2.2.1 1 _ rfl; have s1 := hy.2.2.2 1 _ rfl; have r2 := hy.2.2.1 2 _ rfl; have s2 := hy.2.2.2 2 _ rfl; have r3 := hy.2.2.1 3 _ rfl; have s3 := hy.2.2.2 3 _ rfl; simp only [List.getElem?_cons_zero, List.getElem?_cons_succ, Nat.add_zero] at j3 k3 r0 r1 r2 r3 s0 s1 s2 s3; go_simp; with_reducible rfl)
        try simp only [Act.put]
        try simp only [List.setIfInBounds_toArray]
        try simp only [List.set_cons_succ]
        try simp only [List.set_cons_zero]
        refine takeL 4 (v := ?_) rfl (some 47) rfl (by decide) (by kernel_rfl) (by kernel_rfl) (by kernel_rfl) (by kernel_rfl) (fun _ _ _ h => h) (Or.inl ⟨by rfl, ?_⟩) hSS ?_
        rotate_left
        . (intro y hy; have j3 := hy.1.cell 3; have k3 := hy.2.1.cell 3; have r0 := hy.2.2.1 0 _ rfl; have s0 := hy.2.2.2 0 _ rfl; have r1 := hy.2.2.1 1 _ rfl; have s1 := hy.2.2.2 1 _ rfl; have r2 := hy.2.2.1 2 _ rfl; have s2 := hy.2.2.2 2 _ rfl; have r3 := hy.2.2.1 3 _ rfl; have s3 := hy.2.2.2 3 _ rfl; simp only [List.getElem?_cons_zero, List.getElem?_cons_succ, Nat.add_zero] at j3 k3 r0 r1 r2 r3 s0 s1 s2 s3; go_simp; with_reducible rfl)
        try simp only [Act.put]
        try simp only [List.setIfInBounds_toArray]
        try simp only [List.set_cons_succ]
        try simp only [List.set_cons_zero]
        refine takeL 5 (v := ?_) rfl (some 48) rfl (by decide) (by kernel_rfl) (by kernel_rfl) (by kernel_rfl) (by kernel_rfl) (fun _ _ _ h => h) (Or.inl ⟨by rfl, ?_⟩) hSS ?_
        rotate_left
        . (intro y hy; have j3 := hy.1.cell 3; have k3 := hy.2.1.cell 3; have r0 := hy.2.2.1 0 _ rfl; have s0 := hy.2.2.2 0 _ rfl; have r1 := hy.2.2.1 1 _ rfl; have s1 := hy.2.2.2 1 _ rfl; have r2 := hy.2.2.1 2 _ rfl; have s2 := hy.2.2.2 2 _ rfl; have r3 := hy.2.2.1 3 _ rfl; have s3 := hy.2.2.2 3 _ rfl; simp only [List.getElem?_cons_zero, List.getElem?_cons_succ, Nat.add_zero] at j3 k3 r0 r1 r2 r3 s0 s1 s2 s3; go_simp; with_reducible rfl)
        try simp only [Act.put]
        try simp only [List.setIfInBounds_toArray]
        try simp only [List.set_cons_succ]
        try simp only [List.set_cons_zero]
        refine takeL 6 (v := ?_) rfl (some 49) rfl (by decide) (by kernel_rfl) (by kernel_rfl) (by kernel_rfl) (by kernel_rfl) (fun _ _ _ h => h) (Or.inl ⟨by rfl, ?_⟩) hSS ?_
        rotate_left
        . (intro y hy; have j3 := hy.1.cell 3; have k3 := hy.2.1.cell 3; have r0 := hy.2.2.1 0 _ rfl; have s0 := hy.2.2.2 0 _ rfl; have r1 := hy.2.2.1 1 _ rfl; have s1 := hy.2.2.2 1 _ rfl; have r2 := hy.2.2.1 2 _ rfl; have s2 := hy.2.2.2 2 _ rfl; have r3 := hy.2.2.1 3 _ rfl; have s3 := hy.2.2.2 3 _ rfl; simp only [List.getElem?_cons_zero, List.getElem?_cons_succ, Nat.add_zero] at j3 k3 r0 r1 r2 r3 s0 s1 s2 s3; go_simp; with_reducible rfl)
        try simp only [Act.put]
        try simp only [List.setIfInBounds_toArray]
        try simp only [List.set_cons_succ]
        try simp only [List.set_cons_zero]
        refine takeL 7 (v := ?_) rfl (some 50) rfl (by decide) (by kernel_rfl) (by kernel_rfl) (by kernel_rfl) (by kernel_rfl) (fun _ _ _ h => h) (Or.inl ⟨by rfl, ?_⟩) hSS ?_
        rotate_left
        . (intro y hy; have j3 := hy.1.cell 3; have k3 := hy.2.1.cell 3; have r0 := hy.2.2.1 0 _ rfl; have s0 := hy.2.2.2 0 _ rfl; have r1 := hy.2.2.1 1 _ rfl; have s1 := hy.2.2.2 1 _ rfl; have r2 := hy.2.2.1 2 _ rfl; have s2 := hy.2.2.2 2 _ rfl; have r3 := hy.2.2.1 3 _ rfl; have s3 := hy.2.2.2 3 _ rfl; simp only [List.getElem?_cons_zero, List.getElem?_cons_succ, Nat.add_zero] at j3 k3 r0 r1 r2 r3 s0 s1 s2 s3; go_simp; with_reducible rfl)
        try simp only [Act.put]
        try simp only [List.setIfInBounds_toArray]
        try simp only [List.set_cons_succ]
        try simp only [List.set_cons_zero]
        refine takeL 8 (v := ?_) rfl (some 51) rfl (by decide) (by kernel_rfl) (by kernel_rfl) (by kernel_rfl) (by kernel_rfl) (fun _ _ _ h => h) (Or.inl ⟨by rfl, ?_⟩) hSS ?_
        rotate_left
        . (intro y hy; have j3 := hy.1.cell 3; have k3 := hy.2.1.cell 3; have r0 := hy.2.2.1 0 _ rfl; have s0 := hy.2.2.2 0 _ rfl; have r1 := hy.2.2.1 1 _ rfl; have s1 := hy.2.2.2 1 _ rfl; have r2 := hy.2.2.1 2 _ rfl; have s2 := hy.2.2.2 2 _ rfl; have r3 := hy.2.2.1 3 _ rfl; have s3 := hy.2.2.2 3 _ rfl; simp only [List.getElem?_cons_zero, List.getElem?_cons_succ, Nat.add_zero] at j3 k3 r0 r1 r2 r3 s0 s1 s2 s3; go_simp; with_reducible rfl)
        try simp only [Act.put]
        try simp only [List.setIfInBounds_toArray]
        try simp only [List.set_cons_succ]
        try simp only [List.set_cons_zero]
        refine takeL 9 (v := ?_) rfl (some 52) rfl (by decide) (by kernel_rfl) (by kernel_rfl) (by kernel_rfl) (by kernel_rfl) (fun _ _ _ h => h) (Or.inl ⟨by rfl, ?_⟩) hSS ?_
        rotate_left
        . (intro y hy; have j3 := hy.1.cell 3; have k3 := hy.2.1.cell 3; have r0 := hy.2.2.1 0 _ rfl; have s0 := hy.2.2.2 0 _ rfl; have r1 := hy.2.2.1 1 _ rfl; have s1 := hy.2.2.2 1 _ rfl; have r2 := hy.2.2.1 2 _ rfl; have s2 := hy.2.2.2 2 _ rfl; have r3 := hy.2.2.1 3 _ rfl; have s3 := hy.2.2.2 3 _ rfl; simp only [List.getElem?_cons_zero, List.getElem?_cons_succ, Nat.add_zero] at j3 k3 r0 r1 r2 r3 s0 s1 s2 s3; go_simp; with_reducible rfl)
        try simp only [Act.put]
        try simp only [List.setIfInBounds_toArray]
        try simp only [List.set_cons_succ]
        try simp only [List.set_cons_zero]
        refine readyL (rs := [10]) (by kernel_rfl) (by simp) ?_
        refine ReadyL.cons rfl (fun KK hK => ?_) ReadyL.nil
        refine wantR (by rfl) ?_
        go_simp
        refine (HH.out _ HD.out).mono ?_
        rintro _ w6 ⟨rfl, hb6⟩
        have HB6 := hidP (HD.out.trans (below_le hb6 HD.out.size))
        have hSS2 : Row w6 w.heap.size 25 [.int .i64 kd, .string SN, .slice a2 rl p2, .slice (some ⟨b1, o1, none⟩) nl p3] /\ Row w6 (w.heap.size + 1) 25 [.int .i64 kd, .string SN, .slice f2 rl g2, .slice (some ⟨b2, o2, none⟩) nl g3] /\ w6.rangeAt b1 (o1 + i * 4) [ca, cb, cc, cd] /\ w6.rangeAt b2 (o2 + i * 4) [da, db, dc, dd] := ⟨hSS.1.below hb6 hSS.1.lt, hSS.2.1.below hb6 hSS.2.1.lt, RG.out _ HB6.out⟩
        refine hK.out _ _ (fun _ => hSS2) (fun _ => ?_)
        clear hK KK hSS
        have hSS := hSS2
        clear hSS2
        try simp only [Act.put]
        try simp only [List.setIfInBounds_toArray]
        try simp only [List.set_cons_succ]
        try simp only [List.set_cons_zero]
        refine takeL 11 (v := ?_) rfl (some 54) rfl (by decide) (by kernel_rfl) (by kernel_rfl) (by kernel_rfl) (by kernel_rfl) (fun _ _ _ h => h) (Or.inl ⟨by rfl, ?_⟩) hSS ?_
        rotate_left
        . (intro y hy; have j3 := hy.1.cell 3; have k3 := hy.2.1.cell 3; have r0 := hy.2.2.1 0 _ rfl; have s0 := hy.2.2.2 0 _ rfl; have r1 := hy.2.2.1 1 _ rfl; have s1 := hy.2.2.2 1 _ rfl; have r2 := hy.2.2.1 2 _ rfl; have s2 := hy.2.2.2 2 _ rfl; have r3 := hy.2.2.1 3 _ rfl; have s3 := hy.2.2.2 3 _ rfl; simp only [List.getElem?_cons_zero, List.getElem?_cons_succ, Nat.add_zero] at j3 k3 r0 r1 r2 r3 s0 s1 s2 s3; go_simp; with_reducible rfl)
        try simp only [Act.put]
        try simp only [List.setIfInBounds_toArray]
        try simp only [List.set_cons_succ]
        try simp only [List.set_cons_zero]
        refine doneL (by kernel_rfl) ?_ _
        go_wp2_with fail
        go_roundg (gk - 1)
        case measure => omega
        case rel => exact ⟨i + 1, by omega, by go_num, HB6.out, hSS.1, hSS.2.1⟩
      . have e : i = nl := by omega
        subst e
        clear hlt hr0 hr1
        go_wp2_with fail
        go_ret
        exact ⟨rfl, HB.out⟩
end Go.Proofs.YtldbbkheemnnhaaGreatDoor
