/-
  types.ask and types.Sub.
-/
import Derived.Test.YtldbbkheemnnhaaGreatDoorQpPu8
namespace Go.Proofs.YtldbbkheemnnhaaGreatDoor
open Go.RowKit
def ownP (both : Bool) (a b : RTy) : List (Int × Int) := if a.kind = 3 then pairL true (ownR a) (ownR b) else if a.kind = 4 ∨ a.kind = 5 then pairL both (ownR a) (ownR b) else []
def askL : Nat -> Bool -> RTy -> RTy -> List (Int × Int)
 | 0, _, _, _ => []
 | n + 1, both, a, b => ownP both a b ++ (match nxtR a, nxtR b with
  | some x, some y => askL n (both || a.kind == 5) x y
  | _, _ => [])
def resA (m : Nat) (both : Bool) : Option RTy -> Option RTy -> List (Int × Int)
 | some a, some b => askL m both a b
 | _, _ => []
theorem askL_succ (n : Nat) (both : Bool) (a b : RTy) : askL (n + 1) both a b = ownP both a b ++ resA n (both || a.kind == 5) (nxtR a) (nxtR b) := by
 simp only [askL]
 cases nxtR a <;> cases nxtR b <;> rfl
def sameO (m : Nat) : Option RTy -> Option RTy -> Prop
 | some a, some b => sameN m a b = true
 | none, none => True
 | _, _ => False
theorem sameN_parts {n : Nat} {a b : RTy} (h : sameN (n + 1) a b = true) : a.kind = b.kind /\ a.name = b.name /\ a.regs.length = b.regs.length /\ allS (sameN n) a.elem b.elem = true := by
 simp only [sameN, Bool.and_eq_true, beq_iff_eq, decide_eq_true_eq] at h
 exact ⟨h.1, h.2.1, h.2.2.1, h.2.2.2⟩
theorem sameN_next {n : Nat} {a b : RTy} (h : sameN (n + 1) a b = true) : sameO n (nxtR a) (nxtR b) := by
 obtain ⟨h1, _, _, h4⟩ := sameN_parts h
 unfold nxtR
 rw [← h1]
 split
 ·generalize a.elem = x at h4
  generalize b.elem = y at h4
  match x, y, h4 with
  | [], [], _ => trivial
  | x :: _, y :: _, h4 =>
   simp only [allS, Bool.and_eq_true] at h4
   exact h4.1
  | [], _ :: _, h4 => cases h4
  | _ :: _, [], h4 => cases h4
 ·trivial
theorem sameN_own {n : Nat} {a b : RTy} (h : sameN (n + 1) a b = true) : (ownR a).length = (ownR b).length := by
 obtain ⟨h1, _, h3, _⟩ := sameN_parts h
 unfold ownR
 rw [← h1]
 split
 ·exact h3
 ·split
  ·rw [List.length_take, List.length_take, h3]
  ·rfl
theorem pairL_ge {both : Bool} : ∀ {l m : List Int}, l.length <= m.length -> l.length <= (pairL both l m).length
 | [], _, _ => Nat.zero_le _
 | _ :: _, [], h => by cases h
 | x :: l, y :: m, h => by
  have := pairL_ge (both := both) (l := l) (m := m) (by simpa using h)
  simp only [pairL, List.length_append, List.length_cons]
  split <;> simp <;> omega
set_option maxHeartbeats 16000000 in
set_option maxRecDepth 20000 in
theorem ask53 {K : Ctx} {w : World} {n n2 : Nat} {va vb : Value} {t u : RTy} (ha : PtR n K w va (some t)) (hb : PtR n2 K w vb (some u)) (hs : sameN n t u = true) (hC : K.C <= w.heap.size) (hl : (askL n false t u).length <= 40000) :
  Calls Tryz.prog 53 #[va, vb] w fun ev w' => ∃ v, ev = .returned v /\ Below w.heap.size w w' /\ w'.ownsRow w.heap.size 32 2 v (askL n false t u).length (pvs (askL n false t u)) := by
 have HA := hidP ha
 have HB := hidP hb
 have HS := hidP hs
 have HC := hidP hC
 have HL := hidP hl
 clear ha hb hs hC hl
 generalize hR : askL n false t u = R at *
 have HR := hidP hR
 clear hR
 go_enter Tryz.func53, Tryz.ntmps53
 go_wp2_with fail
 go_loopg [0, 1, 5, 6] n (fun k v0 v1 v5 v6 wr => ∃ (ca cb : Option RTy) (m m2 : Nat) (both : Bool) (acc : List (Int × Int)), PtR m K wr v0 ca /\ PtR m2 K wr v1 cb /\ v6 = .bool both /\ acc ++ resA m both ca cb = R /\ sameO m ca cb /\ m <= k /\ wr.ownsRow w.heap.size 32 2 v5 acc.length (pvs acc) /\ Below w.heap.size w wr)
 case atStart => exact ⟨some t, some u, n, n2, false, [], HA.out, HB.out, rfl, HR.out, HS.out, Nat.le_refl _, ⟨rfl, .inl ⟨rfl, rfl⟩⟩, Below.refl _ _⟩
 case round =>
  obtain ⟨ca, cb, m, m2, both, acc, hpa, hpb, rfl, he, hso, hm, ho, hbl⟩ := hrel
  have HE := hidP he
  have HO := hidP ho
  have HBL := hidP hbl
  clear HA HB HS HR he ho hbl
  rcases ca with _ | a
  ·rcases cb with _ | b
   ·have hpa' : _ = _ := hpa
    subst hpa'
    have hpb' : _ = _ := hpb
    subst hpb'
    have HF := hidP (show acc = R by have := HE.out; simpa [resA] using this)
    clear hpa hpb hso HE
    go_wp2_with fail
    go_ret
    exact ⟨_, rfl, HBL.out, by rw [← HF.out]; exact HO.out⟩
   ·exact hso.elim
  ·rcases cb with _ | b
   ·exact hso.elim
   ·obtain ⟨b1, o1, c1, rfl, hb1, r1, T1⟩ := hpa
    obtain ⟨b2, o2, c2, rfl, hb2, r2, T2⟩ := hpb
    obtain ⟨m, rfl⟩ : ∃ j, m = j + 1 := by
     cases m with
     | zero => exact T1.elim
     | succ j => exact ⟨j, rfl⟩
    obtain ⟨m2, rfl⟩ : ∃ j, m2 = j + 1 := by
     cases m2 with
     | zero => exact T2.elim
     | succ j => exact ⟨j, rfl⟩
    have hsn : sameN (m + 1) a b = true := hso
    have HSN := hidP (sameN_next hsn)
    have HOL := hidP (sameN_own hsn)
    have OWA := hidP (own37 T1 r1)
    have OWB := hidP (own37 T2 r2)
    have WIA := hidP (fun (y : World) (hy : Below w.heap.size wr y) => within36 (T1.below (below_le hy HC.out)) (range_le r1 hy (Nat.lt_of_lt_of_le hb1 HC.out)))
    have WIB := hidP (fun (y : World) (hy : Below w.heap.size wr y) => within36 (T2.below (below_le hy HC.out)) (range_le r2 hy (Nat.lt_of_lt_of_le hb2 HC.out)))
    have hq : acc ++ (ownP both a b ++ resA m (both || a.kind == 5) (nxtR a) (nxtR b)) = R := by
     rw [← askL_succ]; exact HE.out
    have HQ := hidP hq
    have c0 : wr.cell? ⟨b1, o1, none⟩ = some (.int .i64 a.kind) := by
     obtain ⟨_, _, rfl, _⟩ := T1
     have := r1 0 _ rfl
     rwa [Nat.add_zero] at this
    have HOP := hidP (show ownP both a b = if a.kind = 3 then pairL true (ownR a) (ownR b) else if a.kind = 4 ∨ a.kind = 5 then pairL both (ownR a) (ownR b) else [] from rfl)
    have hm' : m + 1 <= gk := hm
    clear hso hsn HE r1 r2 T1 T2 hb1 hb2 hq hm
    generalize a.kind = kd at *
    obtain ⟨a5, p5, rfl⟩ := own_slice HO.out
    rcases (show kd = 3 ∨ kd = 4 ∨ kd = 5 ∨ (kd ≠ 3 /\ kd ≠ 4 /\ kd ≠ 5) by omega) with rfl | rfl | rfl | ⟨h3, h4, h5⟩
    ·have HP := hidP (show ownP both a b = pairL true (ownR a) (ownR b) from HOP.out.trans (if_pos rfl))
     have HN := hidP (show acc.length + 2 * (ownR a).length <= 90000 by
      have h1 := congrArg List.length HQ.out
      rw [HP.out, List.length_append, List.length_append] at h1
      have h2 := pairL_ge (both := true) (l := ownR a) (m := ownR b) (Nat.le_of_eq HOL.out)
      have := HL.out
      omega)
     clear HOP
     go_wp2_with fail
     refine OWA.out.mono ?_
     rintro _ _ ⟨ua, rfl, rfl, hua⟩
     have HUA := hidP hua
     clear OWA hua
     go_wp2_with fail
     refine OWB.out.mono ?_
     rintro _ _ ⟨ub, rfl, rfl, hub⟩
     have HUB := hidP hub
     clear OWB hub
     go_wp2_with fail
     refine (pairUp78 HO.out HUA.out HUB.out HC.out HBL.out.size (Nat.le_of_eq HOL.out) HN.out).mono ?_
     rintro _ w6 ⟨v6, rfl, hb6, ho6⟩
     obtain ⟨acc6, hX⟩ : ∃ q, q = acc ++ pairL true (ownR a) (ownR b) := ⟨_, rfl⟩
     rw [← hX] at ho6
     have HX := hidP hX
     have HO6 := hidP ho6
     have HB6 := hidP hb6
     clear hX
     obtain ⟨a6, p6, rfl⟩ := own_slice ho6
     clear HUA HUB HO HN ho6 hb6 c0
     go_wp2_with fail
     refine (WIA.out w6 HB6.out).mono ?_
     rintro _ _ ⟨u7, rfl, rfl, hu7⟩
     have HU7 := hidP hu7
     have WB := hidP (WIB.out _ HB6.out)
     clear WIA WIB hu7
     go_wp2_with fail
     refine WB.out.mono ?_
     rintro _ _ ⟨u8, rfl, rfl, hu8⟩
     have HU8 := hidP hu8
     clear WB hu8
     go_wp2_with fail
     go_roundg (gk - 1)
     case measure => omega
     case rel => exact ⟨nxtR a, nxtR b, m, m2, both, acc6, HU7.out, HU8.out, rfl, by
       have := HQ.out
       rw [HP.out, ← List.append_assoc, ← HX.out] at this
       simpa using this, HSN.out, by omega, HO6.out, HBL.out.trans HB6.out⟩
    ·have HP := hidP (show ownP both a b = pairL both (ownR a) (ownR b) from HOP.out.trans ((if_neg (by decide)).trans (if_pos (.inl rfl))))
     have HN := hidP (show acc.length + 2 * (ownR a).length <= 90000 by
      have h1 := congrArg List.length HQ.out
      rw [HP.out, List.length_append, List.length_append] at h1
      have h2 := pairL_ge (both := both) (l := ownR a) (m := ownR b) (Nat.le_of_eq HOL.out)
      have := HL.out
      omega)
     clear HOP
     go_wp2_with fail
     refine OWA.out.mono ?_
     rintro _ _ ⟨ua, rfl, rfl, hua⟩
     have HUA := hidP hua
     clear OWA hua
     go_wp2_with fail
     refine OWB.out.mono ?_
     rintro _ _ ⟨ub, rfl, rfl, hub⟩
     have HUB := hidP hub
     clear OWB hub
     go_wp2_with fail
     refine (pairUp78 HO.out HUA.out HUB.out HC.out HBL.out.size (Nat.le_of_eq HOL.out) HN.out).mono ?_
     rintro _ w6 ⟨v6, rfl, hb6, ho6⟩
     obtain ⟨acc6, hX⟩ : ∃ q, q = acc ++ pairL both (ownR a) (ownR b) := ⟨_, rfl⟩
     rw [← hX] at ho6
     have HX := hidP hX
     have HO6 := hidP ho6
     have HB6 := hidP hb6
     clear hX
     obtain ⟨a6, p6, rfl⟩ := own_slice ho6
     clear HUA HUB HO HN ho6 hb6 c0
     go_wp2_with fail
     refine (WIA.out w6 HB6.out).mono ?_
     rintro _ _ ⟨u7, rfl, rfl, hu7⟩
     have HU7 := hidP hu7
     have WB := hidP (WIB.out _ HB6.out)
     clear WIA WIB hu7
     go_wp2_with fail
     refine WB.out.mono ?_
     rintro _ _ ⟨u8, rfl, rfl, hu8⟩
     have HU8 := hidP hu8
     clear WB hu8
     go_wp2_with fail
     go_roundg (gk - 1)
     case measure => omega
     case rel => exact ⟨nxtR a, nxtR b, m, m2, both, acc6, HU7.out, HU8.out, rfl, by
       have := HQ.out
       rw [HP.out, ← List.append_assoc, ← HX.out] at this
       simpa using this, HSN.out, by omega, HO6.out, HBL.out.trans HB6.out⟩
    ·have HP := hidP (show ownP both a b = pairL both (ownR a) (ownR b) from HOP.out.trans ((if_neg (by decide)).trans (if_pos (.inr rfl))))
     have HN := hidP (show acc.length + 2 * (ownR a).length <= 90000 by
      have h1 := congrArg List.length HQ.out
      rw [HP.out, List.length_append, List.length_append] at h1
      have h2 := pairL_ge (both := both) (l := ownR a) (m := ownR b) (Nat.le_of_eq HOL.out)
      have := HL.out
      omega)
     clear HOP
     go_wp2_with fail
     refine OWA.out.mono ?_
     rintro _ _ ⟨ua, rfl, rfl, hua⟩
     have HUA := hidP hua
     clear OWA hua
     go_wp2_with fail
     refine OWB.out.mono ?_
     rintro _ _ ⟨ub, rfl, rfl, hub⟩
     have HUB := hidP hub
     clear OWB hub
     go_wp2_with fail
     refine (pairUp78 HO.out HUA.out HUB.out HC.out HBL.out.size (Nat.le_of_eq HOL.out) HN.out).mono ?_
     rintro _ w6 ⟨v6, rfl, hb6, ho6⟩
     obtain ⟨acc6, hX⟩ : ∃ q, q = acc ++ pairL both (ownR a) (ownR b) := ⟨_, rfl⟩
     rw [← hX] at ho6
     have HX := hidP hX
     have HO6 := hidP ho6
     have HB6 := hidP hb6
     clear hX
     obtain ⟨a6, p6, rfl⟩ := own_slice ho6
     clear HUA HUB HO HN ho6 hb6 c0
     go_wp2_with fail
     refine (WIA.out w6 HB6.out).mono ?_
     rintro _ _ ⟨u7, rfl, rfl, hu7⟩
     have HU7 := hidP hu7
     have WB := hidP (WIB.out _ HB6.out)
     clear WIA WIB hu7
     go_wp2_with fail
     refine WB.out.mono ?_
     rintro _ _ ⟨u8, rfl, rfl, hu8⟩
     have HU8 := hidP hu8
     clear WB hu8
     go_wp2_with fail
     go_roundg (gk - 1)
     case measure => omega
     case rel => exact ⟨nxtR a, nxtR b, m, m2, true, acc6, HU7.out, HU8.out, rfl, by
       have := HQ.out
       rw [HP.out, ← List.append_assoc, ← HX.out] at this
       simpa using this, HSN.out, by omega, HO6.out, HBL.out.trans HB6.out⟩
    ·have HP := hidP (show ownP both a b = [] from HOP.out.trans ((if_neg h3).trans (if_neg (by omega))))
     have e3 : (kd == 3) = false := by simpa using h3
     have e4 : (kd == 4) = false := by simpa using h4
     have e5 : (kd == 5) = false := by simpa using h5
     have WA := hidP (WIA.out _ (Below.refl _ _))
     have WB := hidP (WIB.out _ (Below.refl _ _))
     clear HOP OWA OWB WIA WIB h3 h4
     go_wp2_with fail
     refine WA.out.mono ?_
     rintro _ _ ⟨u7, rfl, rfl, hu7⟩
     have HU7 := hidP hu7
     clear WA hu7
     go_wp2_with fail
     refine WB.out.mono ?_
     rintro _ _ ⟨u8, rfl, rfl, hu8⟩
     have HU8 := hidP hu8
     clear WB hu8
     go_wp2_with fail
     go_roundg (gk - 1)
     case measure => omega
     case rel => exact ⟨nxtR a, nxtR b, m, m2, both, acc, HU7.out, HU8.out, rfl, by
       have := HQ.out
       rw [HP.out, e5, Bool.or_false] at this
       simpa using this, HSN.out, by omega, HO.out, HBL.out⟩
def subL (n : Nat) (t u : RTy) : List (Int × Int) := if sameN n t u = true then askL n false t u else []
set_option maxHeartbeats 16000000 in
set_option maxRecDepth 20000 in
theorem sub32 {K : Ctx} {w : World} {n n2 : Nat} {cs ds : List Value} {t u : RTy} (ht : RtAt n K w cs t) (hu : RtAt n2 K w ds u) (hC : K.C <= w.heap.size) (hl : sameN n t u = true -> (askL n false t u).length <= 40000) :
  Calls Tryz.prog 32 #[.agg cs.toArray, .agg ds.toArray] w fun ev w' => ∃ v, ev = .returned v /\ Below w.heap.size w w' /\ w'.ownsRow w.heap.size 32 2 v (subL n t u).length (pvs (subL n t u)) := by
 have HA := hidP (alloc_two w (.cells cs.toArray 25) (.cells ds.toArray 25))
 have R0 := hidP ((Row.new w 25 cs).alloc (.cells ds.toArray 25))
 have R1 := hidP (Row.new (w.alloc (.cells cs.toArray 25)) 25 ds)
 have hz := size_two w (.cells cs.toArray 25) (.cells ds.toArray 25)
 have hCW : K.C <= ((w.alloc (.cells cs.toArray 25)).alloc (.cells ds.toArray 25)).heap.size := Nat.le_trans hC HA.out.size
 have SM := hidP (same27 n (ht.below (below_le HA.out hC)) (hu.below (below_le HA.out hC)) hCW)
 have HT := hidP (fun (y : World) (hy : Below w.heap.size w y) => And.intro (ht.below (below_le hy hC)) (hu.below (below_le hy hC)))
 have HL := hidP hl
 have HC := hidP hC
 have s1 := hidP (show (Tryz.prog.info? 25).map (·.size) = some cs.length by rw [ht.len]; exact Tryz.sz25)
 have s2 := hidP (show (Tryz.prog.info? 25).map (·.size) = some ds.length by rw [hu.len]; exact Tryz.sz25)
 rw [size_alloc] at R1
 have HZ := hidP hz
 clear ht hu hl hC hCW hz
 go_enter Tryz.func32, Tryz.ntmps32
 go_wp2_with (first | (refine ldR rfl 25 (.tmp 2) rfl rfl R0.out Tryz.underlying25 rfl s1.out ?_) | (refine ldR rfl 25 (.tmp 3) rfl rfl R1.out Tryz.underlying25 rfl s2.out ?_))
 refine SM.out.mono ?_
 rintro _ w3 ⟨rfl, hb3⟩
 have R03 := hidP (R0.out.below hb3 (by have := HZ.out; omega))
 have R13 := hidP (R1.out.below hb3 (by have := HZ.out; omega))
 have hz3 : w.heap.size + 2 <= w3.heap.size := by have := HZ.out; have := hb3.size; omega
 have HZ3 := hidP hz3
 have HB3 := hidP (HA.out.trans (below_le hb3 HA.out.size))
 clear SM R0 R1 HA HZ hb3 hz3
 rcases hsn : sameN n t u with _ | _
 ·have HX := hidP (show subL n t u = [] from if_neg (by rw [hsn]; decide))
  clear hsn
  go_wp2_with fail
  go_ret
  exact ⟨_, rfl, HB3.out, by rw [HX.out]; exact ⟨rfl, .inl ⟨rfl, rfl⟩⟩⟩
 ·have hTU := HT.out _ HB3.out
  have AK := hidP (ask53 (K := K.up w3.heap.size) (va := .pointer (some ⟨w.heap.size, 0, none⟩)) (vb := .pointer (some ⟨w.heap.size + 1, 0, none⟩)) ⟨w.heap.size, 0, cs, rfl, by show w.heap.size < w3.heap.size; have := HZ3.out; omega, R03.out.range, hTU.1.up (by have := HC.out; have := HZ3.out; omega)⟩ ⟨w.heap.size + 1, 0, ds, rfl, by show w.heap.size + 1 < w3.heap.size; have := HZ3.out; omega, R13.out.range, hTU.2.up (by have := HC.out; have := HZ3.out; omega)⟩ hsn (Nat.le_refl _) (HL.out hsn))
  have HX := hidP (show subL n t u = askL n false t u from if_pos hsn)
  clear hsn hTU R03 R13 HT
  go_wp2_with fail
  refine AK.out.mono ?_
  rintro _ w4 ⟨v4, rfl, hb4, ho4⟩
  have HB4 := hidP (HB3.out.trans (below_le hb4 HB3.out.size))
  have HO4 := hidP (own_base ho4 HB3.out.size)
  clear AK ho4 hb4
  go_wp2_with fail
  go_ret
  exact ⟨_, rfl, HB4.out, by rw [HX.out]; exact HO4.out⟩
end Go.Proofs.YtldbbkheemnnhaaGreatDoor
