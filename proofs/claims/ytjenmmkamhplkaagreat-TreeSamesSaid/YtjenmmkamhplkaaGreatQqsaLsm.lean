/-
  TreeSames: the walk.
-/
import Derived.Test.YtjenmmkamhplkaaGreatJqsaMfd3
import Derived.Test.YtjenmmkamhplkaaGreatQqsaXbc
import Derived.Test.YtjenmmkamhplkaaGreatQqsaXsm
import Derived.Test.YtjenmmkamhplkaaGreatJqsaXct4
import Derived.Test.YtjenmmkamhplkaaGreatQqsaOpe
import Derived.Deep.RegionHeld3
namespace Go.Proofs.YtjenmmkamhplkaaGreat
open Go.RowKit
theorem slice_of {α : Type} {z bz : Nat} {P : List Value -> α -> Prop} {K : Ctx} {w : World} {v : Value} {l : List α} (h : Ar z bz P K w v l) : ∃ p n m, v = .slice p n m := by
  obtain ⟨ao, cap, e⟩ := h.form
  exact ⟨_, _, _, e⟩
theorem bool_for (p : Prop) : ∃ B : Bool, B = true ↔ p := by
  by_cases h : p
  . exact ⟨true, fun _ => h, fun _ => rfl⟩
  . exact ⟨false, fun h' => absurd h' (by decide), fun h' => absurd h' h⟩
set_option maxHeartbeats 16000000 in
set_option maxRecDepth 20000 in
theorem sames_walk {n : Nat} {K : Ctx} {w : World} (hC : K.C <= w.heap.size) (hm : ∃ m, w.cell? ⟨0, 0, none⟩ = some (.int .i64 m)) {a b : Crt} {t u : Ty} {ca cb ct cu : List Value} (ha : CrtAt n K w ca a) (hb : CrtAt n K w cb b) (ht : IsTy K w ct t) (hu : IsTy K w cu u) :
    Calls Tryz.prog 4 #[.agg ca.toArray, .agg cb.toArray, .agg ct.toArray, .agg cu.toArray] w fun ev w' => ev = .returned (.bool true) /\ Below w.heap.size w w' := by
  have ka := ha
  have kb := hb
  obtain ⟨a0, a1, rfl, ha0, ha1⟩ := ha
  obtain ⟨b0, b1, rfl, hb0, hb1⟩ := hb
  obtain ⟨t0, t1, t2, t3, rfl⟩ := lst4 ht.len
  obtain ⟨u0, u1, u2, u3, rfl⟩ := lst4 hu.len
  obtain ⟨w4, hw4⟩ : ∃ w4, w4 = ((((w.alloc (.cells #[a0, a1] 25)).alloc (.cells #[b0, b1] 25)).alloc (.cells #[t0, t1, t2, t3] 31)).alloc (.cells #[u0, u1, u2, u3] 31)) := ⟨_, rfl⟩
  have hsz : w4.heap.size = w.heap.size + 4 := by rw [hw4, size_alloc, size_alloc, size_alloc, size_alloc]
  have hA : Below w.heap.size w w4 := by rw [hw4]; exact (alloc_two w _ _).trans (below_le (alloc_two _ _ _) (by rw [size_alloc, size_alloc]; omega))
  have R0 : Row w4 (w.heap.size) 25 [a0, a1] := by
    have h1 := Row.new w 25 [a0, a1]
    rw [hw4]; exact (((h1.alloc _).alloc _).alloc _)
  have R1 : Row w4 (w.heap.size + 1) 25 [b0, b1] := by
    have h1 := Row.new (w.alloc (.cells #[a0, a1] 25)) 25 [b0, b1]
    rw [size_alloc] at h1
    rw [hw4]; exact ((h1.alloc _).alloc _)
  have R2 : Row w4 (w.heap.size + 1 + 1) 31 [t0, t1, t2, t3] := by
    have h1 := Row.new ((w.alloc (.cells #[a0, a1] 25)).alloc (.cells #[b0, b1] 25)) 31 [t0, t1, t2, t3]
    rw [size_alloc, size_alloc] at h1
    rw [hw4]; exact (h1.alloc _)
  have R3 : Row w4 (w.heap.size + 1 + 1 + 1) 31 [u0, u1, u2, u3] := by
    have h1 := Row.new (((w.alloc (.cells #[a0, a1] 25)).alloc (.cells #[b0, b1] 25)).alloc (.cells #[t0, t1, t2, t3] 31)) 31 [u0, u1, u2, u3]
    rw [size_alloc, size_alloc, size_alloc] at h1
    rw [hw4]; exact h1
  have HS : Hid (∀ y, Below w4.heap.size w4 y -> y.cell? ⟨w.heap.size, 0, none⟩ = some a0 /\ y.cell? ⟨w.heap.size, 1, none⟩ = some a1 /\ y.cell? ⟨w.heap.size + 1, 0, none⟩ = some b0 /\ y.cell? ⟨w.heap.size + 1, 1, none⟩ = some b1 /\ y.cell? ⟨w.heap.size + 1 + 1, 0, none⟩ = some t0 /\ y.cell? ⟨w.heap.size + 1 + 1, 1, none⟩ = some t1 /\ y.cell? ⟨w.heap.size + 1 + 1, 2, none⟩ = some t2 /\ y.cell? ⟨w.heap.size + 1 + 1, 3, none⟩ = some t3 /\ y.cell? ⟨w.heap.size + 1 + 1 + 1, 0, none⟩ = some u0 /\ y.cell? ⟨w.heap.size + 1 + 1 + 1, 1, none⟩ = some u1 /\ y.cell? ⟨w.heap.size + 1 + 1 + 1, 2, none⟩ = some u2 /\ y.cell? ⟨w.heap.size + 1 + 1 + 1, 3, none⟩ = some u3) := by
    intro y hy
    exact ⟨(R0.below hy R0.lt).cell 0, (R0.below hy R0.lt).cell 1, (R1.below hy R1.lt).cell 0, (R1.below hy R1.lt).cell 1, (R2.below hy R2.lt).cell 0, (R2.below hy R2.lt).cell 1, (R2.below hy R2.lt).cell 2, (R2.below hy R2.lt).cell 3, (R3.below hy R3.lt).cell 0, (R3.below hy R3.lt).cell 1, (R3.below hy R3.lt).cell 2, (R3.below hy R3.lt).cell 3⟩
  have HB0 : Hid (Below w4.heap.size w4 ((((w.alloc (.cells #[a0, a1] 25)).alloc (.cells #[b0, b1] 25)).alloc (.cells #[t0, t1, t2, t3] 31)).alloc (.cells #[u0, u1, u2, u3] 31))) := by show Below _ _ _; rw [← hw4]; exact Below.refl _ _
  have HW : Hid (∀ y, Below w4.heap.size w4 y -> Below w.heap.size w y) := fun y hy => hA.trans (below_le hy (by omega))
  have HK : ∀ y, Below w4.heap.size w4 y -> Below K.C w y := fun y hy => below_le (HW.out y hy) hC
  have HC : ∀ y, Below w4.heap.size w4 y -> K.C <= y.heap.size := fun y hy => by have := hy.size; omega
  have hpos : 0 < w.heap.size := by
    obtain ⟨m, hm⟩ := hm
    exact World.block_lt_of_cell? w ⟨0, 0, none⟩ hm
  have C8 : Hid (∀ y, Below w4.heap.size w4 y -> Calls Tryz.prog 8 #[] y fun ev y' => ev = .returned (.bool true) /\ Below y.heap.size y y') := by
    intro y hy
    obtain ⟨m, hm⟩ := hm
    refine (told_any y ⟨m, ((HW.out y hy).cell (p := ⟨0, 0, none⟩) hpos).trans hm⟩).mono ?_
    rintro _ y' ⟨rfl, h⟩
    exact ⟨rfl, h⟩
  have nx : ∀ y y', Below w4.heap.size w4 y -> Below y.heap.size y y' -> Below w4.heap.size w4 y' := fun y y' hy h => hy.trans (below_le h hy.size)
  obtain ⟨p0, n0, m0, e0⟩ := slice_of ha0
  obtain ⟨p1, n1, m1, e1⟩ := slice_of ha1
  obtain ⟨p2, n2, m2, e2⟩ := slice_of hb0
  obtain ⟨p3, n3, m3, e3⟩ := slice_of hb1
  obtain ⟨q2, l2, c2, q3, l3, c3, et⟩ := ht.open
  obtain ⟨q4, l4, c4, q5, l5, c5, eu⟩ := hu.open
  obtain ⟨GA, hGA⟩ := bool_for (GrtC n a)
  obtain ⟨GB, hGB⟩ := bool_for (GrtC n b)
  obtain ⟨B1, hB1⟩ := bool_for (a = b)
  obtain ⟨B2, hB2⟩ := bool_for (t = u)
  have C7a : Hid (∀ y, Below w4.heap.size w4 y -> Calls Tryz.prog 7 #[.agg #[a0, a1]] y fun ev y' => ev = .returned (.bool GA) /\ Below y.heap.size y y') := by
    intro y hy
    refine (great_any (HC y hy) (ka.below (HK y hy)) GA hGA).mono ?_
    rintro _ y' ⟨rfl, h⟩
    exact ⟨rfl, h⟩
  have C7b : Hid (∀ y, Below w4.heap.size w4 y -> Calls Tryz.prog 7 #[.agg #[b0, b1]] y fun ev y' => ev = .returned (.bool GB) /\ Below y.heap.size y y') := by
    intro y hy
    refine (great_any (HC y hy) (kb.below (HK y hy)) GB hGB).mono ?_
    rintro _ y' ⟨rfl, h⟩
    exact ⟨rfl, h⟩
  have C12 : Hid (∀ y, Below w4.heap.size w4 y -> Calls Tryz.prog 12 #[.agg #[a0, a1], .agg #[b0, b1]] y fun ev y' => ev = .returned (.bool B1) /\ Below y.heap.size y y') := by
    intro y hy
    refine (same_any (HC y hy) (ka.below (HK y hy)) (kb.below (HK y hy)) B1 hB1).mono ?_
    rintro _ y' ⟨rfl, h⟩
    exact ⟨rfl, h⟩
  have C13 : Hid (∀ y, Below w4.heap.size w4 y -> Calls Tryz.prog 13 #[.agg #[a0, a1], .agg #[b0, b1]] y fun ev y' => ev = .returned (.bool B1) /\ Below y.heap.size y y') := by
    intro y hy
    refine (xsame_any (HC y hy) (ka.below (HK y hy)) (kb.below (HK y hy)) B1 hB1).mono ?_
    rintro _ y' ⟨rfl, h⟩
    exact ⟨rfl, h⟩
  have C12a : Hid (∀ y, Below w4.heap.size w4 y -> Calls Tryz.prog 12 #[.agg #[a0, a1], .agg #[a0, a1]] y fun ev y' => ev = .returned (.bool true) /\ Below y.heap.size y y') := by
    intro y hy
    refine (same_any (HC y hy) (ka.below (HK y hy)) (ka.below (HK y hy)) true ⟨fun _ => rfl, fun _ => rfl⟩).mono ?_
    rintro _ y' ⟨rfl, h⟩
    exact ⟨rfl, h⟩
  have C15 : Hid (∀ y, Below w4.heap.size w4 y -> Calls Tryz.prog 15 #[.agg #[t0, t1, t2, t3], .agg #[u0, u1, u2, u3]] y fun ev y' => ev = .returned (.bool B2) /\ Below y.heap.size y y') := by
    intro y hy
    refine (sameTypes2_any (HC y hy) (ht.below (HK y hy)) (hu.below (HK y hy)) B2 hB2).mono ?_
    rintro _ y' ⟨rfl, h⟩
    exact ⟨rfl, h⟩
  have C16 : Hid (∀ y, Below w4.heap.size w4 y -> Calls Tryz.prog 16 #[.agg #[t0, t1, t2, t3], .agg #[u0, u1, u2, u3]] y fun ev y' => ev = .returned (.bool B2) /\ Below y.heap.size y y') := by
    intro y hy
    refine (xsameType_any (HC y hy) (ht.below (HK y hy)) (hu.below (HK y hy)) B2 hB2).mono ?_
    rintro _ y' ⟨rfl, h⟩
    exact ⟨rfl, h⟩
  have C15t : Hid (∀ y, Below w4.heap.size w4 y -> Calls Tryz.prog 15 #[.agg #[t0, t1, t2, t3], .agg #[t0, t1, t2, t3]] y fun ev y' => ev = .returned (.bool true) /\ Below y.heap.size y y') := by
    intro y hy
    refine (sameTypes2_any (HC y hy) (ht.below (HK y hy)) (ht.below (HK y hy)) true ⟨fun _ => rfl, fun _ => rfl⟩).mono ?_
    rintro _ y' ⟨rfl, h⟩
    exact ⟨rfl, h⟩
  have C11 : Hid (∀ y, Below w4.heap.size w4 y -> Calls Tryz.prog 11 #[.agg #[a0, a1]] y fun ev y' => ∃ r0 k0 s0 r1 k1 s1, ev = .returned (.agg #[.slice r0 k0 s0, .slice r1 k1 s1]) /\ Below y.heap.size y y' /\ CrtAt n (K.up y'.heap.size) y' [.slice r0 k0 s0, .slice r1 k1 s1] (bareC n a)) := by
    intro y hy
    refine (bare_any (HC y hy) (ka.below (HK y hy))).mono ?_
    rintro _ y' ⟨v0, v1, rfl, h, hq⟩
    have hk : CrtAt n (K.up y'.heap.size) y' [v0, v1] (bareC n a) := CrtQ.to (K := K.up y'.heap.size) hq (fun b hb => hb.2)
    obtain ⟨x0, x1, ee, z0, z1⟩ := hk
    injection ee with ee1 ee
    injection ee with ee2 _
    subst ee1 ee2
    obtain ⟨r0, k0, s0, f0⟩ := slice_of z0
    obtain ⟨r1, k1, s1, f1⟩ := slice_of z1
    subst f0 f1
    exact ⟨r0, k0, s0, r1, k1, s1, rfl, h, _, _, rfl, z0, z1⟩
  have C14 : Hid (∀ y, Below w4.heap.size w4 y -> Calls Tryz.prog 14 #[.agg #[a0, a1]] y fun ev y' => ∃ r0 k0 s0 r1 k1 s1, ev = .returned (.agg #[.slice r0 k0 s0, .slice r1 k1 s1]) /\ Below y.heap.size y y' /\ CrtAt n (K.up y'.heap.size) y' [.slice r0 k0 s0, .slice r1 k1 s1] (bareC n a)) := by
    intro y hy
    refine (xbareC_any (HC y hy) (ka.below (HK y hy))).mono ?_
    rintro _ y' ⟨v0, v1, rfl, h, hq⟩
    have hcy := HC y hy
    have hsy := h.size
    have hk : CrtAt n (K.up y'.heap.size) y' [v0, v1] (bareC n a) := CrtQ.to (K := K.up y'.heap.size) hq (fun b hb => by
      show b < y'.heap.size
      rcases hb with hb | hb
      . omega
      . exact hb.2)
    obtain ⟨x0, x1, ee, z0, z1⟩ := hk
    injection ee with ee1 ee
    injection ee with ee2 _
    subst ee1 ee2
    obtain ⟨r0, k0, s0, f0⟩ := slice_of z0
    obtain ⟨r1, k1, s1, f1⟩ := slice_of z1
    subst f0 f1
    exact ⟨r0, k0, s0, r1, k1, s1, rfl, h, _, _, rfl, z0, z1⟩
  injection et with et0 et
  injection et with et1 et
  injection et with et2 et
  injection et with et3 _
  injection eu with eu0 eu
  injection eu with eu1 eu
  injection eu with eu2 eu
  injection eu with eu3 _
  subst e0 e1 e2 e3 et0 et1 et2 et3 eu0 eu1 eu2 eu3
  have HN := hid0 nx
  have HCC : Hid (∀ y, Below w4.heap.size w4 y -> K.C <= y.heap.size) := HC
  clear ha0 ha1 hb0 hb1 ka kb ht hu hA hsz hw4 R0 R1 R2 R3 HK HC hm hpos hC hB1 hB2 hGA hGB nx
  generalize t.kind = tk at *
  generalize str t.name = tn at *
  generalize u.kind = uk at *
  generalize str u.name = un at *
  go_enter Tryz.func4, Tryz.ntmps4
  go_wp2_with fail
  refine (C7a.out _ HB0.out).mono ?_
  rintro _ w5 ⟨rfl, hb5⟩
  replace hb5 := HN.out _ _ HB0.out hb5
  obtain ⟨f0, f1, f2, f3, f4, f5, f6, f7, f8, f9, f10, f11⟩ := HS.out w5 hb5
  cases GA with
  | true =>
    go_wp2_with fail
    refine (C8.out _ hb5).mono ?_
    rintro _ w6 ⟨rfl, hb6⟩
    go_wp2_with fail
    go_ret
    exact ⟨rfl, HW.out _ (HN.out _ _ hb5 hb6)⟩
  | false =>
  go_wp2_with fail
  refine (C7b.out _ hb5).mono ?_
  rintro _ w6 ⟨rfl, hb6⟩
  replace hb6 := HN.out _ _ hb5 hb6
  cases GB with
  | true =>
    go_wp2_with fail
    refine (C8.out _ hb6).mono ?_
    rintro _ w7 ⟨rfl, hb7⟩
    go_wp2_with fail
    go_ret
    exact ⟨rfl, HW.out _ (HN.out _ _ hb6 hb7)⟩
  | false =>
  clear f0 f1 f2 f3 f4 f5 f6 f7 f8 f9 f10 f11
  obtain ⟨f0, f1, f2, f3, f4, f5, f6, f7, f8, f9, f10, f11⟩ := HS.out w6 hb6
  clear hb5 C7a C7b HB0
  go_wp2_with fail
  refine (C11.out _ hb6).mono ?_
  rintro _ w7 ⟨r0, k0, s0, r1, k1, s1, rfl, hb7, hq⟩
  replace hb7 := HN.out _ _ hb6 hb7
  clear f0 f1 f2 f3 f4 f5 f6 f7 f8 f9 f10 f11 C11 hb6
  obtain ⟨W0, hW0⟩ : ∃ W0, W0 = w7.alloc (.cells #[.slice r0 k0 s0, .slice r1 k1 s1] 25) := ⟨_, rfl⟩
  have AW : Aside (W0 = w7.alloc (.cells #[.slice r0 k0 s0, .slice r1 k1 s1] 25)) := hW0
  have hA0 : Below w7.heap.size w7 W0 := by rw [hW0]; exact alloc_one _ _
  have RX : Row W0 w7.heap.size 25 [.slice r0 k0 s0, .slice r1 k1 s1] := by rw [hW0]; exact Row.new w7 25 _
  have HL : Hid (∀ y, Below W0.heap.size W0 y -> Below w4.heap.size w4 y) := fun y hy => HN.out _ _ hb7 (hA0.trans (below_le hy hA0.size))
  have HX : Hid (∀ y, Below W0.heap.size W0 y -> y.cell? ⟨w7.heap.size, 0, none⟩ = some (.slice r0 k0 s0) /\ y.cell? ⟨w7.heap.size, 1, none⟩ = some (.slice r1 k1 s1)) := fun y hy => ⟨(RX.below hy RX.lt).cell 0, (RX.below hy RX.lt).cell 1⟩
  have C13x : Hid (∀ y c2, Below W0.heap.size W0 y -> CrtAt n (K.up y.heap.size) y c2 (bareC n a) -> Calls Tryz.prog 13 #[.agg #[.slice r0 k0 s0, .slice r1 k1 s1], .agg c2.toArray] y fun ev y' => ev = .returned (.bool true) /\ Below y.heap.size y y') := by
    intro y c2 hy h2
    have hb : Below w7.heap.size w7 y := hA0.trans (below_le hy hA0.size)
    have h1 : CrtAt n (K.up y.heap.size) y [.slice r0 k0 s0, .slice r1 k1 s1] (bareC n a) := (CrtAt.below hq hb).up (C := y.heap.size) hb.size
    refine (xsame_any (Nat.le_refl _) h1 h2 true ⟨fun _ => rfl, fun _ => rfl⟩).mono ?_
    rintro _ y' ⟨rfl, h⟩
    exact ⟨rfl, h⟩
  have eB1 : (B1 == B1) = true := by simp
  have eB2 : (B2 == B2) = true := by simp
  clear hq hA0 RX hW0
  go_wp2_with fail
  refine wp_at_world AW.out ?_
  refine wp_region_held_drew (S := fun y => Below W0.heap.size W0 y) (by kernel_rfl) ((Below.refl _ _).drew) (fun hHeld => ?_)
  refine wpAnyH_ready (rs := [0]) (by kernel_rfl) (by simp) ?_
  refine AllReadyH.cons (o := { dst := some 19, op := Op.call { callee := Callee.value (Operand.func 8), args := #[], argTypes := #[] }, type := 4, pos := "law.go:46", after := #[], guard := none }) rfl (fun K hK => ?_) AllReadyH.nil
  refine want (by rfl) ?_
  go_simp
  refine (C8.out _ (HL.out _ hHeld)).mono ?_
  rintro _ z0 ⟨rfl, hz0⟩
  refine hK.out _ _ (hHeld.trans (below_le hz0 hHeld.size)) (fun hHeld => ?_)
  clear hK K
  try simp only [Act.put, List.setIfInBounds_toArray, List.set_cons_zero, List.set_cons_succ]
  refine wpAnyH_take (i := 1) (oi := { dst := some 20, op := Op.move (Operand.tmp 19), type := 4, pos := "law.go:46", after := #[{ on := 0, ground := Ground.data }, { on := 0, ground := Ground.chain }], guard := none }) (v := ?vg1) rfl (by kernel_rfl) (by kernel_rfl) (by kernel_rfl) (fun _ _ _ h => h) (Or.inl ⟨by rfl, ?hg1⟩) hHeld ?rg1
  case hg1 => (intro y hy; go_simp; with_reducible rfl)
  try simp only [Act.put, List.setIfInBounds_toArray, List.set_cons_zero, List.set_cons_succ]
  refine wpAnyH_take (i := 2) (oi := { dst := some 21, op := Op.load 25 (Operand.tmp 4), type := 25, pos := "law.go:46", after := #[{ on := 1, ground := Ground.guard }], guard := some (1, true) }) (v := ?vg2) rfl (by kernel_rfl) (by kernel_rfl) (by kernel_rfl) (fun _ _ _ h => h) (Or.inl ⟨by rfl, ?hg2⟩) hHeld ?rg2
  case hg2 => (intro y hy; obtain ⟨f0, f1, f2, f3, f4, f5, f6, f7, f8, f9, f10, f11⟩ := HS.out y (HL.out y hy); go_simp; with_reducible rfl)
  try simp only [Act.put, List.setIfInBounds_toArray, List.set_cons_zero, List.set_cons_succ]
  refine wpAnyH_take (i := 3) (oi := { dst := some 22, op := Op.load 25 (Operand.tmp 5), type := 25, pos := "law.go:46", after := #[{ on := 1, ground := Ground.guard }], guard := some (1, true) }) (v := ?vg3) rfl (by kernel_rfl) (by kernel_rfl) (by kernel_rfl) (fun _ _ _ h => h) (Or.inl ⟨by rfl, ?hg3⟩) hHeld ?rg3
  case hg3 => (intro y hy; obtain ⟨f0, f1, f2, f3, f4, f5, f6, f7, f8, f9, f10, f11⟩ := HS.out y (HL.out y hy); go_simp; with_reducible rfl)
  try simp only [Act.put, List.setIfInBounds_toArray, List.set_cons_zero, List.set_cons_succ]
  refine wpAnyH_take (i := 5) (oi := { dst := some 24, op := Op.load 25 (Operand.tmp 4), type := 25, pos := "law.go:46", after := #[{ on := 1, ground := Ground.guard }], guard := some (1, true) }) (v := ?vg5) rfl (by kernel_rfl) (by kernel_rfl) (by kernel_rfl) (fun _ _ _ h => h) (Or.inl ⟨by rfl, ?hg5⟩) hHeld ?rg5
  case hg5 => (intro y hy; obtain ⟨f0, f1, f2, f3, f4, f5, f6, f7, f8, f9, f10, f11⟩ := HS.out y (HL.out y hy); go_simp; with_reducible rfl)
  try simp only [Act.put, List.setIfInBounds_toArray, List.set_cons_zero, List.set_cons_succ]
  refine wpAnyH_take (i := 6) (oi := { dst := some 25, op := Op.load 25 (Operand.tmp 5), type := 25, pos := "law.go:46", after := #[{ on := 1, ground := Ground.guard }], guard := some (1, true) }) (v := ?vg6) rfl (by kernel_rfl) (by kernel_rfl) (by kernel_rfl) (fun _ _ _ h => h) (Or.inl ⟨by rfl, ?hg6⟩) hHeld ?rg6
  case hg6 => (intro y hy; obtain ⟨f0, f1, f2, f3, f4, f5, f6, f7, f8, f9, f10, f11⟩ := HS.out y (HL.out y hy); go_simp; with_reducible rfl)
  try simp only [Act.put, List.setIfInBounds_toArray, List.set_cons_zero, List.set_cons_succ]
  refine wpAnyH_ready (rs := [4]) (by kernel_rfl) (by simp) ?_
  refine AllReadyH.cons (o := { dst := some 23, op := Op.call { callee := Callee.value (Operand.func 12), args := #[Operand.tmp 21, Operand.tmp 22], argTypes := #[25, 25] }, type := 4, pos := "law.go:46", after := #[{ on := 2, ground := Ground.data }, { on := 3, ground := Ground.data }, { on := 1, ground := Ground.chain }, { on := 1, ground := Ground.guard }], guard := some (1, true) }) rfl (fun K hK => ?_) AllReadyH.nil
  refine want (by rfl) ?_
  go_simp
  refine (C12.out _ (HL.out _ hHeld)).mono ?_
  rintro _ z4 ⟨rfl, hz4⟩
  refine hK.out _ _ (hHeld.trans (below_le hz4 hHeld.size)) (fun hHeld => ?_)
  clear hK K
  try simp only [Act.put, List.setIfInBounds_toArray, List.set_cons_zero, List.set_cons_succ]
  refine wpAnyH_ready (rs := [7]) (by kernel_rfl) (by simp) ?_
  refine AllReadyH.cons (o := { dst := some 26, op := Op.call { callee := Callee.value (Operand.func 13), args := #[Operand.tmp 24, Operand.tmp 25], argTypes := #[25, 25] }, type := 4, pos := "law.go:46", after := #[{ on := 5, ground := Ground.data }, { on := 6, ground := Ground.data }, { on := 4, ground := Ground.chain }, { on := 1, ground := Ground.guard }], guard := some (1, true) }) rfl (fun K hK => ?_) AllReadyH.nil
  refine want (by rfl) ?_
  go_simp
  refine (C13.out _ (HL.out _ hHeld)).mono ?_
  rintro _ z7 ⟨rfl, hz7⟩
  refine hK.out _ _ (hHeld.trans (below_le hz7 hHeld.size)) (fun hHeld => ?_)
  clear hK K
  try simp only [Act.put, List.setIfInBounds_toArray, List.set_cons_zero, List.set_cons_succ]
  refine wpAnyH_take (i := 8) (oi := { dst := some 27, op := Op.binOp BinOp.eql 4 (Operand.tmp 23) (Operand.tmp 26) 4, type := 4, pos := "law.go:46", after := #[{ on := 4, ground := Ground.data }, { on := 7, ground := Ground.data }, { on := 1, ground := Ground.guard }], guard := some (1, true) }) (v := ?vg8) rfl (by kernel_rfl) (by kernel_rfl) (by kernel_rfl) (fun _ _ _ h => h) (Or.inl ⟨by rfl, ?hg8⟩) hHeld ?rg8
  case hg8 => (intro y hy; go_simp; with_reducible rfl)
  try simp only [Act.put, List.setIfInBounds_toArray, List.set_cons_zero, List.set_cons_succ]
  refine wpAnyH_take (i := 9) (oi := { dst := some 28, op := Op.pick (Operand.tmp 20) (Operand.tmp 27) (Operand.const (Value.bool false)), type := 4, pos := "law.go:46", after := #[{ on := 1, ground := Ground.data }, { on := 8, ground := Ground.data }], guard := none }) (v := ?vg9) rfl (by kernel_rfl) (by kernel_rfl) (by kernel_rfl) (fun _ _ _ h => h) (Or.inl ⟨by rfl, ?hg9⟩) hHeld ?rg9
  case hg9 => (intro y hy; go_simp; with_reducible rfl)
  try simp only [Act.put, List.setIfInBounds_toArray, List.set_cons_zero, List.set_cons_succ]
  refine wpAnyH_take (i := 10) (oi := { dst := some 29, op := Op.move (Operand.tmp 28), type := 4, pos := "law.go:46", after := #[{ on := 9, ground := Ground.data }, { on := 7, ground := Ground.chain }], guard := none }) (v := ?vg10) rfl (by kernel_rfl) (by kernel_rfl) (by kernel_rfl) (fun _ _ _ h => h) (Or.inl ⟨by rfl, ?hg10⟩) hHeld ?rg10
  case hg10 => (intro y hy; go_simp; with_reducible rfl)
  try simp only [Act.put, List.setIfInBounds_toArray, List.set_cons_zero, List.set_cons_succ]
  refine wpAnyH_take (i := 11) (oi := { dst := some 30, op := Op.load 25 (Operand.tmp 4), type := 25, pos := "law.go:46", after := #[{ on := 10, ground := Ground.guard }], guard := some (10, true) }) (v := ?vg11) rfl (by kernel_rfl) (by kernel_rfl) (by kernel_rfl) (fun _ _ _ h => h) (Or.inl ⟨by rfl, ?hg11⟩) hHeld ?rg11
  case hg11 => (intro y hy; obtain ⟨f0, f1, f2, f3, f4, f5, f6, f7, f8, f9, f10, f11⟩ := HS.out y (HL.out y hy); go_simp; with_reducible rfl)
  try simp only [Act.put, List.setIfInBounds_toArray, List.set_cons_zero, List.set_cons_succ]
  refine wpAnyH_take (i := 12) (oi := { dst := some 31, op := Op.load 25 (Operand.tmp 4), type := 25, pos := "law.go:46", after := #[{ on := 10, ground := Ground.guard }], guard := some (10, true) }) (v := ?vg12) rfl (by kernel_rfl) (by kernel_rfl) (by kernel_rfl) (fun _ _ _ h => h) (Or.inl ⟨by rfl, ?hg12⟩) hHeld ?rg12
  case hg12 => (intro y hy; obtain ⟨f0, f1, f2, f3, f4, f5, f6, f7, f8, f9, f10, f11⟩ := HS.out y (HL.out y hy); go_simp; with_reducible rfl)
  try simp only [Act.put, List.setIfInBounds_toArray, List.set_cons_zero, List.set_cons_succ]
  refine wpAnyH_ready (rs := [13]) (by kernel_rfl) (by simp) ?_
  refine AllReadyH.cons (o := { dst := some 32, op := Op.call { callee := Callee.value (Operand.func 12), args := #[Operand.tmp 30, Operand.tmp 31], argTypes := #[25, 25] }, type := 4, pos := "law.go:46", after := #[{ on := 11, ground := Ground.data }, { on := 12, ground := Ground.data }, { on := 10, ground := Ground.chain }, { on := 10, ground := Ground.guard }], guard := some (10, true) }) rfl (fun K hK => ?_) AllReadyH.nil
  refine want (by rfl) ?_
  go_simp
  refine (C12a.out _ (HL.out _ hHeld)).mono ?_
  rintro _ z13 ⟨rfl, hz13⟩
  refine hK.out _ _ (hHeld.trans (below_le hz13 hHeld.size)) (fun hHeld => ?_)
  clear hK K
  try simp only [Act.put, List.setIfInBounds_toArray, List.set_cons_zero, List.set_cons_succ]
  refine wpAnyH_take (i := 14) (oi := { dst := some 33, op := Op.pick (Operand.tmp 29) (Operand.tmp 32) (Operand.const (Value.bool false)), type := 4, pos := "law.go:46", after := #[{ on := 10, ground := Ground.data }, { on := 13, ground := Ground.data }], guard := none }) (v := ?vg14) rfl (by kernel_rfl) (by kernel_rfl) (by kernel_rfl) (fun _ _ _ h => h) (Or.inl ⟨by rfl, ?hg14⟩) hHeld ?rg14
  case hg14 => (intro y hy; go_simp; with_reducible rfl)
  try simp only [Act.put, List.setIfInBounds_toArray, List.set_cons_zero, List.set_cons_succ]
  refine wpAnyH_take (i := 15) (oi := { dst := some 34, op := Op.move (Operand.tmp 33), type := 4, pos := "law.go:46", after := #[{ on := 14, ground := Ground.data }, { on := 13, ground := Ground.chain }], guard := none }) (v := ?vg15) rfl (by kernel_rfl) (by kernel_rfl) (by kernel_rfl) (fun _ _ _ h => h) (Or.inl ⟨by rfl, ?hg15⟩) hHeld ?rg15
  case hg15 => (intro y hy; go_simp; with_reducible rfl)
  try simp only [Act.put, List.setIfInBounds_toArray, List.set_cons_zero, List.set_cons_succ]
  refine wpAnyH_take (i := 16) (oi := { dst := some 35, op := Op.load 25 (Operand.tmp 9), type := 25, pos := "law.go:46", after := #[{ on := 15, ground := Ground.guard }], guard := some (15, true) }) (v := ?vg16) rfl (by kernel_rfl) (by kernel_rfl) (by kernel_rfl) (fun _ _ _ h => h) (Or.inl ⟨by rfl, ?hg16⟩) hHeld ?rg16
  case hg16 => (intro y hy; obtain ⟨x0, x1⟩ := HX.out y hy; go_simp; with_reducible rfl)
  try simp only [Act.put, List.setIfInBounds_toArray, List.set_cons_zero, List.set_cons_succ]
  refine wpAnyH_take (i := 17) (oi := { dst := some 36, op := Op.load 25 (Operand.tmp 4), type := 25, pos := "law.go:46", after := #[{ on := 15, ground := Ground.guard }], guard := some (15, true) }) (v := ?vg17) rfl (by kernel_rfl) (by kernel_rfl) (by kernel_rfl) (fun _ _ _ h => h) (Or.inl ⟨by rfl, ?hg17⟩) hHeld ?rg17
  case hg17 => (intro y hy; obtain ⟨f0, f1, f2, f3, f4, f5, f6, f7, f8, f9, f10, f11⟩ := HS.out y (HL.out y hy); go_simp; with_reducible rfl)
  try simp only [Act.put, List.setIfInBounds_toArray, List.set_cons_zero, List.set_cons_succ]
  refine wpAnyH_ready (rs := [18]) (by kernel_rfl) (by simp) ?_
  refine AllReadyH.cons (o := { dst := some 37, op := Op.call { callee := Callee.value (Operand.func 14), args := #[Operand.tmp 36], argTypes := #[25] }, type := 25, pos := "law.go:46", after := #[{ on := 17, ground := Ground.data }, { on := 15, ground := Ground.chain }, { on := 15, ground := Ground.guard }], guard := some (15, true) }) rfl (fun K hK => ?_) AllReadyH.nil
  refine want (by rfl) ?_
  go_simp
  refine (C14.out _ (HL.out _ hHeld)).mono ?_
  rintro _ z18 ⟨d0, d1, d2, d3, d4, d5, rfl, hz18, hq18⟩
  have Q18 := hidO hq18
  clear hq18
  refine hK.out _ _ (hHeld.trans (below_le hz18 hHeld.size)) (fun hHeld => ?_)
  clear hK K
  try simp only [Act.put, List.setIfInBounds_toArray, List.set_cons_zero, List.set_cons_succ]
  refine wpAnyH_ready (rs := [19]) (by kernel_rfl) (by simp) ?_
  refine AllReadyH.cons (o := { dst := some 38, op := Op.call { callee := Callee.value (Operand.func 13), args := #[Operand.tmp 35, Operand.tmp 37], argTypes := #[25, 25] }, type := 4, pos := "law.go:46", after := #[{ on := 16, ground := Ground.data }, { on := 18, ground := Ground.data }, { on := 18, ground := Ground.chain }, { on := 15, ground := Ground.guard }], guard := some (15, true) }) rfl (fun K hK => ?_) AllReadyH.nil
  refine want (by rfl) ?_
  go_simp
  refine (C13x.out _ _ hHeld Q18.out).mono ?_
  rintro _ z19 ⟨rfl, hz19⟩
  refine hK.out _ _ (hHeld.trans (below_le hz19 hHeld.size)) (fun hHeld => ?_)
  clear hK K
  try simp only [Act.put, List.setIfInBounds_toArray, List.set_cons_zero, List.set_cons_succ]
  refine wpAnyH_take (i := 20) (oi := { dst := some 39, op := Op.pick (Operand.tmp 34) (Operand.tmp 38) (Operand.const (Value.bool false)), type := 4, pos := "law.go:46", after := #[{ on := 15, ground := Ground.data }, { on := 19, ground := Ground.data }], guard := none }) (v := ?vg20) rfl (by kernel_rfl) (by kernel_rfl) (by kernel_rfl) (fun _ _ _ h => h) (Or.inl ⟨by rfl, ?hg20⟩) hHeld ?rg20
  case hg20 => (intro y hy; go_simp; with_reducible rfl)
  try simp only [Act.put, List.setIfInBounds_toArray, List.set_cons_zero, List.set_cons_succ]
  refine wpAnyH_take (i := 21) (oi := { dst := some 40, op := Op.move (Operand.tmp 39), type := 4, pos := "law.go:46", after := #[{ on := 20, ground := Ground.data }, { on := 19, ground := Ground.chain }], guard := none }) (v := ?vg21) rfl (by kernel_rfl) (by kernel_rfl) (by kernel_rfl) (fun _ _ _ h => h) (Or.inl ⟨by rfl, ?hg21⟩) hHeld ?rg21
  case hg21 => (intro y hy; go_simp; with_reducible rfl)
  try simp only [Act.put, List.setIfInBounds_toArray, List.set_cons_zero, List.set_cons_succ]
  refine wpAnyH_take (i := 22) (oi := { dst := some 41, op := Op.load 31 (Operand.tmp 6), type := 31, pos := "law.go:46", after := #[{ on := 21, ground := Ground.guard }], guard := some (21, true) }) (v := ?vg22) rfl (by kernel_rfl) (by kernel_rfl) (by kernel_rfl) (fun _ _ _ h => h) (Or.inl ⟨by rfl, ?hg22⟩) hHeld ?rg22
  case hg22 => (intro y hy; obtain ⟨f0, f1, f2, f3, f4, f5, f6, f7, f8, f9, f10, f11⟩ := HS.out y (HL.out y hy); go_simp; with_reducible rfl)
  try simp only [Act.put, List.setIfInBounds_toArray, List.set_cons_zero, List.set_cons_succ]
  refine wpAnyH_take (i := 23) (oi := { dst := some 42, op := Op.load 31 (Operand.tmp 7), type := 31, pos := "law.go:46", after := #[{ on := 21, ground := Ground.guard }], guard := some (21, true) }) (v := ?vg23) rfl (by kernel_rfl) (by kernel_rfl) (by kernel_rfl) (fun _ _ _ h => h) (Or.inl ⟨by rfl, ?hg23⟩) hHeld ?rg23
  case hg23 => (intro y hy; obtain ⟨f0, f1, f2, f3, f4, f5, f6, f7, f8, f9, f10, f11⟩ := HS.out y (HL.out y hy); go_simp; with_reducible rfl)
  try simp only [Act.put, List.setIfInBounds_toArray, List.set_cons_zero, List.set_cons_succ]
  refine wpAnyH_take (i := 25) (oi := { dst := some 44, op := Op.load 31 (Operand.tmp 6), type := 31, pos := "law.go:46", after := #[{ on := 21, ground := Ground.guard }], guard := some (21, true) }) (v := ?vg25) rfl (by kernel_rfl) (by kernel_rfl) (by kernel_rfl) (fun _ _ _ h => h) (Or.inl ⟨by rfl, ?hg25⟩) hHeld ?rg25
  case hg25 => (intro y hy; obtain ⟨f0, f1, f2, f3, f4, f5, f6, f7, f8, f9, f10, f11⟩ := HS.out y (HL.out y hy); go_simp; with_reducible rfl)
  try simp only [Act.put, List.setIfInBounds_toArray, List.set_cons_zero, List.set_cons_succ]
  refine wpAnyH_take (i := 26) (oi := { dst := some 45, op := Op.load 31 (Operand.tmp 7), type := 31, pos := "law.go:46", after := #[{ on := 21, ground := Ground.guard }], guard := some (21, true) }) (v := ?vg26) rfl (by kernel_rfl) (by kernel_rfl) (by kernel_rfl) (fun _ _ _ h => h) (Or.inl ⟨by rfl, ?hg26⟩) hHeld ?rg26
  case hg26 => (intro y hy; obtain ⟨f0, f1, f2, f3, f4, f5, f6, f7, f8, f9, f10, f11⟩ := HS.out y (HL.out y hy); go_simp; with_reducible rfl)
  try simp only [Act.put, List.setIfInBounds_toArray, List.set_cons_zero, List.set_cons_succ]
  refine wpAnyH_ready (rs := [24]) (by kernel_rfl) (by simp) ?_
  refine AllReadyH.cons (o := { dst := some 43, op := Op.call { callee := Callee.value (Operand.func 15), args := #[Operand.tmp 41, Operand.tmp 42], argTypes := #[31, 31] }, type := 4, pos := "law.go:46", after := #[{ on := 22, ground := Ground.data }, { on := 23, ground := Ground.data }, { on := 21, ground := Ground.chain }, { on := 21, ground := Ground.guard }], guard := some (21, true) }) rfl (fun K hK => ?_) AllReadyH.nil
  refine want (by rfl) ?_
  go_simp
  refine (C15.out _ (HL.out _ hHeld)).mono ?_
  rintro _ z24 ⟨rfl, hz24⟩
  refine hK.out _ _ (hHeld.trans (below_le hz24 hHeld.size)) (fun hHeld => ?_)
  clear hK K
  try simp only [Act.put, List.setIfInBounds_toArray, List.set_cons_zero, List.set_cons_succ]
  refine wpAnyH_ready (rs := [27]) (by kernel_rfl) (by simp) ?_
  refine AllReadyH.cons (o := { dst := some 46, op := Op.call { callee := Callee.value (Operand.func 16), args := #[Operand.tmp 44, Operand.tmp 45], argTypes := #[31, 31] }, type := 4, pos := "law.go:46", after := #[{ on := 25, ground := Ground.data }, { on := 26, ground := Ground.data }, { on := 24, ground := Ground.chain }, { on := 21, ground := Ground.guard }], guard := some (21, true) }) rfl (fun K hK => ?_) AllReadyH.nil
  refine want (by rfl) ?_
  go_simp
  refine (C16.out _ (HL.out _ hHeld)).mono ?_
  rintro _ z27 ⟨rfl, hz27⟩
  refine hK.out _ _ (hHeld.trans (below_le hz27 hHeld.size)) (fun hHeld => ?_)
  clear hK K
  try simp only [Act.put, List.setIfInBounds_toArray, List.set_cons_zero, List.set_cons_succ]
  refine wpAnyH_take (i := 28) (oi := { dst := some 47, op := Op.binOp BinOp.eql 4 (Operand.tmp 43) (Operand.tmp 46) 4, type := 4, pos := "law.go:46", after := #[{ on := 24, ground := Ground.data }, { on := 27, ground := Ground.data }, { on := 21, ground := Ground.guard }], guard := some (21, true) }) (v := ?vg28) rfl (by kernel_rfl) (by kernel_rfl) (by kernel_rfl) (fun _ _ _ h => h) (Or.inl ⟨by rfl, ?hg28⟩) hHeld ?rg28
  case hg28 => (intro y hy; go_simp; with_reducible rfl)
  try simp only [Act.put, List.setIfInBounds_toArray, List.set_cons_zero, List.set_cons_succ]
  refine wpAnyH_take (i := 29) (oi := { dst := some 48, op := Op.pick (Operand.tmp 40) (Operand.tmp 47) (Operand.const (Value.bool false)), type := 4, pos := "law.go:46", after := #[{ on := 21, ground := Ground.data }, { on := 28, ground := Ground.data }], guard := none }) (v := ?vg29) rfl (by kernel_rfl) (by kernel_rfl) (by kernel_rfl) (fun _ _ _ h => h) (Or.inl ⟨by rfl, ?hg29⟩) hHeld ?rg29
  case hg29 => (intro y hy; go_simp; with_reducible rfl)
  try simp only [Act.put, List.setIfInBounds_toArray, List.set_cons_zero, List.set_cons_succ]
  refine wpAnyH_take (i := 30) (oi := { dst := some 49, op := Op.move (Operand.tmp 48), type := 4, pos := "law.go:46", after := #[{ on := 29, ground := Ground.data }, { on := 27, ground := Ground.chain }], guard := none }) (v := ?vg30) rfl (by kernel_rfl) (by kernel_rfl) (by kernel_rfl) (fun _ _ _ h => h) (Or.inl ⟨by rfl, ?hg30⟩) hHeld ?rg30
  case hg30 => (intro y hy; go_simp; with_reducible rfl)
  try simp only [Act.put, List.setIfInBounds_toArray, List.set_cons_zero, List.set_cons_succ]
  refine wpAnyH_take (i := 31) (oi := { dst := some 50, op := Op.load 31 (Operand.tmp 6), type := 31, pos := "law.go:46", after := #[{ on := 30, ground := Ground.guard }], guard := some (30, true) }) (v := ?vg31) rfl (by kernel_rfl) (by kernel_rfl) (by kernel_rfl) (fun _ _ _ h => h) (Or.inl ⟨by rfl, ?hg31⟩) hHeld ?rg31
  case hg31 => (intro y hy; obtain ⟨f0, f1, f2, f3, f4, f5, f6, f7, f8, f9, f10, f11⟩ := HS.out y (HL.out y hy); go_simp; with_reducible rfl)
  try simp only [Act.put, List.setIfInBounds_toArray, List.set_cons_zero, List.set_cons_succ]
  refine wpAnyH_take (i := 32) (oi := { dst := some 51, op := Op.load 31 (Operand.tmp 6), type := 31, pos := "law.go:46", after := #[{ on := 30, ground := Ground.guard }], guard := some (30, true) }) (v := ?vg32) rfl (by kernel_rfl) (by kernel_rfl) (by kernel_rfl) (fun _ _ _ h => h) (Or.inl ⟨by rfl, ?hg32⟩) hHeld ?rg32
  case hg32 => (intro y hy; obtain ⟨f0, f1, f2, f3, f4, f5, f6, f7, f8, f9, f10, f11⟩ := HS.out y (HL.out y hy); go_simp; with_reducible rfl)
  try simp only [Act.put, List.setIfInBounds_toArray, List.set_cons_zero, List.set_cons_succ]
  refine wpAnyH_ready (rs := [33]) (by kernel_rfl) (by simp) ?_
  refine AllReadyH.cons (o := { dst := some 52, op := Op.call { callee := Callee.value (Operand.func 15), args := #[Operand.tmp 50, Operand.tmp 51], argTypes := #[31, 31] }, type := 4, pos := "law.go:46", after := #[{ on := 31, ground := Ground.data }, { on := 32, ground := Ground.data }, { on := 30, ground := Ground.chain }, { on := 30, ground := Ground.guard }], guard := some (30, true) }) rfl (fun K hK => ?_) AllReadyH.nil
  refine want (by rfl) ?_
  go_simp
  refine (C15t.out _ (HL.out _ hHeld)).mono ?_
  rintro _ z33 ⟨rfl, hz33⟩
  refine hK.out _ _ (hHeld.trans (below_le hz33 hHeld.size)) (fun hHeld => ?_)
  clear hK K
  try simp only [Act.put, List.setIfInBounds_toArray, List.set_cons_zero, List.set_cons_succ]
  refine wpAnyH_take (i := 34) (oi := { dst := some 53, op := Op.pick (Operand.tmp 49) (Operand.tmp 52) (Operand.const (Value.bool false)), type := 4, pos := "law.go:46", after := #[{ on := 30, ground := Ground.data }, { on := 33, ground := Ground.data }], guard := none }) (v := ?vg34) rfl (by kernel_rfl) (by kernel_rfl) (by kernel_rfl) (fun _ _ _ h => h) (Or.inl ⟨by rfl, ?hg34⟩) hHeld ?rg34
  case hg34 => (intro y hy; go_simp; with_reducible rfl)
  try simp only [Act.put, List.setIfInBounds_toArray, List.set_cons_zero, List.set_cons_succ]
  refine wpAnyH_take (i := 35) (oi := { dst := some 8, op := Op.assign (Operand.tmp 53), type := 4, pos := "law.go:46", after := #[{ on := 34, ground := Ground.data }, { on := 33, ground := Ground.chain }, { on := 0, ground := Ground.phase }, { on := 1, ground := Ground.phase }, { on := 2, ground := Ground.phase }, { on := 3, ground := Ground.phase }, { on := 4, ground := Ground.phase }, { on := 5, ground := Ground.phase }, { on := 6, ground := Ground.phase }, { on := 7, ground := Ground.phase }, { on := 8, ground := Ground.phase }, { on := 9, ground := Ground.phase }, { on := 10, ground := Ground.phase }, { on := 11, ground := Ground.phase }, { on := 12, ground := Ground.phase }, { on := 13, ground := Ground.phase }, { on := 14, ground := Ground.phase }, { on := 15, ground := Ground.phase }, { on := 16, ground := Ground.phase }, { on := 17, ground := Ground.phase }, { on := 18, ground := Ground.phase }, { on := 19, ground := Ground.phase }, { on := 20, ground := Ground.phase }, { on := 21, ground := Ground.phase }, { on := 22, ground := Ground.phase }, { on := 23, ground := Ground.phase }, { on := 24, ground := Ground.phase }, { on := 25, ground := Ground.phase }, { on := 26, ground := Ground.phase }, { on := 27, ground := Ground.phase }, { on := 28, ground := Ground.phase }, { on := 29, ground := Ground.phase }, { on := 30, ground := Ground.phase }, { on := 31, ground := Ground.phase }, { on := 32, ground := Ground.phase }, { on := 33, ground := Ground.phase }, { on := 34, ground := Ground.phase }], guard := none }) (v := ?vg35) rfl (by kernel_rfl) (by kernel_rfl) (by kernel_rfl) (fun _ _ _ h => h) (Or.inl ⟨by rfl, ?hg35⟩) hHeld ?rg35
  case hg35 => (intro y hy; go_simp; with_reducible rfl)
  try simp only [Act.put, List.setIfInBounds_toArray, List.set_cons_zero, List.set_cons_succ]
  refine wpAnyH_done (by kernel_rfl) ?_ _
  go_wp2_with fail
  go_ret
  exact ⟨rfl, HW.out _ (HL.out _ hHeld)⟩
end Go.Proofs.YtjenmmkamhplkaaGreat
