/-
  TreeBare: the walk.
-/
import Derived.Test.YtjenmmkamhplkaaGreatJqbaTol2
namespace Go.Proofs.YtjenmmkamhplkaaGreat
open Go.RowKit
theorem slf {α : Type} {z bz : Nat} {P : List Value -> α -> Prop} {K : Ctx} {w : World} {v : Value} {l : List α} (h : Ar z bz P K w v l) : ∃ p n m, v = .slice p n m := by
 obtain ⟨ao, cap, e⟩ := h.form
 exact ⟨_, _, _, e⟩
theorem hid2 {p : Prop} (h : p) : Hid p := h
def OutBare (n B : Nat) (c : Crt) (W : World) (ev : Ending) (w' : World) : Prop := ∃ p0 n0 m0 p1 n1 m1, ev = .returned (.agg #[.slice p0 n0 m0, .slice p1 n1 m1]) /\ Below W.heap.size W w' /\ CrtQ n (Fr W w') B w' [.slice p0 n0 m0, .slice p1 n1 m1] (bareC n c)
theorem bare_out {n : Nat} {K : Ctx} {w : World} (hC : K.C <= w.heap.size) {c : Crt} {cs : List Value} (hx : CrtAt n K w cs c) : Calls Tryz.prog 11 #[.agg cs.toArray] w (OutBare n K.B c w) := by
 refine (bare_any hC hx).mono ?_
 rintro _ w' ⟨u0, u1, rfl, hb, hq⟩
 obtain ⟨v0, v1, e, h0, h1⟩ := id hq
 obtain ⟨p0, m0, e0⟩ := h0.form
 obtain ⟨p1, m1, e1⟩ := h1.form
 injection e with ea eb
 injection eb with eb _
 subst ea eb e0 e1
 exact ⟨_, _, _, _, _, _, rfl, hb, hq⟩
theorem CrtQ.at {n : Nat} {K : Ctx} {W w' : World} {cs : List Value} {c : Crt} (h : CrtQ n (Fr W w') K.B w' cs c) : CrtAt n (K.up w'.heap.size) w' cs c := CrtQ.to (K := K.up w'.heap.size) h (fun _ hb => hb.2)
theorem Env.up {K : Ctx} {w w' : World} (he : Env K w) (hb : Below w.heap.size w w') : Env (K.up w'.heap.size) w' := by
 have h := he.below (below_le hb he.C)
 exact ⟨Nat.le_refl _, Nat.lt_of_lt_of_le h.z h.C, h.ml, h.B⟩
set_option maxHeartbeats 16000000 in
set_option maxRecDepth 20000 in
theorem bares_walk {n : Nat} {K : Ctx} {w : World} (he : Env K w) {c : Crt} {cs : List Value} (hx : CrtAt n K w cs c) :
  Calls Tryz.prog 5 #[.agg cs.toArray] w fun ev w' => ev = .returned (.bool true) /\ Below w.heap.size w w' := by
 have kx := hx
 obtain ⟨v0, v1, rfl, h0, h1⟩ := hx
 obtain ⟨c0p, c0n, c0c, e0⟩ := slf h0
 obtain ⟨c1p, c1n, c1c, e1⟩ := slf h1
 subst e0 e1
 have hpos : 0 < w.heap.size := Nat.lt_of_lt_of_le he.z he.C
 have hK : ∀ z, Below w.heap.size w z -> Below K.C w z := fun z hz => below_le hz he.C
 obtain ⟨GA, hGA⟩ := ptrue (GrtC n c)
 obtain ⟨BM, hBM⟩ := ptrue (MayCrt n c)
 have G7 : Hid (∀ W, Below w.heap.size w W -> Calls Tryz.prog 7 #[.agg #[.slice c0p c0n c0c, .slice c1p c1n c1c]] W fun ev w' => ev = .returned (.bool GA) /\ Below W.heap.size W w') := fun W hW => great_any (Nat.le_trans he.C hW.size) (kx.below (hK W hW)) GA hGA
 have G8 : Hid (∀ W, Below w.heap.size w W -> Calls Tryz.prog 8 #[] W fun ev w' => ev = .returned (.bool true) /\ Below W.heap.size W w') := fun W hW => by
  obtain ⟨m, hm⟩ := he.ml
  exact told_any W ⟨m, (hW.cell (p := ⟨0, 0, none⟩) hpos).trans hm⟩
 have G9c : Hid (∀ W, Below w.heap.size w W -> Calls Tryz.prog 9 #[.agg #[.slice c0p c0n c0c, .slice c1p c1n c1c]] W fun ev w' => ev = .returned (.bool BM) /\ Below W.heap.size W w') := fun W hW => may_any (he.below (hK W hW)) (kx.below (hK W hW)) BM hBM
 have G11c : Hid (∀ W, Below w.heap.size w W -> Calls Tryz.prog 11 #[.agg #[.slice c0p c0n c0c, .slice c1p c1n c1c]] W (OutBare n K.B c W)) := fun W hW => bare_out (Nat.le_trans he.C hW.size) (kx.below (hK W hW))
 have GA2 : Hid (∀ (W w6 : World) (A : List Value), Below w.heap.size w w6 -> CrtQ n (Fr W w6) K.B w6 A (bareC n c) -> ∀ W', Below w6.heap.size w6 W' -> (Calls Tryz.prog 9 #[.agg A.toArray] W' fun ev w' => ev = .returned (.bool BM) /\ Below W'.heap.size W' w') /\ Calls Tryz.prog 11 #[.agg A.toArray] W' (OutBare n K.B (bareC n c) W')) := by
  intro W w6 A h6 q W' hW'
  have k := CrtQ.at q
  have e6 := he.up h6
  exact ⟨may_any (e6.below hW') (k.below hW') BM (by rw [hBM, mayCrt_bare]), bare_out (K := K.up w6.heap.size) hW'.size (k.below hW')⟩
 have GS : Hid (∀ (W w6 V w8 : World) (A D : List Value), CrtQ n (Fr W w6) K.B w6 A (bareC n c) -> Below w6.heap.size w6 w8 -> CrtQ n (Fr V w8) K.B w8 D (bareC n c) -> ∀ W', Below w8.heap.size w8 W' -> Calls Tryz.prog 12 #[.agg A.toArray, .agg D.toArray] W' fun ev w' => ev = .returned (.bool true) /\ Below W'.heap.size W' w') := by
  intro W w6 V w8 A D q1 h8 q2 W' hW'
  have k1 := ((CrtQ.at q1).below h8).up (C := w8.heap.size) h8.size
  have k2 := CrtQ.at q2
  exact same_any (K := K.up w8.heap.size) hW'.size (k1.below hW') (k2.below hW') true ⟨fun _ => rfl, fun _ => rfl⟩
 have GI : Hid (bareC n (bareC n c) = bareC n c) := bareC_idem n c
 have F0 : Hid (Below w.heap.size w (w.alloc (.cells #[.slice c0p c0n c0c, .slice c1p c1n c1c] 25)) /\ Row (w.alloc (.cells #[.slice c0p c0n c0c, .slice c1p c1n c1c] 25)) w.heap.size 25 [.slice c0p c0n c0c, .slice c1p c1n c1c]) := ⟨alloc_one _ _, Row.new w 25 [.slice c0p c0n c0c, .slice c1p c1n c1c]⟩
 clear h0 h1 kx he hK hGA hBM hpos
 go_enter Tryz.func5, Tryz.ntmps5
 go_wp2_with fail
 refine (G7.out _ F0.out.1).mono ?_
 rintro _ w5 ⟨rfl, b5⟩
 have F5 : Hid (Below w.heap.size w w5 /\ Row w5 w.heap.size 25 [.slice c0p c0n c0c, .slice c1p c1n c1c]) := ⟨F0.out.1.trans (below_le b5 F0.out.1.size), F0.out.2.below b5 F0.out.2.lt⟩
 clear b5 F0 G7
 have x0 : w5.cell? ⟨w.heap.size, 0, none⟩ = some (.slice c0p c0n c0c) := F5.out.2.cell 0
 have x1 : w5.cell? ⟨w.heap.size, 1, none⟩ = some (.slice c1p c1n c1c) := F5.out.2.cell 1
 cases GA with
 | true =>
  go_wp2_with fail
  refine (G8.out _ F5.out.1).mono ?_
  rintro _ w6 ⟨rfl, b6⟩
  have F6 := hid2 (F5.out.1.trans (below_le b6 F5.out.1.size))
  go_wp2_with fail
  go_ret
  exact ⟨rfl, F6.out⟩
 | false =>
 go_wp2_with fail
 refine (G11c.out _ F5.out.1).mono ?_
 rintro _ w6 ⟨a0p, a0n, a0c, a1p, a1n, a1c, rfl, b6, q6⟩
 have F6 : Hid (Below w.heap.size w w6 /\ Row w6 w.heap.size 25 [.slice c0p c0n c0c, .slice c1p c1n c1c]) := ⟨F5.out.1.trans (below_le b6 F5.out.1.size), F5.out.2.below b6 F5.out.2.lt⟩
 have Q6 := hid2 q6
 have N6 : Hid (Below w6.heap.size w6 (w6.alloc (.cells #[.slice a0p a0n a0c, .slice a1p a1n a1c] 25)) /\ Row (w6.alloc (.cells #[.slice a0p a0n a0c, .slice a1p a1n a1c] 25)) w6.heap.size 25 [.slice a0p a0n a0c, .slice a1p a1n a1c]) := ⟨alloc_one _ _, Row.new w6 25 [.slice a0p a0n a0c, .slice a1p a1n a1c]⟩
 have HA := hid2 (GA2.out w5 w6 [.slice a0p a0n a0c, .slice a1p a1n a1c] F6.out.1 q6)
 clear b6 q6 F5 x0 x1 GA2
 go_wp2_with fail
 refine ((HA.out _ N6.out.1).2).mono ?_
 rintro _ w8 ⟨b0p, b0n, b0c, b1p, b1n, b1c, rfl, b8, q8⟩
 rw [GI.out] at q8
 obtain ⟨w7, hw7⟩ : ∃ w7, w7 = w6.alloc (.cells #[.slice a0p a0n a0c, .slice a1p a1n a1c] 25) := ⟨_, rfl⟩
 rw [← hw7] at b8 q8 N6
 have s7 : w7.heap.size = w6.heap.size + 1 := by rw [hw7, size_alloc]
 have Q8 := hid2 q8
 have B68 := hid2 (N6.out.1.trans (below_le b8 N6.out.1.size))
 have N8 : Hid (Below w8.heap.size w8 (w8.alloc (.cells #[.slice b0p b0n b0c, .slice b1p b1n b1c] 25)) /\ Row (w8.alloc (.cells #[.slice b0p b0n b0c, .slice b1p b1n b1c] 25)) w8.heap.size 25 [.slice b0p b0n b0c, .slice b1p b1n b1c]) := ⟨alloc_one _ _, Row.new w8 25 [.slice b0p b0n b0c, .slice b1p b1n b1c]⟩
 have z8 := b8.size
 have z6 := F6.out.1.size
 have RX : Hid (∀ z, Below w8.heap.size w8 z -> Below w.heap.size w z /\ Below w6.heap.size w6 z) := fun z hz => ⟨(F6.out.1.trans (below_le B68.out z6)).trans (below_le hz (by omega)), B68.out.trans (below_le hz (by omega))⟩
 have RC : Hid (∀ z, Below w8.heap.size w8 z -> z.cell? ⟨w.heap.size, 0, none⟩ = some (.slice c0p c0n c0c) /\ z.cell? ⟨w.heap.size, 1, none⟩ = some (.slice c1p c1n c1c) /\ z.cell? ⟨w6.heap.size, 0, none⟩ = some (.slice a0p a0n a0c) /\ z.cell? ⟨w6.heap.size, 1, none⟩ = some (.slice a1p a1n a1c)) := by
  intro z hz
  have r1 := F6.out.2.below ((RX.out z hz).2) F6.out.2.lt
  have r2 := (N6.out.2.below (below_le b8 (Nat.le_refl _)) N6.out.2.lt).below hz (by have := N6.out.2.lt; omega)
  exact ⟨r1.cell 0, r1.cell 1, r2.cell 0, r2.cell 1⟩
 have HRW : Hid (∀ z, Below w8.heap.size w8 z -> CrtQ n (Fr w7 w8) K.B z [.slice b0p b0n b0c, .slice b1p b1n b1c] (bareC n c)) := fun z hz => CrtQ.mono (Q := Fr w7 w8) (Q' := Fr w7 w8) q8 ⟨fun _ h => h, fun k hk => hz.block k hk.2⟩
 have H12 := hid2 (GS.out w5 w6 w7 w8 [.slice a0p a0n a0c, .slice a1p a1n a1c] [.slice b0p b0n b0c, .slice b1p b1n b1c] Q6.out B68.out Q8.out)
 obtain ⟨SP, hSP⟩ : ∃ SP : World -> Prop, SP = fun z => Below w8.heap.size w8 z /\ Row z w8.heap.size 25 [.slice b0p b0n b0c, .slice b1p b1n b1c] := ⟨_, rfl⟩
 have SC : Hid (∀ z, SP z -> (SP z /\ z.cell? ⟨w.heap.size, 0, none⟩ = some (.slice c0p c0n c0c) /\ z.cell? ⟨w.heap.size, 1, none⟩ = some (.slice c1p c1n c1c) /\ z.cell? ⟨w6.heap.size, 0, none⟩ = some (.slice a0p a0n a0c) /\ z.cell? ⟨w6.heap.size, 1, none⟩ = some (.slice a1p a1n a1c) /\ z.cell? ⟨w8.heap.size, 0, none⟩ = some (.slice b0p b0n b0c) /\ z.cell? ⟨w8.heap.size, 1, none⟩ = some (.slice b1p b1n b1c))) := by
  intro z hz
  have hz' := hz
  rw [hSP] at hz'
  obtain ⟨k0, k1, k2, k3⟩ := RC.out z hz'.1
  exact ⟨hz, k0, k1, k2, k3, hz'.2.cell 0, hz'.2.cell 1⟩
 have SN : Hid (∀ z z', SP z -> Below z.heap.size z z' -> SP z') := by
  intro z z' hz hb
  rw [hSP] at hz ⊢
  exact ⟨hz.1.trans (below_le hb hz.1.size), hz.2.below hb hz.2.lt⟩
 have SB : Hid (∀ z, SP z -> Below w8.heap.size w8 z /\ Row z w8.heap.size 25 [.slice b0p b0n b0c, .slice b1p b1n b1c]) := by
  intro z hz
  rw [hSP] at hz
  exact hz
 have D12 : Hid (∀ z, (SP z /\ z.cell? ⟨w.heap.size, 0, none⟩ = some (.slice c0p c0n c0c) /\ z.cell? ⟨w.heap.size, 1, none⟩ = some (.slice c1p c1n c1c) /\ z.cell? ⟨w6.heap.size, 0, none⟩ = some (.slice a0p a0n a0c) /\ z.cell? ⟨w6.heap.size, 1, none⟩ = some (.slice a1p a1n a1c) /\ z.cell? ⟨w8.heap.size, 0, none⟩ = some (.slice b0p b0n b0c) /\ z.cell? ⟨w8.heap.size, 1, none⟩ = some (.slice b1p b1n b1c)) -> Calls Tryz.prog 12 #[.agg #[.slice a0p a0n a0c, .slice a1p a1n a1c], .agg #[.slice b0p b0n b0c, .slice b1p b1n b1c]] z fun ev z' => ev = .returned (.bool true) /\ (SP z' /\ z'.cell? ⟨w.heap.size, 0, none⟩ = some (.slice c0p c0n c0c) /\ z'.cell? ⟨w.heap.size, 1, none⟩ = some (.slice c1p c1n c1c) /\ z'.cell? ⟨w6.heap.size, 0, none⟩ = some (.slice a0p a0n a0c) /\ z'.cell? ⟨w6.heap.size, 1, none⟩ = some (.slice a1p a1n a1c) /\ z'.cell? ⟨w8.heap.size, 0, none⟩ = some (.slice b0p b0n b0c) /\ z'.cell? ⟨w8.heap.size, 1, none⟩ = some (.slice b1p b1n b1c))) := by
  intro z hz
  refine (H12.out z (SB.out z hz.1).1).mono ?_
  rintro _ z' ⟨rfl, hb⟩
  exact ⟨rfl, SC.out z' (SN.out z z' hz.1 hb)⟩
 have D9a : Hid (∀ z, (SP z /\ z.cell? ⟨w.heap.size, 0, none⟩ = some (.slice c0p c0n c0c) /\ z.cell? ⟨w.heap.size, 1, none⟩ = some (.slice c1p c1n c1c) /\ z.cell? ⟨w6.heap.size, 0, none⟩ = some (.slice a0p a0n a0c) /\ z.cell? ⟨w6.heap.size, 1, none⟩ = some (.slice a1p a1n a1c) /\ z.cell? ⟨w8.heap.size, 0, none⟩ = some (.slice b0p b0n b0c) /\ z.cell? ⟨w8.heap.size, 1, none⟩ = some (.slice b1p b1n b1c)) -> Calls Tryz.prog 9 #[.agg #[.slice a0p a0n a0c, .slice a1p a1n a1c]] z fun ev z' => ev = .returned (.bool BM) /\ (SP z' /\ z'.cell? ⟨w.heap.size, 0, none⟩ = some (.slice c0p c0n c0c) /\ z'.cell? ⟨w.heap.size, 1, none⟩ = some (.slice c1p c1n c1c) /\ z'.cell? ⟨w6.heap.size, 0, none⟩ = some (.slice a0p a0n a0c) /\ z'.cell? ⟨w6.heap.size, 1, none⟩ = some (.slice a1p a1n a1c) /\ z'.cell? ⟨w8.heap.size, 0, none⟩ = some (.slice b0p b0n b0c) /\ z'.cell? ⟨w8.heap.size, 1, none⟩ = some (.slice b1p b1n b1c))) := by
  intro z hz
  refine ((HA.out z (RX.out z (SB.out z hz.1).1).2).1).mono ?_
  rintro _ z' ⟨rfl, hb⟩
  exact ⟨rfl, SC.out z' (SN.out z z' hz.1 hb)⟩
 have D9c : Hid (∀ z, (SP z /\ z.cell? ⟨w.heap.size, 0, none⟩ = some (.slice c0p c0n c0c) /\ z.cell? ⟨w.heap.size, 1, none⟩ = some (.slice c1p c1n c1c) /\ z.cell? ⟨w6.heap.size, 0, none⟩ = some (.slice a0p a0n a0c) /\ z.cell? ⟨w6.heap.size, 1, none⟩ = some (.slice a1p a1n a1c) /\ z.cell? ⟨w8.heap.size, 0, none⟩ = some (.slice b0p b0n b0c) /\ z.cell? ⟨w8.heap.size, 1, none⟩ = some (.slice b1p b1n b1c)) -> Calls Tryz.prog 9 #[.agg #[.slice c0p c0n c0c, .slice c1p c1n c1c]] z fun ev z' => ev = .returned (.bool BM) /\ (SP z' /\ z'.cell? ⟨w.heap.size, 0, none⟩ = some (.slice c0p c0n c0c) /\ z'.cell? ⟨w.heap.size, 1, none⟩ = some (.slice c1p c1n c1c) /\ z'.cell? ⟨w6.heap.size, 0, none⟩ = some (.slice a0p a0n a0c) /\ z'.cell? ⟨w6.heap.size, 1, none⟩ = some (.slice a1p a1n a1c) /\ z'.cell? ⟨w8.heap.size, 0, none⟩ = some (.slice b0p b0n b0c) /\ z'.cell? ⟨w8.heap.size, 1, none⟩ = some (.slice b1p b1n b1c))) := by
  intro z hz
  refine (G9c.out z (RX.out z (SB.out z hz.1).1).1).mono ?_
  rintro _ z' ⟨rfl, hb⟩
  exact ⟨rfl, SC.out z' (SN.out z z' hz.1 hb)⟩
 have E0 : SP (w8.alloc (.cells #[.slice b0p b0n b0c, .slice b1p b1n b1c] 25)) := by rw [hSP]; exact N8.out
 have E1 : SP (w8.alloc (.cells #[.slice b0p b0n b0c, .slice b1p b1n b1c] 25)).drew := SN.out _ _ E0 ((Below.refl _ _).drew)
 have F0 := SC.out _ E0
 have F1 := SC.out _ E1
 have b1 : (BM != BM) = false := by cases BM <;> rfl
 have b2 : (BM == BM) = true := by cases BM <;> rfl
 have b3 : (BM ^^ BM) = false := by cases BM <;> rfl
 have S7 := hid2 s7
 have B8 := hid2 b8
 have Z8 := hid2 z8
 clear hSP SC SN E0 E1 HA N8 q8 b8 G9c z8 z6 s7 hw7
 go_wp2_with fail
 refine wp_region_held_drew (S := (fun z => (SP z /\ z.cell? ⟨w.heap.size, 0, none⟩ = some (.slice c0p c0n c0c) /\ z.cell? ⟨w.heap.size, 1, none⟩ = some (.slice c1p c1n c1c) /\ z.cell? ⟨w6.heap.size, 0, none⟩ = some (.slice a0p a0n a0c) /\ z.cell? ⟨w6.heap.size, 1, none⟩ = some (.slice a1p a1n a1c) /\ z.cell? ⟨w8.heap.size, 0, none⟩ = some (.slice b0p b0n b0c) /\ z.cell? ⟨w8.heap.size, 1, none⟩ = some (.slice b1p b1n b1c)))) (by kernel_rfl) (F1) (fun hHeld => ?_)
 refine wpAnyH_take (i := 0) (oi := { dst := some 15, op := Op.load 25 (Operand.tmp 3), type := 25, pos := "law.go:64", after := #[], guard := none }) (v := ?vp0) rfl (by kernel_rfl) (by kernel_rfl) (by kernel_rfl) (fun _ _ _ h => h) (Or.inl ⟨by rfl, ?hp0⟩) hHeld ?rp0
 case hp0 => (intro y hy; obtain ⟨y0, y1, y2, y3, y4, y5, y6⟩ := hy; go_simp; with_reducible rfl)
 try simp only [Act.put, List.setIfInBounds_toArray, List.set_cons_zero, List.set_cons_succ]
 refine wpAnyH_take (i := 1) (oi := { dst := some 16, op := Op.load 25 (Operand.tmp 4), type := 25, pos := "law.go:64", after := #[], guard := none }) (v := ?vp1) rfl (by kernel_rfl) (by kernel_rfl) (by kernel_rfl) (fun _ _ _ h => h) (Or.inl ⟨by rfl, ?hp1⟩) hHeld ?rp1
 case hp1 => (intro y hy; obtain ⟨y0, y1, y2, y3, y4, y5, y6⟩ := hy; go_simp; with_reducible rfl)
 try simp only [Act.put, List.setIfInBounds_toArray, List.set_cons_zero, List.set_cons_succ]
 refine wpAnyH_ready (rs := [2]) (by kernel_rfl) (by simp) ?_
 refine AllReadyH.cons (o := { dst := some 17, op := Op.call { callee := Callee.value (Operand.func 12), args := #[Operand.tmp 15, Operand.tmp 16], argTypes := #[25, 25] }, type := 4, pos := "law.go:64", after := #[{ on := 0, ground := Ground.data }, { on := 1, ground := Ground.data }], guard := none }) rfl (fun K hK => ?_) AllReadyH.nil
 go_simp
 refine (D12.out _ hHeld).mono ?_
 rintro _ z1 ⟨rfl, hS1⟩
 refine hK.out _ _ (hS1) (fun hHeld => ?_)
 clear hK K
 try simp only [Act.put, List.setIfInBounds_toArray, List.set_cons_zero, List.set_cons_succ]
 refine wpAnyH_take (i := 3) (oi := { dst := some 18, op := Op.unOp UnOp.not 4 (Operand.tmp 17), type := 4, pos := "law.go:64", after := #[{ on := 2, ground := Ground.data }], guard := none }) (v := ?vp3) rfl (by kernel_rfl) (by kernel_rfl) (by kernel_rfl) (fun _ _ _ h => h) (Or.inl ⟨by rfl, ?hp3⟩) hHeld ?rp3
 case hp3 => (intro y hy; go_simp; with_reducible rfl)
 try simp only [Act.put, List.setIfInBounds_toArray, List.set_cons_zero, List.set_cons_succ]
 refine wpAnyH_take (i := 4) (oi := { dst := some 19, op := Op.move (Operand.tmp 18), type := 4, pos := "law.go:64", after := #[{ on := 3, ground := Ground.data }, { on := 2, ground := Ground.chain }], guard := none }) (v := ?vp4) rfl (by kernel_rfl) (by kernel_rfl) (by kernel_rfl) (fun _ _ _ h => h) (Or.inl ⟨by rfl, ?hp4⟩) hHeld ?rp4
 case hp4 => (intro y hy; go_simp; with_reducible rfl)
 try simp only [Act.put, List.setIfInBounds_toArray, List.set_cons_zero, List.set_cons_succ]
 refine wpAnyH_take (i := 5) (oi := { dst := some 20, op := Op.load 25 (Operand.tmp 3), type := 25, pos := "law.go:64", after := #[{ on := 4, ground := Ground.guard }], guard := some (4, false) }) (v := ?vp5) rfl (by kernel_rfl) (by kernel_rfl) (by kernel_rfl) (fun _ _ _ h => h) (Or.inl ⟨by rfl, ?hp5⟩) hHeld ?rp5
 case hp5 => (intro y hy; obtain ⟨y0, y1, y2, y3, y4, y5, y6⟩ := hy; go_simp; with_reducible rfl)
 try simp only [Act.put, List.setIfInBounds_toArray, List.set_cons_zero, List.set_cons_succ]
 refine wpAnyH_take (i := 7) (oi := { dst := some 22, op := Op.load 25 (Operand.tmp 1), type := 25, pos := "law.go:64", after := #[{ on := 4, ground := Ground.guard }], guard := some (4, false) }) (v := ?vp7) rfl (by kernel_rfl) (by kernel_rfl) (by kernel_rfl) (fun _ _ _ h => h) (Or.inl ⟨by rfl, ?hp7⟩) hHeld ?rp7
 case hp7 => (intro y hy; obtain ⟨y0, y1, y2, y3, y4, y5, y6⟩ := hy; go_simp; with_reducible rfl)
 try simp only [Act.put, List.setIfInBounds_toArray, List.set_cons_zero, List.set_cons_succ]
 refine wpAnyH_ready (rs := [6]) (by kernel_rfl) (by simp) ?_
 refine AllReadyH.cons (o := { dst := some 21, op := Op.call { callee := Callee.value (Operand.func 9), args := #[Operand.tmp 20], argTypes := #[25] }, type := 4, pos := "law.go:64", after := #[{ on := 5, ground := Ground.data }, { on := 4, ground := Ground.chain }, { on := 4, ground := Ground.guard }], guard := some (4, false) }) rfl (fun K hK => ?_) AllReadyH.nil
 go_simp
 refine (D9a.out _ hHeld).mono ?_
 rintro _ z2 ⟨rfl, hS2⟩
 refine hK.out _ _ (hS2) (fun hHeld => ?_)
 clear hK K
 try simp only [Act.put, List.setIfInBounds_toArray, List.set_cons_zero, List.set_cons_succ]
 refine wpAnyH_ready (rs := [8]) (by kernel_rfl) (by simp) ?_
 refine AllReadyH.cons (o := { dst := some 23, op := Op.call { callee := Callee.value (Operand.func 9), args := #[Operand.tmp 22], argTypes := #[25] }, type := 4, pos := "law.go:64", after := #[{ on := 7, ground := Ground.data }, { on := 6, ground := Ground.chain }, { on := 4, ground := Ground.guard }], guard := some (4, false) }) rfl (fun K hK => ?_) AllReadyH.nil
 go_simp
 refine (D9c.out _ hHeld).mono ?_
 rintro _ wL ⟨rfl, hS3⟩
 refine hK.out _ _ (hS3) (fun hHeld => ?_)
 clear hK K
 try simp only [Act.put, List.setIfInBounds_toArray, List.set_cons_zero, List.set_cons_succ]
 refine wpAnyH_take (i := 9) (oi := { dst := some 24, op := Op.binOp BinOp.neq 4 (Operand.tmp 21) (Operand.tmp 23) 4, type := 4, pos := "law.go:64", after := #[{ on := 6, ground := Ground.data }, { on := 8, ground := Ground.data }, { on := 4, ground := Ground.guard }], guard := some (4, false) }) (v := ?vp9) rfl (by kernel_rfl) (by kernel_rfl) (by kernel_rfl) (fun _ _ _ h => h) (Or.inl ⟨by rfl, ?hp9⟩) hHeld ?rp9
 case hp9 => (intro y hy; go_simp; with_reducible rfl)
 try simp only [Act.put, List.setIfInBounds_toArray, List.set_cons_zero, List.set_cons_succ]
 refine wpAnyH_take (i := 10) (oi := { dst := some 25, op := Op.pick (Operand.tmp 19) (Operand.const (Value.bool true)) (Operand.tmp 24), type := 4, pos := "law.go:64", after := #[{ on := 4, ground := Ground.data }, { on := 9, ground := Ground.data }], guard := none }) (v := ?vp10) rfl (by kernel_rfl) (by kernel_rfl) (by kernel_rfl) (fun _ _ _ h => h) (Or.inl ⟨by rfl, ?hp10⟩) hHeld ?rp10
 case hp10 => (intro y hy; go_simp; with_reducible rfl)
 try simp only [Act.put, List.setIfInBounds_toArray, List.set_cons_zero, List.set_cons_succ]
 refine wpAnyH_done (by kernel_rfl) ?_ _
 have SL := hid2 (SB.out _ hS3.1)
 clear D12 D9a D9c F0 F1 b1 b2 b3 SB
 obtain ⟨x0, x1, ee, qs, qf⟩ := HRW.out wL SL.out.1
 injection ee with ea eb
 injection eb with eb _
 subst ea eb
 obtain ⟨ao, cap, ef, hcf, hbf, _⟩ := id qf.shape
 injection ef with ef1 ef2 ef3
 have hA : w7.heap.size <= wL.heap.size := Nat.le_trans Z8.out SL.out.1.size
 have RF : Hid (Rdf (Mut w7.heap.size wL) b1p b1n) := by
  have h : Rdf (Mut w7.heap.size wL) b1p (bareC n c).funcs.length := rdf_of hA (fun _ hg => hg.1) qf
  rw [← ef2] at h
  exact h
 have hn9 : b1n <= 9223372036854775807 := by omega
 have RB : Hid (∀ wr, Mut w7.heap.size wL wr -> wr.cell? ⟨w8.heap.size, 1, none⟩ = some (.slice b1p b1n b1c)) := by
  intro wr m
  obtain ⟨L', r', hl', hc'⟩ := m.rows SL.out.2
  rw [r'.cell 1, hc' 1 (by rintro (⟨e, _⟩ | ⟨e, _⟩ | ⟨e, _⟩) <;> exact absurd e (by decide))]
  rfl
 have M0 := hid2 (Mut.refl w7.heap.size wL)
 have RZ : Hid (∀ wr, Mut w7.heap.size wL wr -> (Below w.heap.size w wr /\ Below w6.heap.size w6 wr) /\ wr.cell? ⟨w.heap.size, 0, none⟩ = some (.slice c0p c0n c0c) /\ wr.cell? ⟨w.heap.size, 1, none⟩ = some (.slice c1p c1n c1c) /\ wr.cell? ⟨w6.heap.size, 0, none⟩ = some (.slice a0p a0n a0c) /\ wr.cell? ⟨w6.heap.size, 1, none⟩ = some (.slice a1p a1n a1c)) := by
  intro wr m
  have h7 := S7.out
  obtain ⟨k0, k1, k2, k3⟩ := RC.out wL SL.out.1
  obtain ⟨y1, y2⟩ := RX.out wL SL.out.1
  have l1 := F6.out.2.lt
  have l2 := F6.out.1.size
  refine ⟨⟨y1.trans (below_le m.bel (by omega)), y2.trans (below_le m.bel (by omega))⟩, ?_, ?_, ?_, ?_⟩
  ·rw [m.bel.cell (p := ⟨w.heap.size, 0, none⟩) (by show w.heap.size < _; omega)]; exact k0
  ·rw [m.bel.cell (p := ⟨w.heap.size, 1, none⟩) (by show w.heap.size < _; omega)]; exact k1
  ·rw [m.bel.cell (p := ⟨w6.heap.size, 0, none⟩) (by show w6.heap.size < _; omega)]; exact k2
  ·rw [m.bel.cell (p := ⟨w6.heap.size, 1, none⟩) (by show w6.heap.size < _; omega)]; exact k3
 have GS2 : Hid (∀ (V w10 : World) (D : List Value), Below w6.heap.size w6 w10 -> CrtQ n (Fr V w10) K.B w10 D (bareC n c) -> Calls Tryz.prog 12 #[.agg #[.slice a0p a0n a0c, .slice a1p a1n a1c], .agg D.toArray] w10 fun ev w' => ev = .returned (.bool true) /\ Below w10.heap.size w10 w') := fun V w10 D h q => GS.out w5 w6 V w10 [.slice a0p a0n a0c, .slice a1p a1n a1c] D Q6.out h q w10 (Below.refl _ _)
 clear qs qf ef1 ef2 ef3 hcf hbf hA RC RX HRW GS Q6 Q8 B68 F6 N6 SL S7 B8 Z8 H12 GI
 generalize Mut w7.heap.size wL = MM at *
 go_wp2_with fail
 go_loopw [5] (fun i wr => ∃ k : Nat, k <= b1n /\ i = .int .i64 k /\ MM wr) (fun i _ => b1n - (intOf i).toNat)
 case atStart => exact ⟨0, by omega, rfl, M0.out⟩
 case round =>
  obtain ⟨k, hk, rfl, hm⟩ := hrel
  have M1 := hid2 hm
  clear hm M0
  have g1 := RB.out wr M1.out
  by_cases h3 : k < b1n
  ·have i1 : (k : Int) < (b1n : Int) := by omega
   obtain ⟨fb, pb, pp, nb, cb, np, cp, rfl, hnb, hnp, rdb, rdp, rdf⟩ := RF.out k h3
   have RDB := hid2 rdb
   have RDP := hid2 rdp
   have RDF := hid2 rdf
   obtain ⟨y9, y8, y3, ⟨u1, y1⟩, y1z, m2⟩ := rdf wr M1.out
   have M2 := hid2 m2
   clear rdb rdp rdf m2
   go_wp2_with fail
   rename World => wA
   go_loopw [6] (fun i wr => ∃ q : Nat, q <= nb /\ i = .int .i64 q /\ MM wr) (fun i _ => nb - (intOf i).toNat)
   case atStart => exact ⟨0, by omega, rfl, M2.out⟩
   case round =>
    obtain ⟨q, hq, rfl, hm⟩ := hrel
    have M3 := hid2 hm
    clear hm M2 g1 y9 y8 y3 y1 y1z
    have g1 := RB.out wr M3.out
    obtain ⟨-, y8, y3, -⟩ := RDF.out wr M3.out
    by_cases h4 : q < nb
    ·have i2 : (q : Int) < (nb : Int) := by omega
     obtain ⟨bb, rfl, rd⟩ := RDB.out q h4
     obtain ⟨z1, ⟨u2, z0⟩, z0z, m4⟩ := rd wr M3.out
     have M4 := hid2 m4
     clear rd m4
     go_wp2_with fail
     go_roundw
     case rel => exact ⟨q + 1, by omega, by go_num, M4.out⟩
     case measure => simp [intOf]; omega
    ·have i2 : ¬ (q : Int) < (nb : Int) := by omega
     go_wp2_with fail
     rename World => wB
     go_loopw [7] (fun i wr => ∃ q : Nat, q <= np /\ i = .int .i64 q /\ MM wr) (fun i _ => np - (intOf i).toNat)
     case atStart => exact ⟨0, by omega, rfl, M3.out⟩
     case round =>
      obtain ⟨q2, hq2, rfl, hm⟩ := hrel
      have M5 := hid2 hm
      clear hm M3 g1 y8 y3
      have g1 := RB.out wr M5.out
      obtain ⟨-, y8, y3, -⟩ := RDF.out wr M5.out
      by_cases h5 : q2 < np
      ·have i3 : (q2 : Int) < (np : Int) := by omega
       obtain ⟨bb, rfl, rd⟩ := RDP.out q2 h5
       obtain ⟨⟨u2, z0⟩, z0z, m6⟩ := rd wr M5.out
       have M6 := hid2 m6
       clear rd m6
       go_wp2_with fail
       go_roundw
       case rel => exact ⟨q2 + 1, by omega, by go_num, M6.out⟩
       case measure => simp [intOf]; omega
      ·have i3 : ¬ (q2 : Int) < (np : Int) := by omega
       go_wp2_with fail
       go_roundw
       case rel => exact ⟨k + 1, by omega, by go_num, M5.out⟩
       case measure => simp [intOf]; omega
  ·have i1 : ¬ (k : Int) < (b1n : Int) := by omega
   obtain ⟨SQ, hSQ⟩ : ∃ SQ : World -> Prop, SQ = fun z => (Below w.heap.size w z /\ Below w6.heap.size w6 z) /\ z.cell? ⟨w.heap.size, 0, none⟩ = some (.slice c0p c0n c0c) /\ z.cell? ⟨w.heap.size, 1, none⟩ = some (.slice c1p c1n c1c) /\ z.cell? ⟨w6.heap.size, 0, none⟩ = some (.slice a0p a0n a0c) /\ z.cell? ⟨w6.heap.size, 1, none⟩ = some (.slice a1p a1n a1c) := ⟨_, rfl⟩
   have SQN : Hid (∀ z z', SQ z -> Below z.heap.size z z' -> SQ z') := by
    intro z z' hz hb
    rw [hSQ] at hz ⊢
    have l0 := hz.1.1.size
    have l1 := hz.1.2.size
    have c1 : w.heap.size < z.heap.size := World.block_lt_of_cell? z ⟨w.heap.size, 0, none⟩ hz.2.1
    have c2 : w6.heap.size < z.heap.size := World.block_lt_of_cell? z ⟨w6.heap.size, 0, none⟩ hz.2.2.2.1
    refine ⟨⟨hz.1.1.trans (below_le hb l0), hz.1.2.trans (below_le hb l1)⟩, ?_, ?_, ?_, ?_⟩
    ·rw [hb.cell (p := ⟨w.heap.size, 0, none⟩) c1]; exact hz.2.1
    ·rw [hb.cell (p := ⟨w.heap.size, 1, none⟩) c1]; exact hz.2.2.1
    ·rw [hb.cell (p := ⟨w6.heap.size, 0, none⟩) c2]; exact hz.2.2.2.1
    ·rw [hb.cell (p := ⟨w6.heap.size, 1, none⟩) c2]; exact hz.2.2.2.2
   have SQB : Hid (∀ z, SQ z -> Below w.heap.size w z /\ Below w6.heap.size w6 z) := by
    intro z hz
    rw [hSQ] at hz
    exact hz.1
   have E8 : Hid (∀ z, SQ z -> Calls Tryz.prog 8 #[] z fun ev z' => ev = .returned (.bool true) /\ SQ z') := by
    intro z hz
    refine (G8.out z (SQB.out z hz).1).mono ?_
    rintro _ z' ⟨rfl, hb⟩
    exact ⟨rfl, SQN.out z z' hz hb⟩
   have E11 : Hid (∀ z, SQ z -> Calls Tryz.prog 11 #[.agg #[.slice c0p c0n c0c, .slice c1p c1n c1c]] z fun ev z' => ∃ d0p d0n d0c d1p d1n d1c, ev = .returned (.agg #[.slice d0p d0n d0c, .slice d1p d1n d1c]) /\ SQ z' /\ Calls Tryz.prog 12 #[.agg #[.slice a0p a0n a0c, .slice a1p a1n a1c], .agg #[.slice d0p d0n d0c, .slice d1p d1n d1c]] z' fun ev y => ev = .returned (.bool true) /\ SQ y) := by
    intro z hz
    refine (G11c.out z (SQB.out z hz).1).mono ?_
    rintro _ z' ⟨d0p, d0n, d0c, d1p, d1n, d1c, rfl, hb, hq⟩
    have h2 := SQN.out z z' hz hb
    refine ⟨d0p, d0n, d0c, d1p, d1n, d1c, rfl, h2, (GS2.out z z' [.slice d0p d0n d0c, .slice d1p d1n d1c] (SQB.out z' h2).2 hq).mono ?_⟩
    rintro _ y ⟨rfl, hb2⟩
    exact ⟨rfl, SQN.out z' y h2 hb2⟩
   have E0 : SQ wr := by rw [hSQ]; exact RZ.out wr M1.out
   have E1 : SQ wr.drew := SQN.out _ _ E0 ((Below.refl _ _).drew)
   clear RF RB RZ GS2 G8 G11c SQN M1
   go_wp2_with fail
   refine wp_region_held_drew (S := SQ) (by kernel_rfl) (E1) (fun hHeld => ?_)
   refine wpAnyH_ready (rs := [0]) (by kernel_rfl) (by simp) ?_
   refine AllReadyH.cons (o := { dst := some 96, op := Op.call { callee := Callee.value (Operand.func 8), args := #[], argTypes := #[] }, type := 4, pos := "law.go:82", after := #[], guard := none }) rfl (fun K hK => ?_) AllReadyH.nil
   go_simp
   refine (E8.out _ hHeld).mono ?_
   rintro _ z5 ⟨rfl, hS5⟩
   refine hK.out _ _ (hS5) (fun hHeld => ?_)
   clear hK K
   try simp only [Act.put, List.setIfInBounds_toArray, List.set_cons_zero, List.set_cons_succ]
   refine wpAnyH_take (i := 1) (oi := { dst := some 97, op := Op.move (Operand.tmp 96), type := 4, pos := "law.go:82", after := #[{ on := 0, ground := Ground.data }, { on := 0, ground := Ground.chain }], guard := none }) (v := ?vr1) rfl (by kernel_rfl) (by kernel_rfl) (by kernel_rfl) (fun _ _ _ h => h) (Or.inl ⟨by rfl, ?hr1⟩) hHeld ?rr1
   case hr1 => (intro y hy; go_simp; with_reducible rfl)
   try simp only [Act.put, List.setIfInBounds_toArray, List.set_cons_zero, List.set_cons_succ]
   refine wpAnyH_take (i := 2) (oi := { dst := some 98, op := Op.load 25 (Operand.tmp 3), type := 25, pos := "law.go:82", after := #[{ on := 1, ground := Ground.guard }], guard := some (1, true) }) (v := ?vr2) rfl (by kernel_rfl) (by kernel_rfl) (by kernel_rfl) (fun _ _ _ h => h) (Or.inl ⟨by rfl, ?hr2⟩) hHeld ?rr2
   case hr2 => (intro y hy; rw [hSQ] at hy; obtain ⟨y0, y1, y2, y3, y4⟩ := hy; go_simp; with_reducible rfl)
   try simp only [Act.put, List.setIfInBounds_toArray, List.set_cons_zero, List.set_cons_succ]
   refine wpAnyH_take (i := 3) (oi := { dst := some 99, op := Op.load 25 (Operand.tmp 1), type := 25, pos := "law.go:82", after := #[{ on := 1, ground := Ground.guard }], guard := some (1, true) }) (v := ?vr3) rfl (by kernel_rfl) (by kernel_rfl) (by kernel_rfl) (fun _ _ _ h => h) (Or.inl ⟨by rfl, ?hr3⟩) hHeld ?rr3
   case hr3 => (intro y hy; rw [hSQ] at hy; obtain ⟨y0, y1, y2, y3, y4⟩ := hy; go_simp; with_reducible rfl)
   try simp only [Act.put, List.setIfInBounds_toArray, List.set_cons_zero, List.set_cons_succ]
   refine wpAnyH_ready (rs := [4]) (by kernel_rfl) (by simp) ?_
   refine AllReadyH.cons (o := { dst := some 100, op := Op.call { callee := Callee.value (Operand.func 11), args := #[Operand.tmp 99], argTypes := #[25] }, type := 25, pos := "law.go:82", after := #[{ on := 3, ground := Ground.data }, { on := 1, ground := Ground.chain }, { on := 1, ground := Ground.guard }], guard := some (1, true) }) rfl (fun K hK => ?_) AllReadyH.nil
   go_simp
   refine (E11.out _ hHeld).mono ?_
   rintro _ w10 ⟨d0p, d0n, d0c, d1p, d1n, d1c, rfl, hS6, H10⟩
   refine hK.out _ _ (hS6) (fun hHeld => ?_)
   clear hK K
   try simp only [Act.put, List.setIfInBounds_toArray, List.set_cons_zero, List.set_cons_succ]
   refine wpAnyH_ready (rs := [5]) (by kernel_rfl) (by simp) ?_
   refine AllReadyH.cons (o := { dst := some 101, op := Op.call { callee := Callee.value (Operand.func 12), args := #[Operand.tmp 98, Operand.tmp 100], argTypes := #[25, 25] }, type := 4, pos := "law.go:82", after := #[{ on := 2, ground := Ground.data }, { on := 4, ground := Ground.data }, { on := 4, ground := Ground.chain }, { on := 1, ground := Ground.guard }], guard := some (1, true) }) rfl (fun K hK => ?_) AllReadyH.nil
   go_simp
   refine H10.mono ?_
   rintro _ z7 ⟨rfl, hS7⟩
   refine hK.out _ _ (hS7) (fun hHeld => ?_)
   clear hK K
   try simp only [Act.put, List.setIfInBounds_toArray, List.set_cons_zero, List.set_cons_succ]
   refine wpAnyH_take (i := 6) (oi := { dst := some 102, op := Op.pick (Operand.tmp 97) (Operand.tmp 101) (Operand.const (Value.bool false)), type := 4, pos := "law.go:82", after := #[{ on := 1, ground := Ground.data }, { on := 5, ground := Ground.data }], guard := none }) (v := ?vr6) rfl (by kernel_rfl) (by kernel_rfl) (by kernel_rfl) (fun _ _ _ h => h) (Or.inl ⟨by rfl, ?hr6⟩) hHeld ?rr6
   case hr6 => (intro y hy; go_simp; with_reducible rfl)
   try simp only [Act.put, List.setIfInBounds_toArray, List.set_cons_zero, List.set_cons_succ]
   refine wpAnyH_take (i := 7) (oi := { dst := some 2, op := Op.assign (Operand.tmp 102), type := 4, pos := "law.go:82", after := #[{ on := 6, ground := Ground.data }, { on := 5, ground := Ground.chain }, { on := 0, ground := Ground.phase }, { on := 1, ground := Ground.phase }, { on := 2, ground := Ground.phase }, { on := 3, ground := Ground.phase }, { on := 4, ground := Ground.phase }, { on := 5, ground := Ground.phase }, { on := 6, ground := Ground.phase }], guard := none }) (v := ?vr7) rfl (by kernel_rfl) (by kernel_rfl) (by kernel_rfl) (fun _ _ _ h => h) (Or.inl ⟨by rfl, ?hr7⟩) hHeld ?rr7
   case hr7 => (intro y hy; go_simp; with_reducible rfl)
   try simp only [Act.put, List.setIfInBounds_toArray, List.set_cons_zero, List.set_cons_succ]
   refine wpAnyH_done (by kernel_rfl) ?_ _
   go_wp2_with fail
   go_ret
   exact ⟨rfl, (SQB.out _ hHeld).1⟩
end Go.Proofs.YtjenmmkamhplkaaGreat
