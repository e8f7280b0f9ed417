/-
  Rows of statements: are two the same? The document says it.
-/
import Derived.Test.YtmopffaocamieaaGreatJapXca6
import Derived.Test.YtmopffaocamieaaGreatJapXcg2
import Derived.Test.YtmopffaocamieaaGreatJapXci2
import Derived.Test.YtmopffaocamieaaGreatJapXck2
import Derived.Test.YtmopffaocamieaaGreatQapXsv
namespace Go.Proofs.YtmopffaocamieaaGreat
open Go.RowKit

theorem list2 {l : List Value} (h : l.length = 2) : ∃ a b : Value, l = [a, b] := by
  match l, h with
  | [a, b], _ => exact ⟨_, _, rfl⟩
theorem list15 {l : List Value} (h : l.length = 15) : ∃ a0 a1 a2 a3 a4 a5 a6 a7 a8 a9 a10 a11 a12 a13 a14 : Value, l = [a0, a1, a2, a3, a4, a5, a6, a7, a8, a9, a10, a11, a12, a13, a14] := by
  match l, h with
  | [a0, a1, a2, a3, a4, a5, a6, a7, a8, a9, a10, a11, a12, a13, a14], _ => exact ⟨_, _, _, _, _, _, _, _, _, _, _, _, _, _, _, rfl⟩

set_option maxHeartbeats 16000000 in
set_option maxRecDepth 20000 in
theorem xstmts_of {n : Nat} (ih : ∀ m, n = m + 1 → ∀ {K : Ctx} {w : World}, K.C ≤ w.heap.size → ∀ {va vb : Value} {LX LY : List St}, Ar 32 496 (StAt m K w) K w va LX → Ar 32 496 (StAt m K w) K w vb LY → ∀ (B : Bool), (B = true ↔ LX = LY) → Calls Tryz.prog 112 #[va, vb] w fun ev w' => ev = .returned (.bool B) ∧ Below w.heap.size w w')
    {K : Ctx} {w : World} (hC : K.C ≤ w.heap.size) {va vb : Value} {LX LY : List St} (ha : Ar 32 496 (StAt n K w) K w va LX) (hb : Ar 32 496 (StAt n K w) K w vb LY) (B : Bool) (hB : B = true ↔ LX = LY) :
    Calls Tryz.prog 112 #[va, vb] w fun ev w' => ev = .returned (.bool B) ∧ Below w.heap.size w w' := by
  obtain ⟨ax, cx, rfl, hcx, hbx, HAx⟩ := ha.shape
  obtain ⟨ay, cy, rfl, hcy, hby, HAy⟩ := hb.shape
  have hl9 : LX.length ≤ 9223372036854775807 := by omega
  have HB : Hid (B = true ↔ LX = LY) := hB
  by_cases hlen : LX.length = LY.length
  rotate_left
  · have b1 : ((LX.length : Int) != (LY.length : Int)) = true := by simp; omega
    have HF : Hid (B = false) := bool_false HB.out (fun h => hlen (by rw [h]))
    clear hB HB ha hb HAx HAy hbx hby hlen ih
    go_enter Tryz.func112, Tryz.ntmps112
    go_wp2_with fail
    go_ret
    exact ⟨by rw [HF.out]; rfl, Below.refl _ _⟩
  have b1 : ((LX.length : Int) != (LY.length : Int)) = false := by simp; omega
  have HL : Hid (LX.length = LY.length) := hlen
  have HAX : Hid (∀ i (h : i < LX.length) (y : World), Below K.C w y → ∃ b o, ax = some ⟨b, o, none⟩ ∧ b < K.C ∧ ∃ cs, cs.length = 32 ∧ y.rangeAt b (o + i * 32) cs ∧ StAt n K w cs LX[i]) := by
    intro i h y hy
    obtain ⟨b, o, e, hbC, cs, hl, hcs, hx⟩ := HAx i h
    refine ⟨b, o, e, hbC, cs, hl, fun j u hj => ?_, hx⟩
    have hj' : j < 32 := by rw [← hl]; exact (List.getElem?_eq_some_iff.1 hj).1
    rw [hy.cell (p := ⟨b, o + i * 32 + j, none⟩) hbC, hcs j hj']
    exact hj
  have HAY : Hid (∀ i (h : i < LY.length) (y : World), Below K.C w y → ∃ b o, ay = some ⟨b, o, none⟩ ∧ b < K.C ∧ ∃ cs, cs.length = 32 ∧ y.rangeAt b (o + i * 32) cs ∧ StAt n K w cs LY[i]) := by
    intro i h y hy
    obtain ⟨b, o, e, hbC, cs, hl, hcs, hx⟩ := HAy i h
    refine ⟨b, o, e, hbC, cs, hl, fun j u hj => ?_, hx⟩
    have hj' : j < 32 := by rw [← hl]; exact (List.getElem?_eq_some_iff.1 hj).1
    rw [hy.cell (p := ⟨b, o + i * 32 + j, none⟩) hbC, hcs j hj']
    exact hj
  have IH : Hid (∀ m, n = m + 1 → ∀ {K : Ctx} {w : World}, K.C ≤ w.heap.size → ∀ {va vb : Value} {LX LY : List St}, Ar 32 496 (StAt m K w) K w va LX → Ar 32 496 (StAt m K w) K w vb LY → ∀ (B : Bool), (B = true ↔ LX = LY) → Calls Tryz.prog 112 #[va, vb] w fun ev w' => ev = .returned (.bool B) ∧ Below w.heap.size w w') := ih
  have HCw : Hid (K.C ≤ w.heap.size) := hC
  clear hB ha hb HAx HAy hbx hby hlen hcx hcy ih hC
  go_enter Tryz.func112, Tryz.ntmps112
  go_wp2_with fail
  go_loopw [5] (fun i wr => ∃ k : Nat, k ≤ LX.length ∧ i = .int .i64 k ∧ (∀ j (h : j < LX.length) (h' : j < LY.length), j < k → LX[j] = LY[j]) ∧ Below w.heap.size w wr) (fun i _ => LX.length - (intOf i).toNat)
  case atStart => exact ⟨0, by omega, rfl, fun j _ _ h => by omega, Below.refl _ _⟩
  case round =>
    obtain ⟨k, hk, rfl, hj, hbw⟩ := hrel
    have HJ : Hid (∀ j (h : j < LX.length) (h' : j < LY.length), j < k → LX[j] = LY[j]) := hj
    have HBW : Hid (Below w.heap.size w wr) := hbw
    clear hj hbw
    by_cases h3 : k < LX.length
    rotate_left
    · have i1 : ¬ (k : Int) < (LX.length : Int) := by omega
      have HF : Hid (B = true) := HB.out.2 (eq_upto HL.out fun j ha hb => HJ.out j ha hb (by omega))
      clear HAX HAY IH HB HJ
      go_wp2_with fail
      go_ret
      exact ⟨by rw [HF.out]; rfl, HBW.out⟩
    have h4 : k < LY.length := by rw [← HL.out]; exact h3
    have hKr : Below K.C w wr := below_le HBW.out HCw.out
    obtain ⟨b, o, ex1, hbC, csx, lx, rx, kx⟩ := HAX.out k h3 wr hKr
    obtain ⟨b', o', ey1, hbC', csy, ly, ry, ky⟩ := HAY.out k h4 wr hKr
    subst ex1 ey1
    have hbr : b < wr.heap.size := Nat.lt_of_lt_of_le hbC (Nat.le_trans HCw.out HBW.out.size)
    have hbr' : b' < wr.heap.size := Nat.lt_of_lt_of_le hbC' (Nat.le_trans HCw.out HBW.out.size)
    have i1 : (k : Int) < (LX.length : Int) := by omega
    have i2 : (k : Int) < (LY.length : Int) := by omega
    have ox := kx.one
    have oy := ky.one
    cases n with
    | zero => exact kx.elim
    | succ m =>
    have HN : Hid (LX[k] ≠ LY[k] → B = false) := fun hne => bool_false HB.out (not_at h3 h4 hne)
    have HJ' : Hid (LX[k] = LY[k] → ∀ j (h : j < LX.length) (h' : j < LY.length), j < k + 1 → LX[j] = LY[j]) := by
      intro he j ha hb hjk
      rcases Nat.lt_or_ge j k with h | h
      · exact HJ.out j ha hb h
      · obtain rfl : j = k := by omega
        exact he
    generalize LX[k] = x1 at *
    generalize LY[k] = x2 at *
    obtain ⟨ts1, ps1, vs1, os1, vt1, ve1, ec1, hn1, kt1, kp1, kv1, ko1, h61, h71⟩ := kx
    obtain ⟨ts2, ps2, vs2, os2, vt2, ve2, ec2, hn2, kt2, kp2, kv2, ko2, h62, h72⟩ := ky
    obtain ⟨t10, t11, t12, t13, rfl⟩ := list4 kt1.len
    obtain ⟨p10, p11, rfl⟩ := list2 kp1.len
    obtain ⟨v10, v11, v12, v13, v14, v15, v16, v17, v18, v19, v110, v111, v112, v113, v114, rfl⟩ := list15 kv1.len
    obtain ⟨o10, o11, o12, o13, rfl⟩ := list4 ko1.len
    obtain ⟨t20, t21, t22, t23, rfl⟩ := list4 kt2.len
    obtain ⟨p20, p21, rfl⟩ := list2 kp2.len
    obtain ⟨v20, v21, v22, v23, v24, v25, v26, v27, v28, v29, v210, v211, v212, v213, v214, rfl⟩ := list15 kv2.len
    obtain ⟨o20, o21, o22, o23, rfl⟩ := list4 ko2.len
    simp only [List.cons_append, List.nil_append] at ec1 ec2
    have REG : Hid (∀ (W0 : World) (gx gy : Nat), Row W0 gx 114 csx → Row W0 gy 114 csy → Below wr.heap.size wr W0 → ∀ W, Below W0.heap.size W0 W → Below w.heap.size w W ∧ Row W gx 114 csx ∧ Row W gy 114 csy) := by
      intro W0 gx gy R1 R2 hw0 W hW
      have z1 := hw0.size
      have z2 := HBW.out.size
      exact ⟨HBW.out.trans ((below_le hw0 z2).trans (below_le hW (by omega))), R1.below hW R1.lt, R2.below hW R2.lt⟩
    have q5 : Hid (∀ (B : Bool), (B = true ↔ x1.ty = x2.ty) → ∀ (W0 W : World), Below w.heap.size w W → Below W0.heap.size W0 W → Calls Tryz.prog 99 #[.agg #[t10, t11, t12, t13], .agg #[t20, t21, t22, t23]] W fun ev w' => ev = .returned (.bool B) ∧ Below W0.heap.size W0 w') := by
      intro B hB W0 W hw hW
      have HC : ∀ W, Below w.heap.size w W → K.C ≤ W.heap.size := fun W hw => Nat.le_trans HCw.out hw.size
      have HK : ∀ W, Below w.heap.size w W → Below K.C w W := fun W hw => below_le hw HCw.out
      refine (xsameType_any (HC W hw) (kt1.below (HK W hw)) (kt2.below (HK W hw)) B hB).mono ?_
      rintro _ _ ⟨rfl, h⟩
      exact ⟨rfl, hW.trans (below_le h hW.size)⟩
    have q6 : Hid (∀ (B : Bool), (B = true ↔ x1.place = x2.place) → ∀ (W0 W : World), Below w.heap.size w W → Below W0.heap.size W0 W → Calls Tryz.prog 159 #[.agg #[p10, p11], .agg #[p20, p21]] W fun ev w' => ev = .returned (.bool B) ∧ Below W0.heap.size W0 w') := by
      intro B hB W0 W hw hW
      have HC : ∀ W, Below w.heap.size w W → K.C ≤ W.heap.size := fun W hw => Nat.le_trans HCw.out hw.size
      have HK : ∀ W, Below w.heap.size w W → Below K.C w W := fun W hw => below_le hw HCw.out
      refine (xplace_any (HC W hw) (kp1.below (HK W hw)) (kp2.below (HK W hw)) B hB).mono ?_
      rintro _ _ ⟨rfl, h⟩
      exact ⟨rfl, hW.trans (below_le h hW.size)⟩
    have q7 : Hid (∀ (B : Bool), (B = true ↔ x1.val = x2.val) → ∀ (W0 W : World), Below w.heap.size w W → Below W0.heap.size W0 W → Calls Tryz.prog 160 #[.agg #[v10, v11, v12, v13, v14, v15, v16, v17, v18, v19, v110, v111, v112, v113, v114], .agg #[v20, v21, v22, v23, v24, v25, v26, v27, v28, v29, v210, v211, v212, v213, v214]] W fun ev w' => ev = .returned (.bool B) ∧ Below W0.heap.size W0 w') := by
      intro B hB W0 W hw hW
      have HC : ∀ W, Below w.heap.size w W → K.C ≤ W.heap.size := fun W hw => Nat.le_trans HCw.out hw.size
      have HK : ∀ W, Below w.heap.size w W → Below K.C w W := fun W hw => below_le hw HCw.out
      refine (xvalue_any (HC W hw) (kv1.below (HK W hw)) (kv2.below (HK W hw)) B hB).mono ?_
      rintro _ _ ⟨rfl, h⟩
      exact ⟨rfl, hW.trans (below_le h hW.size)⟩
    have q8 : Hid (∀ (B : Bool), (B = true ↔ x1.cond = x2.cond) → ∀ (W0 W : World), Below w.heap.size w W → Below W0.heap.size W0 W → Calls Tryz.prog 161 #[.agg #[o10, o11, o12, o13], .agg #[o20, o21, o22, o23]] W fun ev w' => ev = .returned (.bool B) ∧ Below W0.heap.size W0 w') := by
      intro B hB W0 W hw hW
      have HC : ∀ W, Below w.heap.size w W → K.C ≤ W.heap.size := fun W hw => Nat.le_trans HCw.out hw.size
      have HK : ∀ W, Below w.heap.size w W → Below K.C w W := fun W hw => below_le hw HCw.out
      refine (xoper_any (HC W hw) (ko1.below (HK W hw)) (ko2.below (HK W hw)) B hB).mono ?_
      rintro _ _ ⟨rfl, h⟩
      exact ⟨rfl, hW.trans (below_le h hW.size)⟩
    have q9 : Hid (∀ (B : Bool), (B = true ↔ x1.thn = x2.thn) → ∀ (W0 W : World), Below w.heap.size w W → Below W0.heap.size W0 W → Calls Tryz.prog 112 #[vt1, vt2] W fun ev w' => ev = .returned (.bool B) ∧ Below W0.heap.size W0 w') := by
      intro B hB W0 W hw hW
      have HC : ∀ W, Below w.heap.size w W → K.C ≤ W.heap.size := fun W hw => Nat.le_trans HCw.out hw.size
      have HK : ∀ W, Below w.heap.size w W → Below K.C w W := fun W hw => below_le hw HCw.out
      refine (IH.out m rfl (HC W hw) (h61.mono (HK W hw) fun _ _ _ h => h.below (HK W hw)) (h62.mono (HK W hw) fun _ _ _ h => h.below (HK W hw)) B hB).mono ?_
      rintro _ _ ⟨rfl, h⟩
      exact ⟨rfl, hW.trans (below_le h hW.size)⟩
    have q10 : Hid (∀ (B : Bool), (B = true ↔ x1.els = x2.els) → ∀ (W0 W : World), Below w.heap.size w W → Below W0.heap.size W0 W → Calls Tryz.prog 112 #[ve1, ve2] W fun ev w' => ev = .returned (.bool B) ∧ Below W0.heap.size W0 w') := by
      intro B hB W0 W hw hW
      have HC : ∀ W, Below w.heap.size w W → K.C ≤ W.heap.size := fun W hw => Nat.le_trans HCw.out hw.size
      have HK : ∀ W, Below w.heap.size w W → Below K.C w W := fun W hw => below_le hw HCw.out
      refine (IH.out m rfl (HC W hw) (h71.mono (HK W hw) fun _ _ _ h => h.below (HK W hw)) (h72.mono (HK W hw) fun _ _ _ h => h.below (HK W hw)) B hB).mono ?_
      rintro _ _ ⟨rfl, h⟩
      exact ⟨rfl, hW.trans (below_le h hW.size)⟩
    obtain ⟨p61, m61, e61⟩ := h61.form
    obtain ⟨p62, m62, e62⟩ := h62.form
    obtain ⟨p71, m71, e71⟩ := h71.form
    obtain ⟨p72, m72, e72⟩ := h72.form
    have kx0 : csx[0]? = some (.int .i64 x1.kind) := by rw [ec1]; rfl
    have ky0 : csy[0]? = some (.int .i64 x2.kind) := by rw [ec2]; rfl
    have kx1 : csx[1]? = some (.int .i64 x1.pos) := by rw [ec1]; rfl
    have ky1 : csy[1]? = some (.int .i64 x2.pos) := by rw [ec2]; rfl
    have kx2 : csx[2]? = some (.bool x1.mu) := by rw [ec1]; rfl
    have ky2 : csy[2]? = some (.bool x2.mu) := by rw [ec2]; rfl
    have kx3 : csx[3]? = some (.string (str x1.name)) := by rw [ec1]; rfl
    have ky3 : csy[3]? = some (.string (str x2.name)) := by rw [ec2]; rfl
    have kx4 : csx[4]? = some (t10) := by rw [ec1]; rfl
    have ky4 : csy[4]? = some (t20) := by rw [ec2]; rfl
    have kx5 : csx[5]? = some (t11) := by rw [ec1]; rfl
    have ky5 : csy[5]? = some (t21) := by rw [ec2]; rfl
    have kx6 : csx[6]? = some (t12) := by rw [ec1]; rfl
    have ky6 : csy[6]? = some (t22) := by rw [ec2]; rfl
    have kx7 : csx[7]? = some (t13) := by rw [ec1]; rfl
    have ky7 : csy[7]? = some (t23) := by rw [ec2]; rfl
    have kx8 : csx[8]? = some (.bool x1.has) := by rw [ec1]; rfl
    have ky8 : csy[8]? = some (.bool x2.has) := by rw [ec2]; rfl
    have kx9 : csx[9]? = some (p10) := by rw [ec1]; rfl
    have ky9 : csy[9]? = some (p20) := by rw [ec2]; rfl
    have kx10 : csx[10]? = some (p11) := by rw [ec1]; rfl
    have ky10 : csy[10]? = some (p21) := by rw [ec2]; rfl
    have kx11 : csx[11]? = some (v10) := by rw [ec1]; rfl
    have ky11 : csy[11]? = some (v20) := by rw [ec2]; rfl
    have kx12 : csx[12]? = some (v11) := by rw [ec1]; rfl
    have ky12 : csy[12]? = some (v21) := by rw [ec2]; rfl
    have kx13 : csx[13]? = some (v12) := by rw [ec1]; rfl
    have ky13 : csy[13]? = some (v22) := by rw [ec2]; rfl
    have kx14 : csx[14]? = some (v13) := by rw [ec1]; rfl
    have ky14 : csy[14]? = some (v23) := by rw [ec2]; rfl
    have kx15 : csx[15]? = some (v14) := by rw [ec1]; rfl
    have ky15 : csy[15]? = some (v24) := by rw [ec2]; rfl
    have kx16 : csx[16]? = some (v15) := by rw [ec1]; rfl
    have ky16 : csy[16]? = some (v25) := by rw [ec2]; rfl
    have kx17 : csx[17]? = some (v16) := by rw [ec1]; rfl
    have ky17 : csy[17]? = some (v26) := by rw [ec2]; rfl
    have kx18 : csx[18]? = some (v17) := by rw [ec1]; rfl
    have ky18 : csy[18]? = some (v27) := by rw [ec2]; rfl
    have kx19 : csx[19]? = some (v18) := by rw [ec1]; rfl
    have ky19 : csy[19]? = some (v28) := by rw [ec2]; rfl
    have kx20 : csx[20]? = some (v19) := by rw [ec1]; rfl
    have ky20 : csy[20]? = some (v29) := by rw [ec2]; rfl
    have kx21 : csx[21]? = some (v110) := by rw [ec1]; rfl
    have ky21 : csy[21]? = some (v210) := by rw [ec2]; rfl
    have kx22 : csx[22]? = some (v111) := by rw [ec1]; rfl
    have ky22 : csy[22]? = some (v211) := by rw [ec2]; rfl
    have kx23 : csx[23]? = some (v112) := by rw [ec1]; rfl
    have ky23 : csy[23]? = some (v212) := by rw [ec2]; rfl
    have kx24 : csx[24]? = some (v113) := by rw [ec1]; rfl
    have ky24 : csy[24]? = some (v213) := by rw [ec2]; rfl
    have kx25 : csx[25]? = some (v114) := by rw [ec1]; rfl
    have ky25 : csy[25]? = some (v214) := by rw [ec2]; rfl
    have kx26 : csx[26]? = some (o10) := by rw [ec1]; rfl
    have ky26 : csy[26]? = some (o20) := by rw [ec2]; rfl
    have kx27 : csx[27]? = some (o11) := by rw [ec1]; rfl
    have ky27 : csy[27]? = some (o21) := by rw [ec2]; rfl
    have kx28 : csx[28]? = some (o12) := by rw [ec1]; rfl
    have ky28 : csy[28]? = some (o22) := by rw [ec2]; rfl
    have kx29 : csx[29]? = some (o13) := by rw [ec1]; rfl
    have ky29 : csy[29]? = some (o23) := by rw [ec2]; rfl
    have kx30 : csx[30]? = some (vt1) := by rw [ec1]; rfl
    have ky30 : csy[30]? = some (vt2) := by rw [ec2]; rfl
    have kx31 : csx[31]? = some (ve1) := by rw [ec1]; rfl
    have ky31 : csy[31]? = some (ve2) := by rw [ec2]; rfl
    clear kt1 kp1 kv1 ko1 kt2 kp2 kv2 ko2 h61 h62 h71 h72 hn1 hn2 ec1 ec2 IH HAX HAY hKr hbC hbC' HJ HB
    by_cases e0 : x1.kind = x2.kind
    rotate_left
    · have HF : Hid (B = false) := HN.out (fun h => e0 (by rw [h]))
      have p0 : (x1.kind != x2.kind) = true := by simp [e0]
      clear q5 q6 q7 q8 q9 q10 e0 HN HJ' HL
      subst e61 e62 e71 e72
      generalize x1.kind = g10 at *
      generalize x1.pos = g11 at *
      generalize x1.mu = g12 at *
      generalize x1.has = g13 at *
      generalize str x1.name = g14 at *
      generalize x1.thn.length = g15 at *
      generalize x1.els.length = g16 at *
      generalize x2.kind = g20 at *
      generalize x2.pos = g21 at *
      generalize x2.mu = g22 at *
      generalize x2.has = g23 at *
      generalize str x2.name = g24 at *
      generalize x2.thn.length = g25 at *
      generalize x2.els.length = g26 at *
      go_wp2_with fail
      refine Code.wp_mono ?_ (r77_any wr b o b' o' LX.length LY.length cx cy k csx csy rx ry hbr hbr' lx ly ox oy i1 i2 _ _ _ _ _ _ _ _ _ _ _ _ _ _ _ _ _ _ _ _ _ _ _ _ _ _ _ _ _ _ _ _ _ _ _ _ _ _ _ _ _ _ _ _ _ _ _ _ _ _ _ _ _ _ _ _ _ _ _ _ _ _ _ _ _ _ _ _ _ _ _ _ _ _ _ _ _ _ _ _ _ _ _ _ _ _ _ _ _ _ _ _ _ _ _ _ _ _ _ _ _ _ _ _ _)
      rintro _ _ W0 ⟨rfl, gx, gy, rfl, R1, R2, hg1, hg2, hw0⟩
      have HWW : Hid (∀ W, Below W0.heap.size W0 W → Below w.heap.size w W) := fun W hW => (REG.out W0 gx gy R1 R2 hw0 W hW).1
      iterate 3 (first | go_back | go_step | go_in)
      refine s77_0 W0 gx gy csx csy R1 R2 _ _ kx0 ky0 p0 _ _ _ _ _ _ _ _ _ _ _ _ _ _ _ _ _ _ _ _ _ _ _ _ _ _ _ _ _ _ _ _ _ _ _ _ _ _ _ _ _ _ _ _ _ _ _ _ _ _ _ _ _ _ _ _ _ _ _ _ _ _ _ _ _ _ _ _ _ _ _ _ _ _ _ _ _ _ _ _ _ _ _ _ _ _ _ _ _ _ _ _ _ _ _ _ _ _ _ _ _ _ _ _ _ _ ?_
      intro v27 v28 v29 v30 v31 v32 v33 v34 v35 v36 v37 v38 v39 v40 v41 v42 v43 v44 v45 v46 v47 v48 v49 v50 v51 v52 v53 v54 v55 v56 v57 v58 v59 v60 v61 v62 v63 v64 v65 v66 v67 v68 v69 v70 v71 v72 v73 v74 v75 v76 v77 v78 v79 v80 v81 v82 v83 v84 v85 v86 v87 v88 v89 v90 v91 v92 v93 v94 v95 v96 v97 v98 v99 v100 v101 v102 v103 v104 v105 v106 W hbW
      have hww := HWW.out W hbW
      clear REG HWW R1 R2 hw0 hg1 hg2 rx ry hbr hbr' ox oy 
      go_wp2_with fail
      go_ret
      exact ⟨by rw [HF.out]; rfl, hww⟩
    by_cases e1 : x1.pos = x2.pos
    rotate_left
    · have HF : Hid (B = false) := HN.out (fun h => e1 (by rw [h]))
      have p0 : (x1.kind != x2.kind) = false := by simp [e0]
      have p1 : (x1.pos != x2.pos) = true := by simp [e1]
      clear q5 q6 q7 q8 q9 q10 e0 e1 HN HJ' HL
      subst e61 e62 e71 e72
      generalize x1.kind = g10 at *
      generalize x1.pos = g11 at *
      generalize x1.mu = g12 at *
      generalize x1.has = g13 at *
      generalize str x1.name = g14 at *
      generalize x1.thn.length = g15 at *
      generalize x1.els.length = g16 at *
      generalize x2.kind = g20 at *
      generalize x2.pos = g21 at *
      generalize x2.mu = g22 at *
      generalize x2.has = g23 at *
      generalize str x2.name = g24 at *
      generalize x2.thn.length = g25 at *
      generalize x2.els.length = g26 at *
      go_wp2_with fail
      refine Code.wp_mono ?_ (r77_any wr b o b' o' LX.length LY.length cx cy k csx csy rx ry hbr hbr' lx ly ox oy i1 i2 _ _ _ _ _ _ _ _ _ _ _ _ _ _ _ _ _ _ _ _ _ _ _ _ _ _ _ _ _ _ _ _ _ _ _ _ _ _ _ _ _ _ _ _ _ _ _ _ _ _ _ _ _ _ _ _ _ _ _ _ _ _ _ _ _ _ _ _ _ _ _ _ _ _ _ _ _ _ _ _ _ _ _ _ _ _ _ _ _ _ _ _ _ _ _ _ _ _ _ _ _ _ _ _ _)
      rintro _ _ W0 ⟨rfl, gx, gy, rfl, R1, R2, hg1, hg2, hw0⟩
      have HWW : Hid (∀ W, Below W0.heap.size W0 W → Below w.heap.size w W) := fun W hW => (REG.out W0 gx gy R1 R2 hw0 W hW).1
      iterate 3 (first | go_back | go_step | go_in)
      refine s77_1 W0 gx gy csx csy R1 R2 _ _ _ _ kx0 ky0 kx1 ky1 p0 p1 _ _ _ _ _ _ _ _ _ _ _ _ _ _ _ _ _ _ _ _ _ _ _ _ _ _ _ _ _ _ _ _ _ _ _ _ _ _ _ _ _ _ _ _ _ _ _ _ _ _ _ _ _ _ _ _ _ _ _ _ _ _ _ _ _ _ _ _ _ _ _ _ _ _ _ _ _ _ _ _ _ _ _ _ _ _ _ _ _ _ _ _ _ _ _ _ _ _ _ _ _ _ _ _ _ _ ?_
      intro v27 v28 v29 v30 v31 v32 v33 v34 v35 v36 v37 v38 v39 v40 v41 v42 v43 v44 v45 v46 v47 v48 v49 v50 v51 v52 v53 v54 v55 v56 v57 v58 v59 v60 v61 v62 v63 v64 v65 v66 v67 v68 v69 v70 v71 v72 v73 v74 v75 v76 v77 v78 v79 v80 v81 v82 v83 v84 v85 v86 v87 v88 v89 v90 v91 v92 v93 v94 v95 v96 v97 v98 v99 v100 v101 v102 v103 v104 v105 v106 W hbW
      have hww := HWW.out W hbW
      clear REG HWW R1 R2 hw0 hg1 hg2 rx ry hbr hbr' ox oy 
      go_wp2_with fail
      go_ret
      exact ⟨by rw [HF.out]; rfl, hww⟩
    by_cases e2 : x1.mu = x2.mu
    rotate_left
    · have HF : Hid (B = false) := HN.out (fun h => e2 (by rw [h]))
      have p0 : (x1.kind != x2.kind) = false := by simp [e0]
      have p1 : (x1.pos != x2.pos) = false := by simp [e1]
      have p2 : (x1.mu != x2.mu) = true := by simp [e2]
      clear q5 q6 q7 q8 q9 q10 e0 e1 e2 HN HJ' HL
      subst e61 e62 e71 e72
      generalize x1.kind = g10 at *
      generalize x1.pos = g11 at *
      generalize x1.mu = g12 at *
      generalize x1.has = g13 at *
      generalize str x1.name = g14 at *
      generalize x1.thn.length = g15 at *
      generalize x1.els.length = g16 at *
      generalize x2.kind = g20 at *
      generalize x2.pos = g21 at *
      generalize x2.mu = g22 at *
      generalize x2.has = g23 at *
      generalize str x2.name = g24 at *
      generalize x2.thn.length = g25 at *
      generalize x2.els.length = g26 at *
      go_wp2_with fail
      refine Code.wp_mono ?_ (r77_any wr b o b' o' LX.length LY.length cx cy k csx csy rx ry hbr hbr' lx ly ox oy i1 i2 _ _ _ _ _ _ _ _ _ _ _ _ _ _ _ _ _ _ _ _ _ _ _ _ _ _ _ _ _ _ _ _ _ _ _ _ _ _ _ _ _ _ _ _ _ _ _ _ _ _ _ _ _ _ _ _ _ _ _ _ _ _ _ _ _ _ _ _ _ _ _ _ _ _ _ _ _ _ _ _ _ _ _ _ _ _ _ _ _ _ _ _ _ _ _ _ _ _ _ _ _ _ _ _ _)
      rintro _ _ W0 ⟨rfl, gx, gy, rfl, R1, R2, hg1, hg2, hw0⟩
      have HWW : Hid (∀ W, Below W0.heap.size W0 W → Below w.heap.size w W) := fun W hW => (REG.out W0 gx gy R1 R2 hw0 W hW).1
      iterate 3 (first | go_back | go_step | go_in)
      refine s77_2 W0 gx gy csx csy R1 R2 _ _ _ _ _ _ kx0 ky0 kx1 ky1 kx2 ky2 p0 p1 p2 _ _ _ _ _ _ _ _ _ _ _ _ _ _ _ _ _ _ _ _ _ _ _ _ _ _ _ _ _ _ _ _ _ _ _ _ _ _ _ _ _ _ _ _ _ _ _ _ _ _ _ _ _ _ _ _ _ _ _ _ _ _ _ _ _ _ _ _ _ _ _ _ _ _ _ _ _ _ _ _ _ _ _ _ _ _ _ _ _ _ _ _ _ _ _ _ _ _ _ _ _ _ _ _ _ _ ?_
      intro v27 v28 v29 v30 v31 v32 v33 v34 v35 v36 v37 v38 v39 v40 v41 v42 v43 v44 v45 v46 v47 v48 v49 v50 v51 v52 v53 v54 v55 v56 v57 v58 v59 v60 v61 v62 v63 v64 v65 v66 v67 v68 v69 v70 v71 v72 v73 v74 v75 v76 v77 v78 v79 v80 v81 v82 v83 v84 v85 v86 v87 v88 v89 v90 v91 v92 v93 v94 v95 v96 v97 v98 v99 v100 v101 v102 v103 v104 v105 v106 W hbW
      have hww := HWW.out W hbW
      clear REG HWW R1 R2 hw0 hg1 hg2 rx ry hbr hbr' ox oy 
      go_wp2_with fail
      go_ret
      exact ⟨by rw [HF.out]; rfl, hww⟩
    by_cases e3 : x1.name = x2.name
    rotate_left
    · have HF : Hid (B = false) := HN.out (fun h => e3 (by rw [h]))
      have p0 : (x1.kind != x2.kind) = false := by simp [e0]
      have p1 : (x1.pos != x2.pos) = false := by simp [e1]
      have p2 : (x1.mu != x2.mu) = false := by simp [e2]
      have p3 : ((str x1.name).toList == (str x2.name).toList) = false := by rw [str_beq]; simp [e3]
      clear q5 q6 q7 q8 q9 q10 e0 e1 e2 e3 HN HJ' HL
      subst e61 e62 e71 e72
      generalize x1.kind = g10 at *
      generalize x1.pos = g11 at *
      generalize x1.mu = g12 at *
      generalize x1.has = g13 at *
      generalize str x1.name = g14 at *
      generalize x1.thn.length = g15 at *
      generalize x1.els.length = g16 at *
      generalize x2.kind = g20 at *
      generalize x2.pos = g21 at *
      generalize x2.mu = g22 at *
      generalize x2.has = g23 at *
      generalize str x2.name = g24 at *
      generalize x2.thn.length = g25 at *
      generalize x2.els.length = g26 at *
      go_wp2_with fail
      refine Code.wp_mono ?_ (r77_any wr b o b' o' LX.length LY.length cx cy k csx csy rx ry hbr hbr' lx ly ox oy i1 i2 _ _ _ _ _ _ _ _ _ _ _ _ _ _ _ _ _ _ _ _ _ _ _ _ _ _ _ _ _ _ _ _ _ _ _ _ _ _ _ _ _ _ _ _ _ _ _ _ _ _ _ _ _ _ _ _ _ _ _ _ _ _ _ _ _ _ _ _ _ _ _ _ _ _ _ _ _ _ _ _ _ _ _ _ _ _ _ _ _ _ _ _ _ _ _ _ _ _ _ _ _ _ _ _ _)
      rintro _ _ W0 ⟨rfl, gx, gy, rfl, R1, R2, hg1, hg2, hw0⟩
      have HWW : Hid (∀ W, Below W0.heap.size W0 W → Below w.heap.size w W) := fun W hW => (REG.out W0 gx gy R1 R2 hw0 W hW).1
      iterate 3 (first | go_back | go_step | go_in)
      refine s77_3 W0 gx gy csx csy R1 R2 _ _ _ _ _ _ _ _ kx0 ky0 kx1 ky1 kx2 ky2 kx3 ky3 p0 p1 p2 p3 _ _ _ _ _ _ _ _ _ _ _ _ _ _ _ _ _ _ _ _ _ _ _ _ _ _ _ _ _ _ _ _ _ _ _ _ _ _ _ _ _ _ _ _ _ _ _ _ _ _ _ _ _ _ _ _ _ _ _ _ _ _ _ _ _ _ _ _ _ _ _ _ _ _ _ _ _ _ _ _ _ _ _ _ _ _ _ _ _ _ _ _ _ _ _ _ _ _ _ _ _ _ _ _ _ _ ?_
      intro v27 v28 v29 v30 v31 v32 v33 v34 v35 v36 v37 v38 v39 v40 v41 v42 v43 v44 v45 v46 v47 v48 v49 v50 v51 v52 v53 v54 v55 v56 v57 v58 v59 v60 v61 v62 v63 v64 v65 v66 v67 v68 v69 v70 v71 v72 v73 v74 v75 v76 v77 v78 v79 v80 v81 v82 v83 v84 v85 v86 v87 v88 v89 v90 v91 v92 v93 v94 v95 v96 v97 v98 v99 v100 v101 v102 v103 v104 v105 v106 W hbW
      have hww := HWW.out W hbW
      clear REG HWW R1 R2 hw0 hg1 hg2 rx ry hbr hbr' ox oy 
      go_wp2_with fail
      go_ret
      exact ⟨by rw [HF.out]; rfl, hww⟩
    by_cases e4 : x1.has = x2.has
    rotate_left
    · have HF : Hid (B = false) := HN.out (fun h => e4 (by rw [h]))
      have p0 : (x1.kind != x2.kind) = false := by simp [e0]
      have p1 : (x1.pos != x2.pos) = false := by simp [e1]
      have p2 : (x1.mu != x2.mu) = false := by simp [e2]
      have p3 : ((str x1.name).toList == (str x2.name).toList) = true := by rw [str_beq]; simp [e3]
      have p4 : (x1.has != x2.has) = true := by simp [e4]
      clear q5 q6 q7 q8 q9 q10 e0 e1 e2 e3 e4 HN HJ' HL
      subst e61 e62 e71 e72
      generalize x1.kind = g10 at *
      generalize x1.pos = g11 at *
      generalize x1.mu = g12 at *
      generalize x1.has = g13 at *
      generalize str x1.name = g14 at *
      generalize x1.thn.length = g15 at *
      generalize x1.els.length = g16 at *
      generalize x2.kind = g20 at *
      generalize x2.pos = g21 at *
      generalize x2.mu = g22 at *
      generalize x2.has = g23 at *
      generalize str x2.name = g24 at *
      generalize x2.thn.length = g25 at *
      generalize x2.els.length = g26 at *
      go_wp2_with fail
      refine Code.wp_mono ?_ (r77_any wr b o b' o' LX.length LY.length cx cy k csx csy rx ry hbr hbr' lx ly ox oy i1 i2 _ _ _ _ _ _ _ _ _ _ _ _ _ _ _ _ _ _ _ _ _ _ _ _ _ _ _ _ _ _ _ _ _ _ _ _ _ _ _ _ _ _ _ _ _ _ _ _ _ _ _ _ _ _ _ _ _ _ _ _ _ _ _ _ _ _ _ _ _ _ _ _ _ _ _ _ _ _ _ _ _ _ _ _ _ _ _ _ _ _ _ _ _ _ _ _ _ _ _ _ _ _ _ _ _)
      rintro _ _ W0 ⟨rfl, gx, gy, rfl, R1, R2, hg1, hg2, hw0⟩
      have HWW : Hid (∀ W, Below W0.heap.size W0 W → Below w.heap.size w W) := fun W hW => (REG.out W0 gx gy R1 R2 hw0 W hW).1
      iterate 3 (first | go_back | go_step | go_in)
      refine s77_4 W0 gx gy csx csy R1 R2 _ _ _ _ _ _ _ _ _ _ kx0 ky0 kx1 ky1 kx2 ky2 kx3 ky3 kx8 ky8 p0 p1 p2 p3 p4 _ _ _ _ _ _ _ _ _ _ _ _ _ _ _ _ _ _ _ _ _ _ _ _ _ _ _ _ _ _ _ _ _ _ _ _ _ _ _ _ _ _ _ _ _ _ _ _ _ _ _ _ _ _ _ _ _ _ _ _ _ _ _ _ _ _ _ _ _ _ _ _ _ _ _ _ _ _ _ _ _ _ _ _ _ _ _ _ _ _ _ _ _ _ _ _ _ _ _ _ _ _ _ _ _ _ ?_
      intro v27 v28 v29 v30 v31 v32 v33 v34 v35 v36 v37 v38 v39 v40 v41 v42 v43 v44 v45 v46 v47 v48 v49 v50 v51 v52 v53 v54 v55 v56 v57 v58 v59 v60 v61 v62 v63 v64 v65 v66 v67 v68 v69 v70 v71 v72 v73 v74 v75 v76 v77 v78 v79 v80 v81 v82 v83 v84 v85 v86 v87 v88 v89 v90 v91 v92 v93 v94 v95 v96 v97 v98 v99 v100 v101 v102 v103 v104 v105 v106 W hbW
      have hww := HWW.out W hbW
      clear REG HWW R1 R2 hw0 hg1 hg2 rx ry hbr hbr' ox oy 
      go_wp2_with fail
      go_ret
      exact ⟨by rw [HF.out]; rfl, hww⟩
    by_cases e5 : x1.ty = x2.ty
    rotate_left
    · have HF : Hid (B = false) := HN.out (fun h => e5 (by rw [h]))
      have p0 : (x1.kind != x2.kind) = false := by simp [e0]
      have p1 : (x1.pos != x2.pos) = false := by simp [e1]
      have p2 : (x1.mu != x2.mu) = false := by simp [e2]
      have p3 : ((str x1.name).toList == (str x2.name).toList) = true := by rw [str_beq]; simp [e3]
      have p4 : (x1.has != x2.has) = false := by simp [e4]
      have r5 : Hid (∀ (W0 W : World), Below w.heap.size w W → Below W0.heap.size W0 W → Calls Tryz.prog 99 #[.agg #[t10, t11, t12, t13], .agg #[t20, t21, t22, t23]] W fun ev w' => ev = .returned (.bool false) ∧ Below W0.heap.size W0 w') := q5.out false ⟨fun h => (by cases h), fun h => absurd h e5⟩
      clear q5 q6 q7 q8 q9 q10 e0 e1 e2 e3 e4 e5 HN HJ' HL
      subst e61 e62 e71 e72
      generalize x1.kind = g10 at *
      generalize x1.pos = g11 at *
      generalize x1.mu = g12 at *
      generalize x1.has = g13 at *
      generalize str x1.name = g14 at *
      generalize x1.thn.length = g15 at *
      generalize x1.els.length = g16 at *
      generalize x2.kind = g20 at *
      generalize x2.pos = g21 at *
      generalize x2.mu = g22 at *
      generalize x2.has = g23 at *
      generalize str x2.name = g24 at *
      generalize x2.thn.length = g25 at *
      generalize x2.els.length = g26 at *
      go_wp2_with fail
      refine Code.wp_mono ?_ (r77_any wr b o b' o' LX.length LY.length cx cy k csx csy rx ry hbr hbr' lx ly ox oy i1 i2 _ _ _ _ _ _ _ _ _ _ _ _ _ _ _ _ _ _ _ _ _ _ _ _ _ _ _ _ _ _ _ _ _ _ _ _ _ _ _ _ _ _ _ _ _ _ _ _ _ _ _ _ _ _ _ _ _ _ _ _ _ _ _ _ _ _ _ _ _ _ _ _ _ _ _ _ _ _ _ _ _ _ _ _ _ _ _ _ _ _ _ _ _ _ _ _ _ _ _ _ _ _ _ _ _)
      rintro _ _ W0 ⟨rfl, gx, gy, rfl, R1, R2, hg1, hg2, hw0⟩
      have HWW : Hid (∀ W, Below W0.heap.size W0 W → Below w.heap.size w W) := fun W hW => (REG.out W0 gx gy R1 R2 hw0 W hW).1
      iterate 3 (first | go_back | go_step | go_in)
      refine s77_5 W0 gx gy csx csy R1 R2 _ _ _ _ _ _ _ _ _ _ _ _ _ _ _ _ _ _ kx0 ky0 kx1 ky1 kx2 ky2 kx3 ky3 kx8 ky8 kx4 ky4 kx5 ky5 kx6 ky6 kx7 ky7 p0 p1 p2 p3 p4 (fun W hW => r5.out W0 W (HWW.out W hW) hW) _ _ _ _ _ _ _ _ _ _ _ _ _ _ _ _ _ _ _ _ _ _ _ _ _ _ _ _ _ _ _ _ _ _ _ _ _ _ _ _ _ _ _ _ _ _ _ _ _ _ _ _ _ _ _ _ _ _ _ _ _ _ _ _ _ _ _ _ _ _ _ _ _ _ _ _ _ _ _ _ _ _ _ _ _ _ _ _ _ _ _ _ _ _ _ _ _ _ _ _ _ _ _ _ _ _ ?_
      intro v27 v28 v29 v30 v31 v32 v33 v34 v35 v36 v37 v38 v39 v40 v41 v42 v43 v44 v45 v46 v47 v48 v49 v50 v51 v52 v53 v54 v55 v56 v57 v58 v59 v60 v61 v62 v63 v64 v65 v66 v67 v68 v69 v70 v71 v72 v73 v74 v75 v76 v77 v78 v79 v80 v81 v82 v83 v84 v85 v86 v87 v88 v89 v90 v91 v92 v93 v94 v95 v96 v97 v98 v99 v100 v101 v102 v103 v104 v105 v106 W hbW
      have hww := HWW.out W hbW
      clear REG HWW R1 R2 hw0 hg1 hg2 rx ry hbr hbr' ox oy r5
      go_wp2_with fail
      go_ret
      exact ⟨by rw [HF.out]; rfl, hww⟩
    by_cases e6 : x1.place = x2.place
    rotate_left
    · have HF : Hid (B = false) := HN.out (fun h => e6 (by rw [h]))
      have p0 : (x1.kind != x2.kind) = false := by simp [e0]
      have p1 : (x1.pos != x2.pos) = false := by simp [e1]
      have p2 : (x1.mu != x2.mu) = false := by simp [e2]
      have p3 : ((str x1.name).toList == (str x2.name).toList) = true := by rw [str_beq]; simp [e3]
      have p4 : (x1.has != x2.has) = false := by simp [e4]
      have r5 : Hid (∀ (W0 W : World), Below w.heap.size w W → Below W0.heap.size W0 W → Calls Tryz.prog 99 #[.agg #[t10, t11, t12, t13], .agg #[t20, t21, t22, t23]] W fun ev w' => ev = .returned (.bool true) ∧ Below W0.heap.size W0 w') := q5.out true ⟨fun _ => e5, fun _ => rfl⟩
      have r6 : Hid (∀ (W0 W : World), Below w.heap.size w W → Below W0.heap.size W0 W → Calls Tryz.prog 159 #[.agg #[p10, p11], .agg #[p20, p21]] W fun ev w' => ev = .returned (.bool false) ∧ Below W0.heap.size W0 w') := q6.out false ⟨fun h => (by cases h), fun h => absurd h e6⟩
      clear q5 q6 q7 q8 q9 q10 e0 e1 e2 e3 e4 e5 e6 HN HJ' HL
      subst e61 e62 e71 e72
      generalize x1.kind = g10 at *
      generalize x1.pos = g11 at *
      generalize x1.mu = g12 at *
      generalize x1.has = g13 at *
      generalize str x1.name = g14 at *
      generalize x1.thn.length = g15 at *
      generalize x1.els.length = g16 at *
      generalize x2.kind = g20 at *
      generalize x2.pos = g21 at *
      generalize x2.mu = g22 at *
      generalize x2.has = g23 at *
      generalize str x2.name = g24 at *
      generalize x2.thn.length = g25 at *
      generalize x2.els.length = g26 at *
      go_wp2_with fail
      refine Code.wp_mono ?_ (r77_any wr b o b' o' LX.length LY.length cx cy k csx csy rx ry hbr hbr' lx ly ox oy i1 i2 _ _ _ _ _ _ _ _ _ _ _ _ _ _ _ _ _ _ _ _ _ _ _ _ _ _ _ _ _ _ _ _ _ _ _ _ _ _ _ _ _ _ _ _ _ _ _ _ _ _ _ _ _ _ _ _ _ _ _ _ _ _ _ _ _ _ _ _ _ _ _ _ _ _ _ _ _ _ _ _ _ _ _ _ _ _ _ _ _ _ _ _ _ _ _ _ _ _ _ _ _ _ _ _ _)
      rintro _ _ W0 ⟨rfl, gx, gy, rfl, R1, R2, hg1, hg2, hw0⟩
      have HWW : Hid (∀ W, Below W0.heap.size W0 W → Below w.heap.size w W) := fun W hW => (REG.out W0 gx gy R1 R2 hw0 W hW).1
      iterate 3 (first | go_back | go_step | go_in)
      refine s77_6 W0 gx gy csx csy R1 R2 _ _ _ _ _ _ _ _ _ _ _ _ _ _ _ _ _ _ _ _ _ _ kx0 ky0 kx1 ky1 kx2 ky2 kx3 ky3 kx8 ky8 kx4 ky4 kx5 ky5 kx6 ky6 kx7 ky7 kx9 ky9 kx10 ky10 p0 p1 p2 p3 p4 (fun W hW => r5.out W0 W (HWW.out W hW) hW) (fun W hW => r6.out W0 W (HWW.out W hW) hW) _ _ _ _ _ _ _ _ _ _ _ _ _ _ _ _ _ _ _ _ _ _ _ _ _ _ _ _ _ _ _ _ _ _ _ _ _ _ _ _ _ _ _ _ _ _ _ _ _ _ _ _ _ _ _ _ _ _ _ _ _ _ _ _ _ _ _ _ _ _ _ _ _ _ _ _ _ _ _ _ _ _ _ _ _ _ _ _ _ _ _ _ _ _ _ _ _ _ _ _ _ _ _ _ _ _ ?_
      intro v27 v28 v29 v30 v31 v32 v33 v34 v35 v36 v37 v38 v39 v40 v41 v42 v43 v44 v45 v46 v47 v48 v49 v50 v51 v52 v53 v54 v55 v56 v57 v58 v59 v60 v61 v62 v63 v64 v65 v66 v67 v68 v69 v70 v71 v72 v73 v74 v75 v76 v77 v78 v79 v80 v81 v82 v83 v84 v85 v86 v87 v88 v89 v90 v91 v92 v93 v94 v95 v96 v97 v98 v99 v100 v101 v102 v103 v104 v105 v106 W hbW
      have hww := HWW.out W hbW
      clear REG HWW R1 R2 hw0 hg1 hg2 rx ry hbr hbr' ox oy r5 r6
      go_wp2_with fail
      go_ret
      exact ⟨by rw [HF.out]; rfl, hww⟩
    by_cases e7 : x1.val = x2.val
    rotate_left
    · have HF : Hid (B = false) := HN.out (fun h => e7 (by rw [h]))
      have p0 : (x1.kind != x2.kind) = false := by simp [e0]
      have p1 : (x1.pos != x2.pos) = false := by simp [e1]
      have p2 : (x1.mu != x2.mu) = false := by simp [e2]
      have p3 : ((str x1.name).toList == (str x2.name).toList) = true := by rw [str_beq]; simp [e3]
      have p4 : (x1.has != x2.has) = false := by simp [e4]
      have r5 : Hid (∀ (W0 W : World), Below w.heap.size w W → Below W0.heap.size W0 W → Calls Tryz.prog 99 #[.agg #[t10, t11, t12, t13], .agg #[t20, t21, t22, t23]] W fun ev w' => ev = .returned (.bool true) ∧ Below W0.heap.size W0 w') := q5.out true ⟨fun _ => e5, fun _ => rfl⟩
      have r6 : Hid (∀ (W0 W : World), Below w.heap.size w W → Below W0.heap.size W0 W → Calls Tryz.prog 159 #[.agg #[p10, p11], .agg #[p20, p21]] W fun ev w' => ev = .returned (.bool true) ∧ Below W0.heap.size W0 w') := q6.out true ⟨fun _ => e6, fun _ => rfl⟩
      have r7 : Hid (∀ (W0 W : World), Below w.heap.size w W → Below W0.heap.size W0 W → Calls Tryz.prog 160 #[.agg #[v10, v11, v12, v13, v14, v15, v16, v17, v18, v19, v110, v111, v112, v113, v114], .agg #[v20, v21, v22, v23, v24, v25, v26, v27, v28, v29, v210, v211, v212, v213, v214]] W fun ev w' => ev = .returned (.bool false) ∧ Below W0.heap.size W0 w') := q7.out false ⟨fun h => (by cases h), fun h => absurd h e7⟩
      clear q5 q6 q7 q8 q9 q10 e0 e1 e2 e3 e4 e5 e6 e7 HN HJ' HL
      subst e61 e62 e71 e72
      generalize x1.kind = g10 at *
      generalize x1.pos = g11 at *
      generalize x1.mu = g12 at *
      generalize x1.has = g13 at *
      generalize str x1.name = g14 at *
      generalize x1.thn.length = g15 at *
      generalize x1.els.length = g16 at *
      generalize x2.kind = g20 at *
      generalize x2.pos = g21 at *
      generalize x2.mu = g22 at *
      generalize x2.has = g23 at *
      generalize str x2.name = g24 at *
      generalize x2.thn.length = g25 at *
      generalize x2.els.length = g26 at *
      go_wp2_with fail
      refine Code.wp_mono ?_ (r77_any wr b o b' o' LX.length LY.length cx cy k csx csy rx ry hbr hbr' lx ly ox oy i1 i2 _ _ _ _ _ _ _ _ _ _ _ _ _ _ _ _ _ _ _ _ _ _ _ _ _ _ _ _ _ _ _ _ _ _ _ _ _ _ _ _ _ _ _ _ _ _ _ _ _ _ _ _ _ _ _ _ _ _ _ _ _ _ _ _ _ _ _ _ _ _ _ _ _ _ _ _ _ _ _ _ _ _ _ _ _ _ _ _ _ _ _ _ _ _ _ _ _ _ _ _ _ _ _ _ _)
      rintro _ _ W0 ⟨rfl, gx, gy, rfl, R1, R2, hg1, hg2, hw0⟩
      have HWW : Hid (∀ W, Below W0.heap.size W0 W → Below w.heap.size w W) := fun W hW => (REG.out W0 gx gy R1 R2 hw0 W hW).1
      iterate 3 (first | go_back | go_step | go_in)
      refine s77_7 W0 gx gy csx csy R1 R2 _ _ _ _ _ _ _ _ _ _ _ _ _ _ _ _ _ _ _ _ _ _ _ _ _ _ _ _ _ _ _ _ _ _ _ _ _ _ _ _ _ _ _ _ _ _ _ _ _ _ _ _ kx0 ky0 kx1 ky1 kx2 ky2 kx3 ky3 kx8 ky8 kx4 ky4 kx5 ky5 kx6 ky6 kx7 ky7 kx9 ky9 kx10 ky10 kx11 ky11 kx12 ky12 kx13 ky13 kx14 ky14 kx15 ky15 kx16 ky16 kx17 ky17 kx18 ky18 kx19 ky19 kx20 ky20 kx21 ky21 kx22 ky22 kx23 ky23 kx24 ky24 kx25 ky25 p0 p1 p2 p3 p4 (fun W hW => r5.out W0 W (HWW.out W hW) hW) (fun W hW => r6.out W0 W (HWW.out W hW) hW) (fun W hW => r7.out W0 W (HWW.out W hW) hW) _ _ _ _ _ _ _ _ _ _ _ _ _ _ _ _ _ _ _ _ _ _ _ _ _ _ _ _ _ _ _ _ _ _ _ _ _ _ _ _ _ _ _ _ _ _ _ _ _ _ _ _ _ _ _ _ _ _ _ _ _ _ _ _ _ _ _ _ _ _ _ _ _ _ _ _ _ _ _ _ _ _ _ _ _ _ _ _ _ _ _ _ _ _ _ _ _ _ _ _ _ _ _ _ _ _ ?_
      intro v27 v28 v29 v30 v31 v32 v33 v34 v35 v36 v37 v38 v39 v40 v41 v42 v43 v44 v45 v46 v47 v48 v49 v50 v51 v52 v53 v54 v55 v56 v57 v58 v59 v60 v61 v62 v63 v64 v65 v66 v67 v68 v69 v70 v71 v72 v73 v74 v75 v76 v77 v78 v79 v80 v81 v82 v83 v84 v85 v86 v87 v88 v89 v90 v91 v92 v93 v94 v95 v96 v97 v98 v99 v100 v101 v102 v103 v104 v105 v106 W hbW
      have hww := HWW.out W hbW
      clear REG HWW R1 R2 hw0 hg1 hg2 rx ry hbr hbr' ox oy r5 r6 r7
      go_wp2_with fail
      go_ret
      exact ⟨by rw [HF.out]; rfl, hww⟩
    by_cases e8 : x1.cond = x2.cond
    rotate_left
    · have HF : Hid (B = false) := HN.out (fun h => e8 (by rw [h]))
      have p0 : (x1.kind != x2.kind) = false := by simp [e0]
      have p1 : (x1.pos != x2.pos) = false := by simp [e1]
      have p2 : (x1.mu != x2.mu) = false := by simp [e2]
      have p3 : ((str x1.name).toList == (str x2.name).toList) = true := by rw [str_beq]; simp [e3]
      have p4 : (x1.has != x2.has) = false := by simp [e4]
      have r5 : Hid (∀ (W0 W : World), Below w.heap.size w W → Below W0.heap.size W0 W → Calls Tryz.prog 99 #[.agg #[t10, t11, t12, t13], .agg #[t20, t21, t22, t23]] W fun ev w' => ev = .returned (.bool true) ∧ Below W0.heap.size W0 w') := q5.out true ⟨fun _ => e5, fun _ => rfl⟩
      have r6 : Hid (∀ (W0 W : World), Below w.heap.size w W → Below W0.heap.size W0 W → Calls Tryz.prog 159 #[.agg #[p10, p11], .agg #[p20, p21]] W fun ev w' => ev = .returned (.bool true) ∧ Below W0.heap.size W0 w') := q6.out true ⟨fun _ => e6, fun _ => rfl⟩
      have r7 : Hid (∀ (W0 W : World), Below w.heap.size w W → Below W0.heap.size W0 W → Calls Tryz.prog 160 #[.agg #[v10, v11, v12, v13, v14, v15, v16, v17, v18, v19, v110, v111, v112, v113, v114], .agg #[v20, v21, v22, v23, v24, v25, v26, v27, v28, v29, v210, v211, v212, v213, v214]] W fun ev w' => ev = .returned (.bool true) ∧ Below W0.heap.size W0 w') := q7.out true ⟨fun _ => e7, fun _ => rfl⟩
      have r8 : Hid (∀ (W0 W : World), Below w.heap.size w W → Below W0.heap.size W0 W → Calls Tryz.prog 161 #[.agg #[o10, o11, o12, o13], .agg #[o20, o21, o22, o23]] W fun ev w' => ev = .returned (.bool false) ∧ Below W0.heap.size W0 w') := q8.out false ⟨fun h => (by cases h), fun h => absurd h e8⟩
      clear q5 q6 q7 q8 q9 q10 e0 e1 e2 e3 e4 e5 e6 e7 e8 HN HJ' HL
      subst e61 e62 e71 e72
      generalize x1.kind = g10 at *
      generalize x1.pos = g11 at *
      generalize x1.mu = g12 at *
      generalize x1.has = g13 at *
      generalize str x1.name = g14 at *
      generalize x1.thn.length = g15 at *
      generalize x1.els.length = g16 at *
      generalize x2.kind = g20 at *
      generalize x2.pos = g21 at *
      generalize x2.mu = g22 at *
      generalize x2.has = g23 at *
      generalize str x2.name = g24 at *
      generalize x2.thn.length = g25 at *
      generalize x2.els.length = g26 at *
      go_wp2_with fail
      refine Code.wp_mono ?_ (r77_any wr b o b' o' LX.length LY.length cx cy k csx csy rx ry hbr hbr' lx ly ox oy i1 i2 _ _ _ _ _ _ _ _ _ _ _ _ _ _ _ _ _ _ _ _ _ _ _ _ _ _ _ _ _ _ _ _ _ _ _ _ _ _ _ _ _ _ _ _ _ _ _ _ _ _ _ _ _ _ _ _ _ _ _ _ _ _ _ _ _ _ _ _ _ _ _ _ _ _ _ _ _ _ _ _ _ _ _ _ _ _ _ _ _ _ _ _ _ _ _ _ _ _ _ _ _ _ _ _ _)
      rintro _ _ W0 ⟨rfl, gx, gy, rfl, R1, R2, hg1, hg2, hw0⟩
      have HWW : Hid (∀ W, Below W0.heap.size W0 W → Below w.heap.size w W) := fun W hW => (REG.out W0 gx gy R1 R2 hw0 W hW).1
      iterate 3 (first | go_back | go_step | go_in)
      refine s77_8 W0 gx gy csx csy R1 R2 _ _ _ _ _ _ _ _ _ _ _ _ _ _ _ _ _ _ _ _ _ _ _ _ _ _ _ _ _ _ _ _ _ _ _ _ _ _ _ _ _ _ _ _ _ _ _ _ _ _ _ _ _ _ _ _ _ _ _ _ kx0 ky0 kx1 ky1 kx2 ky2 kx3 ky3 kx8 ky8 kx4 ky4 kx5 ky5 kx6 ky6 kx7 ky7 kx9 ky9 kx10 ky10 kx11 ky11 kx12 ky12 kx13 ky13 kx14 ky14 kx15 ky15 kx16 ky16 kx17 ky17 kx18 ky18 kx19 ky19 kx20 ky20 kx21 ky21 kx22 ky22 kx23 ky23 kx24 ky24 kx25 ky25 kx26 ky26 kx27 ky27 kx28 ky28 kx29 ky29 p0 p1 p2 p3 p4 (fun W hW => r5.out W0 W (HWW.out W hW) hW) (fun W hW => r6.out W0 W (HWW.out W hW) hW) (fun W hW => r7.out W0 W (HWW.out W hW) hW) (fun W hW => r8.out W0 W (HWW.out W hW) hW) _ _ _ _ _ _ _ _ _ _ _ _ _ _ _ _ _ _ _ _ _ _ _ _ _ _ _ _ _ _ _ _ _ _ _ _ _ _ _ _ _ _ _ _ _ _ _ _ _ _ _ _ _ _ _ _ _ _ _ _ _ _ _ _ _ _ _ _ _ _ _ _ _ _ _ _ _ _ _ _ _ _ _ _ _ _ _ _ _ _ _ _ _ _ _ _ _ _ _ _ _ _ _ _ _ _ ?_
      intro v27 v28 v29 v30 v31 v32 v33 v34 v35 v36 v37 v38 v39 v40 v41 v42 v43 v44 v45 v46 v47 v48 v49 v50 v51 v52 v53 v54 v55 v56 v57 v58 v59 v60 v61 v62 v63 v64 v65 v66 v67 v68 v69 v70 v71 v72 v73 v74 v75 v76 v77 v78 v79 v80 v81 v82 v83 v84 v85 v86 v87 v88 v89 v90 v91 v92 v93 v94 v95 v96 v97 v98 v99 v100 v101 v102 v103 v104 v105 v106 W hbW
      have hww := HWW.out W hbW
      clear REG HWW R1 R2 hw0 hg1 hg2 rx ry hbr hbr' ox oy r5 r6 r7 r8
      go_wp2_with fail
      go_ret
      exact ⟨by rw [HF.out]; rfl, hww⟩
    by_cases e9 : x1.thn = x2.thn
    rotate_left
    · have HF : Hid (B = false) := HN.out (fun h => e9 (by rw [h]))
      have p0 : (x1.kind != x2.kind) = false := by simp [e0]
      have p1 : (x1.pos != x2.pos) = false := by simp [e1]
      have p2 : (x1.mu != x2.mu) = false := by simp [e2]
      have p3 : ((str x1.name).toList == (str x2.name).toList) = true := by rw [str_beq]; simp [e3]
      have p4 : (x1.has != x2.has) = false := by simp [e4]
      have r5 : Hid (∀ (W0 W : World), Below w.heap.size w W → Below W0.heap.size W0 W → Calls Tryz.prog 99 #[.agg #[t10, t11, t12, t13], .agg #[t20, t21, t22, t23]] W fun ev w' => ev = .returned (.bool true) ∧ Below W0.heap.size W0 w') := q5.out true ⟨fun _ => e5, fun _ => rfl⟩
      have r6 : Hid (∀ (W0 W : World), Below w.heap.size w W → Below W0.heap.size W0 W → Calls Tryz.prog 159 #[.agg #[p10, p11], .agg #[p20, p21]] W fun ev w' => ev = .returned (.bool true) ∧ Below W0.heap.size W0 w') := q6.out true ⟨fun _ => e6, fun _ => rfl⟩
      have r7 : Hid (∀ (W0 W : World), Below w.heap.size w W → Below W0.heap.size W0 W → Calls Tryz.prog 160 #[.agg #[v10, v11, v12, v13, v14, v15, v16, v17, v18, v19, v110, v111, v112, v113, v114], .agg #[v20, v21, v22, v23, v24, v25, v26, v27, v28, v29, v210, v211, v212, v213, v214]] W fun ev w' => ev = .returned (.bool true) ∧ Below W0.heap.size W0 w') := q7.out true ⟨fun _ => e7, fun _ => rfl⟩
      have r8 : Hid (∀ (W0 W : World), Below w.heap.size w W → Below W0.heap.size W0 W → Calls Tryz.prog 161 #[.agg #[o10, o11, o12, o13], .agg #[o20, o21, o22, o23]] W fun ev w' => ev = .returned (.bool true) ∧ Below W0.heap.size W0 w') := q8.out true ⟨fun _ => e8, fun _ => rfl⟩
      have r9 : Hid (∀ (W0 W : World), Below w.heap.size w W → Below W0.heap.size W0 W → Calls Tryz.prog 112 #[vt1, vt2] W fun ev w' => ev = .returned (.bool false) ∧ Below W0.heap.size W0 w') := q9.out false ⟨fun h => (by cases h), fun h => absurd h e9⟩
      clear q5 q6 q7 q8 q9 q10 e0 e1 e2 e3 e4 e5 e6 e7 e8 e9 HN HJ' HL
      subst e61 e62 e71 e72
      generalize x1.kind = g10 at *
      generalize x1.pos = g11 at *
      generalize x1.mu = g12 at *
      generalize x1.has = g13 at *
      generalize str x1.name = g14 at *
      generalize x1.thn.length = g15 at *
      generalize x1.els.length = g16 at *
      generalize x2.kind = g20 at *
      generalize x2.pos = g21 at *
      generalize x2.mu = g22 at *
      generalize x2.has = g23 at *
      generalize str x2.name = g24 at *
      generalize x2.thn.length = g25 at *
      generalize x2.els.length = g26 at *
      go_wp2_with fail
      refine Code.wp_mono ?_ (r77_any wr b o b' o' LX.length LY.length cx cy k csx csy rx ry hbr hbr' lx ly ox oy i1 i2 _ _ _ _ _ _ _ _ _ _ _ _ _ _ _ _ _ _ _ _ _ _ _ _ _ _ _ _ _ _ _ _ _ _ _ _ _ _ _ _ _ _ _ _ _ _ _ _ _ _ _ _ _ _ _ _ _ _ _ _ _ _ _ _ _ _ _ _ _ _ _ _ _ _ _ _ _ _ _ _ _ _ _ _ _ _ _ _ _ _ _ _ _ _ _ _ _ _ _ _ _ _ _ _ _)
      rintro _ _ W0 ⟨rfl, gx, gy, rfl, R1, R2, hg1, hg2, hw0⟩
      have HWW : Hid (∀ W, Below W0.heap.size W0 W → Below w.heap.size w W) := fun W hW => (REG.out W0 gx gy R1 R2 hw0 W hW).1
      iterate 3 (first | go_back | go_step | go_in)
      refine s77_9 W0 gx gy csx csy R1 R2 _ _ _ _ _ _ _ _ _ _ _ _ _ _ _ _ _ _ _ _ _ _ _ _ _ _ _ _ _ _ _ _ _ _ _ _ _ _ _ _ _ _ _ _ _ _ _ _ _ _ _ _ _ _ _ _ _ _ _ _ _ _ kx0 ky0 kx1 ky1 kx2 ky2 kx3 ky3 kx8 ky8 kx4 ky4 kx5 ky5 kx6 ky6 kx7 ky7 kx9 ky9 kx10 ky10 kx11 ky11 kx12 ky12 kx13 ky13 kx14 ky14 kx15 ky15 kx16 ky16 kx17 ky17 kx18 ky18 kx19 ky19 kx20 ky20 kx21 ky21 kx22 ky22 kx23 ky23 kx24 ky24 kx25 ky25 kx26 ky26 kx27 ky27 kx28 ky28 kx29 ky29 kx30 ky30 p0 p1 p2 p3 p4 (fun W hW => r5.out W0 W (HWW.out W hW) hW) (fun W hW => r6.out W0 W (HWW.out W hW) hW) (fun W hW => r7.out W0 W (HWW.out W hW) hW) (fun W hW => r8.out W0 W (HWW.out W hW) hW) (fun W hW => r9.out W0 W (HWW.out W hW) hW) ⟨_, _, _, rfl⟩ ⟨_, _, _, rfl⟩ _ _ _ _ _ _ _ _ _ _ _ _ _ _ _ _ _ _ _ _ _ _ _ _ _ _ _ _ _ _ _ _ _ _ _ _ _ _ _ _ _ _ _ _ _ _ _ _ _ _ _ _ _ _ _ _ _ _ _ _ _ _ _ _ _ _ _ _ _ _ _ _ _ _ _ _ _ _ _ _ _ _ _ _ _ _ _ _ _ _ _ _ _ _ _ _ _ _ _ _ _ _ _ _ _ _ ?_
      intro v27 v28 v29 v30 v31 v32 v33 v34 v35 v36 v37 v38 v39 v40 v41 v42 v43 v44 v45 v46 v47 v48 v49 v50 v51 v52 v53 v54 v55 v56 v57 v58 v59 v60 v61 v62 v63 v64 v65 v66 v67 v68 v69 v70 v71 v72 v73 v74 v75 v76 v77 v78 v79 v80 v81 v82 v83 v84 v85 v86 v87 v88 v89 v90 v91 v92 v93 v94 v95 v96 v97 v98 v99 v100 v101 v102 v103 v104 v105 v106 W hbW
      have hww := HWW.out W hbW
      clear REG HWW R1 R2 hw0 hg1 hg2 rx ry hbr hbr' ox oy r5 r6 r7 r8 r9
      go_wp2_with fail
      go_ret
      exact ⟨by rw [HF.out]; rfl, hww⟩
    by_cases e10 : x1.els = x2.els
    rotate_left
    · have HF : Hid (B = false) := HN.out (fun h => e10 (by rw [h]))
      have p0 : (x1.kind != x2.kind) = false := by simp [e0]
      have p1 : (x1.pos != x2.pos) = false := by simp [e1]
      have p2 : (x1.mu != x2.mu) = false := by simp [e2]
      have p3 : ((str x1.name).toList == (str x2.name).toList) = true := by rw [str_beq]; simp [e3]
      have p4 : (x1.has != x2.has) = false := by simp [e4]
      have r5 : Hid (∀ (W0 W : World), Below w.heap.size w W → Below W0.heap.size W0 W → Calls Tryz.prog 99 #[.agg #[t10, t11, t12, t13], .agg #[t20, t21, t22, t23]] W fun ev w' => ev = .returned (.bool true) ∧ Below W0.heap.size W0 w') := q5.out true ⟨fun _ => e5, fun _ => rfl⟩
      have r6 : Hid (∀ (W0 W : World), Below w.heap.size w W → Below W0.heap.size W0 W → Calls Tryz.prog 159 #[.agg #[p10, p11], .agg #[p20, p21]] W fun ev w' => ev = .returned (.bool true) ∧ Below W0.heap.size W0 w') := q6.out true ⟨fun _ => e6, fun _ => rfl⟩
      have r7 : Hid (∀ (W0 W : World), Below w.heap.size w W → Below W0.heap.size W0 W → Calls Tryz.prog 160 #[.agg #[v10, v11, v12, v13, v14, v15, v16, v17, v18, v19, v110, v111, v112, v113, v114], .agg #[v20, v21, v22, v23, v24, v25, v26, v27, v28, v29, v210, v211, v212, v213, v214]] W fun ev w' => ev = .returned (.bool true) ∧ Below W0.heap.size W0 w') := q7.out true ⟨fun _ => e7, fun _ => rfl⟩
      have r8 : Hid (∀ (W0 W : World), Below w.heap.size w W → Below W0.heap.size W0 W → Calls Tryz.prog 161 #[.agg #[o10, o11, o12, o13], .agg #[o20, o21, o22, o23]] W fun ev w' => ev = .returned (.bool true) ∧ Below W0.heap.size W0 w') := q8.out true ⟨fun _ => e8, fun _ => rfl⟩
      have r9 : Hid (∀ (W0 W : World), Below w.heap.size w W → Below W0.heap.size W0 W → Calls Tryz.prog 112 #[vt1, vt2] W fun ev w' => ev = .returned (.bool true) ∧ Below W0.heap.size W0 w') := q9.out true ⟨fun _ => e9, fun _ => rfl⟩
      have r10 : Hid (∀ (W0 W : World), Below w.heap.size w W → Below W0.heap.size W0 W → Calls Tryz.prog 112 #[ve1, ve2] W fun ev w' => ev = .returned (.bool false) ∧ Below W0.heap.size W0 w') := q10.out false ⟨fun h => (by cases h), fun h => absurd h e10⟩
      clear q5 q6 q7 q8 q9 q10 e0 e1 e2 e3 e4 e5 e6 e7 e8 e9 e10 HN HJ' HL
      subst e61 e62 e71 e72
      generalize x1.kind = g10 at *
      generalize x1.pos = g11 at *
      generalize x1.mu = g12 at *
      generalize x1.has = g13 at *
      generalize str x1.name = g14 at *
      generalize x1.thn.length = g15 at *
      generalize x1.els.length = g16 at *
      generalize x2.kind = g20 at *
      generalize x2.pos = g21 at *
      generalize x2.mu = g22 at *
      generalize x2.has = g23 at *
      generalize str x2.name = g24 at *
      generalize x2.thn.length = g25 at *
      generalize x2.els.length = g26 at *
      go_wp2_with fail
      refine Code.wp_mono ?_ (r77_any wr b o b' o' LX.length LY.length cx cy k csx csy rx ry hbr hbr' lx ly ox oy i1 i2 _ _ _ _ _ _ _ _ _ _ _ _ _ _ _ _ _ _ _ _ _ _ _ _ _ _ _ _ _ _ _ _ _ _ _ _ _ _ _ _ _ _ _ _ _ _ _ _ _ _ _ _ _ _ _ _ _ _ _ _ _ _ _ _ _ _ _ _ _ _ _ _ _ _ _ _ _ _ _ _ _ _ _ _ _ _ _ _ _ _ _ _ _ _ _ _ _ _ _ _ _ _ _ _ _)
      rintro _ _ W0 ⟨rfl, gx, gy, rfl, R1, R2, hg1, hg2, hw0⟩
      have HWW : Hid (∀ W, Below W0.heap.size W0 W → Below w.heap.size w W) := fun W hW => (REG.out W0 gx gy R1 R2 hw0 W hW).1
      iterate 3 (first | go_back | go_step | go_in)
      refine s77_10 W0 gx gy csx csy R1 R2 _ _ _ _ _ _ _ _ _ _ _ _ _ _ _ _ _ _ _ _ _ _ _ _ _ _ _ _ _ _ _ _ _ _ _ _ _ _ _ _ _ _ _ _ _ _ _ _ _ _ _ _ _ _ _ _ _ _ _ _ _ _ _ _ kx0 ky0 kx1 ky1 kx2 ky2 kx3 ky3 kx8 ky8 kx4 ky4 kx5 ky5 kx6 ky6 kx7 ky7 kx9 ky9 kx10 ky10 kx11 ky11 kx12 ky12 kx13 ky13 kx14 ky14 kx15 ky15 kx16 ky16 kx17 ky17 kx18 ky18 kx19 ky19 kx20 ky20 kx21 ky21 kx22 ky22 kx23 ky23 kx24 ky24 kx25 ky25 kx26 ky26 kx27 ky27 kx28 ky28 kx29 ky29 kx30 ky30 kx31 ky31 p0 p1 p2 p3 p4 (fun W hW => r5.out W0 W (HWW.out W hW) hW) (fun W hW => r6.out W0 W (HWW.out W hW) hW) (fun W hW => r7.out W0 W (HWW.out W hW) hW) (fun W hW => r8.out W0 W (HWW.out W hW) hW) (fun W hW => r9.out W0 W (HWW.out W hW) hW) (fun W hW => r10.out W0 W (HWW.out W hW) hW) ⟨_, _, _, rfl⟩ ⟨_, _, _, rfl⟩ ⟨_, _, _, rfl⟩ ⟨_, _, _, rfl⟩ _ _ _ _ _ _ _ _ _ _ _ _ _ _ _ _ _ _ _ _ _ _ _ _ _ _ _ _ _ _ _ _ _ _ _ _ _ _ _ _ _ _ _ _ _ _ _ _ _ _ _ _ _ _ _ _ _ _ _ _ _ _ _ _ _ _ _ _ _ _ _ _ _ _ _ _ _ _ _ _ _ _ _ _ _ _ _ _ _ _ _ _ _ _ _ _ _ _ _ _ _ _ _ _ _ _ ?_
      intro v27 v28 v29 v30 v31 v32 v33 v34 v35 v36 v37 v38 v39 v40 v41 v42 v43 v44 v45 v46 v47 v48 v49 v50 v51 v52 v53 v54 v55 v56 v57 v58 v59 v60 v61 v62 v63 v64 v65 v66 v67 v68 v69 v70 v71 v72 v73 v74 v75 v76 v77 v78 v79 v80 v81 v82 v83 v84 v85 v86 v87 v88 v89 v90 v91 v92 v93 v94 v95 v96 v97 v98 v99 v100 v101 v102 v103 v104 v105 v106 W hbW
      have hww := HWW.out W hbW
      clear REG HWW R1 R2 hw0 hg1 hg2 rx ry hbr hbr' ox oy r5 r6 r7 r8 r9 r10
      go_wp2_with fail
      go_ret
      exact ⟨by rw [HF.out]; rfl, hww⟩
    have HE : Hid (∀ j (h : j < LX.length) (h' : j < LY.length), j < k + 1 → LX[j] = LY[j]) := by
      refine HJ'.out ?_
      clear q5 q6 q7 q8 q9 q10 HN HJ' REG
      cases x1; cases x2; simp only at e0 e1 e2 e3 e4 e5 e6 e7 e8 e9 e10; subst e0 e1 e2 e3 e4 e5 e6 e7 e8 e9 e10; rfl
    have p0 : (x1.kind != x2.kind) = false := by simp [e0]
    have p1 : (x1.pos != x2.pos) = false := by simp [e1]
    have p2 : (x1.mu != x2.mu) = false := by simp [e2]
    have p3 : ((str x1.name).toList == (str x2.name).toList) = true := by rw [str_beq]; simp [e3]
    have p4 : (x1.has != x2.has) = false := by simp [e4]
    have r5 : Hid (∀ (W0 W : World), Below w.heap.size w W → Below W0.heap.size W0 W → Calls Tryz.prog 99 #[.agg #[t10, t11, t12, t13], .agg #[t20, t21, t22, t23]] W fun ev w' => ev = .returned (.bool true) ∧ Below W0.heap.size W0 w') := q5.out true ⟨fun _ => e5, fun _ => rfl⟩
    have r6 : Hid (∀ (W0 W : World), Below w.heap.size w W → Below W0.heap.size W0 W → Calls Tryz.prog 159 #[.agg #[p10, p11], .agg #[p20, p21]] W fun ev w' => ev = .returned (.bool true) ∧ Below W0.heap.size W0 w') := q6.out true ⟨fun _ => e6, fun _ => rfl⟩
    have r7 : Hid (∀ (W0 W : World), Below w.heap.size w W → Below W0.heap.size W0 W → Calls Tryz.prog 160 #[.agg #[v10, v11, v12, v13, v14, v15, v16, v17, v18, v19, v110, v111, v112, v113, v114], .agg #[v20, v21, v22, v23, v24, v25, v26, v27, v28, v29, v210, v211, v212, v213, v214]] W fun ev w' => ev = .returned (.bool true) ∧ Below W0.heap.size W0 w') := q7.out true ⟨fun _ => e7, fun _ => rfl⟩
    have r8 : Hid (∀ (W0 W : World), Below w.heap.size w W → Below W0.heap.size W0 W → Calls Tryz.prog 161 #[.agg #[o10, o11, o12, o13], .agg #[o20, o21, o22, o23]] W fun ev w' => ev = .returned (.bool true) ∧ Below W0.heap.size W0 w') := q8.out true ⟨fun _ => e8, fun _ => rfl⟩
    have r9 : Hid (∀ (W0 W : World), Below w.heap.size w W → Below W0.heap.size W0 W → Calls Tryz.prog 112 #[vt1, vt2] W fun ev w' => ev = .returned (.bool true) ∧ Below W0.heap.size W0 w') := q9.out true ⟨fun _ => e9, fun _ => rfl⟩
    have r10 : Hid (∀ (W0 W : World), Below w.heap.size w W → Below W0.heap.size W0 W → Calls Tryz.prog 112 #[ve1, ve2] W fun ev w' => ev = .returned (.bool true) ∧ Below W0.heap.size W0 w') := q10.out true ⟨fun _ => e10, fun _ => rfl⟩
    clear q5 q6 q7 q8 q9 q10 e0 e1 e2 e3 e4 e5 e6 e7 e8 e9 e10 HN HJ' HL
    subst e61 e62 e71 e72
    generalize x1.kind = g10 at *
    generalize x1.pos = g11 at *
    generalize x1.mu = g12 at *
    generalize x1.has = g13 at *
    generalize str x1.name = g14 at *
    generalize x1.thn.length = g15 at *
    generalize x1.els.length = g16 at *
    generalize x2.kind = g20 at *
    generalize x2.pos = g21 at *
    generalize x2.mu = g22 at *
    generalize x2.has = g23 at *
    generalize str x2.name = g24 at *
    generalize x2.thn.length = g25 at *
    generalize x2.els.length = g26 at *
    go_wp2_with fail
    refine Code.wp_mono ?_ (r77_any wr b o b' o' LX.length LY.length cx cy k csx csy rx ry hbr hbr' lx ly ox oy i1 i2 _ _ _ _ _ _ _ _ _ _ _ _ _ _ _ _ _ _ _ _ _ _ _ _ _ _ _ _ _ _ _ _ _ _ _ _ _ _ _ _ _ _ _ _ _ _ _ _ _ _ _ _ _ _ _ _ _ _ _ _ _ _ _ _ _ _ _ _ _ _ _ _ _ _ _ _ _ _ _ _ _ _ _ _ _ _ _ _ _ _ _ _ _ _ _ _ _ _ _ _ _ _ _ _ _)
    rintro _ _ W0 ⟨rfl, gx, gy, rfl, R1, R2, hg1, hg2, hw0⟩
    have HWW : Hid (∀ W, Below W0.heap.size W0 W → Below w.heap.size w W) := fun W hW => (REG.out W0 gx gy R1 R2 hw0 W hW).1
    iterate 3 (first | go_back | go_step | go_in)
    refine s77_11 W0 gx gy csx csy R1 R2 _ _ _ _ _ _ _ _ _ _ _ _ _ _ _ _ _ _ _ _ _ _ _ _ _ _ _ _ _ _ _ _ _ _ _ _ _ _ _ _ _ _ _ _ _ _ _ _ _ _ _ _ _ _ _ _ _ _ _ _ _ _ _ _ kx0 ky0 kx1 ky1 kx2 ky2 kx3 ky3 kx8 ky8 kx4 ky4 kx5 ky5 kx6 ky6 kx7 ky7 kx9 ky9 kx10 ky10 kx11 ky11 kx12 ky12 kx13 ky13 kx14 ky14 kx15 ky15 kx16 ky16 kx17 ky17 kx18 ky18 kx19 ky19 kx20 ky20 kx21 ky21 kx22 ky22 kx23 ky23 kx24 ky24 kx25 ky25 kx26 ky26 kx27 ky27 kx28 ky28 kx29 ky29 kx30 ky30 kx31 ky31 p0 p1 p2 p3 p4 (fun W hW => r5.out W0 W (HWW.out W hW) hW) (fun W hW => r6.out W0 W (HWW.out W hW) hW) (fun W hW => r7.out W0 W (HWW.out W hW) hW) (fun W hW => r8.out W0 W (HWW.out W hW) hW) (fun W hW => r9.out W0 W (HWW.out W hW) hW) (fun W hW => r10.out W0 W (HWW.out W hW) hW) ⟨_, _, _, rfl⟩ ⟨_, _, _, rfl⟩ ⟨_, _, _, rfl⟩ ⟨_, _, _, rfl⟩ _ _ _ _ _ _ _ _ _ _ _ _ _ _ _ _ _ _ _ _ _ _ _ _ _ _ _ _ _ _ _ _ _ _ _ _ _ _ _ _ _ _ _ _ _ _ _ _ _ _ _ _ _ _ _ _ _ _ _ _ _ _ _ _ _ _ _ _ _ _ _ _ _ _ _ _ _ _ _ _ _ _ _ _ _ _ _ _ _ _ _ _ _ _ _ _ _ _ _ _ _ _ _ _ _ _ ?_
    intro v27 v28 v29 v30 v31 v32 v33 v34 v35 v36 v37 v38 v39 v40 v41 v42 v43 v44 v45 v46 v47 v48 v49 v50 v51 v52 v53 v54 v55 v56 v57 v58 v59 v60 v61 v62 v63 v64 v65 v66 v67 v68 v69 v70 v71 v72 v73 v74 v75 v76 v77 v78 v79 v80 v81 v82 v83 v84 v85 v86 v87 v88 v89 v90 v91 v92 v93 v94 v95 v96 v97 v98 v99 v100 v101 v102 v103 v104 v105 v106 W hbW
    have hww := HWW.out W hbW
    clear REG HWW R1 R2 hw0 hg1 hg2 rx ry hbr hbr' ox oy r5 r6 r7 r8 r9 r10
    go_wp2_with fail
    go_roundw
    case rel => exact ⟨k + 1, by omega, by go_num, HE.out, hww⟩
    case measure => simp [intOf]; omega

theorem xstmts_any : ∀ (n : Nat), ∀ {K : Ctx} {w : World}, K.C ≤ w.heap.size → ∀ {va vb : Value} {LX LY : List St}, Ar 32 496 (StAt n K w) K w va LX → Ar 32 496 (StAt n K w) K w vb LY → ∀ (B : Bool), (B = true ↔ LX = LY) → Calls Tryz.prog 112 #[va, vb] w fun ev w' => ev = .returned (.bool B) ∧ Below w.heap.size w w'
  | 0 => fun hC _ _ _ _ ha hb B hB => xstmts_of (n := 0) (fun m h => by cases h) hC ha hb B hB
  | n + 1 => fun hC _ _ _ _ ha hb B hB => xstmts_of (n := n + 1) (fun m h => Nat.succ.inj h ▸ xstmts_any n) hC ha hb B hB
end Go.Proofs.YtmopffaocamieaaGreat
