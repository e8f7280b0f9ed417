/-
  Rows of fields: are two the same? The document says it.
-/
import Derived.Test.YtmopffaocamieaaGreatQhiXst
namespace Go.Proofs.YtmopffaocamieaaGreat
open Go.RowKit

set_option maxHeartbeats 8000000 in
set_option maxRecDepth 20000 in
theorem xfields_any {K : Ctx} {w : World} (hC : K.C ≤ w.heap.size) {va vb : Value} {LX LY : List Fld} (ha : Ar 6 96 (FldAt K w) K w va LX) (hb : Ar 6 96 (FldAt K w) K w vb LY) (B : Bool) (hB : B = true ↔ LX = LY) :
    Calls Tryz.prog 111 #[va, vb] w fun ev w' => ev = .returned (.bool B) ∧ Below w.heap.size w w' := by
  obtain ⟨ax, cx, rfl, hcx, hbx, HAx⟩ := ha.shape
  obtain ⟨ay, cy, rfl, hcy, hby, HAy⟩ := hb.shape
  have hl9 : LX.length ≤ 9223372036854775807 := by omega
  have HB : Hid (B = true ↔ LX = LY) := hB
  by_cases hlen : LX.length = LY.length
  rotate_left
  · have b1 : ((LX.length : Int) != (LY.length : Int)) = true := by simp; omega
    have HF : Hid (B = false) := bool_false HB.out (fun h => hlen (by rw [h]))
    clear hB HB ha hb HAx HAy hbx hby hlen
    go_enter Tryz.func111, Tryz.ntmps111
    go_wp2_with fail
    go_ret
    exact ⟨by rw [HF.out]; rfl, Below.refl _ _⟩
  have b1 : ((LX.length : Int) != (LY.length : Int)) = false := by simp; omega
  have HL : Hid (LX.length = LY.length) := hlen
  have HE : Hid (∀ i (h : i < LX.length) (h' : i < LY.length), ∃ (b o b' o' : Nat) (m1 m2 : Bool) (s1 s2 : Bs) (t1 t2 : Ty) (c2 c3 c4 c5 d2 d3 d4 d5 : Value), ax = some ⟨b, o, none⟩ ∧ ay = some ⟨b', o', none⟩ ∧ LX[i] = ⟨m1, s1, t1⟩ ∧ LY[i] = ⟨m2, s2, t2⟩ ∧ (∀ W, Below w.heap.size w W → W.cell? ⟨b, o + i * 6, none⟩ = some (.bool m1) ∧ W.cell? ⟨b, o + i * 6 + 1, none⟩ = some (.string (str s1)) ∧ W.cell? ⟨b, o + i * 6 + 2, none⟩ = some c2 ∧ W.cell? ⟨b, o + i * 6 + 3, none⟩ = some c3 ∧ W.cell? ⟨b, o + i * 6 + 4, none⟩ = some c4 ∧ W.cell? ⟨b, o + i * 6 + 5, none⟩ = some c5 ∧ W.cell? ⟨b', o' + i * 6, none⟩ = some (.bool m2) ∧ W.cell? ⟨b', o' + i * 6 + 1, none⟩ = some (.string (str s2)) ∧ W.cell? ⟨b', o' + i * 6 + 2, none⟩ = some d2 ∧ W.cell? ⟨b', o' + i * 6 + 3, none⟩ = some d3 ∧ W.cell? ⟨b', o' + i * 6 + 4, none⟩ = some d4 ∧ W.cell? ⟨b', o' + i * 6 + 5, none⟩ = some d5) ∧ (∀ W B, Below w.heap.size w W → (B = true ↔ t1 = t2) → Calls Tryz.prog 99 #[.agg #[c2, c3, c4, c5], .agg #[d2, d3, d4, d5]] W fun ev w' => ev = .returned (.bool B) ∧ Below w.heap.size w w')) := by
    intro i h h'
    obtain ⟨b, o, e, hbC, cs, hl, hcs, kx⟩ := HAx i h
    obtain ⟨b', o', e', hbC', cs', hl', hcs', ky⟩ := HAy i h'
    obtain ⟨ts, rfl, hn1, kt⟩ := kx
    obtain ⟨ts', rfl, hn2, kt'⟩ := ky
    obtain ⟨c2, c3, c4, c5, rfl⟩ := list4 kt.len
    obtain ⟨d2, d3, d4, d5, rfl⟩ := list4 kt'.len
    have hK : ∀ W, Below w.heap.size w W → Below K.C w W := fun W hw => below_le hw hC
    refine ⟨b, o, b', o', _, _, _, _, _, _, c2, c3, c4, c5, d2, d3, d4, d5, e, e', rfl, rfl, fun W hw => ?_, fun W B hw hB => ?_⟩
    · exact ⟨((hK W hw).cell (p := ⟨b, o + i * 6, none⟩) hbC).trans (hcs 0 (by decide)), ((hK W hw).cell (p := ⟨b, o + i * 6 + 1, none⟩) hbC).trans (hcs 1 (by decide)), ((hK W hw).cell (p := ⟨b, o + i * 6 + 2, none⟩) hbC).trans (hcs 2 (by decide)), ((hK W hw).cell (p := ⟨b, o + i * 6 + 3, none⟩) hbC).trans (hcs 3 (by decide)), ((hK W hw).cell (p := ⟨b, o + i * 6 + 4, none⟩) hbC).trans (hcs 4 (by decide)), ((hK W hw).cell (p := ⟨b, o + i * 6 + 5, none⟩) hbC).trans (hcs 5 (by decide)), ((hK W hw).cell (p := ⟨b', o' + i * 6, none⟩) hbC').trans (hcs' 0 (by decide)), ((hK W hw).cell (p := ⟨b', o' + i * 6 + 1, none⟩) hbC').trans (hcs' 1 (by decide)), ((hK W hw).cell (p := ⟨b', o' + i * 6 + 2, none⟩) hbC').trans (hcs' 2 (by decide)), ((hK W hw).cell (p := ⟨b', o' + i * 6 + 3, none⟩) hbC').trans (hcs' 3 (by decide)), ((hK W hw).cell (p := ⟨b', o' + i * 6 + 4, none⟩) hbC').trans (hcs' 4 (by decide)), ((hK W hw).cell (p := ⟨b', o' + i * 6 + 5, none⟩) hbC').trans (hcs' 5 (by decide))⟩
    · refine (xsameType_any (Nat.le_trans hC hw.size) (kt.below (hK W hw)) (kt'.below (hK W hw)) B hB).mono ?_
      rintro _ _ ⟨rfl, h⟩
      exact ⟨rfl, hw.trans (below_le h hw.size)⟩
  clear hB ha hb HAx HAy hbx hby hlen hcx hcy
  go_enter Tryz.func111, Tryz.ntmps111
  go_wp2_with fail
  go_loopw [5] (fun i wr => ∃ k : Nat, k ≤ LX.length ∧ i = .int .i64 k ∧ (∀ j (h : j < LX.length) (h' : j < LY.length), j < k → LX[j] = LY[j]) ∧ Below w.heap.size w wr) (fun i _ => LX.length - (intOf i).toNat)
  case atStart => exact ⟨0, by omega, rfl, fun j _ _ h => by omega, Below.refl _ _⟩
  case round =>
    obtain ⟨k, hk, rfl, hj, hbw⟩ := hrel
    have HJ : Hid (∀ j (h : j < LX.length) (h' : j < LY.length), j < k → LX[j] = LY[j]) := hj
    have HBW : Hid (Below w.heap.size w wr) := hbw
    clear hj hbw
    by_cases h3 : k < LX.length
    · have h4 : k < LY.length := by rw [← HL.out]; exact h3
      obtain ⟨b, o, b', o', m1, m2, s1, s2, t1, t2, c2, c3, c4, c5, d2, d3, d4, d5, ex1, ey1, g1, g2, hcell, hcall⟩ := HE.out k h3 h4
      subst ex1 ey1
      have i1 : (k : Int) < (LX.length : Int) := by omega
      have i2 : (k : Int) < (LY.length : Int) := by omega
      have G1 : Hid (LX[k] = ⟨m1, s1, t1⟩) := g1
      have G2 : Hid (LY[k] = ⟨m2, s2, t2⟩) := g2
      have HN : Hid (LX[k] ≠ LY[k] → B = false) := fun hne => bool_false HB.out (not_at h3 h4 hne)
      have HCW := hcell wr HBW.out
      obtain ⟨a0, a1, a2, a3, a4, a5, b0, b1, b2, b3, b4, b5⟩ := HCW
      clear g1 g2 HE
      by_cases e0 : m1 = m2
      rotate_left
      · have HF : Hid (B = false) := HN.out (by rw [G1.out, G2.out]; intro h; injection h with h _; exact e0 h)
        have p0 : (m1 != m2) = true := by simp [e0]
        have p0a : (m1 == m2) = false := by simp [e0]
        have p0b : (m1 ^^ m2) = true := by cases m1 <;> cases m2 <;> simp at e0 ⊢
        clear e0 hcall hcell HN G1 G2 HJ HL HB
        generalize str s1 = S1 at *
        generalize str s2 = S2 at *
        go_wp2_with fail
        go_quiet (fail)
        go_wp2_with fail
        go_ret
        exact ⟨by rw [HF.out]; rfl, HBW.out.trans (Below.drewN _ _ _)⟩
      by_cases e1 : s1 = s2
      rotate_left
      · have HF : Hid (B = false) := HN.out (by rw [G1.out, G2.out]; intro h; injection h with _ h; exact e1 h)
        have p0 : (m1 != m2) = false := by simp [e0]
        have p0a : (m1 == m2) = true := by simp [e0]
        have p0b : (m1 ^^ m2) = false := by simp [e0]
        have p1' : ((str s1).toList == (str s2).toList) = false := by rw [str_beq]; simp [e1]
        have p1 : ((str s1).toList != (str s2).toList) = true := by rw [bne, str_beq]; simp [e1]
        clear e0 e1 hcall hcell HN G1 G2 HJ HL HB
        generalize str s1 = S1 at *
        generalize str s2 = S2 at *
        go_wp2_with fail
        go_quiet (fail)
        go_wp2_with fail
        go_ret
        exact ⟨by rw [HF.out]; rfl, HBW.out.trans (Below.drewN _ _ _)⟩
      have p0 : (m1 != m2) = false := by simp [e0]
      have p0a : (m1 == m2) = true := by simp [e0]
      have p0b : (m1 ^^ m2) = false := by simp [e0]
      have p1' : ((str s1).toList == (str s2).toList) = true := by rw [str_beq]; simp [e1]
      have p1 : ((str s1).toList != (str s2).toList) = false := by rw [bne, str_beq]; simp [e1]
      have mkS : Hid (∀ z, Below w.heap.size w z → Below w.heap.size w z ∧ z.cell? ⟨b, o + k * 6, none⟩ = some (.bool m1) ∧ z.cell? ⟨b, o + k * 6 + 1, none⟩ = some (.string (str s1)) ∧ z.cell? ⟨b, o + k * 6 + 2, none⟩ = some c2 ∧ z.cell? ⟨b, o + k * 6 + 3, none⟩ = some c3 ∧ z.cell? ⟨b, o + k * 6 + 4, none⟩ = some c4 ∧ z.cell? ⟨b, o + k * 6 + 5, none⟩ = some c5 ∧ z.cell? ⟨b', o' + k * 6, none⟩ = some (.bool m2) ∧ z.cell? ⟨b', o' + k * 6 + 1, none⟩ = some (.string (str s2)) ∧ z.cell? ⟨b', o' + k * 6 + 2, none⟩ = some d2 ∧ z.cell? ⟨b', o' + k * 6 + 3, none⟩ = some d3 ∧ z.cell? ⟨b', o' + k * 6 + 4, none⟩ = some d4 ∧ z.cell? ⟨b', o' + k * 6 + 5, none⟩ = some d5) := fun z hz => ⟨hz, hcell z hz⟩
      have HS0 := mkS.out wr.drew HBW.out.drew
      clear hcell
      by_cases he : t1 = t2
      · have D : Hid (∀ z, (Below w.heap.size w z ∧ z.cell? ⟨b, o + k * 6, none⟩ = some (.bool m1) ∧ z.cell? ⟨b, o + k * 6 + 1, none⟩ = some (.string (str s1)) ∧ z.cell? ⟨b, o + k * 6 + 2, none⟩ = some c2 ∧ z.cell? ⟨b, o + k * 6 + 3, none⟩ = some c3 ∧ z.cell? ⟨b, o + k * 6 + 4, none⟩ = some c4 ∧ z.cell? ⟨b, o + k * 6 + 5, none⟩ = some c5 ∧ z.cell? ⟨b', o' + k * 6, none⟩ = some (.bool m2) ∧ z.cell? ⟨b', o' + k * 6 + 1, none⟩ = some (.string (str s2)) ∧ z.cell? ⟨b', o' + k * 6 + 2, none⟩ = some d2 ∧ z.cell? ⟨b', o' + k * 6 + 3, none⟩ = some d3 ∧ z.cell? ⟨b', o' + k * 6 + 4, none⟩ = some d4 ∧ z.cell? ⟨b', o' + k * 6 + 5, none⟩ = some d5) → Calls Tryz.prog 99 #[.agg #[c2, c3, c4, c5], .agg #[d2, d3, d4, d5]] z fun ev z' => ev = .returned (.bool true) ∧ (Below w.heap.size w z' ∧ z'.cell? ⟨b, o + k * 6, none⟩ = some (.bool m1) ∧ z'.cell? ⟨b, o + k * 6 + 1, none⟩ = some (.string (str s1)) ∧ z'.cell? ⟨b, o + k * 6 + 2, none⟩ = some c2 ∧ z'.cell? ⟨b, o + k * 6 + 3, none⟩ = some c3 ∧ z'.cell? ⟨b, o + k * 6 + 4, none⟩ = some c4 ∧ z'.cell? ⟨b, o + k * 6 + 5, none⟩ = some c5 ∧ z'.cell? ⟨b', o' + k * 6, none⟩ = some (.bool m2) ∧ z'.cell? ⟨b', o' + k * 6 + 1, none⟩ = some (.string (str s2)) ∧ z'.cell? ⟨b', o' + k * 6 + 2, none⟩ = some d2 ∧ z'.cell? ⟨b', o' + k * 6 + 3, none⟩ = some d3 ∧ z'.cell? ⟨b', o' + k * 6 + 4, none⟩ = some d4 ∧ z'.cell? ⟨b', o' + k * 6 + 5, none⟩ = some d5)) := by
          intro z hz
          refine (hcall z true hz.1 ⟨fun _ => he, fun _ => rfl⟩).mono ?_
          rintro _ z' ⟨rfl, hb⟩
          exact ⟨rfl, mkS.out z' hb⟩
        have HJ' : Hid (∀ j (h : j < LX.length) (h' : j < LY.length), j < k + 1 → LX[j] = LY[j]) := by
          intro j ha hb hjk
          rcases Nat.lt_or_ge j k with h | h
          · exact HJ.out j ha hb h
          · obtain rfl : j = k := by omega
            rw [G1.out, G2.out, e0, e1, he]
        clear he hcall mkS HJ HL HN G1 G2 e0 e1 HB
        generalize str s1 = S1 at *
        generalize str s2 = S2 at *
        go_wp2_with fail
        go_region_held3 (fun z => Below w.heap.size w z ∧ z.cell? ⟨b, o + k * 6, none⟩ = some (.bool m1) ∧ z.cell? ⟨b, o + k * 6 + 1, none⟩ = some (.string S1) ∧ z.cell? ⟨b, o + k * 6 + 2, none⟩ = some c2 ∧ z.cell? ⟨b, o + k * 6 + 3, none⟩ = some c3 ∧ z.cell? ⟨b, o + k * 6 + 4, none⟩ = some c4 ∧ z.cell? ⟨b, o + k * 6 + 5, none⟩ = some c5 ∧ z.cell? ⟨b', o' + k * 6, none⟩ = some (.bool m2) ∧ z.cell? ⟨b', o' + k * 6 + 1, none⟩ = some (.string S2) ∧ z.cell? ⟨b', o' + k * 6 + 2, none⟩ = some d2 ∧ z.cell? ⟨b', o' + k * 6 + 3, none⟩ = some d3 ∧ z.cell? ⟨b', o' + k * 6 + 4, none⟩ = some d4 ∧ z.cell? ⟨b', o' + k * 6 + 5, none⟩ = some d5) (assumption) (first | (go_at_call 99; refine (D.out _ (by assumption)).mono ?_; rintro _ z1 ⟨rfl, hS1⟩))
        go_wp2_with fail
        go_roundw
        case rel => exact ⟨k + 1, by omega, by go_num, HJ'.out, hS1.1⟩
        case measure => simp [intOf]; omega
      · have D : Hid (∀ z, (Below w.heap.size w z ∧ z.cell? ⟨b, o + k * 6, none⟩ = some (.bool m1) ∧ z.cell? ⟨b, o + k * 6 + 1, none⟩ = some (.string (str s1)) ∧ z.cell? ⟨b, o + k * 6 + 2, none⟩ = some c2 ∧ z.cell? ⟨b, o + k * 6 + 3, none⟩ = some c3 ∧ z.cell? ⟨b, o + k * 6 + 4, none⟩ = some c4 ∧ z.cell? ⟨b, o + k * 6 + 5, none⟩ = some c5 ∧ z.cell? ⟨b', o' + k * 6, none⟩ = some (.bool m2) ∧ z.cell? ⟨b', o' + k * 6 + 1, none⟩ = some (.string (str s2)) ∧ z.cell? ⟨b', o' + k * 6 + 2, none⟩ = some d2 ∧ z.cell? ⟨b', o' + k * 6 + 3, none⟩ = some d3 ∧ z.cell? ⟨b', o' + k * 6 + 4, none⟩ = some d4 ∧ z.cell? ⟨b', o' + k * 6 + 5, none⟩ = some d5) → Calls Tryz.prog 99 #[.agg #[c2, c3, c4, c5], .agg #[d2, d3, d4, d5]] z fun ev z' => ev = .returned (.bool false) ∧ (Below w.heap.size w z' ∧ z'.cell? ⟨b, o + k * 6, none⟩ = some (.bool m1) ∧ z'.cell? ⟨b, o + k * 6 + 1, none⟩ = some (.string (str s1)) ∧ z'.cell? ⟨b, o + k * 6 + 2, none⟩ = some c2 ∧ z'.cell? ⟨b, o + k * 6 + 3, none⟩ = some c3 ∧ z'.cell? ⟨b, o + k * 6 + 4, none⟩ = some c4 ∧ z'.cell? ⟨b, o + k * 6 + 5, none⟩ = some c5 ∧ z'.cell? ⟨b', o' + k * 6, none⟩ = some (.bool m2) ∧ z'.cell? ⟨b', o' + k * 6 + 1, none⟩ = some (.string (str s2)) ∧ z'.cell? ⟨b', o' + k * 6 + 2, none⟩ = some d2 ∧ z'.cell? ⟨b', o' + k * 6 + 3, none⟩ = some d3 ∧ z'.cell? ⟨b', o' + k * 6 + 4, none⟩ = some d4 ∧ z'.cell? ⟨b', o' + k * 6 + 5, none⟩ = some d5)) := by
          intro z hz
          refine (hcall z false hz.1 ⟨fun h => (by cases h), fun h => absurd h he⟩).mono ?_
          rintro _ z' ⟨rfl, hb⟩
          exact ⟨rfl, mkS.out z' hb⟩
        have HF : Hid (B = false) := HN.out (by rw [G1.out, G2.out]; intro h; injection h with _ _ h; exact he h)
        clear he hcall mkS HJ HL HN G1 G2 e0 e1 HB
        generalize str s1 = S1 at *
        generalize str s2 = S2 at *
        go_wp2_with fail
        go_region_held3 (fun z => Below w.heap.size w z ∧ z.cell? ⟨b, o + k * 6, none⟩ = some (.bool m1) ∧ z.cell? ⟨b, o + k * 6 + 1, none⟩ = some (.string S1) ∧ z.cell? ⟨b, o + k * 6 + 2, none⟩ = some c2 ∧ z.cell? ⟨b, o + k * 6 + 3, none⟩ = some c3 ∧ z.cell? ⟨b, o + k * 6 + 4, none⟩ = some c4 ∧ z.cell? ⟨b, o + k * 6 + 5, none⟩ = some c5 ∧ z.cell? ⟨b', o' + k * 6, none⟩ = some (.bool m2) ∧ z.cell? ⟨b', o' + k * 6 + 1, none⟩ = some (.string S2) ∧ z.cell? ⟨b', o' + k * 6 + 2, none⟩ = some d2 ∧ z.cell? ⟨b', o' + k * 6 + 3, none⟩ = some d3 ∧ z.cell? ⟨b', o' + k * 6 + 4, none⟩ = some d4 ∧ z.cell? ⟨b', o' + k * 6 + 5, none⟩ = some d5) (assumption) (first | (go_at_call 99; refine (D.out _ (by assumption)).mono ?_; rintro _ z1 ⟨rfl, hS1⟩))
        go_wp2_with fail
        go_ret
        exact ⟨by rw [HF.out]; rfl, hS1.1⟩
    · have i1 : ¬ (k : Int) < (LX.length : Int) := by omega
      have HF : Hid (B = true) := HB.out.2 (eq_upto HL.out fun j ha hb => HJ.out j ha hb (by omega))
      go_wp2_with fail
      go_ret
      exact ⟨by rw [HF.out]; rfl, HBW.out⟩
end Go.Proofs.YtmopffaocamieaaGreat
