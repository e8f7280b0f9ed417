/-
  The texts Xsf, Xsc, joined.
-/
import Derived.Test.YtmopffaocamieaaGreatQapXst
namespace Go.Proofs.YtmopffaocamieaaGreat
open Go.RowKit

set_option maxHeartbeats 8000000 in
set_option maxRecDepth 20000 in
theorem xfields_any {K : Ctx} {w : World} (hC : K.C ≤ w.heap.size) {va vb : Value} {LX LY : List Fld} (ha : Ar 6 96 (FldAt K w) K w va LX) (hb : Ar 6 96 (FldAt K w) K w vb LY) (B : Bool) (hB : B = true ↔ LX = LY) :
    Calls Tryz.prog 111 #[va, vb] w fun ev w' => ev = .returned (.bool B) ∧ Below w.heap.size w w' := by
  obtain ⟨ax, cx, rfl, hcx, hbx, HAx⟩ := ha.shape
  obtain ⟨ay, cy, rfl, hcy, hby, HAy⟩ := hb.shape
  have hl9 : LX.length ≤ 9223372036854775807 := by omega
  have HB : Hid (B = true ↔ LX = LY) := hB
  by_cases hlen : LX.length = LY.length
  rotate_left
  · have b1 : ((LX.length : Int) != (LY.length : Int)) = true := by simp; omega
    have HF : Hid (B = false) := bool_false HB.out (fun h => hlen (by rw [h]))
    clear hB HB ha hb HAx HAy hbx hby hlen
    go_enter Tryz.func111, Tryz.ntmps111
    go_wp2_with fail
    go_ret
    exact ⟨by rw [HF.out]; rfl, Below.refl _ _⟩
  have b1 : ((LX.length : Int) != (LY.length : Int)) = false := by simp; omega
  have HL : Hid (LX.length = LY.length) := hlen
  have HE : Hid (∀ i (h : i < LX.length) (h' : i < LY.length), ∃ (b o b' o' : Nat) (m1 m2 : Bool) (s1 s2 : Bs) (t1 t2 : Ty) (c2 c3 c4 c5 d2 d3 d4 d5 : Value), ax = some ⟨b, o, none⟩ ∧ ay = some ⟨b', o', none⟩ ∧ LX[i] = ⟨m1, s1, t1⟩ ∧ LY[i] = ⟨m2, s2, t2⟩ ∧ (∀ W, Below w.heap.size w W → W.cell? ⟨b, o + i * 6, none⟩ = some (.bool m1) ∧ W.cell? ⟨b, o + i * 6 + 1, none⟩ = some (.string (str s1)) ∧ W.cell? ⟨b, o + i * 6 + 2, none⟩ = some c2 ∧ W.cell? ⟨b, o + i * 6 + 3, none⟩ = some c3 ∧ W.cell? ⟨b, o + i * 6 + 4, none⟩ = some c4 ∧ W.cell? ⟨b, o + i * 6 + 5, none⟩ = some c5 ∧ W.cell? ⟨b', o' + i * 6, none⟩ = some (.bool m2) ∧ W.cell? ⟨b', o' + i * 6 + 1, none⟩ = some (.string (str s2)) ∧ W.cell? ⟨b', o' + i * 6 + 2, none⟩ = some d2 ∧ W.cell? ⟨b', o' + i * 6 + 3, none⟩ = some d3 ∧ W.cell? ⟨b', o' + i * 6 + 4, none⟩ = some d4 ∧ W.cell? ⟨b', o' + i * 6 + 5, none⟩ = some d5) ∧ (∀ W B, Below w.heap.size w W → (B = true ↔ t1 = t2) → Calls Tryz.prog 99 #[.agg #[c2, c3, c4, c5], .agg #[d2, d3, d4, d5]] W fun ev w' => ev = .returned (.bool B) ∧ Below w.heap.size w w')) := by
    intro i h h'
    obtain ⟨b, o, e, hbC, cs, hl, hcs, kx⟩ := HAx i h
    obtain ⟨b', o', e', hbC', cs', hl', hcs', ky⟩ := HAy i h'
    obtain ⟨ts, rfl, hn1, kt⟩ := kx
    obtain ⟨ts', rfl, hn2, kt'⟩ := ky
    obtain ⟨c2, c3, c4, c5, rfl⟩ := list4 kt.len
    obtain ⟨d2, d3, d4, d5, rfl⟩ := list4 kt'.len
    have hK : ∀ W, Below w.heap.size w W → Below K.C w W := fun W hw => below_le hw hC
    refine ⟨b, o, b', o', _, _, _, _, _, _, c2, c3, c4, c5, d2, d3, d4, d5, e, e', rfl, rfl, fun W hw => ?_, fun W B hw hB => ?_⟩
    · exact ⟨((hK W hw).cell (p := ⟨b, o + i * 6, none⟩) hbC).trans (hcs 0 (by decide)), ((hK W hw).cell (p := ⟨b, o + i * 6 + 1, none⟩) hbC).trans (hcs 1 (by decide)), ((hK W hw).cell (p := ⟨b, o + i * 6 + 2, none⟩) hbC).trans (hcs 2 (by decide)), ((hK W hw).cell (p := ⟨b, o + i * 6 + 3, none⟩) hbC).trans (hcs 3 (by decide)), ((hK W hw).cell (p := ⟨b, o + i * 6 + 4, none⟩) hbC).trans (hcs 4 (by decide)), ((hK W hw).cell (p := ⟨b, o + i * 6 + 5, none⟩) hbC).trans (hcs 5 (by decide)), ((hK W hw).cell (p := ⟨b', o' + i * 6, none⟩) hbC').trans (hcs' 0 (by decide)), ((hK W hw).cell (p := ⟨b', o' + i * 6 + 1, none⟩) hbC').trans (hcs' 1 (by decide)), ((hK W hw).cell (p := ⟨b', o' + i * 6 + 2, none⟩) hbC').trans (hcs' 2 (by decide)), ((hK W hw).cell (p := ⟨b', o' + i * 6 + 3, none⟩) hbC').trans (hcs' 3 (by decide)), ((hK W hw).cell (p := ⟨b', o' + i * 6 + 4, none⟩) hbC').trans (hcs' 4 (by decide)), ((hK W hw).cell (p := ⟨b', o' + i * 6 + 5, none⟩) hbC').trans (hcs' 5 (by decide))⟩
    · refine (xsameType_any (Nat.le_trans hC hw.size) (kt.below (hK W hw)) (kt'.below (hK W hw)) B hB).mono ?_
      rintro _ _ ⟨rfl, h⟩
      exact ⟨rfl, hw.trans (below_le h hw.size)⟩
  clear hB ha hb HAx HAy hbx hby hlen hcx hcy
  go_enter Tryz.func111, Tryz.ntmps111
  go_wp2_with fail
  go_loopw [5] (fun i wr => ∃ k : Nat, k ≤ LX.length ∧ i = .int .i64 k ∧ (∀ j (h : j < LX.length) (h' : j < LY.length), j < k → LX[j] = LY[j]) ∧ Below w.heap.size w wr) (fun i _ => LX.length - (intOf i).toNat)
  case atStart => exact ⟨0, by omega, rfl, fun j _ _ h => by omega, Below.refl _ _⟩
  case round =>
    obtain ⟨k, hk, rfl, hj, hbw⟩ := hrel
    have HJ : Hid (∀ j (h : j < LX.length) (h' : j < LY.length), j < k → LX[j] = LY[j]) := hj
    have HBW : Hid (Below w.heap.size w wr) := hbw
    clear hj hbw
    by_cases h3 : k < LX.length
    · have h4 : k < LY.length := by rw [← HL.out]; exact h3
      obtain ⟨b, o, b', o', m1, m2, s1, s2, t1, t2, c2, c3, c4, c5, d2, d3, d4, d5, ex1, ey1, g1, g2, hcell, hcall⟩ := HE.out k h3 h4
      subst ex1 ey1
      have i1 : (k : Int) < (LX.length : Int) := by omega
      have i2 : (k : Int) < (LY.length : Int) := by omega
      have G1 : Hid (LX[k] = ⟨m1, s1, t1⟩) := g1
      have G2 : Hid (LY[k] = ⟨m2, s2, t2⟩) := g2
      have HN : Hid (LX[k] ≠ LY[k] → B = false) := fun hne => bool_false HB.out (not_at h3 h4 hne)
      have HCW := hcell wr HBW.out
      obtain ⟨a0, a1, a2, a3, a4, a5, b0, b1, b2, b3, b4, b5⟩ := HCW
      clear g1 g2 HE
      by_cases e0 : m1 = m2
      rotate_left
      · have HF : Hid (B = false) := HN.out (by rw [G1.out, G2.out]; intro h; injection h with h _; exact e0 h)
        have p0 : (m1 != m2) = true := by simp [e0]
        have p0a : (m1 == m2) = false := by simp [e0]
        have p0b : (m1 ^^ m2) = true := by cases m1 <;> cases m2 <;> simp at e0 ⊢
        clear e0 hcall hcell HN G1 G2 HJ HL HB
        generalize str s1 = S1 at *
        generalize str s2 = S2 at *
        go_wp2_with fail
        go_quiet (fail)
        go_wp2_with fail
        go_ret
        exact ⟨by rw [HF.out]; rfl, HBW.out.trans (Below.drewN _ _ _)⟩
      by_cases e1 : s1 = s2
      rotate_left
      · have HF : Hid (B = false) := HN.out (by rw [G1.out, G2.out]; intro h; injection h with _ h; exact e1 h)
        have p0 : (m1 != m2) = false := by simp [e0]
        have p0a : (m1 == m2) = true := by simp [e0]
        have p0b : (m1 ^^ m2) = false := by simp [e0]
        have p1' : ((str s1).toList == (str s2).toList) = false := by rw [str_beq]; simp [e1]
        have p1 : ((str s1).toList != (str s2).toList) = true := by rw [bne, str_beq]; simp [e1]
        clear e0 e1 hcall hcell HN G1 G2 HJ HL HB
        generalize str s1 = S1 at *
        generalize str s2 = S2 at *
        go_wp2_with fail
        go_quiet (fail)
        go_wp2_with fail
        go_ret
        exact ⟨by rw [HF.out]; rfl, HBW.out.trans (Below.drewN _ _ _)⟩
      have p0 : (m1 != m2) = false := by simp [e0]
      have p0a : (m1 == m2) = true := by simp [e0]
      have p0b : (m1 ^^ m2) = false := by simp [e0]
      have p1' : ((str s1).toList == (str s2).toList) = true := by rw [str_beq]; simp [e1]
      have p1 : ((str s1).toList != (str s2).toList) = false := by rw [bne, str_beq]; simp [e1]
      have mkS : Hid (∀ z, Below w.heap.size w z → Below w.heap.size w z ∧ z.cell? ⟨b, o + k * 6, none⟩ = some (.bool m1) ∧ z.cell? ⟨b, o + k * 6 + 1, none⟩ = some (.string (str s1)) ∧ z.cell? ⟨b, o + k * 6 + 2, none⟩ = some c2 ∧ z.cell? ⟨b, o + k * 6 + 3, none⟩ = some c3 ∧ z.cell? ⟨b, o + k * 6 + 4, none⟩ = some c4 ∧ z.cell? ⟨b, o + k * 6 + 5, none⟩ = some c5 ∧ z.cell? ⟨b', o' + k * 6, none⟩ = some (.bool m2) ∧ z.cell? ⟨b', o' + k * 6 + 1, none⟩ = some (.string (str s2)) ∧ z.cell? ⟨b', o' + k * 6 + 2, none⟩ = some d2 ∧ z.cell? ⟨b', o' + k * 6 + 3, none⟩ = some d3 ∧ z.cell? ⟨b', o' + k * 6 + 4, none⟩ = some d4 ∧ z.cell? ⟨b', o' + k * 6 + 5, none⟩ = some d5) := fun z hz => ⟨hz, hcell z hz⟩
      have HS0 := mkS.out wr.drew HBW.out.drew
      clear hcell
      by_cases he : t1 = t2
      · have D : Hid (∀ z, (Below w.heap.size w z ∧ z.cell? ⟨b, o + k * 6, none⟩ = some (.bool m1) ∧ z.cell? ⟨b, o + k * 6 + 1, none⟩ = some (.string (str s1)) ∧ z.cell? ⟨b, o + k * 6 + 2, none⟩ = some c2 ∧ z.cell? ⟨b, o + k * 6 + 3, none⟩ = some c3 ∧ z.cell? ⟨b, o + k * 6 + 4, none⟩ = some c4 ∧ z.cell? ⟨b, o + k * 6 + 5, none⟩ = some c5 ∧ z.cell? ⟨b', o' + k * 6, none⟩ = some (.bool m2) ∧ z.cell? ⟨b', o' + k * 6 + 1, none⟩ = some (.string (str s2)) ∧ z.cell? ⟨b', o' + k * 6 + 2, none⟩ = some d2 ∧ z.cell? ⟨b', o' + k * 6 + 3, none⟩ = some d3 ∧ z.cell? ⟨b', o' + k * 6 + 4, none⟩ = some d4 ∧ z.cell? ⟨b', o' + k * 6 + 5, none⟩ = some d5) → Calls Tryz.prog 99 #[.agg #[c2, c3, c4, c5], .agg #[d2, d3, d4, d5]] z fun ev z' => ev = .returned (.bool true) ∧ (Below w.heap.size w z' ∧ z'.cell? ⟨b, o + k * 6, none⟩ = some (.bool m1) ∧ z'.cell? ⟨b, o + k * 6 + 1, none⟩ = some (.string (str s1)) ∧ z'.cell? ⟨b, o + k * 6 + 2, none⟩ = some c2 ∧ z'.cell? ⟨b, o + k * 6 + 3, none⟩ = some c3 ∧ z'.cell? ⟨b, o + k * 6 + 4, none⟩ = some c4 ∧ z'.cell? ⟨b, o + k * 6 + 5, none⟩ = some c5 ∧ z'.cell? ⟨b', o' + k * 6, none⟩ = some (.bool m2) ∧ z'.cell? ⟨b', o' + k * 6 + 1, none⟩ = some (.string (str s2)) ∧ z'.cell? ⟨b', o' + k * 6 + 2, none⟩ = some d2 ∧ z'.cell? ⟨b', o' + k * 6 + 3, none⟩ = some d3 ∧ z'.cell? ⟨b', o' + k * 6 + 4, none⟩ = some d4 ∧ z'.cell? ⟨b', o' + k * 6 + 5, none⟩ = some d5)) := by
          intro z hz
          refine (hcall z true hz.1 ⟨fun _ => he, fun _ => rfl⟩).mono ?_
          rintro _ z' ⟨rfl, hb⟩
          exact ⟨rfl, mkS.out z' hb⟩
        have HJ' : Hid (∀ j (h : j < LX.length) (h' : j < LY.length), j < k + 1 → LX[j] = LY[j]) := by
          intro j ha hb hjk
          rcases Nat.lt_or_ge j k with h | h
          · exact HJ.out j ha hb h
          · obtain rfl : j = k := by omega
            rw [G1.out, G2.out, e0, e1, he]
        clear he hcall mkS HJ HL HN G1 G2 e0 e1 HB
        generalize str s1 = S1 at *
        generalize str s2 = S2 at *
        go_wp2_with fail
        go_region_held3 (fun z => Below w.heap.size w z ∧ z.cell? ⟨b, o + k * 6, none⟩ = some (.bool m1) ∧ z.cell? ⟨b, o + k * 6 + 1, none⟩ = some (.string S1) ∧ z.cell? ⟨b, o + k * 6 + 2, none⟩ = some c2 ∧ z.cell? ⟨b, o + k * 6 + 3, none⟩ = some c3 ∧ z.cell? ⟨b, o + k * 6 + 4, none⟩ = some c4 ∧ z.cell? ⟨b, o + k * 6 + 5, none⟩ = some c5 ∧ z.cell? ⟨b', o' + k * 6, none⟩ = some (.bool m2) ∧ z.cell? ⟨b', o' + k * 6 + 1, none⟩ = some (.string S2) ∧ z.cell? ⟨b', o' + k * 6 + 2, none⟩ = some d2 ∧ z.cell? ⟨b', o' + k * 6 + 3, none⟩ = some d3 ∧ z.cell? ⟨b', o' + k * 6 + 4, none⟩ = some d4 ∧ z.cell? ⟨b', o' + k * 6 + 5, none⟩ = some d5) (assumption) (first | (go_at_call 99; refine (D.out _ (by assumption)).mono ?_; rintro _ z1 ⟨rfl, hS1⟩))
        go_wp2_with fail
        go_roundw
        case rel => exact ⟨k + 1, by omega, by go_num, HJ'.out, hS1.1⟩
        case measure => simp [intOf]; omega
      · have D : Hid (∀ z, (Below w.heap.size w z ∧ z.cell? ⟨b, o + k * 6, none⟩ = some (.bool m1) ∧ z.cell? ⟨b, o + k * 6 + 1, none⟩ = some (.string (str s1)) ∧ z.cell? ⟨b, o + k * 6 + 2, none⟩ = some c2 ∧ z.cell? ⟨b, o + k * 6 + 3, none⟩ = some c3 ∧ z.cell? ⟨b, o + k * 6 + 4, none⟩ = some c4 ∧ z.cell? ⟨b, o + k * 6 + 5, none⟩ = some c5 ∧ z.cell? ⟨b', o' + k * 6, none⟩ = some (.bool m2) ∧ z.cell? ⟨b', o' + k * 6 + 1, none⟩ = some (.string (str s2)) ∧ z.cell? ⟨b', o' + k * 6 + 2, none⟩ = some d2 ∧ z.cell? ⟨b', o' + k * 6 + 3, none⟩ = some d3 ∧ z.cell? ⟨b', o' + k * 6 + 4, none⟩ = some d4 ∧ z.cell? ⟨b', o' + k * 6 + 5, none⟩ = some d5) → Calls Tryz.prog 99 #[.agg #[c2, c3, c4, c5], .agg #[d2, d3, d4, d5]] z fun ev z' => ev = .returned (.bool false) ∧ (Below w.heap.size w z' ∧ z'.cell? ⟨b, o + k * 6, none⟩ = some (.bool m1) ∧ z'.cell? ⟨b, o + k * 6 + 1, none⟩ = some (.string (str s1)) ∧ z'.cell? ⟨b, o + k * 6 + 2, none⟩ = some c2 ∧ z'.cell? ⟨b, o + k * 6 + 3, none⟩ = some c3 ∧ z'.cell? ⟨b, o + k * 6 + 4, none⟩ = some c4 ∧ z'.cell? ⟨b, o + k * 6 + 5, none⟩ = some c5 ∧ z'.cell? ⟨b', o' + k * 6, none⟩ = some (.bool m2) ∧ z'.cell? ⟨b', o' + k * 6 + 1, none⟩ = some (.string (str s2)) ∧ z'.cell? ⟨b', o' + k * 6 + 2, none⟩ = some d2 ∧ z'.cell? ⟨b', o' + k * 6 + 3, none⟩ = some d3 ∧ z'.cell? ⟨b', o' + k * 6 + 4, none⟩ = some d4 ∧ z'.cell? ⟨b', o' + k * 6 + 5, none⟩ = some d5)) := by
          intro z hz
          refine (hcall z false hz.1 ⟨fun h => (by cases h), fun h => absurd h he⟩).mono ?_
          rintro _ z' ⟨rfl, hb⟩
          exact ⟨rfl, mkS.out z' hb⟩
        have HF : Hid (B = false) := HN.out (by rw [G1.out, G2.out]; intro h; injection h with _ _ h; exact he h)
        clear he hcall mkS HJ HL HN G1 G2 e0 e1 HB
        generalize str s1 = S1 at *
        generalize str s2 = S2 at *
        go_wp2_with fail
        go_region_held3 (fun z => Below w.heap.size w z ∧ z.cell? ⟨b, o + k * 6, none⟩ = some (.bool m1) ∧ z.cell? ⟨b, o + k * 6 + 1, none⟩ = some (.string S1) ∧ z.cell? ⟨b, o + k * 6 + 2, none⟩ = some c2 ∧ z.cell? ⟨b, o + k * 6 + 3, none⟩ = some c3 ∧ z.cell? ⟨b, o + k * 6 + 4, none⟩ = some c4 ∧ z.cell? ⟨b, o + k * 6 + 5, none⟩ = some c5 ∧ z.cell? ⟨b', o' + k * 6, none⟩ = some (.bool m2) ∧ z.cell? ⟨b', o' + k * 6 + 1, none⟩ = some (.string S2) ∧ z.cell? ⟨b', o' + k * 6 + 2, none⟩ = some d2 ∧ z.cell? ⟨b', o' + k * 6 + 3, none⟩ = some d3 ∧ z.cell? ⟨b', o' + k * 6 + 4, none⟩ = some d4 ∧ z.cell? ⟨b', o' + k * 6 + 5, none⟩ = some d5) (assumption) (first | (go_at_call 99; refine (D.out _ (by assumption)).mono ?_; rintro _ z1 ⟨rfl, hS1⟩))
        go_wp2_with fail
        go_ret
        exact ⟨by rw [HF.out]; rfl, hS1.1⟩
    · have i1 : ¬ (k : Int) < (LX.length : Int) := by omega
      have HF : Hid (B = true) := HB.out.2 (eq_upto HL.out fun j ha hb => HJ.out j ha hb (by omega))
      go_wp2_with fail
      go_ret
      exact ⟨by rw [HF.out]; rfl, HBW.out⟩
end Go.Proofs.YtmopffaocamieaaGreat

namespace Go.Proofs.YtmopffaocamieaaGreat
open Go.RowKit

set_option maxHeartbeats 8000000 in
set_option maxRecDepth 20000 in
theorem xstruct_any  {K : Ctx} {w : World} (hC : K.C ≤ w.heap.size) {x y : Sct} {cs cs' : List Value} (hx : SctAt K w cs x) (hy : SctAt K w cs' y) (B : Bool) (hB : B = true ↔ x = y) :
    Calls Tryz.prog 63 #[.agg cs.toArray, .agg cs'.toArray] w fun ev w' => ev = .returned (.bool B) ∧ Below w.heap.size w w' := by
  obtain ⟨v2, v3, rfl, hl1, h2, h3⟩ := hx
  obtain ⟨u2, u3, rfl, hl2, g2, g3⟩ := hy
  obtain ⟨a2, c2, e2'⟩ := h2.form
  obtain ⟨a2', c2', e3'⟩ := g2.form
  obtain ⟨a3, c3, e4'⟩ := h3.form
  obtain ⟨a3', c3', e5'⟩ := g3.form
  obtain ⟨w2, hw2⟩ : ∃ w2, w2 = ((w.alloc (.cells #[.bool x.pub, .string (str x.name), v2, v3, .int .i64 x.pos] 58)).alloc (.cells #[.bool y.pub, .string (str y.name), u2, u3, .int .i64 y.pos] 58)) := ⟨_, rfl⟩
  have hA : Below w.heap.size w w2 := by rw [hw2]; exact alloc_two w _ _
  have hsz : w2.heap.size = w.heap.size + 2 := by rw [hw2, size_alloc, size_alloc]
  have R1 : Row w2 w.heap.size 58 [.bool x.pub, .string (str x.name), v2, v3, .int .i64 x.pos] := by rw [hw2]; exact (Row.new w 58 [.bool x.pub, .string (str x.name), v2, v3, .int .i64 x.pos]).alloc _
  have R2 : Row w2 (w.heap.size + 1) 58 [.bool y.pub, .string (str y.name), u2, u3, .int .i64 y.pos] := by
    have := Row.new (w.alloc (.cells #[.bool x.pub, .string (str x.name), v2, v3, .int .i64 x.pos] 58)) 58 [.bool y.pub, .string (str y.name), u2, u3, .int .i64 y.pos]
    rw [size_alloc] at this; rw [hw2]; exact this
  have HB0 : Hid (Below (w.heap.size + 2) w2 ((w.alloc (.cells #[.bool x.pub, .string (str x.name), v2, v3, .int .i64 x.pos] 58)).alloc (.cells #[.bool y.pub, .string (str y.name), u2, u3, .int .i64 y.pos] 58))) := by show Below _ _ _; rw [← hw2]; exact Below.refl _ _
  clear hw2
  have HS : Hid (∀ W, Below (w.heap.size + 2) w2 W → W.cell? ⟨w.heap.size, 0, none⟩ = some (.bool x.pub) ∧ W.cell? ⟨w.heap.size, 1, none⟩ = some (.string (str x.name)) ∧ W.cell? ⟨w.heap.size, 2, none⟩ = some (v2) ∧ W.cell? ⟨w.heap.size, 3, none⟩ = some (v3) ∧ W.cell? ⟨w.heap.size, 4, none⟩ = some (.int .i64 x.pos) ∧ W.cell? ⟨w.heap.size + 1, 0, none⟩ = some (.bool y.pub) ∧ W.cell? ⟨w.heap.size + 1, 1, none⟩ = some (.string (str y.name)) ∧ W.cell? ⟨w.heap.size + 1, 2, none⟩ = some (u2) ∧ W.cell? ⟨w.heap.size + 1, 3, none⟩ = some (u3) ∧ W.cell? ⟨w.heap.size + 1, 4, none⟩ = some (.int .i64 y.pos)) := by
    intro W hb
    have r1 := R1.below hb (by omega)
    have r2 := R2.below hb (by omega)
    exact ⟨r1.cell 0, r1.cell 1, r1.cell 2, r1.cell 3, r1.cell 4, r2.cell 0, r2.cell 1, r2.cell 2, r2.cell 3, r2.cell 4⟩
  have HW : Hid (∀ W, Below (w.heap.size + 2) w2 W → Below w.heap.size w W) := fun W hb => hA.trans (below_le hb (by omega))
  have HK : ∀ W, Below (w.heap.size + 2) w2 W → Below K.C w W := fun W hb => below_le (HW.out W hb) hC
  have HC : ∀ W, Below (w.heap.size + 2) w2 W → K.C ≤ W.heap.size ∧ w.heap.size + 2 ≤ W.heap.size := fun W hb => by have := hb.size; omega
  have HB : Hid (B = true ↔ x = y) := hB
  clear hB
  have q3 : Hid (∀ (B : Bool), (B = true ↔ x.lives = y.lives) → ∀ W, Below (w.heap.size + 2) w2 W → Calls Tryz.prog 110 #[v2, u2] W fun ev w' => ev = .returned (.bool B) ∧ Below (w.heap.size + 2) w2 w') := by
    intro B hB W hb
    refine (texts_any (h2.below (HK W hb)) (g2.below (HK W hb)) B hB).mono ?_
    rintro _ _ ⟨rfl, m, rfl⟩
    exact ⟨rfl, hb.trans (Below.drewN _ _ _)⟩
  have q4 : Hid (∀ (B : Bool), (B = true ↔ x.fields = y.fields) → ∀ W, Below (w.heap.size + 2) w2 W → Calls Tryz.prog 111 #[v3, u3] W fun ev w' => ev = .returned (.bool B) ∧ Below (w.heap.size + 2) w2 w') := by
    intro B hB W hb
    refine (xfields_any (HC W hb).1 (h3.mono (HK W hb) fun _ _ _ h => h.below (HK W hb)) (g3.mono (HK W hb) fun _ _ _ h => h.below (HK W hb)) B hB).mono ?_
    rintro _ _ ⟨rfl, h⟩
    exact ⟨rfl, hb.trans (below_le h (HC W hb).2)⟩
  by_cases e0 : x.pub = y.pub
  rotate_left
  · have HF : Hid (B = false) := bool_false HB.out (fun h => e0 (by rw [h]))
    have p0 : (x.pub == y.pub) = false := by simp [e0]
    clear q3 q4 e0 HB HK HC R1 R2 hA hsz hl1 hl2 h2 g2 h3 g3 
    subst e2' e3' e4' e5'
    generalize x.pub = s00 at *
    generalize str x.name = s01 at *
    generalize x.pos = s02 at *
    generalize x.lives.length = s03 at *
    generalize x.fields.length = s04 at *
    generalize y.pub = s10 at *
    generalize str y.name = s11 at *
    generalize y.pos = s12 at *
    generalize y.lives.length = s13 at *
    generalize y.fields.length = s14 at *
    go_enter Tryz.func63, Tryz.ntmps63
    go_wp2_with fail
    go_ret
    exact ⟨by rw [HF.out]; rfl, HW.out _ (by first | assumption | exact HB0.out)⟩
  by_cases e1 : x.name = y.name
  rotate_left
  · have HF : Hid (B = false) := bool_false HB.out (fun h => e1 (by rw [h]))
    have p0 : (x.pub == y.pub) = true := by simp [e0]
    have p1 : ((str x.name).toList == (str y.name).toList) = false := by rw [str_beq]; simp [e1]
    clear q3 q4 e0 e1 HB HK HC R1 R2 hA hsz hl1 hl2 h2 g2 h3 g3 
    subst e2' e3' e4' e5'
    generalize x.pub = s00 at *
    generalize str x.name = s01 at *
    generalize x.pos = s02 at *
    generalize x.lives.length = s03 at *
    generalize x.fields.length = s04 at *
    generalize y.pub = s10 at *
    generalize str y.name = s11 at *
    generalize y.pos = s12 at *
    generalize y.lives.length = s13 at *
    generalize y.fields.length = s14 at *
    go_enter Tryz.func63, Tryz.ntmps63
    go_wp2_with fail
    go_ret
    exact ⟨by rw [HF.out]; rfl, HW.out _ (by first | assumption | exact HB0.out)⟩
  by_cases e2 : x.pos = y.pos
  rotate_left
  · have HF : Hid (B = false) := bool_false HB.out (fun h => e2 (by rw [h]))
    have p0 : (x.pub == y.pub) = true := by simp [e0]
    have p1 : ((str x.name).toList == (str y.name).toList) = true := by rw [str_beq]; simp [e1]
    have p2 : (x.pos == y.pos) = false := by simp [e2]
    clear q3 q4 e0 e1 e2 HB HK HC R1 R2 hA hsz hl1 hl2 h2 g2 h3 g3 
    subst e2' e3' e4' e5'
    generalize x.pub = s00 at *
    generalize str x.name = s01 at *
    generalize x.pos = s02 at *
    generalize x.lives.length = s03 at *
    generalize x.fields.length = s04 at *
    generalize y.pub = s10 at *
    generalize str y.name = s11 at *
    generalize y.pos = s12 at *
    generalize y.lives.length = s13 at *
    generalize y.fields.length = s14 at *
    go_enter Tryz.func63, Tryz.ntmps63
    go_wp2_with fail
    go_ret
    exact ⟨by rw [HF.out]; rfl, HW.out _ (by first | assumption | exact HB0.out)⟩
  by_cases e3 : x.lives = y.lives
  rotate_left
  · have HF : Hid (B = false) := bool_false HB.out (fun h => e3 (by rw [h]))
    have p0 : (x.pub == y.pub) = true := by simp [e0]
    have p1 : ((str x.name).toList == (str y.name).toList) = true := by rw [str_beq]; simp [e1]
    have p2 : (x.pos == y.pos) = true := by simp [e2]
    have r3 : Hid (∀ W, Below (w.heap.size + 2) w2 W → Calls Tryz.prog 110 #[v2, u2] W fun ev w' => ev = .returned (.bool false) ∧ Below (w.heap.size + 2) w2 w') := q3.out false ⟨fun h => (by cases h), fun h => absurd h e3⟩
    clear q3 q4 e0 e1 e2 e3 HB HK HC R1 R2 hA hsz hl1 hl2 h2 g2 h3 g3 
    subst e2' e3' e4' e5'
    generalize x.pub = s00 at *
    generalize str x.name = s01 at *
    generalize x.pos = s02 at *
    generalize x.lives.length = s03 at *
    generalize x.fields.length = s04 at *
    generalize y.pub = s10 at *
    generalize str y.name = s11 at *
    generalize y.pos = s12 at *
    generalize y.lives.length = s13 at *
    generalize y.fields.length = s14 at *
    go_enter Tryz.func63, Tryz.ntmps63
    go_wp2_with fail
    refine (r3.out _ HB0.out).mono ?_
    rintro _ W3 ⟨rfl, hb3⟩
    obtain ⟨a0, a1, a2, a3, a4, b0, b1, b2, b3, b4⟩ := HS.out W3 hb3
    go_wp2_with fail
    go_ret
    exact ⟨by rw [HF.out]; rfl, HW.out _ (by first | assumption | exact HB0.out)⟩
  by_cases e4 : x.fields = y.fields
  rotate_left
  · have HF : Hid (B = false) := bool_false HB.out (fun h => e4 (by rw [h]))
    have p0 : (x.pub == y.pub) = true := by simp [e0]
    have p1 : ((str x.name).toList == (str y.name).toList) = true := by rw [str_beq]; simp [e1]
    have p2 : (x.pos == y.pos) = true := by simp [e2]
    have r3 : Hid (∀ W, Below (w.heap.size + 2) w2 W → Calls Tryz.prog 110 #[v2, u2] W fun ev w' => ev = .returned (.bool true) ∧ Below (w.heap.size + 2) w2 w') := q3.out true ⟨fun _ => e3, fun _ => rfl⟩
    have r4 : Hid (∀ W, Below (w.heap.size + 2) w2 W → Calls Tryz.prog 111 #[v3, u3] W fun ev w' => ev = .returned (.bool false) ∧ Below (w.heap.size + 2) w2 w') := q4.out false ⟨fun h => (by cases h), fun h => absurd h e4⟩
    clear q3 q4 e0 e1 e2 e3 e4 HB HK HC R1 R2 hA hsz hl1 hl2 h2 g2 h3 g3 
    subst e2' e3' e4' e5'
    generalize x.pub = s00 at *
    generalize str x.name = s01 at *
    generalize x.pos = s02 at *
    generalize x.lives.length = s03 at *
    generalize x.fields.length = s04 at *
    generalize y.pub = s10 at *
    generalize str y.name = s11 at *
    generalize y.pos = s12 at *
    generalize y.lives.length = s13 at *
    generalize y.fields.length = s14 at *
    go_enter Tryz.func63, Tryz.ntmps63
    go_wp2_with fail
    refine (r3.out _ HB0.out).mono ?_
    rintro _ W3 ⟨rfl, hb3⟩
    obtain ⟨a0, a1, a2, a3, a4, b0, b1, b2, b3, b4⟩ := HS.out W3 hb3
    go_wp2_with fail
    refine (r4.out _ hb3).mono ?_
    rintro _ W4 ⟨rfl, hb4⟩
    clear a0 b0 a1 b1 a2 b2 a3 b3 a4 b4
    obtain ⟨a0, a1, a2, a3, a4, b0, b1, b2, b3, b4⟩ := HS.out W4 hb4
    go_wp2_with fail
    go_ret
    exact ⟨by rw [HF.out]; rfl, HW.out _ (by first | assumption | exact HB0.out)⟩
  have HF : Hid (B = true) := by
    refine HB.out.2 ?_
    clear q3 q4 HB HS HW HK HC R1 R2 hA hsz hl1 hl2 h2 g2 h3 g3
    cases x; cases y; simp only at e0 e1 e2 e3 e4; subst e0 e1 e2 e3 e4; rfl
  have p0 : (x.pub == y.pub) = true := by simp [e0]
  have p1 : ((str x.name).toList == (str y.name).toList) = true := by rw [str_beq]; simp [e1]
  have p2 : (x.pos == y.pos) = true := by simp [e2]
  have r3 : Hid (∀ W, Below (w.heap.size + 2) w2 W → Calls Tryz.prog 110 #[v2, u2] W fun ev w' => ev = .returned (.bool true) ∧ Below (w.heap.size + 2) w2 w') := q3.out true ⟨fun _ => e3, fun _ => rfl⟩
  have r4 : Hid (∀ W, Below (w.heap.size + 2) w2 W → Calls Tryz.prog 111 #[v3, u3] W fun ev w' => ev = .returned (.bool true) ∧ Below (w.heap.size + 2) w2 w') := q4.out true ⟨fun _ => e4, fun _ => rfl⟩
  clear q3 q4 e0 e1 e2 e3 e4 HB HK HC R1 R2 hA hsz hl1 hl2 h2 g2 h3 g3 
  subst e2' e3' e4' e5'
  generalize x.pub = s00 at *
  generalize str x.name = s01 at *
  generalize x.pos = s02 at *
  generalize x.lives.length = s03 at *
  generalize x.fields.length = s04 at *
  generalize y.pub = s10 at *
  generalize str y.name = s11 at *
  generalize y.pos = s12 at *
  generalize y.lives.length = s13 at *
  generalize y.fields.length = s14 at *
  go_enter Tryz.func63, Tryz.ntmps63
  go_wp2_with fail
  refine (r3.out _ HB0.out).mono ?_
  rintro _ W3 ⟨rfl, hb3⟩
  obtain ⟨a0, a1, a2, a3, a4, b0, b1, b2, b3, b4⟩ := HS.out W3 hb3
  go_wp2_with fail
  refine (r4.out _ hb3).mono ?_
  rintro _ W4 ⟨rfl, hb4⟩
  clear a0 b0 a1 b1 a2 b2 a3 b3 a4 b4
  obtain ⟨a0, a1, a2, a3, a4, b0, b1, b2, b3, b4⟩ := HS.out W4 hb4
  go_wp2_with fail
  go_ret
  exact ⟨by rw [HF.out]; rfl, HW.out _ (by first | assumption | exact HB0.out)⟩
end Go.Proofs.YtmopffaocamieaaGreat
