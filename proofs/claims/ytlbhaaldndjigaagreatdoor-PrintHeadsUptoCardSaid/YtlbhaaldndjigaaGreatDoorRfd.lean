/-
  The document's fields.
-/
import Derived.Test.YtlbhaaldndjigaaGreatDoorRty
namespace Go.Proofs.YtlbhaaldndjigaaGreatDoor
open Go.RowKit

theorem no_over {a b : Bs} (h : a.length + b.length ≤ 281474976710656) : ¬ 9223372036854775807 < (str a).size + (str b).size := by rw [str_size, str_size]; omega
theorem no_overC {a : Bs} {n : Nat} (h : a.length + n ≤ 281474976710656) : ¬ 9223372036854775807 < (str a).size + n := by rw [str_size]; omega

set_option maxHeartbeats 8000000 in
set_option maxRecDepth 20000 in
theorem xfieldsT_any {K : Ctx} {w : World} (hC : K.C ≤ w.heap.size) {v : Value} {l : List Fld} (hs : Ar 6 96 (FldAt K w) K w v l) (hlen : (jn [44, 32] (l.map fldT)).length ≤ 140737488355328) :
    Calls Tryz.prog 29 #[v] w fun e w' => e = .returned (.string (str (jn [44, 32] (l.map fldT)))) ∧ Below w.heap.size w w' := by
  obtain ⟨ao, cap, rfl, hc, hb, hA⟩ := Ar.at (P := FldAt K) hs (fun h hx => hx.below h)
  have HA := hid0 hA
  have hl9 : l.length ≤ 9223372036854775807 := by omega
  obtain ⟨ps, hps⟩ : ∃ ps, ps = l.map fldT := ⟨_, rfl⟩
  rw [← hps] at hlen ⊢
  have hpl : ps.length = l.length := by rw [hps, List.length_map]
  have HP : Hid (∀ k (h : k < l.length), ∃ h' : k < ps.length, ps[k] = fldT l[k]) := by
    intro k h
    subst hps
    exact ⟨by simpa using h, by simp⟩
  have HQ := hid0 hpl
  have HL := hid0 hlen
  have HC := hid0 hC
  clear hA hs hb hps hpl hlen hC
  go_enter Tryz.func29, Tryz.ntmps29
  go_wp2_with fail
  go_loopw [3, 4] (fun s i wr => ∃ k : Nat, k ≤ l.length ∧ i = .int .i64 k ∧ s = .string (str (jn [44, 32] (ps.take k))) ∧ Below w.heap.size w wr) (fun _ i _ => l.length - (intOf i).toNat)
  case atStart => exact ⟨0, by omega, rfl, by simp [jn]; rfl, Below.refl _ _⟩
  case round =>
    obtain ⟨k, hk, rfl, rfl, hbw⟩ := hrel
    have HB := hid0 hbw
    clear hbw
    by_cases h3 : k < l.length
    · obtain ⟨bb, o, cs, rfl, hbC, hcell⟩ := HA.out k h3
      obtain ⟨h', eP⟩ := HP.out k h3
      have e1 := jn_take [44, 32] ps k h'
      rw [eP] at e1
      have e2 := jn_le [44, 32] ps (k + 1)
      have e3 := HL.out
      rw [e1] at e2
      unfold fldT at e1 e2
      simp only [List.length_append, List.length_cons, List.length_nil] at e2
      have i1 : (k : Int) < (l.length : Int) := by omega
      have hkw := below_le HB.out HC.out
      obtain ⟨ts, ecs, -, m0, ht0⟩ := (hcell wr hkw).2
      obtain ⟨c2, c3, c4, c5, rfl⟩ : ∃ c2 c3 c4 c5, ts = [c2, c3, c4, c5] := by
        have := ht0.len4
        match ts, this with
        | [a, b, c, d], _ => exact ⟨a, b, c, d, rfl⟩
      subst ecs
      have HS : Hid (∀ y, Below wr.heap.size wr y → y.cell? ⟨bb, o + k * 6, none⟩ = some (.bool (l[k]).mu) ∧ y.cell? ⟨bb, o + k * 6 + 1, none⟩ = some (.string (str (l[k]).name)) ∧ y.cell? ⟨bb, o + k * 6 + 2, none⟩ = some c2 ∧ y.cell? ⟨bb, o + k * 6 + 3, none⟩ = some c3 ∧ y.cell? ⟨bb, o + k * 6 + 4, none⟩ = some c4 ∧ y.cell? ⟨bb, o + k * 6 + 5, none⟩ = some c5) := by
        intro y hy
        have hyw : Below K.C w y := hkw.trans (below_le hy (by have := HB.out.size; have := HC.out; omega))
        have h := (hcell y hyw).1.2
        exact ⟨h 0 (by decide), h 1 (by decide), h 2 (by decide), h 3 (by decide), h 4 (by decide), h 5 (by decide)⟩
      have D : Hid (Calls Tryz.prog 12 #[.agg #[c2, c3, c4, c5]] wr.drew fun ev w' => ev = .returned (.string (str (tyT (l[k]).ty))) ∧ Below wr.heap.size wr w') := by
        have hdr : Below K.C wr wr.drew := ⟨rfl, rfl, rfl, Nat.le_refl _, fun _ _ => rfl⟩
        have hty : (tyT (l[k]).ty).length ≤ 140737488355328 := by omega
        refine (xtype_any m0 (K := K) (w := wr.drew) (by have := HB.out.size; have := HC.out; show K.C ≤ wr.heap.size; omega) (ht0.below hdr) hty).mono ?_
        rintro _ _ ⟨rfl, h⟩
        exact ⟨rfl, ⟨h.os, h.tape, h.output, h.size, h.block⟩⟩
      have fd : Below wr.heap.size wr wr.drew := ⟨rfl, rfl, rfl, Nat.le_refl _, fun _ _ => rfl⟩
      obtain ⟨m1, -⟩ := HS.out wr (Below.refl _ _)
      obtain ⟨J, hJ⟩ : ∃ J, J = jn [44, 32] (ps.take k) := ⟨_, rfl⟩
      rw [← hJ] at e1 e2 ⊢
      obtain ⟨R, hR⟩ : ∃ R, R = str (jn [44, 32] (ps.take (k + 1))) := ⟨_, rfl⟩
      have HRk := hid0 hR
      rw [e1] at hR
      clear e1 eP hJ hcell HA HP HL ht0 hkw
      generalize (l[k]).name = nm at *
      generalize tyT (l[k]).ty = TT at *
      cases hmu : (l[k]).mu
      · rw [hmu] at HS m1 hR e2
        have eM : (mutT false).length = 0 := rfl
        by_cases h0 : k = 0
        · have i2 : ¬ (0 : Int) < (k : Int) := by omega
          rw [if_pos h0] at e2 hR
          simp only [List.length_nil] at e2
          have s0 : str (J) ++ str nm = str (J ++ nm) := str_app _ _
          have n0 : ¬ 9223372036854775807 < (str (J)).size + (str nm).size := no_over (by first | omega | (simp; omega))
          have s1 : str (J ++ nm) ++ ⟨#[58, 32]⟩ = str (J ++ nm ++ [58, 32]) := str_app _ [58, 32]
          have n1 : ¬ 9223372036854775807 < (str (J ++ nm)).size + 2 := no_overC (by first | omega | (simp; omega))
          have s9 : str (J ++ nm ++ [58, 32]) ++ str TT = R := by rw [hR, str_app]; congr 1; simp [mutT]
          have n9 : ¬ 9223372036854775807 < (str (J ++ nm ++ [58, 32])).size + (str TT).size := no_over (by first | omega | (simp; omega))
          clear hR e2 h0 eM hmu
          generalize str (J ++ nm ++ [58, 32]) = Y1 at *
          generalize str (J ++ nm) = Y0 at *
          generalize str J = Y at *
          generalize str nm = X at *
          generalize str TT = XT at *
          go_wp2_with fail
          go_region_held3 (fun z => z.cell? ⟨bb, o + k * 6, none⟩ = some (.bool false) ∧ z.cell? ⟨bb, o + k * 6 + 1, none⟩ = some (.string X) ∧ z.cell? ⟨bb, o + k * 6 + 2, none⟩ = some c2 ∧ z.cell? ⟨bb, o + k * 6 + 3, none⟩ = some c3 ∧ z.cell? ⟨bb, o + k * 6 + 4, none⟩ = some c4 ∧ z.cell? ⟨bb, o + k * 6 + 5, none⟩ = some c5) (exact HS.out _ (by assumption)) (first | (go_at_call 12; refine D.out.mono ?_; rintro _ w1 ⟨rfl, q1⟩))
          go_wp2_with fail
          go_roundw
          case rel => exact ⟨k + 1, by omega, by go_num, by rw [HRk.out], HB.out.trans (below_le q1 HB.out.size)⟩
          case measure => simp [intOf]; omega
        · have i2 : (0 : Int) < (k : Int) := by omega
          rw [if_neg h0] at e2 hR
          simp only [List.length_cons, List.length_nil] at e2
          have s0 : str (J) ++ ⟨#[44, 32]⟩ = str (J ++ [44, 32]) := str_app _ [44, 32]
          have n0 : ¬ 9223372036854775807 < (str (J)).size + 2 := no_overC (by first | omega | (simp; omega))
          have s1 : str (J ++ [44, 32]) ++ str nm = str (J ++ [44, 32] ++ nm) := str_app _ _
          have n1 : ¬ 9223372036854775807 < (str (J ++ [44, 32])).size + (str nm).size := no_over (by first | omega | (simp; omega))
          have s2 : str (J ++ [44, 32] ++ nm) ++ ⟨#[58, 32]⟩ = str (J ++ [44, 32] ++ nm ++ [58, 32]) := str_app _ [58, 32]
          have n2 : ¬ 9223372036854775807 < (str (J ++ [44, 32] ++ nm)).size + 2 := no_overC (by first | omega | (simp; omega))
          have s9 : str (J ++ [44, 32] ++ nm ++ [58, 32]) ++ str TT = R := by rw [hR, str_app]; congr 1; simp [mutT]
          have n9 : ¬ 9223372036854775807 < (str (J ++ [44, 32] ++ nm ++ [58, 32])).size + (str TT).size := no_over (by first | omega | (simp; omega))
          clear hR e2 h0 eM hmu
          generalize str (J ++ [44, 32] ++ nm ++ [58, 32]) = Y2 at *
          generalize str (J ++ [44, 32] ++ nm) = Y1 at *
          generalize str (J ++ [44, 32]) = Y0 at *
          generalize str J = Y at *
          generalize str nm = X at *
          generalize str TT = XT at *
          go_wp2_with fail
          go_region_held3 (fun z => z.cell? ⟨bb, o + k * 6, none⟩ = some (.bool false) ∧ z.cell? ⟨bb, o + k * 6 + 1, none⟩ = some (.string X) ∧ z.cell? ⟨bb, o + k * 6 + 2, none⟩ = some c2 ∧ z.cell? ⟨bb, o + k * 6 + 3, none⟩ = some c3 ∧ z.cell? ⟨bb, o + k * 6 + 4, none⟩ = some c4 ∧ z.cell? ⟨bb, o + k * 6 + 5, none⟩ = some c5) (exact HS.out _ (by assumption)) (first | (go_at_call 12; refine D.out.mono ?_; rintro _ w1 ⟨rfl, q1⟩))
          go_wp2_with fail
          go_roundw
          case rel => exact ⟨k + 1, by omega, by go_num, by rw [HRk.out], HB.out.trans (below_le q1 HB.out.size)⟩
          case measure => simp [intOf]; omega
      · rw [hmu] at HS m1 hR e2
        have eM : (mutT true).length = 4 := rfl
        by_cases h0 : k = 0
        · have i2 : ¬ (0 : Int) < (k : Int) := by omega
          rw [if_pos h0] at e2 hR
          simp only [List.length_nil] at e2
          have s0 : str (J) ++ ⟨#[109, 117, 116, 32]⟩ = str (J ++ [109, 117, 116, 32]) := str_app _ [109, 117, 116, 32]
          have n0 : ¬ 9223372036854775807 < (str (J)).size + 4 := no_overC (by first | omega | (simp; omega))
          have s1 : str (J ++ [109, 117, 116, 32]) ++ str nm = str (J ++ [109, 117, 116, 32] ++ nm) := str_app _ _
          have n1 : ¬ 9223372036854775807 < (str (J ++ [109, 117, 116, 32])).size + (str nm).size := no_over (by first | omega | (simp; omega))
          have s2 : str (J ++ [109, 117, 116, 32] ++ nm) ++ ⟨#[58, 32]⟩ = str (J ++ [109, 117, 116, 32] ++ nm ++ [58, 32]) := str_app _ [58, 32]
          have n2 : ¬ 9223372036854775807 < (str (J ++ [109, 117, 116, 32] ++ nm)).size + 2 := no_overC (by first | omega | (simp; omega))
          have s9 : str (J ++ [109, 117, 116, 32] ++ nm ++ [58, 32]) ++ str TT = R := by rw [hR, str_app]; congr 1; simp [mutT]
          have n9 : ¬ 9223372036854775807 < (str (J ++ [109, 117, 116, 32] ++ nm ++ [58, 32])).size + (str TT).size := no_over (by first | omega | (simp; omega))
          clear hR e2 h0 eM hmu
          generalize str (J ++ [109, 117, 116, 32] ++ nm ++ [58, 32]) = Y2 at *
          generalize str (J ++ [109, 117, 116, 32] ++ nm) = Y1 at *
          generalize str (J ++ [109, 117, 116, 32]) = Y0 at *
          generalize str J = Y at *
          generalize str nm = X at *
          generalize str TT = XT at *
          go_wp2_with fail
          go_region_held3 (fun z => z.cell? ⟨bb, o + k * 6, none⟩ = some (.bool true) ∧ z.cell? ⟨bb, o + k * 6 + 1, none⟩ = some (.string X) ∧ z.cell? ⟨bb, o + k * 6 + 2, none⟩ = some c2 ∧ z.cell? ⟨bb, o + k * 6 + 3, none⟩ = some c3 ∧ z.cell? ⟨bb, o + k * 6 + 4, none⟩ = some c4 ∧ z.cell? ⟨bb, o + k * 6 + 5, none⟩ = some c5) (exact HS.out _ (by assumption)) (first | (go_at_call 12; refine D.out.mono ?_; rintro _ w1 ⟨rfl, q1⟩))
          go_wp2_with fail
          go_roundw
          case rel => exact ⟨k + 1, by omega, by go_num, by rw [HRk.out], HB.out.trans (below_le q1 HB.out.size)⟩
          case measure => simp [intOf]; omega
        · have i2 : (0 : Int) < (k : Int) := by omega
          rw [if_neg h0] at e2 hR
          simp only [List.length_cons, List.length_nil] at e2
          have s0 : str (J) ++ ⟨#[44, 32]⟩ = str (J ++ [44, 32]) := str_app _ [44, 32]
          have n0 : ¬ 9223372036854775807 < (str (J)).size + 2 := no_overC (by first | omega | (simp; omega))
          have s1 : str (J ++ [44, 32]) ++ ⟨#[109, 117, 116, 32]⟩ = str (J ++ [44, 32] ++ [109, 117, 116, 32]) := str_app _ [109, 117, 116, 32]
          have n1 : ¬ 9223372036854775807 < (str (J ++ [44, 32])).size + 4 := no_overC (by first | omega | (simp; omega))
          have s2 : str (J ++ [44, 32] ++ [109, 117, 116, 32]) ++ str nm = str (J ++ [44, 32] ++ [109, 117, 116, 32] ++ nm) := str_app _ _
          have n2 : ¬ 9223372036854775807 < (str (J ++ [44, 32] ++ [109, 117, 116, 32])).size + (str nm).size := no_over (by first | omega | (simp; omega))
          have s3 : str (J ++ [44, 32] ++ [109, 117, 116, 32] ++ nm) ++ ⟨#[58, 32]⟩ = str (J ++ [44, 32] ++ [109, 117, 116, 32] ++ nm ++ [58, 32]) := str_app _ [58, 32]
          have n3 : ¬ 9223372036854775807 < (str (J ++ [44, 32] ++ [109, 117, 116, 32] ++ nm)).size + 2 := no_overC (by first | omega | (simp; omega))
          have s9 : str (J ++ [44, 32] ++ [109, 117, 116, 32] ++ nm ++ [58, 32]) ++ str TT = R := by rw [hR, str_app]; congr 1; simp [mutT]
          have n9 : ¬ 9223372036854775807 < (str (J ++ [44, 32] ++ [109, 117, 116, 32] ++ nm ++ [58, 32])).size + (str TT).size := no_over (by first | omega | (simp; omega))
          clear hR e2 h0 eM hmu
          generalize str (J ++ [44, 32] ++ [109, 117, 116, 32] ++ nm ++ [58, 32]) = Y3 at *
          generalize str (J ++ [44, 32] ++ [109, 117, 116, 32] ++ nm) = Y2 at *
          generalize str (J ++ [44, 32] ++ [109, 117, 116, 32]) = Y1 at *
          generalize str (J ++ [44, 32]) = Y0 at *
          generalize str J = Y at *
          generalize str nm = X at *
          generalize str TT = XT at *
          go_wp2_with fail
          go_region_held3 (fun z => z.cell? ⟨bb, o + k * 6, none⟩ = some (.bool true) ∧ z.cell? ⟨bb, o + k * 6 + 1, none⟩ = some (.string X) ∧ z.cell? ⟨bb, o + k * 6 + 2, none⟩ = some c2 ∧ z.cell? ⟨bb, o + k * 6 + 3, none⟩ = some c3 ∧ z.cell? ⟨bb, o + k * 6 + 4, none⟩ = some c4 ∧ z.cell? ⟨bb, o + k * 6 + 5, none⟩ = some c5) (exact HS.out _ (by assumption)) (first | (go_at_call 12; refine D.out.mono ?_; rintro _ w1 ⟨rfl, q1⟩))
          go_wp2_with fail
          go_roundw
          case rel => exact ⟨k + 1, by omega, by go_num, by rw [HRk.out], HB.out.trans (below_le q1 HB.out.size)⟩
          case measure => simp [intOf]; omega
    · have i1 : ¬ (k : Int) < (l.length : Int) := by omega
      have hq := HQ.out
      rw [List.take_of_length_le (by omega)]
      clear HA HP HL HQ hq
      obtain ⟨R, hR⟩ : ∃ R, R = str (jn [44, 32] ps) := ⟨_, rfl⟩
      rw [← hR]
      have HF := hid0 hR
      clear hR
      go_wp2_with fail
      go_ret
      exact ⟨by rw [← HF.out]; rfl, HB.out⟩
end Go.Proofs.YtlbhaaldndjigaaGreatDoor
