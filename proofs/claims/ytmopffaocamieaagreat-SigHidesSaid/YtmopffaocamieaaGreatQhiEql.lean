/-
  Rows of texts: are two the same? The library's slices.Equal, the document's Texts.
-/
import Derived.Test.YtmopffaocamieaaGreatQhiDat
import Derived.Test.YtmopffaocamieaaGreatJhiWor3
namespace Go.Proofs.YtmopffaocamieaaGreat
open Go.RowKit

theorem get_of {α : Type} {l : List α} {i : Nat} (h : i < l.length) : l[i]? = some l[i] := List.getElem?_eq_getElem h
theorem eq_upto {α : Type} {a b : List α} (h : a.length = b.length) (he : ∀ j (ha : j < a.length) (hb : j < b.length), a[j] = b[j]) : a = b := List.ext_getElem h he
theorem not_at {α : Type} {a b : List α} {k : Nat} (ha : k < a.length) (hb : k < b.length) (h : a[k] ≠ b[k]) : a ≠ b := by rintro rfl; exact h rfl

set_option maxHeartbeats 4000000 in
theorem equal_any {K : Ctx} {w : World} {va vb : Value} {la lb : List Bs} (ha : Strs K w va la) (hb : Strs K w vb lb) (B : Bool) (hB : B = true ↔ la = lb) :
    Calls Tryz.prog 204 #[va, vb] w fun ev w' => ev = .returned (.bool B) ∧ ∃ m, w' = w.drewN m := by
  obtain ⟨aoA, capA, rfl, hcA, hbA, hA⟩ := ha.shape
  obtain ⟨aoB, capB, rfl, hcB, hbB, hBB⟩ := hb.shape
  have hl9 : la.length ≤ 9223372036854775807 := by omega
  by_cases hlen : la.length = lb.length
  · have b1 : ((la.length : Int) != (lb.length : Int)) = false := by simp; omega
    have HA : Hid (∀ i (h : i < la.length), ∃ b o, aoA = some ⟨b, o, none⟩ ∧ w.cell? ⟨b, o + i, none⟩ = some (.string (str la[i]))) := by
      intro i h
      obtain ⟨b, o, e, _, cs, hl, hc, hx⟩ := hA i h
      have := hc 0 (by omega)
      rw [hx.1] at this
      exact ⟨b, o, e, by simpa using this⟩
    have HBB : Hid (∀ i (h : i < lb.length), ∃ b o, aoB = some ⟨b, o, none⟩ ∧ w.cell? ⟨b, o + i, none⟩ = some (.string (str lb[i]))) := by
      intro i h
      obtain ⟨b, o, e, _, cs, hl, hc, hx⟩ := hBB i h
      have := hc 0 (by omega)
      rw [hx.1] at this
      exact ⟨b, o, e, by simpa using this⟩
    have HB : Hid (B = true ↔ la = lb) := hB
    have HL : Hid (la.length = lb.length) := hlen
    clear hA hBB hB ha hb hbA hbB hlen
    go_enter Tryz.func204, Tryz.ntmps204
    go_wp2_with fail
    go_loopw [13] (fun i wr => ∃ k : Nat, k ≤ la.length ∧ i = .int .i64 k ∧ (∀ j (ha : j < la.length) (hb : j < lb.length), j < k → la[j] = lb[j]) ∧ ∃ m, wr = w.drewN m) (fun i _ => la.length - (intOf i).toNat)
    case atStart => exact ⟨0, by omega, rfl, fun j _ _ h => by omega, 0, rfl⟩
    case round =>
      obtain ⟨k, hk, rfl, hj, m, rfl⟩ := hrel
      have HJ : Hid (∀ j (ha : j < la.length) (hb : j < lb.length), j < k → la[j] = lb[j]) := hj
      clear hj
      by_cases h3 : k < la.length
      · have h4 : k < lb.length := by rw [← HL.out]; exact h3
        obtain ⟨b, o, e, c1⟩ := HA.out k h3
        obtain ⟨b', o', e', c2⟩ := HBB.out k h4
        subst e e'
        have q := str_beq la[k] lb[k]
        have i1 : (k : Int) < (la.length : Int) := by omega
        have i2 : (k : Int) < (lb.length : Int) := by omega
        by_cases he : la[k] = lb[k]
        · rw [decide_eq_true he] at q
          have q' : ((str la[k]).toList != (str lb[k]).toList) = false := by rw [bne, q]; rfl
          have HJ' : Hid (∀ j (ha : j < la.length) (hb : j < lb.length), j < k + 1 → la[j] = lb[j]) := by
            intro j ha hb hjk
            rcases Nat.lt_or_ge j k with h | h
            · exact HJ.out j ha hb h
            · obtain rfl : j = k := by omega
              exact he
          clear he
          generalize str la[k] = SA at *
          generalize str lb[k] = SB at *
          go_wp2_with fail
          go_quiet (fail)
          go_wp2_with fail
          go_roundw
          case rel => exact ⟨k + 1, by omega, by go_num, HJ'.out, _, rfl⟩
          case measure => simp [intOf]; omega
        · rw [decide_eq_false he] at q
          have q' : ((str la[k]).toList != (str lb[k]).toList) = true := by rw [bne, q]; rfl
          have HF : Hid (B = false) := by
            show B = false
            cases hB : B
            · rfl
            · exact absurd (HB.out.1 hB) (not_at h3 h4 he)
          clear he
          generalize str la[k] = SA at *
          generalize str lb[k] = SB at *
          go_wp2_with fail
          go_quiet (fail)
          go_wp2_with fail
          go_ret
          exact ⟨by rw [HF.out]; rfl, _, by first | rfl | exact World.drewN_drewN ..⟩
      · have HF : Hid (B = true) := HB.out.2 (eq_upto HL.out fun j ha hb => HJ.out j ha hb (by omega))
        have i1 : ¬ (k : Int) < (la.length : Int) := by omega
        go_wp2_with fail
        go_ret
        exact ⟨by rw [HF.out]; rfl, _, by first | rfl | exact World.drewN_drewN ..⟩
  · have b1 : ((la.length : Int) != (lb.length : Int)) = true := by simp; omega
    have HF : Hid (B = false) := by
      show B = false
      cases hB' : B
      · rfl
      · exact absurd (congrArg List.length (hB.1 hB')) hlen
    clear hA hBB hB ha hb hbA hbB
    go_enter Tryz.func204, Tryz.ntmps204
    go_wp2_with fail
    go_ret
    exact ⟨by rw [HF.out]; rfl, 0, rfl⟩

set_option maxHeartbeats 4000000 in
theorem texts_any {K : Ctx} {w : World} {va vb : Value} {la lb : List Bs} (ha : Strs K w va la) (hb : Strs K w vb lb) (B : Bool) (hB : B = true ↔ la = lb) :
    Calls Tryz.prog 110 #[va, vb] w fun ev w' => ev = .returned (.bool B) ∧ ∃ m, w' = w.drewN m := by
  obtain ⟨aoA, capA, rfl, hcA, hbA, hA⟩ := ha.shape
  obtain ⟨aoB, capB, rfl, hcB, hbB, hBB⟩ := hb.shape
  have hl9 : la.length ≤ 9223372036854775807 := by omega
  by_cases hlen : la.length = lb.length
  · have b1 : ((la.length : Int) != (lb.length : Int)) = false := by simp; omega
    have HA : Hid (∀ i (h : i < la.length), ∃ b o, aoA = some ⟨b, o, none⟩ ∧ w.cell? ⟨b, o + i, none⟩ = some (.string (str la[i]))) := by
      intro i h
      obtain ⟨b, o, e, _, cs, hl, hc, hx⟩ := hA i h
      have := hc 0 (by omega)
      rw [hx.1] at this
      exact ⟨b, o, e, by simpa using this⟩
    have HBB : Hid (∀ i (h : i < lb.length), ∃ b o, aoB = some ⟨b, o, none⟩ ∧ w.cell? ⟨b, o + i, none⟩ = some (.string (str lb[i]))) := by
      intro i h
      obtain ⟨b, o, e, _, cs, hl, hc, hx⟩ := hBB i h
      have := hc 0 (by omega)
      rw [hx.1] at this
      exact ⟨b, o, e, by simpa using this⟩
    have HB : Hid (B = true ↔ la = lb) := hB
    have HL : Hid (la.length = lb.length) := hlen
    clear hA hBB hB ha hb hbA hbB hlen
    go_enter Tryz.func110, Tryz.ntmps110
    go_wp2_with fail
    go_loopw [5] (fun i wr => ∃ k : Nat, k ≤ la.length ∧ i = .int .i64 k ∧ (∀ j (ha : j < la.length) (hb : j < lb.length), j < k → la[j] = lb[j]) ∧ ∃ m, wr = w.drewN m) (fun i _ => la.length - (intOf i).toNat)
    case atStart => exact ⟨0, by omega, rfl, fun j _ _ h => by omega, 0, rfl⟩
    case round =>
      obtain ⟨k, hk, rfl, hj, m, rfl⟩ := hrel
      have HJ : Hid (∀ j (ha : j < la.length) (hb : j < lb.length), j < k → la[j] = lb[j]) := hj
      clear hj
      by_cases h3 : k < la.length
      · have h4 : k < lb.length := by rw [← HL.out]; exact h3
        obtain ⟨b, o, e, c1⟩ := HA.out k h3
        obtain ⟨b', o', e', c2⟩ := HBB.out k h4
        subst e e'
        have q := str_beq la[k] lb[k]
        have i1 : (k : Int) < (la.length : Int) := by omega
        have i2 : (k : Int) < (lb.length : Int) := by omega
        by_cases he : la[k] = lb[k]
        · rw [decide_eq_true he] at q
          have q' : ((str la[k]).toList != (str lb[k]).toList) = false := by rw [bne, q]; rfl
          have HJ' : Hid (∀ j (ha : j < la.length) (hb : j < lb.length), j < k + 1 → la[j] = lb[j]) := by
            intro j ha hb hjk
            rcases Nat.lt_or_ge j k with h | h
            · exact HJ.out j ha hb h
            · obtain rfl : j = k := by omega
              exact he
          clear he
          generalize str la[k] = SA at *
          generalize str lb[k] = SB at *
          go_wp2_with fail
          go_quiet (fail)
          go_wp2_with fail
          go_roundw
          case rel => exact ⟨k + 1, by omega, by go_num, HJ'.out, _, rfl⟩
          case measure => simp [intOf]; omega
        · rw [decide_eq_false he] at q
          have q' : ((str la[k]).toList != (str lb[k]).toList) = true := by rw [bne, q]; rfl
          have HF : Hid (B = false) := by
            show B = false
            cases hB : B
            · rfl
            · exact absurd (HB.out.1 hB) (not_at h3 h4 he)
          clear he
          generalize str la[k] = SA at *
          generalize str lb[k] = SB at *
          go_wp2_with fail
          go_quiet (fail)
          go_wp2_with fail
          go_ret
          exact ⟨by rw [HF.out]; rfl, _, by first | rfl | exact World.drewN_drewN ..⟩
      · have HF : Hid (B = true) := HB.out.2 (eq_upto HL.out fun j ha hb => HJ.out j ha hb (by omega))
        have i1 : ¬ (k : Int) < (la.length : Int) := by omega
        go_wp2_with fail
        go_ret
        exact ⟨by rw [HF.out]; rfl, _, by first | rfl | exact World.drewN_drewN ..⟩
  · have b1 : ((la.length : Int) != (lb.length : Int)) = true := by simp; omega
    have HF : Hid (B = false) := by
      show B = false
      cases hB' : B
      · rfl
      · exact absurd (congrArg List.length (hB.1 hB')) hlen
    clear hA hBB hB ha hb hbA hbB
    go_enter Tryz.func110, Tryz.ntmps110
    go_wp2_with fail
    go_ret
    exact ⟨by rw [HF.out]; rfl, 0, rfl⟩
end Go.Proofs.YtmopffaocamieaaGreat
