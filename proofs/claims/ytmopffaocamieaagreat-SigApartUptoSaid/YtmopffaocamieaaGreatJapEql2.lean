/-
  The texts Eql, Sls, joined.
-/
import Derived.Test.YtmopffaocamieaaGreatJapDat3
import Derived.Test.YtmopffaocamieaaGreatJapWor3
namespace Go.Proofs.YtmopffaocamieaaGreat
open Go.RowKit

theorem get_of {α : Type} {l : List α} {i : Nat} (h : i < l.length) : l[i]? = some l[i] := List.getElem?_eq_getElem h
theorem eq_upto {α : Type} {a b : List α} (h : a.length = b.length) (he : ∀ j (ha : j < a.length) (hb : j < b.length), a[j] = b[j]) : a = b := List.ext_getElem h he
theorem not_at {α : Type} {a b : List α} {k : Nat} (ha : k < a.length) (hb : k < b.length) (h : a[k] ≠ b[k]) : a ≠ b := by rintro rfl; exact h rfl

set_option maxHeartbeats 4000000 in
theorem equal_any {K : Ctx} {w : World} {va vb : Value} {la lb : List Bs} (ha : Strs K w va la) (hb : Strs K w vb lb) (B : Bool) (hB : B = true ↔ la = lb) :
    Calls Tryz.prog 204 #[va, vb] w fun ev w' => ev = .returned (.bool B) ∧ ∃ m, w' = w.drewN m := by
  obtain ⟨aoA, capA, rfl, hcA, hbA, hA⟩ := ha.shape
  obtain ⟨aoB, capB, rfl, hcB, hbB, hBB⟩ := hb.shape
  have hl9 : la.length ≤ 9223372036854775807 := by omega
  by_cases hlen : la.length = lb.length
  · have b1 : ((la.length : Int) != (lb.length : Int)) = false := by simp; omega
    have HA : Hid (∀ i (h : i < la.length), ∃ b o, aoA = some ⟨b, o, none⟩ ∧ w.cell? ⟨b, o + i, none⟩ = some (.string (str la[i]))) := by
      intro i h
      obtain ⟨b, o, e, _, cs, hl, hc, hx⟩ := hA i h
      have := hc 0 (by omega)
      rw [hx.1] at this
      exact ⟨b, o, e, by simpa using this⟩
    have HBB : Hid (∀ i (h : i < lb.length), ∃ b o, aoB = some ⟨b, o, none⟩ ∧ w.cell? ⟨b, o + i, none⟩ = some (.string (str lb[i]))) := by
      intro i h
      obtain ⟨b, o, e, _, cs, hl, hc, hx⟩ := hBB i h
      have := hc 0 (by omega)
      rw [hx.1] at this
      exact ⟨b, o, e, by simpa using this⟩
    have HB : Hid (B = true ↔ la = lb) := hB
    have HL : Hid (la.length = lb.length) := hlen
    clear hA hBB hB ha hb hbA hbB hlen
    go_enter Tryz.func204, Tryz.ntmps204
    go_wp2_with fail
    go_loopw [13] (fun i wr => ∃ k : Nat, k ≤ la.length ∧ i = .int .i64 k ∧ (∀ j (ha : j < la.length) (hb : j < lb.length), j < k → la[j] = lb[j]) ∧ ∃ m, wr = w.drewN m) (fun i _ => la.length - (intOf i).toNat)
    case atStart => exact ⟨0, by omega, rfl, fun j _ _ h => by omega, 0, rfl⟩
    case round =>
      obtain ⟨k, hk, rfl, hj, m, rfl⟩ := hrel
      have HJ : Hid (∀ j (ha : j < la.length) (hb : j < lb.length), j < k → la[j] = lb[j]) := hj
      clear hj
      by_cases h3 : k < la.length
      · have h4 : k < lb.length := by rw [← HL.out]; exact h3
        obtain ⟨b, o, e, c1⟩ := HA.out k h3
        obtain ⟨b', o', e', c2⟩ := HBB.out k h4
        subst e e'
        have q := str_beq la[k] lb[k]
        have i1 : (k : Int) < (la.length : Int) := by omega
        have i2 : (k : Int) < (lb.length : Int) := by omega
        by_cases he : la[k] = lb[k]
        · rw [decide_eq_true he] at q
          have q' : ((str la[k]).toList != (str lb[k]).toList) = false := by rw [bne, q]; rfl
          have HJ' : Hid (∀ j (ha : j < la.length) (hb : j < lb.length), j < k + 1 → la[j] = lb[j]) := by
            intro j ha hb hjk
            rcases Nat.lt_or_ge j k with h | h
            · exact HJ.out j ha hb h
            · obtain rfl : j = k := by omega
              exact he
          clear he
          generalize str la[k] = SA at *
          generalize str lb[k] = SB at *
          go_wp2_with fail
          go_quiet (fail)
          go_wp2_with fail
          go_roundw
          case rel => exact ⟨k + 1, by omega, by go_num, HJ'.out, _, rfl⟩
          case measure => simp [intOf]; omega
        · rw [decide_eq_false he] at q
          have q' : ((str la[k]).toList != (str lb[k]).toList) = true := by rw [bne, q]; rfl
          have HF : Hid (B = false) := by
            show B = false
            cases hB : B
            · rfl
            · exact absurd (HB.out.1 hB) (not_at h3 h4 he)
          clear he
          generalize str la[k] = SA at *
          generalize str lb[k] = SB at *
          go_wp2_with fail
          go_quiet (fail)
          go_wp2_with fail
          go_ret
          exact ⟨by rw [HF.out]; rfl, _, by first | rfl | exact World.drewN_drewN ..⟩
      · have HF : Hid (B = true) := HB.out.2 (eq_upto HL.out fun j ha hb => HJ.out j ha hb (by omega))
        have i1 : ¬ (k : Int) < (la.length : Int) := by omega
        go_wp2_with fail
        go_ret
        exact ⟨by rw [HF.out]; rfl, _, by first | rfl | exact World.drewN_drewN ..⟩
  · have b1 : ((la.length : Int) != (lb.length : Int)) = true := by simp; omega
    have HF : Hid (B = false) := by
      show B = false
      cases hB' : B
      · rfl
      · exact absurd (congrArg List.length (hB.1 hB')) hlen
    clear hA hBB hB ha hb hbA hbB
    go_enter Tryz.func204, Tryz.ntmps204
    go_wp2_with fail
    go_ret
    exact ⟨by rw [HF.out]; rfl, 0, rfl⟩

set_option maxHeartbeats 4000000 in
theorem texts_any {K : Ctx} {w : World} {va vb : Value} {la lb : List Bs} (ha : Strs K w va la) (hb : Strs K w vb lb) (B : Bool) (hB : B = true ↔ la = lb) :
    Calls Tryz.prog 110 #[va, vb] w fun ev w' => ev = .returned (.bool B) ∧ ∃ m, w' = w.drewN m := by
  obtain ⟨aoA, capA, rfl, hcA, hbA, hA⟩ := ha.shape
  obtain ⟨aoB, capB, rfl, hcB, hbB, hBB⟩ := hb.shape
  have hl9 : la.length ≤ 9223372036854775807 := by omega
  by_cases hlen : la.length = lb.length
  · have b1 : ((la.length : Int) != (lb.length : Int)) = false := by simp; omega
    have HA : Hid (∀ i (h : i < la.length), ∃ b o, aoA = some ⟨b, o, none⟩ ∧ w.cell? ⟨b, o + i, none⟩ = some (.string (str la[i]))) := by
      intro i h
      obtain ⟨b, o, e, _, cs, hl, hc, hx⟩ := hA i h
      have := hc 0 (by omega)
      rw [hx.1] at this
      exact ⟨b, o, e, by simpa using this⟩
    have HBB : Hid (∀ i (h : i < lb.length), ∃ b o, aoB = some ⟨b, o, none⟩ ∧ w.cell? ⟨b, o + i, none⟩ = some (.string (str lb[i]))) := by
      intro i h
      obtain ⟨b, o, e, _, cs, hl, hc, hx⟩ := hBB i h
      have := hc 0 (by omega)
      rw [hx.1] at this
      exact ⟨b, o, e, by simpa using this⟩
    have HB : Hid (B = true ↔ la = lb) := hB
    have HL : Hid (la.length = lb.length) := hlen
    clear hA hBB hB ha hb hbA hbB hlen
    go_enter Tryz.func110, Tryz.ntmps110
    go_wp2_with fail
    go_loopw [5] (fun i wr => ∃ k : Nat, k ≤ la.length ∧ i = .int .i64 k ∧ (∀ j (ha : j < la.length) (hb : j < lb.length), j < k → la[j] = lb[j]) ∧ ∃ m, wr = w.drewN m) (fun i _ => la.length - (intOf i).toNat)
    case atStart => exact ⟨0, by omega, rfl, fun j _ _ h => by omega, 0, rfl⟩
    case round =>
      obtain ⟨k, hk, rfl, hj, m, rfl⟩ := hrel
      have HJ : Hid (∀ j (ha : j < la.length) (hb : j < lb.length), j < k → la[j] = lb[j]) := hj
      clear hj
      by_cases h3 : k < la.length
      · have h4 : k < lb.length := by rw [← HL.out]; exact h3
        obtain ⟨b, o, e, c1⟩ := HA.out k h3
        obtain ⟨b', o', e', c2⟩ := HBB.out k h4
        subst e e'
        have q := str_beq la[k] lb[k]
        have i1 : (k : Int) < (la.length : Int) := by omega
        have i2 : (k : Int) < (lb.length : Int) := by omega
        by_cases he : la[k] = lb[k]
        · rw [decide_eq_true he] at q
          have q' : ((str la[k]).toList != (str lb[k]).toList) = false := by rw [bne, q]; rfl
          have HJ' : Hid (∀ j (ha : j < la.length) (hb : j < lb.length), j < k + 1 → la[j] = lb[j]) := by
            intro j ha hb hjk
            rcases Nat.lt_or_ge j k with h | h
            · exact HJ.out j ha hb h
            · obtain rfl : j = k := by omega
              exact he
          clear he
          generalize str la[k] = SA at *
          generalize str lb[k] = SB at *
          go_wp2_with fail
          go_quiet (fail)
          go_wp2_with fail
          go_roundw
          case rel => exact ⟨k + 1, by omega, by go_num, HJ'.out, _, rfl⟩
          case measure => simp [intOf]; omega
        · rw [decide_eq_false he] at q
          have q' : ((str la[k]).toList != (str lb[k]).toList) = true := by rw [bne, q]; rfl
          have HF : Hid (B = false) := by
            show B = false
            cases hB : B
            · rfl
            · exact absurd (HB.out.1 hB) (not_at h3 h4 he)
          clear he
          generalize str la[k] = SA at *
          generalize str lb[k] = SB at *
          go_wp2_with fail
          go_quiet (fail)
          go_wp2_with fail
          go_ret
          exact ⟨by rw [HF.out]; rfl, _, by first | rfl | exact World.drewN_drewN ..⟩
      · have HF : Hid (B = true) := HB.out.2 (eq_upto HL.out fun j ha hb => HJ.out j ha hb (by omega))
        have i1 : ¬ (k : Int) < (la.length : Int) := by omega
        go_wp2_with fail
        go_ret
        exact ⟨by rw [HF.out]; rfl, _, by first | rfl | exact World.drewN_drewN ..⟩
  · have b1 : ((la.length : Int) != (lb.length : Int)) = true := by simp; omega
    have HF : Hid (B = false) := by
      show B = false
      cases hB' : B
      · rfl
      · exact absurd (congrArg List.length (hB.1 hB')) hlen
    clear hA hBB hB ha hb hbA hbB
    go_enter Tryz.func110, Tryz.ntmps110
    go_wp2_with fail
    go_ret
    exact ⟨by rw [HF.out]; rfl, 0, rfl⟩
end Go.Proofs.YtmopffaocamieaaGreat

namespace Go.Proofs.YtmopffaocamieaaGreat
open Go.RowKit

set_option maxHeartbeats 4000000 in
theorem sameTypes_of {K : Ctx} {w : World} {n : Nat}
    (ih : ∀ (x y : Ty) (b o b' o' : Nat) (cs cs' : List Value) (m : Nat) (B : Bool), (∀ j, j < 4 → w.cell? ⟨b, o + j, none⟩ = cs[j]?) → (∀ j, j < 4 → w.cell? ⟨b', o' + j, none⟩ = cs'[j]?) → TyAt n K w cs x → TyAt n K w cs' y → (B = true ↔ x = y) →
      Calls Tryz.prog 188 #[.pointer (some ⟨b, o, none⟩), .pointer (some ⟨b', o', none⟩)] (w.drewN m) fun ev w' => ev = .returned (.bool B) ∧ ∃ m', w' = (w.drewN m).drewN m')
    {va vb : Value} {la lb : List Ty} (ha : Ar 4 72 (TyAt n K w) K w va la) (hb : Ar 4 72 (TyAt n K w) K w vb lb) (B : Bool) (hB : B = true ↔ la = lb) :
    Calls Tryz.prog 205 #[va, vb, .func (.func 188) #[] #[]] w fun ev w' => ev = .returned (.bool B) ∧ ∃ m, w' = w.drewN m := by
  obtain ⟨aoA, capA, rfl, hcA, hbA, hA⟩ := ha.shape
  obtain ⟨aoB, capB, rfl, hcB, hbB, hBB⟩ := hb.shape
  have hl9 : la.length ≤ 9223372036854775807 := by omega
  by_cases hlen : la.length = lb.length
  · have b1 : ((la.length : Int) != (lb.length : Int)) = false := by simp; omega
    have HC : Hid (∀ i (h : i < la.length) (h' : i < lb.length), ∃ b o b' o', aoA = some ⟨b, o, none⟩ ∧ aoB = some ⟨b', o', none⟩ ∧ ∀ (m : Nat) (B : Bool), (B = true ↔ la[i] = lb[i]) →
        Calls Tryz.prog 188 #[.pointer (some ⟨b, o + i * 4, none⟩), .pointer (some ⟨b', o' + i * 4, none⟩)] (w.drewN m) fun ev w' => ev = .returned (.bool B) ∧ ∃ m', w' = (w.drewN m).drewN m') := by
      intro i h h'
      obtain ⟨b, o, e, _, cs, hl, hc, hx⟩ := hA i h
      obtain ⟨b', o', e', _, cs', hl', hc', hx'⟩ := hBB i h'
      exact ⟨b, o, b', o', e, e', fun m B hB => ih _ _ _ _ _ _ cs cs' m B hc hc' hx hx' hB⟩
    have HB : Hid (B = true ↔ la = lb) := hB
    have HL : Hid (la.length = lb.length) := hlen
    clear hA hBB hB ha hb hbA hbB hlen ih
    go_enter Tryz.func205, Tryz.ntmps205
    go_wp2_with fail
    go_loopw [15] (fun i wr => ∃ k : Nat, k ≤ la.length ∧ i = .int .i64 k ∧ (∀ j (ha : j < la.length) (hb : j < lb.length), j < k → la[j] = lb[j]) ∧ ∃ m, wr = w.drewN m) (fun i _ => la.length - (intOf i).toNat)
    case atStart => exact ⟨0, by omega, rfl, fun j _ _ h => by omega, 0, rfl⟩
    case round =>
      obtain ⟨k, hk, rfl, hj, m, hx⟩ := hrel
      have HX : Hid (wr = w.drewN m) := hx
      clear hx
      have HJ : Hid (∀ j (ha : j < la.length) (hb : j < lb.length), j < k → la[j] = lb[j]) := hj
      clear hj
      by_cases h3 : k < la.length
      · have h4 : k < lb.length := by rw [← HL.out]; exact h3
        obtain ⟨b, o, b', o', e, e', hcall⟩ := HC.out k h3 h4
        subst e e'
        have i1 : (k : Int) < (la.length : Int) := by omega
        have i2 : (k : Int) < (lb.length : Int) := by omega
        by_cases he : la[k] = lb[k]
        · have HJ' : Hid (∀ j (ha : j < la.length) (hb : j < lb.length), j < k + 1 → la[j] = lb[j]) := by
            intro j ha hb hjk
            rcases Nat.lt_or_ge j k with h | h
            · exact HJ.out j ha hb h
            · obtain rfl : j = k := by omega
              exact he
          have hc : Hid (∀ n, Calls Tryz.prog 188 #[.pointer (some ⟨b, o + k * 4, none⟩), .pointer (some ⟨b', o' + k * 4, none⟩)] (wr.drewN n) fun ev w' => ev = .returned (.bool true) ∧ ∃ m', w' = (wr.drewN n).drewN m') := fun n => by
            rw [HX.out, World.drewN_drewN]; exact hcall (m + n) true ⟨fun _ => he, fun _ => rfl⟩
          clear he hcall HC
          go_wp2_with fail
          go_quiet (exact Calls.quiet_of (hc.out _))
          go_wp2_with fail
          go_roundw
          case rel => exact ⟨k + 1, by omega, by go_num, HJ'.out, _, by rw [HX.out, World.drewN_drewN]⟩
          case measure => simp [intOf]; omega
        · have HF : Hid (B = false) := by
            show B = false
            cases hB : B
            · rfl
            · exact absurd (HB.out.1 hB) (not_at h3 h4 he)
          have hc : Hid (∀ n, Calls Tryz.prog 188 #[.pointer (some ⟨b, o + k * 4, none⟩), .pointer (some ⟨b', o' + k * 4, none⟩)] (wr.drewN n) fun ev w' => ev = .returned (.bool false) ∧ ∃ m', w' = (wr.drewN n).drewN m') := fun n => by
            rw [HX.out, World.drewN_drewN]; exact hcall (m + n) false ⟨fun h => (by cases h), fun h => absurd h he⟩
          clear he hcall HC
          go_wp2_with fail
          go_quiet (exact Calls.quiet_of (hc.out _))
          go_wp2_with fail
          go_ret
          exact ⟨by rw [HF.out]; rfl, by first | exact ⟨m, HX.out⟩ | exact ⟨_, by rw [HX.out, World.drewN_drewN]⟩⟩
      · have HF : Hid (B = true) := HB.out.2 (eq_upto HL.out fun j ha hb => HJ.out j ha hb (by omega))
        have i1 : ¬ (k : Int) < (la.length : Int) := by omega
        go_wp2_with fail
        go_ret
        exact ⟨by rw [HF.out]; rfl, by first | exact ⟨m, HX.out⟩ | exact ⟨_, by rw [HX.out, World.drewN_drewN]⟩⟩
  · have b1 : ((la.length : Int) != (lb.length : Int)) = true := by simp; omega
    have HF : Hid (B = false) := by
      show B = false
      cases hB' : B
      · rfl
      · exact absurd (congrArg List.length (hB.1 hB')) hlen
    clear hA hBB hB ha hb hbA hbB ih
    go_enter Tryz.func205, Tryz.ntmps205
    go_wp2_with fail
    go_ret
    exact ⟨by rw [HF.out]; rfl, 0, rfl⟩

set_option maxHeartbeats 4000000 in
theorem sameOpers_of {K : Ctx} {w : World} 
    (ih : ∀ (x y : Opr) (b o b' o' : Nat) (cs cs' : List Value) (m : Nat) (B : Bool), (∀ j, j < 4 → w.cell? ⟨b, o + j, none⟩ = cs[j]?) → (∀ j, j < 4 → w.cell? ⟨b', o' + j, none⟩ = cs'[j]?) → OprAt K w cs x → OprAt K w cs' y → (B = true ↔ x = y) →
      Calls Tryz.prog 212 #[.pointer (some ⟨b, o, none⟩), .pointer (some ⟨b', o', none⟩)] (w.drewN m) fun ev w' => ev = .returned (.bool B) ∧ ∃ m', w' = (w.drewN m).drewN m')
    {va vb : Value} {la lb : List Opr} (ha : Ar 4 56 (OprAt K w) K w va la) (hb : Ar 4 56 (OprAt K w) K w vb lb) (B : Bool) (hB : B = true ↔ la = lb) :
    Calls Tryz.prog 216 #[va, vb, .func (.func 212) #[] #[]] w fun ev w' => ev = .returned (.bool B) ∧ ∃ m, w' = w.drewN m := by
  obtain ⟨aoA, capA, rfl, hcA, hbA, hA⟩ := ha.shape
  obtain ⟨aoB, capB, rfl, hcB, hbB, hBB⟩ := hb.shape
  have hl9 : la.length ≤ 9223372036854775807 := by omega
  by_cases hlen : la.length = lb.length
  · have b1 : ((la.length : Int) != (lb.length : Int)) = false := by simp; omega
    have HC : Hid (∀ i (h : i < la.length) (h' : i < lb.length), ∃ b o b' o', aoA = some ⟨b, o, none⟩ ∧ aoB = some ⟨b', o', none⟩ ∧ ∀ (m : Nat) (B : Bool), (B = true ↔ la[i] = lb[i]) →
        Calls Tryz.prog 212 #[.pointer (some ⟨b, o + i * 4, none⟩), .pointer (some ⟨b', o' + i * 4, none⟩)] (w.drewN m) fun ev w' => ev = .returned (.bool B) ∧ ∃ m', w' = (w.drewN m).drewN m') := by
      intro i h h'
      obtain ⟨b, o, e, _, cs, hl, hc, hx⟩ := hA i h
      obtain ⟨b', o', e', _, cs', hl', hc', hx'⟩ := hBB i h'
      exact ⟨b, o, b', o', e, e', fun m B hB => ih _ _ _ _ _ _ cs cs' m B hc hc' hx hx' hB⟩
    have HB : Hid (B = true ↔ la = lb) := hB
    have HL : Hid (la.length = lb.length) := hlen
    clear hA hBB hB ha hb hbA hbB hlen ih
    go_enter Tryz.func216, Tryz.ntmps216
    go_wp2_with fail
    go_loopw [15] (fun i wr => ∃ k : Nat, k ≤ la.length ∧ i = .int .i64 k ∧ (∀ j (ha : j < la.length) (hb : j < lb.length), j < k → la[j] = lb[j]) ∧ ∃ m, wr = w.drewN m) (fun i _ => la.length - (intOf i).toNat)
    case atStart => exact ⟨0, by omega, rfl, fun j _ _ h => by omega, 0, rfl⟩
    case round =>
      obtain ⟨k, hk, rfl, hj, m, hx⟩ := hrel
      have HX : Hid (wr = w.drewN m) := hx
      clear hx
      have HJ : Hid (∀ j (ha : j < la.length) (hb : j < lb.length), j < k → la[j] = lb[j]) := hj
      clear hj
      by_cases h3 : k < la.length
      · have h4 : k < lb.length := by rw [← HL.out]; exact h3
        obtain ⟨b, o, b', o', e, e', hcall⟩ := HC.out k h3 h4
        subst e e'
        have i1 : (k : Int) < (la.length : Int) := by omega
        have i2 : (k : Int) < (lb.length : Int) := by omega
        by_cases he : la[k] = lb[k]
        · have HJ' : Hid (∀ j (ha : j < la.length) (hb : j < lb.length), j < k + 1 → la[j] = lb[j]) := by
            intro j ha hb hjk
            rcases Nat.lt_or_ge j k with h | h
            · exact HJ.out j ha hb h
            · obtain rfl : j = k := by omega
              exact he
          have hc : Hid (∀ n, Calls Tryz.prog 212 #[.pointer (some ⟨b, o + k * 4, none⟩), .pointer (some ⟨b', o' + k * 4, none⟩)] (wr.drewN n) fun ev w' => ev = .returned (.bool true) ∧ ∃ m', w' = (wr.drewN n).drewN m') := fun n => by
            rw [HX.out, World.drewN_drewN]; exact hcall (m + n) true ⟨fun _ => he, fun _ => rfl⟩
          clear he hcall HC
          go_wp2_with fail
          go_quiet (exact Calls.quiet_of (hc.out _))
          go_wp2_with fail
          go_roundw
          case rel => exact ⟨k + 1, by omega, by go_num, HJ'.out, _, by rw [HX.out, World.drewN_drewN]⟩
          case measure => simp [intOf]; omega
        · have HF : Hid (B = false) := by
            show B = false
            cases hB : B
            · rfl
            · exact absurd (HB.out.1 hB) (not_at h3 h4 he)
          have hc : Hid (∀ n, Calls Tryz.prog 212 #[.pointer (some ⟨b, o + k * 4, none⟩), .pointer (some ⟨b', o' + k * 4, none⟩)] (wr.drewN n) fun ev w' => ev = .returned (.bool false) ∧ ∃ m', w' = (wr.drewN n).drewN m') := fun n => by
            rw [HX.out, World.drewN_drewN]; exact hcall (m + n) false ⟨fun h => (by cases h), fun h => absurd h he⟩
          clear he hcall HC
          go_wp2_with fail
          go_quiet (exact Calls.quiet_of (hc.out _))
          go_wp2_with fail
          go_ret
          exact ⟨by rw [HF.out]; rfl, by first | exact ⟨m, HX.out⟩ | exact ⟨_, by rw [HX.out, World.drewN_drewN]⟩⟩
      · have HF : Hid (B = true) := HB.out.2 (eq_upto HL.out fun j ha hb => HJ.out j ha hb (by omega))
        have i1 : ¬ (k : Int) < (la.length : Int) := by omega
        go_wp2_with fail
        go_ret
        exact ⟨by rw [HF.out]; rfl, by first | exact ⟨m, HX.out⟩ | exact ⟨_, by rw [HX.out, World.drewN_drewN]⟩⟩
  · have b1 : ((la.length : Int) != (lb.length : Int)) = true := by simp; omega
    have HF : Hid (B = false) := by
      show B = false
      cases hB' : B
      · rfl
      · exact absurd (congrArg List.length (hB.1 hB')) hlen
    clear hA hBB hB ha hb hbA hbB ih
    go_enter Tryz.func216, Tryz.ntmps216
    go_wp2_with fail
    go_ret
    exact ⟨by rw [HF.out]; rfl, 0, rfl⟩

set_option maxHeartbeats 4000000 in
theorem sameStmts_of {K : Ctx} {w : World} {n : Nat}
    (ih : ∀ (x y : St) (b o b' o' : Nat) (cs cs' : List Value) (m : Nat) (B : Bool), (∀ j, j < 32 → w.cell? ⟨b, o + j, none⟩ = cs[j]?) → (∀ j, j < 32 → w.cell? ⟨b', o' + j, none⟩ = cs'[j]?) → StAt n K w cs x → StAt n K w cs' y → (B = true ↔ x = y) →
      Calls Tryz.prog 202 #[.pointer (some ⟨b, o, none⟩), .pointer (some ⟨b', o', none⟩)] (w.drewN m) fun ev w' => ev = .returned (.bool B) ∧ ∃ m', w' = (w.drewN m).drewN m')
    {va vb : Value} {la lb : List St} (ha : Ar 32 496 (StAt n K w) K w va la) (hb : Ar 32 496 (StAt n K w) K w vb lb) (B : Bool) (hB : B = true ↔ la = lb) :
    Calls Tryz.prog 213 #[va, vb, .func (.func 202) #[] #[]] w fun ev w' => ev = .returned (.bool B) ∧ ∃ m, w' = w.drewN m := by
  obtain ⟨aoA, capA, rfl, hcA, hbA, hA⟩ := ha.shape
  obtain ⟨aoB, capB, rfl, hcB, hbB, hBB⟩ := hb.shape
  have hl9 : la.length ≤ 9223372036854775807 := by omega
  by_cases hlen : la.length = lb.length
  · have b1 : ((la.length : Int) != (lb.length : Int)) = false := by simp; omega
    have HC : Hid (∀ i (h : i < la.length) (h' : i < lb.length), ∃ b o b' o', aoA = some ⟨b, o, none⟩ ∧ aoB = some ⟨b', o', none⟩ ∧ ∀ (m : Nat) (B : Bool), (B = true ↔ la[i] = lb[i]) →
        Calls Tryz.prog 202 #[.pointer (some ⟨b, o + i * 32, none⟩), .pointer (some ⟨b', o' + i * 32, none⟩)] (w.drewN m) fun ev w' => ev = .returned (.bool B) ∧ ∃ m', w' = (w.drewN m).drewN m') := by
      intro i h h'
      obtain ⟨b, o, e, _, cs, hl, hc, hx⟩ := hA i h
      obtain ⟨b', o', e', _, cs', hl', hc', hx'⟩ := hBB i h'
      exact ⟨b, o, b', o', e, e', fun m B hB => ih _ _ _ _ _ _ cs cs' m B hc hc' hx hx' hB⟩
    have HB : Hid (B = true ↔ la = lb) := hB
    have HL : Hid (la.length = lb.length) := hlen
    clear hA hBB hB ha hb hbA hbB hlen ih
    go_enter Tryz.func213, Tryz.ntmps213
    go_wp2_with fail
    go_loopw [15] (fun i wr => ∃ k : Nat, k ≤ la.length ∧ i = .int .i64 k ∧ (∀ j (ha : j < la.length) (hb : j < lb.length), j < k → la[j] = lb[j]) ∧ ∃ m, wr = w.drewN m) (fun i _ => la.length - (intOf i).toNat)
    case atStart => exact ⟨0, by omega, rfl, fun j _ _ h => by omega, 0, rfl⟩
    case round =>
      obtain ⟨k, hk, rfl, hj, m, hx⟩ := hrel
      have HX : Hid (wr = w.drewN m) := hx
      clear hx
      have HJ : Hid (∀ j (ha : j < la.length) (hb : j < lb.length), j < k → la[j] = lb[j]) := hj
      clear hj
      by_cases h3 : k < la.length
      · have h4 : k < lb.length := by rw [← HL.out]; exact h3
        obtain ⟨b, o, b', o', e, e', hcall⟩ := HC.out k h3 h4
        subst e e'
        have i1 : (k : Int) < (la.length : Int) := by omega
        have i2 : (k : Int) < (lb.length : Int) := by omega
        by_cases he : la[k] = lb[k]
        · have HJ' : Hid (∀ j (ha : j < la.length) (hb : j < lb.length), j < k + 1 → la[j] = lb[j]) := by
            intro j ha hb hjk
            rcases Nat.lt_or_ge j k with h | h
            · exact HJ.out j ha hb h
            · obtain rfl : j = k := by omega
              exact he
          have hc : Hid (∀ n, Calls Tryz.prog 202 #[.pointer (some ⟨b, o + k * 32, none⟩), .pointer (some ⟨b', o' + k * 32, none⟩)] (wr.drewN n) fun ev w' => ev = .returned (.bool true) ∧ ∃ m', w' = (wr.drewN n).drewN m') := fun n => by
            rw [HX.out, World.drewN_drewN]; exact hcall (m + n) true ⟨fun _ => he, fun _ => rfl⟩
          clear he hcall HC
          go_wp2_with fail
          go_quiet (exact Calls.quiet_of (hc.out _))
          go_wp2_with fail
          go_roundw
          case rel => exact ⟨k + 1, by omega, by go_num, HJ'.out, _, by rw [HX.out, World.drewN_drewN]⟩
          case measure => simp [intOf]; omega
        · have HF : Hid (B = false) := by
            show B = false
            cases hB : B
            · rfl
            · exact absurd (HB.out.1 hB) (not_at h3 h4 he)
          have hc : Hid (∀ n, Calls Tryz.prog 202 #[.pointer (some ⟨b, o + k * 32, none⟩), .pointer (some ⟨b', o' + k * 32, none⟩)] (wr.drewN n) fun ev w' => ev = .returned (.bool false) ∧ ∃ m', w' = (wr.drewN n).drewN m') := fun n => by
            rw [HX.out, World.drewN_drewN]; exact hcall (m + n) false ⟨fun h => (by cases h), fun h => absurd h he⟩
          clear he hcall HC
          go_wp2_with fail
          go_quiet (exact Calls.quiet_of (hc.out _))
          go_wp2_with fail
          go_ret
          exact ⟨by rw [HF.out]; rfl, by first | exact ⟨m, HX.out⟩ | exact ⟨_, by rw [HX.out, World.drewN_drewN]⟩⟩
      · have HF : Hid (B = true) := HB.out.2 (eq_upto HL.out fun j ha hb => HJ.out j ha hb (by omega))
        have i1 : ¬ (k : Int) < (la.length : Int) := by omega
        go_wp2_with fail
        go_ret
        exact ⟨by rw [HF.out]; rfl, by first | exact ⟨m, HX.out⟩ | exact ⟨_, by rw [HX.out, World.drewN_drewN]⟩⟩
  · have b1 : ((la.length : Int) != (lb.length : Int)) = true := by simp; omega
    have HF : Hid (B = false) := by
      show B = false
      cases hB' : B
      · rfl
      · exact absurd (congrArg List.length (hB.1 hB')) hlen
    clear hA hBB hB ha hb hbA hbB ih
    go_enter Tryz.func213, Tryz.ntmps213
    go_wp2_with fail
    go_ret
    exact ⟨by rw [HF.out]; rfl, 0, rfl⟩

end Go.Proofs.YtmopffaocamieaaGreat
