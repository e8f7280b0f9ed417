/-
  The document's text of crates; what is written is that text.
-/
import Derived.Test.YtmfdmpfeoppnfaaDoorPri
namespace Go.Proofs.YtmfdmpfeoppnfaaDoor
open Go.RowKit

theorem str_cat (a b : Bs) : str a ++ str b = str (a ++ b) := by
  unfold str
  apply ByteArray.ext
  simp
/-- A head up to its dependency q. -/
def hdP (x : Src) (q : Nat) : Bs := [61, 61, 32] ++ x.name ++ (if q = 0 then [] else [32, 58]) ++ (x.deps.take q).flatMap fun d => 32 :: d
def crT (x : Src) : Bs := hdP x x.deps.length ++ ([10] ++ x.text)
def textF (L : List Src) : Bs := L.flatMap crT
theorem textF_take {L : List Src} {k : Nat} (h : k < L.length) : textF (L.take (k + 1)) = textF (L.take k) ++ crT (L.getD k Src.zero) := by
  unfold textF
  rw [List.take_add_one, List.getElem?_eq_getElem h, getD_eq L k _ h, List.flatMap_append]
  congr 1
  simp
theorem textF_le (L : List Src) (k : Nat) : (textF (L.take k)).length ≤ (textF L).length := by
  have : textF L = textF (L.take k) ++ textF (L.drop k) := by
    unfold textF
    rw [← List.flatMap_append, List.take_append_drop]
  rw [this, List.length_append]; omega
theorem hdP_succ {x : Src} {q : Nat} (h : q < x.deps.length) : hdP x (q + 1) = (if q = 0 then hdP x q ++ [32, 58] else hdP x q) ++ ([32] ++ x.deps.getD q []) := by
  unfold hdP
  rw [List.take_add_one, List.getElem?_eq_getElem h, getD_eq x.deps q _ h, List.flatMap_append, if_neg (by omega)]
  have e : (some x.deps[q]).toList.flatMap (fun d => (32 : UInt8) :: d) = [32] ++ x.deps[q] := by simp
  rw [e]
  by_cases h0 : q = 0
  · subst h0; simp
  · rw [if_neg h0, if_neg h0]; simp only [List.append_assoc]
theorem hdP_le (x : Src) (q : Nat) (hq : q ≤ x.deps.length) : (hdP x q).length ≤ (hdP x x.deps.length).length := by
  unfold hdP
  have h1 : ((x.deps.take q).flatMap fun d => (32 : UInt8) :: d).length ≤ ((x.deps.take x.deps.length).flatMap fun d => (32 : UInt8) :: d).length := by
    rw [List.take_length]
    have e : (x.deps.flatMap fun d => (32 : UInt8) :: d) = ((x.deps.take q).flatMap fun d => (32 : UInt8) :: d) ++ ((x.deps.drop q).flatMap fun d => (32 : UInt8) :: d) := by
      rw [← List.flatMap_append, List.take_append_drop]
    rw [e, List.length_append]; omega
  simp only [List.length_append]
  have h2 : (if q = 0 then ([] : Bs) else [32, 58]).length ≤ (if x.deps.length = 0 then ([] : Bs) else [32, 58]).length := by
    by_cases h : q = 0
    · rw [if_pos h]; simp
    · rw [if_neg h, if_neg (by omega)]; exact Nat.le_refl _
  omega
set_option maxHeartbeats 8000000 in
set_option maxRecDepth 20000 in
theorem text_any (w : World) (v : Value) (L : List Src) (h : Srs w v L) (hlen : (textF L).length ≤ 9223372036854775807) :
    Calls Tryd.prog 27 #[v] w fun ev w' => ev = .returned (.string (str (textF L))) ∧ w' = w := by
  obtain ⟨ao, cap, rfl, h1, h2, h3⟩ := h.shape
  have HC := hid0 h3
  have HL := hid0 hlen
  clear h h3 hlen
  obtain ⟨n, hn⟩ : ∃ n, n = L.length := ⟨_, rfl⟩
  have AN := aside0 hn
  rw [← hn] at h1 h2 HC ⊢
  clear hn
  go_enter Tryd.func27, Tryd.ntmps27
  go_wp2_with fail
  go_loopw [3, 4] (fun s i wr => ∃ (k : Nat) (SA : ByteArray), k ≤ n ∧ i = .int .i64 k ∧ s = .string SA ∧ SA = str (textF (L.take k)) ∧ wr = w) (fun _ i _ => n - (intOf i).toNat)
  case atStart => exact ⟨0, _, by omega, rfl, rfl, rfl, rfl⟩
  case round =>
    obtain ⟨k, SA, hk, rfl, rfl, hSA, hw⟩ := hrel
    subst hw
    have ASA := aside0 hSA
    have hzA : SA.size = (textF (L.take k)).length := by rw [hSA, str_size]
    clear hSA
    by_cases h3 : k < n
    · have l1 : (k : Int) < (n : Int) := by omega
      obtain ⟨p, o, dv, rfl, c0, c1, c2, hs⟩ := HC.out k h3
      obtain ⟨dao, dcap, rfl, d1, d2, d3⟩ := hs.shape
      have hT1 := textF_take (L := L) (k := k) (by rw [← AN.out]; exact h3)
      have hT2 := textF_le L (k + 1)
      rw [hT1] at hT2
      have hTL := HL.out
      generalize L.getD k Src.zero = x at *
      have AT1 := aside0 hT1
      generalize textF (L.take k) = T at *
      have hcr : (crT x).length = (hdP x x.deps.length).length + (1 + x.text.length) := by unfold crT; simp; omega
      rw [List.length_append, hcr] at hT2
      replace hT2 := Nat.le_trans hT2 hTL
      have hP0 := hdP_le x 0 (by omega)
      have hH0 : (hdP x 0).length = 3 + x.name.length := by unfold hdP; simp; omega
      obtain ⟨SN, hSN⟩ : ∃ SN, SN = str x.name := ⟨_, rfl⟩
      obtain ⟨ST, hST⟩ : ∃ ST, ST = str x.text := ⟨_, rfl⟩
      have hzN : SN.size = x.name.length := by rw [hSN, str_size]
      have hzT : ST.size = x.text.length := by rw [hST, str_size]
      rw [← hSN] at c0
      rw [← hST] at c2
      have HX0 : Hid (SA ++ ⟨#[61, 61, 32]⟩ ++ SN = str (T ++ hdP x 0)) := by
        show _ = _
        rw [ASA.out, hSN, show (⟨#[61, 61, 32]⟩ : ByteArray) = str [61, 61, 32] from rfl, str_cat, str_cat]
        congr 1
        unfold hdP; simp
      have HE : Hid (∀ SB, SB = str (T ++ hdP x x.deps.length) → SB ++ ⟨#[10]⟩ ++ ST = str (textF (L.take (k + 1)))) := by
        intro SB hB
        rw [hB, hST, show (⟨#[10]⟩ : ByteArray) = str [10] from rfl, str_cat, str_cat, AT1.out]
        congr 1
        unfold crT; simp
      have HD := hid0 d3
      have l7 : ¬ 9223372036854775807 < T.length + 3 := by omega
      have l8 : ¬ 9223372036854775807 < T.length + 3 + x.name.length := by omega
      clear d3 hs hT1 hSN hST hTL
      go_wp2_with fail
      clear l7 l8
      go_loopw [3, 5] (fun s j wr2 => ∃ (q : Nat) (SB : ByteArray), q ≤ x.deps.length ∧ j = .int .i64 q ∧ s = .string SB ∧ SB = str (T ++ hdP x q) ∧ wr2 = wr) (fun _ j _ => x.deps.length - (intOf j).toNat)
      case atStart => exact ⟨0, _, by omega, rfl, rfl, HX0.out, rfl⟩
      case round =>
        obtain ⟨q, SB, hq, rfl, rfl, hSB, hw2⟩ := hrel
        subst hw2
        have ASB := aside0 hSB
        have hzB : SB.size = (T ++ hdP x q).length := by rw [hSB, str_size]
        rw [List.length_append] at hzB
        clear hSB
        by_cases h4 : q < x.deps.length
        · have l4 : (q : Int) < (x.deps.length : Int) := by omega
          obtain ⟨pb, po, rfl, e0⟩ := HD.out q h4
          have hsu := hdP_succ h4
          have hP1 := hdP_le x (q + 1) (by omega)
          rw [hsu] at hP1
          obtain ⟨SD, hSD⟩ : ∃ SD, SD = str (x.deps.getD q []) := ⟨_, rfl⟩
          have hzD : SD.size = (x.deps.getD q []).length := by rw [hSD, str_size]
          rw [← hSD] at e0
          by_cases h0 : q = 0
          · have l5 : ((q : Int) == 0) = true := by rw [h0]; rfl
            rw [if_pos h0] at hsu hP1
            simp only [List.length_append, List.length_cons, List.length_nil] at hP1
            have HY : Hid (SB ++ ⟨#[32, 58]⟩ ++ ⟨#[32]⟩ ++ SD = str (T ++ hdP x (q + 1))) := by
              show _ = _
              rw [ASB.out, hSD, show (⟨#[32, 58]⟩ : ByteArray) = str [32, 58] from rfl, show (⟨#[32]⟩ : ByteArray) = str [32] from rfl, str_cat, str_cat, str_cat, hsu]
              congr 1
              simp only [List.append_assoc]
            generalize (x.deps.getD q []).length = ld at *
            generalize (hdP x q).length = lq at *
            have l6 : ¬ 9223372036854775807 < T.length + lq + 2 := by omega
            have l7 : ¬ 9223372036854775807 < T.length + lq + 2 + 1 := by omega
            have l8 : ¬ 9223372036854775807 < T.length + lq + 2 + 1 + ld := by omega
            clear hsu hSD h0
            go_wp2_with fail
            go_roundw
            case rel => exact ⟨q + 1, _, by omega, by go_num, rfl, HY.out, trivial⟩
            case measure => simp [intOf]; omega
          · have l5 : ((q : Int) == 0) = false := by simp; omega
            rw [if_neg h0] at hsu hP1
            simp only [List.length_append, List.length_cons, List.length_nil] at hP1
            have HY : Hid (SB ++ ⟨#[32]⟩ ++ SD = str (T ++ hdP x (q + 1))) := by
              show _ = _
              rw [ASB.out, hSD, show (⟨#[32]⟩ : ByteArray) = str [32] from rfl, str_cat, str_cat, hsu]
              congr 1
              simp only [List.append_assoc]
            generalize (x.deps.getD q []).length = ld at *
            generalize (hdP x q).length = lq at *
            have l7 : ¬ 9223372036854775807 < T.length + lq + 1 := by omega
            have l8 : ¬ 9223372036854775807 < T.length + lq + 1 + ld := by omega
            clear hsu hSD h0
            go_wp2_with fail
            go_roundw
            case rel => exact ⟨q + 1, _, by omega, by go_num, rfl, HY.out, trivial⟩
            case measure => simp [intOf]; omega
        · have l4 : ¬ (q : Int) < (x.deps.length : Int) := by omega
          obtain rfl : q = x.deps.length := by omega
          have HZ := hid0 (HE.out SB ASB.out)
          generalize (hdP x x.deps.length).length = lq at *
          have l7 : ¬ 9223372036854775807 < T.length + lq + 1 := by omega
          have l8 : ¬ 9223372036854775807 < T.length + lq + 1 + x.text.length := by omega
          clear HE
          go_wp2_with fail
          go_roundw
          case rel => exact ⟨k + 1, _, by omega, by go_num, rfl, HZ.out, trivial⟩
          case measure => simp [intOf]; omega
    · have l1 : ¬ (k : Int) < (n : Int) := by omega
      have HT : Hid (SA = str (textF L)) := by
        show _ = _
        rw [ASA.out, List.take_of_length_le (by rw [← AN.out]; omega)]
      go_wp2_with fail
      go_ret
      exact ⟨by rw [HT.out]; rfl, rfl⟩
end Go.Proofs.YtmfdmpfeoppnfaaDoor
