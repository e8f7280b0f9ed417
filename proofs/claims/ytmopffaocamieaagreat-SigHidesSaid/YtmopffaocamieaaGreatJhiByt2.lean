/-
  The texts Byt, Run, joined.
-/
import Derived.Test.YtmopffaocamieaaGreatJhiMat4
namespace Go.Proofs.YtmopffaocamieaaGreat
open Go.RowKit

theorem isDigit_any (c : UInt8) (w : World) : Calls Tryz.prog 125 #[.int .u8 (c.toNat : Int)] w fun ev w' => ev = .returned (.bool (isDg c)) ∧ w' = w := by
  obtain ⟨B, hB⟩ : ∃ B, isDg c = B := ⟨_, rfl⟩
  rw [hB]
  unfold isDg at hB
  generalize c.toNat = n at *
  by_cases h1 : 48 ≤ n <;> by_cases h2 : n ≤ 57 <;> (try omega) <;> simp [h1, h2] at hB <;> subst hB <;> (go_enter Tryz.func125, Tryz.ntmps125; go_wp2_with fail; go_ret; first | exact ⟨rfl, rfl⟩ | (refine ⟨?_, rfl⟩; simp; omega) | (refine ⟨?_, rfl⟩; simp [*]))

theorem xdigit_any (c : UInt8) (w : World) : Calls Tryz.prog 173 #[.int .u8 (c.toNat : Int)] w fun ev w' => ev = .returned (.bool (isDg c)) ∧ w' = w := by
  obtain ⟨B, hB⟩ : ∃ B, isDg c = B := ⟨_, rfl⟩
  rw [hB]
  unfold isDg at hB
  generalize c.toNat = n at *
  by_cases h1 : 48 ≤ n <;> by_cases h2 : n ≤ 57 <;> (try omega) <;> simp [h1, h2] at hB <;> subst hB <;> (go_enter Tryz.func173, Tryz.ntmps173; go_wp2_with fail; go_ret; first | exact ⟨rfl, rfl⟩ | (refine ⟨?_, rfl⟩; simp; omega) | (refine ⟨?_, rfl⟩; simp [*]))

theorem letter_any (c : UInt8) (w : World) : Calls Tryz.prog 135 #[.int .u8 (c.toNat : Int)] w fun ev w' => ev = .returned (.bool (isLt c)) ∧ w' = w := by
  obtain ⟨B, hB⟩ : ∃ B, isLt c = B := ⟨_, rfl⟩
  rw [hB]
  unfold isLt at hB
  generalize c.toNat = n at *
  by_cases h1 : 97 ≤ n <;> by_cases h2 : n ≤ 122 <;> by_cases h3 : 65 ≤ n <;> by_cases h4 : n ≤ 90 <;> (try omega) <;> by_cases h5 : n = 95 <;> (try omega) <;>
    (have h5' : (n : Int) = 95 ∨ (n : Int) ≠ 95 := by omega
     rcases h5' with h5' | h5' <;> (try omega) <;> simp [h1, h2, h3, h4, h5] at hB <;> subst hB <;> (try subst h5) <;> (go_enter Tryz.func135, Tryz.ntmps135; go_wp2_with fail; go_ret; first | exact ⟨rfl, rfl⟩ | (refine ⟨?_, rfl⟩; simp; omega) | (refine ⟨?_, rfl⟩; simp [*])))

theorem isNameByte_any (c : UInt8) (w : World) : Calls Tryz.prog 164 #[.int .u8 (c.toNat : Int)] w fun ev w' => ev = .returned (.bool (isNm c)) ∧ w' = w := by
  have D := isDigit_any c w
  obtain ⟨B, hB⟩ : ∃ B, isNm c = B := ⟨_, rfl⟩
  rw [hB]
  obtain ⟨I, hI⟩ : ∃ I, isDg c = I := ⟨_, rfl⟩
  unfold isNm at hB
  rw [hI] at hB D
  unfold isLt at hB
  clear hI
  generalize c.toNat = n at *
  by_cases h1 : 97 ≤ n <;> by_cases h2 : n ≤ 122 <;> by_cases h3 : 65 ≤ n <;> by_cases h4 : n ≤ 90 <;> (try omega) <;> by_cases h5 : n = 95 <;> (try omega) <;>
    (have h5' : (n : Int) = 95 ∨ (n : Int) ≠ 95 := by omega
     rcases h5' with h5' | h5' <;> (try omega) <;> simp [h1, h2, h3, h4, h5] at hB <;> subst hB <;> (try subst h5) <;> (go_enter Tryz.func164, Tryz.ntmps164; first | (go_wp2_with fail; go_ret; first | exact ⟨rfl, rfl⟩ | (refine ⟨?_, rfl⟩; simp; omega) | (refine ⟨?_, rfl⟩; simp [*])) | (go_wp2_with fail; refine D.mono ?_; rintro ev w' ⟨rfl, rfl⟩; go_wp2_with fail; go_ret; first | exact ⟨rfl, rfl⟩ | (refine ⟨?_, rfl⟩; simp; omega) | (refine ⟨?_, rfl⟩; simp [*]))))
end Go.Proofs.YtmopffaocamieaaGreat

namespace Go.Proofs.YtmopffaocamieaaGreat
open Go.RowKit

/-- From a place on: what is ahead is a run, and it goes on or ends. -/
theorem run_drop : ∀ (l : List UInt8) (k : Nat), k ≤ runL l → runL l = k + runL (l.drop k)
  | l, 0, _ => by simp
  | [], k + 1, h => by simp [runL] at h
  | c :: t, k + 1, h => by
    simp only [runL] at h ⊢
    split at h
    · rename_i hc
      rw [if_pos hc, run_drop t k (by omega)]
      simp; omega
    · omega
theorem drop_cons (l : List UInt8) (k : Nat) (h : k < l.length) : l.drop k = l.getD k 0 :: l.drop (k + 1) := by
  rw [List.drop_eq_getElem_cons h]
  simp [List.getD, List.getElem?_eq_getElem h]
theorem run_at (l : List UInt8) (k : Nat) (h : k < l.length) : runL (l.drop k) = if isNm (l.getD k 0) then runL (l.drop (k + 1)) + 1 else 0 := by
  rw [drop_cons l k h]; rfl

set_option maxHeartbeats 4000000 in
set_option maxRecDepth 20000 in
theorem runSize_any (l : List UInt8) (hl : l.length ≤ 9223372036854775807) (w : World) : Calls Tryz.prog 124 #[.string (str l)] w fun ev w' => ev = .returned (.int .i64 (runL l : Int)) ∧ w' = w := by
  have HM : Hid (∀ k, k < l.length → ∀ y, Calls Tryz.prog 164 #[.int .u8 ((l.getD k 0).toNat : Int)] y fun ev w' => ev = .returned (.bool (isNm (l.getD k 0))) ∧ w' = y) := fun k _ y => isNameByte_any _ y
  obtain ⟨S, hS⟩ : ∃ S, S = str l := ⟨_, rfl⟩
  have hSs : S.size = l.length := by rw [hS, str_size]
  have HX : Hid (∀ k (h : k < S.size), (S[k]'h).toNat = (l.getD k 0).toNat) := by
    intro k h
    subst hS
    rw [str_at]
  rw [← hS]
  clear hS
  go_enter Tryz.func124, Tryz.ntmps124
  go_wp2_with fail
  go_loopw [3] (fun i wr => ∃ k : Nat, k ≤ runL l ∧ k ≤ l.length ∧ i = .int .i64 k ∧ wr = w) (fun i _ => l.length - (intOf i).toNat)
  case atStart => exact ⟨0, by omega, by omega, rfl, rfl⟩
  case round =>
    obtain ⟨k, hk, hkl, rfl, rfl⟩ := hrel
    by_cases h3 : k < l.length
    · have hkS : k < S.size := by omega
      have hx := HX.out k hkS
      have D := HM.out k h3 wr
      have HR := run_drop l k hk
      rw [run_at l k h3] at HR
      cases hd : isNm (l.getD k 0)
      · rw [hd] at D HR
        have HP : Hid (runL l = k) := by show runL l = k; simpa using HR
        clear HR hd hk
        generalize (l.getD k 0).toNat = x at *
        go_wp2_with fail
        refine D.mono ?_
        rintro ev w2 ⟨rfl, rfl⟩
        go_wp2_with fail
        go_ret
        exact ⟨by rw [HP.out]; rfl, rfl⟩
      · rw [hd] at D HR
        have HP : Hid (k + 1 ≤ runL l) := by rw [if_pos rfl] at HR; show k + 1 ≤ runL l; omega
        clear HR hd hk
        generalize (l.getD k 0).toNat = x at *
        go_wp2_with fail
        refine D.mono ?_
        rintro ev w2 ⟨rfl, rfl⟩
        go_wp2_with fail
        go_roundw
        case rel => exact ⟨k + 1, HP.out, by omega, by go_num, by trivial⟩
        case measure => simp [intOf]; omega
    · have HP : Hid (runL l = k) := by have := runL_le l; show runL l = k; omega
      have hkk : (k : Int) = (l.length : Int) := by omega
      obtain rfl : k = l.length := by omega
      clear HX HM hk hkk
      go_wp2_with fail
      go_ret
      refine ⟨by rw [HP.out]; rfl, ?_⟩
      trivial

set_option maxHeartbeats 4000000 in
set_option maxRecDepth 20000 in
/-- The document's. -/
theorem xrun_any (l : List UInt8) (p : Nat) (hp : p ≤ l.length) (hl : l.length ≤ 9223372036854775807) (w : World) : Calls Tryz.prog 136 #[.string (str l), .int .i64 (p : Int)] w fun ev w' => ev = .returned (.int .i64 ((p + runL (l.drop p) : Nat) : Int)) ∧ w' = w := by
  have HL : Hid (∀ k, k < l.length → ∀ y, Calls Tryz.prog 135 #[.int .u8 ((l.getD k 0).toNat : Int)] y fun ev w' => ev = .returned (.bool (isLt (l.getD k 0))) ∧ w' = y) := fun k _ y => letter_any _ y
  have HD : Hid (∀ k, k < l.length → ∀ y, Calls Tryz.prog 173 #[.int .u8 ((l.getD k 0).toNat : Int)] y fun ev w' => ev = .returned (.bool (isDg (l.getD k 0))) ∧ w' = y) := fun k _ y => xdigit_any _ y
  obtain ⟨S, hS⟩ : ∃ S, S = str l := ⟨_, rfl⟩
  have hSs : S.size = l.length := by rw [hS, str_size]
  have HX : Hid (∀ k (h : k < S.size), (S[k]'h).toNat = (l.getD k 0).toNat) := by
    intro k h
    subst hS
    rw [str_at]
  rw [← hS]
  clear hS
  obtain ⟨R, hR⟩ : ∃ R, p + runL (l.drop p) = R := ⟨_, rfl⟩
  have HR : Hid (p + runL (l.drop p) = R) := hR
  rw [hR]
  clear hR
  go_enter Tryz.func136, Tryz.ntmps136
  go_wp2_with fail
  go_loopw [1] (fun i wr => ∃ k : Nat, k ≤ l.length ∧ k + runL (l.drop k) = R ∧ i = .int .i64 k ∧ wr = w) (fun i _ => l.length - (intOf i).toNat)
  case atStart => exact ⟨p, hp, HR.out, rfl, rfl⟩
  case round =>
    obtain ⟨k, hkl, hk, rfl, rfl⟩ := hrel
    clear HR
    by_cases h3 : k < l.length
    · have hkS : k < S.size := by omega
      have hx := HX.out k hkS
      have D1 := HL.out k h3 wr
      have D2 := HD.out k h3 wr
      rw [run_at l k h3] at hk
      unfold isNm at hk
      clear HX HL HD
      cases h1 : isLt (l.getD k 0)
      · rw [h1] at D1 hk
        cases hd : isDg (l.getD k 0)
        · rw [hd] at D2 hk
          have HP : Hid (R = k) := by show R = k; simpa using hk.symm
          clear hk hd h1
          generalize (l.getD k 0).toNat = x at *
          go_wp2_with fail
          refine D1.mono ?_
          rintro ev w2 ⟨rfl, rfl⟩
          go_wp2_with fail
          refine D2.mono ?_
          rintro ev w2 ⟨rfl, rfl⟩
          go_wp2_with fail
          go_ret
          refine ⟨by rw [HP.out]; rfl, ?_⟩
          trivial
        · rw [hd] at D2 hk
          have HP : Hid (k + 1 + runL (l.drop (k + 1)) = R) := by show _ = R; simp at hk; omega
          clear hk hd h1
          generalize (l.getD k 0).toNat = x at *
          go_wp2_with fail
          refine D1.mono ?_
          rintro ev w2 ⟨rfl, rfl⟩
          go_wp2_with fail
          refine D2.mono ?_
          rintro ev w2 ⟨rfl, rfl⟩
          go_wp2_with fail
          go_roundw
          case rel => exact ⟨k + 1, by omega, HP.out, by go_num, by trivial⟩
          case measure => simp [intOf]; omega
      · rw [h1] at D1 hk
        have HP : Hid (k + 1 + runL (l.drop (k + 1)) = R) := by show _ = R; simp at hk; omega
        clear hk h1 D2
        generalize (l.getD k 0).toNat = x at *
        go_wp2_with fail
        refine D1.mono ?_
        rintro ev w2 ⟨rfl, rfl⟩
        go_wp2_with fail
        go_roundw
        case rel => exact ⟨k + 1, by omega, HP.out, by go_num, by trivial⟩
        case measure => simp [intOf]; omega
    · obtain rfl : k = l.length := by omega
      have HP : Hid (R = l.length) := by show R = l.length; simpa [runL] using hk.symm
      clear HX HL HD hk
      go_wp2_with fail
      go_ret
      refine ⟨by rw [HP.out]; rfl, ?_⟩
      trivial

/-- The size of a name, or nought. -/
def nameF (l : List UInt8) : Nat := if runL l = 0 ∨ 32 < runL l ∨ isDg (l.getD 0 0) = true then 0 else runL l
theorem nameF_le (l : List UInt8) : nameF l ≤ l.length ∧ nameF l ≤ 32 := by
  have := runL_le l
  unfold nameF
  split <;> omega
set_option maxHeartbeats 4000000 in
theorem nameSize_any (l : List UInt8) (hl : l.length ≤ 9223372036854775807) (w : World) : Calls Tryz.prog 78 #[.string (str l)] w fun ev w' => ev = .returned (.int .i64 (nameF l : Int)) ∧ w' = w := by
  have R := runSize_any l hl w
  have hrl := runL_le l
  obtain ⟨N, hN⟩ : ∃ N, nameF l = N := ⟨_, rfl⟩
  rw [hN]
  unfold nameF at hN
  by_cases h0 : runL l = 0
  · rw [if_pos (.inl h0)] at hN
    subst hN
    rw [h0] at R
    clear hrl h0
    generalize str l = S at *
    go_enter Tryz.func78, Tryz.ntmps78
    go_wp2_with fail
    refine R.mono ?_
    rintro ev w2 ⟨rfl, rfl⟩
    go_wp2_with fail
    go_ret
    exact ⟨rfl, rfl⟩
  · by_cases h1 : 32 < runL l
    · rw [if_pos (.inr (.inl h1))] at hN
      subst hN
      have h0' : (runL l : Int) ≠ 0 := by omega
      have h1' : (32 : Int) < (runL l : Int) := by omega
      generalize runL l = r at *
      generalize str l = S at *
      go_enter Tryz.func78, Tryz.ntmps78
      go_wp2_with fail
      refine R.mono ?_
      rintro ev w2 ⟨rfl, rfl⟩
      go_wp2_with fail
      go_ret
      exact ⟨rfl, rfl⟩
    · have D := isDigit_any (l.getD 0 0) w
      have hz : 0 < (str l).size := by rw [str_size]; omega
      have hx : ((str l)[0]'hz).toNat = (l.getD 0 0).toNat := by rw [str_at]
      have h0' : (runL l : Int) ≠ 0 := by omega
      have h1' : ¬ (32 : Int) < (runL l : Int) := by omega
      have b0 : ((runL l : Int) == 0) = false := by simpa using h0
      have b1 : decide ((32 : Int) < (runL l : Int)) = false := by simp; omega
      have b2 : (((runL l : Int) == 0) || decide ((32 : Int) < (runL l : Int))) = false := by rw [b0, b1]; rfl
      obtain ⟨S, hS⟩ : ∃ S, S = str l := ⟨_, rfl⟩
      obtain ⟨hz', hx'⟩ : ∃ hz' : 0 < S.size, (S[0]'hz').toNat = (l.getD 0 0).toNat := by rw [hS]; exact ⟨hz, hx⟩
      rw [← hS] at R ⊢
      clear hS hx hz
      cases hd : isDg (l.getD 0 0)
      · rw [hd] at D
        rw [if_neg (fun h => by rcases h with h | h | h; exact h0 h; exact h1 h; rw [hd] at h; cases h)] at hN
        subst hN
        clear hrl hd
        generalize (l.getD 0 0).toNat = x at *
        generalize runL l = r at *
        go_enter Tryz.func78, Tryz.ntmps78
        go_wp2_with fail
        refine R.mono ?_
        rintro ev w2 ⟨rfl, rfl⟩
        go_wp2_with fail
        refine D.mono ?_
        rintro ev w2 ⟨rfl, rfl⟩
        go_wp2_with fail
        go_ret
        exact ⟨rfl, rfl⟩
      · rw [hd] at D
        rw [if_pos (.inr (.inr hd))] at hN
        subst hN
        clear hrl hd
        generalize (l.getD 0 0).toNat = x at *
        generalize runL l = r at *
        go_enter Tryz.func78, Tryz.ntmps78
        go_wp2_with fail
        refine R.mono ?_
        rintro ev w2 ⟨rfl, rfl⟩
        go_wp2_with fail
        refine D.mono ?_
        rintro ev w2 ⟨rfl, rfl⟩
        go_wp2_with fail
        go_ret
        exact ⟨rfl, rfl⟩
end Go.Proofs.YtmopffaocamieaaGreat
