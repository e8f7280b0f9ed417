/-
  The texts Byt, Run, Wor, Siz, Xwd, joined.
-/
import Derived.Test.YtldbbkheemnnhaaGreatDoorJpMat4
namespace Go.Proofs.YtldbbkheemnnhaaGreatDoor
open Go.RowKit
theorem isDigit_any (c : UInt8) (w : World) : Calls Tryz.prog 156 #[.int .u8 (c.toNat : Int)] w fun ev w' => ev = .returned (.bool (isDg c)) /\ w' = w := by
  obtain ⟨B, hB⟩ : ∃ B, isDg c = B := ⟨_, rfl⟩
  rw [hB]
  unfold isDg at hB
  generalize c.toNat = n at *
  by_cases h1 : 48 <= n <;> by_cases h2 : n <= 57 <;> (try omega) <;> simp [h1, h2] at hB <;> subst hB <;> (go_enter Tryz.func156, Tryz.ntmps156; go_wp2_with fail; go_ret; first | exact ⟨rfl, rfl⟩ | (refine ⟨?_, rfl⟩; simp; omega) | (refine ⟨?_, rfl⟩; simp [*]))
theorem xdigit_any (c : UInt8) (w : World) : Calls Tryz.prog 84 #[.int .u8 (c.toNat : Int)] w fun ev w' => ev = .returned (.bool (isDg c)) /\ w' = w := by
  obtain ⟨B, hB⟩ : ∃ B, isDg c = B := ⟨_, rfl⟩
  rw [hB]
  unfold isDg at hB
  generalize c.toNat = n at *
  by_cases h1 : 48 <= n <;> by_cases h2 : n <= 57 <;> (try omega) <;> simp [h1, h2] at hB <;> subst hB <;> (go_enter Tryz.func84, Tryz.ntmps84; go_wp2_with fail; go_ret; first | exact ⟨rfl, rfl⟩ | (refine ⟨?_, rfl⟩; simp; omega) | (refine ⟨?_, rfl⟩; simp [*]))
theorem letter_any (c : UInt8) (w : World) : Calls Tryz.prog 80 #[.int .u8 (c.toNat : Int)] w fun ev w' => ev = .returned (.bool (isLt c)) /\ w' = w := by
  obtain ⟨B, hB⟩ : ∃ B, isLt c = B := ⟨_, rfl⟩
  rw [hB]
  unfold isLt at hB
  generalize c.toNat = n at *
  by_cases h1 : 97 <= n <;> by_cases h2 : n <= 122 <;> by_cases h3 : 65 <= n <;> by_cases h4 : n <= 90 <;> (try omega) <;> by_cases h5 : n = 95 <;> (try omega) <;>
    (have h5' : (n : Int) = 95 ∨ (n : Int) ≠ 95 := by omega
     rcases h5' with h5' | h5' <;> (try omega) <;> simp [h1, h2, h3, h4, h5] at hB <;> subst hB <;> (try subst h5) <;> (go_enter Tryz.func80, Tryz.ntmps80; go_wp2_with fail; go_ret; first | exact ⟨rfl, rfl⟩ | (refine ⟨?_, rfl⟩; simp; omega) | (refine ⟨?_, rfl⟩; simp [*])))
theorem isNameByte_any (c : UInt8) (w : World) : Calls Tryz.prog 194 #[.int .u8 (c.toNat : Int)] w fun ev w' => ev = .returned (.bool (isNm c)) /\ w' = w := by
  have D := isDigit_any c w
  obtain ⟨B, hB⟩ : ∃ B, isNm c = B := ⟨_, rfl⟩
  rw [hB]
  obtain ⟨I, hI⟩ : ∃ I, isDg c = I := ⟨_, rfl⟩
  unfold isNm at hB
  rw [hI] at hB D
  unfold isLt at hB
  clear hI
  generalize c.toNat = n at *
  by_cases h1 : 97 <= n <;> by_cases h2 : n <= 122 <;> by_cases h3 : 65 <= n <;> by_cases h4 : n <= 90 <;> (try omega) <;> by_cases h5 : n = 95 <;> (try omega) <;>
    (have h5' : (n : Int) = 95 ∨ (n : Int) ≠ 95 := by omega
     rcases h5' with h5' | h5' <;> (try omega) <;> simp [h1, h2, h3, h4, h5] at hB <;> subst hB <;> (try subst h5) <;> (go_enter Tryz.func194, Tryz.ntmps194; first | (go_wp2_with fail; go_ret; first | exact ⟨rfl, rfl⟩ | (refine ⟨?_, rfl⟩; simp; omega) | (refine ⟨?_, rfl⟩; simp [*])) | (go_wp2_with fail; refine D.mono ?_; rintro ev w' ⟨rfl, rfl⟩; go_wp2_with fail; go_ret; first | exact ⟨rfl, rfl⟩ | (refine ⟨?_, rfl⟩; simp; omega) | (refine ⟨?_, rfl⟩; simp [*]))))
end Go.Proofs.YtldbbkheemnnhaaGreatDoor

namespace Go.Proofs.YtldbbkheemnnhaaGreatDoor
open Go.RowKit
theorem run_drop : ∀ (l : List UInt8) (k : Nat), k <= runL l -> runL l = k + runL (l.drop k)
 | l, 0, _ => by simp
 | [], k + 1, h => by simp [runL] at h
 | c :: t, k + 1, h => by
  simp only [runL] at h ⊢
  split at h
  ·rename_i hc
   rw [if_pos hc, run_drop t k (by omega)]
   simp; omega
  ·omega
theorem drop_cons (l : List UInt8) (k : Nat) (h : k < l.length) : l.drop k = l.getD k 0 :: l.drop (k + 1) := by
 rw [List.drop_eq_getElem_cons h]
 simp [List.getD, List.getElem?_eq_getElem h]
theorem run_at (l : List UInt8) (k : Nat) (h : k < l.length) : runL (l.drop k) = if isNm (l.getD k 0) then runL (l.drop (k + 1)) + 1 else 0 := by
 rw [drop_cons l k h]; rfl
set_option maxHeartbeats 4000000 in
set_option maxRecDepth 20000 in
theorem runSize_any (l : List UInt8) (hl : l.length <= 9223372036854775807) (w : World) : Calls Tryz.prog 155 #[.string (str l)] w fun ev w' => ev = .returned (.int .i64 (runL l : Int)) /\ w' = w := by
 have HM : Hid (∀ k, k < l.length -> ∀ y, Calls Tryz.prog 194 #[.int .u8 ((l.getD k 0).toNat : Int)] y fun ev w' => ev = .returned (.bool (isNm (l.getD k 0))) /\ w' = y) := fun k _ y => isNameByte_any _ y
 obtain ⟨S, hS⟩ : ∃ S, S = str l := ⟨_, rfl⟩
 have hSs : S.size = l.length := by rw [hS, str_size]
 have HX : Hid (∀ k (h : k < S.size), (S[k]'h).toNat = (l.getD k 0).toNat) := by
  intro k h
  subst hS
  rw [str_at]
 rw [← hS]
 clear hS
 go_enter Tryz.func155, Tryz.ntmps155
 go_wp2_with fail
 go_loopw [3] (fun i wr => ∃ k : Nat, k <= runL l /\ k <= l.length /\ i = .int .i64 k /\ wr = w) (fun i _ => l.length - (intOf i).toNat)
 case atStart => exact ⟨0, by omega, by omega, rfl, rfl⟩
 case round =>
  obtain ⟨k, hk, hkl, rfl, rfl⟩ := hrel
  by_cases h3 : k < l.length
  ·have hkS : k < S.size := by omega
   have hx := HX.out k hkS
   have D := HM.out k h3 wr
   have HR := run_drop l k hk
   rw [run_at l k h3] at HR
   cases hd : isNm (l.getD k 0)
   ·rw [hd] at D HR
    have HP : Hid (runL l = k) := by show runL l = k; simpa using HR
    clear HR hd hk
    generalize (l.getD k 0).toNat = x at *
    go_wp2_with fail
    refine D.mono ?_
    rintro ev w2 ⟨rfl, rfl⟩
    go_wp2_with fail
    go_ret
    exact ⟨by rw [HP.out]; rfl, rfl⟩
   ·rw [hd] at D HR
    have HP : Hid (k + 1 <= runL l) := by rw [if_pos rfl] at HR; show k + 1 <= runL l; omega
    clear HR hd hk
    generalize (l.getD k 0).toNat = x at *
    go_wp2_with fail
    refine D.mono ?_
    rintro ev w2 ⟨rfl, rfl⟩
    go_wp2_with fail
    go_roundw
    case rel => exact ⟨k + 1, HP.out, by omega, by go_num, by trivial⟩
    case measure => simp [intOf]; omega
  ·have HP : Hid (runL l = k) := by have := runL_le l; show runL l = k; omega
   have hkk : (k : Int) = (l.length : Int) := by omega
   obtain rfl : k = l.length := by omega
   clear HX HM hk hkk
   go_wp2_with fail
   go_ret
   refine ⟨by rw [HP.out]; rfl, ?_⟩
   trivial
set_option maxHeartbeats 4000000 in
set_option maxRecDepth 20000 in
theorem xrun_any (l : List UInt8) (p : Nat) (hp : p <= l.length) (hl : l.length <= 9223372036854775807) (w : World) : Calls Tryz.prog 81 #[.string (str l), .int .i64 (p : Int)] w fun ev w' => ev = .returned (.int .i64 ((p + runL (l.drop p) : Nat) : Int)) /\ w' = w := by
 have HL : Hid (∀ k, k < l.length -> ∀ y, Calls Tryz.prog 80 #[.int .u8 ((l.getD k 0).toNat : Int)] y fun ev w' => ev = .returned (.bool (isLt (l.getD k 0))) /\ w' = y) := fun k _ y => letter_any _ y
 have HD : Hid (∀ k, k < l.length -> ∀ y, Calls Tryz.prog 84 #[.int .u8 ((l.getD k 0).toNat : Int)] y fun ev w' => ev = .returned (.bool (isDg (l.getD k 0))) /\ w' = y) := fun k _ y => xdigit_any _ y
 obtain ⟨S, hS⟩ : ∃ S, S = str l := ⟨_, rfl⟩
 have hSs : S.size = l.length := by rw [hS, str_size]
 have HX : Hid (∀ k (h : k < S.size), (S[k]'h).toNat = (l.getD k 0).toNat) := by
  intro k h
  subst hS
  rw [str_at]
 rw [← hS]
 clear hS
 obtain ⟨R, hR⟩ : ∃ R, p + runL (l.drop p) = R := ⟨_, rfl⟩
 have HR : Hid (p + runL (l.drop p) = R) := hR
 rw [hR]
 clear hR
 go_enter Tryz.func81, Tryz.ntmps81
 go_wp2_with fail
 go_loopw [1] (fun i wr => ∃ k : Nat, k <= l.length /\ k + runL (l.drop k) = R /\ i = .int .i64 k /\ wr = w) (fun i _ => l.length - (intOf i).toNat)
 case atStart => exact ⟨p, hp, HR.out, rfl, rfl⟩
 case round =>
  obtain ⟨k, hkl, hk, rfl, rfl⟩ := hrel
  clear HR
  by_cases h3 : k < l.length
  ·have hkS : k < S.size := by omega
   have hx := HX.out k hkS
   have D1 := HL.out k h3 wr
   have D2 := HD.out k h3 wr
   rw [run_at l k h3] at hk
   unfold isNm at hk
   clear HX HL HD
   cases h1 : isLt (l.getD k 0)
   ·rw [h1] at D1 hk
    cases hd : isDg (l.getD k 0)
    ·rw [hd] at D2 hk
     have HP : Hid (R = k) := by show R = k; simpa using hk.symm
     clear hk hd h1
     generalize (l.getD k 0).toNat = x at *
     go_wp2_with fail
     refine D1.mono ?_
     rintro ev w2 ⟨rfl, rfl⟩
     go_wp2_with fail
     refine D2.mono ?_
     rintro ev w2 ⟨rfl, rfl⟩
     go_wp2_with fail
     go_ret
     refine ⟨by rw [HP.out]; rfl, ?_⟩
     trivial
    ·rw [hd] at D2 hk
     have HP : Hid (k + 1 + runL (l.drop (k + 1)) = R) := by show _ = R; simp at hk; omega
     clear hk hd h1
     generalize (l.getD k 0).toNat = x at *
     go_wp2_with fail
     refine D1.mono ?_
     rintro ev w2 ⟨rfl, rfl⟩
     go_wp2_with fail
     refine D2.mono ?_
     rintro ev w2 ⟨rfl, rfl⟩
     go_wp2_with fail
     go_roundw
     case rel => exact ⟨k + 1, by omega, HP.out, by go_num, by trivial⟩
     case measure => simp [intOf]; omega
   ·rw [h1] at D1 hk
    have HP : Hid (k + 1 + runL (l.drop (k + 1)) = R) := by show _ = R; simp at hk; omega
    clear hk h1 D2
    generalize (l.getD k 0).toNat = x at *
    go_wp2_with fail
    refine D1.mono ?_
    rintro ev w2 ⟨rfl, rfl⟩
    go_wp2_with fail
    go_roundw
    case rel => exact ⟨k + 1, by omega, HP.out, by go_num, by trivial⟩
    case measure => simp [intOf]; omega
  ·obtain rfl : k = l.length := by omega
   have HP : Hid (R = l.length) := by show R = l.length; simpa [runL] using hk.symm
   clear HX HL HD hk
   go_wp2_with fail
   go_ret
   refine ⟨by rw [HP.out]; rfl, ?_⟩
   trivial
def nameF (l : List UInt8) : Nat := if runL l = 0 ∨ 32 < runL l ∨ isDg (l.getD 0 0) = true then 0 else runL l
set_option maxHeartbeats 4000000 in
theorem nameSize_any (l : List UInt8) (hl : l.length <= 9223372036854775807) (w : World) : Calls Tryz.prog 120 #[.string (str l)] w fun ev w' => ev = .returned (.int .i64 (nameF l : Int)) /\ w' = w := by
 have R := runSize_any l hl w
 have hrl := runL_le l
 obtain ⟨N, hN⟩ : ∃ N, nameF l = N := ⟨_, rfl⟩
 rw [hN]
 unfold nameF at hN
 by_cases h0 : runL l = 0
 ·rw [if_pos (.inl h0)] at hN
  subst hN
  rw [h0] at R
  clear hrl h0
  generalize str l = S at *
  go_enter Tryz.func120, Tryz.ntmps120
  go_wp2_with fail
  refine R.mono ?_
  rintro ev w2 ⟨rfl, rfl⟩
  go_wp2_with fail
  go_ret
  exact ⟨rfl, rfl⟩
 ·by_cases h1 : 32 < runL l
  ·rw [if_pos (.inr (.inl h1))] at hN
   subst hN
   have h0' : (runL l : Int) ≠ 0 := by omega
   have h1' : (32 : Int) < (runL l : Int) := by omega
   generalize runL l = r at *
   generalize str l = S at *
   go_enter Tryz.func120, Tryz.ntmps120
   go_wp2_with fail
   refine R.mono ?_
   rintro ev w2 ⟨rfl, rfl⟩
   go_wp2_with fail
   go_ret
   exact ⟨rfl, rfl⟩
  ·have D := isDigit_any (l.getD 0 0) w
   have hz : 0 < (str l).size := by rw [str_size]; omega
   have hx : ((str l)[0]'hz).toNat = (l.getD 0 0).toNat := by rw [str_at]
   have h0' : (runL l : Int) ≠ 0 := by omega
   have h1' : ¬ (32 : Int) < (runL l : Int) := by omega
   have b0 : ((runL l : Int) == 0) = false := by simpa using h0
   have b1 : decide ((32 : Int) < (runL l : Int)) = false := by simp; omega
   have b2 : (((runL l : Int) == 0) || decide ((32 : Int) < (runL l : Int))) = false := by rw [b0, b1]; rfl
   obtain ⟨S, hS⟩ : ∃ S, S = str l := ⟨_, rfl⟩
   obtain ⟨hz', hx'⟩ : ∃ hz' : 0 < S.size, (S[0]'hz').toNat = (l.getD 0 0).toNat := by rw [hS]; exact ⟨hz, hx⟩
   rw [← hS] at R ⊢
   clear hS hx hz
   cases hd : isDg (l.getD 0 0)
   ·rw [hd] at D
    rw [if_neg (fun h => by rcases h with h | h | h; exact h0 h; exact h1 h; rw [hd] at h; cases h)] at hN
    subst hN
    clear hrl hd
    generalize (l.getD 0 0).toNat = x at *
    generalize runL l = r at *
    go_enter Tryz.func120, Tryz.ntmps120
    go_wp2_with fail
    refine R.mono ?_
    rintro ev w2 ⟨rfl, rfl⟩
    go_wp2_with fail
    refine D.mono ?_
    rintro ev w2 ⟨rfl, rfl⟩
    go_wp2_with fail
    go_ret
    exact ⟨rfl, rfl⟩
   ·rw [hd] at D
    rw [if_pos (.inr (.inr hd))] at hN
    subst hN
    clear hrl hd
    generalize (l.getD 0 0).toNat = x at *
    generalize runL l = r at *
    go_enter Tryz.func120, Tryz.ntmps120
    go_wp2_with fail
    refine R.mono ?_
    rintro ev w2 ⟨rfl, rfl⟩
    go_wp2_with fail
    refine D.mono ?_
    rintro ev w2 ⟨rfl, rfl⟩
    go_wp2_with fail
    go_ret
    exact ⟨rfl, rfl⟩
end Go.Proofs.YtldbbkheemnnhaaGreatDoor

namespace Go.Proofs.YtldbbkheemnnhaaGreatDoor
open Go.RowKit
theorem word_cases {l : List UInt8} (h : isWord l = true) : l = [102,110] ∨ l = [115,116,114,117,99,116] ∨ l = [112,117,98] ∨ l = [108,101,116] ∨ l = [109,117,116] ∨ l = [105,102] ∨ l = [101,108,115,101] ∨ l = [119,104,105,108,101] ∨ l = [108,111,111,112] ∨ l = [98,114,101,97,107] ∨ l = [99,111,110,116,105,110,117,101] ∨ l = [114,101,116,117,114,110] ∨ l = [100,114,111,112] ∨ l = [116,114,117,101] ∨ l = [102,97,108,115,101] ∨ l = [105,110,116] ∨ l = [98,111,111,108] := by
 simpa only [isWord, wordsL, List.contains_eq_mem, List.mem_cons, List.not_mem_nil, decide_eq_true_eq, or_false] using h
theorem not_word {l x : List UInt8} (h : isWord l = false) (hx : isWord x = true) : ((str l).toList == x) = false := by
 unfold str
 rw [ByteArray.toList_mk, beq_eq_false_iff_ne]
 rintro rfl
 rw [hx] at h; cases h
set_option maxHeartbeats 4000000 in
set_option maxRecDepth 20000 in
theorem word_any (l : List UInt8) (w : World) : Calls Tryz.prog 121 #[.string (str l)] w fun ev w' => ev = .returned (.bool (isWord l)) /\ w' = w := by
 cases h : isWord l
 ·have h1 : ((str l).toList == [102,110]) = false := not_word h (x := [102,110]) rfl
  have h2 : ((str l).toList == [115,116,114,117,99,116]) = false := not_word h (x := [115,116,114,117,99,116]) rfl
  have h3 : ((str l).toList == [112,117,98]) = false := not_word h (x := [112,117,98]) rfl
  have h4 : ((str l).toList == [108,101,116]) = false := not_word h (x := [108,101,116]) rfl
  have h5 : ((str l).toList == [109,117,116]) = false := not_word h (x := [109,117,116]) rfl
  have h6 : ((str l).toList == [105,102]) = false := not_word h (x := [105,102]) rfl
  have h7 : ((str l).toList == [101,108,115,101]) = false := not_word h (x := [101,108,115,101]) rfl
  have h8 : ((str l).toList == [119,104,105,108,101]) = false := not_word h (x := [119,104,105,108,101]) rfl
  have h9 : ((str l).toList == [108,111,111,112]) = false := not_word h (x := [108,111,111,112]) rfl
  have h10 : ((str l).toList == [98,114,101,97,107]) = false := not_word h (x := [98,114,101,97,107]) rfl
  have h11 : ((str l).toList == [99,111,110,116,105,110,117,101]) = false := not_word h (x := [99,111,110,116,105,110,117,101]) rfl
  have h12 : ((str l).toList == [114,101,116,117,114,110]) = false := not_word h (x := [114,101,116,117,114,110]) rfl
  have h13 : ((str l).toList == [100,114,111,112]) = false := not_word h (x := [100,114,111,112]) rfl
  have h14 : ((str l).toList == [116,114,117,101]) = false := not_word h (x := [116,114,117,101]) rfl
  have h15 : ((str l).toList == [102,97,108,115,101]) = false := not_word h (x := [102,97,108,115,101]) rfl
  have h16 : ((str l).toList == [105,110,116]) = false := not_word h (x := [105,110,116]) rfl
  have h17 : ((str l).toList == [98,111,111,108]) = false := not_word h (x := [98,111,111,108]) rfl
  clear h
  generalize str l = S at *
  go_enter Tryz.func121, Tryz.ntmps121
  go_wp2_with fail
  go_ret
  exact ⟨rfl, rfl⟩
 ·rcases word_cases h with rfl | rfl | rfl | rfl | rfl | rfl | rfl | rfl | rfl | rfl | rfl | rfl | rfl | rfl | rfl | rfl | rfl <;> (clear h; unfold str; go_enter Tryz.func121, Tryz.ntmps121; go_wp2_with fail; go_ret; exact ⟨rfl, rfl⟩)
end Go.Proofs.YtldbbkheemnnhaaGreatDoor

namespace Go.Proofs.YtldbbkheemnnhaaGreatDoor
open Go.RowKit
theorem str_from (l : List UInt8) (a : Nat) : (str l).extract a l.length = str (l.drop a) := by
 unfold str
 rw [ByteArray.extract_mk, List.take_of_length_le (by simp)]
theorem str_to (l : List UInt8) (b : Nat) : (str l).extract 0 b = str (l.take b) := by
 unfold str
 rw [ByteArray.extract_mk]; simp
theorem str_mid (l : List UInt8) (a b : Nat) : (str l).extract a b = str ((l.drop a).take (b - a)) := by
 unfold str
 rw [ByteArray.extract_mk]
def nameB (l : List UInt8) : Bool := decide (l ≠ []) && decide (nameF l = l.length) && !isWord l
theorem str_nil_beq (l : List UInt8) : ((str l).toList == []) = decide (l = []) := by
 unfold str
 rw [ByteArray.toList_mk]
 cases l <;> rfl
set_option maxHeartbeats 4000000 in
theorem name_any (l : List UInt8) (hl : l.length <= 9223372036854775807) (w : World) : Calls Tryz.prog 95 #[.string (str l)] w fun ev w' => ev = .returned (.bool (nameB l)) /\ w' = w := by
 have N := nameSize_any l hl w
 have W := word_any l w
 have hsz := str_size l
 obtain ⟨B, hB⟩ : ∃ B, nameB l = B := ⟨_, rfl⟩
 rw [hB]
 unfold nameB at hB
 have hnil := str_nil_beq l
 by_cases h0 : l = []
 ·subst h0
  simp at hB
  subst hB
  clear N W hnil hsz
  unfold str
  go_enter Tryz.func95, Tryz.ntmps95
  go_wp2_with fail
  go_ret
  exact ⟨rfl, rfl⟩
 ·rw [decide_eq_false h0] at hnil
  by_cases h1 : nameF l = l.length
  ·have HB : Hid ((!isWord l) = B) := by show _ = B; rw [← hB]; simp [h0, h1]
   rw [h1] at N
   have b1 : ((l.length : Int) == (l.length : Int)) = true := by simp
   clear hB h0 h1
   generalize isWord l = I at *
   generalize l.length = n at *
   generalize str l = S at *
   go_enter Tryz.func95, Tryz.ntmps95
   go_wp2_with fail
   refine N.mono ?_
   rintro ev w2 ⟨rfl, rfl⟩
   go_wp2_with fail
   refine W.mono ?_
   rintro ev w2 ⟨rfl, rfl⟩
   go_wp2_with fail
   go_ret
   refine ⟨?_, rfl⟩
   rw [← HB.out]
   first | rfl | simp
  ·have HB : Hid (false = B) := by show _ = B; rw [← hB]; simp [h1]
   have b1 : ((nameF l : Int) == (l.length : Int)) = false := by simp; omega
   have b2 : (nameF l : Int) ≠ (l.length : Int) := by omega
   clear hB h0 h1 W
   generalize nameF l = f at *
   generalize l.length = n at *
   generalize str l = S at *
   go_enter Tryz.func95, Tryz.ntmps95
   go_wp2_with fail
   refine N.mono ?_
   rintro ev w2 ⟨rfl, rfl⟩
   go_wp2_with fail
   go_ret
   refine ⟨?_, rfl⟩
   rw [← HB.out]
   first | rfl | simp [b1, b2]
end Go.Proofs.YtldbbkheemnnhaaGreatDoor

namespace Go.Proofs.YtldbbkheemnnhaaGreatDoor
open Go.RowKit
theorem lt_not_dg {c : UInt8} (h : isLt c = true) : isDg c = false := by
 simp only [isLt, Bool.or_eq_true, Bool.and_eq_true, decide_eq_true_eq] at h
 simp only [isDg, Bool.and_eq_false_imp, decide_eq_true_eq, decide_eq_false_iff_not]
 omega
theorem wp_at_world {P : Program} {c : Code} {Q : Exit -> Act -> World -> Prop} {a : Act} {w w' : World} (e : w = w') (h : Code.wp P c Q a w) : Code.wp P c Q a w' := e ▸ h
theorem wordsL_row (w : World) : Row (w.alloc (.cells #[.string ⟨#[102, 110]⟩, .string ⟨#[115, 116, 114, 117, 99, 116]⟩, .string ⟨#[112, 117, 98]⟩, .string ⟨#[108, 101, 116]⟩, .string ⟨#[109, 117, 116]⟩, .string ⟨#[105, 102]⟩, .string ⟨#[101, 108, 115, 101]⟩, .string ⟨#[119, 104, 105, 108, 101]⟩, .string ⟨#[108, 111, 111, 112]⟩, .string ⟨#[98, 114, 101, 97, 107]⟩, .string ⟨#[99, 111, 110, 116, 105, 110, 117, 101]⟩, .string ⟨#[114, 101, 116, 117, 114, 110]⟩, .string ⟨#[100, 114, 111, 112]⟩, .string ⟨#[116, 114, 117, 101]⟩, .string ⟨#[102, 97, 108, 115, 101]⟩, .string ⟨#[105, 110, 116]⟩, .string ⟨#[98, 111, 111, 108]⟩] 9)) w.heap.size 9 (wordsL.map fun x => .string (str x)) := Row.new w 9 _
theorem words_at (k : Nat) (h : k < 17) : (wordsL.map fun x => Value.string (str x))[k]? = some (.string (str (wordsL.getD k []))) := by
 have : k < wordsL.length := h
 simp [List.getD, List.getElem?_eq_getElem this]
theorem str_beq (a b : List UInt8) : ((str a).toList == (str b).toList) = decide (a = b) := by
 unfold str
 rw [ByteArray.toList_mk, ByteArray.toList_mk]
 by_cases h : a = b
 ·subst h; simp
 ·rw [decide_eq_false h]; simpa using h
set_option maxHeartbeats 4000000 in
set_option maxRecDepth 20000 in
theorem xword_any (l : List UInt8) (w : World) : Calls Tryz.prog 82 #[.string (str l)] w fun ev w' => ev = .returned (.bool (isWord l)) /\ Below w.heap.size w w' := by
 obtain ⟨W, hW⟩ : ∃ W, W = w.alloc (.cells #[.string ⟨#[102, 110]⟩, .string ⟨#[115, 116, 114, 117, 99, 116]⟩, .string ⟨#[112, 117, 98]⟩, .string ⟨#[108, 101, 116]⟩, .string ⟨#[109, 117, 116]⟩, .string ⟨#[105, 102]⟩, .string ⟨#[101, 108, 115, 101]⟩, .string ⟨#[119, 104, 105, 108, 101]⟩, .string ⟨#[108, 111, 111, 112]⟩, .string ⟨#[98, 114, 101, 97, 107]⟩, .string ⟨#[99, 111, 110, 116, 105, 110, 117, 101]⟩, .string ⟨#[114, 101, 116, 117, 114, 110]⟩, .string ⟨#[100, 114, 111, 112]⟩, .string ⟨#[116, 114, 117, 101]⟩, .string ⟨#[102, 97, 108, 115, 101]⟩, .string ⟨#[105, 110, 116]⟩, .string ⟨#[98, 111, 111, 108]⟩] 9) := ⟨_, rfl⟩
 have HC : Hid (∀ k, k < 17 -> W.cell? ⟨w.heap.size, k, none⟩ = some (.string (str (wordsL.getD k [])))) := by
  intro k hk
  rw [hW]
  exact ((wordsL_row w).cell k).trans (words_at k hk)
 have HB : Hid (Below w.heap.size w W) := by
  rw [hW]
  exact (Below.refl _ _).alloc (Nat.le_refl _) _
 have HQ : Hid (∀ k, k < 17 -> ((str (wordsL.getD k [])).toList == (str l).toList) = decide (wordsL.getD k [] = l)) := fun k _ => str_beq _ _
 have AW : Aside (W = w.alloc (.cells #[.string ⟨#[102, 110]⟩, .string ⟨#[115, 116, 114, 117, 99, 116]⟩, .string ⟨#[112, 117, 98]⟩, .string ⟨#[108, 101, 116]⟩, .string ⟨#[109, 117, 116]⟩, .string ⟨#[105, 102]⟩, .string ⟨#[101, 108, 115, 101]⟩, .string ⟨#[119, 104, 105, 108, 101]⟩, .string ⟨#[108, 111, 111, 112]⟩, .string ⟨#[98, 114, 101, 97, 107]⟩, .string ⟨#[99, 111, 110, 116, 105, 110, 117, 101]⟩, .string ⟨#[114, 101, 116, 117, 114, 110]⟩, .string ⟨#[100, 114, 111, 112]⟩, .string ⟨#[116, 114, 117, 101]⟩, .string ⟨#[102, 97, 108, 115, 101]⟩, .string ⟨#[105, 110, 116]⟩, .string ⟨#[98, 111, 111, 108]⟩] 9)) := hW
 clear hW
 obtain ⟨S, hS⟩ : ∃ S, S = str l := ⟨_, rfl⟩
 rw [← hS] at HQ ⊢
 clear hS
 obtain ⟨g, hg⟩ : ∃ g, g = w.heap.size := ⟨_, rfl⟩
 rw [← hg] at HC
 have AG : Aside (g = w.heap.size) := hg
 clear hg
 go_enter Tryz.func82, Tryz.ntmps82
 go_wp2_with fail
 refine wp_at_world AW.out ?_
 rw [← AG.out]
 go_loopw [4] (fun i wr => ∃ k : Nat, k <= 17 /\ i = .int .i64 k /\ (∀ j, j < k -> wordsL.getD j [] ≠ l) /\ wr = W) (fun i _ => 17 - (intOf i).toNat)
 case atStart => exact ⟨0, by omega, rfl, fun j h => by omega, rfl⟩
 case round =>
  obtain ⟨k, hk, rfl, hj, rfl⟩ := hrel
  have HJ : Hid (∀ j, j < k -> wordsL.getD j [] ≠ l) := hj
  clear hj
  by_cases h3 : k < 17
  ·have q := HC.out k h3
   have hb := HQ.out k h3
   have l1 : (k : Int) < 17 := by omega
   by_cases he : wordsL.getD k [] = l
   ·have HP : Hid (isWord l = true) := by
     have hk17 : k < wordsL.length := h3
     show isWord l = true
     rw [← he]
     simp only [isWord, List.contains_eq_mem, decide_eq_true_eq]
     rw [List.getD, List.getElem?_eq_getElem hk17]
     exact List.getElem_mem hk17
    rw [decide_eq_true he] at hb
    clear he
    generalize str (wordsL.getD k []) = S1 at *
    go_wp2_with fail
    go_ret
    exact ⟨by rw [HP.out]; rfl, HB.out⟩
   ·have HP : Hid (∀ j, j < k + 1 -> wordsL.getD j [] ≠ l) := by
     intro j hj
     rcases Nat.lt_or_ge j k with h | h
     ·exact HJ.out j h
     ·obtain rfl : j = k := by omega
      exact he
    rw [decide_eq_false he] at hb
    clear he
    generalize str (wordsL.getD k []) = S1 at *
    go_wp2_with fail
    go_roundw
    case rel => exact ⟨k + 1, by omega, by go_num, HP.out, by trivial⟩
    case measure => simp [intOf]; omega
  ·obtain rfl : k = 17 := by omega
   have HP : Hid (isWord l = false) := by
    show isWord l = false
    cases hh : isWord l
    ·rfl
    ·exfalso
     simp only [isWord, List.contains_eq_mem, decide_eq_true_eq] at hh
     obtain ⟨j, hj, e⟩ := List.getElem_of_mem hh
     exact HJ.out j hj (by rw [List.getD, List.getElem?_eq_getElem hj]; exact e)
   go_wp2_with fail
   go_ret
   exact ⟨by rw [HP.out]; rfl, HB.out⟩
def lifeB (l : List UInt8) : Bool := decide (1 <= l.length) && decide (l.length <= 32) && isLt (l.getD 0 0) && decide (runL l = l.length)
set_option maxHeartbeats 4000000 in
set_option maxRecDepth 20000 in
theorem xlife_any (l : List UInt8) (hl : l.length <= 9223372036854775807) (w : World) : Calls Tryz.prog 83 #[.string (str l)] w fun ev w' => ev = .returned (.bool (lifeB l)) /\ w' = w := by
 have hsz := str_size l
 have R := xrun_any l 0 (by omega) hl w
 rw [List.drop_zero, Nat.zero_add] at R
 have L := letter_any (l.getD 0 0) w
 obtain ⟨B, hB⟩ : ∃ B, lifeB l = B := ⟨_, rfl⟩
 rw [hB]
 unfold lifeB at hB
 by_cases h1 : 1 <= l.length
 ·have hz : 0 < (str l).size := by rw [str_size]; omega
  have hx : ((str l)[0]'hz).toNat = (l.getD 0 0).toNat := by rw [str_at]
  have i1 : (1 : Int) <= (l.length : Int) := by omega
  obtain ⟨S, hS⟩ : ∃ S, S = str l := ⟨_, rfl⟩
  obtain ⟨hz', hx'⟩ : ∃ hz' : 0 < S.size, (S[0]'hz').toNat = (l.getD 0 0).toNat := by rw [hS]; exact ⟨hz, hx⟩
  rw [← hS] at hsz R ⊢
  clear hS hx hz
  by_cases h2 : l.length <= 32
  ·have i2 : (l.length : Int) <= 32 := by omega
   cases h3 : isLt (l.getD 0 0)
   ·rw [h3] at hB L
    obtain rfl : B = false := by rw [← hB]; simp
    clear hB h3 R
    generalize (l.getD 0 0).toNat = x at *
    go_enter Tryz.func83, Tryz.ntmps83
    go_wp2_with fail
    refine L.mono ?_
    rintro ev w2 ⟨rfl, rfl⟩
    go_wp2_with fail
    go_ret
    exact ⟨rfl, rfl⟩
   ·rw [h3] at hB L
    have HB : Hid (((runL l : Int) == (l.length : Int)) = B) := by
     show _ = B
     rw [← hB]
     simp [h1, h2]
     by_cases h : runL l = l.length <;> simp [h] <;> omega
    clear hB h3 h1 h2
    generalize (l.getD 0 0).toNat = x at *
    generalize runL l = r at *
    generalize l.length = n at *
    go_enter Tryz.func83, Tryz.ntmps83
    go_wp2_with fail
    refine L.mono ?_
    rintro ev w2 ⟨rfl, rfl⟩
    go_wp2_with fail
    refine R.mono ?_
    rintro ev w2 ⟨rfl, rfl⟩
    go_wp2_with fail
    go_ret
    refine ⟨?_, rfl⟩
    rw [← HB.out]
    first | rfl | simp
  ·obtain rfl : B = false := by rw [← hB]; simp [h2]
   have i2 : ¬ (l.length : Int) <= 32 := by omega
   clear hB R L h1
   generalize l.length = n at *
   go_enter Tryz.func83, Tryz.ntmps83
   go_wp2_with fail
   go_ret
   refine ⟨?_, rfl⟩
   first | rfl | simp [i2]
 ·obtain rfl : l = [] := List.eq_nil_of_length_eq_zero (by omega)
  obtain rfl : B = false := by rw [← hB]; simp
  clear hB R L h1 hsz
  unfold str
  go_enter Tryz.func83, Tryz.ntmps83
  go_wp2_with fail
  go_ret
  exact ⟨rfl, rfl⟩
theorem life_name (l : List UInt8) : (lifeB l && !isWord l) = nameB l := by
 unfold lifeB nameB
 cases l with
 | nil => rfl
 | cons c t =>
  by_cases h1 : runL (c :: t) = (c :: t).length
  ·have hnm : isNm c = true := by
    cases h : isNm c
    ·simp [runL, h] at h1
    ·rfl
   unfold nameF
   rw [h1]
   have hg : (c :: t).getD 0 0 = c := rfl
   rw [hg]
   by_cases h2 : (c :: t).length <= 32
   ·cases h3 : isLt c
    ·have hdg : isDg c = true := by simpa [isNm, h3] using hnm
     rw [if_pos (.inr (.inr hdg))]
     simp
    ·rw [lt_not_dg h3, if_neg (fun h => by rcases h with h | h | h; simp at h; omega; cases h)]
     simp at h2
     simp [h2]
   ·rw [if_pos (.inr (.inl (by omega)))]
    simp at h2
    simp
    omega
  ·have : nameF (c :: t) ≠ (c :: t).length := by
    unfold nameF
    split
    ·simp
    ·exact h1
   rw [decide_eq_false h1, decide_eq_false this]; simp
set_option maxHeartbeats 4000000 in
theorem xname_any (l : List UInt8) (hl : l.length <= 9223372036854775807) (w : World) : Calls Tryz.prog 65 #[.string (str l)] w fun ev w' => ev = .returned (.bool (nameB l)) /\ Below w.heap.size w w' := by
 have L := xlife_any l hl w
 have X := xword_any l w
 rw [← life_name l]
 generalize str l = S at *
 generalize isWord l = I at *
 cases h : lifeB l
 ·rw [h] at L
  clear h X
  go_enter Tryz.func65, Tryz.ntmps65
  go_wp2_with fail
  refine L.mono ?_
  rintro ev w2 ⟨rfl, rfl⟩
  go_wp2_with fail
  go_ret
  exact ⟨rfl, Below.refl _ _⟩
 ·rw [h] at L
  clear h
  go_enter Tryz.func65, Tryz.ntmps65
  go_wp2_with fail
  refine L.mono ?_
  rintro ev w2 ⟨rfl, rfl⟩
  go_wp2_with fail
  refine X.mono ?_
  rintro ev w3 ⟨rfl, hb⟩
  clear X L
  go_wp2_with fail
  go_ret
  refine ⟨?_, hb⟩
  first | rfl | simp
end Go.Proofs.YtldbbkheemnnhaaGreatDoor
