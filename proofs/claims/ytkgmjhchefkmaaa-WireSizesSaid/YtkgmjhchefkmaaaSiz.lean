/-
  WireSizes answers true, whatever the two numbers.
-/
import Derived.Test.YtkgmjhchefkmaaaTld
namespace Go.Proofs.Ytkgmjhchefkmaaa
open Go.RowKit

theorem ret_b {b : Bool} (h : b = true) : Ending.returned (.bool b) = .returned (.bool true) := by rw [h]

/-- How many groups there are above the first one. -/
def cnt (x : Nat) : Nat := if x = 0 then 0 else (enc x).length
theorem cnt_step {x : Nat} (h : 0 < x) : cnt x = cnt (x / 128) + 1 := by
  unfold cnt
  rw [if_neg (by omega)]
  by_cases h1 : x < 128
  · rw [enc_lt h1, if_pos (by omega)]; rfl
  · rw [enc_ge h1, if_neg (by omega)]; rfl
theorem cnt_first (x : Nat) : (enc x).length = cnt (x / 128) + 1 := by
  by_cases h : 0 < x
  · rw [← cnt_step h]; unfold cnt; rw [if_neg (by omega)]
  · obtain rfl : x = 0 := by omega
    rw [enc_lt (by omega)]; rfl

theorem half_in {b : Int} (h1 : -9223372036854775808 ≤ b) (h2 : b ≤ 9223372036854775807) : -9223372036854775808 ≤ b.tdiv 2 ∧ b.tdiv 2 ≤ 9223372036854775807 := by
  rcases Int.lt_or_le b 0 with h | h
  · have e : b.tdiv 2 = -((-b) / 2) := by
      rw [show b = -(-b) by omega, Int.neg_tdiv, Int.neg_neg, Int.tdiv_eq_ediv_of_nonneg (by omega)]
    rw [e]; omega
  · rw [Int.tdiv_eq_ediv_of_nonneg h]; omega

set_option maxHeartbeats 4000000 in
set_option maxRecDepth 20000 in
theorem sizes_walk (a : Nat) (b : Int) (w : World) (ha : a < 18446744073709551616) (h1 : -9223372036854775808 ≤ b) (h2 : b ≤ 9223372036854775807) :
    Calls Try.prog 8 #[.int .u64 (a : Int), .int .i64 b] w fun ev w' => ev = .returned (.bool true) ∧ Below w.heap.size w w' := by
  have hla := enc_len_10 ha
  have hlb := enc_len_10 (zig_lt h1 h2)
  have hb1 : -9223372036854775808 ≤ b.tdiv 2 ∧ b.tdiv 2 ≤ 9223372036854775807 := half_in h1 h2
  have hlc := enc_len_mono _ _ (zig_half b)
  have HF : Hid ((enc a).length = cnt (a / 128) + 1) := cnt_first a
  go_enter Try.func8, Try.ntmps8
  go_wp2_with fail
  refine (newWriter_any w).mono ?_
  rintro ev w1 ⟨rfl, hW1, hB1⟩
  have C1 := wUint_any w.heap.size w.heap.size a _ [] w1 hW1 ha (by simp)
  rw [List.nil_append] at C1
  have A1 : Aside (Wr w.heap.size w1 w.heap.size (.slice none 0 0) []) := hW1
  clear hW1
  go_wp2_with fail
  refine C1.mono ?_
  rintro ev w2 ⟨rfl, v2, hW2, hm2⟩
  have hb2 := hm2.below A1.out
  clear hm2 A1
  have hB2 := hB1.trans hb2
  have A2 : Aside (Wr w.heap.size w2 w.heap.size v2 (enc a)) := hW2
  clear hB1 hb2 hW2 C1
  go_wp2_with fail
  go_loop [6, 7] (fun u x => ∃ n y : Nat, u = .int .i64 (n : Int) ∧ x = .int .u64 (y : Int) ∧ n + cnt y = (enc a).length ∧ y < 18446744073709551616) (fun _ x => (intOf x).toNat)
  case atStart => exact ⟨1, a / 128, rfl, by go_num, by have := HF.out; omega, by omega⟩
  case round =>
    obtain ⟨n, y, rfl, rfl, hn, hy⟩ := hrel
    by_cases hy0 : 0 < y
    · have HS : Hid (cnt y = cnt (y / 128) + 1) := cnt_step hy0
      have hn10 : n ≤ 10 := by omega
      have HN : Hid (n + cnt y = (enc a).length) := hn
      clear hn
      go_wp2_with fail
      go_round
      case rel => exact ⟨n + 1, y / 128, by go_num, by go_num, by have := HS.out; have := HN.out; omega, by omega⟩
      case measure => simp [intOf]; omega
    · have HN : Hid ((enc a).length = n) := by
        show _ = _
        have : cnt y = 0 := by unfold cnt; rw [if_pos (by omega)]
        omega
      clear hn HF
      go_wp2_with fail
      refine (newWriter_any w2).mono ?_
      rintro ev w3 ⟨rfl, hW3, hb3⟩
      have C3 := wInt_any w2.heap.size w2.heap.size b _ [] w3 hW3 h1 h2 (by simp)
      rw [List.nil_append] at C3
      have A3 : Aside (Wr w2.heap.size w3 w2.heap.size (.slice none 0 0) []) := hW3
      clear hW3
      go_wp2_with fail
      refine C3.mono ?_
      rintro ev w4 ⟨rfl, v4, hW4, hm4⟩
      have hb4 := hm4.below A3.out
      clear hm4 A3
      have hb24 := hb3.trans hb4
      have A4 : Aside (Wr w2.heap.size w4 w2.heap.size v4 (enc (zig b))) := hW4
      clear hb3 hb4 hW4 C3
      go_wp2_with fail
      refine (newWriter_any w4).mono ?_
      rintro ev w5 ⟨rfl, hW5, hb5⟩
      have C5 := wInt_any w4.heap.size w4.heap.size (b.tdiv 2) _ [] w5 hW5 hb1.1 hb1.2 (by simp)
      rw [List.nil_append] at C5
      have A5 : Aside (Wr w4.heap.size w5 w4.heap.size (.slice none 0 0) []) := hW5
      clear hW5
      go_wp2_with fail
      refine C5.mono ?_
      rintro ev w6 ⟨rfl, v6, hW6, hm6⟩
      have hb6 := hm6.below A5.out
      clear hm6 A5
      have hb46 := hb5.trans hb6
      have A6 : Aside (Wr w4.heap.size w6 w4.heap.size v6 (enc (zig (b.tdiv 2)))) := hW6
      clear hb5 hb6 hW6 C5
      go_wp2_with fail
      refine (tell_any w6).mono ?_
      rintro ev w7 ⟨rfl, hb7⟩
      have W2 : Aside (Wr w.heap.size w7 w.heap.size v2 (enc a)) := ((A2.out.past hb24).past hb46).past hb7
      have W4 : Aside (Wr w2.heap.size w7 w2.heap.size v4 (enc (zig b))) := (A4.out.past hb46).past hb7
      have W6 : Aside (Wr w4.heap.size w7 w4.heap.size v6 (enc (zig (b.tdiv 2)))) := A6.out.past hb7
      have hB7 : Below w.heap.size w w7 := hB2.trans ((hb24.trans ((hb46.trans (hb7.mono hb46.size)).mono hb24.size)).mono hB2.size)
      clear A2 A4 A6 hb24 hb46 hb7 hB2
      have C7 := wBytes_any _ _ _ _ _ W2.out (by omega)
      go_wp2_with fail
      refine C7.mono ?_
      rintro ev w8 ⟨v8, rfl, hown8, hb8⟩
      rw [HN.out] at hown8
      obtain ⟨ao8, cap8, rfl⟩ := own_shape hown8
      have W4' : Aside (Wr w2.heap.size w8 w2.heap.size v4 (enc (zig b))) := W4.out.past hb8
      have C8 := wBytes_any _ _ _ _ _ (W6.out.past hb8) (by omega)
      have hB8 := hB7.trans (hb8.mono hB7.size)
      clear hown8 hb8 hB7 W2 W4 W6 C7
      go_wp2_with fail
      refine C8.mono ?_
      rintro ev w9 ⟨v9, rfl, hown9, hb9⟩
      obtain ⟨ao9, cap9, rfl⟩ := own_shape hown9
      have W4 : Aside (Wr w2.heap.size w9 w2.heap.size v4 (enc (zig b))) := W4'.out.past hb9
      have C9 := wBytes_any _ _ _ _ _ W4.out (by omega)
      have hB9 := hB8.trans (hb9.mono hB8.size)
      clear hown9 hb9 hB8 W4' C8
      go_wp2_with fail
      refine C9.mono ?_
      rintro ev w10 ⟨v10, rfl, hown10, hb10⟩
      obtain ⟨ao10, cap10, rfl⟩ := own_shape hown10
      have C10 := wBytes_any _ _ _ _ _ (W4.out.past hb10) (by omega)
      have hB10 := hB9.trans (hb10.mono hB9.size)
      clear hown10 hb10 hB9 W4 C9
      go_wp2_with fail
      refine C10.mono ?_
      rintro ev w11 ⟨v11, rfl, hown11, hb11⟩
      obtain ⟨ao11, cap11, rfl⟩ := own_shape hown11
      have hB11 := hB10.trans (hb11.mono hB10.size)
      clear hown11 hb11 hB10 C10
      go_wp2_with fail
      go_ret
      exact ⟨ret_b (by rw [decide_eq_true_eq]; omega), hB11⟩
end Go.Proofs.Ytkgmjhchefkmaaa
