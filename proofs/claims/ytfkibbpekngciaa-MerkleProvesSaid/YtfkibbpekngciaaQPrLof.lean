/-
  How many leaves are on the left side: the length of a number in bits.
-/
import Derived.Test.YtfkibbpekngciaaJoinNum2xPr
import Derived.Test.YtfkibbpekngciaaQPrMat
namespace Go.Proofs.Ytfkibbpekngciaa
open Go.RowKit

def lenTab : ByteArray := ⟨#[0, 1, 2, 2, 3, 3, 3, 3, 4, 4, 4, 4, 4, 4, 4, 4, 5, 5, 5, 5, 5, 5, 5, 5, 5, 5, 5, 5, 5, 5, 5, 5, 6, 6, 6, 6, 6, 6, 6, 6, 6, 6, 6, 6, 6, 6, 6, 6, 6, 6, 6, 6, 6, 6, 6, 6, 6, 6, 6, 6, 6, 6, 6, 6, 7, 7, 7, 7, 7, 7, 7, 7, 7, 7, 7, 7, 7, 7, 7, 7, 7, 7, 7, 7, 7, 7, 7, 7, 7, 7, 7, 7, 7, 7, 7, 7, 7, 7, 7, 7, 7, 7, 7, 7, 7, 7, 7, 7, 7, 7, 7, 7, 7, 7, 7, 7, 7, 7, 7, 7, 7, 7, 7, 7, 7, 7, 7, 7, 8, 8, 8, 8, 8, 8, 8, 8, 8, 8, 8, 8, 8, 8, 8, 8, 8, 8, 8, 8, 8, 8, 8, 8, 8, 8, 8, 8, 8, 8, 8, 8, 8, 8, 8, 8, 8, 8, 8, 8, 8, 8, 8, 8, 8, 8, 8, 8, 8, 8, 8, 8, 8, 8, 8, 8, 8, 8, 8, 8, 8, 8, 8, 8, 8, 8, 8, 8, 8, 8, 8, 8, 8, 8, 8, 8, 8, 8, 8, 8, 8, 8, 8, 8, 8, 8, 8, 8, 8, 8, 8, 8, 8, 8, 8, 8, 8, 8, 8, 8, 8, 8, 8, 8, 8, 8, 8, 8, 8, 8, 8, 8, 8, 8, 8, 8, 8, 8, 8, 8, 8, 8, 8, 8, 8, 8, 8, 8]⟩
theorem lenTab_size : lenTab.size = 256 := by kernel_rfl
theorem lenTab_all : (List.range 256).all (fun y => (lenTab.data[y]?.map (·.toNat)) == some (if y = 0 then 0 else Nat.log2 y + 1)) = true := by kernel_rfl
theorem lenTab_at (y : Nat) (h : y < lenTab.size) (h0 : 1 ≤ y) : (lenTab[y]).toNat = Nat.log2 y + 1 := by
  have hs : lenTab.size = 256 := lenTab_size
  have := List.all_eq_true.1 lenTab_all y (by simp; omega)
  rw [if_neg (by omega)] at this
  have e : lenTab.data[y]? = some lenTab[y] := Array.getElem?_eq_getElem (xs := lenTab.data) (by exact h)
  rw [e] at this
  simpa using this
theorem log2_shift (x s t : Nat) (h : 2 ^ t ≤ x / 2 ^ s) (h2 : x / 2 ^ s < 2 ^ (t + 1)) : Nat.log2 x = s + t := by
  have hp : 0 < 2 ^ s := Nat.two_pow_pos s
  have a1 : 2 ^ (s + t) ≤ x := by
    rw [Nat.pow_add, Nat.mul_comm]; exact (Nat.le_div_iff_mul_le hp).1 h
  have a2 : x < 2 ^ (s + t + 1) := by
    rw [Nat.add_assoc, Nat.pow_add, Nat.mul_comm]; exact (Nat.div_lt_iff_lt_mul hp).1 h2
  have h0 : x ≠ 0 := by have := Nat.two_pow_pos (s + t); omega
  exact (Nat.log2_eq_iff h0).2 ⟨a1, a2⟩
theorem log2_down (x s y : Nat) (hy : x / 2 ^ s = y) (h0 : 1 ≤ y) : Nat.log2 x = s + Nat.log2 y := by
  refine log2_shift x s (Nat.log2 y) ?_ ?_
  · rw [hy]; exact Nat.log2_self_le (by omega)
  · rw [hy]; exact Nat.lt_log2_self
theorem len_end (s : Nat) (n : Nat) (x : Int) (y : Nat) (hn : 2 ^ s = n) (hy : x.toNat / n = y) (h0 : 1 ≤ y) (hs : s ≤ 56) (h : y < lenTab.size) : wrap64 ((s : Int) + wrap64 ((lenTab[y]).toNat : Int)) = ((Nat.log2 x.toNat + 1 : Nat) : Int) := by
  rw [lenTab_at y h h0, log2_down x.toNat s y (by rw [hn]; exact hy) h0]
  have hl : Nat.log2 y < 64 := by
    have h1 := Nat.log2_self_le (n := y) (by omega)
    have h2 : y < 256 := by rw [lenTab_size] at h; exact h
    rcases Nat.lt_or_ge (Nat.log2 y) 64 with h | h
    · exact h
    · have := Nat.pow_le_pow_right (n := 2) (by omega) h
      omega
  unfold wrap64
  omega
theorem len_end0 (x : Int) (y : Nat) (hy : x.toNat = y) (h0 : 1 ≤ y) (h : y < lenTab.size) : wrap64 (wrap64 ((lenTab[y]).toNat : Int)) = ((Nat.log2 x.toNat + 1 : Nat) : Int) := by
  have := len_end 0 1 x y rfl (by omega) h0 (by omega) h
  rwa [show (((0 : Nat) : Int) + wrap64 ((lenTab[y]).toNat : Int)) = wrap64 ((lenTab[y]).toNat : Int) by omega] at this
set_option maxHeartbeats 4000000 in
set_option maxRecDepth 20000 in
theorem len64_000 (w : World) (x : Int) (h0 : 1 ≤ x) (h9 : x < 18446744073709551616) (g0 : x < 4294967296) (g1 : x < 65536) (g2 : x < 256) : Calls Try.prog 63 #[.int .u64 x] w fun ev w' => ev = .returned (.int .i64 ((Nat.log2 x.toNat + 1 : Nat) : Int)) ∧ w' = w := by
  have hz : (0 : Int) ≤ x := by omega
  obtain ⟨y, HY⟩ : ∃ y : Int, Hid (y = ((Nat.log2 x.toNat + 1 : Nat) : Int)) := ⟨_, rfl⟩
  rw [← HY.out]
  go_enter Try.func63, Try.ntmps63
  go_wp2_with fail
  go_ret
  refine ⟨congrArg (fun n => Ending.returned (.int .i64 n)) ?_, rfl⟩
  rw [HY.out]
  exact len_end0 x (x).toNat rfl (by omega) _
set_option maxHeartbeats 4000000 in
set_option maxRecDepth 20000 in
theorem len64_001 (w : World) (x : Int) (h0 : 1 ≤ x) (h9 : x < 18446744073709551616) (g0 : x < 4294967296) (g1 : x < 65536) (g2 : (256 : Int) ≤ x) : Calls Try.prog 63 #[.int .u64 x] w fun ev w' => ev = .returned (.int .i64 ((Nat.log2 x.toNat + 1 : Nat) : Int)) ∧ w' = w := by
  have hz : (0 : Int) ≤ x := by omega
  obtain ⟨y, HY⟩ : ∃ y : Int, Hid (y = ((Nat.log2 x.toNat + 1 : Nat) : Int)) := ⟨_, rfl⟩
  rw [← HY.out]
  go_enter Try.func63, Try.ntmps63
  go_wp2_with fail
  go_ret
  refine ⟨congrArg (fun n => Ending.returned (.int .i64 n)) ?_, rfl⟩
  rw [HY.out]
  exact len_end 8 256 x (x / 256).toNat (by decide) (by omega) (by omega) (by omega) _
set_option maxHeartbeats 4000000 in
set_option maxRecDepth 20000 in
theorem len64_010 (w : World) (x : Int) (h0 : 1 ≤ x) (h9 : x < 18446744073709551616) (g0 : x < 4294967296) (g1 : (65536 : Int) ≤ x) (g2 : x / 65536 < 256) : Calls Try.prog 63 #[.int .u64 x] w fun ev w' => ev = .returned (.int .i64 ((Nat.log2 x.toNat + 1 : Nat) : Int)) ∧ w' = w := by
  have hz : (0 : Int) ≤ x := by omega
  obtain ⟨y, HY⟩ : ∃ y : Int, Hid (y = ((Nat.log2 x.toNat + 1 : Nat) : Int)) := ⟨_, rfl⟩
  rw [← HY.out]
  go_enter Try.func63, Try.ntmps63
  go_wp2_with fail
  go_ret
  refine ⟨congrArg (fun n => Ending.returned (.int .i64 n)) ?_, rfl⟩
  rw [HY.out]
  exact len_end 16 65536 x (x / 65536).toNat (by decide) (by omega) (by omega) (by omega) _
set_option maxHeartbeats 4000000 in
set_option maxRecDepth 20000 in
theorem len64_011 (w : World) (x : Int) (h0 : 1 ≤ x) (h9 : x < 18446744073709551616) (g0 : x < 4294967296) (g1 : (65536 : Int) ≤ x) (g2 : (256 : Int) ≤ x / 65536) : Calls Try.prog 63 #[.int .u64 x] w fun ev w' => ev = .returned (.int .i64 ((Nat.log2 x.toNat + 1 : Nat) : Int)) ∧ w' = w := by
  have hz : (0 : Int) ≤ x := by omega
  obtain ⟨y, HY⟩ : ∃ y : Int, Hid (y = ((Nat.log2 x.toNat + 1 : Nat) : Int)) := ⟨_, rfl⟩
  rw [← HY.out]
  go_enter Try.func63, Try.ntmps63
  go_wp2_with fail
  go_ret
  refine ⟨congrArg (fun n => Ending.returned (.int .i64 n)) ?_, rfl⟩
  rw [HY.out]
  exact len_end 24 16777216 x (x / 65536 / 256).toNat (by decide) (by omega) (by omega) (by omega) _
set_option maxHeartbeats 4000000 in
set_option maxRecDepth 20000 in
theorem len64_100 (w : World) (x : Int) (h0 : 1 ≤ x) (h9 : x < 18446744073709551616) (g0 : (4294967296 : Int) ≤ x) (_g1 : x / 4294967296 < 65536) (g2 : x / 4294967296 < 256) : Calls Try.prog 63 #[.int .u64 x] w fun ev w' => ev = .returned (.int .i64 ((Nat.log2 x.toNat + 1 : Nat) : Int)) ∧ w' = w := by
  have hz : (0 : Int) ≤ x := by omega
  obtain ⟨y, HY⟩ : ∃ y : Int, Hid (y = ((Nat.log2 x.toNat + 1 : Nat) : Int)) := ⟨_, rfl⟩
  rw [← HY.out]
  go_enter Try.func63, Try.ntmps63
  go_wp2_with fail
  go_ret
  refine ⟨congrArg (fun n => Ending.returned (.int .i64 n)) ?_, rfl⟩
  rw [HY.out]
  exact len_end 32 4294967296 x (x / 4294967296).toNat (by decide) (by omega) (by omega) (by omega) _
set_option maxHeartbeats 4000000 in
set_option maxRecDepth 20000 in
theorem len64_101 (w : World) (x : Int) (h0 : 1 ≤ x) (h9 : x < 18446744073709551616) (g0 : (4294967296 : Int) ≤ x) (g1 : x / 4294967296 < 65536) (g2 : (256 : Int) ≤ x / 4294967296) : Calls Try.prog 63 #[.int .u64 x] w fun ev w' => ev = .returned (.int .i64 ((Nat.log2 x.toNat + 1 : Nat) : Int)) ∧ w' = w := by
  have hz : (0 : Int) ≤ x := by omega
  obtain ⟨y, HY⟩ : ∃ y : Int, Hid (y = ((Nat.log2 x.toNat + 1 : Nat) : Int)) := ⟨_, rfl⟩
  rw [← HY.out]
  go_enter Try.func63, Try.ntmps63
  go_wp2_with fail
  go_ret
  refine ⟨congrArg (fun n => Ending.returned (.int .i64 n)) ?_, rfl⟩
  rw [HY.out]
  exact len_end 40 1099511627776 x (x / 4294967296 / 256).toNat (by decide) (by omega) (by omega) (by omega) _
set_option maxHeartbeats 4000000 in
set_option maxRecDepth 20000 in
theorem len64_110 (w : World) (x : Int) (h0 : 1 ≤ x) (h9 : x < 18446744073709551616) (g0 : (4294967296 : Int) ≤ x) (g1 : (65536 : Int) ≤ x / 4294967296) (g2 : x / 4294967296 / 65536 < 256) : Calls Try.prog 63 #[.int .u64 x] w fun ev w' => ev = .returned (.int .i64 ((Nat.log2 x.toNat + 1 : Nat) : Int)) ∧ w' = w := by
  have hz : (0 : Int) ≤ x := by omega
  obtain ⟨y, HY⟩ : ∃ y : Int, Hid (y = ((Nat.log2 x.toNat + 1 : Nat) : Int)) := ⟨_, rfl⟩
  rw [← HY.out]
  go_enter Try.func63, Try.ntmps63
  go_wp2_with fail
  go_ret
  refine ⟨congrArg (fun n => Ending.returned (.int .i64 n)) ?_, rfl⟩
  rw [HY.out]
  exact len_end 48 281474976710656 x (x / 4294967296 / 65536).toNat (by decide) (by omega) (by omega) (by omega) _
set_option maxHeartbeats 4000000 in
set_option maxRecDepth 20000 in
theorem len64_111 (w : World) (x : Int) (h0 : 1 ≤ x) (h9 : x < 18446744073709551616) (g0 : (4294967296 : Int) ≤ x) (g1 : (65536 : Int) ≤ x / 4294967296) (g2 : (256 : Int) ≤ x / 4294967296 / 65536) : Calls Try.prog 63 #[.int .u64 x] w fun ev w' => ev = .returned (.int .i64 ((Nat.log2 x.toNat + 1 : Nat) : Int)) ∧ w' = w := by
  have hz : (0 : Int) ≤ x := by omega
  obtain ⟨y, HY⟩ : ∃ y : Int, Hid (y = ((Nat.log2 x.toNat + 1 : Nat) : Int)) := ⟨_, rfl⟩
  rw [← HY.out]
  go_enter Try.func63, Try.ntmps63
  go_wp2_with fail
  go_ret
  refine ⟨congrArg (fun n => Ending.returned (.int .i64 n)) ?_, rfl⟩
  rw [HY.out]
  exact len_end 56 72057594037927936 x (x / 4294967296 / 65536 / 256).toNat (by decide) (by omega) (by omega) (by omega) _
theorem len64_any (w : World) (x : Int) (h0 : 1 ≤ x) (h9 : x < 18446744073709551616) : Calls Try.prog 63 #[.int .u64 x] w fun ev w' => ev = .returned (.int .i64 ((Nat.log2 x.toNat + 1 : Nat) : Int)) ∧ w' = w := by
  by_cases a : (4294967296 : Int) ≤ x
  · by_cases b : (65536 : Int) ≤ x / 4294967296
    · by_cases c : (256 : Int) ≤ x / 4294967296 / 65536
      · exact len64_111 w x h0 h9 a b c
      · exact len64_110 w x h0 h9 a b (by omega)
    · by_cases c : (256 : Int) ≤ x / 4294967296
      · exact len64_101 w x h0 h9 a (by omega) c
      · exact len64_100 w x h0 h9 a (by omega) (by omega)
  · by_cases b : (65536 : Int) ≤ x
    · by_cases c : (256 : Int) ≤ x / 65536
      · exact len64_011 w x h0 h9 (by omega) b c
      · exact len64_010 w x h0 h9 (by omega) b (by omega)
    · by_cases c : (256 : Int) ≤ x
      · exact len64_001 w x h0 h9 (by omega) (by omega) c
      · exact len64_000 w x h0 h9 (by omega) (by omega) (by omega)
set_option maxHeartbeats 1000000 in
theorem len_any (w : World) (x : Int) (h0 : 1 ≤ x) (h9 : x < 18446744073709551616) : Calls Try.prog 60 #[.int .u64 x] w fun ev w' => ev = .returned (.int .i64 ((Nat.log2 x.toNat + 1 : Nat) : Int)) ∧ w' = w := by
  have H := len64_any w x h0 h9
  generalize ((Nat.log2 x.toNat + 1 : Nat) : Int) = y at *
  go_enter Try.func60, Try.ntmps60
  go_wp2_with (go_at_call 63; refine H.mono ?_; rintro ev w1 ⟨rfl, rfl⟩)
  go_ret
  exact ⟨rfl, rfl⟩
theorem log2_62 (n : Nat) (h : n < 9223372036854775808) : Nat.log2 n ≤ 62 := by
  rcases Nat.lt_or_ge 62 (Nat.log2 n) with h1 | h1
  · have h0 : n ≠ 0 := fun e => by subst e; simp at h1
    have h2 := Nat.log2_self_le h0
    have := Nat.pow_le_pow_right (n := 2) (by omega) h1
    omega
  · exact h1
set_option maxHeartbeats 1000000 in
/-- How many leaves are on the left side. -/
theorem left_any (w : World) (n : Nat) (h0 : 2 ≤ n) (h9 : n ≤ 9223372036854775807) : Calls Try.prog 52 #[.int .i64 (n : Int)] w fun ev w' => ev = .returned (.int .i64 (half n : Int)) ∧ w' = w := by
  have H := len_any w ((n : Int) - 1) (by omega) (by omega)
  have e : ((n : Int) - 1).toNat = n - 1 := by omega
  rw [e] at H
  have hl := log2_62 (n - 1) (by omega)
  have hh := half_le n h0
  have HH : Hid (half n = 2 ^ Nat.log2 (n - 1)) := rfl
  generalize half n = m at *
  generalize Nat.log2 (n - 1) = k at *
  have e2 : ((k + 1 : Nat) : Int) = (k : Int) + 1 := by omega
  rw [e2] at H
  have hn : (2 : Int) ≤ n := by omega
  have hn2 : (n : Int) ≤ 9223372036854775807 := by omega
  have hk : (k : Int) ≤ 62 := by omega
  have hw : IntKind.u64.wrap ((n : Int) - 1) = (n : Int) - 1 := by rw [IntKind.wrap_u64]; omega
  clear e2 e
  go_enter Try.func52, Try.ntmps52
  go_wp2_with (go_at_call 60; refine H.mono ?_; rintro ev w1 ⟨rfl, rfl⟩)
  go_ret
  refine ⟨congrArg (fun n => Ending.returned (.int .i64 n)) ?_, rfl⟩
  have e3 : (2 : Int) ^ k = (m : Int) := by rw [HH.out]; simp
  rw [e3]
  unfold wrap64
  omega
end Go.Proofs.Ytfkibbpekngciaa
