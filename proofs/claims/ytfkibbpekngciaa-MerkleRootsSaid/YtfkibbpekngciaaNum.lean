/-
  The words of 32 bits: turning, the four mixings, and the contracts of the small functions that turn a word.
-/
import Derived.Test.YtfkibbpekngciaaRows
import Derived.WalkKit
import Derived.WalkSpells
import Derived.WalkLawsBesides
import Derived.Maps.AppendAt
import Derived.Laws.IdiomStrings
import Derived.Laws.BitsAllLaws
import Derived.Deep.QuietTactic
import Derived.BigQuiet
import Derived.Deep.RegionHeld
import Derived.Deep.DrawnRows
import Derived.Deep.LoopGhost
namespace Go.Proofs.Ytfkibbpekngciaa
open Go.RowKit

/-- x turned right by n. -/
def rotr (x : Int) (n : Nat) : Int := bits .or .u32 (x / 2 ^ n) (x * 2 ^ (32 - n) % 4294967296)

theorem or_comm32 (a b : Int) : bits .or .u32 a b = bits .or .u32 b a := by
  simp only [bits, BitVec.or_comm]

theorem low_of_neg (n : Nat) (h0 : 0 < n) (h1 : n < 32) : bits .and .u64 (IntKind.u64.wrap (-(n : Int))) 31 = ((32 - n : Nat) : Int) := by
  have e : IntKind.u64.wrap (-(n : Int)) = ((18446744073709551616 - n : Nat) : Int) := by
    have : IntKind.u64.wrap (-(n : Int)) = (-(n : Int)) % 18446744073709551616 := by simp [IntKind.wrap, IntKind.bits, IntKind.signed]
    rw [this]; omega
  have h := u64_and_nat (18446744073709551616 - n) 31 (by omega) (by omega)
  rw [e]
  refine h.trans ?_
  rw [nat_mask5]
  congr 1
  omega

set_option maxHeartbeats 1000000 in
theorem rot_any (x : Int) (n : Nat) (h0 : 0 < n) (h1 : n < 32) (w : World) : Calls Try.prog 64 #[.int .u32 x, .int .i64 (-(n : Int))] w fun ev w' => ev = .returned (.int .u32 (rotr x n)) ∧ w' = w := by
  have h := low_of_neg n h0 h1
  have hs : 18446744073709551616 ≤ 0 ∨ IntKind.u64.wrap (32 - ((32 - n : Nat) : Int)) = (n : Int) := by
    right
    have : IntKind.u64.wrap (32 - ((32 - n : Nat) : Int)) = (32 - ((32 - n : Nat) : Int)) % 18446744073709551616 := by simp [IntKind.wrap, IntKind.bits, IntKind.signed]
    rw [this]; omega
  have hs' := hs.resolve_left (by omega)
  obtain ⟨m, hm⟩ : ∃ m : Nat, m = 32 - n := ⟨_, rfl⟩
  rw [← hm] at h hs'
  have hm1 : m < 32 := by omega
  have hr : rotr x n = bits .or .u32 (x * 2 ^ m % 4294967296) (x / 2 ^ n) := by rw [rotr, or_comm32, hm]
  clear hs
  go_enter Try.func64, Try.ntmps64
  go_wp2
  go_ret
  refine ⟨?_, rfl⟩
  rw [hr, hm]
  simp
  rw [show 32 - (32 - n) = n by omega]

set_option maxHeartbeats 1000000 in
theorem turned_any (x : Int) (n : Nat) (k : Int) (hk : k = n) (h0 : 0 < n) (h1 : n < 32) (w : World) : Calls Try.prog 61 #[.int .u32 x, .int .i64 k] w fun ev w' => ev = .returned (.int .u32 (rotr x n)) ∧ w' = w := by
  subst hk
  have hn : IntKind.i64.wrap (-(n : Int)) = -(n : Int) := by rw [IntKind.wrap_i64]; omega
  have H := rot_any x n h0 h1 w
  go_enter Try.func61, Try.ntmps61
  go_wp2_with fail
  refine H.mono ?_
  rintro ev w' ⟨rfl, rfl⟩
  go_wp2
  go_ret
  exact ⟨rfl, rfl⟩

set_option maxHeartbeats 1000000 in
theorem turn_any (x : Int) (n : Nat) (k : Int) (hk : k = n) (h0 : 0 < n) (h1 : n < 32) (w : World) : Calls Try.prog 35 #[.int .u32 x, .int .i64 k] w fun ev w' => ev = .returned (.int .u32 (rotr x n)) ∧ w' = w := by
  subst hk
  go_enter Try.func35, Try.ntmps35
  go_wp2
  go_ret
  refine ⟨?_, rfl⟩
  rw [rotr]
  simp

end Go.Proofs.Ytfkibbpekngciaa
