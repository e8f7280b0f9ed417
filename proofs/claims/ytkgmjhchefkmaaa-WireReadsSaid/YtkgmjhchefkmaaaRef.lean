/-
  The document's own answer to what is written: Uint, Int, Bool, Text, Hash.
-/
import Derived.Test.YtkgmjhchefkmaaaWri
namespace Go.Proofs.Ytkgmjhchefkmaaa
open Go.RowKit

/-- Bytes as a string. -/
def str (l : List UInt8) : ByteArray := ⟨l.toArray⟩
theorem str_size (l : List UInt8) : (str l).size = l.length := by simp [str, ByteArray.size]
theorem str_list (l : List UInt8) : (str l).data.toList = l := rfl
theorem str_of (s : ByteArray) : str s.data.toList = s := by cases s; simp [str]
theorem str_app (l m : List UInt8) : str l ++ str m = str (l ++ m) := by
  cases h : str l ++ str m with
  | mk d => 
    have := congrArg ByteArray.data h
    simp [str] at this ⊢
    exact this.symm

theorem conv_one (w : World) (b : UInt8) (y : Int) (hy : y = (b.toNat : Int)) : (convert 32 9 (.slice (some ⟨w.heap.size, 0, none⟩) 1 1)).run Try.prog (w.alloc (.cells #[.int .u8 y] 5)) = .ok (.string (str [b])) (w.alloc (.cells #[.int .u8 y] 5)) := by
  subst hy
  refine run_convert_bytes_back _ 32 9 5 ⟨w.heap.size, 0, none⟩ 1 [b] Try.underlying32 Try.underlying5 Try.underlying9 ?_
  intro j hj
  obtain rfl : j = 0 := by simp at hj; exact hj
  exact cell_new w b 0 _ rfl

theorem conv_at (w : World) (g : Nat) (b : UInt8) (y : Int) (hy : y = (b.toNat : Int)) (h : w.cell? ⟨g, 0, none⟩ = some (.int .u8 y)) : (convert 32 9 (.slice (some ⟨g, 0, none⟩) 1 1)).run Try.prog w = .ok (.string (str [b])) w := by
  subst hy
  refine run_convert_bytes_back _ 32 9 5 ⟨g, 0, none⟩ 1 [b] Try.underlying32 Try.underlying5 Try.underlying9 ?_
  intro j hj
  obtain rfl : j = 0 := by simp at hj; exact hj
  exact h

theorem more_byte' (n : Nat) (hn : n < 18446744073709551616) : bits .or .u8 (IntKind.u8.wrap (bits .and .u64 (n : Int) 127)) 128 = (((UInt8.ofNat (n % 128 + 128)).toNat : Nat) : Int) := by
  have e1 : bits .and .u64 (n : Int) 127 = ((n % 128 : Nat) : Int) := by
    refine (bits_and_u64_nat n 127 hn (by omega)).trans ?_
    rw [show n &&& 127 = n % 128 from Nat.and_two_pow_sub_one_eq_mod n 7]
  have e2 : IntKind.u8.wrap ((n % 128 : Nat) : Int) = ((n % 128 : Nat) : Int) % 256 := IntKind.wrap_u8 _
  have h := more_byte (n % 128)
  rw [e1, e2, h, Nat.mod_mod]

set_option maxHeartbeats 1000000 in
set_option maxRecDepth 20000 in
theorem refUint_any : ∀ (n : Nat) (w : World), n < 18446744073709551616 →
    Calls Try.prog 30 #[.int .u64 (n : Int)] w fun ev w' => ev = .returned (.string (str (enc n))) ∧ Below w.heap.size w w' := by
  intro n
  induction n using Nat.strongRecOn with
  | _ n ih =>
    intro w hn
    by_cases h : n < 128
    · have kc := conv_one w (UInt8.ofNat n) n (low_byte h)
      rw [enc_lt h]
      go_enter Try.func30, Try.ntmps30
      go_wp2_with fail
      go_ret
      exact ⟨rfl, (Below.refl _ _).alloc (Nat.le_refl _) _⟩
    · obtain ⟨Y, hY⟩ : ∃ Y : Int, Y = (((UInt8.ofNat (n % 128 + 128)).toNat : Nat) : Int) := ⟨_, rfl⟩
      have e2 := more_byte' n hn
      rw [← hY] at e2
      have kc := fun w1 g => conv_at w1 g (UInt8.ofNat (n % 128 + 128)) Y hY
      have HS : Hid (str (enc n) = str [UInt8.ofNat (n % 128 + 128)] ++ str (enc (n / 128))) := by show _ = _; rw [enc_ge h, str_app]; rfl
      have hI := fun w => ih (n / 128) (by omega) w (by omega)
      rw [show ((n / 128 : Nat) : Int) = IntKind.u64.wrap ((n : Int) / 128) by rw [IntKind.wrap_u64]; omega] at hI
      have hz1 : (str [UInt8.ofNat (n % 128 + 128)]).size ≤ 1 := by rw [str_size]; simp
      have hz2 : (str (enc (n / 128))).size ≤ 10 := by rw [str_size]; exact enc_len_10 (by omega)
      clear hY ih
      generalize str [UInt8.ofNat (n % 128 + 128)] = S1 at kc HS hz1
      generalize str (enc (n / 128)) = S2 at hI HS hz2
      generalize str (enc n) = S at HS ⊢
      go_enter Try.func30, Try.ntmps30
      go_wp2_with fail
      go_region_with (go_at_call 30; refine (hI _).mono ?_; rintro e w' ⟨rfl, hb⟩; have hz := hb.size; have hq := fun h => hb.cell (p := ⟨w.heap.size, 0, none⟩) h)
      all_goals (go_wp2_with fail; go_ret)
      · refine ⟨?_, (((Below.refl _ w).alloc (Nat.le_refl _) _).drew).trans (hb.mono (by simp))⟩
        show Ending.returned (Value.string (S1 ++ S2)) = _
        rw [HS.out]
      · refine ⟨?_, (((Below.refl _ w).alloc (Nat.le_refl _) _).drew).trans (hb.mono (by simp))⟩
        show Ending.returned (Value.string (S1 ++ S2)) = _
        rw [HS.out]
      · refine ⟨?_, (((Below.refl w.heap.size w).drew).trans hb).alloc (by simpa using hz) _⟩
        show Ending.returned (Value.string (S1 ++ S2)) = _
        rw [HS.out]
end Go.Proofs.Ytkgmjhchefkmaaa
