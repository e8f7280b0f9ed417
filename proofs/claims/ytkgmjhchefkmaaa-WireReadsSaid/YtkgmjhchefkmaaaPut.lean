/-
  The Writer's own steps: a new one, put, Uint, Int, Bool.
-/
import Derived.Test.YtkgmjhchefkmaaaMem
namespace Go.Proofs.Ytkgmjhchefkmaaa
open Go.RowKit

set_option maxHeartbeats 1000000 in
theorem newWriter_any (w : World) : Calls Try.prog 10 #[] w fun ev w' => ev = .returned (.pointer (some ⟨w.heap.size, 0, none⟩)) ∧ Wr w.heap.size w' w.heap.size (.slice none 0 0) [] ∧ Below w.heap.size w w' := by
  go_enter Try.func10, Try.ntmps10
  go_wp2
  go_ret
  refine ⟨rfl, ⟨Nat.le_refl _, ?_, ?_, World.ownsRow_nil _ _ _ _, by simp [Value.ownBlock]⟩, (Below.refl _ _).alloc (Nat.le_refl _) _⟩
  · simp
  · simp

set_option maxHeartbeats 1000000 in
theorem put_any (B wb m c : Nat) (v : Value) (l nw : List UInt8) (a : Addr) (w : World) (h : Wr B w wb v l) (hm : nw.length = m) (hn : ∀ j u, (bys nw)[j]? = some u → w.cell? (a.add j) = some u) (hl : l.length + m ≤ 1099511627776) :
    Calls Try.prog 49 #[.pointer (some ⟨wb, 0, none⟩), .slice (some a) m c] w fun ev w' => ev = .returned (.tuple #[]) ∧ ∃ v', Wr B w' wb v' (l ++ nw) ∧ Mv w w' wb v v' := by
  obtain ⟨i0, hi, hz0, hz1, hz2⟩ := info_parts Try.info5
  have hcell := h.cell
  have hfz := h.fz
  have hown := h.own
  have hlo := h.lo
  have A : Aside (Wr B w wb v l) := h
  have HB : Hid (∀ w1, w.grownBy w1 v.ownBlock → w1.cell? ⟨wb, 0, none⟩ = some v ∧ w1.frozen? ⟨wb, 0, none⟩ = false) := fun w1 hg => by
    have hb1 : w1.heap[wb]? = w.heap[wb]? := hg.block wb h.lt (fun e => h.ne e.symm)
    exact ⟨(World.cell?_of_block (a := ⟨wb, 0, none⟩) hb1).trans h.cell, (World.frozen?_of_block (a := ⟨wb, 0, none⟩) hb1).trans h.fz⟩
  have HN : Hid (∀ j u, (bys nw)[j]? = some u → w.cell? (a.add j) = some u) := hn
  clear h hn
  subst hm
  obtain ⟨ao, cap, rfl⟩ := own_shape hown
  go_enter Try.func49, Try.ntmps49
  go_wp2_with (at_builtin; refine wpList_append_own_at _ rfl _ _ 32 rfl B 5 i0 (.int .u8 0) 1 1 Try.underlying32 hi hz0 hz1 hz2 rfl (by decide) _ _ _ rfl hown a nw.length c (bys nw) rfl (by simp [bys_len]) HN.out (bys_one nw) (by unfold maxLen; omega) (by omega) hlo ?_)
  intro v' w1 hown' hgrow _ hat
  obtain ⟨q1, q2⟩ := HB.out w1 hgrow
  have R := A.out.put hown' hgrow hat
  obtain ⟨ao', cap', rfl⟩ := own_shape hown'
  clear hown' hgrow hat hown hcell hfz A
  go_wp2
  go_end0
  exact ⟨rfl, _, R.1, R.2⟩

theorem cell_new (w : World) (b : UInt8) : ∀ j u, (bys [b])[j]? = some u → (w.alloc (.cells #[.int .u8 (b.toNat : Int)] 5)).cell? ((⟨w.heap.size, 0, none⟩ : Addr).add j) = some u :=
  cell_one_new w (.int .u8 (b.toNat : Int)) 5

/-- One byte that was laid in a block of its own. -/
theorem put_one (B wb : Nat) (v : Value) (l : List UInt8) (b : UInt8) (y : Int) (hy : y = (b.toNat : Int)) (w : World) (h : Wr B w wb v l) (hl : l.length + 1 ≤ 1099511627776) :
    Calls Try.prog 49 #[.pointer (some ⟨wb, 0, none⟩), .slice (some ⟨w.heap.size, 0, none⟩) 1 1] (w.alloc (.cells #[.int .u8 y] 5)) fun ev w' => ev = .returned (.tuple #[]) ∧ ∃ v', Wr B w' wb v' (l ++ [b]) ∧ Mv w w' wb v v' := by
  subst hy
  have hA : Below w.heap.size w (w.alloc (.cells #[.int .u8 (b.toNat : Int)] 5)) := (Below.refl _ _).alloc (Nat.le_refl _) _
  refine (put_any B wb 1 1 v l [b] ⟨w.heap.size, 0, none⟩ _ (h.past hA) rfl (cell_new w b) hl).mono ?_
  rintro ev w' ⟨rfl, v', hv, hb⟩
  exact ⟨rfl, v', hv, (Mv.past hA _ _).trans hb⟩

theorem low_byte {n : Nat} (h : n < 128) : (n : Int) = ((UInt8.ofNat n).toNat : Int) := by
  have e : (UInt8.ofNat n).toNat = n := by simp; omega
  rw [e]
theorem more_byte (n : Nat) : bits .or .u8 ((n : Int) % 256) 128 = (((UInt8.ofNat (n % 128 + 128)).toNat : Nat) : Int) := by
  have e : (UInt8.ofNat (n % 128 + 128)).toNat = n % 128 + 128 := by simp; omega
  have h := u8_or_nat (n % 256) 128 (by omega) (by omega)
  rw [e]
  refine Eq.trans ?_ (h.trans ?_)
  · simp
  congr 1
  rcases Nat.lt_or_ge (n % 256) 128 with hlt | hge
  · have : n % 256 ||| 128 = 128 + n % 256 := by
      rw [Nat.or_comm]
      exact (Nat.two_pow_add_eq_or_of_lt (i := 7) hlt 1).symm
    omega
  · obtain ⟨k, hk⟩ : ∃ k, n % 256 = 2 ^ 7 * 1 + k := ⟨n % 256 - 128, by omega⟩
    have hk2 : k < 2 ^ 7 := by omega
    have : n % 256 ||| 128 = n % 256 := by
      rw [hk, Nat.two_pow_add_eq_or_of_lt hk2, Nat.mul_one, Nat.or_assoc, Nat.or_comm k, ← Nat.or_assoc, Nat.or_self]
    omega

set_option maxHeartbeats 2000000 in
set_option maxRecDepth 20000 in
theorem wUint_any (B wb x : Nat) (v : Value) (l : List UInt8) (w : World) (h : Wr B w wb v l) (hx : x < 18446744073709551616) (hl : l.length ≤ 1000000000000) :
    Calls Try.prog 25 #[.pointer (some ⟨wb, 0, none⟩), .int .u64 (x : Int)] w fun ev w' => ev = .returned (.tuple #[]) ∧ ∃ v', Wr B w' wb v' (l ++ enc x) ∧ Mv w w' wb v v' := by
  go_enter Try.func25, Try.ntmps25
  go_wp2_with fail
  go_loopw [1] (fun y wr => ∃ (n : Nat) (v1 : Value) (pre : List UInt8), y = .int .u64 (n : Int) ∧ n ≤ x ∧ pre ++ enc n = enc x ∧ Wr B wr wb v1 (l ++ pre) ∧ Mv w wr wb v v1) (fun y _ => (intOf y).toNat)
  case atStart => exact ⟨x, v, [], rfl, Nat.le_refl _, rfl, by simpa using h, Mv.past (Below.refl _ _) _ _⟩
  case round =>
    obtain ⟨n, v1, pre, rfl, hn, hp, hW, hb⟩ := hrel
    have hlen : (pre ++ enc n).length ≤ 10 := by rw [hp]; exact enc_len_10 hx
    have hpos := enc_pos n
    rw [List.length_append] at hlen
    have HP : Hid (pre ++ enc n = enc x) := hp
    have HB : Hid (Mv w wr wb v v1) := hb
    clear hp hb
    by_cases hlt : 128 ≤ n
    · have H1 := put_one B wb v1 (l ++ pre) (UInt8.ofNat (n % 128 + 128)) _ (more_byte n) wr hW (by simp; omega)
      clear hW h
      go_wp2_with fail
      refine H1.mono ?_
      rintro ev w1 ⟨rfl, v2, hW2, hb2⟩
      clear H1
      go_wp2_with fail
      go_roundw
      case rel =>
        refine ⟨n / 128, v2, pre ++ [UInt8.ofNat (n % 128 + 128)], by go_num, by omega, ?_, by simpa using hW2, HB.out.trans hb2⟩
        rw [← HP.out, enc_ge (show ¬ n < 128 by omega)]; simp
      case measure => simp [intOf]; omega
    · have H2 := put_one B wb v1 (l ++ pre) (UInt8.ofNat n) (n : Int) (low_byte (by omega)) wr hW (by simp; omega)
      clear hW h
      go_wp2_with fail
      refine H2.mono ?_
      rintro ev w1 ⟨rfl, v2, hW2, hb2⟩
      go_wp2_with fail
      go_end0
      refine ⟨rfl, v2, ?_, HB.out.trans hb2⟩
      rw [← HP.out, enc_lt (show n < 128 by omega)]
      simpa using hW2
end Go.Proofs.Ytkgmjhchefkmaaa
