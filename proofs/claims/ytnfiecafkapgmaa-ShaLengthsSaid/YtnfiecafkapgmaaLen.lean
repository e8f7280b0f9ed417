/-
  ShaLengths' walk.
-/
import Derived.Test.YtnfiecafkapgmaaXsm
import Derived.Test.YtnfiecafkapgmaaBck
namespace Go.Proofs.Ytnfiecafkapgmaa
open Go.RowKit

/-- Where the loop that fills the bytes stands. -/
structure FRel (w : World) (k : Nat) (c : UInt8) (i : Nat) (wr : World) : Prop where
  own : ∃ xs, wr.ownsRow w.heap.size 5 1 (.slice (some ⟨w.heap.size, 0, none⟩) k k) k xs ∧ ∀ j, j < i → xs[j]? = some (.int .u8 (c.toNat : Int))
  below : Below w.heap.size w wr

attribute [local go_sem ↓] Go.wp_at_zero Go.wp_at_succ
set_option maxHeartbeats 4000000 in
set_option maxRecDepth 20000 in
theorem lengths_walk (w : World) (a : Int) (c : UInt8) :
    Calls Try.prog 6 #[.int .i64 a, .int .u8 (c.toNat : Int)] w fun ev w' => ev = .returned (.bool true) ∧ Below w.heap.size w w' := by
  obtain ⟨i0, hi0, hz0, hz1, hz2⟩ := info_parts Try.info5
  obtain ⟨k, hk⟩ : ∃ k : Nat, (a % 18446744073709551616) % 301 = (k : Int) := ⟨((a % 18446744073709551616) % 301).toNat, by omega⟩
  have hk3 : k ≤ 300 := by omega
  have hw : IntKind.u64.wrap a = a % 18446744073709551616 := by simp [IntKind.wrap, IntKind.bits, IntKind.signed]
  have hb2 : i0.bytes * k ≤ 281474976710656 := by rw [hz2]; omega
  have hml : k ≤ maxLen := by unfold maxLen; omega
  go_enter Try.func6, Try.ntmps6
  go_wp2_with (refine wpList_make_full w rfl _ _ 22 rfl w.heap.size 5 i0 (.int .u8 0) 1 Try.underlying22 hi0 hz0 hz1 .i64 .i64 _ _ k rfl rfl rfl rfl hb2 hml (Nat.le_refl _) ?_; intro w1 hown1 hg1)
  have HI : Hid (FRel w k c 0 w1) := ⟨⟨_, hown1, fun j hj => by omega⟩, below_grown hg1 (Nat.le_refl _) (by simp)⟩
  clear hown1 hg1 hw hb2 hml
  have hkz : (0 : Int) ≤ (k : Int) := by omega
  go_loopw [7] (fun i wr => ∃ m : Nat, m ≤ k ∧ i = .int .i64 m ∧ FRel w k c m wr) (fun i _ => k - (intOf i).toNat)
  case atStart => exact ⟨0, by omega, rfl, HI.out⟩
  case round =>
    obtain ⟨m, hm, rfl, hF⟩ := hrel
    clear HI
    obtain ⟨xs, hown, hall⟩ := hF.own
    have hxl : xs.length = k := by have := hown.1; omega
    by_cases hm3 : m < k
    · have q1 := hown.cellAt m (by omega)
      rw [List.getElem?_eq_getElem (by omega)] at q1
      have q2 := hown.frozenAt m
      have HN : Hid (FRel w k c (m + 1) (wr.setCell ⟨w.heap.size, m, none⟩ (.int .u8 (c.toNat : Int)))) := by
        refine ⟨⟨_, (hown.stored m (.int .u8 (c.toNat : Int))).1, fun j hj => ?_⟩, hF.below.setCell (p := ⟨w.heap.size, m, none⟩) (Nat.le_refl _) _⟩
        rw [List.getElem?_set]
        by_cases h : m = j
        · subst h
          simp; omega
        · simp [h, hall j (by omega)]
      clear hF hown hall
      generalize xs[m] = old at *
      have l1 : (m : Int) < (k : Int) := by omega
      go_wp2_with fail
      go_roundw
      case rel => exact ⟨m + 1, by omega, by go_num, HN.out⟩
      case measure => simp [intOf]; omega
    · obtain rfl : m = k := by omega
      have hxs : xs = bys (List.replicate m c) := by
        apply List.ext_getElem?
        intro j
        rcases Nat.lt_or_ge j m with hj | hj
        · rw [hall j hj]
          simp [bys, hj]
        · rw [List.getElem?_eq_none (by omega), List.getElem?_eq_none (by simp [bys]; omega)]
      have hSl : Sl wr (.slice (some ⟨w.heap.size, 0, none⟩) m m) (List.replicate m c) := Sl.ofOwn (by rw [hxs] at hown; simpa using hown)
      have hb := hF.below
      have C1 := told_any wr
      have C2 : Hid (∀ y, Below wr.heap.size wr y → Calls Try.prog 8 #[.slice (some ⟨w.heap.size, 0, none⟩) m m] y fun ev w' => ev = .returned (.agg (bys (sumF (List.replicate m c))).toArray) ∧ Below y.heap.size y w') := fun y hy => sum_any y _ _ (hSl.below hy) (by simp; omega)
      have C3 : Hid (∀ y, Below wr.heap.size wr y → Calls Try.prog 9 #[.slice (some ⟨w.heap.size, 0, none⟩) m m] y fun ev w' => ev = .returned (.agg (bys (sumF (List.replicate m c))).toArray) ∧ Below y.heap.size y w') := fun y hy => xsum_any y _ _ (hSl.below hy) (by simp; omega)
      have kq : ∀ w : World, (Op.equalIn 10000 25 (.agg (bys (sumF (List.replicate m c))).toArray) (.agg (bys (sumF (List.replicate m c))).toArray)).run Try.prog w = .ok true w := fun w => by rw [equ25 w _ _ (sumF_len _) (sumF_len _), beq_self_eq_true]
      clear hF hown hall hxs hSl
      generalize (bys (sumF (List.replicate m c))).toArray = Y at *
      go_wp2_with fail
      refine C1.mono ?_
      rintro ev w2 ⟨rfl, hb2⟩
      go_wp2_with fail
      refine (C2.out w2 hb2).mono ?_
      rintro ev w3 ⟨rfl, hb3⟩
      have hb23 := hb2.trans (hb3.mono hb2.size)
      go_wp2_with fail
      refine (C3.out w3 hb23).mono ?_
      rintro ev w4 ⟨rfl, hb4⟩
      have hb24 := hb23.trans (hb4.mono hb23.size)
      go_wp2_with fail
      go_ret
      exact ⟨by rfl, hb.trans (hb24.mono hb.size)⟩
end Go.Proofs.Ytnfiecafkapgmaa
