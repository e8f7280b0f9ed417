/-
  The document's own half, pair and top.
-/
import Derived.Test.YtfkibbpekngciaaQPrTre
namespace Go.Proofs.Ytfkibbpekngciaa
open Go.RowKit

theorem half_at (n j : Nat) (h1 : 2 ^ j < n) (h2 : n ≤ 2 ^ j + 2 ^ j) : half n = 2 ^ j := by
  unfold half
  have : Nat.log2 (n - 1) = j := by
    have hn : n - 1 ≠ 0 := by have := Nat.two_pow_pos j; omega
    refine (Nat.log2_eq_iff hn).2 ⟨by omega, by rw [Nat.pow_succ]; omega⟩
  rw [this]
set_option maxHeartbeats 1000000 in
theorem xhalf_any (w : World) (n : Nat) (h2 : 2 ≤ n) (hn : n ≤ 9223372036854775807) :
    Calls Try.prog 30 #[.int .i64 (n : Int)] w fun ev w' => ev = .returned (.int .i64 (half n : Int)) ∧ w' = w := by
  go_enter Try.func30, Try.ntmps30
  go_wp2_with fail
  go_loopw [3] (fun t wr => wr = w ∧ ∃ j k : Nat, k = 2 ^ j ∧ k < n ∧ t = .int .i64 (k : Int)) (fun t _ => n - (intOf t).toNat)
  case atStart => exact ⟨rfl, 0, 1, rfl, by omega, rfl⟩
  case round =>
    obtain ⟨rfl, j, k, hk, hlt, rfl⟩ := hrel
    have h1 : 1 ≤ k := by rw [hk]; exact Nat.one_le_two_pow
    have HK : Hid (k = 2 ^ j) := hk
    clear hk
    by_cases hc : (k : Int) < (n : Int) - (k : Int)
    · have b1 : (k : Int) * 2 ≤ 9223372036854775807 := by omega
      go_wp2_with fail
      go_roundw
      case rel => exact ⟨trivial, j + 1, k * 2, by rw [HK.out, Nat.pow_succ], by omega, by go_num⟩
      case measure => simp [intOf]; omega
    · go_wp2_with fail
      go_ret
      refine ⟨?_, rfl⟩
      rw [half_at n j (by rw [← HK.out]; exact hlt) (by rw [← HK.out]; omega), ← HK.out]
      rfl

/-- What is written already. -/
def upto (p h : Bys) (j : Nat) : Bys := p ++ h.take j
theorem upto_zero (p h : Bys) : upto p h 0 = p := by simp [upto]
theorem upto_all (p h : Bys) : upto p h h.length = p ++ h := by simp [upto]
theorem upto_next (p h : Bys) (j : Nat) (hj : j < h.length) : upto p h j ++ [h.getD j 0] = upto p h (j + 1) := by
  unfold upto
  rw [List.take_add_one, List.getElem?_eq_getElem hj]
  simp [List.getD, List.getElem?_eq_getElem hj]
theorem upto_len (p h : Bys) (j : Nat) (hj : j ≤ h.length) : (upto p h j).length = p.length + j := by simp [upto]; omega
theorem new_byte (wr : World) (x : UInt8) : Sl (wr.alloc (.cells #[.int .u8 (x.toNat : Int)] 5)) (.slice (some ⟨wr.heap.size, 0, none⟩) 1 1) [x] := (Row.new wr 5 (bys [x])).sl

set_option maxHeartbeats 4000000 in
theorem pair_any (w : World) (a b : List UInt8) (ha : a.length = 32) (hb : b.length = 32) :
    Calls Try.prog 43 #[.agg (bys a).toArray, .agg (bys b).toArray] w fun ev w' => ∃ v', ev = .returned v' ∧ w'.ownsRow w.heap.size 5 1 v' (1 :: (a ++ b)).length (bys (1 :: (a ++ b))) ∧ Below w.heap.size w w' := by
  obtain ⟨W, hW⟩ : ∃ W, W = (w.alloc (.cells (bys a).toArray 26)).alloc (.cells (bys b).toArray 26) := ⟨_, rfl⟩
  have HB0 : Hid (Below w.heap.size w W) := by rw [hW]; exact ((Below.refl _ _).alloc (Nat.le_refl _) _).alloc (by simp) _
  have R1 : Row W w.heap.size 26 (bys a) := by rw [hW]; exact (Row.new w 26 _).below ((Below.refl _ _).alloc (Nat.le_refl _) _) (by simp)
  have R2 : Row W (w.heap.size + 1) 26 (bys b) := by
    have := Row.new (w.alloc (.cells (bys a).toArray 26)) 26 (bys b)
    rw [hW]; exact (by simpa using this : Row _ _ _ _)
  have HR1 : Hid (∀ y j, Below W.heap.size W y → j < 32 → y.cell? ⟨w.heap.size, j, none⟩ = some (.int .u8 ((a.getD j 0).toNat : Int))) := fun y j hy hj => by
    rw [(R1.below hy R1.lt).cell j, bys_get a j (by omega)]
  have HR2 : Hid (∀ y j, Below W.heap.size W y → j < 32 → y.cell? ⟨w.heap.size + 1, j, none⟩ = some (.int .u8 ((b.getD j 0).toNat : Int))) := fun y j hy hj => by
    rw [(R2.below hy R2.lt).cell j, bys_get b j (by omega)]
  have hsz2 : W.heap.size = w.heap.size + 1 + 1 := by rw [hW]; simp
  have HO : Hid ((W.alloc (.cells #[.int .u8 1] 5)).ownsRow W.heap.size 5 1 (.slice (some ⟨w.heap.size + 1 + 1, 0, none⟩) 1 1) [(1 : UInt8)].length (bys [1])) := by
    have := own_one W 1
    rw [← hsz2]; exact this
  have HB1 : Hid (Below W.heap.size W (W.alloc (.cells #[.int .u8 1] 5))) := (Below.refl _ _).alloc (Nat.le_refl _) _
  have AW : Aside (W = (w.alloc (.cells (bys a).toArray 26)).alloc (.cells (bys b).toArray 26)) := hW
  have HU : Hid (∀ (p h : Bys) (j : Nat), h.length = 32 → j < 32 → upto p h j ++ [h.getD j 0] = upto p h (j + 1)) := fun p h j hh hj => upto_next p h j (by omega)
  have HL : Hid (∀ (p h : Bys) (j : Nat), h.length = 32 → j ≤ 32 → (upto p h j).length = p.length + j) := fun p h j hh hj => upto_len p h j (by omega)
  have Ha : Hid (a.length = 32) := ha
  have Hb : Hid (b.length = 32) := hb
  have HE1 : Hid (upto [1] a 32 = 1 :: a) := by show _ = _; rw [← ha, upto_all]; rfl
  have HE2 : Hid (upto (1 :: a) b 32 = 1 :: (a ++ b)) := by show _ = _; rw [← hb, upto_all]; rfl
  clear hW R1 R2 ha hb hsz2
  generalize (bys a).toArray = Y1 at *
  generalize (bys b).toArray = Y2 at *
  obtain ⟨g1, hg1⟩ : ∃ g, g = w.heap.size := ⟨_, rfl⟩
  go_enter Try.func43, Try.ntmps43
  go_wp2_with fail
  refine wp_at_world (congrArg (fun z => z.alloc (.cells #[.int .u8 1] 5)) AW.out) ?_
  rw [← hg1]
  rw [← hg1] at HR1 HR2 HO
  clear hg1
  go_loopw [5, 6] (fun t s wr => ∃ j : Nat, j ≤ 32 ∧ s = .int .i64 (j : Int) ∧ wr.ownsRow W.heap.size 5 1 t (upto [1] a j).length (bys (upto [1] a j)) ∧ Below W.heap.size W wr) (fun _ s _ => 32 - (intOf s).toNat)
  case atStart => exact ⟨0, by omega, rfl, by rw [upto_zero]; exact HO.out, HB1.out⟩
  case round =>
    obtain ⟨j, hj, rfl, hown, hbr⟩ := hrel
    clear HO HB1
    obtain ⟨ao, cp, rfl⟩ := own_shape hown
    by_cases hj3 : j < 32
    · have HP : Hid (upto [1] a j ++ [a.getD j 0] = upto [1] a (j + 1)) := HU.out _ _ _ Ha.out hj3
      have hrl := HL.out [1] a j Ha.out hj
      have q0 := HR1.out wr j hbr hj3
      have hS := new_byte wr (a.getD j 0)
      have HBn : Hid (Below W.heap.size W (wr.alloc (.cells #[.int .u8 ((a.getD j 0).toNat : Int)] 5))) := hbr.alloc hbr.size _
      have hown2 := own_past hown ((Below.refl _ _).alloc (Nat.le_refl _) (.cells #[.int .u8 ((a.getD j 0).toNat : Int)] 5))
      have hsz := HBn.out.size
      have l1 : (j : Int) < 32 := by omega
      clear hown hbr
      simp at hrl
      generalize upto [1] a j = R at *
      generalize a.getD j 0 = x at *
      go_wp2_with (at_builtin; refine app_sl rfl _ _ rfl rfl hown2 hsz rfl hS (by simp; omega) ?_; intro v3 w3 hown3 hb3 _)
      rw [HP.out] at hown3
      go_roundw
      case rel => exact ⟨j + 1, by omega, by go_num, hown3, HBn.out.trans hb3⟩
      case measure => simp [intOf]; omega
    · have e32 : j = 32 := by omega
      have HOw : Hid (wr.ownsRow W.heap.size 5 1 (.slice ao (upto [1] a j).length cp) (upto (1 :: a) b 0).length (bys (upto (1 :: a) b 0))) := by
        show World.ownsRow _ _ _ _ _ _ _
        rw [upto_zero, ← HE1.out, ← e32]; exact hown
      have HBr : Hid (Below W.heap.size W wr) := hbr
      have l1 : ¬ ((j : Int) < 32) := by omega
      clear hown hbr hj hj3 HR1 e32
      generalize (upto [1] a j).length = ln at *
      generalize (j : Int) = ji at *
      go_wp2_with fail
      go_loopw [5, 7] (fun t s wr => ∃ j : Nat, j ≤ 32 ∧ s = .int .i64 (j : Int) ∧ wr.ownsRow W.heap.size 5 1 t (upto (1 :: a) b j).length (bys (upto (1 :: a) b j)) ∧ Below W.heap.size W wr) (fun _ s _ => 32 - (intOf s).toNat)
      case atStart => exact ⟨0, by omega, rfl, HOw.out, HBr.out⟩
      case round =>
        obtain ⟨j, hj, rfl, hown, hbr⟩ := hrel
        clear HOw HBr
        obtain ⟨ao, cp, rfl⟩ := own_shape hown
        by_cases hj3 : j < 32
        · have HP : Hid (upto (1 :: a) b j ++ [b.getD j 0] = upto (1 :: a) b (j + 1)) := HU.out _ _ _ Hb.out hj3
          have hrl := HL.out (1 :: a) b j Hb.out hj
          rw [List.length_cons, Ha.out] at hrl
          have q0 := HR2.out wr j hbr hj3
          have hS := new_byte wr (b.getD j 0)
          have HBn : Hid (Below W.heap.size W (wr.alloc (.cells #[.int .u8 ((b.getD j 0).toNat : Int)] 5))) := hbr.alloc hbr.size _
          have hown2 := own_past hown ((Below.refl _ _).alloc (Nat.le_refl _) (.cells #[.int .u8 ((b.getD j 0).toNat : Int)] 5))
          have hsz := HBn.out.size
          have l1 : (j : Int) < 32 := by omega
          clear hown hbr
          generalize upto (1 :: a) b j = R at *
          generalize b.getD j 0 = x at *
          go_wp2_with (at_builtin; refine app_sl rfl _ _ rfl rfl hown2 hsz rfl hS (by simp; omega) ?_; intro v3 w3 hown3 hb3 _)
          rw [HP.out] at hown3
          go_roundw
          case rel => exact ⟨j + 1, by omega, by go_num, hown3, HBn.out.trans hb3⟩
          case measure => simp [intOf]; omega
        · obtain rfl : j = 32 := by omega
          have HOw : Hid (wr.ownsRow w.heap.size 5 1 (.slice ao (upto (1 :: a) b 32).length cp) (upto (1 :: a) b 32).length (bys (upto (1 :: a) b 32))) := own_lower hown HB0.out.size
          have HBr : Hid (Below w.heap.size w wr) := nextB HB0.out hbr
          clear hown hbr hj hj3 HR2
          generalize hln : (upto (1 :: a) b 32).length = ln at *
          have Hln : Hid ((upto (1 :: a) b 32).length = ln) := hln
          clear hln
          go_wp2_with fail
          go_ret
          refine ⟨_, rfl, ?_, HBr.out⟩
          have := HOw.out
          rw [← Hln.out, HE2.out] at this ⊢
          exact this
end Go.Proofs.Ytfkibbpekngciaa
