/-
  The document's own Less.
-/
import Derived.Test.YtjnogpcpekheoaaLes
namespace Go.Proofs.Ytjnogpcpekheoaa
open Go.RowKit

theorem less_same (x : UInt8) (a b : List UInt8) : less (x :: a) (x :: b) = less a b := by
  have h : ¬ x < x := UInt8.lt_irrefl x
  simp [less, Lib.compareBytes, h]
theorem less_other (x y : UInt8) (a b : List UInt8) (h : x.toNat ≠ y.toNat) : less (x :: a) (y :: b) = decide (x.toNat < y.toNat) := by
  by_cases g : x.toNat < y.toNat
  · have g' : x < y := UInt8.lt_iff_toNat_lt.2 g
    simp [less, Lib.compareBytes, g, g']
  · have g' : ¬ x < y := fun e => g (UInt8.lt_iff_toNat_lt.1 e)
    have g2 : y < x := UInt8.lt_iff_toNat_lt.2 (by omega)
    simp [less, Lib.compareBytes, g, g', g2]
theorem drop_at (a : List UInt8) (k : Nat) (h : k < a.length) : a.drop k = a.getD k 0 :: a.drop (k + 1) := by
  rw [List.drop_eq_getElem_cons h]
  simp [List.getD, List.getElem?_eq_getElem h]

/-- Where the document's Less stands. -/
structure LRel (w : World) (a b : List UInt8) (k : Nat) (wr : World) : Prop where
  ra : Row wr w.heap.size 35 (bys a)
  rb : Row wr (w.heap.size + 1) 35 (bys b)
  same : less a b = less (a.drop k) (b.drop k)
  below : Below w.heap.size w wr
theorem LRel.drewN {w wr : World} {a b : List UInt8} {k : Nat} (h : LRel w a b k wr) (n : Nat) : LRel w a b k (wr.drewN n) := ⟨h.ra.drewN, h.rb.drewN, h.same, ⟨h.below.os, h.below.tape, h.below.output, h.below.size, h.below.block⟩⟩

attribute [local go_sem ↓] Go.wp_at_zero Go.wp_at_succ
set_option maxHeartbeats 4000000 in
set_option maxRecDepth 20000 in
theorem xless_any (w : World) (a b : List UInt8) (ha : a.length = 32) (hb : b.length = 32) :
    Calls Try.prog 23 #[.agg (bys a).toArray, .agg (bys b).toArray] w fun ev w' => ev = .returned (.bool (less a b)) ∧ Below w.heap.size w w' := by
  have HI : Hid (LRel w a b 0 ((w.alloc (.cells (bys a).toArray 35)).alloc (.cells (bys b).toArray 35))) := by
    refine ⟨(Row.new w 35 (bys a)).below ((Below.refl _ _).alloc (Nat.le_refl _) _) (by simp), ?_, rfl, ((Below.refl w.heap.size w).alloc (Nat.le_refl _) _).alloc (by simp) _⟩
    have := Row.new (w.alloc (.cells (bys a).toArray 35)) 35 (bys b)
    simpa using this
  generalize (bys a).toArray = Y1 at *
  generalize (bys b).toArray = Y2 at *
  go_enter Try.func23, Try.ntmps23
  go_wp2_with fail
  go_loopw [5] (fun i wr => ∃ k : Nat, k ≤ 32 ∧ i = .int .i64 k ∧ LRel w a b k wr) (fun i _ => 32 - (intOf i).toNat)
  case atStart => exact ⟨0, by omega, rfl, HI.out⟩
  case round =>
    obtain ⟨k, hk, rfl, hX⟩ := hrel
    clear HI
    by_cases hk3 : k < 32
    · have q0 : wr.cell? ⟨w.heap.size, k, none⟩ = some (.int .u8 ((a.getD k 0).toNat : Int)) := by rw [hX.ra.cell k, bys_get a k (by omega)]
      have q1 : wr.cell? ⟨w.heap.size + 1, k, none⟩ = some (.int .u8 ((b.getD k 0).toNat : Int)) := by rw [hX.rb.cell k, bys_get b k (by omega)]
      have e1 := drop_at a k (by omega)
      have e2 := drop_at b k (by omega)
      have l1 : (k : Int) < 32 := by omega
      by_cases hd : (a.getD k 0).toNat = (b.getD k 0).toNat
      · have HN : Hid (∀ n, LRel w a b (k + 1) (wr.drewN n)) := fun n => by
          have h := hX.drewN n
          refine ⟨h.ra, h.rb, ?_, h.below⟩
          have hs := hX.same
          rw [e1, e2, UInt8.toNat_inj.1 hd, less_same] at hs
          exact hs
        rw [hd] at q0
        clear hX e1 e2 hd
        generalize (b.getD k 0).toNat = y at *
        go_wp2_with fail
        go_quiet (fail)
        go_wp2_with fail
        go_roundw
        case rel => exact ⟨k + 1, by omega, by go_num, HN.out _⟩
        case measure => simp [intOf]; omega
      · have HL : Hid (less a b = decide ((a.getD k 0).toNat < (b.getD k 0).toNat)) := by
          show _ = _
          rw [hX.same, e1, e2, less_other _ _ _ _ hd]
        have HB : Hid (Below w.heap.size w wr) := hX.below
        clear hX e1 e2
        generalize (b.getD k 0).toNat = y at *
        generalize (a.getD k 0).toNat = x at *
        have hd' : (x : Int) ≠ (y : Int) := by omega
        go_wp2_with fail
        go_quiet (fail)
        go_wp2_with fail
        go_quiet (fail)
        go_wp2_with fail
        go_ret
        refine ⟨?_, ?_⟩
        · rw [HL.out]; simp
        · have := HB.out
          exact ⟨this.os, this.tape, this.output, this.size, this.block⟩
    · have HL : Hid (less a b = false) := by
        obtain rfl : k = 32 := by omega
        show _ = _
        rw [hX.same, ← ha, List.drop_length, ha, ← hb, List.drop_length]; rfl
      have HB : Hid (Below w.heap.size w wr) := hX.below
      clear hX
      go_wp2_with fail
      go_ret
      exact ⟨by rw [HL.out]; rfl, HB.out⟩

end Go.Proofs.Ytjnogpcpekheoaa
