/-
  The document's own sides.
-/
import Derived.Test.YtfkibbpekngciaaQPrXpr
import Derived.Test.YtfkibbpekngciaaJoinTcl2xPr
import Derived.Test.YtfkibbpekngciaaQPrR09
namespace Go.Proofs.Ytfkibbpekngciaa
open Go.RowKit

/-- A slice of one bool, behind a row of one's own. -/
theorem own_bool {w : World} {B n : Nat} {v : Value} {xs : List Value} (x : Bool) (h : w.ownsRow B 4 1 v n xs) (hB : B ≤ w.heap.size) :
    (w.alloc (.cells #[.bool x] 4)).ownsRow B 4 1 v n xs ∧ B ≤ (w.alloc (.cells #[.bool x] 4)).heap.size ∧ (w.alloc (.cells #[.bool x] 4)).cell? ⟨w.heap.size, 0, none⟩ = some (.bool x) :=
  ⟨own_past' h ((Below.refl _ _).alloc (Nat.le_refl _) _), by simp; omega, (Row.new w 4 [.bool x]).cell 0⟩

set_option maxHeartbeats 2000000 in
theorem sides_left (w : World) (n i : Nat) (h2 : 2 ≤ n) (hn : n ≤ 9223372036854775807) (hi : i < half n)
    (ih : ∀ (w : World), Calls Try.prog 50 #[.int .i64 (half n : Int), .int .i64 (i : Int)] w fun ev w' => ∃ v', ev = .returned v' ∧ w'.ownsRow w.heap.size 4 1 v' (xsides (half n) i).length (bos (xsides (half n) i)) ∧ Below w.heap.size w w') (hl : (xsides (half n) i).length ≤ 1000000) :
    Calls Try.prog 50 #[.int .i64 (n : Int), .int .i64 (i : Int)] w fun ev w' => ∃ v', ev = .returned v' ∧ w'.ownsRow w.heap.size 4 1 v' (xsides n i).length (bos (xsides n i)) ∧ Below w.heap.size w w' := by
  have HL := xhalf_any w n h2 hn
  have HX : Hid (xsides n i = xsides (half n) i ++ [true]) := by
    show _ = _
    rw [xsides_unf, if_neg (by omega), if_pos hi]
  have HI : Hid _ := ih
  clear ih
  generalize xsides n i = Z at *
  generalize xsides (half n) i = P at *
  generalize half n = k at *
  have n1 : ¬ ((n : Int) ≤ 1) := by omega
  have n2 : (i : Int) < (k : Int) := by omega
  go_enter Try.func50, Try.ntmps50
  go_wp2_with (first
    | (go_at_call 30; refine HL.mono ?_; rintro ev w1 ⟨rfl, hw1⟩; replace hw1 := hw1.symm; subst hw1)
    | (go_at_call 50; refine (HI.out _).mono ?_; rintro ev w2 ⟨v2, rfl, ho2, hb2⟩; obtain ⟨ao, cp, rfl⟩ := own_shape' ho2; obtain ⟨ho3, hB3, hc3⟩ := own_bool true ho2 hb2.size; have HB3 : Hid (Below w.heap.size w (w2.alloc (.cells #[.bool true] 4))) := hb2.alloc hb2.size _; clear ho2)
    | (at_builtin; refine app4 true rfl _ _ rfl rfl ho3 hB3 w2.heap.size 1 rfl hc3 hl ?_; intro v4 w4 ho4 hb4 _))
  go_ret
  refine ⟨_, rfl, ?_, HB3.out.trans hb4⟩
  rw [HX.out]
  exact ho4

set_option maxHeartbeats 2000000 in
theorem sides_right (w : World) (n i : Nat) (h2 : 2 ≤ n) (hn : n ≤ 9223372036854775807) (hin : i < n) (hi : ¬ i < half n)
    (ih : ∀ (w : World), Calls Try.prog 50 #[.int .i64 ((n - half n : Nat) : Int), .int .i64 ((i - half n : Nat) : Int)] w fun ev w' => ∃ v', ev = .returned v' ∧ w'.ownsRow w.heap.size 4 1 v' (xsides (n - half n) (i - half n)).length (bos (xsides (n - half n) (i - half n))) ∧ Below w.heap.size w w') (hl : (xsides (n - half n) (i - half n)).length ≤ 1000000) :
    Calls Try.prog 50 #[.int .i64 (n : Int), .int .i64 (i : Int)] w fun ev w' => ∃ v', ev = .returned v' ∧ w'.ownsRow w.heap.size 4 1 v' (xsides n i).length (bos (xsides n i)) ∧ Below w.heap.size w w' := by
  have HL := xhalf_any w n h2 hn
  have hh := half_le n h2
  have HX : Hid (xsides n i = xsides (n - half n) (i - half n) ++ [false]) := by
    show _ = _
    rw [xsides_unf, if_neg (by omega), if_neg hi]
  have HI : Hid (∀ (w : World), Calls Try.prog 50 #[.int .i64 ((n : Int) - (half n : Int)), .int .i64 ((i : Int) - (half n : Int))] w fun ev w' => ∃ v', ev = .returned v' ∧ w'.ownsRow w.heap.size 4 1 v' (xsides (n - half n) (i - half n)).length (bos (xsides (n - half n) (i - half n))) ∧ Below w.heap.size w w') := fun y => by
    have := ih y
    rwa [show ((n - half n : Nat) : Int) = (n : Int) - (half n : Int) by omega, show ((i - half n : Nat) : Int) = (i : Int) - (half n : Int) by omega] at this
  clear ih
  generalize xsides n i = Z at *
  generalize xsides (n - half n) (i - half n) = P at *
  generalize half n = k at *
  have n1 : ¬ ((n : Int) ≤ 1) := by omega
  have n2 : ¬ (i : Int) < (k : Int) := by omega
  have e1 : IntKind.i64.wrap ((n : Int) - (k : Int)) = (n : Int) - (k : Int) := by rw [IntKind.wrap_i64]; omega
  have e2 : IntKind.i64.wrap ((i : Int) - (k : Int)) = (i : Int) - (k : Int) := by rw [IntKind.wrap_i64]; omega
  go_enter Try.func50, Try.ntmps50
  go_wp2_with (first
    | (go_at_call 30; refine HL.mono ?_; rintro ev w1 ⟨rfl, hw1⟩; replace hw1 := hw1.symm; subst hw1)
    | (go_at_call 50; refine (HI.out _).mono ?_; rintro ev w2 ⟨v2, rfl, ho2, hb2⟩; obtain ⟨ao, cp, rfl⟩ := own_shape' ho2; obtain ⟨ho3, hB3, hc3⟩ := own_bool false ho2 hb2.size; have HB3 : Hid (Below w.heap.size w (w2.alloc (.cells #[.bool false] 4))) := hb2.alloc hb2.size _; clear ho2)
    | (at_builtin; refine app4 false rfl _ _ rfl rfl ho3 hB3 w2.heap.size 1 rfl hc3 hl ?_; intro v4 w4 ho4 hb4 _))
  go_ret
  refine ⟨_, rfl, ?_, HB3.out.trans hb4⟩
  rw [HX.out]
  exact ho4

theorem xsides_few (n i : Nat) (hi : i < n) (hn : n ≤ 9223372036854775807) : (xsides n i).length ≤ 63 := by
  rw [xsides_eq i n hi]
  simp only [lefts, List.length_map, List.length_reverse]
  exact downs_64 i n hn
theorem sides_any' : ∀ (n i : Nat) (w : World), i < n → n ≤ 9223372036854775807 →
    Calls Try.prog 50 #[.int .i64 (n : Int), .int .i64 (i : Int)] w fun ev w' => ∃ v', ev = .returned v' ∧ w'.ownsRow w.heap.size 4 1 v' (xsides n i).length (bos (xsides n i)) ∧ Below w.heap.size w w' := by
  intro n
  induction n using Nat.strongRecOn with
  | _ n ih =>
    intro i w hi hn
    by_cases h2 : n < 2
    · have e : xsides n i = [] := by rw [xsides_unf, if_pos h2]
      rw [e]
      have n1 : (n : Int) ≤ 1 := by omega
      go_enter Try.func50, Try.ntmps50
      go_wp2_with fail
      go_ret
      exact ⟨_, rfl, ⟨rfl, .inl ⟨rfl, rfl⟩⟩, Below.refl _ _⟩
    · have hh := half_le n (by omega)
      by_cases hc : i < half n
      · exact sides_left w n i (by omega) hn hc (fun y => ih (half n) (by omega) i y hc (by omega)) (Nat.le_trans (xsides_few _ _ hc (by omega)) (by omega))
      · exact sides_right w n i (by omega) hn hi hc (fun y => ih (n - half n) (by omega) (i - half n) y (by omega) (by omega)) (Nat.le_trans (xsides_few _ _ (by omega) (by omega)) (by omega))
/-- What sides hands back: for each step, does the leaf's side stand on the left? -/
theorem sides_any (w : World) (n i : Nat) (hi : i < n) (hn : n ≤ 9223372036854775807) :
    Calls Try.prog 50 #[.int .i64 (n : Int), .int .i64 (i : Int)] w fun ev w' => ∃ v', ev = .returned v' ∧ w'.ownsRow w.heap.size 4 1 v' (lefts i n).length (bos ((lefts i n).map (!·))) ∧ Below w.heap.size w w' := by
  have := sides_any' n i w hi hn
  rw [xsides_eq i n hi, List.length_map] at this
  exact this
end Go.Proofs.Ytfkibbpekngciaa
