/-
  The document's own Sum and the program's: the same blocks, however they are cut.
-/
import Derived.Test.YtfkibbpekngciaaXbt
namespace Go.Proofs.Ytfkibbpekngciaa
open Go.RowKit

theorem heads_same (X Y : List UInt8) (h : ∀ i, i < 64 → X.getD i 0 = Y.getD i 0) : ∀ t, t ≤ 16 → heads X t = heads Y t
  | 0, _ => rfl
  | t + 1, ht => by
    have ih := heads_same X Y h t (by omega)
    show heads X t ++ [wdAt X t] = heads Y t ++ [wdAt Y t]
    rw [ih, wdAt, wdAt, h (4 * t) (by omega), h (4 * t + 1) (by omega), h (4 * t + 2) (by omega), h (4 * t + 3) (by omega)]
theorem sched_same (X Y : List UInt8) (h : ∀ i, i < 64 → X.getD i 0 = Y.getD i 0) : sched X = sched Y := by
  unfold sched
  rw [heads_same X Y h 16 (Nat.le_refl _)]
theorem drop_getD (L : List UInt8) (n i : Nat) : (L.drop n).getD i 0 = L.getD (n + i) 0 := by simp [List.getD]
theorem mixes_left (s : St) (A B : List UInt8) (q : Nat) (hA : A.length = 64 * q) : ∀ n, n ≤ q → mixes s (A ++ B) n = mixes s A n
  | 0, _ => rfl
  | n + 1, h => by
    have ih := mixes_left s A B q hA n (by omega)
    show mixed (mixes s (A ++ B) n) (sched ((A ++ B).drop (64 * n))) = mixed (mixes s A n) (sched (A.drop (64 * n)))
    rw [ih, sched_same ((A ++ B).drop (64 * n)) (A.drop (64 * n)) (fun i hi => ?_)]
    rw [drop_getD, drop_getD]
    simp only [List.getD]
    rw [List.getElem?_append_left (by omega)]
theorem mixes_right (s : St) (A B : List UInt8) (q : Nat) (hA : A.length = 64 * q) : ∀ m, mixes s (A ++ B) (q + m) = mixes (mixes s A q) B m
  | 0 => mixes_left s A B q hA q (Nat.le_refl _)
  | m + 1 => by
    have ih := mixes_right s A B q hA m
    show mixed (mixes s (A ++ B) (q + m)) (sched ((A ++ B).drop (64 * (q + m)))) = mixed (mixes (mixes s A q) B m) (sched (B.drop (64 * m)))
    have e : (A ++ B).drop (64 * (q + m)) = B.drop (64 * m) := by
      rw [List.drop_append, List.drop_eq_nil_of_le (by omega), List.nil_append]
      congr 1
      omega
    rw [ih, e]
/-- The bytes, filled up, whole. -/
def whole (l : List UInt8) : List UInt8 := fill l (noughts l.length) ++ tailB (8 * l.length)
theorem whole_len (l : List UInt8) : (whole l).length = 64 * ((whole l).length / 64) := by
  have h := noughts_end l.length
  have e : (whole l).length = l.length + 1 + noughts l.length + 8 := by
    unfold whole
    rw [List.length_append, fill_len]; rfl
  omega
theorem whole_cut (l : List UInt8) : whole l = l.take (64 * (l.length / 64)) ++ ended (l.drop (64 * (l.length / 64))) (8 * l.length) := by
  have hn : noughts (l.drop (64 * (l.length / 64))).length = noughts l.length := by
    unfold noughts
    simp only [List.length_drop]
    omega
  unfold whole ended fill tailB
  rw [hn]
  simp only [← List.append_assoc]
  rw [List.take_append_drop]
theorem sum_whole (l : List UInt8) : sumSt l = mixes first8 (whole l) ((whole l).length / 64) := by
  have hc := whole_cut l
  have hA : (l.take (64 * (l.length / 64))).length = 64 * (l.length / 64) := by simp; omega
  have hw := whole_len l
  have hE : (ended (l.drop (64 * (l.length / 64))) (8 * l.length)).length + 64 * (l.length / 64) = (whole l).length := by rw [hc, List.length_append, hA]; omega
  have hm : (whole l).length / 64 = l.length / 64 + (ended (l.drop (64 * (l.length / 64))) (8 * l.length)).length / 64 := by omega
  rw [hm, hc, mixes_right first8 _ _ _ hA]
  rfl
end Go.Proofs.Ytfkibbpekngciaa
