/-
  The mathematics of a line as the document takes it: up to its byte 10.
-/
import Derived.Test.YtmfdmpfeoppnfaaDoorMpa
namespace Go.Proofs.YtmfdmpfeoppnfaaDoor
open Go

/-- The bytes ahead of the first byte 10. -/
def eolN : Bs → Nat
  | [] => 0
  | c :: t => if c = 10 then 0 else eolN t + 1
theorem eol_le : ∀ r : Bs, eolN r ≤ r.length
  | [] => by simp [eolN]
  | c :: t => by have := eol_le t; unfold eolN; split <;> simp; omega
theorem eol_line : ∀ r : Bs, lineN r = min (eolN r + 1) r.length
  | [] => by simp [lineN, eolN]
  | c :: t => by
    have ih := eol_line t
    have := eol_le t
    unfold lineN eolN
    split
    · simp
    · rw [ih]; simp
theorem eol_in : ∀ (r : Bs) (i : Nat), i < eolN r → r.getD i 0 ≠ 10
  | [], i, h => by simp [eolN] at h
  | c :: t, i, h => by
    unfold eolN at h
    split at h
    · omega
    · rename_i hc
      cases i with
      | zero => simpa [List.getD] using hc
      | succ i => have := eol_in t i (by omega); simpa [List.getD] using this
theorem eol_at : ∀ r : Bs, eolN r < r.length → r.getD (eolN r) 0 = 10
  | [], h => by simp at h
  | c :: t, h => by
    unfold eolN at h ⊢
    split
    · rename_i hc; simpa [List.getD] using hc
    · rename_i hc
      rw [if_neg hc] at h
      have := eol_at t (by simpa using h)
      simpa [List.getD] using this
theorem eol_take : ∀ (r : Bs), r ≠ [] → ∃ t : Bs, (t = [] ∨ t = [10]) ∧ r.take (lineN r) = r.take (eolN r) ++ t ∧ 10 ∉ r.take (eolN r)
  | [], h => absurd rfl h
  | c :: t, _ => by
    unfold lineN eolN
    by_cases hc : c = 10
    · rw [if_pos hc, if_pos hc]
      exact ⟨[10], .inr rfl, by simp [hc], by simp⟩
    · rw [if_neg hc, if_neg hc]
      by_cases ht : t = []
      · subst ht
        exact ⟨[], .inl rfl, by simp [lineN, eolN], by simp [eolN]; exact fun e => hc e.symm⟩
      · obtain ⟨u, hu, h1, h2⟩ := eol_take t ht
        refine ⟨u, hu, by simp [h1], ?_⟩
        simp only [List.take_succ_cons, List.mem_cons, not_or]
        exact ⟨fun e => hc e.symm, h2⟩
theorem strip_of {x t : Bs} (ht : t = [] ∨ t = [10]) (hx : 10 ∉ x) : stripN (x ++ t) = x := by
  unfold stripN
  rcases ht with rfl | rfl
  · rw [List.append_nil, if_neg]
    intro h
    obtain ⟨y, hy⟩ := List.isSuffixOf_iff_suffix.1 h
    exact hx (by rw [← hy]; simp)
  · rw [if_pos]
    · simp
    · exact List.isSuffixOf_iff_suffix.2 ⟨x, rfl⟩
theorem eol_strip {r : Bs} (h : r ≠ []) : stripN (r.take (lineN r)) = r.take (eolN r) := by
  obtain ⟨t, ht, h1, h2⟩ := eol_take r h
  rw [h1, strip_of ht h2]
theorem eol_head {r : Bs} (h : r ≠ []) : isHd (r.take (lineN r)) = decide (2 ≤ (r.take (eolN r)).length ∧ (r.take (eolN r)).take 2 = [61, 61]) := by
  obtain ⟨t, ht, h1, h2⟩ := eol_take r h
  rw [h1]
  generalize r.take (eolN r) = x at *
  unfold isHd
  rw [Bool.eq_iff_iff, decide_eq_true_iff, List.isPrefixOf_iff_prefix]
  constructor
  · rintro ⟨y, hy⟩
    match x with
    | [] => rcases ht with rfl | rfl <;> simp at hy
    | [a] => rcases ht with rfl | rfl <;> simp at hy
    | a :: b :: z =>
      simp only [List.cons_append, List.nil_append, List.cons.injEq] at hy
      simp [← hy.1, ← hy.2.1]
  · rintro ⟨hl, hx⟩
    refine ⟨x.drop 2 ++ t, ?_⟩
    rw [← hx, ← List.append_assoc, List.take_append_drop]
theorem eol_nil {r : Bs} (h : r ≠ []) : (r.take (lineN r) = [10]) ↔ (r.take (eolN r) = []) := by
  obtain ⟨t, ht, h1, h2⟩ := eol_take r h
  rw [h1]
  constructor
  · intro e
    rcases ht with rfl | rfl
    · rw [List.append_nil] at e
      rw [e] at h2; simp at h2
    · exact List.append_cancel_right (bs := [10]) (by simpa using e)
  · intro e
    rcases ht with rfl | rfl
    · exfalso
      rw [e] at h1
      have := congrArg List.length h1
      have hp := lineN_pos h
      have hl := lineN_le r
      simp at this
      rcases this with h' | h'
      · omega
      · exact h h'
    · rw [e]; rfl
end Go.Proofs.YtmfdmpfeoppnfaaDoor
