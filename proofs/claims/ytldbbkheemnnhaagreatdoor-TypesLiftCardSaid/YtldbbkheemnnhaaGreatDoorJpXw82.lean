/-
  The texts Xw8, Fo8, joined.
-/
import Derived.Test.YtldbbkheemnnhaaGreatDoorJpRh82
import Derived.Test.YtldbbkheemnnhaaGreatDoorJpRq83
import Derived.Test.YtldbbkheemnnhaaGreatDoorJpRg83
namespace Go.Proofs.YtldbbkheemnnhaaGreatDoor
open Go.RowKit
theorem ar_nth {α : Type} {z bz : Nat} {P : List Value -> α -> Prop} {K : Ctx} {w : World} {a : Option Addr} {n p : Nat} {l : List α} (h : Ar z bz P K w (.slice a n p) l) (i : Nat) (hi : i < l.length) :
  ∃ x, l[i]? = some x /\ ∃ b o, a = some ⟨b, o, none⟩ /\ b < K.C /\ ∃ cs, cs.length = z /\ w.rangeAt b (o + i * z) cs /\ P cs x := ⟨l[i], List.getElem?_eq_getElem hi, h.each i hi⟩
end Go.Proofs.YtldbbkheemnnhaaGreatDoor

namespace Go.Proofs.YtldbbkheemnnhaaGreatDoor
open Go.RowKit
theorem count_le {l : List (Int × Int)} {got : List Int} {y : Int} : l.countP (fun q => decide (q.2 ∉ got ++ [y])) <= l.countP (fun q => decide (q.2 ∉ got)) :=
 List.countP_mono_left fun q _ h => by
  simp only [decide_eq_true_eq, List.mem_append, not_or] at h ⊢
  exact h.1
theorem count_drop {got : List Int} {y : Int} (hy : y ∉ got) : ∀ {l : List (Int × Int)}, (∃ q ∈ l, q.2 = y) -> l.countP (fun q => decide (q.2 ∉ got ++ [y])) + 1 <= l.countP (fun q => decide (q.2 ∉ got))
 | [], h => by obtain ⟨_, h, _⟩ := h; cases h
 | z :: l, h => by
  by_cases hz : z.2 = y
  ·rw [List.countP_cons_of_neg (by simp [hz]), List.countP_cons_of_pos (by simp [hz, hy])]
   exact Nat.succ_le_succ count_le
  ·have h' : ∃ q ∈ l, q.2 = y := by
    obtain ⟨q, hq, e⟩ := h
    rcases List.mem_cons.1 hq with rfl | hq
    ·exact absurd e hz
    ·exact ⟨q, hq, e⟩
   have := count_drop hy h'
   by_cases hg : z.2 ∈ got
   ·rw [List.countP_cons_of_neg (by simp [hg]), List.countP_cons_of_neg (by simp [hg])]
    exact this
   ·rw [List.countP_cons_of_pos (by simp [hg, hz]), List.countP_cons_of_pos (by simp [hg])]
    omega
structure Fol (l : List (Int × Int)) (p0 p1 : Int) (got : List Int) (i : Nat) : Prop where
 first : p0 ∈ got
 closed : ∀ a, a < i -> ∀ q ∈ l, q.1 = got.getD a 0 -> q.2 ∈ got
 notyet : ∀ a, a < i -> got.getD a 0 ≠ p1
 bound : got.length + l.countP (fun q => decide (q.2 ∉ got)) <= l.length + 1
theorem getD_app {got ext : List Int} {a : Nat} (h : a < got.length) : (got ++ ext).getD a 0 = got.getD a 0 := by
 rw [List.getD_eq_getElem?_getD, List.getElem?_append_left h, List.getD_eq_getElem?_getD]
theorem Fol.start {l : List (Int × Int)} {p0 p1 : Int} : Fol l p0 p1 [p0] 0 :=
 ⟨List.mem_singleton.2 rfl, fun _ h => absurd h (Nat.not_lt_zero _), fun _ h => absurd h (Nat.not_lt_zero _), by
  have : l.countP (fun q => decide (q.2 ∉ [p0])) <= l.length := List.countP_le_length
  simp only [List.length_cons, List.length_nil]
  omega⟩
theorem Fol.app {l : List (Int × Int)} {p0 p1 y : Int} {got : List Int} {i : Nat} (h : Fol l p0 p1 got i) (hi : i <= got.length) (hy : y ∉ got) (hq : ∃ q ∈ l, q.2 = y) : Fol l p0 p1 (got ++ [y]) i :=
 ⟨List.mem_append_left _ h.first, fun a ha q hq e => List.mem_append_left _ (h.closed a ha q hq (by rw [getD_app (by omega)] at e; exact e)), fun a ha => by rw [getD_app (by omega)]; exact h.notyet a ha, by
  have h1 := count_drop hy hq
  have h2 := h.bound
  rw [List.length_append]
  simp only [List.length_cons, List.length_nil]
  omega⟩
theorem Fol.next {l : List (Int × Int)} {p0 p1 : Int} {got : List Int} {i : Nat} (h : Fol l p0 p1 got i) (hx : got.getD i 0 ≠ p1) (hc : ∀ q ∈ l, q.1 = got.getD i 0 -> q.2 ∈ got) : Fol l p0 p1 got (i + 1) :=
 ⟨h.first, fun a ha => by
  rcases Nat.lt_succ_iff_lt_or_eq.1 ha with h1 | rfl
  ·exact h.closed a h1
  ·exact hc, fun a ha => by
  rcases Nat.lt_succ_iff_lt_or_eq.1 ha with h1 | rfl
  ·exact h.notyet a h1
  ·exact hx, h.bound⟩
theorem Fol.done {l : List (Int × Int)} {p0 p1 : Int} {got : List Int} (h : Fol l p0 p1 got got.length) (hch : p0 = p1 ∨ ∃ r, (p0, r) ∈ l /\ (r, p1) ∈ l) : False := by
 have hne : ∀ x ∈ got, x ≠ p1 := fun x hx => by
  obtain ⟨a, ha, e⟩ := List.getElem_of_mem hx
  have := h.notyet a ha
  rw [List.getD_eq_getElem?_getD, List.getElem?_eq_getElem ha] at this
  rw [← e]; exact this
 have hcl : ∀ x ∈ got, ∀ q ∈ l, q.1 = x -> q.2 ∈ got := fun x hx q hq e => by
  obtain ⟨a, ha, e2⟩ := List.getElem_of_mem hx
  exact h.closed a ha q hq (by rw [List.getD_eq_getElem?_getD, List.getElem?_eq_getElem ha]; rw [e, ← e2]; rfl)
 rcases hch with rfl | ⟨r, h1, h2⟩
 ·exact hne _ h.first rfl
 ·exact hne _ (hcl _ (hcl _ h.first _ h1 rfl) _ h2 rfl) rfl
end Go.Proofs.YtldbbkheemnnhaaGreatDoor
