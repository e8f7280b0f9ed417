/-
  Which sum is below: an order; rising; a row of sums, sorted.
-/
import Derived.Test.YtjnogpcpekheoaaCom
import Derived.Test.YtjnogpcpekheoaaLes
import Derived.Shelf.SlSortCmp.NoneTotal
import Derived.Shelf.SlSortCmp.WholeK
import Derived.Ground.SlsfProg
namespace Go.Proofs
open Go.Shelf Go.RowKit Go.Lib Go.Sort
def Try.sortH_ren : Go.Shelf.Ren := ⟨fun | 6 => 32 | 15 => 40 | 14 => 39 | 28 => 53 | 29 => 54 | 20 => 45 | 21 => 46 | 22 => 47 | 23 => 48 | 24 => 49 | 25 => 50 | 26 => 51 | 27 => 52 | 46 => 57 | 47 => 58 | 48 => 59 | 49 => 60 | 50 => 61 | 57 => 64 | n => n, fun | 22 => 29 | 24 => 35 | 25 => 81 | 3 => 3 | 39 => 72 | 0 => 0 | 53 => 73 | 55 => 71 | 4 => 4 | 46 => 100 | 45 => 99 | 50 => 67 | 5 => 5 | 9 => 9 | 66 => 108 | 70 => 112 | 76 => 114 | 77 => 69 | n => n, fun | n => n⟩
theorem Try.sortH : Go.Proofs.SlLaysF0.n6 Try.prog Try.sortH_ren := {
  mixed := by kernel_rfl
  f6 := ⟨Try.f32.name, by decide, Try.func32.trans (congrArg some (by kernel_rfl))⟩
  f14 := ⟨Try.f39.name, by decide, Try.func39.trans (congrArg some (by kernel_rfl))⟩
  f15 := Try.func40.trans (congrArg some (by kernel_rfl))
  f20 := ⟨Try.f45.name, by decide, Try.func45.trans (congrArg some (by kernel_rfl))⟩
  f21 := ⟨Try.f46.name, by decide, Try.func46.trans (congrArg some (by kernel_rfl))⟩
  f22 := ⟨Try.f47.name, by decide, Try.func47.trans (congrArg some (by kernel_rfl))⟩
  f23 := ⟨Try.f48.name, by decide, Try.func48.trans (congrArg some (by kernel_rfl))⟩
  f24 := ⟨Try.f49.name, by decide, Try.func49.trans (congrArg some (by kernel_rfl))⟩
  f25 := ⟨Try.f50.name, by decide, Try.func50.trans (congrArg some (by kernel_rfl))⟩
  f26 := ⟨Try.f51.name, by decide, Try.func51.trans (congrArg some (by kernel_rfl))⟩
  f27 := ⟨Try.f52.name, by decide, Try.func52.trans (congrArg some (by kernel_rfl))⟩
  f28 := Try.func53.trans (congrArg some (by kernel_rfl))
  f29 := Try.func54.trans (congrArg some (by kernel_rfl))
  f46 := ⟨Try.f57.name, by decide, Try.func57.trans (congrArg some (by kernel_rfl))⟩
  f47 := Try.func58.trans (congrArg some (by kernel_rfl))
  f48 := Try.func59.trans (congrArg some (by kernel_rfl))
  f49 := ⟨Try.f60.name, by decide, Try.func60.trans (congrArg some (by kernel_rfl))⟩
  f50 := ⟨Try.f61.name, by decide, Try.func61.trans (congrArg some (by kernel_rfl))⟩
  f57 := ⟨Try.f64.name, by decide, Try.func64.trans (congrArg some (by kernel_rfl))⟩
  t0 := Try.underlying0
  a0 := Try.isAgg0
  z0 := Try.sizeOf0
  v0 := Try.zeroValue0
  t3 := Try.underlying3
  a3 := Try.isAgg3
  z3 := Try.sizeOf3
  v3 := Try.zeroValue3
  t4 := Try.underlying4
  a4 := Try.isAgg4
  z4 := Try.sizeOf4
  v4 := Try.zeroValue4
  t5 := Try.underlying5
  a5 := Try.isAgg5
  z5 := Try.sizeOf5
  v5 := Try.zeroValue5
  t9 := Try.underlying9
  a9 := Try.isAgg9
  z9 := Try.sizeOf9
  v9 := Try.zeroValue9
  t22 := Try.underlying29
  a22 := Try.isAgg29
  z22 := Try.sizeOf29
  v22 := Try.zeroValue29
  t25 := Try.underlying81
  a25 := Try.isAgg81
  z25 := Try.sizeOf81
  v25 := Try.zeroValue81
  t39 := Try.underlying72
  a39 := Try.isAgg72
  z39 := Try.sizeOf72
  v39 := Try.zeroValue72
  t45 := Try.underlying99
  a45 := Try.isAgg99
  z45 := Try.sizeOf99
  v45 := Try.zeroValue99
  t46 := Try.underlying100
  a46 := Try.isAgg100
  z46 := Try.sizeOf100
  v46 := Try.zeroValue100
  t50 := Try.underlying67
  a50 := Try.isAgg67
  z50 := Try.sizeOf67
  v50 := Try.zeroValue67
  t53 := Try.underlying73
  a53 := Try.isAgg73
  z53 := Try.sizeOf73
  v53 := Try.zeroValue73
  t55 := Try.underlying71
  a55 := Try.isAgg71
  z55 := Try.sizeOf71
  v55 := Try.zeroValue71
  t66 := Try.underlying108
  a66 := Try.isAgg108
  z66 := Try.sizeOf108
  v66 := Try.zeroValue108
  t70 := Try.underlying112
  a70 := Try.isAgg112
  z70 := Try.sizeOf112
  v70 := Try.zeroValue112
  t76 := Try.underlying114
  a76 := Try.isAgg114
  z76 := Try.sizeOf114
  v76 := Try.zeroValue114
  t77 := Try.underlying69
  a77 := Try.isAgg69
  z77 := Try.sizeOf69
  v77 := Try.zeroValue69 }
end Go.Proofs
namespace Go.Proofs.Ytjnogpcpekheoaa
open Go.RowKit Go.Maps

theorem less_cons (x y : UInt8) (a b : Bys) : less (x :: a) (y :: b) = (decide (x.toNat < y.toNat) || (decide (x.toNat = y.toNat) && less a b)) := by
  unfold less
  rw [Lib.compareBytes]
  by_cases h1 : x < y
  · have h1' := UInt8.lt_iff_toNat_lt.1 h1
    simp [h1, h1']
  · have h1' : ¬ x.toNat < y.toNat := fun h => h1 (UInt8.lt_iff_toNat_lt.2 h)
    by_cases h2 : y < x
    · have h2' := UInt8.lt_iff_toNat_lt.1 h2
      have h3 : ¬ x.toNat = y.toNat := by omega
      simp [h1, h1', h2, h3]
    · have h2' : ¬ y.toNat < x.toNat := fun h => h2 (UInt8.lt_iff_toNat_lt.2 h)
      have h3 : x.toNat = y.toNat := by omega
      simp [h1, h2, h3]
theorem less_irrefl : ∀ a : Bys, less a a = false
  | [] => rfl
  | x :: a => by rw [less_cons, less_irrefl a]; simp
theorem less_trans : ∀ a b c : Bys, less a b = true → less b c = true → less a c = true
  | [], b, c, h1, h2 => by
    cases b with
    | nil => simp [less, Lib.compareBytes] at h1
    | cons y b =>
      cases c with
      | nil => simp [less, Lib.compareBytes] at h2
      | cons z c => simp [less, Lib.compareBytes]
  | x :: a, [], c, h1, h2 => by simp [less, Lib.compareBytes] at h1
  | x :: a, y :: b, [], h1, h2 => by simp [less, Lib.compareBytes] at h2
  | x :: a, y :: b, z :: c, h1, h2 => by
    rw [less_cons] at *
    have ih := less_trans a b c
    simp only [Bool.or_eq_true, Bool.and_eq_true, decide_eq_true_eq] at *
    rcases h1 with h1 | ⟨h1, h1'⟩ <;> rcases h2 with h2 | ⟨h2, h2'⟩
    · left; omega
    · left; omega
    · left; omega
    · right; exact ⟨by omega, ih h1' h2'⟩
theorem less_total : ∀ a b : Bys, a.length = b.length → less a b = false → less b a = false → a = b
  | [], [], _, _, _ => rfl
  | [], y :: b, h, _, _ => by simp at h
  | x :: a, [], h, _, _ => by simp at h
  | x :: a, y :: b, h, h1, h2 => by
    rw [less_cons] at *
    simp only [Bool.or_eq_false_iff, Bool.and_eq_false_iff, decide_eq_false_iff_not] at *
    have hxy : x.toNat = y.toNat := by omega
    have hx := UInt8.toNat_inj.1 hxy
    rw [hx, less_total a b (by simpa using h) (h1.2.resolve_left (fun h => h hxy)) (h2.2.resolve_left (fun h => h hxy.symm))]

/-- Sums as such. -/
abbrev Hsh := { l : Bys // l.length = 32 }
def encH (x : Hsh) : List Value := bys x.1
/-- What rising answers. -/
def cfH (x y : Hsh) : Int := if less x.1 y.1 then -1 else if less y.1 x.1 then 1 else 0
theorem ltH (x y : Hsh) : ltOf cfH x y = less x.1 y.1 := by
  unfold ltOf cfH
  cases h1 : less x.1 y.1 <;> cases h2 : less y.1 x.1 <;> simp
theorem swoH : Sort.SWO (ltOf cfH) where
  irrefl x := by rw [ltH, less_irrefl]
  trans x y z h1 h2 := by rw [ltH] at *; exact less_trans _ _ _ h1 h2
  ntrans x y z h1 h2 := by
    rw [ltH] at *
    cases h : less x.1 z.1 with
    | false => rfl
    | true =>
      have hlen : ∀ p q : Hsh, p.1.length = q.1.length := fun p q => p.2.trans q.2.symm
      cases h3 : less y.1 x.1 with
      | false =>
        have := less_total _ _ (hlen x y) h1 h3
        rw [this, h2] at h
        cases h
      | true =>
        cases h4 : less z.1 y.1 with
        | false =>
          have := less_total _ _ (hlen y z) h2 h4
          rw [← this, h1] at h
          cases h
        | true =>
          have := less_trans _ _ _ (less_trans _ _ _ h h4) h3
          rw [less_irrefl] at this
          cases this
theorem grow_of {W w' : World} (hb : Below W.heap.size W w') (hd : W.drawn ≤ w'.drawn) : ∃ q os', w' = Sort.grow (W.drewN q) os' := by
  refine ⟨w'.drawn - W.drawn, w'.heap.extract W.heap.size w'.heap.size, ?_⟩
  obtain ⟨h1, t1, d1, o1, u1⟩ := w'
  obtain ⟨h0, t0, d0, o0, u0⟩ := W
  have e1 := hb.os
  have e2 := hb.tape
  have e3 := hb.output
  have e4 := hb.size
  have e5 := hb.block
  simp only at e1 e2 e3 e4 e5 hd
  subst e1 e2 e3
  have hd' : d1 = d0 + (d1 - d0) := by omega
  have hh : h1 = h0 ++ h1.extract h0.size h1.size := by
    apply Array.ext_getElem?
    intro i
    rcases Nat.lt_or_ge i h0.size with hi | hi
    · rw [Array.getElem?_append_left hi]; exact e5 i hi
    · rw [Array.getElem?_append_right hi, Array.getElem?_extract]
      rcases Nat.lt_or_ge i h1.size with hi' | hi'
      · rw [if_pos (by omega), show h0.size + (i - h0.size) = i by omega]
      · rw [Array.getElem?_eq_none hi', if_neg (by omega)]
  simp only [Sort.grow, World.drewN]
  rw [← hh, ← hd']
end Go.Proofs.Ytjnogpcpekheoaa
