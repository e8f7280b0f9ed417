/-
  The texts Bu9, HeadsCard, joined.
-/
import Derived.Test.YtlbhaaldndjigaaGreatDoorJGds2
import Derived.Test.YtlbhaaldndjigaaGreatDoorPtx
import Derived.Test.YtlbhaaldndjigaaGreatDoorRows
import Derived.Test.YtlbhaaldndjigaaGreatDoorCards
import Derived.Test.YtlbhaaldndjigaaGreatDoorTie
import Derived.Test.YtlbhaaldndjigaaGreatDoorHds
import Derived.SevenTiedAt
import Derived.ProofKit
import Derived.OpenShut
import Derived.Deep.DeepHandedRow
import Derived.Lib.LaidTab
import Derived.Stop.LaidErr
namespace Go.Proofs.YtlbhaaldndjigaaGreatDoor
open Go.ChangeShapes Go.WideShapes Go.ChangeAt Go.RowKit

theorem first5 {H : Type} {l : List (DataW H)} {a b c d e : DataW H} (h0 : l[0]? = some a) (h1 : l[1]? = some b) (h2 : l[2]? = some c) (h3 : l[3]? = some d) (h4 : l[4]? = some e) : Rows.uptoBulk a + Rows.uptoBulk b + Rows.uptoBulk c + Rows.uptoBulk d + Rows.uptoBulk e ≤ Rows.uptoBulkAll l := by
  match l with
  | x0 :: x1 :: x2 :: x3 :: x4 :: r =>
    simp only [List.getElem?_cons_zero, List.getElem?_cons_succ, Option.some.injEq] at h0 h1 h2 h3 h4
    subst h0 h1 h2 h3 h4
    simp only [Rows.uptoBulkAll]
    omega
  | [] => simp at h0
  | [_] => simp at h1
  | [_, _] => simp at h2
  | [_, _, _] => simp at h3
  | [_, _, _, _] => simp at h4
theorem first4 {H : Type} {l : List (DataW H)} {a b c d : DataW H} (h0 : l[0]? = some a) (h1 : l[1]? = some b) (h2 : l[2]? = some c) (h3 : l[3]? = some d) : Rows.uptoBulk a + Rows.uptoBulk b + Rows.uptoBulk c + Rows.uptoBulk d ≤ Rows.uptoBulkAll l := by
  match l with
  | x0 :: x1 :: x2 :: x3 :: r =>
    simp only [List.getElem?_cons_zero, List.getElem?_cons_succ, Option.some.injEq] at h0 h1 h2 h3
    subst h0 h1 h2 h3
    simp only [Rows.uptoBulkAll]
    omega
  | [] => simp at h0
  | [_] => simp at h1
  | [_, _] => simp at h2
  | [_, _, _] => simp at h3
theorem first3 {H : Type} {l : List (DataW H)} {a b c : DataW H} (h0 : l[0]? = some a) (h1 : l[1]? = some b) (h2 : l[2]? = some c) : Rows.uptoBulk a + Rows.uptoBulk b + Rows.uptoBulk c ≤ Rows.uptoBulkAll l := by
  match l with
  | x0 :: x1 :: x2 :: r =>
    simp only [List.getElem?_cons_zero, List.getElem?_cons_succ, Option.some.injEq] at h0 h1 h2
    subst h0 h1 h2
    simp only [Rows.uptoBulkAll]
    omega
  | [] => simp at h0
  | [_] => simp at h1
  | [_, _] => simp at h2

/-- Texts one behind the other, each counted. -/
theorem jn_sum {α : Type} (sep : Bs) (g : α → Bs) (f : α → Nat) (c : Nat) (h : ∀ x, sep.length + (g x).length ≤ c * f x) : ∀ l : List α, (jn sep (l.map g)).length ≤ c * (l.map f).sum := by
  intro l
  have key : ∀ k, k ≤ l.length → (jn sep ((l.map g).take k)).length ≤ c * ((l.take k).map f).sum := by
    intro k
    induction k with
    | zero => intro _; simp [jn]
    | succ k ih =>
      intro hk
      have hk' : k < (l.map g).length := by rw [List.length_map]; omega
      have h1 := ih (by omega)
      have h2 := h l[k]
      have h3 : (if k = 0 then ([] : Bs) else sep).length ≤ sep.length := by split <;> simp
      have e : ((l.take (k + 1)).map f).sum = ((l.take k).map f).sum + f l[k] := by
        rw [List.take_add_one, List.getElem?_eq_getElem (by omega : k < l.length), List.map_append, List.sum_append]
        simp
      rw [jn_take sep _ k hk', List.length_append, List.length_append, e, Nat.mul_add]
      simp only [List.getElem_map]
      omega
  have := key l.length (Nat.le_refl _)
  rwa [List.take_of_length_le (by simp), List.take_of_length_le (by simp)] at this
theorem markT_sum (l : List Bs) : (markT l).length ≤ 2 + 3 * (l.map fun s => s.length + 1).sum := by
  unfold markT angT
  split
  · simp
  · have := jn_sum [44, 32] lifT (fun s => s.length + 1) 3 (fun x => by simp [lifT]; omega) l
    simp only [List.length_append, List.length_cons, List.length_nil]
    omega
theorem overT_sum (l : List Bs) : (overT l).length ≤ 2 + 4 * (l.map fun s => s.length + 1).sum := by
  unfold overT
  split
  · simp
  · have := jn_sum [32, 43, 32] lifT (fun s => s.length + 1) 4 (fun x => by simp [lifT]; omega) l
    simp only [List.length_append, List.length_cons, List.length_nil]
    omega
theorem liveT_sum (l : List Bs) : (liveT l).length ≤ 2 + (l.map fun s => s.length + 1).sum := by
  cases l with
  | nil => simp [liveT]
  | cons a l => simp [liveT]; omega

section
variable {H : Type} {enc : TypeId × Value → H} {W : World} {Good : TypeId → DataW H → Prop} {K : Ctx}
theorem text_ofN (G : Gd Good K.B) {fuel : Nat} {cs : List Value} {x : DataW H × List MemPlace} (h : Td enc W fuel 9 cs x) (g : Good 9 x.1) : ∃ s : Bs, (cs = [.string (str s)] ∧ s.length ≤ K.B) ∧ ∀ _ : Nat, s.length + 1 ≤ Rows.uptoBulk x.1 := by
  obtain ⟨s, rfl, rfl, _⟩ := DataW.trod_string Tryz.underlying9 h
  exact ⟨s.data.toList, ⟨by rw [str_of], G.text g⟩, fun _ => by simp [Rows.uptoBulk]⟩
theorem strs_ofN (G : Gd Good K.B) (hK : W.heap.size ≤ K.C) {fuel : Nat} {cs : List Value} {x : DataW H × List MemPlace} (h : Td enc W fuel 35 cs x) (g : Good 35 x.1) : ∃ v l, cs = [v] ∧ Strs K W v l ∧ (l.map fun s => s.length + 1).sum ≤ Rows.uptoBulk x.1 := by
  obtain ⟨v, l, e, r, c⟩ := row_ofN (f := fun _ s => List.length s + 1) (e := 9) (z := 1) (bz := 16) (α := Bs) (P := TxAt K) G hK Tryz.underlying35 (by kernel_rfl) (by kernel_rfl) (by decide) [] (fun n _ _ _ h g => by
    obtain ⟨s, h1, h2⟩ := text_ofN G h g
    exact ⟨s, h1, h2⟩) h g
  exact ⟨v, l, e, r, c 0⟩
theorem ty_ofT (G : Gd Good K.B) (hK : W.heap.size ≤ K.C) : ∀ (fuel : Nat) {cs : List Value} {x : DataW H × List MemPlace}, Td enc W fuel 38 cs x → Good 38 x.1 → ∃ t, TyAt fuel K W cs t ∧ (tyT t).length ≤ 10 * Rows.uptoBulk x.1 := by
  intro fuel
  induction fuel using Nat.strongRecOn with
  | ind fuel ih =>
  intro cs x h g
  obtain ⟨n, ps, rfl, hps, hl, hf⟩ := parts_ofN G Tryz.underlying38 h g
  have hl' : cs.length = 4 := hl.trans (by kernel_rfl)
  obtain ⟨a0, a1, a2, a3, rfl⟩ := lst4 hl'
  obtain ⟨y0, t0, g0, x0⟩ := hf 0 _ rfl
  have s0 : Td enc W n 3 [a0] y0 := cut t0 Tryz.cl3 rfl
  obtain ⟨y1, t1, g1, x1⟩ := hf 1 _ rfl
  have s1 : Td enc W n 9 [a1] y1 := cut t1 Tryz.cl9 rfl
  obtain ⟨y2, t2, g2, x2⟩ := hf 2 _ rfl
  have s2 : Td enc W n 35 [a2] y2 := cut t2 Tryz.cl28 rfl
  obtain ⟨y3, t3, g3, x3⟩ := hf 3 _ rfl
  have s3 : Td enc W n 36 [a3] y3 := cut t3 Tryz.cl29 rfl
  obtain ⟨k0, e0⟩ := int_of s0
  injection e0 with e0 _
  subst e0
  obtain ⟨k1, ⟨e1, l1⟩, c1⟩ := text_ofN G s1 g1
  injection e1 with e1 _
  subst e1
  obtain ⟨v2, k2, e2, r2, c2⟩ := strs_ofN G hK s2 g2
  injection e2 with e2 _
  subst e2
  obtain ⟨v3, k3, e3, r3, c3⟩ := row_ofN (f := fun _ t => ((tyT t).length + 9) / 10) (e := 38) (z := 4) (bz := 72) (α := Ty) (P := TyAt (n - 1) K W) G hK Tryz.underlying36 (by kernel_rfl) (by kernel_rfl) (by decide) Ty.zero (fun m hm _ _ h g => by
    rw [show n - 1 = m by omega]
    obtain ⟨t, ht, hb⟩ := ih m (by omega) h g
    exact ⟨t, ht, fun _ => by omega⟩) s3 g3
  injection e3 with e3 _
  subst e3
  refine ⟨⟨k0, k1, k2, k3⟩, ⟨_, _, rfl, l1, r2, r3.mono (Below.refl _ _) fun _ _ _ h => TyAt.upto h (Nat.sub_le n 1)⟩, ?_⟩
  have hb := first4 x0 x1 x2 x3
  have b1 := c1 0
  have b3 := c3 0
  have o0 := one_le y0.1
  have o3 := one_le y3.1
  rw [hps]
  simp only [Rows.uptoBulk]
  by_cases q1 : k0 = 1
  · rw [tyT_int (t := ⟨k0, k1, k2, k3⟩) q1]; simp only [List.length_cons, List.length_nil]; omega
  by_cases q2 : k0 = 2
  · rw [tyT_bool (t := ⟨k0, k1, k2, k3⟩) q2]; simp only [List.length_cons, List.length_nil]; omega
  by_cases q3 : k0 = 3
  · rw [tyT_sct (t := ⟨k0, k1, k2, k3⟩) q3]
    have := markT_sum k2
    simp only [List.length_append]
    omega
  by_cases q4 : k0 = 4 ∨ k0 = 5
  · by_cases he : 0 < k3.length
    · rw [tyT_ref (t := ⟨k0, k1, k2, k3⟩) q4 he]
      have h1 := liveT_sum k2
      have h2 : ((tyT k3[0]).length + 9) / 10 ≤ (k3.map fun t => ((tyT t).length + 9) / 10).sum := sum_mem (fun t => ((tyT t).length + 9) / 10) (List.getElem_mem he)
      have h3 : (if k0 = 5 then ([109, 117, 116, 32] : Bs) else []).length ≤ 4 := by split <;> decide
      simp only [List.length_append, List.length_cons, List.length_nil]
      omega
    · rw [tyT_none (t := ⟨k0, k1, k2, k3⟩) q4 (by simp only; omega)]; simp
  · rw [tyT_else (t := ⟨k0, k1, k2, k3⟩) q1 q2 q3 (fun h => q4 (.inl h)) (fun h => q4 (.inr h))]; simp
theorem lfe_ofT (G : Gd Good K.B) (hK : W.heap.size ≤ K.C) {fuel : Nat} {cs : List Value} {x : DataW H × List MemPlace} (h : Td enc W fuel 50 cs x) (g : Good 50 x.1) : ∃ p, LfeAt K W cs p ∧ ∀ _ : Nat, ((lfeT p).length + 9) / 10 ≤ Rows.uptoBulk x.1 := by
  obtain ⟨n, ps, rfl, hps, hl, hf⟩ := parts_ofN G Tryz.underlying50 h g
  have hl' : cs.length = 2 := hl.trans (by kernel_rfl)
  obtain ⟨a0, a1, rfl⟩ := lst2 hl'
  obtain ⟨y0, t0, g0, x0⟩ := hf 0 _ rfl
  have s0 : Td enc W n 9 [a0] y0 := cut t0 Tryz.cl9 rfl
  obtain ⟨y1, t1, g1, x1⟩ := hf 1 _ rfl
  have s1 : Td enc W n 35 [a1] y1 := cut t1 Tryz.cl28 rfl
  obtain ⟨k0, ⟨e0, l0⟩, c0⟩ := text_ofN G s0 g0
  injection e0 with e0 _
  subst e0
  obtain ⟨v1, k1, e1, r1, c1⟩ := strs_ofN G hK s1 g1
  injection e1 with e1 _
  subst e1
  refine ⟨⟨k0, k1⟩, ⟨_, rfl, l0, r1⟩, fun _ => ?_⟩
  have hb := two_le (by decide : 0 < 1) x0 x1
  have b0 := c0 0
  have b1 := overT_sum k1
  rw [hps]
  simp only [Rows.uptoBulk, lfeT, lifT, List.length_append, List.length_cons, List.length_nil]
  omega
theorem fld_ofT (G : Gd Good K.B) (hK : W.heap.size ≤ K.C) {fuel : Nat} {cs : List Value} {x : DataW H × List MemPlace} (h : Td enc W fuel 112 cs x) (g : Good 112 x.1) : ∃ p, FldAt K W cs p ∧ ∀ _ : Nat, ((fldT p).length + 9) / 10 ≤ Rows.uptoBulk x.1 := by
  obtain ⟨n, ps, rfl, hps, hl, hf⟩ := parts_ofN G Tryz.underlying112 h g
  have hl' : cs.length = 6 := hl.trans (by kernel_rfl)
  obtain ⟨a0, a1, a2, a3, a4, a5, rfl⟩ := lst6 hl'
  obtain ⟨y0, t0, g0, x0⟩ := hf 0 _ rfl
  have s0 : Td enc W n 4 [a0] y0 := cut t0 Tryz.cl4 rfl
  obtain ⟨y1, t1, g1, x1⟩ := hf 1 _ rfl
  have s1 : Td enc W n 9 [a1] y1 := cut t1 Tryz.cl9 rfl
  obtain ⟨y2, t2, g2, x2⟩ := hf 2 _ rfl
  have s2 : Td enc W n 38 [a2, a3, a4, a5] y2 := cut t2 Tryz.cl31 rfl
  obtain ⟨k0, e0⟩ := bool_of s0
  injection e0 with e0 _
  subst e0
  obtain ⟨k1, ⟨e1, l1⟩, c1⟩ := text_ofN G s1 g1
  injection e1 with e1 _
  subst e1
  obtain ⟨p2, r2, c2⟩ := ty_ofT G hK _ s2 g2
  refine ⟨⟨k0, k1, p2⟩, ⟨_, rfl, l1, _, r2⟩, fun _ => ?_⟩
  have hb := first3 x0 x1 x2
  have b1 := c1 0
  have o0 := one_le y0.1
  have m0 : (mutT k0).length ≤ 4 := by cases k0 <;> decide
  rw [hps]
  simp only [Rows.uptoBulk, fldT, List.length_append, List.length_cons, List.length_nil]
  omega
theorem fnc_ofT (G : Gd Good K.B) (hK : W.heap.size ≤ K.C) {fuel : Nat} {cs : List Value} {x : DataW H × List MemPlace} (h : Td enc W fuel 43 cs x) (g : Good 43 x.1) : ∃ p, FncAt fuel K W cs p ∧ (headT p).length ≤ 40 * Rows.uptoBulk x.1 := by
  obtain ⟨n, ps, rfl, hps, hl, hf⟩ := parts_ofN G Tryz.underlying43 h g
  have hl' : cs.length = 10 := hl.trans (by kernel_rfl)
  obtain ⟨a0, a1, a2, a3, a4, a5, a6, a7, a8, a9, rfl⟩ := lst10 hl'
  obtain ⟨y0, t0, g0, x0⟩ := hf 0 _ rfl
  have s0 : Td enc W n 4 [a0] y0 := cut t0 Tryz.cl4 rfl
  obtain ⟨y1, t1, g1, x1⟩ := hf 1 _ rfl
  have s1 : Td enc W n 9 [a1] y1 := cut t1 Tryz.cl9 rfl
  obtain ⟨y2, t2, g2, x2⟩ := hf 2 _ rfl
  have s2 : Td enc W n 39 [a2] y2 := cut t2 Tryz.cl36 rfl
  obtain ⟨y3, t3, g3, x3⟩ := hf 3 _ rfl
  have s3 : Td enc W n 40 [a3] y3 := cut t3 Tryz.cl37 rfl
  obtain ⟨y4, t4, g4, x4⟩ := hf 4 _ rfl
  have s4 : Td enc W n 38 [a4, a5, a6, a7] y4 := cut t4 Tryz.cl31 rfl
  obtain ⟨y5, t5, g5, x5⟩ := hf 5 _ rfl
  have s5 : Td enc W n 41 [a8] y5 := cut t5 Tryz.cl38 rfl
  obtain ⟨y6, t6, g6, -⟩ := hf 6 _ rfl
  have s6 : Td enc W n 3 [a9] y6 := cut t6 Tryz.cl3 rfl
  obtain ⟨k0, e0⟩ := bool_of s0
  injection e0 with e0 _
  subst e0
  obtain ⟨k1, ⟨e1, l1⟩, c1⟩ := text_ofN G s1 g1
  injection e1 with e1 _
  subst e1
  obtain ⟨v2, k2, e2, r2, c2⟩ := row_ofN (f := fun _ p => ((lfeT p).length + 9) / 10) (e := 50) (z := 2) (bz := 40) (α := Lfe) (P := LfeAt K W) G hK Tryz.underlying39 (by kernel_rfl) (by kernel_rfl) (by decide) ⟨[], []⟩ (fun _ _ _ _ h g => lfe_ofT G hK h g) s2 g2
  injection e2 with e2 _
  subst e2
  obtain ⟨v3, k3, e3, r3, c3⟩ := row_ofN (f := fun _ p => ((fldT p).length + 9) / 10) (e := 112) (z := 6) (bz := 96) (α := Fld) (P := FldAt K W) G hK Tryz.underlying40 (by kernel_rfl) (by kernel_rfl) (by decide) ⟨false, [], Ty.zero⟩ (fun _ _ _ _ h g => fld_ofT G hK h g) s3 g3
  injection e3 with e3 _
  subst e3
  obtain ⟨p4, r4, c4⟩ := ty_ofT G hK _ s4 g4
  obtain ⟨v5, k5, e5, r5, -⟩ := row_ofN (f := fun m t => 1 + inner m t) (e := 86) (z := 32) (bz := 496) (α := St) (P := StAt (n - 1) K W) G hK Tryz.underlying41 (by kernel_rfl) (by kernel_rfl) (by decide) (St.bare 0 0) (fun m hm _ _ h g => by rw [show n - 1 = m by omega]; exact st_ofN G hK m h g) s5 g5
  injection e5 with e5 _
  subst e5
  obtain ⟨k6, e6⟩ := int_of s6
  injection e6 with e6 _
  subst e6
  refine ⟨⟨k0, k1, k2, k3, p4, k5, k6⟩, ⟨_, _, _, _, rfl, l1, r2, r3, ⟨_, r4⟩, r5.mono (Below.refl _ _) fun _ _ _ h => h.upto (by omega)⟩, ?_⟩
  have hb := first5 x0 x1 x2 x3 x4
  have b1 := c1 0
  have b2 := c2 0
  have b3 := c3 0
  have o0 := one_le y0.1
  have o4 := one_le y4.1
  have j2 := jn_sum [44, 32] lfeT (fun p => ((lfeT p).length + 9) / 10) 12 (fun p => by
    have : 1 ≤ (lfeT p).length := by simp [lfeT, lifT]
    simp only [List.length_cons, List.length_nil]; omega) k2
  have j3 := jn_sum [44, 32] fldT (fun p => ((fldT p).length + 9) / 10) 12 (fun p => by
    have : 1 ≤ (fldT p).length := by simp [fldT]; omega
    simp only [List.length_cons, List.length_nil]; omega) k3
  have a2' : (angT (k2.map lfeT)).length ≤ 2 + (jn [44, 32] (k2.map lfeT)).length := by
    unfold angT
    split
    · simp
    · simp only [List.length_append, List.length_cons, List.length_nil]; omega
  have m0 : (pubT k0).length ≤ 4 := by cases k0 <;> decide
  have r0 : (resT p4).length ≤ 4 + (tyT p4).length := by
    unfold resT
    split
    · simp
    · simp only [List.length_append, List.length_cons, List.length_nil]; omega
  rw [hps]
  simp only [Rows.uptoBulk, headT, List.length_append, List.length_cons, List.length_nil]
  omega
end
end Go.Proofs.YtlbhaaldndjigaaGreatDoor

namespace Go.Proofs.YtlbhaaldndjigaaGreatDoor
open Go.ChangeShapes Go.WideShapes Go.ChangeAt Go.RowKit

theorem Tryz.gTabType : (Tryz.prog.globals[1]?).map (·.type) = some 196 := by kernel_rfl
theorem tab_of_laid {W : World} (h : laidMetH Tryz.prog Rows.printHeadsUptoRow.laid W) : Tb W := by
  have h' : laidMet Tryz.prog Rows.printHeadsUptoRow.laid W := h
  exact Lib.tabIs_of_head (rest := []) Tryz.gTab Tryz.gTabType Tryz.underlying196 Tryz.underlying187 (by kernel_rfl) (by kernel_rfl) h'.tail.tail
/-- A world, the three tables' cells laid. -/
def laidOf (w0 : World) : World :=
  { w0 with heap := ((w0.heap.modify 1 fun
      | .cells _ t frozen => .cells #[.int .u64 1, .int .u64 10, .int .u64 100, .int .u64 1000, .int .u64 10000, .int .u64 100000, .int .u64 1000000, .int .u64 10000000, .int .u64 100000000, .int .u64 1000000000, .int .u64 10000000000, .int .u64 100000000000, .int .u64 1000000000000, .int .u64 10000000000000, .int .u64 100000000000000, .int .u64 1000000000000000, .int .u64 10000000000000000, .int .u64 100000000000000000, .int .u64 1000000000000000000, .int .u64 10000000000000000000] t frozen
      | o => o).modify 2 fun
      | .cells _ t frozen => .cells #[.int .u8 0, .int .u8 1, .int .u8 28, .int .u8 2, .int .u8 29, .int .u8 14, .int .u8 24, .int .u8 3, .int .u8 30, .int .u8 22, .int .u8 20, .int .u8 15, .int .u8 25, .int .u8 17, .int .u8 4, .int .u8 8, .int .u8 31, .int .u8 27, .int .u8 13, .int .u8 23, .int .u8 21, .int .u8 19, .int .u8 16, .int .u8 7, .int .u8 26, .int .u8 12, .int .u8 18, .int .u8 6, .int .u8 11, .int .u8 5, .int .u8 10, .int .u8 9] t frozen
      | o => o).modify 3 fun
      | .cells _ t frozen => .cells #[.int .u8 0, .int .u8 1, .int .u8 56, .int .u8 2, .int .u8 57, .int .u8 49, .int .u8 28, .int .u8 3, .int .u8 61, .int .u8 58, .int .u8 42, .int .u8 50, .int .u8 38, .int .u8 29, .int .u8 17, .int .u8 4, .int .u8 62, .int .u8 47, .int .u8 59, .int .u8 36, .int .u8 45, .int .u8 43, .int .u8 51, .int .u8 22, .int .u8 53, .int .u8 39, .int .u8 33, .int .u8 30, .int .u8 24, .int .u8 18, .int .u8 12, .int .u8 5, .int .u8 63, .int .u8 55, .int .u8 48, .int .u8 27, .int .u8 60, .int .u8 41, .int .u8 37, .int .u8 16, .int .u8 46, .int .u8 35, .int .u8 44, .int .u8 21, .int .u8 52, .int .u8 32, .int .u8 23, .int .u8 11, .int .u8 54, .int .u8 26, .int .u8 40, .int .u8 15, .int .u8 34, .int .u8 20, .int .u8 31, .int .u8 10, .int .u8 25, .int .u8 14, .int .u8 19, .int .u8 9, .int .u8 13, .int .u8 8, .int .u8 7, .int .u8 6] t frozen
      | o => o }
def argsW : Array Value := #[.agg #[.int .i64 0, .string ⟨#[]⟩, .slice none 0 0, .slice none 0 0], .agg #[.bool false, .string ⟨#[]⟩, .slice none 0 0, .slice none 0 0, .int .i64 0, .string ⟨#[]⟩, .slice none 0 0, .slice none 0 0, .slice none 0 0, .int .i64 0]]
theorem laidWorld_met (os : Os) : laidMet Tryz.prog Rows.printHeadsUptoRow.laid ((laidOf (World.holding Tryz.prog os ⟨#[], #[], []⟩)).forCall (fun _ _ => 0) ⟨#[], argsW, []⟩).memory :=
  laidMet_of_run' 100 (by kernel_rfl) (by kernel_rfl)
theorem readsW (os : Os) {H : Type} (enc : TypeId × Value → H) : ∃ places, DataW.whole enc Tryz.prog ((laidOf (World.holding Tryz.prog os ⟨#[], #[], []⟩)).forCall (fun _ _ => 0) ⟨#[], argsW, []⟩).memory Tryz.f4.params.toList (Rows.OpenSpec.upto Rows.printHeadsSpec).vars false argsW.toList 8 = some ([.agg [.lit (.int .i64 0), .lit (.string []), .nil, .nil], .agg [.lit (.bool false), .lit (.string []), .nil, .nil, .agg [.lit (.int .i64 0), .lit (.string []), .nil, .nil], .nil, .lit (.int .i64 0)]], [], places) :=
  ⟨[], by kernel_rfl⟩

set_option maxRecDepth 100000 in
theorem heads_lifted (os : Os) (started : os.Started) (H : Type) (enc : TypeId × Value → H) (F : Stop.Interp) :
    ReturnsInHanded {} Tryz.checked os 4 .any ((Rows.OpenSpec.upto Rows.printHeadsSpec).preRow enc Tryz.prog Tryz.f4 Rows.printHeadsUptoRow.domain false Rows.printHeadsUptoRow.laid) (((Rows.OpenSpec.upto Rows.printHeadsSpec).at F).post enc Tryz.prog Tryz.f4 false true false false) := by
  obtain ⟨places, hx⟩ := readsW os enc
  refine returnsInHanded_of_row (C := Tryz.checked) (s := Rows.OpenSpec.upto Rows.printHeadsSpec) Tryz.ownKn started (by kernel_rfl) Tryz.func4
    (witness_row_at (enc := enc) (C := Tryz.checked) false (laidOf (World.holding Tryz.prog os ⟨#[], #[], []⟩)) argsW rfl (by kernel_rfl) (by kernel_rfl) (by kernel_rfl)
      (OpenSpec.preRow_of_cond 8 hx (by kernel_rfl) (fun k hk => by cases hk; kernel_rfl) (by kernel_rfl) (laidWorld_met os))) ?_
  intro W base args ds gs before hval0 hW _ hcond hwt hL hsh _
  have hk := hcond _ rfl
  have hval : ∀ (j : Nat) t v, Tryz.f4.params[j]? = some t → args[j]? = some v → Value.okWide Tryz.prog W .any base t v := hval0
  have hW' := hW
  obtain ⟨p, q, hA0, hV, rfl, hfz, hnd⟩ := hW
  have hA : DataW.TrodAll enc Tryz.prog W 0 (fun _ => true) true Tryz.f4.params.toList args.toList ds p := hA0
  rw [Tryz.params4] at hA hval
  obtain ⟨v0, vs0, d0, ds0, p0, q0, hargs, rfl, rfl, h0, r0⟩ := trodAll_cons hA
  obtain ⟨v1, vs1, d1, ds1, p1, q1, rfl, rfl, rfl, h1, r1⟩ := trodAll_cons r0
  obtain ⟨rfl, rfl, rfl⟩ := trodAll_nil r1
  obtain rfl : args = #[v0, v1] := by cases args; simp_all
  obtain ⟨rfl, rfl⟩ := trodVars_none hV
  have hb : Rows.uptoBulkAll ([d0, d1] ++ []) ≤ 1048576 := of_decide_eq_true hk
  simp only [List.append_nil, Rows.uptoBulkAll] at hb
  have hw0 : ∀ n ∈ DataW.weightsEach Tryz.prog (Tryz.f4.params.toList ++ (Rows.OpenSpec.upto Rows.printHeadsSpec).bare.plain.varTypes Tryz.prog) ([d0, d1] ++ []), n ≤ reachBytes := by
    intro n hn
    have := List.all_eq_true.1 hwt n hn
    simpa using this
  have g0 : Sml 38 d0 := ⟨fun n hn => hw0 n (DataW.weights_mem_each (j := 0) (t := 38) (by rw [Tryz.params4]; rfl) rfl n hn), by omega⟩
  have g1 : Sml 43 d1 := ⟨fun n hn => hw0 n (DataW.weights_mem_each (j := 1) (t := 43) (by rw [Tryz.params4]; rfl) rfl n hn), by omega⟩
  obtain ⟨mt, ts, t, e0, k0, b0⟩ : ∃ mt ts t, v0 = .agg ts.toArray ∧ TyAt mt (smlK W.heap.size) W ts t ∧ (tyT t).length ≤ 10 * Rows.uptoBulk d0 := by
    obtain ⟨cs, rfl⟩ : ∃ cs, v0 = .agg cs := by
      have hv := hval 0 38 v0 rfl rfl
      simp only [Value.okWide, Tryz.underlying38] at hv
      cases v0 <;> simp_all
    obtain ⟨fuel, hf⟩ := h0
    have hf' : Td enc W fuel 38 cs.toList (d0, p0) := by simpa [Value.cells] using hf
    obtain ⟨t, ht, hb⟩ := ty_ofT (K := smlK W.heap.size) gd_sml (Nat.le_refl _) fuel hf' g0
    exact ⟨fuel, cs.toList, t, by simp, ht, hb⟩
  obtain ⟨n, fs, f, e1, k1, b1⟩ : ∃ n fs f, v1 = .agg fs.toArray ∧ FncAt n (smlK W.heap.size) W fs f ∧ (headT f).length ≤ 40 * Rows.uptoBulk d1 := by
    obtain ⟨cs, rfl⟩ : ∃ cs, v1 = .agg cs := by
      have hv := hval 1 43 v1 rfl rfl
      simp only [Value.okWide, Tryz.underlying43] at hv
      cases v1 <;> simp_all
    obtain ⟨fuel, hf⟩ := h1
    have hf' : Td enc W fuel 43 cs.toList (d1, p1) := by simpa [Value.cells] using hf
    obtain ⟨t, ht, hb⟩ := fnc_ofT (K := smlK W.heap.size) gd_sml (Nat.le_refl _) hf' g1
    exact ⟨fuel, cs.toList, t, by simp, ht, hb⟩
  clear hA0 hval0
  have hlt0 : ∀ x ∈ p0, x.block < W.heap.size := fun x hx => hW'.lt x (by simp [hx])
  have hlt1 : ∀ x ∈ p1, x.block < W.heap.size := fun x hx => hW'.lt x (by simp [hx])
  have hml := maxLen_cell hsh
  have tb := tab_of_laid hL
  have hpos : 1 < W.heap.size := World.block_lt_of_cell? W ⟨1, 0, none⟩ (tb.cell Tryz.gTab 0 (by decide))
  have hwalk : Calls Tryz.prog 4 #[v0, v1] W fun ev w' => ev = .returned (.bool true) ∧ Below W.heap.size W w' := by
    rw [e0, e1]
    exact heads_walk (K := smlK W.heap.size) (Nat.le_refl _) hml tb hpos k0 k1 (by omega) (fun _ _ => by omega)
  refine hwalk.mono fun e W' ⟨he, hB⟩ => ?_
  subst he
  refine ⟨_, rfl, _, _, _, [], p0 ++ (p1 ++ []), [], hW', ?_, ?_, ?_, hB.frame _, fun h => by cases h⟩
  · exact trodAll_cons_mk (shut_bool Tryz.underlying4 _) trodAll_mk0
  · exact trodAll_cons_mk (Below.trod Tryz.laidAll (by kernel_rfl) (of_decide_eq_true (by kernel_rfl)) h0 hB hlt0) (trodAll_cons_mk (Below.trod Tryz.laidAll (by kernel_rfl) (of_decide_eq_true (by kernel_rfl)) h1 hB hlt1) trodAll_mk0)
  · rfl

theorem heads_said : Rows.PrintHeadsUptoSaid :=
  OpenClaim.holds_of_cond 4 Tryz.f4 rfl rfl rfl rfl rfl rfl rfl ⟨rfl, rfl, rfl, rfl, rfl⟩ rfl rfl rfl rfl rfl (by kernel_rfl) Tryz.func4 (by kernel_rfl)
    (of_decide_eq_true (by kernel_rfl)) (by unfold Func.isWrapper; rw [if_neg (of_decide_eq_false (by kernel_rfl))]; exact ⟨rfl, rfl⟩)
    (fun os started H enc _ F => by rw [OpenClaim.pre_eq_preRow]; exact heads_lifted os started H enc F)
theorem heads_plain (f : FuncId) (fn : Func) (hf : Tryz.pinned.checked.prog.funcNamed Tryz.f4.name = some f) (hfn : Tryz.pinned.checked.prog.funcs[f]? = some fn) :
    true = Tryz.pinned.checked.prog.looks [] ∧ ∀ (j : Nat) t, fn.params[j]? = some t → Tryz.pinned.checked.prog.wantsStandIn t = false := by
  obtain rfl : f = 4 := Option.some.inj ((show Tryz.prog.funcNamed Tryz.f4.name = some 4 by kernel_rfl).symm.trans hf) |>.symm
  obtain rfl : fn = Tryz.f4 := (Option.some.inj (Tryz.func4.symm.trans hfn)).symm
  refine ⟨by kernel_rfl, fun j t ht => ?_⟩
  rw [Tryz.params4] at ht
  have h3 : t = 38 ∨ t = 43 := by simpa using Array.mem_of_getElem? ht
  rcases h3 with rfl | rfl
  · exact (show Tryz.prog.wantsStandIn 38 = false by kernel_rfl)
  · exact (show Tryz.prog.wantsStandIn 43 = false by kernel_rfl)
theorem heads_card : Rows.PrintHeadsUptoCardSaid :=
  Claim7.holds_tied_plain_at .later [] _ _ _ _ heads_said (fun _ h => by cases h) (by kernel_rfl) (fun _ h => by cases h) printHeadsUpto_row_tie rfl ⟨rfl, rfl⟩ (by kernel_rfl) rfl heads_plain (by kernel_rfl)
end Go.Proofs.YtlbhaaldndjigaaGreatDoor
