/-
  The document's store: Get, Has.
-/
import Derived.Test.YtjnogpcpekheoaaRat
namespace Go.Proofs.Ytjnogpcpekheoaa
open Go.RowKit Go.Maps

set_option maxHeartbeats 4000000 in
set_option maxRecDepth 20000 in
theorem rhas_any {O : Nat → Prop} {w : World} {xb room : Nat} {r : List (Bys × Bys)} (h : Bys) (hl : h.length = 32) (H : Ref O w xb room r) :
    Calls Try.prog 19 #[.pointer (some ⟨xb, 0, none⟩), .agg (bys h).toArray] w fun ev w' => ev = .returned (.bool (decide (h ∈ ks r))) ∧ Below w.heap.size w w' := by
  have hA : Below w.heap.size w (w.alloc (.cells (bys h).toArray 35)) := (Below.refl _ _).alloc (Nat.le_refl _) _
  have hrow := heap_alloc_new w (.cells (bys h).toArray 35)
  have CA := at_any h hl (H.below hA)
  have hi := size35 h hl
  have HA : Hid (Below w.heap.size w (w.alloc (.cells (bys h).toArray 35))) := hA
  clear H hA
  generalize (bys h).toArray = Y at *
  go_enter Try.func19, Try.ntmps19
  go_wp2_with (first | (refine wpList_load_row rfl 35 _ rfl w.heap.size rfl 35 Y (0, 0) _ hrow Try.underlying35 rfl hi ?_) | (go_at_call 27; refine CA.mono ?_; rintro ev w1 ⟨⟨i, hir, rfl, hlow, hhigh⟩, hb1⟩))
  go_ret
  exact ⟨rfl, HA.out.trans (hb1.mono HA.out.size)⟩

/-- Of a rising list: the text that stands there. -/
theorem mem_at {r : List (Bys × Bys)} {q : Nat} (hq : q < r.length) : ((ks r).getD q [], (bs r).getD q []) ∈ r := by
  have h1 : (ks r)[q]? = some (r[q].1) := by simp [ks, List.getElem?_eq_getElem hq]
  have h2 : (bs r)[q]? = some (r[q].2) := by simp [bs, List.getElem?_eq_getElem hq]
  simp only [List.getD, h1, h2, Option.getD_some]
  exact List.getElem_mem hq

set_option maxHeartbeats 4000000 in
set_option maxRecDepth 20000 in
theorem rget_any {O : Nat → Prop} {w : World} {xb room : Nat} {r : List (Bys × Bys)} (h : Bys) (hl : h.length = 32) (H : Ref O w xb room r) :
    Calls Try.prog 17 #[.pointer (some ⟨xb, 0, none⟩), .agg (bys h).toArray] w fun ev w' => ((h ∉ ks r ∧ ev = .returned (.tuple #[.string (str []), .int .i64 10])) ∨ (∃ b, (h, b) ∈ r ∧ ev = .returned (.tuple #[.string (str b), .int .i64 0]))) ∧ Below w.heap.size w w' := by
  obtain ⟨vs, vb, c1, c2, o1, o2, _, _⟩ := H.rows
  have hA : Below w.heap.size w (w.alloc (.cells (bys h).toArray 35)) := (Below.refl _ _).alloc (Nat.le_refl _) _
  have hrow := heap_alloc_new w (.cells (bys h).toArray 35)
  have CA := at_any h hl (H.below hA)
  have hi := size35 h hl
  have HA : Hid (Below w.heap.size w (w.alloc (.cells (bys h).toArray 35))) := hA
  have HT : Hid (∀ q, (∀ p, p < q → less ((ks r).getD p []) h = true) → (q < r.length → less ((ks r).getD q []) h = false) → h ∈ ks r → q < r.length ∧ (ks r).getD q [] = h) := fun q h1 h2 hm => by
    have := (there_at H.up h1 (fun hq => h2 (by rw [ks_len] at hq; exact hq))).1 hm
    rw [ks_len] at this
    exact this
  have HC : Hid (∀ y, Below w.heap.size w y → y.cell? ⟨xb, 2, none⟩ = some vb) := fun y hy => (hy.cell (p := ⟨xb, 2, none⟩) (World.block_lt_of_cell? w _ c2)).trans c2
  obtain ⟨ao, cap, rfl⟩ := own_shape o2
  have HB : Hid (∀ y, Below w.heap.size w y → ∀ q, q < r.length → ∃ g, ao = some ⟨g, 0, none⟩ ∧ r.length ≤ cap ∧ y.cell? ⟨g, q, none⟩ = some (.string (str ((bs r).getD q [])))) := fun y hy q hq => by
    have hy4 := own_past o2 hy
    rcases hy4.2 with ⟨h0, h1⟩ | ⟨g, cap', cur, hs, _, _, hle, _⟩
    · omega
    · cases hs
      refine ⟨g, rfl, hle, ?_⟩
      rw [hy4.cellAt q (by omega), strs_get (bs r) q (by rw [bs_len]; exact hq)]
  have hfew := H.few
  clear H hA c1 c2 o1 o2
  generalize (bys h).toArray = Y at *
  by_cases hin : h ∈ ks r
  · have CA2 : Calls Try.prog 27 #[.pointer (some ⟨xb, 0, none⟩), .agg Y] (w.alloc (.cells Y 35)) fun ev w' => (∃ i : Nat, i < r.length ∧ ev = .returned (.tuple #[.int .i64 (i : Int), .bool true]) ∧ (ks r).getD i [] = h) ∧ Below (w.alloc (.cells Y 35)).heap.size (w.alloc (.cells Y 35)) w' := by
      refine CA.mono ?_
      rintro ev w1 ⟨⟨i, hir, rfl, hlow, hhigh⟩, hb1⟩
      have := HT.out i hlow hhigh hin
      exact ⟨⟨i, this.1, by rw [decide_eq_true hin], this.2⟩, hb1⟩
    clear CA hin HT
    go_enter Try.func17, Try.ntmps17
    go_wp2_with (first | (refine wpList_load_row rfl 35 _ rfl w.heap.size rfl 35 Y (0, 0) _ hrow Try.underlying35 rfl hi ?_) | (go_at_call 27; refine CA2.mono ?_; rintro ev w1 ⟨⟨i, hir, rfl, heq⟩, hb1⟩; have hw1 := HA.out.trans (hb1.mono HA.out.size); have cx := HC.out w1 hw1; have hbb := HB.out w1 hw1 i hir; obtain ⟨g, hga, hgc, cq⟩ := hbb; have hga' : ao = some ⟨g, 0, none⟩ := hga; clear hga; subst hga'; have hli : (i : Int) < (r.length : Int) := (by omega)))
    go_ret2
    refine ⟨.inr ⟨(bs r).getD i [], ?_, rfl⟩, hw1⟩
    rw [← heq]; exact mem_at hir
  · have CA2 : Calls Try.prog 27 #[.pointer (some ⟨xb, 0, none⟩), .agg Y] (w.alloc (.cells Y 35)) fun ev w' => (∃ i : Nat, ev = .returned (.tuple #[.int .i64 (i : Int), .bool false])) ∧ Below (w.alloc (.cells Y 35)).heap.size (w.alloc (.cells Y 35)) w' := by
      refine CA.mono ?_
      rintro ev w1 ⟨⟨i, hir, rfl, hlow, hhigh⟩, hb1⟩
      exact ⟨⟨i, by rw [decide_eq_false hin]⟩, hb1⟩
    have HIN : Hid (h ∉ ks r) := hin
    clear CA hin HT
    go_enter Try.func17, Try.ntmps17
    go_wp2_with (first | (refine wpList_load_row rfl 35 _ rfl w.heap.size rfl 35 Y (0, 0) _ hrow Try.underlying35 rfl hi ?_) | (go_at_call 27; refine CA2.mono ?_; rintro ev w1 ⟨⟨i, rfl⟩, hb1⟩))
    go_ret2
    exact ⟨.inl ⟨HIN.out, rfl⟩, HA.out.trans (hb1.mono HA.out.size)⟩
end Go.Proofs.Ytjnogpcpekheoaa
