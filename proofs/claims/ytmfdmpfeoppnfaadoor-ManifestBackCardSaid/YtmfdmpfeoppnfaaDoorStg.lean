/-
  The writer's text: String.
-/
import Derived.Test.YtmfdmpfeoppnfaaDoorWri
namespace Go.Proofs.YtmfdmpfeoppnfaaDoor
open Go.RowKit

theorem Tryd.usNone (W : World) (q : Option Addr) : (Builtin.unsafeString_ #[96, 3] 9 #[.pointer q, .int .i64 0]).run Tryd.prog W = .ok (.string .empty) W := by
  cases q <;> kernel_rfl
theorem bel_drew {C : Nat} (w : World) : Below C w w.drew := ⟨rfl, rfl, rfl, Nat.le_refl _, fun _ _ => rfl⟩

set_option maxHeartbeats 2000000 in
set_option maxRecDepth 100000 in
theorem string_any {C b : Nat} {S : Bs} {n : Bool} {w : World} (h : Wtr C b S n w) :
    Calls Tryd.prog 38 #[.pointer (some ⟨b, 0, none⟩)] w fun e w' => e = .returned (.string (str S)) ∧ Below C w w' ∧ w'.cell? ⟨b, 2, none⟩ = some (.bool n) := by
  obtain ⟨p, v, hp, hbk, hown⟩ := h.here
  have hCw := h.Cw
  have hlt := h.lt
  have c9 : w.drew.cell? ⟨b, 2, none⟩ = some (.bool n) := by
    have : w.drew.heap[b]? = some (.cells #[p, v, .bool n] 83 (0, 0)) := hbk
    rw [Lib.cell_of_heap this]; rfl
  cases S with
  | nil =>
    have hUS := Tryd.usNone
    rcases hown.2 with ⟨rfl, _⟩ | ⟨g, cap, cur, rfl, hbg, hg, _, _, _, _⟩
    · have c1 : w.drew.cell? ⟨b, 1, none⟩ = some (.slice none 0 0) := by
        have : w.drew.heap[b]? = some (.cells #[p, .slice none 0 0, .bool n] 83 (0, 0)) := hbk
        rw [Lib.cell_of_heap this]; rfl
      have hSD : (Builtin.unsafeSliceData_ #[79] 96 #[.slice none 0 0]).run Tryd.prog w.drew = .ok (.pointer none) w.drew := rfl
      have HB := hid0 (And.intro (bel_drew (C := C) w) c9)
      clear hown hbk hp h hCw hlt c9
      go_enter Tryd.func38, Tryd.ntmps38
      go_wp2_with fail
      go_region
      all_goals (go_wp2_with fail; go_ret; exact ⟨rfl, HB.out⟩)
    · by_cases hc0 : cap = 0
      · subst hc0
        have c1 : w.drew.cell? ⟨b, 1, none⟩ = some (.slice (some ⟨g, 0, none⟩) 0 0) := by
          have : w.drew.heap[b]? = some (.cells #[p, .slice (some ⟨g, 0, none⟩) 0 0, .bool n] 83 (0, 0)) := hbk
          rw [Lib.cell_of_heap this]; rfl
        have hSD : (Builtin.unsafeSliceData_ #[79] 96 #[.slice (some ⟨g, 0, none⟩) 0 0]).run Tryd.prog w.drew = .ok (.pointer (some ⟨w.drew.heap.size, 0, none⟩)) (w.drew.alloc (.view ⟨g, 0, none⟩ 5)) :=
          Lib.run_unsafeSliceData_zero w.drew _ _ 5 Tryd.underlying96 ⟨g, 0, none⟩ 0 (5, cur.size) (by have hg' : w.drew.heap[g]? = some (.cells cur 5 (0, 0)) := hg; simp [World.shape?, hg'])
        have c2 : (w.drew.alloc (.view ⟨g, 0, none⟩ 5)).cell? ⟨b, 1, none⟩ = some (.slice (some ⟨g, 0, none⟩) 0 0) := by
          have : (w.drew.alloc (.view ⟨g, 0, none⟩ 5)).heap[b]? = _ := (Lib.alloc_old w.drew _ b hlt).trans hbk
          rw [Lib.cell_of_heap this]; rfl
        have c3 : (w.alloc (.view ⟨g, 0, none⟩ 5)).drew.cell? ⟨b, 1, none⟩ = some (.slice (some ⟨g, 0, none⟩) 0 0) := c2
        have c0 : w.cell? ⟨b, 1, none⟩ = some (.slice (some ⟨g, 0, none⟩) 0 0) := c1
        have c8 : (w.drew.alloc (.view ⟨g, 0, none⟩ 5)).cell? ⟨b, 2, none⟩ = some (.bool n) := by
          have : (w.drew.alloc (.view ⟨g, 0, none⟩ 5)).heap[b]? = _ := (Lib.alloc_old w.drew _ b hlt).trans hbk
          rw [Lib.cell_of_heap this]; rfl
        have HB := hid0 (And.intro ((bel_drew (C := C) w).alloc hCw (.view ⟨g, 0, none⟩ 5)) c8)
        clear hown hbk hp h hCw hlt hg hbg c8 c9
        go_enter Tryd.func38, Tryd.ntmps38
        go_wp2_with fail
        go_region
        all_goals (go_wp2_with fail; go_ret; exact ⟨rfl, HB.out⟩)
      · have c1 : w.drew.cell? ⟨b, 1, none⟩ = some (.slice (some ⟨g, 0, none⟩) 0 cap) := by
          have : w.drew.heap[b]? = some (.cells #[p, .slice (some ⟨g, 0, none⟩) 0 cap, .bool n] 83 (0, 0)) := hbk
          rw [Lib.cell_of_heap this]; rfl
        have hSD : (Builtin.unsafeSliceData_ #[79] 96 #[.slice (some ⟨g, 0, none⟩) 0 cap]).run Tryd.prog w.drew = .ok (.pointer (some ⟨g, 0, none⟩)) w.drew :=
          Lib.run_unsafeSliceData_row _ _ _ _ _ _ hc0
        have HB := hid0 (And.intro (bel_drew (C := C) w) c9)
        clear hown hbk hp h hCw hlt hg hbg hc0 c9
        go_enter Tryd.func38, Tryd.ntmps38
        go_wp2_with fail
        go_region
        all_goals (go_wp2_with fail; go_ret; exact ⟨rfl, HB.out⟩)
  | cons x r =>
    obtain ⟨l, hl⟩ : ∃ l, l = x :: r := ⟨_, rfl⟩
    rw [← hl] at hown ⊢
    have h0 : l ≠ [] := by rw [hl]; simp
    clear hl
    have hl0 : l.length ≠ 0 := by simpa using h0
    obtain ⟨g, cap, cur, rfl, hbg, hg, hnc, hcm, hcs, htake⟩ : ∃ g cap cur, v = .slice (some ⟨g, 0, none⟩) l.length cap ∧ C ≤ g ∧ w.heap[g]? = some (.cells cur 5 (0, 0)) ∧ l.length ≤ cap ∧ cap ≤ maxLen ∧ cur.size = cap * 1 ∧ cur.toList.take (l.length * 1) = bys l := by
      rcases hown.2 with ⟨_, hz⟩ | ⟨g, cap, cur, hv, r⟩
      · exact absurd hz hl0
      · exact ⟨g, cap, cur, hv, r⟩
    have c1 : w.drew.cell? ⟨b, 1, none⟩ = some (.slice (some ⟨g, 0, none⟩) l.length cap) := by
      have : w.drew.heap[b]? = some (.cells #[p, .slice (some ⟨g, 0, none⟩) l.length cap, .bool n] 83 (0, 0)) := hbk
      rw [Lib.cell_of_heap this]; rfl
    have hSD : (Builtin.unsafeSliceData_ #[79] 96 #[.slice (some ⟨g, 0, none⟩) l.length cap]).run Tryd.prog w.drew = .ok (.pointer (some ⟨g, 0, none⟩)) w.drew :=
      Lib.run_unsafeSliceData_row _ _ _ _ _ _ (by omega)
    have hcell : ∀ (j : Nat) (x : UInt8), l[j]? = some x → w.drew.cell? ((⟨g, 0, none⟩ : Addr).add j) = some (.int .u8 x.toNat) := by
      intro j x hx
      have hj : j < l.length := (List.getElem?_eq_some_iff.1 hx).1
      have e1 : (bys l)[j]? = some (.int .u8 x.toNat) := by simp [bys, hx]
      rw [← htake, Nat.mul_one, List.getElem?_take_of_lt hj] at e1
      rw [addr_add, Nat.zero_add]
      have : w.drew.heap[g]? = some (.cells cur 5 (0, 0)) := hg
      rw [Lib.cell_of_heap this]
      simpa using e1
    have hUS : (Builtin.unsafeString_ #[96, 3] 9 #[.pointer (some ⟨g, 0, none⟩), .int .i64 l.length]).run Tryd.prog w.drew = .ok (.string ⟨l.toArray⟩) (w.drew.freeze ⟨g, 0, none⟩ l.length) :=
      Lib.run_unsafeString_row w.drew 96 3 9 5 Tryd.underlying96 (by kernel_rfl) g cur.size (by have hg' : w.drew.heap[g]? = some (.cells cur 5 (0, 0)) := hg; simp [World.shape?, hg']) l h0 (by omega) (by unfold maxLen at hcm; omega) hcell
    have hne : g ≠ b := by
      rintro rfl
      rw [hg] at hbk
      cases hbk
    have c8 : (w.drew.freeze ⟨g, 0, none⟩ l.length).cell? ⟨b, 2, none⟩ = some (.bool n) := by
      have : (w.drew.freeze ⟨g, 0, none⟩ l.length).heap[b]? = w.drew.heap[b]? := by
        unfold World.freeze
        split
        · rfl
        · simp only [Array.getElem?_modify]
          rw [if_neg hne]
      have h2 := this.trans hbk
      rw [Lib.cell_of_heap h2]; rfl
    have HB := hid0 (And.intro (Lib.below_freeze (bel_drew (C := C) w) (p := ⟨g, 0, none⟩) hbg l.length) c8)
    have HE : Hid (str l = ⟨l.toArray⟩) := rfl
    rw [HE.out]
    clear hown hbk hp h hCw hlt hg hbg htake hcell hcs hnc hl0 h0 c8 c9 hne
    generalize (⟨l.toArray⟩ : ByteArray) = X at *
    go_enter Tryd.func38, Tryd.ntmps38
    go_wp2_with fail
    go_region
    all_goals (go_wp2_with fail; go_ret; exact ⟨rfl, HB.out⟩)
end Go.Proofs.YtmfdmpfeoppnfaaDoor
