/-
  Crates written.
-/
import Derived.Test.YtmfdmpfeoppnfaaDoorCrb
import Derived.Test.YtmfdmpfeoppnfaaDoorStg
namespace Go.Proofs.YtmfdmpfeoppnfaaDoor
open Go.RowKit

/-- No text is longer than there may be. -/
def LimS (L : List Src) : Prop := ∀ x ∈ L, x.name.length ≤ 140737488355328 ∧ x.text.length ≤ 140737488355328 ∧ ∀ d ∈ x.deps, d.length ≤ 140737488355328
theorem Ss.sv {w : World} {v : Value} {D : List Bs} (h : Ss w v D) : Sv w.heap.size w v D := by
  obtain ⟨ao, cap, e, h1, h2, h3⟩ := h.shape
  refine ⟨ao, cap, e, h1, h2, fun i hi => ?_⟩
  obtain ⟨b, o, ea, hc⟩ := h3 i hi
  exact ⟨b, o, ea, World.block_lt_of_cell? w _ hc, by rw [← getD_eq D i [] hi]; exact hc⟩
theorem Srs.sq {w : World} {v : Value} {L : List Src} (h : Srs w v L) (hl : LimS L) : ∃ ao cap, v = .slice ao L.length cap ∧ L.length ≤ cap ∧ L.length ≤ 46912496118442 ∧ ∀ i (hi : i < L.length), ∃ b o, ao = some ⟨b, o, none⟩ ∧ Sq w.heap.size w b (o + i * 3) L[i] := by
  obtain ⟨ao, cap, e, h1, h2, h3⟩ := h.shape
  refine ⟨ao, cap, e, h1, h2, fun i hi => ?_⟩
  obtain ⟨b, o, dv, ea, c0, c1, c2, hs⟩ := h3 i hi
  rw [getD_eq L i Src.zero hi] at c0 c2 hs
  exact ⟨b, o, ea, World.block_lt_of_cell? w _ c0, c0, ⟨dv, c1, hs.sv⟩, c2, hl _ (List.getElem_mem hi)⟩

set_option maxHeartbeats 2000000 in
theorem write_mem {C b g2 : Nat} {w0 : World} {ao : Option Addr} {cap : Nat} {L : List Src} (hL : ∀ i (hi : i < L.length), ∃ bb o, ao = some ⟨bb, o, none⟩ ∧ Sq C w0 bb (o + i * 3) L[i]) (R2 : Row w0 g2 24 [.slice ao L.length cap]) :
    Mbr C b w0 36 #[.pointer (some ⟨b, 0, none⟩), .pointer (some ⟨g2, 0, none⟩)] (L.map pcs) := by
  intro i hi S n w hS hf hw
  have hil : i < L.length := by simpa using hi
  have e0 : (L.map pcs)[i] = pcs L[i] := by simp
  rw [e0]
  obtain ⟨bb, o, rfl, hq⟩ := hL i hil
  have c0 : w.cell? ⟨g2, 0, none⟩ = some (.slice (some ⟨bb, o, none⟩) L.length cap) := (hf.row R2 (by decide) (by decide)).cell 0
  have D := hid0 (crate_any (hq.below hf.below) hw hS)
  have i1 : (i : Int) < (L.length : Int) := by omega
  generalize putF (S, n) (pcs L[i]) = tt at *
  clear hw hL R2 hf e0 hi hq
  go_enter Tryd.func36, Tryd.ntmps36
  go_wp2_with fail
  refine D.out.mono ?_
  rintro _ w1 ⟨rfl, p1, q1⟩
  go_wp2_with fail
  go_end0
  exact ⟨rfl, p1, q1⟩

/-- What is written of crates. -/
def wriF (L : List Src) : Bs × Bool := putF ([], false) (L.map pcs).flatten
theorem wriF_len (L : List Src) : (wriF L).1.length ≤ 4194304 := putF_len _ _ (by simp)
set_option maxHeartbeats 4000000 in
set_option maxRecDepth 20000 in
theorem write_any {w : World} {v : Value} {L : List Src} (h : Srs w v L) (hl : LimS L) :
    Calls Tryd.prog 25 #[v] w fun e w' => e = .returned (.tuple #[.string (str (wriF L).1), .bool (!(wriF L).2)]) ∧ Below w.heap.size w w' := by
  obtain ⟨ao, cap, rfl, h1, h2, h3⟩ := h.sq hl
  obtain ⟨W, hW⟩ : ∃ W, W = (w.alloc (.cells #[.slice ao L.length cap] 24)).alloc (.cells #[.pointer none, .slice none 0 0, .bool false] 83) := ⟨_, rfl⟩
  have hs : (w.alloc (.cells #[.slice ao L.length cap] 24)).heap.size = w.heap.size + 1 := by show (w.heap.push _).size = _; rw [Array.size_push]
  have f1 := Fr.alloc (C := w.heap.size) w (.cells #[.slice ao L.length cap] 24) (Nat.le_refl _)
  have f2 := Fr.alloc (C := w.heap.size) (w.alloc (.cells #[.slice ao L.length cap] 24)) (.cells #[.pointer none, .slice none 0 0, .bool false] 83) (by omega)
  rw [← hW] at f2
  have fW := f1.trans f2
  have R : Row W w.heap.size 24 [.slice ao L.length cap] := f2.row (Row.new w 24 [.slice ao L.length cap]) (by decide) (by decide)
  have hWt : Wtr w.heap.size (w.heap.size + 1) [] false W := by
    refine ⟨by omega, .pointer none, .slice none 0 0, .inl rfl, ?_, ?_⟩
    · rw [hW, ← hs]; exact (Row.new (w.alloc (.cells #[.slice ao L.length cap] 24)) 83 [.pointer none, .slice none 0 0, .bool false]).heap
    · exact World.ownsRow_nil _ _ _ _
  have D : Hid (Calls Tryd.prog 35 #[.pointer (some ⟨w.heap.size + 1, 0, none⟩), .int .i64 (L.length : Int), .func (.func 36) #[] #[.pointer (some ⟨w.heap.size + 1, 0, none⟩), .pointer (some ⟨w.heap.size, 0, none⟩)]] W fun e w' => e = .returned (.tuple #[]) ∧ Wtr w.heap.size (w.heap.size + 1) (wriF L).1 (wriF L).2 w' ∧ Fr w.heap.size w w') := by
    have := each_w (S := []) (n := false) (w := W) enters36 (write_mem (C := w.heap.size) (b := w.heap.size + 1) (fun i hi => by
      obtain ⟨bb, o, ea, hq⟩ := h3 i hi
      exact ⟨bb, o, ea, hq.below fW.below⟩) R) (by simp) (Fr.refl _ _) hWt (by simp; omega)
    rw [List.length_map] at this
    refine this.mono ?_
    rintro _ _ ⟨rfl, p1, p2⟩
    exact ⟨rfl, p1, fW.trans p2⟩
  have HR : Hid (W.cell? ⟨w.heap.size, 0, none⟩ = some (.slice ao L.length cap)) := R.cell 0
  have y0 := HR.out
  generalize wriF L = tt at *
  clear h h3 R hWt fW f1 f2 hl HR
  go_enter Tryd.func25, Tryd.ntmps25
  go_wp2_with fail
  rw [← hW]
  clear hW hs
  go_wp2_with fail
  refine D.out.mono ?_
  rintro _ w2 ⟨rfl, p2, q2⟩
  have A2 := aside0 q2
  have HD := hid0 (And.intro p2.drew.bool (string_any p2.drew))
  clear p2 q2 D
  go_wp2_with fail
  go_region_held3 (fun z => z.cell? ⟨w.heap.size + 1, 2, none⟩ = some (.bool tt.2)) (first | assumption | exact HD.out.1) (first | (go_at_call 38; refine HD.out.2.mono ?_; rintro _ w3 ⟨rfl, p3, c3⟩))
  go_wp2_with fail
  go_ret2
  exact ⟨rfl, A2.out.below.trans ((Fr.drew (C := w.heap.size) w2).below.trans p3)⟩
end Go.Proofs.YtmfdmpfeoppnfaaDoor
