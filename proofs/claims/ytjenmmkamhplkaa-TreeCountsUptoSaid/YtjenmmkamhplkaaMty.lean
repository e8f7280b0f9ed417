/-
  Types: may one be? The program says it.
-/
import Derived.Test.YtjenmmkamhplkaaAls
import Derived.Test.YtjenmmkamhplkaaSmt
namespace Go.Proofs.Ytjenmmkamhplkaa
open Go.RowKit

theorem alloc_one (w : World) (a : Obj) : Below w.heap.size w (w.alloc a) := (Below.refl _ _).alloc (Nat.le_refl _) _
theorem size_alloc (w : World) (a : Obj) : (w.alloc a).heap.size = w.heap.size + 1 := by unfold World.alloc; simp only [Array.size_push]
theorem alloc_two (w : World) (a b : Obj) : Below w.heap.size w ((w.alloc a).alloc b) := (alloc_one w a).trans (below_le (alloc_one _ b) (by rw [size_alloc]; omega))

set_option maxHeartbeats 4000000 in
theorem sameTypes2_any {K : Ctx} {w : World} (hC : K.C ≤ w.heap.size) {x y : Ty} {cs cs' : List Value} (hx : IsTy K w cs x) (hy : IsTy K w cs' y) (B : Bool) (hB : B = true ↔ x = y) :
    Calls Try.prog 52 #[.agg cs.toArray, .agg cs'.toArray] w fun ev w' => ev = .returned (.bool B) ∧ Below w.heap.size w w' := by
  have hA := alloc_two w (.cells cs.toArray 27) (.cells cs'.toArray 27)
  have D : Hid (Calls Try.prog 43 #[.pointer (some ⟨w.heap.size, 0, none⟩), .pointer (some ⟨w.heap.size + 1, 0, none⟩)] ((w.alloc (.cells cs.toArray 27)).alloc (.cells cs'.toArray 27)) fun ev w' => ev = .returned (.bool B) ∧ Below w.heap.size w w') := by
    refine (sameType_any (((Row.new w 27 cs).alloc _).cells 4) (by have := (Row.new (w.alloc (.cells cs.toArray 27)) 27 cs').cells 4; rw [size_alloc] at this; exact this) (hx.below (below_le hA hC)) (hy.below (below_le hA hC)) B hB).mono ?_
    rintro _ _ ⟨rfl, m, rfl⟩
    exact ⟨rfl, hA.trans (Below.drewN _ _ _)⟩
  clear hx hy hA hB
  go_enter Try.func52, Try.ntmps52
  go_wp2_with (go_at_call 43; refine D.out.mono ?_; rintro ev w2 ⟨rfl, hb2⟩)
  go_ret
  exact ⟨rfl, hb2⟩

/-- A name, or two with two colons between. -/
def farB (s : Bs) : Bool := nameB (Lib.cut s [58, 58]).1 && (!(Lib.cut s [58, 58]).2.2 || nameB (Lib.cut s [58, 58]).2.1)
theorem cut_len (s : Bs) : (Lib.cut s [58, 58]).1.length ≤ s.length ∧ (Lib.cut s [58, 58]).2.1.length ≤ s.length := by
  unfold Lib.cut
  split
  · simp; omega
  · simp

set_option maxHeartbeats 4000000 in
theorem far_any (s : Bs) (hs : s.length ≤ 1048576) (w : World) (hm : ∃ m, w.cell? ⟨0, 0, none⟩ = some (.int .i64 m)) :
    Calls Try.prog 62 #[.string (str s)] w fun ev w' => ev = .returned (.bool (farB s)) ∧ ∃ m, w' = w.drewN m := by
  obtain ⟨m, hm⟩ := hm
  have e1 : (str s).data.toList = s := by simp [str]
  have e2 : (str [58, 58]).data.toList = [58, 58] := by simp [str]
  have D : Calls Try.prog 78 #[.string (str s), .string ⟨#[58, 58]⟩] w fun e w' => e = .returned (.tuple #[.string (str (Lib.cut s [58, 58]).1), .string (str (Lib.cut s [58, 58]).2.1), .bool (Lib.cut s [58, 58]).2.2]) ∧ ∃ n, w' = w.drewN n := by
    have D := Try.strings_Cut (str s) (str [58, 58]) m w (by rw [str_size]; omega) hm
    rw [e1, e2] at D
    exact D
  have hc := cut_len s
  have N1 : Hid (∀ y, Calls Try.prog 28 #[.string (str (Lib.cut s [58, 58]).1)] y fun ev w' => ev = .returned (.bool (nameB (Lib.cut s [58, 58]).1)) ∧ w' = y) := fun y => name_any _ (by omega) y
  have N2 : Hid (∀ y, Calls Try.prog 28 #[.string (str (Lib.cut s [58, 58]).2.1)] y fun ev w' => ev = .returned (.bool (nameB (Lib.cut s [58, 58]).2.1)) ∧ w' = y) := fun y => name_any _ (by omega) y
  unfold farB
  clear e1 e2 hc hm
  generalize hA : nameB (Lib.cut s [58, 58]).1 = A at *
  generalize hA2 : nameB (Lib.cut s [58, 58]).2.1 = A2 at *
  clear hA hA2
  generalize str (Lib.cut s [58, 58]).1 = S1 at *
  generalize str (Lib.cut s [58, 58]).2.1 = S2 at *
  generalize (Lib.cut s [58, 58]).2.2 = F at *
  generalize str s = S at *
  cases A <;> cases F <;> (go_enter Try.func62, Try.ntmps62; go_wp2_with (first | (go_at_call 78; refine D.mono ?_; rintro ev w2 ⟨rfl, n, rfl⟩) | (go_at_call_of 28 S1; refine (N1.out _).mono ?_; rintro ev w2 ⟨rfl, rfl⟩) | (go_at_call_of 28 S2; refine (N2.out _).mono ?_; rintro ev w2 ⟨rfl, rfl⟩)); go_ret; exact ⟨by simp, _, rfl⟩)
end Go.Proofs.Ytjenmmkamhplkaa
