/-
  The program's own three askers on an error that lies in memory: the first fault, the first number, whether a number is in it; none of them changes what was there.
-/
import Derived.Test.YtikogamonngbbaaDoorFind
namespace Go.Proofs.YtikogamonngbbaaDoor
open Go.RowKit Go.Extern.Stop Go.Stop Go.Extern Err

set_option maxHeartbeats 1000000 in
theorem wraps_any (e : Err) (k : Int) (w : World) (he : lies w e) :
    Calls Tryd.prog 18 #[val e, .int .i64 k] w fun ev w' => ev = .returned (.bool (has k e)) ∧ Below w.heap.size w w' := by
  have hmf : ∀ (fn : Fn) (first cap : Array Value) (w : World), (Instr.makeFunc fn first cap).run Tryd.prog w = .ok (.func fn first cap) w := fun _ _ _ _ => rfl
  have hB0 : Below w.heap.size w (w.alloc (.cells #[.bool false] 4)) := (Below.refl _ _).alloc (Nat.le_refl _) _
  have C := Is_any e k (w.alloc (.cells #[.bool false] 4)) (lies_below hB0 (Nat.le_refl _) he)
  generalize has k e = r at C ⊢
  go_enter_defers Tryd.func18, Tryd.ntmps18
  go_wp2_with fail
  refine C.mono ?_
  rintro ev w' ⟨rfl, hB⟩
  have hc : w'.cell? ⟨w.heap.size, 0, none⟩ = some (.bool false) := by rw [hB.cell (by simp)]; simp
  have hz : w'.frozen? ⟨w.heap.size, 0, none⟩ = false := by rw [hB.frozen (by simp)]; simp
  go_wp2
  refine leaves_cons (f := 23) (args := #[.pointer (some ⟨w.heap.size, 0, none⟩)]) (by simp) (by simp [go_sem]) ?_
  refine (idle23 ⟨w.heap.size, 0, none⟩ _).mono ?_
  rintro e u' w'' ⟨rfl, rfl, rfl⟩
  have hs := World.cell?_setCell_same (w := w') (a := ⟨w.heap.size, 0, none⟩) (v := .bool r) hc
  simp [Leaves, settle, results, Tryd.results18, go_sem, hs]
  exact (hB0.trans (hB.mono (by simp))).setCell (Nat.le_refl _) _

set_option maxHeartbeats 1000000 in
theorem first_any (e : Err) (w : World) (hg : Glob w) (he : lies w e) :
    Calls Tryd.prog 15 #[val e] w fun ev w' => ev = .returned (((first e).map ptr).getD (.pointer none)) ∧ Below w.heap.size w w' := by
  have hmf : ∀ (fn : Fn) (first cap : Array Value) (w : World), (Instr.makeFunc fn first cap).run Tryd.prog w = .ok (.func fn first cap) w := fun _ _ _ _ => rfl
  have hB0 : Below w.heap.size w (w.alloc (.cells #[.pointer none] 34)) := (Below.refl _ _).alloc (Nat.le_refl _) _
  have C := As_fault e ⟨w.heap.size, 0, none⟩ (.pointer none) (w.alloc (.cells #[.pointer none] 34)) (hg.below hB0) (lies_below hB0 (Nat.le_refl _) he) (by simp) (by simp)
  cases hr : first e with
  | none =>
    rw [hr] at C
    clear hr
    simp only [Option.map_none, Option.getD_none] at C ⊢
    go_enter_defers Tryd.func15, Tryd.ntmps15
    go_wp2_with fail
    refine C.mono ?_
    rintro ev w1 ⟨rfl, w0, hB0', hw⟩
    have hB := hB0'
    rw [← show w1 = w0 from hw] at hB
    clear hB0' hw w0
    simp only [Option.isSome_none]
    have hc : w1.cell? ⟨w.heap.size, 0, none⟩ = some (.pointer none) := by rw [hB.cell (by simp)]; simp
    have hz : w1.frozen? ⟨w.heap.size, 0, none⟩ = false := by rw [hB.frozen (by simp)]; simp
    go_wp2
    refine leaves_cons (f := 19) (args := #[.pointer (some ⟨w.heap.size, 0, none⟩)]) (by simp) (by simp [go_sem]) ?_
    refine (idle19 ⟨w.heap.size, 0, none⟩ _).mono ?_
    rintro e u' w'' ⟨rfl, rfl, rfl⟩
    have hs := World.cell?_setCell_same (w := w1) (a := ⟨w.heap.size, 0, none⟩) (v := .pointer none) hc
    simp [Leaves, settle, results, Tryd.results15, go_sem, hs]
    exact (hB0.trans (hB.mono (by simp))).setCell (Nat.le_refl _) _
  | some f =>
    obtain ⟨b, c, a, e', rfl⟩ := first_val hr
    rw [hr] at C
    clear hr
    simp only [Option.map_some, Option.getD_some, ptr_fault] at C ⊢
    go_enter_defers Tryd.func15, Tryd.ntmps15
    go_wp2_with fail
    refine C.mono ?_
    rintro ev w' ⟨rfl, w1, hB, rfl⟩
    simp only [Option.isSome_some, laidIn]
    have hc0 : w1.cell? ⟨w.heap.size, 0, none⟩ = some (.pointer none) := by rw [hB.cell (by simp)]; simp
    have hz0 : w1.frozen? ⟨w.heap.size, 0, none⟩ = false := by rw [hB.frozen (by simp)]; simp
    have hc := World.cell?_setCell_same (w := w1) (a := ⟨w.heap.size, 0, none⟩) (v := .pointer (some ⟨b, 0, none⟩)) hc0
    have hz : (w1.setCell ⟨w.heap.size, 0, none⟩ (.pointer (some ⟨b, 0, none⟩))).frozen? ⟨w.heap.size, 0, none⟩ = false := by rw [World.frozen?_setCell]; exact hz0
    have hB1 : Below w.heap.size w (w1.setCell ⟨w.heap.size, 0, none⟩ (.pointer (some ⟨b, 0, none⟩))) := (hB0.trans (hB.mono (by simp))).setCell (Nat.le_refl _) _
    generalize w1.setCell ⟨w.heap.size, 0, none⟩ (.pointer (some ⟨b, 0, none⟩)) = w2 at hc hz hB1 ⊢
    clear hc0 hz0 hB
    go_wp2
    refine leaves_cons (f := 19) (args := #[.pointer (some ⟨w.heap.size, 0, none⟩)]) (by simp) (by simp [go_sem]) ?_
    refine (idle19 ⟨w.heap.size, 0, none⟩ _).mono ?_
    rintro e u' w'' ⟨rfl, rfl, rfl⟩
    have hs := World.cell?_setCell_same (w := w2) (a := ⟨w.heap.size, 0, none⟩) (v := .pointer (some ⟨b, 0, none⟩)) hc
    simp [Leaves, settle, results, Tryd.results15, go_sem, hs]
    exact hB1.setCell (Nat.le_refl _) _

set_option maxHeartbeats 1000000 in
theorem number_any (e : Err) (w : World) (hg : Glob w) (he : lies w e) :
    Calls Tryd.prog 16 #[val e] w fun ev w' => ev = .returned (((number e).map (Value.int .i64)).getD (.int .i64 1)) ∧ Below w.heap.size w w' := by
  have hmf : ∀ (fn : Fn) (first cap : Array Value) (w : World), (Instr.makeFunc fn first cap).run Tryd.prog w = .ok (.func fn first cap) w := fun _ _ _ _ => rfl
  have hB0 : Below w.heap.size w (w.alloc (.cells #[.int .i64 0] 27)) := (Below.refl _ _).alloc (Nat.le_refl _) _
  have C := As_num e ⟨w.heap.size, 0, none⟩ (.int .i64 0) (w.alloc (.cells #[.int .i64 0] 27)) (hg.below hB0) (lies_below hB0 (Nat.le_refl _) he) (by simp) (by simp)
  cases hr : number e with
  | none =>
    rw [hr] at C
    clear hr
    simp only [Option.map_none, Option.getD_none] at C ⊢
    go_enter_defers Tryd.func16, Tryd.ntmps16
    go_wp2_with fail
    refine C.mono ?_
    rintro ev w1 ⟨rfl, w0, hB0', hw⟩
    have hB := hB0'
    rw [← show w1 = w0 from hw] at hB
    clear hB0' hw w0
    simp only [Option.isSome_none]
    have hc : w1.cell? ⟨w.heap.size, 0, none⟩ = some (.int .i64 0) := by rw [hB.cell (by simp)]; simp
    have hz : w1.frozen? ⟨w.heap.size, 0, none⟩ = false := by rw [hB.frozen (by simp)]; simp
    go_wp2
    refine leaves_cons (f := 21) (args := #[.pointer (some ⟨w.heap.size, 0, none⟩)]) (by simp) (by simp [go_sem]) ?_
    refine (idle21 ⟨w.heap.size, 0, none⟩ _).mono ?_
    rintro e u' w'' ⟨rfl, rfl, rfl⟩
    have hs := World.cell?_setCell_same (w := w1) (a := ⟨w.heap.size, 0, none⟩) (v := .int .i64 1) hc
    simp [Leaves, settle, results, Tryd.results16, go_sem, hs]
    exact (hB0.trans (hB.mono (by simp))).setCell (Nat.le_refl _) _
  | some c =>
    rw [hr] at C
    clear hr
    simp only [Option.map_some, Option.getD_some] at C ⊢
    go_enter_defers Tryd.func16, Tryd.ntmps16
    go_wp2_with fail
    refine C.mono ?_
    rintro ev w' ⟨rfl, w1, hB, rfl⟩
    simp only [Option.isSome_some, laidIn]
    have hc0 : w1.cell? ⟨w.heap.size, 0, none⟩ = some (.int .i64 0) := by rw [hB.cell (by simp)]; simp
    have hz0 : w1.frozen? ⟨w.heap.size, 0, none⟩ = false := by rw [hB.frozen (by simp)]; simp
    have hc := World.cell?_setCell_same (w := w1) (a := ⟨w.heap.size, 0, none⟩) (v := .int .i64 c) hc0
    have hz : (w1.setCell ⟨w.heap.size, 0, none⟩ (.int .i64 c)).frozen? ⟨w.heap.size, 0, none⟩ = false := by rw [World.frozen?_setCell]; exact hz0
    have hB1 : Below w.heap.size w (w1.setCell ⟨w.heap.size, 0, none⟩ (.int .i64 c)) := (hB0.trans (hB.mono (by simp))).setCell (Nat.le_refl _) _
    generalize w1.setCell ⟨w.heap.size, 0, none⟩ (.int .i64 c) = w2 at hc hz hB1 ⊢
    clear hc0 hz0 hB
    go_wp2
    refine leaves_cons (f := 21) (args := #[.pointer (some ⟨w.heap.size, 0, none⟩)]) (by simp) (by simp [go_sem]) ?_
    refine (idle21 ⟨w.heap.size, 0, none⟩ _).mono ?_
    rintro e u' w'' ⟨rfl, rfl, rfl⟩
    have hs := World.cell?_setCell_same (w := w2) (a := ⟨w.heap.size, 0, none⟩) (v := .int .i64 c) hc
    simp [Leaves, settle, results, Tryd.results16, go_sem, hs]
    exact hB1.setCell (Nat.le_refl _) _
end Go.Proofs.YtikogamonngbbaaDoor
