/-
  Errors: New, what is told of one, whether it is what was asked.
-/
import Derived.Test.YtmfdmpfeoppnfaaDoorMem
namespace Go.Proofs.YtmfdmpfeoppnfaaDoor
open Go.RowKit

theorem below_drewE {B : Nat} {w w' : World} (h : Below B w w') (n : Nat) : Below B w (w'.drewN n) := ⟨h.os, h.tape, h.output, h.size, h.block⟩

/-- An error of one link, with its number and its place. -/
structure Er (w : World) (e : Value) (code : Nat) (pl : Nat) : Prop where
  shape : ∃ b, e = .iface 66 (.pointer (some ⟨b, 0, none⟩)) ∧ w.cell? ⟨b, 0, none⟩ = some (.int .i64 (code : Int)) ∧ w.cell? ⟨b, 1, none⟩ = some (.int .i64 (pl : Int)) ∧ w.cell? ⟨b, 2, none⟩ = some (.iface 52 (.int .i64 (code : Int)))
theorem Er.below {w w' : World} {e : Value} {code pl : Nat} (h : Er w e code pl) (hb : Below w.heap.size w w') : Er w' e code pl := by
  obtain ⟨b, he, h0, h1, h2⟩ := h.shape
  have hlt := World.block_lt_of_cell? w _ h0
  exact ⟨b, he, (hb.cell (p := ⟨b, 0, none⟩) hlt).trans h0, (hb.cell (p := ⟨b, 1, none⟩) hlt).trans h1, (hb.cell (p := ⟨b, 2, none⟩) hlt).trans h2⟩

set_option maxHeartbeats 1000000 in
theorem new_any (w : World) (code pl : Nat) (hc : code ≠ 0) :
    Calls Tryd.prog 18 #[.int .i64 (code : Int), .int .i64 (pl : Int)] w fun ev w' => ∃ e, ev = .returned e ∧ Er w' e code pl ∧ Below w.heap.size w w' := by
  go_enter Tryd.func18, Tryd.ntmps18
  go_wp2_with fail
  go_ret
  refine ⟨_, rfl, ⟨w.heap.size, rfl, ?_, ?_, ?_⟩, (Below.refl _ _).alloc (Nat.le_refl _) _⟩
  · simp
  · simp
  · simp


theorem Tryd.is51 (p : Option Addr) (xT : TypeId) (w : World) : (Instr.typeAssert (.iface 66 (.pointer p)) xT 66 true).run Tryd.prog w = .ok (.tuple #[.pointer p, .bool true]) w := by kernel_rfl
theorem Tryd.not51_43 (n : Int) (w : World) : (Instr.typeAssert (.iface 52 (.int .i64 n)) 26 66 true).run Tryd.prog w = .ok (.tuple #[.pointer none, .bool false]) w := by kernel_rfl

theorem told_nil (w : World) :
    Calls Tryd.prog 21 #[.nilIface] w fun ev w' => ev = .returned (.tuple #[.int .i64 0, .int .i64 0]) ∧ w' = w := by
  go_enter Tryd.func21, Tryd.ntmps21
  go_wp2_with fail
  go_ret2
  exact ⟨rfl, rfl⟩

set_option maxHeartbeats 2000000 in
set_option maxRecDepth 20000 in
theorem told_er (w : World) (e : Value) (c p : Nat) (h : Er w e c p) :
    Calls Tryd.prog 21 #[e] w fun ev w' => ev = .returned (.tuple #[.int .i64 (c : Int), .int .i64 (p : Int)]) ∧ Below w.heap.size w w' := by
  obtain ⟨b, rfl, h0, h1, h2⟩ := h.shape
  clear h
  have k1 := Tryd.is51
  have k2 := Tryd.not51_43
  go_enter Tryd.func21, Tryd.ntmps21
  go_wp2_with fail
  go_quiet (fail)
  go_wp2_with fail
  refine wp_loop_rounds 1 ?_
  rw [rounds_succ]
  go_wp2_with fail
  go_ret2
  exact ⟨rfl, below_drewE (Below.refl _ _) _⟩

set_option maxHeartbeats 2000000 in
theorem is_any (w : World) (e : Value) (c p : Nat) (a b : Int) (h : (c = 0 ∧ p = 0 ∧ e = .nilIface) ∨ Er w e c p) (ha : a = (c : Int)) (hb : b = (p : Int)) :
    Calls Tryd.prog 10 #[e, .int .i64 a, .int .i64 b] w fun ev w' => ev = .returned (.bool true) ∧ Below w.heap.size w w' := by
  subst ha hb
  have C : Calls Tryd.prog 21 #[e] w fun ev w' => ev = .returned (.tuple #[.int .i64 (c : Int), .int .i64 (p : Int)]) ∧ Below w.heap.size w w' := by
    rcases h with ⟨rfl, rfl, rfl⟩ | h
    · refine (told_nil w).mono ?_
      rintro ev w' ⟨rfl, rfl⟩
      exact ⟨rfl, Below.refl _ _⟩
    · exact told_er w e c p h
  rcases h with ⟨hc0, hp0, rfl⟩ | h
  · clear hc0 hp0
    go_enter Tryd.func10, Tryd.ntmps10
    go_wp2_with fail
    refine C.mono ?_
    rintro ev w1 ⟨rfl, hb⟩
    go_wp2_with fail
    go_ret
    exact ⟨rfl, hb⟩
  · obtain ⟨b, rfl, -⟩ := h.shape
    clear h
    go_enter Tryd.func10, Tryd.ntmps10
    go_wp2_with fail
    refine C.mono ?_
    rintro ev w1 ⟨rfl, hb⟩
    go_wp2_with fail
    go_ret
    exact ⟨rfl, hb⟩

end Go.Proofs.YtmfdmpfeoppnfaaDoor
