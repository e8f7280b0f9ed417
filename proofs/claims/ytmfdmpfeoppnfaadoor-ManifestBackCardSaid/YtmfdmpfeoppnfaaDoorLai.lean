/-
  A world in which the listed package-level variables hold what the program's text lays; how arguments are read.
-/
import Derived.Test.YtmfdmpfeoppnfaaDoorRows
import Derived.Test.YtmfdmpfeoppnfaaDoorCards
import Derived.Test.YtmfdmpfeoppnfaaDoorTie
import Derived.Test.YtmfdmpfeoppnfaaDoorTol
import Derived.HandedShaped
import Derived.SevenTiedAt
import Derived.ProofKit
import Derived.OpenShut
import Derived.Deep.DeepHandedRow
import Derived.Stop.LaidErr
import Derived.Shelf.Strings.Shaped
namespace Go.Proofs.YtmfdmpfeoppnfaaDoor
open Go.ChangeShapes Go.WideShapes Go.ChangeAt Go.RowKit

theorem maxLen_cell {W : World} (h : W.ShapedOpen Tryd.prog) : ∃ m, W.cell? ⟨0, 0, none⟩ = some (.int .i64 m) :=
  Go.Proofs.cell_of_shapedOpen_int (g := 0) (zero := #[.int .i64 0]) (t := 3) h (of_decide_eq_true (by kernel_rfl)) (by kernel_rfl) rfl (by kernel_rfl) (by kernel_rfl) Tryd.underlying3
theorem Tryd.laidAll : laidOutB Tryd.prog = true := by kernel_rfl
theorem Tryd.ownKn : ownKnob Tryd.prog.godebug = none := by kernel_rfl
/-- The listed variables. -/
abbrev laidL : List (String × DataW Unit) := Rows.manifestKnownRow.laid
def tabA : Array Value := (Go.Pinned.utf8FirstZ.map fun (n : Nat) => Value.int .u8 (n : Int)).toArray
def tabB : Array Value := #[.int .u8 128, .int .u8 191, .int .u8 160, .int .u8 191, .int .u8 128, .int .u8 159, .int .u8 144, .int .u8 191, .int .u8 128, .int .u8 143, .int .u8 0, .int .u8 0, .int .u8 0, .int .u8 0, .int .u8 0, .int .u8 0, .int .u8 0, .int .u8 0, .int .u8 0, .int .u8 0, .int .u8 0, .int .u8 0, .int .u8 0, .int .u8 0, .int .u8 0, .int .u8 0, .int .u8 0, .int .u8 0, .int .u8 0, .int .u8 0, .int .u8 0, .int .u8 0]
/-- A world, the two tables' cells laid. -/
def laidOf (w0 : World) : World :=
  { w0 with heap := (w0.heap.modify 1 fun
      | .cells _ t frozen => .cells tabA t frozen
      | o => o).modify 2 fun
      | .cells _ t frozen => .cells tabB t frozen
      | o => o }
theorem Tryd.gFirst : Tryd.prog.globalNamed "unicode/utf8.first" = some 1 := by kernel_rfl
theorem laidWorld_met (os : Os) (args : Array Value) : laidMetH Tryd.prog laidL ((laidOf (World.holding Tryd.prog os ⟨#[], #[], []⟩)).forCall (fun _ _ => 0) ⟨#[], args, []⟩).memory :=
  laidMet_of_run' 300 (by kernel_rfl) (by kernel_rfl)
end Go.Proofs.YtmfdmpfeoppnfaaDoor
