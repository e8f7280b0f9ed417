/-
  What the listed package-level variables hold when a call begins, as cells of memory; a world in which they hold that; how arguments are read.
-/
import Derived.Test.YtdnjcajbmibjiaaDoorRows
import Derived.Test.YtdnjcajbmibjiaaDoorCards
import Derived.Test.YtdnjcajbmibjiaaDoorTie
import Derived.Test.YtdnjcajbmibjiaaDoorNmb
import Derived.Stop.LaidErr
import Derived.SizedLaws
import Derived.ChangeSame
import Derived.ChangeVars
import Derived.ChangeMaps5
import Derived.JoinedOf
import Derived.JoinedAt
import Derived.RowKit
import Derived.RowKit3
import Derived.RowKitTokens
import Derived.LaidLaws
import Derived.LaidHandle
import Derived.SevenTiedAt
import Derived.Carry
import Derived.ProofKit
import Derived.OpenShut
namespace Go.Proofs.YtdnjcajbmibjiaaDoor
open Go.ChangeShapes Go.WideShapes Go.ChangeAt Go.RowKit

theorem Tryd.own : ownKnob Tryd.prog.godebug = none := by kernel_rfl
theorem Tryd.laidOut : laidOutB Tryd.prog = true := by kernel_rfl
/-- The listed variables. -/
abbrev laidL : List (String × DataW Unit) := Rows.lexWordsRow.laid
theorem Tryd.gSyn : Tryd.prog.globalNamed "strconv.ErrSyntax" = some 1 := by kernel_rfl
theorem Tryd.gRng : Tryd.prog.globalNamed "strconv.ErrRange" = some 2 := by kernel_rfl
theorem Tryd.gSynType : (Tryd.prog.globals[1]?).map (·.type) = some 25 := by kernel_rfl
theorem Tryd.gRngType : (Tryd.prog.globals[2]?).map (·.type) = some 25 := by kernel_rfl
theorem Tryd.cells78 : Tryd.prog.cellsOf 78 = 1 := by kernel_rfl
theorem Tryd.cells9 : Tryd.prog.cellsOf 9 = 1 := by kernel_rfl
theorem Tryd.row76 (u : TypeId) (h : Tryd.prog.typeName? 3 u = Tryd.prog.typeName? 3 76) : u = 76 := by
  have e : Tryd.prog.typeName? 3 76 = some (String.append (String.singleton (Char.ofNat 42)) "errors.errorString") := by kernel_rfl
  rw [e] at h
  exact typeName_ptr_named (P := Tryd.prog) (nm := "errors.errorString") (tp := 76) (by kernel_rfl) (by kernel_rfl) (by decide) u h

/-- What the condition gives a walk. -/
theorem glob_of_laid {W : World} (h : laidMetH Tryd.prog laidL W) : Glob W := by
  have h' : laidMet Tryd.prog laidL W := h
  have h3 : laidMet Tryd.prog [("strconv.ErrRange", Rows.laid_strconv_ErrRange), ("strconv.ErrSyntax", Rows.laid_strconv_ErrSyntax)] W := h'.tail.tail.tail
  obtain ⟨a0, s0, hv0, -, -, -⟩ := laid_sentinel h3 Tryd.gRng Tryd.gRngType Tryd.underlying25 (fun u hu => Tryd.row76 u (hu.trans (by kernel_rfl))) Tryd.underlying76 Tryd.underlying78 rfl rfl Tryd.underlying9 Tryd.cells78 Tryd.cells9
  obtain ⟨a1, s1, hv1, -, -, -⟩ := laid_sentinel h3.tail Tryd.gSyn Tryd.gSynType Tryd.underlying25 (fun u hu => Tryd.row76 u (hu.trans (by kernel_rfl))) Tryd.underlying76 Tryd.underlying78 rfl rfl Tryd.underlying9 Tryd.cells78 Tryd.cells9
  exact ⟨⟨_, by simpa using World.var?_cell Tryd.gSyn hv1 0, .inr ⟨_, _, rfl⟩⟩, ⟨_, by simpa using World.var?_cell Tryd.gRng hv0 0, .inr ⟨_, _, rfl⟩⟩⟩

/-- The two texts of the library's errors. -/
def synS : ByteArray := ⟨#[105, 110, 118, 97, 108, 105, 100, 32, 115, 121, 110, 116, 97, 120]⟩
def rngS : ByteArray := ⟨#[118, 97, 108, 117, 101, 32, 111, 117, 116, 32, 111, 102, 32, 114, 97, 110, 103, 101]⟩
/-- A world, the five variables' cells laid. -/
def laidOf (w0 : World) (low : Nat) : World :=
  { w0 with heap := ((((w0.heap.modify 1 fun
      | .cells _ t frozen => .cells #[.iface 76 (.pointer (some ⟨low, 0, none⟩))] t frozen
      | o => o).modify 2 fun
      | .cells _ t frozen => .cells #[.iface 76 (.pointer (some ⟨low + 1, 0, none⟩))] t frozen
      | o => o).modify 3 fun
      | .cells _ t frozen => .cells #[.int .u64 1, .int .u64 10, .int .u64 100, .int .u64 1000, .int .u64 10000, .int .u64 100000, .int .u64 1000000, .int .u64 10000000, .int .u64 100000000, .int .u64 1000000000, .int .u64 10000000000, .int .u64 100000000000, .int .u64 1000000000000, .int .u64 10000000000000, .int .u64 100000000000000, .int .u64 1000000000000000, .int .u64 10000000000000000, .int .u64 100000000000000000, .int .u64 1000000000000000000, .int .u64 10000000000000000000] t frozen
      | o => o).modify 4 fun
      | .cells _ t frozen => .cells #[.int .u8 0, .int .u8 1, .int .u8 28, .int .u8 2, .int .u8 29, .int .u8 14, .int .u8 24, .int .u8 3, .int .u8 30, .int .u8 22, .int .u8 20, .int .u8 15, .int .u8 25, .int .u8 17, .int .u8 4, .int .u8 8, .int .u8 31, .int .u8 27, .int .u8 13, .int .u8 23, .int .u8 21, .int .u8 19, .int .u8 16, .int .u8 7, .int .u8 26, .int .u8 12, .int .u8 18, .int .u8 6, .int .u8 11, .int .u8 5, .int .u8 10, .int .u8 9] t frozen
      | o => o).modify 5 fun
      | .cells _ t frozen => .cells #[.int .u8 0, .int .u8 1, .int .u8 56, .int .u8 2, .int .u8 57, .int .u8 49, .int .u8 28, .int .u8 3, .int .u8 61, .int .u8 58, .int .u8 42, .int .u8 50, .int .u8 38, .int .u8 29, .int .u8 17, .int .u8 4, .int .u8 62, .int .u8 47, .int .u8 59, .int .u8 36, .int .u8 45, .int .u8 43, .int .u8 51, .int .u8 22, .int .u8 53, .int .u8 39, .int .u8 33, .int .u8 30, .int .u8 24, .int .u8 18, .int .u8 12, .int .u8 5, .int .u8 63, .int .u8 55, .int .u8 48, .int .u8 27, .int .u8 60, .int .u8 41, .int .u8 37, .int .u8 16, .int .u8 46, .int .u8 35, .int .u8 44, .int .u8 21, .int .u8 52, .int .u8 32, .int .u8 23, .int .u8 11, .int .u8 54, .int .u8 26, .int .u8 40, .int .u8 15, .int .u8 34, .int .u8 20, .int .u8 31, .int .u8 10, .int .u8 25, .int .u8 14, .int .u8 19, .int .u8 9, .int .u8 13, .int .u8 8, .int .u8 7, .int .u8 6] t frozen
      | o => o }
theorem laidWorld_met (os : Os) (args : Array Value) : laidMetH Tryd.prog laidL ((laidOf (World.holding Tryd.prog os ⟨#[.cells #[.string synS] 78, .cells #[.string rngS] 78], #[], []⟩) 11).forCall (fun _ _ => 0) ⟨#[], args, []⟩).memory :=
  laidMetH_of_parts (laidMet_of_run' 100 (by kernel_rfl) (by kernel_rfl)) (by kernel_rfl)
end Go.Proofs.YtdnjcajbmibjiaaDoor
