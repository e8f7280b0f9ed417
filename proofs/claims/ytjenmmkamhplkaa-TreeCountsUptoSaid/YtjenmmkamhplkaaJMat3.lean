/-
  The texts Mat, Num, Mem, joined.
-/
import Derived.Test.YtjenmmkamhplkaaRows
import Derived.WalkKit
import Derived.WalkSpells
import Derived.WalkLawsBesides
import Derived.Maps.AppendAt
import Derived.Laws.IdiomStrings
import Derived.Laws.BitsAllLaws
import Derived.Deep.QuietTactic
import Derived.BigQuiet
import Derived.Deep.RegionHeld
import Derived.Deep.DrawnRows
import Derived.Deep.LoopGhost
import Derived.Laws.Rows
import Derived.Laws.Tables
import Derived.Deep.MidRow
import Derived.Laws.CopyOwn
namespace Go.Proofs.Ytjenmmkamhplkaa

def isBl (c : UInt8) : Bool := decide (c.toNat = 32) || decide (c.toNat = 9) || decide (c.toNat = 10)
def isDg (c : UInt8) : Bool := decide (48 ≤ c.toNat) && decide (c.toNat ≤ 57)
def isLt (c : UInt8) : Bool := (decide (97 ≤ c.toNat) && decide (c.toNat ≤ 122)) || (decide (65 ≤ c.toNat) && decide (c.toNat ≤ 90)) || decide (c.toNat = 95)
def isNm (c : UInt8) : Bool := isLt c || isDg c

/-- How many bytes of names a text opens with. -/
def runL : List UInt8 → Nat
  | [] => 0
  | c :: t => if isNm c then runL t + 1 else 0

theorem runL_le : ∀ l : List UInt8, runL l ≤ l.length
  | [] => by simp [runL]
  | c :: t => by have := runL_le t; simp only [runL, List.length_cons]; split <;> omega

def wordsL : List (List UInt8) :=
  [[102,110],[115,116,114,117,99,116],[112,117,98],[108,101,116],[109,117,116],[105,102],[101,108,115,101],[119,104,105,108,101],[108,111,111,112],[98,114,101,97,107],[99,111,110,116,105,110,117,101],[114,101,116,117,114,110],[100,114,111,112],[116,114,117,101],[102,97,108,115,101],[105,110,116],[98,111,111,108]]
def isWord (l : List UInt8) : Bool := wordsL.contains l

theorem word_len {l : List UInt8} (h : isWord l = true) : 1 ≤ l.length ∧ l.length ≤ 8 := by
  simp only [isWord, wordsL, List.contains_eq_mem, List.mem_cons, List.not_mem_nil, decide_eq_true_eq, or_false] at h
  rcases h with rfl | rfl | rfl | rfl | rfl | rfl | rfl | rfl | rfl | rfl | rfl | rfl | rfl | rfl | rfl | rfl | rfl <;> decide
end Go.Proofs.Ytjenmmkamhplkaa

namespace Go.Proofs.Ytjenmmkamhplkaa
open Go.RowKit
def str (l : List UInt8) : ByteArray := ⟨l.toArray⟩
theorem str_size (l : List UInt8) : (str l).size = l.length := by simp [str, ByteArray.size]
theorem str_at (l : List UInt8) (k : Nat) (h : k < (str l).size) : ((str l)[k]'h) = l.getD k 0 := by
  have hk : k < l.length := by rw [str_size] at h; exact h
  simp [List.getD, List.getElem?_eq_getElem hk]; rfl
theorem str_of (s : ByteArray) : str s.data.toList = s := by cases s; simp [str]
theorem str_inj {a b : List UInt8} (h : str a = str b) : a = b := by
  have := congrArg (fun x => x.data.toList) h
  simpa [str] using this
end Go.Proofs.Ytjenmmkamhplkaa

namespace Go.Proofs.Ytjenmmkamhplkaa
open Go.RowKit

/-- Bytes as cells. -/
def bys (l : List UInt8) : List Value := l.map fun b => Value.int .u8 (b.toNat : Int)
theorem bys_len (l : List UInt8) : (bys l).length = l.length := by simp [bys]
theorem bys_app (l m : List UInt8) : bys (l ++ m) = bys l ++ bys m := by simp [bys]
theorem bys_one (l : List UInt8) : ∀ u ∈ bys l, u.oneCell' = true := by
  intro u hu
  obtain ⟨b, _, rfl⟩ := List.mem_map.1 hu
  rfl
theorem bys_get (l : List UInt8) (j : Nat) (h : j < l.length) : (bys l)[j]? = some (.int .u8 ((l.getD j 0).toNat : Int)) := by
  simp [bys, List.getD, List.getElem?_eq_getElem h]
theorem addr_add (b o i : Nat) : (⟨b, o, none⟩ : Addr).add i = ⟨b, o + i, none⟩ := by unfold Addr.add; split <;> simp_all

/-- A block that is a row of cells. -/
structure Row (w : World) (g t : Nat) (L : List Value) : Prop where
  heap : w.heap[g]? = some (.cells L.toArray t (0, 0))
theorem Row.cell {w : World} {g t : Nat} {L : List Value} (h : Row w g t L) (j : Nat) : w.cell? ⟨g, j, none⟩ = L[j]? := by
  rw [cell_of_row w g j L.toArray t (0, 0) h.heap]; simp
theorem Row.fz {w : World} {g t : Nat} {L : List Value} (h : Row w g t L) (j : Nat) : w.frozen? ⟨g, j, none⟩ = false := by
  simp [World.frozen?, h.heap]
theorem Row.set {w : World} {g t : Nat} {L : List Value} (h : Row w g t L) (j : Nat) (v : Value) : Row (w.setCell ⟨g, j, none⟩ v) g t (L.set j v) := by
  refine ⟨?_⟩
  rw [heap_setCell_same w g j L.toArray t v h.heap]
  simp
theorem Row.other {w : World} {g g' j t : Nat} {L : List Value} (h : Row w g t L) (hne : g ≠ g') (v : Value) : Row (w.setCell ⟨g', j, none⟩ v) g t L :=
  ⟨by rw [heap_setCell_other w ⟨g', j, none⟩ g v hne]; exact h.heap⟩
theorem Row.below {w w' : World} {C g t : Nat} {L : List Value} (h : Row w g t L) (hb : Below C w w') (hg : g < C) : Row w' g t L :=
  ⟨by rw [hb.block g hg]; exact h.heap⟩
theorem Row.drew {w : World} {g t : Nat} {L : List Value} (h : Row w g t L) : Row w.drew g t L := ⟨h.heap⟩
theorem Row.drewN {w : World} {g t n : Nat} {L : List Value} (h : Row w g t L) : Row (w.drewN n) g t L := ⟨h.heap⟩
theorem Row.lt {w : World} {g t : Nat} {L : List Value} (h : Row w g t L) : g < w.heap.size := by
  have := h.heap
  rcases Nat.lt_or_ge g w.heap.size with h' | h'
  · exact h'
  · rw [Array.getElem?_eq_none h'] at this; cases this
theorem Row.new (w : World) (t : Nat) (L : List Value) : Row (w.alloc (.cells L.toArray t)) w.heap.size t L := ⟨heap_alloc_new w _⟩
theorem Row.range {w : World} {g t : Nat} {L : List Value} (h : Row w g t L) : w.rangeAt g 0 L := by
  intro j u hj
  rw [Nat.zero_add, h.cell j]; exact hj
theorem Row.setRow {w : World} {g t : Nat} {L : List Value} (h : Row w g t L) (M : List Value) : Row (w.setRow g M.toArray) g t M := ⟨setRow_heap w g _ _ t _ h.heap⟩
theorem Row.setRow_other {w : World} {g g' t : Nat} {L : List Value} (h : Row w g t L) (hne : g ≠ g') (M : Array Value) : Row (w.setRow g' M) g t L := by
  refine ⟨Eq.trans ?_ h.heap⟩
  simp only [World.setRow, Array.getElem?_modify]
  rw [if_neg (fun e => hne e.symm)]
theorem all_one {L : List Value} (h : ∀ u ∈ L, u.oneCell' = true) : L.toArray.all (·.oneCell') = true := by
  rw [Array.all_eq_true_iff_forall_mem]; intro u hu; exact h u (by simpa using hu)

/-- The slice v holds the bytes l. -/
structure Sl (w : World) (v : Value) (l : List UInt8) : Prop where
  shape : (∃ ao, v = .slice ao 0 0 ∧ l = []) ∨ ∃ b o cap, v = .slice (some ⟨b, o, none⟩) l.length cap ∧ l.length ≤ cap ∧ ∀ i, i < l.length → w.cell? ⟨b, o + i, none⟩ = some (.int .u8 ((l.getD i 0).toNat : Int))

theorem Sl.below {w w' : World} {v : Value} {l : List UInt8} (h : Sl w v l) (hb : Below w.heap.size w w') : Sl w' v l := by
  refine ⟨?_⟩
  rcases h.shape with h | ⟨b, o, cap, rfl, hcap, hc⟩
  · exact .inl h
  · refine .inr ⟨b, o, cap, rfl, hcap, fun i hi => ?_⟩
    rw [hb.cell (p := ⟨b, o + i, none⟩) (World.block_lt_of_cell? w _ (hc i hi))]
    exact hc i hi
theorem Try.info5 : (Try.prog.info? 5).map (fun i => (i.zero, i.size, i.bytes)) = some (some (.int .u8 0), 1, 1) := by kernel_rfl
end Go.Proofs.Ytjenmmkamhplkaa
