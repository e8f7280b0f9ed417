/-
  The texts Num, Mem, joined.
-/
import Derived.Test.YtfkibbpekngciaaRows
import Derived.WalkKit
import Derived.WalkSpells
import Derived.WalkLawsBesides
import Derived.Maps.AppendAt
import Derived.Laws.IdiomStrings
import Derived.Laws.BitsAllLaws
import Derived.Deep.QuietTactic
import Derived.BigQuiet
import Derived.Deep.RegionHeld
import Derived.Deep.DrawnRows
import Derived.Deep.LoopGhost
import Derived.Laws.Rows
import Derived.Laws.Tables
import Derived.Deep.MidRow
import Derived.Laws.CopyOwn
/- The words of 32 bits: turning, the four mixings, and the contracts of the small functions that turn a word. -/
namespace Go.Proofs.Ytfkibbpekngciaa
open Go.RowKit

/-- x turned right by n. -/
def rotr (x : Int) (n : Nat) : Int := bits .or .u32 (x / 2 ^ n) (x * 2 ^ (32 - n) % 4294967296)

theorem or_comm32 (a b : Int) : bits .or .u32 a b = bits .or .u32 b a := by
  simp only [bits, BitVec.or_comm]

theorem low_of_neg (n : Nat) (h0 : 0 < n) (h1 : n < 32) : bits .and .u64 (IntKind.u64.wrap (-(n : Int))) 31 = ((32 - n : Nat) : Int) := by
  have e : IntKind.u64.wrap (-(n : Int)) = ((18446744073709551616 - n : Nat) : Int) := by
    have : IntKind.u64.wrap (-(n : Int)) = (-(n : Int)) % 18446744073709551616 := by simp [IntKind.wrap, IntKind.bits, IntKind.signed]
    rw [this]; omega
  have h := u64_and_nat (18446744073709551616 - n) 31 (by omega) (by omega)
  rw [e]
  refine h.trans ?_
  rw [nat_mask5]
  congr 1
  omega

set_option maxHeartbeats 1000000 in
theorem rot_any (x : Int) (n : Nat) (h0 : 0 < n) (h1 : n < 32) (w : World) : Calls Try.prog 64 #[.int .u32 x, .int .i64 (-(n : Int))] w fun ev w' => ev = .returned (.int .u32 (rotr x n)) ∧ w' = w := by
  have h := low_of_neg n h0 h1
  have hs : 18446744073709551616 ≤ 0 ∨ IntKind.u64.wrap (32 - ((32 - n : Nat) : Int)) = (n : Int) := by
    right
    have : IntKind.u64.wrap (32 - ((32 - n : Nat) : Int)) = (32 - ((32 - n : Nat) : Int)) % 18446744073709551616 := by simp [IntKind.wrap, IntKind.bits, IntKind.signed]
    rw [this]; omega
  have hs' := hs.resolve_left (by omega)
  obtain ⟨m, hm⟩ : ∃ m : Nat, m = 32 - n := ⟨_, rfl⟩
  rw [← hm] at h hs'
  have hm1 : m < 32 := by omega
  have hr : rotr x n = bits .or .u32 (x * 2 ^ m % 4294967296) (x / 2 ^ n) := by rw [rotr, or_comm32, hm]
  clear hs
  go_enter Try.func64, Try.ntmps64
  go_wp2
  go_ret
  refine ⟨?_, rfl⟩
  rw [hr, hm]
  simp
  rw [show 32 - (32 - n) = n by omega]

set_option maxHeartbeats 1000000 in
theorem turned_any (x : Int) (n : Nat) (k : Int) (hk : k = n) (h0 : 0 < n) (h1 : n < 32) (w : World) : Calls Try.prog 61 #[.int .u32 x, .int .i64 k] w fun ev w' => ev = .returned (.int .u32 (rotr x n)) ∧ w' = w := by
  subst hk
  have hn : IntKind.i64.wrap (-(n : Int)) = -(n : Int) := by rw [IntKind.wrap_i64]; omega
  have H := rot_any x n h0 h1 w
  go_enter Try.func61, Try.ntmps61
  go_wp2_with fail
  refine H.mono ?_
  rintro ev w' ⟨rfl, rfl⟩
  go_wp2
  go_ret
  exact ⟨rfl, rfl⟩

set_option maxHeartbeats 1000000 in
theorem turn_any (x : Int) (n : Nat) (k : Int) (hk : k = n) (h0 : 0 < n) (h1 : n < 32) (w : World) : Calls Try.prog 35 #[.int .u32 x, .int .i64 k] w fun ev w' => ev = .returned (.int .u32 (rotr x n)) ∧ w' = w := by
  subst hk
  go_enter Try.func35, Try.ntmps35
  go_wp2
  go_ret
  refine ⟨?_, rfl⟩
  rw [rotr]
  simp

end Go.Proofs.Ytfkibbpekngciaa

/- How rows of words and of bytes lie in memory, and what stays so when other memory turns. -/
namespace Go.Proofs.Ytfkibbpekngciaa
open Go.RowKit

/-- Bytes as cells. -/
def bys (l : List UInt8) : List Value := l.map fun b => Value.int .u8 (b.toNat : Int)
theorem bys_len (l : List UInt8) : (bys l).length = l.length := by simp [bys]
theorem bys_app (l m : List UInt8) : bys (l ++ m) = bys l ++ bys m := by simp [bys]
theorem bys_one (l : List UInt8) : ∀ u ∈ bys l, u.oneCell' = true := by
  intro u hu
  obtain ⟨b, _, rfl⟩ := List.mem_map.1 hu
  rfl
theorem bys_get (l : List UInt8) (j : Nat) (h : j < l.length) : (bys l)[j]? = some (.int .u8 ((l.getD j 0).toNat : Int)) := by
  simp [bys, List.getD, List.getElem?_eq_getElem h]
/-- Words as cells. -/
def u32s (l : List Int) : List Value := l.map fun x => Value.int .u32 x
theorem u32s_len (l : List Int) : (u32s l).length = l.length := by simp [u32s]
theorem u32s_app (l m : List Int) : u32s (l ++ m) = u32s l ++ u32s m := by simp [u32s]
theorem u32s_one (l : List Int) : ∀ u ∈ u32s l, u.oneCell' = true := by
  intro u hu
  obtain ⟨b, _, rfl⟩ := List.mem_map.1 hu
  rfl
theorem u32s_get (l : List Int) (j : Nat) (h : j < l.length) : (u32s l)[j]? = some (.int .u32 (l.getD j 0)) := by
  simp [u32s, List.getD, List.getElem?_eq_getElem h]
theorem u32s_set (l : List Int) (j : Nat) (x : Int) : u32s (l.set j x) = (u32s l).set j (.int .u32 x) := by simp [u32s, List.map_set]
theorem addr_add (b o i : Nat) : (⟨b, o, none⟩ : Addr).add i = ⟨b, o + i, none⟩ := by unfold Addr.add; split <;> simp_all

/-- A block that is a row of cells. -/
structure Row (w : World) (g t : Nat) (L : List Value) : Prop where
  heap : w.heap[g]? = some (.cells L.toArray t (0, 0))
theorem Row.cell {w : World} {g t : Nat} {L : List Value} (h : Row w g t L) (j : Nat) : w.cell? ⟨g, j, none⟩ = L[j]? := by
  rw [cell_of_row w g j L.toArray t (0, 0) h.heap]; simp
theorem Row.fz {w : World} {g t : Nat} {L : List Value} (h : Row w g t L) (j : Nat) : w.frozen? ⟨g, j, none⟩ = false := by
  simp [World.frozen?, h.heap]
theorem Row.set {w : World} {g t : Nat} {L : List Value} (h : Row w g t L) (j : Nat) (v : Value) : Row (w.setCell ⟨g, j, none⟩ v) g t (L.set j v) := by
  refine ⟨?_⟩
  rw [heap_setCell_same w g j L.toArray t v h.heap]
  simp
theorem Row.other {w : World} {g g' j t : Nat} {L : List Value} (h : Row w g t L) (hne : g ≠ g') (v : Value) : Row (w.setCell ⟨g', j, none⟩ v) g t L :=
  ⟨by rw [heap_setCell_other w ⟨g', j, none⟩ g v hne]; exact h.heap⟩
theorem Row.below {w w' : World} {C g t : Nat} {L : List Value} (h : Row w g t L) (hb : Below C w w') (hg : g < C) : Row w' g t L :=
  ⟨by rw [hb.block g hg]; exact h.heap⟩
theorem Row.drew {w : World} {g t : Nat} {L : List Value} (h : Row w g t L) : Row w.drew g t L := ⟨h.heap⟩
theorem Row.drewN {w : World} {g t n : Nat} {L : List Value} (h : Row w g t L) : Row (w.drewN n) g t L := ⟨h.heap⟩
theorem Row.lt {w : World} {g t : Nat} {L : List Value} (h : Row w g t L) : g < w.heap.size := by
  have := h.heap
  rcases Nat.lt_or_ge g w.heap.size with h' | h'
  · exact h'
  · rw [Array.getElem?_eq_none h'] at this; cases this
theorem Row.new (w : World) (t : Nat) (L : List Value) : Row (w.alloc (.cells L.toArray t)) w.heap.size t L := ⟨heap_alloc_new w _⟩
theorem Row.range {w : World} {g t : Nat} {L : List Value} (h : Row w g t L) : w.rangeAt g 0 L := by
  intro j u hj
  rw [Nat.zero_add, h.cell j]; exact hj
theorem Row.setRow {w : World} {g t : Nat} {L : List Value} (h : Row w g t L) (M : List Value) : Row (w.setRow g M.toArray) g t M := ⟨setRow_heap w g _ _ t _ h.heap⟩
theorem Row.setRow_other {w : World} {g g' t : Nat} {L : List Value} (h : Row w g t L) (hne : g ≠ g') (M : Array Value) : Row (w.setRow g' M) g t L := by
  refine ⟨Eq.trans ?_ h.heap⟩
  simp only [World.setRow, Array.getElem?_modify]
  rw [if_neg (fun e => hne e.symm)]
theorem all_one {L : List Value} (h : ∀ u ∈ L, u.oneCell' = true) : L.toArray.all (·.oneCell') = true := by
  rw [Array.all_eq_true_iff_forall_mem]; intro u hu; exact h u (by simpa using hu)

/-- The slice v holds the bytes l. -/
structure Sl (w : World) (v : Value) (l : List UInt8) : Prop where
  shape : (∃ ao, v = .slice ao 0 0 ∧ l = []) ∨ ∃ b o cap, v = .slice (some ⟨b, o, none⟩) l.length cap ∧ l.length ≤ cap ∧ ∀ i, i < l.length → w.cell? ⟨b, o + i, none⟩ = some (.int .u8 ((l.getD i 0).toNat : Int))

theorem Sl.below {w w' : World} {v : Value} {l : List UInt8} (h : Sl w v l) (hb : Below w.heap.size w w') : Sl w' v l := by
  refine ⟨?_⟩
  rcases h.shape with h | ⟨b, o, cap, rfl, hcap, hc⟩
  · exact .inl h
  · refine .inr ⟨b, o, cap, rfl, hcap, fun i hi => ?_⟩
    rw [hb.cell (p := ⟨b, o + i, none⟩) (World.block_lt_of_cell? w _ (hc i hi))]
    exact hc i hi
theorem Try.info5 : (Try.prog.info? 5).map (fun i => (i.zero, i.size, i.bytes)) = some (some (.int .u8 0), 1, 1) := by kernel_rfl
theorem Try.info65 : (Try.prog.info? 65).map (·.size) = some 64 := by kernel_rfl
theorem Try.info71 : (Try.prog.info? 71).map (·.size) = some 8 := by kernel_rfl
theorem Try.info64 : (Try.prog.info? 64).map (·.size) = some 8 := by kernel_rfl
theorem Try.info26 : (Try.prog.info? 26).map (·.size) = some 32 := by kernel_rfl
theorem Try.info74 : (Try.prog.info? 74).map (·.size) = some 4 := by kernel_rfl
end Go.Proofs.Ytfkibbpekngciaa
