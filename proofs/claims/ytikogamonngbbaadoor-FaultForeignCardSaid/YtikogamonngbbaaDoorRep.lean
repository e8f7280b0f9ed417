/-
  How an error lies in memory: a number, an odd error that wraps nothing, an odd error that wraps an error, a fault that wraps an error; what errors.As and errors.Is find in one.
-/
import Derived.Test.YtikogamonngbbaaDoorFacts
namespace Go.Proofs.YtikogamonngbbaaDoor
open Go.RowKit Go.Extern.Stop Go.Stop Go.Extern

theorem Tryd.set34 (ta b e : Addr) (old : Value) (W : World) (hb : W.cell? b = some (.pointer (some e))) (ht : W.cell? ta = some old) (hf : W.frozen? ta = false) :
    (ReflectliteValue.set #[.agg #[.pointer (some ⟨1, 34, none⟩), .pointer (some ta), .int .u64 406], .agg #[.pointer (some ⟨1, 34, none⟩), .pointer (some b), .int .u64 150]]).run Tryd.prog W
      = .ok (.tuple #[]) (W.setCell ta (.pointer (some e))) := by
  have hp := Tryd.parts34a ta W
  have hq := Tryd.parts34 b W
  generalize Value.agg #[.pointer (some ⟨1, 34, none⟩), .pointer (some ta), .int .u64 406] = v at hp ⊢
  generalize Value.agg #[.pointer (some ⟨1, 34, none⟩), .pointer (some b), .int .u64 150] = x at hq ⊢
  change (ReflectliteValue.parts v >>= fun p => ReflectliteValue.parts x >>= fun q => _).run Tryd.prog W = _
  simp only [Sem.run_bind, hp, hq, Result.andThen]
  simp [ReflectliteValue.flagAddr, loadVar, isAgg, underlying, Tryd.underlying34, hb, Result.andThen, Tryd.direct34, storeVar, Value.cells, storeCells, Addr.add]
  rw [run_store Tryd.prog W ta _ _ (by rfl)]
  simp [ht, hf]
theorem Tryd.set27 (ta b : Addr) (n : Int) (old : Value) (W : World) (hb : W.cell? b = some (.int .i64 n)) (ht : W.cell? ta = some old) (hf : W.frozen? ta = false) :
    (ReflectliteValue.set #[.agg #[.pointer (some ⟨1, 27, none⟩), .pointer (some ta), .int .u64 386], .agg #[.pointer (some ⟨1, 27, none⟩), .pointer (some b), .int .u64 130]]).run Tryd.prog W
      = .ok (.tuple #[]) (W.setCell ta (.int .i64 n)) := by
  have hp := Tryd.parts27a ta W
  have hq := Tryd.parts27 b W
  generalize Value.agg #[.pointer (some ⟨1, 27, none⟩), .pointer (some ta), .int .u64 386] = v at hp ⊢
  generalize Value.agg #[.pointer (some ⟨1, 27, none⟩), .pointer (some b), .int .u64 130] = x at hq ⊢
  change (ReflectliteValue.parts v >>= fun p => ReflectliteValue.parts x >>= fun q => _).run Tryd.prog W = _
  simp only [Sem.run_bind, hp, hq, Result.andThen]
  simp [ReflectliteValue.flagAddr, loadVar, isAgg, underlying, Tryd.underlying27, hb, Result.andThen, Tryd.direct27, storeVar, Value.cells, storeCells, Addr.add]
  rw [run_store Tryd.prog W ta _ _ (by rfl)]
  simp [ht, hf]

/-- An error, as the program's values make one; 'fault' with the block in which it lies. -/
inductive Err where
  | num (c : Int)
  | bare
  | odd (e : Err)
  | fault (b : Nat) (c a : Int) (e : Err)

namespace Err
def val : Err → Value
  | num c => .iface 27 (.int .i64 c)
  | bare => .iface 41 (.agg #[.nilIface])
  | odd e => .iface 41 (.agg #[val e])
  | fault b _ _ _ => .iface 34 (.pointer (some ⟨b, 0, none⟩))
/-- Its outermost fault, if it is one, lies below n. -/
def under (n : Nat) : Err → Prop
  | fault b _ _ _ => b < n
  | _ => True
/-- It lies in the world w. -/
def lies (w : World) : Err → Prop
  | num _ => True
  | bare => True
  | odd e => lies w e
  | fault b c a e => w.heap[b]? = some (.cells #[.int .i64 c, .int .i64 a, val e] 37 (0, 0)) ∧ under b e ∧ lies w e
def depth : Err → Nat
  | num _ => 1
  | bare => 1
  | odd e => depth e + 1
  | fault _ _ _ e => depth e + 1
/-- The first fault that it is or wraps. -/
def first : Err → Option Err
  | num _ => none
  | bare => none
  | odd e => first e
  | fault b c a e => some (fault b c a e)
/-- The first number that it is or wraps. -/
def number : Err → Option Int
  | num c => some c
  | bare => none
  | odd e => number e
  | fault _ _ _ e => number e
/-- Is it this number, or does it wrap it? -/
def has (k : Int) : Err → Bool
  | num c => c == k
  | bare => false
  | odd e => has k e
  | fault _ _ _ e => has k e
/-- The chain that begins here: blocks and places. -/
def links : Err → List (Nat × Int)
  | fault b _ a e => (b, a) :: links e
  | _ => []
def ptr : Err → Value
  | fault b _ _ _ => .pointer (some ⟨b, 0, none⟩)
  | _ => .pointer none

theorem lies_below {w w' : World} {B : Nat} (hb : Below B w w') (hB : w.heap.size ≤ B) : ∀ {e : Err}, lies w e → lies w' e
  | num _, _ => trivial
  | bare, _ => trivial
  | odd e, h => lies_below (e := e) hb hB h
  | fault b c a e, h => by
    obtain ⟨h1, h2, h3⟩ := h
    have hlt : b < w.heap.size := by
      rcases Nat.lt_or_ge b w.heap.size with h | h
      · exact h
      · rw [Array.getElem?_eq_none h] at h1; cases h1
    exact ⟨(hb.block b (by omega)).trans h1, h2, lies_below hb hB h3⟩

theorem cell_of {w : World} {b : Nat} {c a : Int} {e : Err} (h : lies w (fault b c a e)) :
    w.cell? ⟨b, 0, none⟩ = some (.int .i64 c) ∧ w.cell? ⟨b, 1, none⟩ = some (.int .i64 a) ∧ w.cell? ⟨b, 2, none⟩ = some (val e) := by
  obtain ⟨h1, _, _⟩ := h
  refine ⟨?_, ?_, ?_⟩ <;> simp [World.cell?, h1]

theorem lt_of {w : World} {b : Nat} {c a : Int} {e : Err} (h : lies w (fault b c a e)) : b < w.heap.size := by
  obtain ⟨h1, _, _⟩ := h
  rcases Nat.lt_or_ge b w.heap.size with h | h
  · exact h
  · rw [Array.getElem?_eq_none h] at h1; cases h1
end Err
end Go.Proofs.YtikogamonngbbaaDoor
