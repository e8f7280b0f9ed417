/-
  How an error lies in memory: a number, an odd error that wraps nothing, an odd error that wraps an error, a fault that wraps an error; what errors.As and errors.Is find in one.
-/
import Derived.Test.YtikogamonngbbaaDoorFacts
namespace Go.Proofs.YtikogamonngbbaaDoor
open Go.RowKit Go.Extern.Stop Go.Stop Go.Extern

theorem Tryd.set34 (ta b e : Addr) (old : Value) (W : World) (hb : W.cell? b = some (.pointer (some e))) (ht : W.cell? ta = some old) (hf : W.frozen? ta = false) :
    (ReflectliteValue.set #[.agg #[.pointer (some ⟨1, 34, none⟩), .pointer (some ta), .int .u64 406], .agg #[.pointer (some ⟨1, 34, none⟩), .pointer (some b), .int .u64 150]]).run Tryd.prog W
      = .ok (.tuple #[]) (W.setCell ta (.pointer (some e))) := by
  have hp := Tryd.parts34a ta W
  have hq := Tryd.parts34 b W
  generalize Value.agg #[.pointer (some ⟨1, 34, none⟩), .pointer (some ta), .int .u64 406] = v at hp ⊢
  generalize Value.agg #[.pointer (some ⟨1, 34, none⟩), .pointer (some b), .int .u64 150] = x at hq ⊢
  change (ReflectliteValue.parts v >>= fun p => ReflectliteValue.parts x >>= fun q => _).run Tryd.prog W = _
  simp only [Sem.run_bind, hp, hq, Result.andThen]
  simp [ReflectliteValue.flagAddr, loadVar, isAgg, underlying, Tryd.underlying34, hb, Result.andThen, Tryd.direct34, storeVar, Value.cells, storeCells, Addr.add]
  rw [run_store Tryd.prog W ta _ _ (by rfl)]
  simp [ht, hf]
theorem Tryd.set27 (ta b : Addr) (n : Int) (old : Value) (W : World) (hb : W.cell? b = some (.int .i64 n)) (ht : W.cell? ta = some old) (hf : W.frozen? ta = false) :
    (ReflectliteValue.set #[.agg #[.pointer (some ⟨1, 27, none⟩), .pointer (some ta), .int .u64 386], .agg #[.pointer (some ⟨1, 27, none⟩), .pointer (some b), .int .u64 130]]).run Tryd.prog W
      = .ok (.tuple #[]) (W.setCell ta (.int .i64 n)) := by
  have hp := Tryd.parts27a ta W
  have hq := Tryd.parts27 b W
  generalize Value.agg #[.pointer (some ⟨1, 27, none⟩), .pointer (some ta), .int .u64 386] = v at hp ⊢
  generalize Value.agg #[.pointer (some ⟨1, 27, none⟩), .pointer (some b), .int .u64 130] = x at hq ⊢
  change (ReflectliteValue.parts v >>= fun p => ReflectliteValue.parts x >>= fun q => _).run Tryd.prog W = _
  simp only [Sem.run_bind, hp, hq, Result.andThen]
  simp [ReflectliteValue.flagAddr, loadVar, isAgg, underlying, Tryd.underlying27, hb, Result.andThen, Tryd.direct27, storeVar, Value.cells, storeCells, Addr.add]
  rw [run_store Tryd.prog W ta _ _ (by rfl)]
  simp [ht, hf]

/-- An error, as the program's values make one: a number, or an odd error that wraps nothing, inside so many layers, the outermost first: an odd error, or a fault with the block in which it lies, its code and its place. -/
structure Err where
  base : Option Int
  layers : List (Option (Nat × Int × Int))

namespace Err
def num (c : Int) : Err := ⟨some c, []⟩
def bare : Err := ⟨none, []⟩
def odd (e : Err) : Err := ⟨e.base, none :: e.layers⟩
def fault (b : Nat) (c a : Int) (e : Err) : Err := ⟨e.base, some (b, c, a) :: e.layers⟩

theorem ind {motive : Err → Prop} (num : ∀ c, motive (num c)) (bare : motive bare) (odd : ∀ e, motive e → motive (odd e)) (fault : ∀ b c a e, motive e → motive (fault b c a e)) (x : Err) : motive x := by
  obtain ⟨base, layers⟩ := x
  induction layers with
  | nil =>
    cases base with
    | none => exact bare
    | some c => exact num c
  | cons y l ih =>
    cases y with
    | none => exact odd ⟨base, l⟩ ih
    | some z => exact fault z.1 z.2.1 z.2.2 ⟨base, l⟩ ih
theorem four {motive : Err → Prop} (num : ∀ c, motive (num c)) (bare : motive bare) (odd : ∀ e, motive (odd e)) (fault : ∀ b c a e, motive (fault b c a e)) (x : Err) : motive x :=
  ind num bare (fun e _ => odd e) (fun b c a e _ => fault b c a e) x

def valL (base : Option Int) : List (Option (Nat × Int × Int)) → Value
  | [] => match base with
    | some c => .iface 27 (.int .i64 c)
    | none => .iface 41 (.agg #[.nilIface])
  | none :: l => .iface 41 (.agg #[valL base l])
  | some z :: _ => .iface 34 (.pointer (some ⟨z.1, 0, none⟩))
/-- The value. -/
def val (e : Err) : Value := valL e.base e.layers
theorem val_num (c : Int) : val (num c) = .iface 27 (.int .i64 c) := rfl
theorem val_bare : val bare = .iface 41 (.agg #[.nilIface]) := rfl
theorem val_odd (e : Err) : val (odd e) = .iface 41 (.agg #[val e]) := rfl
theorem val_fault (b : Nat) (c a : Int) (e : Err) : val (fault b c a e) = .iface 34 (.pointer (some ⟨b, 0, none⟩)) := rfl

def ptrL : List (Option (Nat × Int × Int)) → Value
  | some z :: _ => .pointer (some ⟨z.1, 0, none⟩)
  | _ => .pointer none
/-- The pointer to the fault that it is, if it is one. -/
def ptr (e : Err) : Value := ptrL e.layers
theorem ptr_num (c : Int) : ptr (num c) = .pointer none := rfl
theorem ptr_bare : ptr bare = .pointer none := rfl
theorem ptr_odd (e : Err) : ptr (odd e) = .pointer none := rfl
theorem ptr_fault (b : Nat) (c a : Int) (e : Err) : ptr (fault b c a e) = .pointer (some ⟨b, 0, none⟩) := rfl

def underL (n : Nat) : List (Option (Nat × Int × Int)) → Prop
  | some z :: _ => z.1 < n
  | _ => True
/-- Its outermost fault, if it is one, lies below n. -/
def under (n : Nat) (e : Err) : Prop := underL n e.layers
theorem under_mono {n m : Nat} {e : Err} (h : under n e) (hm : n ≤ m) : under m e := by
  revert h
  cases e using four with
  | num c => exact fun _ => trivial
  | bare => exact fun _ => trivial
  | odd e => exact fun _ => trivial
  | fault b c a e => exact fun h => Nat.lt_of_lt_of_le (show b < n from h) hm

def liesL (w : World) (base : Option Int) : List (Option (Nat × Int × Int)) → Prop
  | [] => True
  | none :: l => liesL w base l
  | some z :: l => w.heap[z.1]? = some (.cells #[.int .i64 z.2.1, .int .i64 z.2.2, valL base l] 37 (0, 0)) ∧ underL z.1 l ∧ liesL w base l
/-- It lies in the world w: each fault in its block, ahead of the one that wraps it. -/
def lies (w : World) (e : Err) : Prop := liesL w e.base e.layers
theorem lies_fault {w : World} {b : Nat} {c a : Int} {e : Err} (h : lies w (fault b c a e)) :
    w.heap[b]? = some (.cells #[.int .i64 c, .int .i64 a, val e] 37 (0, 0)) ∧ under b e ∧ lies w e := h

/-- How many layers there are, and one. -/
def depth (e : Err) : Nat := e.layers.length + 1
theorem depth_odd (e : Err) : depth (odd e) = depth e + 1 := rfl
theorem depth_fault (b : Nat) (c a : Int) (e : Err) : depth (fault b c a e) = depth e + 1 := rfl

def firstL (base : Option Int) : List (Option (Nat × Int × Int)) → Option Err
  | [] => none
  | none :: l => firstL base l
  | some z :: l => some ⟨base, some z :: l⟩
/-- The first fault that it is or wraps. -/
def first (e : Err) : Option Err := firstL e.base e.layers
/-- The first number that it is or wraps. -/
def number (e : Err) : Option Int := e.base
/-- Is it this number, or does it wrap it? -/
def has (k : Int) (e : Err) : Bool :=
  match e.base with
  | some c => c == k
  | none => false
def linksL : List (Option (Nat × Int × Int)) → List (Nat × Int)
  | some z :: l => (z.1, z.2.2) :: linksL l
  | _ => []
/-- The chain that begins here: blocks and places. -/
def links (e : Err) : List (Nat × Int) := linksL e.layers
theorem links_fault (b : Nat) (c a : Int) (e : Err) : links (fault b c a e) = (b, a) :: links e := rfl

theorem lt_heap {w : World} {b : Nat} {o : Obj} (h : w.heap[b]? = some o) : b < w.heap.size := by
  rcases Nat.lt_or_ge b w.heap.size with h' | h'
  · exact h'
  · rw [Array.getElem?_eq_none h'] at h; cases h
theorem lies_below {w w' : World} {B : Nat} (hb : Below B w w') (hB : w.heap.size ≤ B) {e : Err} (h : lies w e) : lies w' e := by
  revert h
  induction e using ind with
  | num c => exact fun _ => trivial
  | bare => exact fun _ => trivial
  | odd e ih => exact fun h => ih h
  | fault b c a e ih =>
    intro h
    obtain ⟨h1, h2, h3⟩ := lies_fault h
    have hlt := lt_heap h1
    exact ⟨(hb.block b (by omega)).trans h1, h2, ih h3⟩
theorem cell_of {w : World} {b : Nat} {c a : Int} {e : Err} (h : lies w (fault b c a e)) :
    w.cell? ⟨b, 0, none⟩ = some (.int .i64 c) ∧ w.cell? ⟨b, 1, none⟩ = some (.int .i64 a) ∧ w.cell? ⟨b, 2, none⟩ = some (val e) := by
  obtain ⟨h1, _, _⟩ := lies_fault h
  refine ⟨?_, ?_, ?_⟩ <;> simp [World.cell?, h1]
theorem lt_of {w : World} {b : Nat} {c a : Int} {e : Err} (h : lies w (fault b c a e)) : b < w.heap.size := lt_heap (lies_fault h).1
end Err
end Go.Proofs.YtikogamonngbbaaDoor
