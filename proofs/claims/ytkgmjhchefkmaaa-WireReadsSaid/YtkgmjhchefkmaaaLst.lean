/-
  The statements' lists of things: how they lie in memory, and the bytes of all up to one.
-/
import Derived.Test.YtkgmjhchefkmaaaSho
namespace Go.Proofs.Ytkgmjhchefkmaaa
open Go.RowKit

/-- The slice v holds n things, f 0, f 1 and so on. -/
structure Ops (w : World) (v : Value) (n : Nat) (f : Nat → Opv) : Prop where
  ok : ∀ i, i < n → (f i).ok ∧ (f i).s.size ≤ 9223372036854775807
  max : n ≤ 9223372036854775807
  shape : (∃ ao cap, v = .slice ao n cap ∧ n = 0) ∨ ∃ b off cap, v = .slice (some ⟨b, off, none⟩) n cap ∧ ∀ i, i < n → w.rangeAt b (off + i * 38) (f i).cells
theorem Ops.below {w w' : World} {v : Value} {n : Nat} {f : Nat → Opv} (h : Ops w v n f) (hb : Below w.heap.size w w') : Ops w' v n f := by
  refine ⟨h.ok, h.max, ?_⟩
  rcases h.shape with h | ⟨b, off, cap, rfl, hc⟩
  · exact .inl h
  · refine .inr ⟨b, off, cap, rfl, fun i hi j u hj => ?_⟩
    have := hc i hi j u hj
    rw [hb.cell (p := ⟨b, off + i * 38 + j, none⟩) (World.block_lt_of_cell? w _ this)]
    exact this

/-- The bytes of the first k things. -/
def msgs (f : Nat → Opv) : Nat → List UInt8
  | 0 => []
  | k + 1 => msgs f k ++ (f k).msg
theorem msgs_le (f : Nat → Opv) (k : Nat) (h : ∀ i, i < k → (f i).ok ∧ (f i).s.size ≤ 500) : (msgs f k).length ≤ k * 542 := by
  induction k with
  | zero => simp [msgs]
  | succ k ih =>
    have h1 := ih (fun i hi => h i (by omega))
    have h2 := (f k).msg_le (h k (by omega)).1 (by have := (h k (by omega)).2; omega)
    have h3 := (h k (by omega)).2
    simp only [msgs, List.length_append]
    omega

/-- Where the loops of the statements that write stand. -/
structure WRel (w : World) (B wb : Nat) (f : Nat → Opv) (k : Nat) (wr : World) : Prop where
  few : ∀ i, i < k → (f i).s.size ≤ 500
  has : ∃ v, Wr B wr wb v (msgs f k)
  below : Below B w wr

theorem at_field (w : World) (b o : Nat) (x : Opv) (h : w.rangeAt b o x.cells) (j : Nat) (u : Value) (hj : x.cells[j]? = some u) : w.cell? ⟨b, o + j, none⟩ = some u := h j u hj
theorem Try.sz29' (o : Opv) (ho : o.ok) : (Try.prog.info? 29).map (·.size) = some o.cells.length := by
  have : o.cells.length = 38 := by simp [Opv.cells, bys_len, ho.h32]
  rw [this]; exact Try.sz29
end Go.Proofs.Ytkgmjhchefkmaaa
