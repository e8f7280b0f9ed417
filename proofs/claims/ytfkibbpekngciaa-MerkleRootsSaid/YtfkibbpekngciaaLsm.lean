/-
  A list of bytes in memory, and its parts.
-/
import Derived.Test.YtfkibbpekngciaaStr
import Derived.Test.YtfkibbpekngciaaMat
namespace Go.Proofs.Ytfkibbpekngciaa
open Go.RowKit

/-- The slice v holds slices that hold these bytes. -/
structure Ls (w : World) (v : Value) (L : List Bys) : Prop where
  shape : (∃ ao cap, v = .slice ao 0 cap ∧ L = []) ∨ ∃ b off cap, ∃ fv : Nat → Value, v = .slice (some ⟨b, off, none⟩) L.length cap ∧ L.length ≤ cap ∧ ∀ i, i < L.length → w.cell? ⟨b, off + i, none⟩ = some (fv i) ∧ Sl w (fv i) (L.getD i [])
theorem Ls.below {w w' : World} {v : Value} {L : List Bys} (h : Ls w v L) (hb : Below w.heap.size w w') : Ls w' v L := by
  refine ⟨?_⟩
  rcases h.shape with h | ⟨b, off, cap, fv, rfl, hcap, hc⟩
  · exact .inl h
  · refine .inr ⟨b, off, cap, fv, rfl, hcap, fun i hi => ⟨?_, (hc i hi).2.below hb⟩⟩
    rw [hb.cell (p := ⟨b, off + i, none⟩) (World.block_lt_of_cell? w _ (hc i hi).1)]
    exact (hc i hi).1
theorem Ls.slice {w : World} {v : Value} {L : List Bys} (h : Ls w v L) : ∃ ao cp, v = .slice ao L.length cp := by
  rcases h.shape with ⟨_, _, rfl, rfl⟩ | ⟨b, off, cap, fv, rfl, _⟩
  · exact ⟨_, _, rfl⟩
  · exact ⟨_, _, rfl⟩
theorem Ls.some_ {w : World} {v : Value} {L : List Bys} (h : Ls w v L) (h0 : 0 < L.length) : ∃ b off cap, ∃ fv : Nat → Value, v = .slice (some ⟨b, off, none⟩) L.length cap ∧ L.length ≤ cap ∧ ∀ i, i < L.length → w.cell? ⟨b, off + i, none⟩ = some (fv i) ∧ Sl w (fv i) (L.getD i []) := by
  rcases h.shape with ⟨_, _, rfl, rfl⟩ | h
  · simp at h0
  · exact h
theorem Ls.part {w : World} {b off cap : Nat} {L : List Bys} (h : Ls w (.slice (some ⟨b, off, none⟩) L.length cap) L) (i j : Nat) (hij : i < j) (hj : j ≤ L.length) (cap' : Nat) (hc' : j - i ≤ cap') : Ls w (.slice (some ⟨b, off + i, none⟩) (j - i) cap') (seg L i j) := by
  have hl := seg_len L i j hj
  obtain ⟨b', off', cap2, fv, e, _, hc⟩ := h.some_ (by omega)
  cases e
  refine ⟨.inr ⟨b, off + i, cap', fun k => fv (i + k), by rw [hl], by omega, fun k hk => ?_⟩⟩
  have := hc (i + k) (by omega)
  rw [seg_get L i j k (by omega), Nat.add_assoc]
  exact this
theorem seg_head {α : Type} (l : List α) (k : Nat) : seg l 0 k = l.take k := by simp [seg]
theorem seg_tail {α : Type} (l : List α) (k : Nat) : seg l k l.length = l.drop k := by
  unfold seg
  exact List.take_of_length_le (by simp)
end Go.Proofs.Ytfkibbpekngciaa
