/-
  The document's own Sum: pieces of its code, and the words of a block as it packs them.
-/
import Derived.Test.YtfkibbpekngciaaQPrSum
namespace Go.Proofs.Ytfkibbpekngciaa
open Go.RowKit

/-- The block of that number, out of a function's code. -/
def blockAt (n : Nat) : Code → Option Code
  | .block m c => if m = n then some (.block m c) else blockAt n c
  | .seq a b => match blockAt n a with
    | some c => some c
    | none => blockAt n b
  | .loop c => blockAt n c
  | .cond _ a b => match blockAt n a with
    | some c => some c
    | none => blockAt n b
  | _ => none

/-- What lies in a block. -/
def inner : Code → Code
  | .block _ c => c
  | c => c
/-- A loop that ends by its block's exit alone. -/
theorem in_mono {n : Nat} {K : Act → World → Prop} {Q : Exit → Act → World → Prop} (h : ∀ a w, K a w → Q .normal a w) : ∀ e a w, Exit.inBlock n (Exit.then K (fun _ _ _ => False)) e a w → Exit.inBlock n Q e a w := by
  intro e a w he
  cases e with
  | normal => exact h a w he
  | exit m =>
    by_cases hm : m = n
    · subst hm
      have e1 : Exit.inBlock m (Exit.then K (fun _ _ _ => False)) (.exit m) a w = K a w := by simp [Exit.inBlock, Exit.then]
      have e2 : Exit.inBlock m Q (.exit m) a w = Q .normal a w := by simp [Exit.inBlock]
      rw [e1] at he
      rw [e2]
      exact h a w he
    · have e1 : Exit.inBlock n (Exit.then K (fun _ _ _ => False)) (.exit m) a w = False := by simp [Exit.inBlock, Exit.then, hm]
      rw [e1] at he
      exact he.elim
  | _ => exact he.elim
theorem take_in {P : Program} {ops : Array Oper} {Q : Exit → Act → World → Prop} {md : Region.Mode} {S : World → Prop} (i : Nat) {oi : Oper} {v : Value} {fuel : Nat} {listed : Array Bool} {a : Act} {w : World} (hi : ops[i]? = some oi) (d : Option Tmp) (hd : oi.dst = d)
    (hs : Region.noSelect ops = true) (hf : Region.free md ops listed i = true) (hr : (Region.ready md ops listed).contains i = true)
    (hQ : ∀ c a w, Q (.panic c) (a.put d v) w → Q (.panic c) a w) (hy : YieldsIf P ops S oi v a) (hS : S w)
    (h : wpAnyH P md ops Q S fuel (listed.setIfInBounds i true) (a.put d v) w) : wpAnyH P md ops Q S (fuel + 1) listed a w := by
  subst hd
  exact wpAnyH_take hi hs hf hr hQ hy hS h

/-- Nothing has turned but one block. -/
structure Only (g : Nat) (w w' : World) : Prop where
  os : w'.os = w.os
  tape : w'.tape = w.tape
  output : w'.output = w.output
  size : w'.heap.size = w.heap.size
  block : ∀ k, k ≠ g → w'.heap[k]? = w.heap[k]?
theorem Only.refl (g : Nat) (w : World) : Only g w w := ⟨rfl, rfl, rfl, rfl, fun _ _ => rfl⟩
theorem Only.drew {g : Nat} {w w' : World} (h : Only g w w') : Only g w w'.drew := ⟨h.os, h.tape, h.output, h.size, h.block⟩
theorem Only.drewN {g : Nat} {w w' : World} (h : Only g w w') (n : Nat) : Only g w (w'.drewN n) := ⟨h.os, h.tape, h.output, h.size, h.block⟩
theorem Only.set {g j : Nat} {w w' : World} (h : Only g w w') (v : Value) : Only g w (w'.setCell ⟨g, j, none⟩ v) := by
  have hb : Below g w' (w'.setCell ⟨g, j, none⟩ v) := (Below.refl g w').setCell (p := ⟨g, j, none⟩) (Nat.le_refl _) v
  refine ⟨hb.os.trans h.os, hb.tape.trans h.tape, hb.output.trans h.output, ?_, fun k hk => ?_⟩
  · rw [World.size_setCell]; exact h.size
  · rw [heap_setCell_other w' ⟨g, j, none⟩ k v hk]; exact h.block k hk
theorem Only.trans {g : Nat} {w w1 w2 : World} (h : Only g w w1) (k : Only g w1 w2) : Only g w w2 :=
  ⟨k.os.trans h.os, k.tape.trans h.tape, k.output.trans h.output, k.size.trans h.size, fun j hj => (k.block j hj).trans (h.block j hj)⟩
theorem Only.row {g g' t : Nat} {w w' : World} {L : List Value} (h : Only g w w') (hr : Row w g' t L) (hne : g' ≠ g) : Row w' g' t L := ⟨by rw [h.block g' hne]; exact hr.heap⟩
theorem Only.below {g B : Nat} {w w' : World} (h : Only g w w') (hB : B ≤ g) : Below B w w' := ⟨h.os, h.tape, h.output, Nat.le_of_eq h.size.symm, fun k hk => h.block k (by omega)⟩
theorem Only.cell {g b o : Nat} {w w' : World} (h : Only g w w') (hne : b ≠ g) : w'.cell? ⟨b, o, none⟩ = w.cell? ⟨b, o, none⟩ := World.cell?_of_block (a := ⟨b, o, none⟩) (h.block b hne)

/-- So many bytes, one behind the other, in a word. -/
def pk (L : List UInt8) (o : Nat) : Nat → Int
  | 0 => 0
  | j + 1 => bits .or .u32 (pk L o j * 256 % 4294967296) ((L.getD (o + j) 0).toNat : Int)
end Go.Proofs.Ytfkibbpekngciaa
