/-
  How a Writer and a Reader lie in memory, what bytes a slice holds, and what stays so when other memory turns.
-/
import Derived.Test.YtkgmjhchefkmaaaRows
import Derived.Test.YtkgmjhchefkmaaaNum
import Derived.WalkKit
import Derived.WalkSpells
import Derived.WalkLawsBesides
import Derived.Maps.AppendAt
import Derived.Laws.IdiomStrings
import Derived.Deep.QuietTactic
import Derived.BigQuiet
import Derived.Deep.RegionHeld3
import Derived.Deep.LoopGhost
namespace Go.Proofs.Ytkgmjhchefkmaaa
open Go.RowKit

/-- Bytes as cells. -/
def bys (l : List UInt8) : List Value := l.map fun b => Value.int .u8 (b.toNat : Int)
theorem bys_len (l : List UInt8) : (bys l).length = l.length := by simp [bys]
theorem bys_app (l m : List UInt8) : bys (l ++ m) = bys l ++ bys m := by simp [bys]
theorem bys_one (l : List UInt8) : ∀ u ∈ bys l, u.oneCell' = true := by
  intro u hu
  obtain ⟨b, _, rfl⟩ := List.mem_map.1 hu
  rfl
theorem bys_get (l : List UInt8) (j : Nat) (h : j < l.length) : (bys l)[j]? = some (.int .u8 ((l.getD j 0).toNat : Int)) := by
  simp [bys, List.getD, List.getElem?_eq_getElem h]
theorem addr_add (b o i : Nat) : (⟨b, o, none⟩ : Addr).add i = ⟨b, o + i, none⟩ := by unfold Addr.add; split <;> simp_all

/-- The slice v holds the bytes l. -/
structure Sl (w : World) (v : Value) (l : List UInt8) : Prop where
  shape : (∃ cap, v = .slice none 0 cap ∧ l = []) ∨ ∃ b o cap, v = .slice (some ⟨b, o, none⟩) l.length cap ∧ ∀ i, i < l.length → w.cell? ⟨b, o + i, none⟩ = some (.int .u8 ((l.getD i 0).toNat : Int))

theorem Sl.below {w w' : World} {v : Value} {l : List UInt8} (h : Sl w v l) (hb : Below w.heap.size w w') : Sl w' v l := by
  refine ⟨?_⟩
  rcases h.shape with h | ⟨b, o, cap, rfl, hc⟩
  · exact .inl h
  · refine .inr ⟨b, o, cap, rfl, fun i hi => ?_⟩
    rw [hb.cell (p := ⟨b, o + i, none⟩) (World.block_lt_of_cell? w _ (hc i hi))]
    exact hc i hi

theorem Sl.ofOwn {w : World} {B : Nat} {v : Value} {l : List UInt8} (h : w.ownsRow B 5 1 v l.length (bys l)) : Sl w v l := by
  refine ⟨?_⟩
  rcases h.2 with ⟨rfl, h0⟩ | ⟨g, cap, cur, rfl, _⟩
  · exact .inl ⟨0, rfl, List.eq_nil_of_length_eq_zero h0⟩
  · refine .inr ⟨g, 0, cap, rfl, fun i hi => ?_⟩
    rw [Nat.zero_add, h.cellAt i (by omega), bys_get l i hi]

/-- A Writer at block wb, all of whose memory lies from block B on; v: its slice. -/
structure Wr (B : Nat) (w : World) (wb : Nat) (v : Value) (l : List UInt8) : Prop where
  base : B ≤ wb
  cell : w.cell? ⟨wb, 0, none⟩ = some v
  fz : w.frozen? ⟨wb, 0, none⟩ = false
  own : w.ownsRow B 5 1 v l.length (bys l)
  ne : v.ownBlock ≠ some wb

/-- What is owned hangs on its own block alone. -/
theorem own_same {w w' : World} {B t n : Nat} {v : Value} {xs : List Value} (h : w.ownsRow B t 1 v n xs) (hs : ∀ k, v.ownBlock = some k → w'.heap[k]? = w.heap[k]?) : w'.ownsRow B t 1 v n xs := by
  refine ⟨h.1, ?_⟩
  rcases h.2 with hn | ⟨g, cap, cur, rfl, hb, hgg, rest⟩
  · exact .inl hn
  · exact .inr ⟨g, cap, cur, rfl, hb, by rw [hs g rfl]; exact hgg, rest⟩
theorem own_lower {w : World} {B B' t n : Nat} {v : Value} {xs : List Value} (h : w.ownsRow B t 1 v n xs) (hB : B' ≤ B) : w.ownsRow B' t 1 v n xs := by
  refine ⟨h.1, ?_⟩
  rcases h.2 with hn | ⟨g, cap, cur, rfl, hb, rest⟩
  · exact .inl hn
  · exact .inr ⟨g, cap, cur, rfl, by omega, rest⟩
theorem own_shape {w : World} {B t n : Nat} {v : Value} {xs : List Value} (h : w.ownsRow B t 1 v n xs) : ∃ ao cap, v = .slice ao n cap := by
  rcases h.2 with ⟨rfl, rfl⟩ | ⟨g, cap, cur, rfl, _⟩
  · exact ⟨none, 0, rfl⟩
  · exact ⟨_, cap, rfl⟩

theorem Wr.lt {B : Nat} {w : World} {wb : Nat} {v : Value} {l : List UInt8} (h : Wr B w wb v l) : wb < w.heap.size := World.block_lt_of_cell? w _ h.cell
theorem Wr.lo {B : Nat} {w : World} {wb : Nat} {v : Value} {l : List UInt8} (h : Wr B w wb v l) : B ≤ w.heap.size := Nat.le_of_lt (Nat.lt_of_le_of_lt h.base h.lt)
theorem Wr.same {B : Nat} {w w' : World} {wb : Nat} {v : Value} {l : List UInt8} (h : Wr B w wb v l) (h1 : w'.heap[wb]? = w.heap[wb]?) (h2 : ∀ k, v.ownBlock = some k → w'.heap[k]? = w.heap[k]?) : Wr B w' wb v l :=
  ⟨h.base, (World.cell?_of_block (a := ⟨wb, 0, none⟩) h1).trans h.cell, (World.frozen?_of_block (a := ⟨wb, 0, none⟩) h1).trans h.fz, own_same h.own h2, h.ne⟩
/-- All of it lies below block C. -/
def Wr.under (w : World) (wb : Nat) (v : Value) (C : Nat) : Prop := wb < C ∧ (∀ k, v.ownBlock = some k → k < C) ∧ C ≤ w.heap.size
theorem Wr.below {B C : Nat} {w w' : World} {wb : Nat} {v : Value} {l : List UInt8} (h : Wr B w wb v l) (hC : wb < C) (hk : ∀ k, v.ownBlock = some k → k < C) (hb : Below C w w') : Wr B w' wb v l :=
  h.same (hb.block wb hC) (fun k e => hb.block k (hk k e))
theorem Wr.past {B : Nat} {w w' : World} {wb : Nat} {v : Value} {l : List UInt8} (h : Wr B w wb v l) (hb : Below w.heap.size w w') : Wr B w' wb v l :=
  h.below h.lt (fun k e => (h.own.lt k e).2) hb
theorem Wr.lower {B B' : Nat} {w : World} {wb : Nat} {v : Value} {l : List UInt8} (h : Wr B w wb v l) (hB : B' ≤ B) : Wr B' w wb v l :=
  ⟨Nat.le_trans hB h.base, h.cell, h.fz, own_lower h.own hB, h.ne⟩

theorem grown_below {w w' : World} (h : Below w.heap.size w w') (row : Option Nat) : w.grownBy w' row := ⟨h.os, h.tape, h.output, h.size, fun k hk _ => h.block k hk⟩
theorem below_grown {B : Nat} {w w' : World} {row : Option Nat} (h : w.grownBy w' row) (hB : B ≤ w.heap.size) (hr : ∀ k, row = some k → B ≤ k) : Below B w w' :=
  (Below.refl B w).grown h hB hr

/-- What a step of a Writer leaves: of what was there only the Writer and its own row have turned. -/
structure Mv (w w' : World) (wb : Nat) (v v' : Value) : Prop where
  os : w'.os = w.os
  tape : w'.tape = w.tape
  output : w'.output = w.output
  size : w.heap.size ≤ w'.heap.size
  block : ∀ k, k < w.heap.size → k ≠ wb → v.ownBlock ≠ some k → w'.heap[k]? = w.heap[k]?
  own : v'.ownBlock = v.ownBlock ∨ ∃ k, w.heap.size ≤ k ∧ v'.ownBlock = some k
theorem Mv.past {w w' : World} (h : Below w.heap.size w w') (wb : Nat) (v : Value) : Mv w w' wb v v := ⟨h.os, h.tape, h.output, h.size, fun k hk _ _ => h.block k hk, .inl rfl⟩
theorem Mv.trans {w w1 w2 : World} {wb : Nat} {v v1 v2 : Value} (h : Mv w w1 wb v v1) (g : Mv w1 w2 wb v1 v2) : Mv w w2 wb v v2 := by
  refine ⟨g.os.trans h.os, g.tape.trans h.tape, g.output.trans h.output, Nat.le_trans h.size g.size, fun k hk h1 h2 => ?_, ?_⟩
  · refine (g.block k (Nat.lt_of_lt_of_le hk h.size) h1 ?_).trans (h.block k hk h1 h2)
    rcases h.own with e | ⟨j, hj, e⟩
    · rw [e]; exact h2
    · rw [e]; intro e'; have := Option.some.inj e'; omega
  · rcases g.own with e | ⟨j, hj, e⟩
    · rcases h.own with e' | ⟨i, hi, e'⟩
      · exact .inl (e.trans e')
      · exact .inr ⟨i, hi, e.trans e'⟩
    · exact .inr ⟨j, Nat.le_trans h.size hj, e⟩
theorem Mv.below {B : Nat} {w w' : World} {wb : Nat} {v v' : Value} {l : List UInt8} (h : Mv w w' wb v v') (hW : Wr B w wb v l) : Below B w w' :=
  ⟨h.os, h.tape, h.output, h.size, fun k hk => h.block k (Nat.lt_of_lt_of_le hk hW.lo) (by have := hW.base; omega) (fun e => by have := (hW.own.lt k e).1; omega)⟩
/-- A block that is neither the Writer nor its row. -/
theorem Mv.keep {w w' : World} {wb k : Nat} {v v' : Value} (h : Mv w w' wb v v') (hk : k < w.heap.size) (h1 : k ≠ wb) (h2 : v.ownBlock ≠ some k) : w'.heap[k]? = w.heap[k]? := h.block k hk h1 h2
theorem Mv.off {w w' : World} {wb k : Nat} {v v' : Value} (h : Mv w w' wb v v') (hk : k < w.heap.size) (h2 : v.ownBlock ≠ some k) : v'.ownBlock ≠ some k := by
  rcases h.own with e | ⟨j, hj, e⟩
  · rw [e]; exact h2
  · rw [e]; intro e'; have := Option.some.inj e'; omega

/-- One append, stored. -/
theorem Wr.put {B : Nat} {w w1 : World} {wb : Nat} {v v' : Value} {l nw : List UInt8} (h : Wr B w wb v l) (hown : w1.ownsRow B 5 1 v' (l.length + nw.length) (bys l ++ bys nw)) (hgrow : w.grownBy w1 v.ownBlock)
    (hat : v'.ownBlock = v.ownBlock ∨ v'.ownBlock = some w.heap.size) : Wr B (w1.setCell ⟨wb, 0, none⟩ v') wb v' (l ++ nw) ∧ Mv w (w1.setCell ⟨wb, 0, none⟩ v') wb v v' := by
  have hlt := h.lt
  have hb1 : w1.heap[wb]? = w.heap[wb]? := hgrow.block wb hlt (fun e => h.ne e.symm)
  have hc1 : w1.cell? ⟨wb, 0, none⟩ = some v := (World.cell?_of_block (a := ⟨wb, 0, none⟩) hb1).trans h.cell
  have hf1 : w1.frozen? ⟨wb, 0, none⟩ = false := (World.frozen?_of_block (a := ⟨wb, 0, none⟩) hb1).trans h.fz
  have hne : v'.ownBlock ≠ some wb := by
    rcases hat with e | e
    · rw [e]; exact h.ne
    · rw [e]; intro he; have := Option.some.inj he; omega
  have hs : w1.heap.size ≤ (w1.setCell ⟨wb, 0, none⟩ v').heap.size := ((Below.refl wb w1).setCell (p := ⟨wb, 0, none⟩) (Nat.le_refl _) v').size
  refine ⟨⟨h.base, ?_, ?_, ?_, hne⟩, ⟨hgrow.os, hgrow.tape, hgrow.output, Nat.le_trans hgrow.size hs, fun k hk h1 h2 => ?_, ?_⟩⟩
  · exact World.cell?_setCell_same w1 _ _ hc1
  · simpa using hf1
  · have : (w1.setCell ⟨wb, 0, none⟩ v').ownsRow B 5 1 v' (l.length + nw.length) (bys l ++ bys nw) := own_same hown (fun k e => Below.heap_setCell _ _ _ _ (fun e' => hne (by rw [e, e'])))
    simpa [bys_app] using this
  · exact (Below.heap_setCell w1 ⟨wb, 0, none⟩ v' k h1).trans (hgrow.block k hk (fun e => h2 e.symm))
  · rcases hat with e | e
    · exact .inl e
    · exact .inr ⟨_, Nat.le_refl _, e⟩

theorem Try.info5 : (Try.prog.info? 5).map (fun i => (i.zero, i.size, i.bytes)) = some (some (.int .u8 0), 1, 1) := by kernel_rfl
end Go.Proofs.Ytkgmjhchefkmaaa
