/-
  The Reader in memory; a new one; how it goes through a number; what is left; the place; an error; the end.
-/
import Derived.Test.YtkgmjhchefkmaaaRe2
namespace Go.Proofs.Ytkgmjhchefkmaaa
open Go.RowKit

/-- A Reader at block rb that stands at p of the bytes l; v: its slice. -/
structure Rd (w : World) (rb : Nat) (v : Value) (l : List UInt8) (p : Nat) : Prop where
  cell0 : w.cell? ⟨rb, 0, none⟩ = some v
  cell1 : w.cell? ⟨rb, 1, none⟩ = some (.int .i64 (p : Int))
  fz : w.frozen? ⟨rb, 1, none⟩ = false
  own : w.ownsRow 0 5 1 v l.length (bys l)
  ne : v.ownBlock ≠ some rb
  le : p ≤ l.length
  max : l.length ≤ 1099511627776

theorem Rd.lt {w : World} {rb : Nat} {v : Value} {l : List UInt8} {p : Nat} (h : Rd w rb v l p) : rb < w.heap.size := World.block_lt_of_cell? w _ h.cell0
theorem Rd.same {w w' : World} {rb : Nat} {v : Value} {l : List UInt8} {p : Nat} (h : Rd w rb v l p) (h1 : w'.heap[rb]? = w.heap[rb]?) (h2 : ∀ k, v.ownBlock = some k → w'.heap[k]? = w.heap[k]?) : Rd w' rb v l p :=
  ⟨(World.cell?_of_block (a := ⟨rb, 0, none⟩) h1).trans h.cell0, (World.cell?_of_block (a := ⟨rb, 1, none⟩) h1).trans h.cell1, (World.frozen?_of_block (a := ⟨rb, 1, none⟩) h1).trans h.fz, own_same h.own h2, h.ne, h.le, h.max⟩
theorem Rd.below {C : Nat} {w w' : World} {rb : Nat} {v : Value} {l : List UInt8} {p : Nat} (h : Rd w rb v l p) (hC : rb < C) (hk : ∀ k, v.ownBlock = some k → k < C) (hb : Below C w w') : Rd w' rb v l p :=
  h.same (hb.block rb hC) (fun k e => hb.block k (hk k e))
theorem Rd.past {w w' : World} {rb : Nat} {v : Value} {l : List UInt8} {p : Nat} (h : Rd w rb v l p) (hb : Below w.heap.size w w') : Rd w' rb v l p :=
  h.below h.lt (fun k e => (h.own.lt k e).2) hb
/-- It goes on. -/
theorem Rd.step {w : World} {rb : Nat} {v : Value} {l : List UInt8} {p q : Nat} (h : Rd w rb v l p) (hq : q ≤ l.length) : Rd (w.setCell ⟨rb, 1, none⟩ (.int .i64 (q : Int))) rb v l q ∧ w.grownBy (w.setCell ⟨rb, 1, none⟩ (.int .i64 (q : Int))) (some rb) := by
  refine ⟨⟨?_, World.cell?_setCell_same w _ _ h.cell1, by simpa using h.fz, own_same h.own (fun k e => Below.heap_setCell _ _ _ _ (fun e' => h.ne (by rw [e, e']))), h.ne, hq, h.max⟩, rfl, rfl, rfl, ?_, ?_⟩
  · exact (World.cell?_setCell_other (w := w) (a := ⟨rb, 1, none⟩) (b := ⟨rb, 0, none⟩) (v := .int .i64 (q : Int)) (by simp)).trans h.cell0
  · exact ((Below.refl rb w).setCell (p := ⟨rb, 1, none⟩) (Nat.le_refl _) _).size
  · intro k hk hne
    exact Below.heap_setCell _ _ _ _ (fun e => hne (by rw [e]))

set_option maxHeartbeats 1000000 in
theorem newReader_any (w : World) (v : Value) (l : List UInt8) (h : Sl w v l) (hn : ∀ cap, v = .slice none 0 cap → cap = 0) (hl : l.length ≤ 1099511627776) :
    Calls Try.prog 14 #[v] w fun ev w' => ∃ rb v', ev = .returned (.pointer (some ⟨rb, 0, none⟩)) ∧ Rd w' rb v' l 0 ∧ w.heap.size ≤ rb ∧ (∀ k, v'.ownBlock = some k → w.heap.size ≤ k) ∧ Below w.heap.size w w' := by
  have C := clone_any w v l h hn hl
  obtain ⟨ao, n, cap, rfl⟩ : ∃ ao n cap, v = .slice ao n cap := by
    rcases h.shape with ⟨cap, rfl, _⟩ | ⟨b, o, cap, rfl, _⟩
    · exact ⟨_, _, _, rfl⟩
    · exact ⟨_, _, _, rfl⟩
  clear h hn
  go_enter Try.func14, Try.ntmps14
  go_wp2_with fail
  refine C.mono ?_
  rintro ev w1 ⟨v', rfl, hown, hb⟩
  clear C
  obtain ⟨ao', cap', rfl⟩ := own_shape hown
  have hs := hb.size
  have hk := fun k e => (hown.lt k e)
  have A : Aside (w1.ownsRow w.heap.size 5 1 (.slice ao' l.length cap') l.length (bys l)) := hown
  clear hown
  go_wp2_with fail
  go_ret
  refine ⟨w1.heap.size, .slice ao' l.length cap', rfl, ⟨?_, ?_, ?_, own_lower (A.out.alloc _) (Nat.zero_le _), ?_, Nat.zero_le _, hl⟩, hs, fun k e => (hk k e).1, hb.alloc hs _⟩
  · simp
  · simp
  · simp
  · intro e; have := (hk _ e).2; omega

theorem below_drewN {B : Nat} {a w : World} (h : Below B a w) (n : Nat) : Below B a (w.drewN n) := ⟨h.os, h.tape, h.output, h.size, h.block⟩

/-- The bytes from a place on. -/
theorem sl_cut {w : World} {g cap p : Nat} {l : List UInt8} (h : ∀ i, i < l.length → w.cell? ⟨g, i, none⟩ = some (.int .u8 ((l.getD i 0).toNat : Int))) (hp : p ≤ l.length) (hc : l.length ≤ cap) :
    Sl w (.slice (if cap = p then some ⟨g, 0, none⟩ else some ⟨g, p, none⟩) (l.length - p) (cap - p)) (l.drop p) := by
  refine ⟨.inr ?_⟩
  by_cases e : cap = p
  · refine ⟨g, 0, cap - p, by rw [if_pos e, List.length_drop], fun i hi => ?_⟩
    rw [List.length_drop] at hi
    omega
  · refine ⟨g, p, cap - p, by rw [if_neg e, List.length_drop], fun i hi => ?_⟩
    rw [List.length_drop] at hi
    rw [h (p + i) (by omega)]
    simp [List.getD, List.getElem?_drop]

/-- What is left, as a slice. -/
theorem left_any (w : World) (rb : Nat) (v : Value) (l : List UInt8) (p : Nat) (h : Rd w rb v l p) :
    Calls Try.prog 45 #[.pointer (some ⟨rb, 0, none⟩)] w fun ev w' => ∃ v', ev = .returned v' ∧ Sl w' v' (l.drop p) ∧ Below w.heap.size w w' := by
  have c0 := h.cell0
  have c1 := h.cell1
  have hle := h.le
  have hmax := h.max
  rcases h.own.2 with ⟨rfl, hn⟩ | ⟨g, cap, cur, rfl, _, hg, hnc, hcm, hcs, ht⟩
  · obtain rfl : p = 0 := by omega
    have hl0 := List.eq_nil_of_length_eq_zero hn
    subst hl0
    clear h
    go_enter Try.func45, Try.ntmps45
    go_wp2_with fail
    go_quiet (fail)
    go_wp2_with fail
    go_ret
    exact ⟨_, rfl, ⟨.inl ⟨0, rfl, rfl⟩⟩, below_drewN (Below.refl _ _) _⟩
  · have HS : Hid (∀ n, Sl (w.drewN n) (.slice (if cap = p then some ⟨g, 0, none⟩ else some ⟨g, p, none⟩) (l.length - p) (cap - p)) (l.drop p)) := fun n =>
      sl_cut (fun i hi => by rw [World.cell?_drewN, h.own.cellAt i (by omega), bys_get l i hi]) hle hnc
    unfold maxLen at hcm
    clear h
    by_cases e : cap = p
    · have HT : Hid (∀ n, Sl (w.drewN n) (.slice (some ⟨g, 0, none⟩) (l.length - p) 0) (l.drop p)) := fun n => by have := HS.out n; rw [if_pos e] at this; simpa [e] using this
      go_enter Try.func45, Try.ntmps45
      go_wp2_with fail
      go_quiet (fail)
      go_wp2_with fail
      go_ret
      exact ⟨_, rfl, HT.out _, below_drewN (Below.refl _ _) _⟩
    · have HT : Hid (∀ n, Sl (w.drewN n) (.slice (some ⟨g, p, none⟩) (l.length - p) (cap - p)) (l.drop p)) := fun n => by have := HS.out n; rw [if_neg e] at this; exact this
      go_enter Try.func45, Try.ntmps45
      go_wp2_with fail
      go_quiet (fail)
      go_wp2_with fail
      go_ret
      exact ⟨_, rfl, HT.out _, below_drewN (Below.refl _ _) _⟩

theorem at_any (w : World) (rb : Nat) (v : Value) (l : List UInt8) (p : Nat) (h : Rd w rb v l p) :
    Calls Try.prog 24 #[.pointer (some ⟨rb, 0, none⟩)] w fun ev w' => ev = .returned (.int .i64 (p : Int)) ∧ w' = w := by
  have c1 := h.cell1
  clear h
  go_enter Try.func24, Try.ntmps24
  go_wp2_with fail
  go_ret
  exact ⟨rfl, rfl⟩

/-- An error of one link, with its number and its place. -/
structure Er (w : World) (e : Value) (code : Nat) (pl : Nat) : Prop where
  shape : ∃ b, e = .iface 89 (.pointer (some ⟨b, 0, none⟩)) ∧ w.cell? ⟨b, 0, none⟩ = some (.int .i64 (code : Int)) ∧ w.cell? ⟨b, 1, none⟩ = some (.int .i64 (pl : Int)) ∧ w.cell? ⟨b, 2, none⟩ = some (.iface 83 (.int .i64 (code : Int)))
theorem Er.below {w w' : World} {e : Value} {code pl : Nat} (h : Er w e code pl) (hb : Below w.heap.size w w') : Er w' e code pl := by
  obtain ⟨b, he, h0, h1, h2⟩ := h.shape
  have hlt := World.block_lt_of_cell? w _ h0
  exact ⟨b, he, (hb.cell (p := ⟨b, 0, none⟩) hlt).trans h0, (hb.cell (p := ⟨b, 1, none⟩) hlt).trans h1, (hb.cell (p := ⟨b, 2, none⟩) hlt).trans h2⟩

set_option maxHeartbeats 1000000 in
theorem new_any (w : World) (code pl : Nat) (hc : code ≠ 0) :
    Calls Try.prog 51 #[.int .i64 (code : Int), .int .i64 (pl : Int)] w fun ev w' => ∃ e, ev = .returned e ∧ Er w' e code pl ∧ Below w.heap.size w w' := by
  go_enter Try.func51, Try.ntmps51
  go_wp2_with fail
  go_ret
  refine ⟨_, rfl, ⟨w.heap.size, rfl, ?_, ?_, ?_⟩, (Below.refl _ _).alloc (Nat.le_refl _) _⟩
  · simp
  · simp
  · simp

set_option maxHeartbeats 1000000 in
theorem refuse_any (w : World) (rb : Nat) (v : Value) (l : List UInt8) (p code : Nat) (h : Rd w rb v l p) (hc : code ≠ 0) :
    Calls Try.prog 46 #[.pointer (some ⟨rb, 0, none⟩), .int .i64 (code : Int)] w fun ev w' => ∃ e, ev = .returned e ∧ Er w' e code p ∧ Below w.heap.size w w' := by
  have C := at_any w rb v l p h
  have D := new_any w code p hc
  clear h
  go_enter Try.func46, Try.ntmps46
  go_wp2_with fail
  refine C.mono ?_
  rintro ev w1 ⟨rfl, rfl⟩
  go_wp2_with fail
  refine D.mono ?_
  rintro ev w2 ⟨e, rfl, hE, hb⟩
  obtain ⟨b, rfl, h0, h1, h2⟩ := hE.shape
  go_wp2_with fail
  go_ret
  exact ⟨_, rfl, hE, hb⟩

set_option maxHeartbeats 1000000 in
theorem end_any (w : World) (rb : Nat) (v : Value) (l : List UInt8) (p : Nat) (h : Rd w rb v l p) :
    Calls Try.prog 18 #[.pointer (some ⟨rb, 0, none⟩)] w fun ev w' => ∃ e, ev = .returned e ∧ (if p < l.length then Er w' e 4 p else e = .nilIface) ∧ Below w.heap.size w w' := by
  have C := left_any w rb v l p h
  have HD : Hid (∀ w1, Below w.heap.size w w1 → Calls Try.prog 46 #[.pointer (some ⟨rb, 0, none⟩), .int .i64 4] w1 fun ev w' => ∃ e, ev = .returned e ∧ Er w' e 4 p ∧ Below w1.heap.size w1 w') := fun w1 hb => refuse_any w1 rb v l p 4 (h.past hb) (by decide)
  have hle := h.le
  have hmax := h.max
  clear h
  go_enter Try.func18, Try.ntmps18
  go_wp2_with fail
  refine C.mono ?_
  rintro ev w1 ⟨v', rfl, hS, hb⟩
  have D := HD.out w1 hb
  clear HD C
  obtain ⟨ao, cap, rfl⟩ : ∃ ao cap, v' = .slice ao (l.length - p) cap := by
    rcases hS.shape with ⟨cap, rfl, h0⟩ | ⟨b, o, cap, rfl, _⟩
    · have := congrArg List.length h0
      rw [List.length_drop, List.length_nil] at this
      exact ⟨none, cap, by rw [this]⟩
    · exact ⟨_, cap, by rw [List.length_drop]⟩
  by_cases hlt : p < l.length
  · go_wp2_with fail
    refine D.mono ?_
    rintro ev w2 ⟨e, rfl, hE, hb2⟩
    obtain ⟨b, rfl, -⟩ := hE.shape
    go_wp2_with fail
    go_ret
    exact ⟨_, rfl, hE, hb.trans (hb2.mono hb.size)⟩
  · go_wp2_with fail
    go_ret
    exact ⟨_, rfl, rfl, hb⟩
end Go.Proofs.Ytkgmjhchefkmaaa
