/-
  The statements' own step 'read': one thing, by the program and by the document: they are alike.
-/
import Derived.Test.YtkgmjhchefkmaaaRfh
import Derived.Test.YtkgmjhchefkmaaaWbk
namespace Go.Proofs.Ytkgmjhchefkmaaa
open Go.RowKit

/-- What both have left behind when they have read one thing. -/
structure Both (B : Nat) (w w2 : World) (rb : Nat) (v : Value) (l : List UInt8) (p q c xb : Nat) (e : Value) : Prop where
  rd : Rd w2 rb v l q
  rf : Rf w2 xb l q c (if c = 0 then 0 else p)
  err : (c = 0 ∧ (if c = 0 then 0 else p) = 0 ∧ e = .nilIface) ∨ Er w2 e c (if c = 0 then 0 else p)
  below : Below B w w2

theorem Er.grown {w w' : World} {e : Value} {code pl xb p c a : Nat} {l : List UInt8} (h : Er w e code pl) (hx : Rf w xb l p c a) (hg : w.grownBy w' (some xb)) : Er w' e code pl := by
  obtain ⟨b, he, h0, h1, h2⟩ := h.shape
  have hlt := World.block_lt_of_cell? w _ h0
  have hne : b ≠ xb := by
    rintro rfl
    rw [hx.c2] at h2
    cases h2
  have hb := hg.block b hlt (by intro e; cases e; exact hne rfl)
  exact ⟨b, he, (World.cell?_of_block (a := ⟨b, 0, none⟩) hb).trans h0, (World.cell?_of_block (a := ⟨b, 1, none⟩) hb).trans h1, (World.cell?_of_block (a := ⟨b, 2, none⟩) hb).trans h2⟩

theorem both_make {B : Nat} {w w0 w1 w1' w2 : World} {rb p q c xb : Nat} {v e : Value} {l : List UInt8} (hne : xb ≠ rb) (hv : v.ownBlock ≠ some xb) (hB : B ≤ rb) (hB' : B ≤ xb) (hx0 : Rf w0 xb l p 0 0) (hb0 : Below B w w0)
    (hO : Out w0 w1 rb v l p q c e) (hb1 : Below w1.heap.size w1 w1') (hx : Ox w1' w2 xb l p q c) : Both B w w2 rb v l p q c xb e := by
  have hx1 : Rf w1 xb l p 0 0 := hx0.same (hO.grown.block xb hx0.lt (by intro e; cases e; exact hne rfl))
  have hx1' := hx1.past hb1
  have hrd : Rd w1' rb v l q := hO.rd.past hb1
  have hB0 : B ≤ w0.heap.size := Nat.le_of_lt (Nat.lt_of_le_of_lt hB' hx0.lt)
  have h01 : Below B w0 w1 := below_grown hO.grown hB0 (fun k e => by cases e; exact hB)
  have h11 : Below B w1 w1' := hb1.mono (Nat.le_trans hB0 h01.size)
  have h12 : Below B w1' w2 := below_grown hx.grown (Nat.le_trans (Nat.le_trans hB0 h01.size) h11.size) (fun k e => by cases e; exact hB')
  refine ⟨hrd.same (hx.grown.block rb hrd.lt (by intro e; cases e; exact hne rfl)) (fun k e => hx.grown.block k (hrd.own.lt k e).2 (by intro e'; cases e'; exact hv e)), hx.rf, ?_, ((hb0.trans h01).trans h11).trans h12⟩
  rcases hO.err with ⟨hc, he⟩ | ⟨hc, hE⟩
  · exact .inl ⟨hc, by rw [if_pos hc], he⟩
  · right
    rw [if_neg hc]
    exact (hE.below hb1).grown hx1' hx.grown

/-- Behind both readings: nothing that was there has turned, and the document's Reader stands so. -/
def Stays (w2 : World) (xb q c a : Nat) (y : World) : Prop := Below w2.heap.size w2 y ∧ y.cell? ⟨xb, 1, none⟩ = some (.int .i64 (q : Int)) ∧ y.cell? ⟨xb, 2, none⟩ = some (.int .i64 (c : Int)) ∧ y.cell? ⟨xb, 3, none⟩ = some (.int .i64 (a : Int))
/-- What the statement's answer of a reading asks. -/
structure Asks (w2 : World) (rb xb q c a : Nat) (e : Value) : Prop where
  is_ : ∀ y, (Below w2.heap.size w2 y ∧ y.cell? ⟨xb, 1, none⟩ = some (.int .i64 (q : Int)) ∧ y.cell? ⟨xb, 2, none⟩ = some (.int .i64 (c : Int)) ∧ y.cell? ⟨xb, 3, none⟩ = some (.int .i64 (a : Int))) → Calls Try.prog 17 #[e, .int .i64 (c : Int), .int .i64 (a : Int)] y fun ev y' => ev = .returned (.bool true) ∧ Stays w2 xb q c a y'
  at_ : ∀ y, (Below w2.heap.size w2 y ∧ y.cell? ⟨xb, 1, none⟩ = some (.int .i64 (q : Int)) ∧ y.cell? ⟨xb, 2, none⟩ = some (.int .i64 (c : Int)) ∧ y.cell? ⟨xb, 3, none⟩ = some (.int .i64 (a : Int))) → Calls Try.prog 24 #[.pointer (some ⟨rb, 0, none⟩)] y fun ev y' => ev = .returned (.int .i64 (q : Int)) ∧ y' = y
  start : Stays w2 xb q c a w2.drew

theorem Both.asks {B : Nat} {w w2 : World} {rb p q c xb : Nat} {v e : Value} {l : List UInt8} (h : Both B w w2 rb v l p q c xb e) : Asks w2 rb xb q c (if c = 0 then 0 else p) e := by
  have hK : ∀ y, Below w2.heap.size w2 y → Stays w2 xb q c (if c = 0 then 0 else p) y := fun y hy => ⟨hy, (h.rf.past hy).c1, (h.rf.past hy).c2, (h.rf.past hy).c3⟩
  refine ⟨fun y hy => ?_, fun y hy => at_any y rb v l q (h.rd.past hy.1), hK _ (Below.refl _ _).drew⟩
  refine (is_any y e c (if c = 0 then 0 else p) c (if c = 0 then 0 else p : Nat) ?_ rfl rfl).mono ?_
  · rcases h.err with h1 | h1
    · exact .inl h1
    · exact .inr (h1.below hy.1)
  · rintro ev y' ⟨rfl, hb⟩
    exact ⟨rfl, hK y' (hy.1.trans (hb.mono hy.1.size))⟩

/-- What is left to the statement behind one reading. -/
structure Next (B : Nat) (w w' : World) (rb : Nat) (v : Value) (l : List UInt8) (xb : Nat) : Prop where
  both : ∃ q c a, Rd w' rb v l q ∧ Rf w' xb l q c a
  below : Below B w w'
theorem Both.next {B : Nat} {w w2 y : World} {rb p q c xb : Nat} {v e : Value} {l : List UInt8} (h : Both B w w2 rb v l p q c xb e) (hB' : B ≤ xb) (hy : Below w2.heap.size w2 y) : Next B w y rb v l xb :=
  ⟨⟨q, c, _, h.rd.past hy, h.rf.past hy⟩, h.below.trans (hy.mono (Nat.le_of_lt (Nat.lt_of_le_of_lt hB' h.rf.lt)))⟩

/-- The world when the document's Reader has been set back and the thing lies in its box. -/
def back0 (w : World) (xb : Nat) (C : List Value) : World := ((w.setCell ⟨xb, 2, none⟩ (.int .i64 0)).setCell ⟨xb, 3, none⟩ (.int .i64 0)).alloc (.cells C.toArray 29)
theorem back0_pre {B : Nat} {w : World} {rb p xb c a : Nat} {v : Value} {l : List UInt8} (C : List Value) (h : Rd w rb v l p) (hx : Rf w xb l p c a) (hne : xb ≠ rb) (hv : v.ownBlock ≠ some xb) (hB' : B ≤ xb) :
    Rd (back0 w xb C) rb v l p ∧ Rf (back0 w xb C) xb l p 0 0 ∧ Below B w (back0 w xb C) ∧ (back0 w xb C).heap[w.heap.size]? = some (.cells C.toArray 29 (0, 0)) ∧ (back0 w xb C).heap.size = w.heap.size + 1 := by
  have h1 : Rf ((w.setCell ⟨xb, 2, none⟩ (.int .i64 0)).setCell ⟨xb, 3, none⟩ (.int .i64 0)) xb l p 0 0 := (hx.atC 0).atA 0
  have hsz : ((w.setCell ⟨xb, 2, none⟩ (.int .i64 0)).setCell ⟨xb, 3, none⟩ (.int .i64 0)).heap.size = w.heap.size := by simp
  have hg : w.grownBy ((w.setCell ⟨xb, 2, none⟩ (.int .i64 0)).setCell ⟨xb, 3, none⟩ (.int .i64 0)) (some xb) := (grown_set w xb 2 _).trans (grown_set _ xb 3 _)
  have hA : Below ((w.setCell ⟨xb, 2, none⟩ (.int .i64 0)).setCell ⟨xb, 3, none⟩ (.int .i64 0)).heap.size ((w.setCell ⟨xb, 2, none⟩ (.int .i64 0)).setCell ⟨xb, 3, none⟩ (.int .i64 0)) (back0 w xb C) := (Below.refl _ _).alloc (Nat.le_refl _) _
  have hR : Rd ((w.setCell ⟨xb, 2, none⟩ (.int .i64 0)).setCell ⟨xb, 3, none⟩ (.int .i64 0)) rb v l p := h.same (hg.block rb h.lt (by intro e; cases e; exact hne rfl)) (fun k e => hg.block k (h.own.lt k e).2 (by intro e'; cases e'; exact hv e))
  have hBw : B ≤ w.heap.size := Nat.le_of_lt (Nat.lt_of_le_of_lt hB' hx.lt)
  refine ⟨hR.past hA, h1.past hA, (below_grown hg hBw (fun k e => by cases e; exact hB')).trans (hA.mono (by omega)), ?_, ?_⟩
  · have := heap_alloc_new ((w.setCell ⟨xb, 2, none⟩ (.int .i64 0)).setCell ⟨xb, 3, none⟩ (.int .i64 0)) (.cells C.toArray 29)
    rw [hsz] at this
    exact this
  · show (((w.setCell ⟨xb, 2, none⟩ (.int .i64 0)).setCell ⟨xb, 3, none⟩ (.int .i64 0)).alloc (.cells C.toArray 29)).heap.size = _
    simp

theorem both_rf {w0 w1 w1' : World} {rb p q c xb : Nat} {v e : Value} {l : List UInt8} (hne : xb ≠ rb) (hx0 : Rf w0 xb l p 0 0) (hO : Out w0 w1 rb v l p q c e) (hb1 : Below w1.heap.size w1 w1') : Rf w1' xb l p 0 0 :=
  (hx0.same (hO.grown.block xb hx0.lt (by intro e; cases e; exact hne rfl))).past hb1

attribute [local go_sem ↓] Go.wp_at_zero Go.wp_at_succ
set_option maxHeartbeats 4000000 in
set_option maxRecDepth 20000 in
theorem read_uint (B : Nat) (w : World) (rb : Nat) (v : Value) (l : List UInt8) (p xb c a : Nat) (o : Opv) (hk : o.sort = 0) (h : Rd w rb v l p) (hx : Rf w xb l p c a) (hne : xb ≠ rb) (hv : v.ownBlock ≠ some xb) (hB : B ≤ rb) (hB' : B ≤ xb) :
    Calls Try.prog 15 #[.pointer (some ⟨rb, 0, none⟩), .pointer (some ⟨xb, 0, none⟩), .agg o.cells.toArray] w fun ev w' => ev = .returned (.bool true) ∧ Next B w w' rb v l xb := by
  obtain ⟨t, e1, e2, e3, e4⟩ := o.rem
  have k5 : (t + 6) % 6 = 0 := by omega
  have k0 : o.cells[0]? = some (.int .i64 o.kind) := rfl
  have c2 := hx.c2
  have c3 := hx.c3
  have f2 := hx.fz 2
  have f3 := hx.fz 3
  have hxl := hx.lt
  have hrl := h.lt
  generalize o.cells = C at *
  obtain ⟨hR0, hX0, hB0, hG0, hz0⟩ := back0_pre (B := B) C h hx hne hv hB'
  have C1 := rUint_any _ rb v l p hR0
  have HX : Hid (∀ w1 e, Out (back0 w xb C) w1 rb v l p (p + (scan 0 0 (l.drop p)).2.1) (scan 0 0 (l.drop p)).2.2 e → Calls Try.prog 37 #[.pointer (some ⟨xb, 0, none⟩)] w1 fun ev w2 => ev = .returned (.int .u64 ((scan 0 0 (l.drop p)).1 : Int)) ∧ Both B w w2 rb v l p (p + (scan 0 0 (l.drop p)).2.1) (scan 0 0 (l.drop p)).2.2 xb e) := fun w1 e hO => by
    refine (xUint_any w1 xb l p (both_rf hne hX0 hO (Below.refl _ _))).mono ?_
    rintro ev w2 ⟨rfl, hx2⟩
    exact ⟨rfl, both_make hne hv hB hB' hX0 hB0 hO (Below.refl _ _) hx2⟩
  generalize (p + (scan 0 0 (l.drop p)).2.1) = q at *
  generalize (scan 0 0 (l.drop p)).1 = V at *
  generalize (scan 0 0 (l.drop p)).2.2 = c' at *
  clear h hx hR0 hX0 hB0 hk e4 hv hne hG0 hz0 hrl
  go_enter Try.func15, Try.ntmps15
  go_wp2_with fail
  refine C1.mono ?_
  rintro ev w1 ⟨e, rfl, hO⟩
  have D := HX.out w1 e hO
  clear C1 HX hO c2 c3 f2 f3 k0
  go_wp2_with fail
  refine D.mono ?_
  rintro ev w2 ⟨rfl, hBo⟩
  clear D
  obtain ⟨a', hAsk⟩ : ∃ a' : Nat, Asks w2 rb xb q c' a' e := ⟨_, hBo.asks⟩
  have HI : Hid _ := hAsk.is_
  have HT : Hid _ := hAsk.at_
  have HS := hAsk.start
  have AB : Aside (Both B w w2 rb v l p q c' xb e) := hBo
  unfold Stays at HI HS
  clear hAsk hBo
  go_wp2_with fail
  go_region_held (fun y => Below w2.heap.size w2 y ∧ y.cell? ⟨xb, 1, none⟩ = some (.int .i64 (q : Int)) ∧ y.cell? ⟨xb, 2, none⟩ = some (.int .i64 (c' : Int)) ∧ y.cell? ⟨xb, 3, none⟩ = some (.int .i64 (a' : Int))) (assumption)
    (first
    | (go_at_call 17; refine (HI.out _ (by assumption)).mono ?_; rintro ev w6 ⟨rfl, hS6⟩)
    | (go_at_call 24; refine (HT.out _ (by assumption)).mono ?_; rintro ev w6 ⟨rfl, rfl⟩))
  go_wp2_with fail
  go_ret
  exact ⟨rfl, AB.out.next hB' hS6.1⟩

set_option maxHeartbeats 4000000 in
set_option maxRecDepth 20000 in
theorem read_int (B : Nat) (w : World) (rb : Nat) (v : Value) (l : List UInt8) (p xb c a : Nat) (o : Opv) (hk : o.sort = 1) (h : Rd w rb v l p) (hx : Rf w xb l p c a) (hne : xb ≠ rb) (hv : v.ownBlock ≠ some xb) (hB : B ≤ rb) (hB' : B ≤ xb) :
    Calls Try.prog 15 #[.pointer (some ⟨rb, 0, none⟩), .pointer (some ⟨xb, 0, none⟩), .agg o.cells.toArray] w fun ev w' => ev = .returned (.bool true) ∧ Next B w w' rb v l xb := by
  obtain ⟨t, e1, e2, e3, e4⟩ := o.rem
  have k5 : (t + 6) % 6 = 1 := by omega
  have k0 : o.cells[0]? = some (.int .i64 o.kind) := rfl
  have c2 := hx.c2
  have c3 := hx.c3
  have f2 := hx.fz 2
  have f3 := hx.fz 3
  have hxl := hx.lt
  have hrl := h.lt
  generalize o.cells = C at *
  obtain ⟨hR0, hX0, hB0, hG0, hz0⟩ := back0_pre (B := B) C h hx hne hv hB'
  have C1 := rInt_any _ rb v l p hR0
  have HX : Hid (∀ w1 e, Out (back0 w xb C) w1 rb v l p (p + (scan 0 0 (l.drop p)).2.1) (scan 0 0 (l.drop p)).2.2 e → Calls Try.prog 38 #[.pointer (some ⟨xb, 0, none⟩)] w1 fun ev w2 => ev = .returned (.int .i64 (zag (scan 0 0 (l.drop p)).1)) ∧ Both B w w2 rb v l p (p + (scan 0 0 (l.drop p)).2.1) (scan 0 0 (l.drop p)).2.2 xb e) := fun w1 e hO => by
    refine (xInt_any w1 xb l p (both_rf hne hX0 hO (Below.refl _ _))).mono ?_
    rintro ev w2 ⟨rfl, hx2⟩
    exact ⟨rfl, both_make hne hv hB hB' hX0 hB0 hO (Below.refl _ _) hx2⟩
  generalize (p + (scan 0 0 (l.drop p)).2.1) = q at *
  generalize zag (scan 0 0 (l.drop p)).1 = V at *
  generalize (scan 0 0 (l.drop p)).2.2 = c' at *
  clear h hx hR0 hX0 hB0 hk e4 hv hne hG0 hz0 hrl
  go_enter Try.func15, Try.ntmps15
  go_wp2_with fail
  refine C1.mono ?_
  rintro ev w1 ⟨e, rfl, hO⟩
  have D := HX.out w1 e hO
  clear C1 HX hO c2 c3 f2 f3 k0
  go_wp2_with fail
  refine D.mono ?_
  rintro ev w2 ⟨rfl, hBo⟩
  clear D
  obtain ⟨a', hAsk⟩ : ∃ a' : Nat, Asks w2 rb xb q c' a' e := ⟨_, hBo.asks⟩
  have HI : Hid _ := hAsk.is_
  have HT : Hid _ := hAsk.at_
  have HS := hAsk.start
  have AB : Aside (Both B w w2 rb v l p q c' xb e) := hBo
  unfold Stays at HI HS
  clear hAsk hBo
  go_wp2_with fail
  go_region_held (fun y => Below w2.heap.size w2 y ∧ y.cell? ⟨xb, 1, none⟩ = some (.int .i64 (q : Int)) ∧ y.cell? ⟨xb, 2, none⟩ = some (.int .i64 (c' : Int)) ∧ y.cell? ⟨xb, 3, none⟩ = some (.int .i64 (a' : Int))) (assumption)
    (first
    | (go_at_call 17; refine (HI.out _ (by assumption)).mono ?_; rintro ev w6 ⟨rfl, hS6⟩)
    | (go_at_call 24; refine (HT.out _ (by assumption)).mono ?_; rintro ev w6 ⟨rfl, rfl⟩))
  go_wp2_with fail
  go_ret
  exact ⟨rfl, AB.out.next hB' hS6.1⟩

set_option maxHeartbeats 4000000 in
set_option maxRecDepth 20000 in
theorem read_small (B : Nat) (w : World) (rb : Nat) (v : Value) (l : List UInt8) (p xb c a : Nat) (o : Opv) (hk : o.sort = 2) (ho : o.ok) (h : Rd w rb v l p) (hx : Rf w xb l p c a) (hne : xb ≠ rb) (hv : v.ownBlock ≠ some xb) (hB : B ≤ rb) (hB' : B ≤ xb) :
    Calls Try.prog 15 #[.pointer (some ⟨rb, 0, none⟩), .pointer (some ⟨xb, 0, none⟩), .agg o.cells.toArray] w fun ev w' => ev = .returned (.bool true) ∧ Next B w w' rb v l xb := by
  obtain ⟨t, e1, e2, e3, e4⟩ := o.rem
  have k5 : (t + 6) % 6 = 2 := by omega
  have k0 : o.cells[0]? = some (.int .i64 o.kind) := rfl
  have k2 : o.cells[2]? = some (.int .i64 o.most) := rfl
  have hm0 := ho.most0
  have hm1 := ho.most1
  generalize o.most = most at *
  have c2 := hx.c2
  have c3 := hx.c3
  have f2 := hx.fz 2
  have f3 := hx.fz 3
  have hxl := hx.lt
  have hrl := h.lt
  generalize o.cells = C at *
  obtain ⟨hR0, hX0, hB0, hG0, hz0⟩ := back0_pre (B := B) C h hx hne hv hB'
  have C1 := rSmall_any _ rb v l p most hR0 hm0 hm1
  have HX : Hid (∀ w1 e, Out (back0 w xb C) w1 rb v l p (small l p most).2.1 (small l p most).2.2 e → Calls Try.prog 39 #[.pointer (some ⟨xb, 0, none⟩), .int .i64 most] w1 fun ev w2 => ev = .returned (.int .i64 ((small l p most).1 : Int)) ∧ Both B w w2 rb v l p (small l p most).2.1 (small l p most).2.2 xb e) := fun w1 e hO => by
    refine (xSmall_any w1 xb l p most (both_rf hne hX0 hO (Below.refl _ _)) hm0 hm1).mono ?_
    rintro ev w2 ⟨rfl, hx2⟩
    exact ⟨rfl, both_make hne hv hB hB' hX0 hB0 hO (Below.refl _ _) hx2⟩
  have HQ : Hid (∀ w1 e, Out (back0 w xb C) w1 rb v l p (small l p most).2.1 (small l p most).2.2 e → w1.cell? ⟨w.heap.size, 2, none⟩ = some (.int .i64 most)) := fun w1 e hO => by
    have hb := (hO.grown.block w.heap.size (by omega) (by intro e; cases e; omega)).trans hG0
    exact (box_cell hb 2).trans k2
  generalize (small l p most).2.1 = q at *
  generalize (small l p most).1 = V at *
  generalize (small l p most).2.2 = c' at *
  clear h hx hR0 hX0 hB0 hk e4 hv hne hG0 hz0 hrl
  go_enter Try.func15, Try.ntmps15
  go_wp2_with fail
  refine C1.mono ?_
  rintro ev w1 ⟨e, rfl, hO⟩
  have D := HX.out w1 e hO
  have q2 := HQ.out w1 e hO
  clear HQ k2
  clear C1 HX hO c2 c3 f2 f3 k0
  go_wp2_with fail
  refine D.mono ?_
  rintro ev w2 ⟨rfl, hBo⟩
  clear D
  obtain ⟨a', hAsk⟩ : ∃ a' : Nat, Asks w2 rb xb q c' a' e := ⟨_, hBo.asks⟩
  have HI : Hid _ := hAsk.is_
  have HT : Hid _ := hAsk.at_
  have HS := hAsk.start
  have AB : Aside (Both B w w2 rb v l p q c' xb e) := hBo
  unfold Stays at HI HS
  clear hAsk hBo
  go_wp2_with fail
  go_region_held (fun y => Below w2.heap.size w2 y ∧ y.cell? ⟨xb, 1, none⟩ = some (.int .i64 (q : Int)) ∧ y.cell? ⟨xb, 2, none⟩ = some (.int .i64 (c' : Int)) ∧ y.cell? ⟨xb, 3, none⟩ = some (.int .i64 (a' : Int))) (assumption)
    (first
    | (go_at_call 17; refine (HI.out _ (by assumption)).mono ?_; rintro ev w6 ⟨rfl, hS6⟩)
    | (go_at_call 24; refine (HT.out _ (by assumption)).mono ?_; rintro ev w6 ⟨rfl, rfl⟩))
  go_wp2_with fail
  go_ret
  exact ⟨rfl, AB.out.next hB' hS6.1⟩

set_option maxHeartbeats 4000000 in
set_option maxRecDepth 20000 in
theorem read_bool (B : Nat) (w : World) (rb : Nat) (v : Value) (l : List UInt8) (p xb c a : Nat) (o : Opv) (hk : o.sort = 3) (h : Rd w rb v l p) (hx : Rf w xb l p c a) (hne : xb ≠ rb) (hv : v.ownBlock ≠ some xb) (hB : B ≤ rb) (hB' : B ≤ xb) :
    Calls Try.prog 15 #[.pointer (some ⟨rb, 0, none⟩), .pointer (some ⟨xb, 0, none⟩), .agg o.cells.toArray] w fun ev w' => ev = .returned (.bool true) ∧ Next B w w' rb v l xb := by
  obtain ⟨t, e1, e2, e3, e4⟩ := o.rem
  have k5 : (t + 6) % 6 = 3 := by omega
  have k0 : o.cells[0]? = some (.int .i64 o.kind) := rfl
  have c2 := hx.c2
  have c3 := hx.c3
  have f2 := hx.fz 2
  have f3 := hx.fz 3
  have hxl := hx.lt
  have hrl := h.lt
  generalize o.cells = C at *
  obtain ⟨hR0, hX0, hB0, hG0, hz0⟩ := back0_pre (B := B) C h hx hne hv hB'
  have C1 := rBool_any _ rb v l p hR0
  have HX : Hid (∀ w1 e, Out (back0 w xb C) w1 rb v l p (rbool l p).2.1 (rbool l p).2.2 e → Calls Try.prog 40 #[.pointer (some ⟨xb, 0, none⟩)] w1 fun ev w2 => ev = .returned (.bool (rbool l p).1) ∧ Both B w w2 rb v l p (rbool l p).2.1 (rbool l p).2.2 xb e) := fun w1 e hO => by
    refine (xBool_any w1 xb l p (both_rf hne hX0 hO (Below.refl _ _))).mono ?_
    rintro ev w2 ⟨rfl, hx2⟩
    exact ⟨rfl, both_make hne hv hB hB' hX0 hB0 hO (Below.refl _ _) hx2⟩
  generalize (rbool l p).2.1 = q at *
  generalize (rbool l p).1 = V at *
  generalize (rbool l p).2.2 = c' at *
  clear h hx hR0 hX0 hB0 hk e4 hv hne hG0 hz0 hrl
  go_enter Try.func15, Try.ntmps15
  go_wp2_with fail
  refine C1.mono ?_
  rintro ev w1 ⟨e, rfl, hO⟩
  have D := HX.out w1 e hO
  clear C1 HX hO c2 c3 f2 f3 k0
  go_wp2_with fail
  refine D.mono ?_
  rintro ev w2 ⟨rfl, hBo⟩
  clear D
  obtain ⟨a', hAsk⟩ : ∃ a' : Nat, Asks w2 rb xb q c' a' e := ⟨_, hBo.asks⟩
  have HI : Hid _ := hAsk.is_
  have HT : Hid _ := hAsk.at_
  have HS := hAsk.start
  have AB : Aside (Both B w w2 rb v l p q c' xb e) := hBo
  unfold Stays at HI HS
  clear hAsk hBo
  go_wp2_with fail
  go_region_held (fun y => Below w2.heap.size w2 y ∧ y.cell? ⟨xb, 1, none⟩ = some (.int .i64 (q : Int)) ∧ y.cell? ⟨xb, 2, none⟩ = some (.int .i64 (c' : Int)) ∧ y.cell? ⟨xb, 3, none⟩ = some (.int .i64 (a' : Int))) (assumption)
    (first
    | (go_at_call 17; refine (HI.out _ (by assumption)).mono ?_; rintro ev w6 ⟨rfl, hS6⟩)
    | (go_at_call 24; refine (HT.out _ (by assumption)).mono ?_; rintro ev w6 ⟨rfl, rfl⟩))
  go_wp2_with fail
  go_ret
  exact ⟨rfl, AB.out.next hB' hS6.1⟩

set_option maxHeartbeats 4000000 in
set_option maxRecDepth 20000 in
theorem read_text (B : Nat) (w : World) (rb : Nat) (v : Value) (l : List UInt8) (p xb c a : Nat) (o : Opv) (hk : o.sort = 4) (ho : o.ok) (h : Rd w rb v l p) (hx : Rf w xb l p c a) (hne : xb ≠ rb) (hv : v.ownBlock ≠ some xb) (hB : B ≤ rb) (hB' : B ≤ xb) :
    Calls Try.prog 15 #[.pointer (some ⟨rb, 0, none⟩), .pointer (some ⟨xb, 0, none⟩), .agg o.cells.toArray] w fun ev w' => ev = .returned (.bool true) ∧ Next B w w' rb v l xb := by
  obtain ⟨t, e1, e2, e3, e4⟩ := o.rem
  have k5 : (t + 6) % 6 = 4 := by omega
  have k0 : o.cells[0]? = some (.int .i64 o.kind) := rfl
  have k2 : o.cells[2]? = some (.int .i64 o.most) := rfl
  have hm0 := ho.most0
  have hm1 := ho.most1
  generalize o.most = most at *
  have c2 := hx.c2
  have c3 := hx.c3
  have f2 := hx.fz 2
  have f3 := hx.fz 3
  have hxl := hx.lt
  have hrl := h.lt
  generalize o.cells = C at *
  obtain ⟨hR0, hX0, hB0, hG0, hz0⟩ := back0_pre (B := B) C h hx hne hv hB'
  have C1 := rText_any _ rb v l p most hR0 hm0 hm1
  have HX : Hid (∀ w1 e, Out (back0 w xb C) w1 rb v l p (rtext l p most).2.1 (rtext l p most).2.2 e → Calls Try.prog 41 #[.pointer (some ⟨xb, 0, none⟩), .int .i64 most] w1 fun ev w2 => ev = .returned (.string (str (rtext l p most).1)) ∧ Both B w w2 rb v l p (rtext l p most).2.1 (rtext l p most).2.2 xb e) := fun w1 e hO => by
    refine (xText_any w1 xb l p most (both_rf hne hX0 hO (Below.refl _ _)) hm0 hm1).mono ?_
    rintro ev w2 ⟨rfl, hx2⟩
    exact ⟨rfl, both_make hne hv hB hB' hX0 hB0 hO (Below.refl _ _) hx2⟩
  have HQ : Hid (∀ w1 e, Out (back0 w xb C) w1 rb v l p (rtext l p most).2.1 (rtext l p most).2.2 e → w1.cell? ⟨w.heap.size, 2, none⟩ = some (.int .i64 most)) := fun w1 e hO => by
    have hb := (hO.grown.block w.heap.size (by omega) (by intro e; cases e; omega)).trans hG0
    exact (box_cell hb 2).trans k2
  generalize (rtext l p most).2.1 = q at *
  generalize str (rtext l p most).1 = V at *
  generalize (rtext l p most).2.2 = c' at *
  clear h hx hR0 hX0 hB0 hk e4 hv hne hG0 hz0 hrl
  go_enter Try.func15, Try.ntmps15
  go_wp2_with fail
  refine C1.mono ?_
  rintro ev w1 ⟨e, rfl, hO⟩
  have D := HX.out w1 e hO
  have q2 := HQ.out w1 e hO
  clear HQ k2
  clear C1 HX hO c2 c3 f2 f3 k0
  go_wp2_with fail
  refine D.mono ?_
  rintro ev w2 ⟨rfl, hBo⟩
  clear D
  obtain ⟨a', hAsk⟩ : ∃ a' : Nat, Asks w2 rb xb q c' a' e := ⟨_, hBo.asks⟩
  have HI : Hid _ := hAsk.is_
  have HT : Hid _ := hAsk.at_
  have HS := hAsk.start
  have AB : Aside (Both B w w2 rb v l p q c' xb e) := hBo
  unfold Stays at HI HS
  clear hAsk hBo
  go_wp2_with fail
  go_region_held (fun y => Below w2.heap.size w2 y ∧ y.cell? ⟨xb, 1, none⟩ = some (.int .i64 (q : Int)) ∧ y.cell? ⟨xb, 2, none⟩ = some (.int .i64 (c' : Int)) ∧ y.cell? ⟨xb, 3, none⟩ = some (.int .i64 (a' : Int))) (assumption)
    (first
    | (go_at_call 17; refine (HI.out _ (by assumption)).mono ?_; rintro ev w6 ⟨rfl, hS6⟩)
    | (go_at_call 24; refine (HT.out _ (by assumption)).mono ?_; rintro ev w6 ⟨rfl, rfl⟩))
  go_wp2_with fail
  go_ret
  exact ⟨rfl, AB.out.next hB' hS6.1⟩

end Go.Proofs.Ytkgmjhchefkmaaa
