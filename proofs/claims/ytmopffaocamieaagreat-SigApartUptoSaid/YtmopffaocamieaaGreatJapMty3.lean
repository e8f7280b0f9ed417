/-
  The texts Mty, Srd, Srn, joined.
-/
import Derived.Test.YtmopffaocamieaaGreatQapAls
import Derived.Test.YtmopffaocamieaaGreatQapSmt
import Derived.Test.YtmopffaocamieaaGreatJapWnb3
import Derived.Deep.RegionHeld3
namespace Go.Proofs.YtmopffaocamieaaGreat
open Go.RowKit

theorem alloc_one (w : World) (a : Obj) : Below w.heap.size w (w.alloc a) := (Below.refl _ _).alloc (Nat.le_refl _) _
theorem size_alloc (w : World) (a : Obj) : (w.alloc a).heap.size = w.heap.size + 1 := by unfold World.alloc; simp only [Array.size_push]
theorem alloc_two (w : World) (a b : Obj) : Below w.heap.size w ((w.alloc a).alloc b) := (alloc_one w a).trans (below_le (alloc_one _ b) (by rw [size_alloc]; omega))

set_option maxHeartbeats 4000000 in
theorem sameTypes2_any {K : Ctx} {w : World} (hC : K.C ≤ w.heap.size) {x y : Ty} {cs cs' : List Value} (hx : IsTy K w cs x) (hy : IsTy K w cs' y) (B : Bool) (hB : B = true ↔ x = y) :
    Calls Tryz.prog 169 #[.agg cs.toArray, .agg cs'.toArray] w fun ev w' => ev = .returned (.bool B) ∧ Below w.heap.size w w' := by
  have hA := alloc_two w (.cells cs.toArray 62) (.cells cs'.toArray 62)
  have D : Hid (Calls Tryz.prog 188 #[.pointer (some ⟨w.heap.size, 0, none⟩), .pointer (some ⟨w.heap.size + 1, 0, none⟩)] ((w.alloc (.cells cs.toArray 62)).alloc (.cells cs'.toArray 62)) fun ev w' => ev = .returned (.bool B) ∧ Below w.heap.size w w') := by
    refine (sameType_any (((Row.new w 62 cs).alloc _).cells 4) (by have := (Row.new (w.alloc (.cells cs.toArray 62)) 62 cs').cells 4; rw [size_alloc] at this; exact this) (hx.below (below_le hA hC)) (hy.below (below_le hA hC)) B hB).mono ?_
    rintro _ _ ⟨rfl, m, rfl⟩
    exact ⟨rfl, hA.trans (Below.drewN _ _ _)⟩
  clear hx hy hA hB
  go_enter Tryz.func169, Tryz.ntmps169
  go_wp2_with (go_at_call 188; refine D.out.mono ?_; rintro ev w2 ⟨rfl, hb2⟩)
  go_ret
  exact ⟨rfl, hb2⟩

/-- A name, or two with two colons between. -/
def farB (s : Bs) : Bool := nameB (Lib.cut s [58, 58]).1 && (!(Lib.cut s [58, 58]).2.2 || nameB (Lib.cut s [58, 58]).2.1)
theorem cut_len (s : Bs) : (Lib.cut s [58, 58]).1.length ≤ s.length ∧ (Lib.cut s [58, 58]).2.1.length ≤ s.length := by
  unfold Lib.cut
  split
  · simp; omega
  · simp

set_option maxHeartbeats 4000000 in
theorem far_any (s : Bs) (hs : s.length ≤ 1048576) (w : World) (hm : ∃ m, w.cell? ⟨0, 0, none⟩ = some (.int .i64 m)) :
    Calls Tryz.prog 187 #[.string (str s)] w fun ev w' => ev = .returned (.bool (farB s)) ∧ ∃ m, w' = w.drewN m := by
  obtain ⟨m, hm⟩ := hm
  have e1 : (str s).data.toList = s := by simp [str]
  have e2 : (str [58, 58]).data.toList = [58, 58] := by simp [str]
  have D : Calls Tryz.prog 203 #[.string (str s), .string ⟨#[58, 58]⟩] w fun e w' => e = .returned (.tuple #[.string (str (Lib.cut s [58, 58]).1), .string (str (Lib.cut s [58, 58]).2.1), .bool (Lib.cut s [58, 58]).2.2]) ∧ ∃ n, w' = w.drewN n := by
    have D := Tryz.strings_Cut (str s) (str [58, 58]) m w (by rw [str_size]; omega) hm
    rw [e1, e2] at D
    exact D
  have hc := cut_len s
  have N1 : Hid (∀ y, Calls Tryz.prog 40 #[.string (str (Lib.cut s [58, 58]).1)] y fun ev w' => ev = .returned (.bool (nameB (Lib.cut s [58, 58]).1)) ∧ w' = y) := fun y => name_any _ (by omega) y
  have N2 : Hid (∀ y, Calls Tryz.prog 40 #[.string (str (Lib.cut s [58, 58]).2.1)] y fun ev w' => ev = .returned (.bool (nameB (Lib.cut s [58, 58]).2.1)) ∧ w' = y) := fun y => name_any _ (by omega) y
  unfold farB
  clear e1 e2 hc hm
  generalize hA : nameB (Lib.cut s [58, 58]).1 = A at *
  generalize hA2 : nameB (Lib.cut s [58, 58]).2.1 = A2 at *
  clear hA hA2
  generalize str (Lib.cut s [58, 58]).1 = S1 at *
  generalize str (Lib.cut s [58, 58]).2.1 = S2 at *
  generalize (Lib.cut s [58, 58]).2.2 = F at *
  generalize str s = S at *
  cases A <;> cases F <;> (go_enter Tryz.func187, Tryz.ntmps187; go_wp2_with (first | (go_at_call 203; refine D.mono ?_; rintro ev w2 ⟨rfl, n, rfl⟩) | (go_at_call_of 40 S1; refine (N1.out _).mono ?_; rintro ev w2 ⟨rfl, rfl⟩) | (go_at_call_of 40 S2; refine (N2.out _).mono ?_; rintro ev w2 ⟨rfl, rfl⟩)); go_ret; exact ⟨by simp, _, rfl⟩)
end Go.Proofs.YtmopffaocamieaaGreat

namespace Go.Proofs.YtmopffaocamieaaGreat
open Go.RowKit

/-- The reader at block sb, that of layer 2 at block rb: at the place that st tells, or behind an error. -/
structure Sr (l : List UInt8) (st : Option Nat) (w : World) (sb rb : Nat) (v : Value) : Prop where
  c0 : w.cell? ⟨sb, 0, none⟩ = some (.pointer (some ⟨rb, 0, none⟩))
  bad : st = none → ∃ t x, w.cell? ⟨sb, 1, none⟩ = some (.iface t x)
  good : ∀ q, st = some q → w.cell? ⟨sb, 1, none⟩ = some .nilIface
  fz : w.frozen? ⟨sb, 1, none⟩ = false
  rd : ∃ p, Rd w rb v l p ∧ (∀ q, st = some q → p = q)
  ne : sb ≠ rb
  no : v.ownBlock ≠ some sb
theorem Sr.lt {l : List UInt8} {st : Option Nat} {w : World} {sb rb : Nat} {v : Value} (h : Sr l st w sb rb v) : sb < w.heap.size := World.block_lt_of_cell? w _ h.c0
theorem Sr.ltr {l : List UInt8} {st : Option Nat} {w : World} {sb rb : Nat} {v : Value} (h : Sr l st w sb rb v) : rb < w.heap.size := by
  obtain ⟨p, h, _⟩ := h.rd; exact h.lt
theorem Sr.past {l : List UInt8} {st : Option Nat} {w w' : World} {sb rb : Nat} {v : Value} (h : Sr l st w sb rb v) (hb : Below w.heap.size w w') : Sr l st w' sb rb v := by
  have h1 := hb.block sb h.lt
  obtain ⟨p, hr, hp⟩ := h.rd
  refine ⟨(World.cell?_of_block (a := ⟨sb, 0, none⟩) h1).trans h.c0, fun e => ?_, fun q e => (World.cell?_of_block (a := ⟨sb, 1, none⟩) h1).trans (h.good q e), (World.frozen?_of_block (a := ⟨sb, 1, none⟩) h1).trans h.fz, ⟨p, hr.past hb, hp⟩, h.ne, h.no⟩
  obtain ⟨t, x, hx⟩ := h.bad e
  exact ⟨t, x, (World.cell?_of_block (a := ⟨sb, 1, none⟩) h1).trans hx⟩
/-- What reading leaves: only the two readers have turned. -/
abbrev Tu (sb rb : Nat) (w w' : World) : Prop := Stay (fun k => k = sb ∨ k = rb) w w'
theorem Tu.of_grown {w w' : World} {sb rb : Nat} (h : w.grownBy w' (some rb)) : Tu sb rb w w' := ⟨h.os, h.tape, h.output, h.size, fun k hk hn => h.block k hk (fun e => hn (.inr (Option.some.inj e)))⟩
/-- The reader behind an error that was stored. -/
theorem Sr.fail {l : List UInt8} {st : Option Nat} {w : World} {sb rb : Nat} {v : Value} (h : Sr l st w sb rb v) (t : TypeId) (x : Value) : Sr l none (w.setCell ⟨sb, 1, none⟩ (.iface t x)) sb rb v ∧ Tu sb rb w (w.setCell ⟨sb, 1, none⟩ (.iface t x)) := by
  obtain ⟨p, hr, hp⟩ := h.rd
  have hc : ∃ e, w.cell? ⟨sb, 1, none⟩ = some e := by
    cases hs : st with
    | none => obtain ⟨t, x, hx⟩ := h.bad hs; exact ⟨_, hx⟩
    | some q => exact ⟨_, h.good q hs⟩
  obtain ⟨e, he⟩ := hc
  refine ⟨⟨?_, fun _ => ⟨t, x, World.cell?_setCell_same w _ _ he⟩, fun q e => (by cases e), by simpa using h.fz, ⟨p, ?_, fun q e => (by cases e)⟩, h.ne, h.no⟩, Stay.set (Stay.refl _ _) (fun _ => .inl rfl) _ _⟩
  · exact (World.cell?_setCell_other (w := w) (a := ⟨sb, 1, none⟩) (b := ⟨sb, 0, none⟩) (v := .iface t x) (by simp)).trans h.c0
  · exact hr.same (Below.heap_setCell _ _ _ _ (fun e => h.ne e.symm)) (fun k e => Below.heap_setCell _ _ _ _ (fun e' => h.no (by rw [e, e'])))
/-- The reader behind a reading of layer 2 that went well: the error that is stored is none. -/
theorem Sr.well {l : List UInt8} {p q : Nat} {w w1 : World} {sb rb : Nat} {v : Value} (h : Sr l (some p) w sb rb v) (hr : Rd w1 rb v l q) (hg : w.grownBy w1 (some rb)) : Sr l (some q) (w1.setCell ⟨sb, 1, none⟩ .nilIface) sb rb v ∧ Tu sb rb w (w1.setCell ⟨sb, 1, none⟩ .nilIface) := by
  have h1 : w1.heap[sb]? = w.heap[sb]? := hg.block sb h.lt (fun e => h.ne (Option.some.inj e))
  have hc1 := (World.cell?_of_block (a := ⟨sb, 1, none⟩) h1).trans (h.good p rfl)
  have hc0 := (World.cell?_of_block (a := ⟨sb, 0, none⟩) h1).trans h.c0
  refine ⟨⟨?_, fun e => (by cases e), fun _ _ => World.cell?_setCell_same w1 _ _ hc1, ?_, ⟨q, ?_, fun q' e => (by cases e; rfl)⟩, h.ne, h.no⟩, (Tu.of_grown hg).trans (Stay.set (Stay.refl _ _) (fun _ => .inl rfl) _ _)⟩
  · exact (World.cell?_setCell_other (w := w1) (a := ⟨sb, 1, none⟩) (b := ⟨sb, 0, none⟩) (v := .nilIface) (by simp)).trans hc0
  · have := (World.frozen?_of_block (a := ⟨sb, 1, none⟩) h1).trans h.fz
    simpa using this
  · exact hr.same (Below.heap_setCell _ _ _ _ (fun e => h.ne e.symm)) (fun k e => Below.heap_setCell _ _ _ _ (fun e' => h.no (by rw [e, e'])))
/-- The reader ahead of an error's store: what layer 2 has read in w1, it refused. -/
theorem Sr.mid {l : List UInt8} {p q : Nat} {w w1 : World} {sb rb : Nat} {v : Value} (h : Sr l (some p) w sb rb v) (hr : Rd w1 rb v l q) (hg : w.grownBy w1 (some rb)) : Sr l (some q) w1 sb rb v := by
  have h1 : w1.heap[sb]? = w.heap[sb]? := hg.block sb h.lt (fun e => h.ne (Option.some.inj e))
  exact ⟨(World.cell?_of_block (a := ⟨sb, 0, none⟩) h1).trans h.c0, fun e => (by cases e), fun _ _ => (World.cell?_of_block (a := ⟨sb, 1, none⟩) h1).trans (h.good p rfl), (World.frozen?_of_block (a := ⟨sb, 1, none⟩) h1).trans h.fz, ⟨q, hr, fun q' e => (by cases e; rfl)⟩, h.ne, h.no⟩

/-- A text that is read. -/
def gtx (l : List UInt8) : Option Nat → List UInt8 × Option Nat
  | none => ([], none)
  | some p => ((rtext l p 66).1, if (rtext l p 66).2.2 = 0 then some (rtext l p 66).2.1 else none)

set_option maxHeartbeats 2000000 in
theorem getTextC_any {l : List UInt8} {p : Nat} {w : World} {sb rb cb : Nat} {v : Value} (h : Sr l (some p) w sb rb v) (hc : w.cell? ⟨cb, 0, none⟩ = some (.pointer (some ⟨sb, 0, none⟩))) :
    Calls Tryz.prog 138 #[.pointer (some ⟨cb, 0, none⟩)] w fun ev w' => ∃ e, ev = .returned (.tuple #[.string (str (rtext l p 66).1), e]) ∧ Out w w' rb v l p (rtext l p 66).2.1 (rtext l p 66).2.2 e := by
  obtain ⟨p', hr, hp⟩ := h.rd
  obtain rfl := hp p rfl
  have C := rText_any w rb v l p' 66 hr (by decide) (by decide)
  have c0 := h.c0
  clear h hr hp
  go_enter Tryz.func138, Tryz.ntmps138
  go_wp2_with fail
  refine C.mono ?_
  rintro _ w1 ⟨e, rfl, ho⟩
  go_wp2_with fail
  go_ret2
  exact ⟨e, rfl, ho⟩

theorem hidS {p : Prop} (h : p) : Hid p := h
theorem iface_not_nil (t : TypeId) (x : Value) (w : World) : (binOp .eql 35 (.iface t x) .nilIface).run Tryz.prog w = .ok (.bool false) w := by kernel_rfl
set_option maxHeartbeats 2000000 in
theorem getText_any {l : List UInt8} {st : Option Nat} {w : World} {sb rb : Nat} {v : Value} (h : Sr l st w sb rb v) :
    Calls Tryz.prog 90 #[.pointer (some ⟨sb, 0, none⟩)] w fun ev w' => ev = .returned (.string (str (gtx l st).1)) ∧ Sr l (gtx l st).2 w' sb rb v ∧ Tu sb rb w w' := by
  have hA := alloc_one w (.cells #[.pointer (some ⟨sb, 0, none⟩)] 95)
  have hS := h.past hA
  have HA : Hid (Tu sb rb w (w.alloc (.cells #[.pointer (some ⟨sb, 0, none⟩)] 95))) := Stay.of_below hA
  have C : Calls Tryz.prog 137 #[.pointer (some ⟨sb, 0, none⟩), .func (.func 138) #[] #[.pointer (some ⟨w.heap.size, 0, none⟩)]] (w.alloc (.cells #[.pointer (some ⟨sb, 0, none⟩)] 95)) fun ev w' => ev = .returned (.string (str (gtx l st).1)) ∧ Sr l (gtx l st).2 w' sb rb v ∧ Tu sb rb w w' := by
    have hcb : (w.alloc (.cells #[.pointer (some ⟨sb, 0, none⟩)] 95)).cell? ⟨w.heap.size, 0, none⟩ = some (.pointer (some ⟨sb, 0, none⟩)) := (Row.new w 95 [.pointer (some ⟨sb, 0, none⟩)]).cell 0
    generalize w.alloc (.cells #[.pointer (some ⟨sb, 0, none⟩)] 95) = wa at *
    cases st with
    | none =>
      obtain ⟨t, x, hx⟩ := hS.bad rfl
      have HS : Hid (Sr l none wa sb rb v) := hS
      have kn := iface_not_nil t x
      clear hS h hA hcb
      go_enter Tryz.func137, Tryz.ntmps137
      go_wp2_with fail
      go_ret
      exact ⟨rfl, HS.out, HA.out⟩
    | some p =>
      have hx := hS.good p rfl
      have HF : Hid (∀ w1, wa.grownBy w1 (some rb) → w1.cell? ⟨sb, 1, none⟩ = some .nilIface ∧ w1.frozen? ⟨sb, 1, none⟩ = false) := fun w1 hg => by
        have h1 : w1.heap[sb]? = wa.heap[sb]? := hg.block sb hS.lt (fun e => hS.ne (Option.some.inj e))
        exact ⟨(World.cell?_of_block (a := ⟨sb, 1, none⟩) h1).trans hx, (World.frozen?_of_block (a := ⟨sb, 1, none⟩) h1).trans hS.fz⟩
      have C1 := getTextC_any hS hcb
      have HS : Hid (Sr l (some p) wa sb rb v) := hS
      clear hS h hA hcb
      go_enter Tryz.func137, Tryz.ntmps137
      go_wp2_with fail
      refine C1.mono ?_
      rintro _ w1 ⟨e, rfl, ho⟩
      obtain ⟨q1, q2⟩ := HF.out w1 ho.grown
      rcases ho.err with ⟨hc, rfl⟩ | ⟨hc, he⟩
      · have HR := hidS (HS.out.well ho.rd ho.grown)
        clear C1 HF ho
        go_wp2_with fail
        go_ret
        refine ⟨rfl, ?_, HA.out.trans HR.out.2⟩
        show Sr l (if (rtext l p 66).2.2 = 0 then some (rtext l p 66).2.1 else none) _ sb rb v
        rw [if_pos hc]
        exact HR.out.1
      · obtain ⟨b, rfl, _⟩ := he.shape
        have HR := hidS ((HS.out.mid ho.rd ho.grown).fail 123 (.pointer (some ⟨b, 0, none⟩)))
        have HG : Hid (Tu sb rb wa w1) := Tu.of_grown ho.grown
        clear C1 HF ho he
        go_wp2_with fail
        go_ret
        refine ⟨rfl, ?_, HA.out.trans (HG.out.trans HR.out.2)⟩
        show Sr l (if (rtext l p 66).2.2 = 0 then some (rtext l p 66).2.1 else none) _ sb rb v
        rw [if_neg hc]
        exact HR.out.1
  clear h hA hS
  go_enter Tryz.func90, Tryz.ntmps90
  go_wp2_with fail
  refine C.mono ?_
  rintro _ w1 ⟨rfl, h1, h2⟩
  go_wp2_with fail
  go_ret
  exact ⟨rfl, h1, h2⟩
end Go.Proofs.YtmopffaocamieaaGreat

namespace Go.Proofs.YtmopffaocamieaaGreat
open Go.RowKit

/-- A number that is read. -/
def gnm (l : List UInt8) (most : Nat) : Option Nat → Nat × Option Nat
  | none => (0, none)
  | some p => ((small l p most).1, if (small l p most).2.2 = 0 then some (small l p most).2.1 else none)

set_option maxHeartbeats 2000000 in
theorem getNumC_any {l : List UInt8} {p : Nat} {w : World} {sb rb cb mb most : Nat} {v : Value} (hm : most ≤ 1000000) (h : Sr l (some p) w sb rb v) (hc : w.cell? ⟨cb, 0, none⟩ = some (.pointer (some ⟨sb, 0, none⟩))) (hd : w.cell? ⟨mb, 0, none⟩ = some (.int .i64 (most : Int))) (n1 : cb ≠ rb) (n2 : mb ≠ rb) :
    Calls Tryz.prog 177 #[.pointer (some ⟨cb, 0, none⟩), .pointer (some ⟨mb, 0, none⟩)] w fun ev w' => ∃ e, ev = .returned (.tuple #[.int .i64 ((small l p most).1 : Int), e]) ∧ Out w w' rb v l p (small l p most).2.1 (small l p most).2.2 e := by
  obtain ⟨p', hr, hp⟩ := h.rd
  obtain rfl := hp p rfl
  have hdw : Below w.heap.size w w.drew := (Below.refl _ _).drew
  have hg : w.grownBy w.drew (some rb) := grown_below hdw _
  have C : Hid (Calls Tryz.prog 178 #[.pointer (some ⟨rb, 0, none⟩), .int .i64 (most : Int)] w.drew fun ev w' => ∃ e, ev = .returned (.tuple #[.int .i64 ((small l p' most).1 : Int), e]) ∧ Out w w' rb v l p' (small l p' most).2.1 (small l p' most).2.2 e ∧ w.grownBy w' (some rb)) := by
    refine (rSmall_any w.drew rb v l p' most (hr.past hdw) (by omega) (by omega)).mono ?_
    rintro _ w1 ⟨e, he, ho⟩
    exact ⟨e, he, ⟨ho.err, ho.rd, hg.trans ho.grown⟩, hg.trans ho.grown⟩
  have HS : Hid (∀ y, w.grownBy y (some rb) → y.cell? ⟨cb, 0, none⟩ = some (.pointer (some ⟨sb, 0, none⟩)) ∧ y.cell? ⟨mb, 0, none⟩ = some (.int .i64 (most : Int)) ∧ y.cell? ⟨sb, 0, none⟩ = some (.pointer (some ⟨rb, 0, none⟩))) := by
    intro y hy
    refine ⟨(World.cell?_of_block (a := ⟨cb, 0, none⟩) (hy.block cb (World.block_lt_of_cell? w _ hc) (fun e => n1 (Option.some.inj e)))).trans hc, (World.cell?_of_block (a := ⟨mb, 0, none⟩) (hy.block mb (World.block_lt_of_cell? w _ hd) (fun e => n2 (Option.some.inj e)))).trans hd, (World.cell?_of_block (a := ⟨sb, 0, none⟩) (hy.block sb h.lt (fun e => h.ne (Option.some.inj e)))).trans h.c0⟩
  clear h hr hp hc hd hdw
  go_enter Tryz.func177, Tryz.ntmps177
  go_wp2_with fail
  go_region_held3 (fun z => z.cell? ⟨cb, 0, none⟩ = some (.pointer (some ⟨sb, 0, none⟩)) ∧ z.cell? ⟨mb, 0, none⟩ = some (.int .i64 (most : Int)) ∧ z.cell? ⟨sb, 0, none⟩ = some (.pointer (some ⟨rb, 0, none⟩))) (exact HS.out _ (by assumption)) (first | (go_at_call 178; refine C.out.mono ?_; rintro _ w1 ⟨e, rfl, ho, q1⟩))
  go_wp2_with fail
  go_ret2
  exact ⟨e, rfl, ho⟩

set_option maxHeartbeats 2000000 in
theorem getNum_any {l : List UInt8} {st : Option Nat} {w : World} {sb rb most : Nat} {v : Value} (hm : most ≤ 1000000) (h : Sr l st w sb rb v) :
    Calls Tryz.prog 140 #[.pointer (some ⟨sb, 0, none⟩), .int .i64 (most : Int)] w fun ev w' => ev = .returned (.int .i64 ((gnm l most st).1 : Int)) ∧ Sr l (gnm l most st).2 w' sb rb v ∧ Tu sb rb w w' := by
  have hA := alloc_two w (.cells #[.pointer (some ⟨sb, 0, none⟩)] 95) (.cells #[.int .i64 (most : Int)] 3)
  have hS := h.past hA
  have HA : Hid (Tu sb rb w ((w.alloc (.cells #[.pointer (some ⟨sb, 0, none⟩)] 95)).alloc (.cells #[.int .i64 (most : Int)] 3))) := Stay.of_below hA
  have C : Calls Tryz.prog 176 #[.pointer (some ⟨sb, 0, none⟩), .func (.func 177) #[] #[.pointer (some ⟨w.heap.size, 0, none⟩), .pointer (some ⟨w.heap.size + 1, 0, none⟩)]] ((w.alloc (.cells #[.pointer (some ⟨sb, 0, none⟩)] 95)).alloc (.cells #[.int .i64 (most : Int)] 3)) fun ev w' => ev = .returned (.int .i64 ((gnm l most st).1 : Int)) ∧ Sr l (gnm l most st).2 w' sb rb v ∧ Tu sb rb w w' := by
    have hcb : ((w.alloc (.cells #[.pointer (some ⟨sb, 0, none⟩)] 95)).alloc (.cells #[.int .i64 (most : Int)] 3)).cell? ⟨w.heap.size, 0, none⟩ = some (.pointer (some ⟨sb, 0, none⟩)) := ((Row.new w 95 [.pointer (some ⟨sb, 0, none⟩)]).alloc _).cell 0
    have hmb : ((w.alloc (.cells #[.pointer (some ⟨sb, 0, none⟩)] 95)).alloc (.cells #[.int .i64 (most : Int)] 3)).cell? ⟨w.heap.size + 1, 0, none⟩ = some (.int .i64 (most : Int)) := by
      have := (Row.new (w.alloc (.cells #[.pointer (some ⟨sb, 0, none⟩)] 95)) 3 [.int .i64 (most : Int)]).cell 0
      rw [size_alloc] at this; exact this
    have n1 : w.heap.size ≠ rb := fun e => by have := h.ltr; omega
    have n2 : w.heap.size + 1 ≠ rb := fun e => by have := h.ltr; omega
    generalize (w.alloc (.cells #[.pointer (some ⟨sb, 0, none⟩)] 95)).alloc (.cells #[.int .i64 (most : Int)] 3) = wa at *
    cases st with
    | none =>
      obtain ⟨t, x, hx⟩ := hS.bad rfl
      have HS : Hid (Sr l none wa sb rb v) := hS
      have kn := iface_not_nil t x
      clear hS h hA hcb hmb
      go_enter Tryz.func176, Tryz.ntmps176
      go_wp2_with fail
      go_ret
      exact ⟨rfl, HS.out, HA.out⟩
    | some p =>
      have hx := hS.good p rfl
      have HF : Hid (∀ w1, wa.grownBy w1 (some rb) → w1.cell? ⟨sb, 1, none⟩ = some .nilIface ∧ w1.frozen? ⟨sb, 1, none⟩ = false) := fun w1 hg => by
        have h1 : w1.heap[sb]? = wa.heap[sb]? := hg.block sb hS.lt (fun e => hS.ne (Option.some.inj e))
        exact ⟨(World.cell?_of_block (a := ⟨sb, 1, none⟩) h1).trans hx, (World.frozen?_of_block (a := ⟨sb, 1, none⟩) h1).trans hS.fz⟩
      have C1 := getNumC_any hm hS hcb hmb n1 n2
      have HS : Hid (Sr l (some p) wa sb rb v) := hS
      clear hS h hA hcb hmb
      go_enter Tryz.func176, Tryz.ntmps176
      go_wp2_with fail
      refine C1.mono ?_
      rintro _ w1 ⟨e, rfl, ho⟩
      obtain ⟨q1, q2⟩ := HF.out w1 ho.grown
      rcases ho.err with ⟨hc, rfl⟩ | ⟨hc, he⟩
      · have HR := hidS (HS.out.well ho.rd ho.grown)
        clear C1 HF ho
        go_wp2_with fail
        go_ret
        refine ⟨rfl, ?_, HA.out.trans HR.out.2⟩
        show Sr l (if (small l p most).2.2 = 0 then some (small l p most).2.1 else none) _ sb rb v
        rw [if_pos hc]
        exact HR.out.1
      · obtain ⟨b, rfl, _⟩ := he.shape
        have HR := hidS ((HS.out.mid ho.rd ho.grown).fail 123 (.pointer (some ⟨b, 0, none⟩)))
        have HG : Hid (Tu sb rb wa w1) := Tu.of_grown ho.grown
        clear C1 HF ho he
        go_wp2_with fail
        go_ret
        refine ⟨rfl, ?_, HA.out.trans (HG.out.trans HR.out.2)⟩
        show Sr l (if (small l p most).2.2 = 0 then some (small l p most).2.1 else none) _ sb rb v
        rw [if_neg hc]
        exact HR.out.1
  clear h hA hS
  go_enter Tryz.func140, Tryz.ntmps140
  go_wp2_with fail
  refine C.mono ?_
  rintro _ w1 ⟨rfl, h1, h2⟩
  go_wp2_with fail
  go_ret
  exact ⟨rfl, h1, h2⟩

theorem list_str (l : List UInt8) : (str l).toList = l := by unfold str; rw [ByteArray.toList_mk]
/-- The mark. -/
def gmk (l : List UInt8) (st : Option Nat) : Option Nat := if (gtx l st).1 = [85, 83, 73, 71] then (gtx l st).2 else none

set_option maxHeartbeats 2000000 in
theorem getMark_any {l : List UInt8} {st : Option Nat} {w : World} {sb rb : Nat} {v : Value} (h : Sr l st w sb rb v) :
    Calls Tryz.prog 89 #[.pointer (some ⟨sb, 0, none⟩)] w fun ev w' => ev = .returned (.tuple #[]) ∧ Sr l (gmk l st) w' sb rb v ∧ Tu sb rb w w' := by
  have C := getText_any h
  have HN : Hid (∀ w1, Sr l (gtx l st).2 w1 sb rb v → Tu sb rb w w1 → Calls Tryz.prog 28 #[.int .i64 4, .int .i64 0] w1 fun ev w' => ∃ e, ev = .returned e ∧ Er w' e 4 0 ∧ Sr l (gtx l st).2 w' sb rb v ∧ Tu sb rb w w') := fun w1 h1 h2 =>
    (new_any w1 4 0 (by decide)).mono fun _ w2 ⟨e, he, hE, hb⟩ => ⟨e, he, hE, h1.past hb, h2.trans (Stay.of_below hb)⟩
  clear h
  by_cases ht : (gtx l st).1 = [85, 83, 73, 71]
  · have e1 : gmk l st = (gtx l st).2 := by unfold gmk; rw [if_pos ht]
    rw [e1]
    have hn : ((str (gtx l st).1).toList == [85, 83, 73, 71]) = true := by rw [ht, list_str]; rfl
    clear HN e1 ht
    generalize str (gtx l st).1 = X at *
    go_enter Tryz.func89, Tryz.ntmps89
    go_wp2_with fail
    refine C.mono ?_
    rintro _ w1 ⟨rfl, h1, h2⟩
    go_wp2_with fail
    go_end0
    exact ⟨rfl, h1, h2⟩
  · have e1 : gmk l st = none := by unfold gmk; rw [if_neg ht]
    rw [e1]
    have hn : ((str (gtx l st).1).toList == [85, 83, 73, 71]) = false := by
      rw [beq_eq_false_iff_ne]; exact fun e => ht (by rw [← e]; exact (list_str _).symm)
    clear ht e1
    generalize str (gtx l st).1 = X at *
    go_enter Tryz.func89, Tryz.ntmps89
    go_wp2_with fail
    refine C.mono ?_
    rintro _ w1 ⟨rfl, h1, h2⟩
    have D := HN.out w1 h1 h2
    clear C HN h1 h2
    go_wp2_with fail
    refine D.mono ?_
    rintro _ w2 ⟨e, rfl, hE, h3, h4⟩
    obtain ⟨b, rfl, _⟩ := hE.shape
    have HR := hidS (h3.fail 123 (.pointer (some ⟨b, 0, none⟩)))
    have HT : Hid (Tu sb rb w w2) := h4
    have hz := h3.fz
    have hc : ∃ e, w2.cell? ⟨sb, 1, none⟩ = some e := by
      cases hs : (gtx l st).2 with
      | none => obtain ⟨t, x, hx⟩ := h3.bad hs; exact ⟨_, hx⟩
      | some q => exact ⟨_, h3.good q hs⟩
    obtain ⟨e0, hc⟩ := hc
    clear D hE h3 h4
    go_wp2_with fail
    go_end0
    exact ⟨rfl, HR.out.1, HT.out.trans HR.out.2⟩
end Go.Proofs.YtmopffaocamieaaGreat
