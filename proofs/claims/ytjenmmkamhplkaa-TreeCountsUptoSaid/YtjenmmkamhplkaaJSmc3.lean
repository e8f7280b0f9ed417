/-
  The texts Smc, Sam, Few, joined.
-/
import Derived.Test.YtjenmmkamhplkaaSmt
import Derived.Test.YtjenmmkamhplkaaMay
import Derived.Test.YtjenmmkamhplkaaSmf
import Derived.Test.YtjenmmkamhplkaaNms
namespace Go.Proofs.Ytjenmmkamhplkaa
open Go.RowKit

set_option maxHeartbeats 8000000 in
set_option maxRecDepth 20000 in
theorem sameStruct_any  
    {K : Ctx} {w : World} {x y : Sct} {b o b' o' : Nat} {cs cs' : List Value} (hc : ∀ j, j < 5 → w.cell? ⟨b, o + j, none⟩ = cs[j]?) (hc' : ∀ j, j < 5 → w.cell? ⟨b', o' + j, none⟩ = cs'[j]?)
    (hx : SctAt K w cs x) (hy : SctAt K w cs' y) (B : Bool) (hB : B = true ↔ x = y) :
    Calls Try.prog 24 #[.pointer (some ⟨b, o, none⟩), .pointer (some ⟨b', o', none⟩)] w fun ev w' => ev = .returned (.bool B) ∧ ∃ m, w' = w.drewN m := by
  obtain ⟨v2, v3, rfl, hl1, h2, h3⟩ := id hx
  obtain ⟨u2, u3, rfl, hl2, g2, g3⟩ := id hy
  have c0 : w.cell? ⟨b, o, none⟩ = some (.bool x.pub) := hc 0 (by decide)
  have d0 : w.cell? ⟨b', o', none⟩ = some (.bool y.pub) := hc' 0 (by decide)
  have c1 : w.cell? ⟨b, o + 1, none⟩ = some (.string (str x.name)) := hc 1 (by decide)
  have d1 : w.cell? ⟨b', o' + 1, none⟩ = some (.string (str y.name)) := hc' 1 (by decide)
  have c2 : w.cell? ⟨b, o + 4, none⟩ = some (.int .i64 x.pos) := hc 4 (by decide)
  have d2 : w.cell? ⟨b', o' + 4, none⟩ = some (.int .i64 y.pos) := hc' 4 (by decide)
  have c3 : w.cell? ⟨b, o + 2, none⟩ = some v2 := hc 2 (by decide)
  have d3 : w.cell? ⟨b', o' + 2, none⟩ = some u2 := hc' 2 (by decide)
  have c4 : w.cell? ⟨b, o + 3, none⟩ = some v3 := hc 3 (by decide)
  have d4 : w.cell? ⟨b', o' + 3, none⟩ = some u3 := hc' 3 (by decide)
  have HB : Hid (B = true ↔ x = y) := hB
  clear hB
  have q0 : (x.pub == y.pub) = true ↔ x.pub = y.pub := beq_iff_eq
  have q1 : ((str x.name).toList == (str y.name).toList) = true ↔ x.name = y.name := by rw [str_beq]; exact decide_eq_true_iff
  have q2 : (x.pos == y.pos) = true ↔ x.pos = y.pos := beq_iff_eq
  have q3 : Hid (∀ (B : Bool), (B = true ↔ x.lives = y.lives) → ∀ n, Calls Try.prog 38 #[v2, u2] (w.drewN n) fun ev w' => ev = .returned (.bool B) ∧ ∃ m, w' = (w.drewN n).drewN m) := by
    intro B hB n
    exact equal_any (h2.below (Below.drewN _ _ _)) (g2.below (Below.drewN _ _ _)) B hB
  have q4 : Hid (∀ (B : Bool), (B = true ↔ x.fields = y.fields) → ∀ n, Calls Try.prog 39 #[v3, u3, .func (.func 40) #[] #[]] (w.drewN n) fun ev w' => ev = .returned (.bool B) ∧ ∃ m, w' = (w.drewN n).drewN m) := by
    intro B hB n
    exact sameFields_of (fun _ _ _ _ _ _ _ _ m B hc hc' hx hy hB => sameField_any (K := K) (w := (w.drewN n).drewN m) hc hc' (hx.below (Below.drewN _ _ _)) (hy.below (Below.drewN _ _ _)) B hB) (h3.mono (Below.drewN _ _ _) fun _ _ _ h => h.below (Below.drewN _ _ _)) (g3.mono (Below.drewN _ _ _) fun _ _ _ h => h.below (Below.drewN _ _ _)) B hB
  clear hc hc'
  by_cases e0 : x.pub = y.pub
  rotate_left
  · have HF : Hid (B = false) := by
      show B = false
      cases hB : B
      · rfl
      · exact absurd (congrArg Sct.pub (HB.out.1 hB)) e0
    replace q0 := Bool.eq_false_iff.2 (fun h => e0 (q0.1 h))
    clear HB q1 q2 q3 q4 e0 hx hy c1 d1 c2 d2 c3 d3 c4 d4 hl1 hl2 h2 h3 g2 g3
    generalize x.pub = s0 at *
    generalize y.pub = t0 at *
    go_enter Try.func24, Try.ntmps24
    go_wp2_with fail
    go_quiet (fail)
    go_wp2_with fail
    go_ret
    exact ⟨by rw [HF.out]; rfl, _, rfl⟩
  by_cases e1 : x.name = y.name
  rotate_left
  · have HF : Hid (B = false) := by
      show B = false
      cases hB : B
      · rfl
      · exact absurd (congrArg Sct.name (HB.out.1 hB)) e1
    replace q0 := q0.2 e0
    replace q1 := Bool.eq_false_iff.2 (fun h => e1 (q1.1 h))
    clear HB q2 q3 q4 e0 e1 hx hy c2 d2 c3 d3 c4 d4 hl1 hl2 h2 h3 g2 g3
    generalize x.pub = s0 at *
    generalize y.pub = t0 at *
    generalize str x.name = s1 at *
    generalize str y.name = t1 at *
    go_enter Try.func24, Try.ntmps24
    go_wp2_with fail
    go_quiet (fail)
    go_wp2_with fail
    go_ret
    exact ⟨by rw [HF.out]; rfl, _, rfl⟩
  by_cases e2 : x.pos = y.pos
  rotate_left
  · have HF : Hid (B = false) := by
      show B = false
      cases hB : B
      · rfl
      · exact absurd (congrArg Sct.pos (HB.out.1 hB)) e2
    replace q0 := q0.2 e0
    replace q1 := q1.2 e1
    replace q2 := Bool.eq_false_iff.2 (fun h => e2 (q2.1 h))
    clear HB q3 q4 e0 e1 e2 hx hy c3 d3 c4 d4 hl1 hl2 h2 h3 g2 g3
    generalize x.pub = s0 at *
    generalize y.pub = t0 at *
    generalize str x.name = s1 at *
    generalize str y.name = t1 at *
    generalize x.pos = s2 at *
    generalize y.pos = t2 at *
    go_enter Try.func24, Try.ntmps24
    go_wp2_with fail
    go_quiet (fail)
    go_wp2_with fail
    go_ret
    exact ⟨by rw [HF.out]; rfl, _, rfl⟩
  by_cases e3 : x.lives = y.lives
  rotate_left
  · have HF : Hid (B = false) := by
      show B = false
      cases hB : B
      · rfl
      · exact absurd (congrArg Sct.lives (HB.out.1 hB)) e3
    replace q0 := q0.2 e0
    replace q1 := q1.2 e1
    replace q2 := q2.2 e2
    have r3 : Hid (∀ n, Calls Try.prog 38 #[v2, u2] (w.drewN n) fun ev w' => ev = .returned (.bool false) ∧ ∃ m, w' = (w.drewN n).drewN m) := q3.out false ⟨fun h => (by cases h), fun h => absurd h e3⟩
    clear HB q3 q4 e0 e1 e2 e3 hx hy c4 d4 hl1 hl2 h2 h3 g2 g3
    generalize x.pub = s0 at *
    generalize y.pub = t0 at *
    generalize str x.name = s1 at *
    generalize str y.name = t1 at *
    generalize x.pos = s2 at *
    generalize y.pos = t2 at *
    go_enter Try.func24, Try.ntmps24
    go_wp2_with fail
    go_quiet (first | (go_at_call 38; exact Calls.quiet_of (r3.out _)))
    go_wp2_with fail
    go_ret
    exact ⟨by rw [HF.out]; rfl, _, rfl⟩
  by_cases e4 : x.fields = y.fields
  rotate_left
  · have HF : Hid (B = false) := by
      show B = false
      cases hB : B
      · rfl
      · exact absurd (congrArg Sct.fields (HB.out.1 hB)) e4
    replace q0 := q0.2 e0
    replace q1 := q1.2 e1
    replace q2 := q2.2 e2
    have r3 : Hid (∀ n, Calls Try.prog 38 #[v2, u2] (w.drewN n) fun ev w' => ev = .returned (.bool true) ∧ ∃ m, w' = (w.drewN n).drewN m) := q3.out true ⟨fun _ => e3, fun _ => rfl⟩
    have r4 : Hid (∀ n, Calls Try.prog 39 #[v3, u3, .func (.func 40) #[] #[]] (w.drewN n) fun ev w' => ev = .returned (.bool false) ∧ ∃ m, w' = (w.drewN n).drewN m) := q4.out false ⟨fun h => (by cases h), fun h => absurd h e4⟩
    clear HB q3 q4 e0 e1 e2 e3 e4 hx hy  hl1 hl2 h2 h3 g2 g3
    generalize x.pub = s0 at *
    generalize y.pub = t0 at *
    generalize str x.name = s1 at *
    generalize str y.name = t1 at *
    generalize x.pos = s2 at *
    generalize y.pos = t2 at *
    go_enter Try.func24, Try.ntmps24
    go_wp2_with fail
    go_quiet (first | (go_at_call 38; exact Calls.quiet_of (r3.out _)) | (go_at_call 39; exact Calls.quiet_of (r4.out _)))
    go_wp2_with fail
    go_ret
    exact ⟨by rw [HF.out]; rfl, _, rfl⟩
  have HF : Hid (B = true) := by
    refine HB.out.2 ?_
    clear q0 q1 q2 q3 q4 HB hx hy c0 d0 c1 d1 c2 d2 c3 d3 c4 d4 hl1 hl2 h2 h3 g2 g3
    cases x; cases y; simp only at e0 e1 e2 e3 e4; subst e0 e1 e2 e3 e4; rfl
  replace q0 := q0.2 e0
  replace q1 := q1.2 e1
  replace q2 := q2.2 e2
  have r3 : Hid (∀ n, Calls Try.prog 38 #[v2, u2] (w.drewN n) fun ev w' => ev = .returned (.bool true) ∧ ∃ m, w' = (w.drewN n).drewN m) := q3.out true ⟨fun _ => e3, fun _ => rfl⟩
  have r4 : Hid (∀ n, Calls Try.prog 39 #[v3, u3, .func (.func 40) #[] #[]] (w.drewN n) fun ev w' => ev = .returned (.bool true) ∧ ∃ m, w' = (w.drewN n).drewN m) := q4.out true ⟨fun _ => e4, fun _ => rfl⟩
  clear HB q3 q4 e0 e1 e2 e3 e4 hx hy  hl1 hl2 h2 h3 g2 g3
  generalize x.pub = s0 at *
  generalize y.pub = t0 at *
  generalize str x.name = s1 at *
  generalize str y.name = t1 at *
  generalize x.pos = s2 at *
  generalize y.pos = t2 at *
  go_enter Try.func24, Try.ntmps24
  go_wp2_with fail
  go_quiet (first | (go_at_call 38; exact Calls.quiet_of (r3.out _)) | (go_at_call 39; exact Calls.quiet_of (r4.out _)))
  go_wp2_with fail
  go_ret
  exact ⟨by rw [HF.out]; rfl, _, rfl⟩
end Go.Proofs.Ytjenmmkamhplkaa

namespace Go.Proofs.Ytjenmmkamhplkaa
open Go.RowKit

set_option maxHeartbeats 4000000 in
theorem same_any {n : Nat} {K : Ctx} {w : World} (hC : K.C ≤ w.heap.size) {x y : Crt} {cs cs' : List Value} (hx : CrtAt n K w cs x) (hy : CrtAt n K w cs' y) (B : Bool) (hB : B = true ↔ x = y) :
    Calls Try.prog 13 #[.agg cs.toArray, .agg cs'.toArray] w fun ev w' => ev = .returned (.bool B) ∧ Below w.heap.size w w' := by
  obtain ⟨v0, v1, rfl, h0, h1⟩ := hx
  obtain ⟨u0, u1, rfl, g0, g1⟩ := hy
  obtain ⟨a0, c0, e0⟩ := h0.form
  obtain ⟨a1, c1, e1⟩ := h1.form
  obtain ⟨b0, d0, e2⟩ := g0.form
  obtain ⟨b1, d1, e3⟩ := g1.form
  have hA := alloc_two w (.cells #[v0, v1] 35) (.cells #[u0, u1] 35)
  have hK := below_le hA hC
  have HA : Hid (Below w.heap.size w ((w.alloc (.cells #[v0, v1] 35)).alloc (.cells #[u0, u1] 35))) := hA
  have T1 : Hid (∀ B, (B = true ↔ x.structs = y.structs) → Calls Try.prog 23 #[v0, u0, .func (.func 24) #[] #[]] ((w.alloc (.cells #[v0, v1] 35)).alloc (.cells #[u0, u1] 35)) fun ev w' => ev = .returned (.bool B) ∧ ∃ m, w' = ((w.alloc (.cells #[v0, v1] 35)).alloc (.cells #[u0, u1] 35)).drewN m) := by
    intro B hB
    exact sameStructs_of (fun _ _ _ _ _ _ _ _ m B hc hc' hx hy hB => sameStruct_any (K := K) (w := World.drewN _ m) hc hc' (hx.below (Below.drewN _ _ _)) (hy.below (Below.drewN _ _ _)) B hB) (h0.mono hK fun _ _ _ q => q.below hK) (g0.mono hK fun _ _ _ q => q.below hK) B hB
  have T2 : Hid (∀ k B, (B = true ↔ x.funcs = y.funcs) → Calls Try.prog 25 #[v1, u1, .func (.func 26) #[] #[]] (((w.alloc (.cells #[v0, v1] 35)).alloc (.cells #[u0, u1] 35)).drewN k) fun ev w' => ev = .returned (.bool B) ∧ ∃ m, w' = (((w.alloc (.cells #[v0, v1] 35)).alloc (.cells #[u0, u1] 35)).drewN k).drewN m) := by
    intro k B hB
    have hK2 := hK.trans (Below.drewN _ ((w.alloc (.cells #[v0, v1] 35)).alloc (.cells #[u0, u1] 35)) k)
    exact sameFuncs_of (fun _ _ _ _ _ _ _ _ m B hc hc' hx hy hB => sameFunc_any (K := K) (w := World.drewN _ m) hc hc' (hx.below (Below.drewN _ _ _)) (hy.below (Below.drewN _ _ _)) B hB) (h1.mono hK2 fun _ _ _ q => q.below hK2) (g1.mono hK2 fun _ _ _ q => q.below hK2) B hB
  have HB : Hid (B = true ↔ x = y) := hB
  clear h0 h1 g0 g1 hB hA hK
  by_cases f0 : x.structs = y.structs
  · have U1 := T1.out true ⟨fun _ => f0, fun _ => rfl⟩
    have U2 : Hid (∀ k, _) := fun k => T2.out k B (by
      rw [HB.out]
      constructor
      · rintro rfl; rfl
      · intro h; cases x; cases y; simp only at f0 h; subst f0 h; rfl)
    clear HB T1 T2 f0
    subst e0 e1 e2 e3
    generalize x.structs.length = n1 at *
    generalize y.structs.length = n2 at *
    generalize x.funcs.length = n3 at *
    generalize y.funcs.length = n4 at *
    go_enter Try.func13, Try.ntmps13
    go_wp2_with fail
    refine U1.mono ?_
    rintro ev w1 ⟨rfl, m, rfl⟩
    go_wp2_with fail
    refine (U2.out m).mono ?_
    rintro ev w1 ⟨rfl, q, rfl⟩
    go_wp2_with fail
    go_ret
    exact ⟨rfl, HA.out.trans (Below.drewN _ _ _)⟩
  · obtain rfl := bool_false HB.out (fun h => f0 (congrArg Crt.structs h))
    have U1 := T1.out false ⟨fun h => (by cases h), fun h => absurd h f0⟩
    clear HB T1 T2 f0
    subst e0 e1 e2 e3
    generalize x.structs.length = n1 at *
    generalize y.structs.length = n2 at *
    generalize x.funcs.length = n3 at *
    generalize y.funcs.length = n4 at *
    go_enter Try.func13, Try.ntmps13
    go_wp2_with fail
    refine U1.mono ?_
    rintro ev w1 ⟨rfl, m, rfl⟩
    go_wp2_with fail
    go_ret
    exact ⟨rfl, HA.out.trans (Below.drewN _ _ _)⟩
end Go.Proofs.Ytjenmmkamhplkaa

namespace Go.Proofs.Ytjenmmkamhplkaa
open Go.RowKit

def letC : List Value := [.int .i64 1, .int .i64 0, .bool true, .string ⟨#[120]⟩, .int .i64 1, .string ⟨#[]⟩, .slice none 0 0, .slice none 0 0, .bool false, .string ⟨#[]⟩, .slice none 0 0, .int .i64 0, .int .i64 0, .int .i64 0, .string ⟨#[]⟩, .slice none 0 0, .int .i64 0, .int .i64 0, .string ⟨#[]⟩, .slice none 0 0, .int .i64 0, .string ⟨#[]⟩, .slice none 0 0, .string ⟨#[]⟩, .slice none 0 0, .slice none 0 0, .int .i64 0, .int .i64 0, .string ⟨#[]⟩, .slice none 0 0, .slice none 0 0, .slice none 0 0]
def badC : List Value := [.int .i64 1, .int .i64 0, .bool true, .string ⟨#[120]⟩, .int .i64 0, .string ⟨#[]⟩, .slice none 0 0, .slice none 0 0, .bool false, .string ⟨#[]⟩, .slice none 0 0, .int .i64 0, .int .i64 0, .int .i64 0, .string ⟨#[]⟩, .slice none 0 0, .int .i64 0, .int .i64 0, .string ⟨#[]⟩, .slice none 0 0, .int .i64 0, .string ⟨#[]⟩, .slice none 0 0, .string ⟨#[]⟩, .slice none 0 0, .slice none 0 0, .int .i64 0, .int .i64 0, .string ⟨#[]⟩, .slice none 0 0, .slice none 0 0, .slice none 0 0]
def parC : List Value := [.bool false, .string ⟨#[112]⟩, .int .i64 2, .string ⟨#[]⟩, .slice none 0 0, .slice none 0 0]
def fncC (p b : Nat) : List Value := [.bool false, .string ⟨#[102]⟩, .slice none 0 0, .slice (some ⟨p, 0, none⟩) 1 1, .int .i64 0, .string ⟨#[]⟩, .slice none 0 0, .slice none 0 0, .slice (some ⟨b, 0, none⟩) 1 1, .int .i64 0]
def letS : St := ⟨1, 0, true, [120], ⟨1, [], [], []⟩, false, Pl.zero, Va.zero, Opr.zero, [], []⟩
def badS : St := ⟨1, 0, true, [120], Ty.zero, false, Pl.zero, Va.zero, Opr.zero, [], []⟩
def parF : Fld := ⟨false, [112], ⟨2, [], [], []⟩⟩
def fncF (s : St) : Fnc := ⟨false, [102], [], [parF], Ty.zero, [s], 0⟩
/-- What is known of the world in which the few lie. -/
structure Few (w W : World) (C gp gl gf gg gb : Nat) : Prop where
  below : Below w.heap.size w W
  size : C ≤ W.heap.size
  hp : gp < C
  hl : gl < C
  hb : gb < C
  pos : w.heap.size ≤ C
  par : Row W gp 52 parC
  lt : Row W gl 50 letC
  fn : Row W gf 30 (fncC gp gl)
  gn : Row W gg 30 (fncC gp gb)
  bd : Row W gb 50 badC
theorem Few.next {w W W' : World} {C gp gl gf gg gb : Nat} (h : Few w W C gp gl gf gg gb) (hb : Below W.heap.size W W') : Few w W' C gp gl gf gg gb :=
  ⟨h.below.trans (below_le hb h.below.size), Nat.le_trans h.size hb.size, h.hp, h.hl, h.hb, h.pos, h.par.below hb h.par.lt, h.lt.below hb h.lt.lt, h.fn.below hb h.fn.lt, h.gn.below hb h.gn.lt, h.bd.below hb h.bd.lt⟩
theorem let_at (n : Nat) (K : Ctx) (hB : 1 ≤ K.B) (w : World) : StAt (n + 1) K w letC letS :=
  ⟨tyCells 1, plCells, vaCells 0, oprCells, _, _, rfl, hB, kind_at K w 1, pl_zero K w, va_zero K w 0, opr_zero K w, nil_ar, nil_ar⟩
theorem bad_at (n : Nat) (K : Ctx) (hB : 1 ≤ K.B) (w : World) : StAt (n + 1) K w badC badS :=
  ⟨tyCells 0, plCells, vaCells 0, oprCells, _, _, rfl, hB, kind_at K w 0, pl_zero K w, va_zero K w 0, opr_zero K w, nil_ar, nil_ar⟩
theorem par_at (K : Ctx) (hB : 1 ≤ K.B) (w : World) : FldAt K w parC parF := ⟨tyCells 2, rfl, hB, kind_at K w 2⟩
theorem one_ar {α : Type} {z bz g : Nat} {P : List Value → α → Prop} {K : Ctx} {w : World} {cs : List Value} {x : α} {t : Nat} (hr : Row w g t cs) (hz : cs.length = z) (hb : bz ≤ 1000) (hg : g < K.C) (hp : P cs x) : Ar z bz P K w (.slice (some ⟨g, 0, none⟩) 1 1) [x] := by
  refine ⟨some ⟨g, 0, none⟩, 1, rfl, Nat.le_refl _, by simp; omega, fun i hi => ?_⟩
  obtain rfl : i = 0 := by simp at hi; omega
  refine ⟨g, 0, rfl, hg, cs, hz, fun j _ => ?_, hp⟩
  rw [Nat.zero_mul, Nat.add_zero, Nat.zero_add]
  exact hr.cell j
theorem fnc_at (n : Nat) (K : Ctx) (hB : 1 ≤ K.B) {w : World} {p b : Nat} {cs : List Value} {s : St} (hp : Row w p 52 parC) (hb : Row w b 50 cs) (hpC : p < K.C) (hbC : b < K.C) (hs : StAt (n + 1) K w cs s) : FncAt (n + 1) K w (fncC p b) (fncF s) :=
  ⟨_, _, tyCells 0, _, rfl, hB, nil_ar, one_ar hp rfl (by decide) hpC (par_at K hB w), kind_at K w 0, one_ar hb hs.len (by decide) hbC hs⟩
theorem may_fn (n : Nat) : MayFnc (n + 1) (fncF letS) := by
  refine ⟨by decide, ⟨by simp [fncF], by simp [fncF]⟩, ⟨by simp [fncF], ?_⟩, .inl rfl, ?_, ?_⟩
  · intro p hp
    simp [fncF] at hp
    subst hp
    exact ⟨by decide, .inl ⟨.inr rfl, rfl, rfl, rfl⟩⟩
  · intro s hs
    simp [fncF] at hs
    subst hs
    exact .inl ⟨rfl, by decide, .inl ⟨.inl rfl, rfl, rfl, rfl⟩, fun h => (by cases h), rfl⟩
  · simp [fncF, cnt, inner, letS]
theorem may_gn (n : Nat) : ¬ MayFnc (n + 1) (fncF badS) := by
  rintro ⟨_, _, _, _, hb, _⟩
  have h := hb badS (by simp [fncF])
  rw [ok_let rfl] at h
  exact mayTy_none (n := 63) (by decide) h.2.1
theorem names_fn (n : Nat) : namesF (n + 1) (fncF letS) = [[112], [120]] := by
  simp [namesF, fncF, letS, parF, ord, letN]
end Go.Proofs.Ytjenmmkamhplkaa
