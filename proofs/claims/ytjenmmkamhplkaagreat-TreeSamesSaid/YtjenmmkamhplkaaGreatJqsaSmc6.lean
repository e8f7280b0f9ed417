/-
  The texts Smc, Sam, Few, Bld, Bl2, Xbq, joined.
-/
import Derived.Test.YtjenmmkamhplkaaGreatJqsaAls2
import Derived.Test.YtjenmmkamhplkaaGreatJqsaStm2
import Derived.Test.YtjenmmkamhplkaaGreatJqsaNms2
import Derived.Great.BuildSlice
import Derived.Test.YtjenmmkamhplkaaGreatQqsaOwi
/- Structs: are two the same? The program says it. -/
namespace Go.Proofs.YtjenmmkamhplkaaGreat
open Go.RowKit
set_option maxHeartbeats 8000000 in
set_option maxRecDepth 20000 in
theorem sameStruct_any  
    {K : Ctx} {w : World} {x y : Sct} {b o b' o' : Nat} {cs cs' : List Value} (hc : ∀ j, j < 5 -> w.cell? ⟨b, o + j, none⟩ = cs[j]?) (hc' : ∀ j, j < 5 -> w.cell? ⟨b', o' + j, none⟩ = cs'[j]?)
    (hx : SctAt K w cs x) (hy : SctAt K w cs' y) (B : Bool) (hB : B = true ↔ x = y) :
    Calls Tryz.prog 35 #[.pointer (some ⟨b, o, none⟩), .pointer (some ⟨b', o', none⟩)] w fun ev w' => ev = .returned (.bool B) /\ ∃ m, w' = w.drewN m := by
  obtain ⟨v2, v3, rfl, hl1, h2, h3⟩ := id hx
  obtain ⟨u2, u3, rfl, hl2, g2, g3⟩ := id hy
  have c0 : w.cell? ⟨b, o, none⟩ = some (.bool x.pub) := hc 0 (by decide)
  have d0 : w.cell? ⟨b', o', none⟩ = some (.bool y.pub) := hc' 0 (by decide)
  have c1 : w.cell? ⟨b, o + 1, none⟩ = some (.string (str x.name)) := hc 1 (by decide)
  have d1 : w.cell? ⟨b', o' + 1, none⟩ = some (.string (str y.name)) := hc' 1 (by decide)
  have c2 : w.cell? ⟨b, o + 4, none⟩ = some (.int .i64 x.pos) := hc 4 (by decide)
  have d2 : w.cell? ⟨b', o' + 4, none⟩ = some (.int .i64 y.pos) := hc' 4 (by decide)
  have c3 : w.cell? ⟨b, o + 2, none⟩ = some v2 := hc 2 (by decide)
  have d3 : w.cell? ⟨b', o' + 2, none⟩ = some u2 := hc' 2 (by decide)
  have c4 : w.cell? ⟨b, o + 3, none⟩ = some v3 := hc 3 (by decide)
  have d4 : w.cell? ⟨b', o' + 3, none⟩ = some u3 := hc' 3 (by decide)
  have HB : Hid (B = true ↔ x = y) := hB
  clear hB
  have q0 : (x.pub == y.pub) = true ↔ x.pub = y.pub := beq_iff_eq
  have q1 : ((str x.name).toList == (str y.name).toList) = true ↔ x.name = y.name := by rw [str_beq]; exact decide_eq_true_iff
  have q2 : (x.pos == y.pos) = true ↔ x.pos = y.pos := beq_iff_eq
  have q3 : Hid (∀ (B : Bool), (B = true ↔ x.lives = y.lives) -> ∀ n, Calls Tryz.prog 69 #[v2, u2] (w.drewN n) fun ev w' => ev = .returned (.bool B) /\ ∃ m, w' = (w.drewN n).drewN m) := by
    intro B hB n
    exact equal_any (h2.below (Below.drewN _ _ _)) (g2.below (Below.drewN _ _ _)) B hB
  have q4 : Hid (∀ (B : Bool), (B = true ↔ x.fields = y.fields) -> ∀ n, Calls Tryz.prog 70 #[v3, u3, .func (.func 71) #[] #[]] (w.drewN n) fun ev w' => ev = .returned (.bool B) /\ ∃ m, w' = (w.drewN n).drewN m) := by
    intro B hB n
    exact sameFields_of (fun _ _ _ _ _ _ _ _ m B hc hc' hx hy hB => sameField_any (K := K) (w := (w.drewN n).drewN m) hc hc' (hx.below (Below.drewN _ _ _)) (hy.below (Below.drewN _ _ _)) B hB) (h3.mono (Below.drewN _ _ _) fun _ _ _ h => h.below (Below.drewN _ _ _)) (g3.mono (Below.drewN _ _ _) fun _ _ _ h => h.below (Below.drewN _ _ _)) B hB
  clear hc hc'
  by_cases e0 : x.pub = y.pub
  rotate_left
  . have HF : Hid (B = false) := by
      show B = false
      cases hB : B
      . rfl
      . exact absurd (congrArg Sct.pub (HB.out.1 hB)) e0
    replace q0 := Bool.eq_false_iff.2 (fun h => e0 (q0.1 h))
    clear HB q1 q2 q3 q4 e0 hx hy c1 d1 c2 d2 c3 d3 c4 d4 hl1 hl2 h2 h3 g2 g3
    generalize x.pub = s0 at *
    generalize y.pub = t0 at *
    go_enter Tryz.func35, Tryz.ntmps35
    go_wp2_with fail
    go_quiet (fail)
    go_wp2_with fail
    go_ret
    exact ⟨by rw [HF.out]; rfl, _, rfl⟩
  by_cases e1 : x.name = y.name
  rotate_left
  . have HF : Hid (B = false) := by
      show B = false
      cases hB : B
      . rfl
      . exact absurd (congrArg Sct.name (HB.out.1 hB)) e1
    replace q0 := q0.2 e0
    replace q1 := Bool.eq_false_iff.2 (fun h => e1 (q1.1 h))
    clear HB q2 q3 q4 e0 e1 hx hy c2 d2 c3 d3 c4 d4 hl1 hl2 h2 h3 g2 g3
    generalize x.pub = s0 at *
    generalize y.pub = t0 at *
    generalize str x.name = s1 at *
    generalize str y.name = t1 at *
    go_enter Tryz.func35, Tryz.ntmps35
    go_wp2_with fail
    go_quiet (fail)
    go_wp2_with fail
    go_ret
    exact ⟨by rw [HF.out]; rfl, _, rfl⟩
  by_cases e2 : x.pos = y.pos
  rotate_left
  . have HF : Hid (B = false) := by
      show B = false
      cases hB : B
      . rfl
      . exact absurd (congrArg Sct.pos (HB.out.1 hB)) e2
    replace q0 := q0.2 e0
    replace q1 := q1.2 e1
    replace q2 := Bool.eq_false_iff.2 (fun h => e2 (q2.1 h))
    clear HB q3 q4 e0 e1 e2 hx hy c3 d3 c4 d4 hl1 hl2 h2 h3 g2 g3
    generalize x.pub = s0 at *
    generalize y.pub = t0 at *
    generalize str x.name = s1 at *
    generalize str y.name = t1 at *
    generalize x.pos = s2 at *
    generalize y.pos = t2 at *
    go_enter Tryz.func35, Tryz.ntmps35
    go_wp2_with fail
    go_quiet (fail)
    go_wp2_with fail
    go_ret
    exact ⟨by rw [HF.out]; rfl, _, rfl⟩
  by_cases e3 : x.lives = y.lives
  rotate_left
  . have HF : Hid (B = false) := by
      show B = false
      cases hB : B
      . rfl
      . exact absurd (congrArg Sct.lives (HB.out.1 hB)) e3
    replace q0 := q0.2 e0
    replace q1 := q1.2 e1
    replace q2 := q2.2 e2
    have r3 := hid0 (q3.out false ⟨fun h => (by cases h), fun h => absurd h e3⟩)
    clear HB q3 q4 e0 e1 e2 e3 hx hy c4 d4 hl1 hl2 h2 h3 g2 g3
    generalize x.pub = s0 at *
    generalize y.pub = t0 at *
    generalize str x.name = s1 at *
    generalize str y.name = t1 at *
    generalize x.pos = s2 at *
    generalize y.pos = t2 at *
    go_enter Tryz.func35, Tryz.ntmps35
    go_wp2_with fail
    go_quiet (first | (go_at_call 69; exact Calls.quiet_of (r3.out _)))
    go_wp2_with fail
    go_ret
    exact ⟨by rw [HF.out]; rfl, _, rfl⟩
  by_cases e4 : x.fields = y.fields
  rotate_left
  . have HF : Hid (B = false) := by
      show B = false
      cases hB : B
      . rfl
      . exact absurd (congrArg Sct.fields (HB.out.1 hB)) e4
    replace q0 := q0.2 e0
    replace q1 := q1.2 e1
    replace q2 := q2.2 e2
    have r3 := hid0 (q3.out true ⟨fun _ => e3, fun _ => rfl⟩)
    have r4 := hid0 (q4.out false ⟨fun h => (by cases h), fun h => absurd h e4⟩)
    clear HB q3 q4 e0 e1 e2 e3 e4 hx hy  hl1 hl2 h2 h3 g2 g3
    generalize x.pub = s0 at *
    generalize y.pub = t0 at *
    generalize str x.name = s1 at *
    generalize str y.name = t1 at *
    generalize x.pos = s2 at *
    generalize y.pos = t2 at *
    go_enter Tryz.func35, Tryz.ntmps35
    go_wp2_with fail
    go_quiet (first | (go_at_call 69; exact Calls.quiet_of (r3.out _)) | (go_at_call 70; exact Calls.quiet_of (r4.out _)))
    go_wp2_with fail
    go_ret
    exact ⟨by rw [HF.out]; rfl, _, rfl⟩
  have HF : Hid (B = true) := by
    refine HB.out.2 ?_
    clear q0 q1 q2 q3 q4 HB hx hy c0 d0 c1 d1 c2 d2 c3 d3 c4 d4 hl1 hl2 h2 h3 g2 g3
    cases x; cases y; simp only at e0 e1 e2 e3 e4; subst e0 e1 e2 e3 e4; rfl
  replace q0 := q0.2 e0
  replace q1 := q1.2 e1
  replace q2 := q2.2 e2
  have r3 := hid0 (q3.out true ⟨fun _ => e3, fun _ => rfl⟩)
  have r4 := hid0 (q4.out true ⟨fun _ => e4, fun _ => rfl⟩)
  clear HB q3 q4 e0 e1 e2 e3 e4 hx hy  hl1 hl2 h2 h3 g2 g3
  generalize x.pub = s0 at *
  generalize y.pub = t0 at *
  generalize str x.name = s1 at *
  generalize str y.name = t1 at *
  generalize x.pos = s2 at *
  generalize y.pos = t2 at *
  go_enter Tryz.func35, Tryz.ntmps35
  go_wp2_with fail
  go_quiet (first | (go_at_call 69; exact Calls.quiet_of (r3.out _)) | (go_at_call 70; exact Calls.quiet_of (r4.out _)))
  go_wp2_with fail
  go_ret
  exact ⟨by rw [HF.out]; rfl, _, rfl⟩

/- Crates: are two the same? The program says it. -/
set_option maxHeartbeats 4000000 in
theorem same_any {n : Nat} {K : Ctx} {w : World} (hC : K.C <= w.heap.size) {x y : Crt} {cs cs' : List Value} (hx : CrtAt n K w cs x) (hy : CrtAt n K w cs' y) (B : Bool) (hB : B = true ↔ x = y) :
    Calls Tryz.prog 12 #[.agg cs.toArray, .agg cs'.toArray] w fun ev w' => ev = .returned (.bool B) /\ Below w.heap.size w w' := by
  obtain ⟨v0, v1, rfl, h0, h1⟩ := hx
  obtain ⟨u0, u1, rfl, g0, g1⟩ := hy
  obtain ⟨a0, c0, e0⟩ := h0.form
  obtain ⟨a1, c1, e1⟩ := h1.form
  obtain ⟨b0, d0, e2⟩ := g0.form
  obtain ⟨b1, d1, e3⟩ := g1.form
  have hA := alloc_two w (.cells #[v0, v1] 25) (.cells #[u0, u1] 25)
  have hK := below_le hA hC
  have HA := hid0 hA
  have T1 : Hid (∀ B, (B = true ↔ x.structs = y.structs) -> Calls Tryz.prog 34 #[v0, u0, .func (.func 35) #[] #[]] ((w.alloc (.cells #[v0, v1] 25)).alloc (.cells #[u0, u1] 25)) fun ev w' => ev = .returned (.bool B) /\ ∃ m, w' = ((w.alloc (.cells #[v0, v1] 25)).alloc (.cells #[u0, u1] 25)).drewN m) := by
    intro B hB
    exact sameStructs_of (fun _ _ _ _ _ _ _ _ m B hc hc' hx hy hB => sameStruct_any (K := K) (w := World.drewN _ m) hc hc' (hx.below (Below.drewN _ _ _)) (hy.below (Below.drewN _ _ _)) B hB) (h0.mono hK fun _ _ _ q => q.below hK) (g0.mono hK fun _ _ _ q => q.below hK) B hB
  have T2 : Hid (∀ k B, (B = true ↔ x.funcs = y.funcs) -> Calls Tryz.prog 36 #[v1, u1, .func (.func 37) #[] #[]] (((w.alloc (.cells #[v0, v1] 25)).alloc (.cells #[u0, u1] 25)).drewN k) fun ev w' => ev = .returned (.bool B) /\ ∃ m, w' = (((w.alloc (.cells #[v0, v1] 25)).alloc (.cells #[u0, u1] 25)).drewN k).drewN m) := by
    intro k B hB
    have hK2 := hK.trans (Below.drewN _ ((w.alloc (.cells #[v0, v1] 25)).alloc (.cells #[u0, u1] 25)) k)
    exact sameFuncs_of (fun _ _ _ _ _ _ _ _ m B hc hc' hx hy hB => sameFunc_any (K := K) (w := World.drewN _ m) hc hc' (hx.below (Below.drewN _ _ _)) (hy.below (Below.drewN _ _ _)) B hB) (h1.mono hK2 fun _ _ _ q => q.below hK2) (g1.mono hK2 fun _ _ _ q => q.below hK2) B hB
  have HB : Hid (B = true ↔ x = y) := hB
  clear h0 h1 g0 g1 hB hA hK
  by_cases f0 : x.structs = y.structs
  . have U1 := T1.out true ⟨fun _ => f0, fun _ => rfl⟩
    have U2 : Hid (∀ k, _) := fun k => T2.out k B (by
      rw [HB.out]
      constructor
      . rintro rfl; rfl
      . intro h; cases x; cases y; simp only at f0 h; subst f0 h; rfl)
    clear HB T1 T2 f0
    subst e0 e1 e2 e3
    generalize x.structs.length = n1 at *
    generalize y.structs.length = n2 at *
    generalize x.funcs.length = n3 at *
    generalize y.funcs.length = n4 at *
    go_enter Tryz.func12, Tryz.ntmps12
    go_wp2_with fail
    refine U1.mono ?_
    rintro ev w1 ⟨rfl, m, rfl⟩
    go_wp2_with fail
    refine (U2.out m).mono ?_
    rintro ev w1 ⟨rfl, q, rfl⟩
    go_wp2_with fail
    go_ret
    exact ⟨rfl, HA.out.trans (Below.drewN _ _ _)⟩
  . obtain rfl := bool_false HB.out (fun h => f0 (congrArg Crt.structs h))
    have U1 := T1.out false ⟨fun h => (by cases h), fun h => absurd h f0⟩
    clear HB T1 T2 f0
    subst e0 e1 e2 e3
    generalize x.structs.length = n1 at *
    generalize y.structs.length = n2 at *
    generalize x.funcs.length = n3 at *
    generalize y.funcs.length = n4 at *
    go_enter Tryz.func12, Tryz.ntmps12
    go_wp2_with fail
    refine U1.mono ?_
    rintro ev w1 ⟨rfl, m, rfl⟩
    go_wp2_with fail
    go_ret
    exact ⟨rfl, HA.out.trans (Below.drewN _ _ _)⟩

/- Does the program tell what the document says of a few? It does. -/
def letC : List Value := [.int .i64 1, .int .i64 0, .bool true, .string ⟨#[120]⟩, .int .i64 1, .string ⟨#[]⟩, .slice none 0 0, .slice none 0 0, .bool false, .string ⟨#[]⟩, .slice none 0 0, .int .i64 0, .int .i64 0, .int .i64 0, .string ⟨#[]⟩, .slice none 0 0, .int .i64 0, .int .i64 0, .string ⟨#[]⟩, .slice none 0 0, .int .i64 0, .string ⟨#[]⟩, .slice none 0 0, .string ⟨#[]⟩, .slice none 0 0, .slice none 0 0, .int .i64 0, .int .i64 0, .string ⟨#[]⟩, .slice none 0 0, .slice none 0 0, .slice none 0 0]
def badC : List Value := [.int .i64 1, .int .i64 0, .bool true, .string ⟨#[120]⟩, .int .i64 0, .string ⟨#[]⟩, .slice none 0 0, .slice none 0 0, .bool false, .string ⟨#[]⟩, .slice none 0 0, .int .i64 0, .int .i64 0, .int .i64 0, .string ⟨#[]⟩, .slice none 0 0, .int .i64 0, .int .i64 0, .string ⟨#[]⟩, .slice none 0 0, .int .i64 0, .string ⟨#[]⟩, .slice none 0 0, .string ⟨#[]⟩, .slice none 0 0, .slice none 0 0, .int .i64 0, .int .i64 0, .string ⟨#[]⟩, .slice none 0 0, .slice none 0 0, .slice none 0 0]
def parC : List Value := [.bool false, .string ⟨#[112]⟩, .int .i64 2, .string ⟨#[]⟩, .slice none 0 0, .slice none 0 0]
def fncC (p b : Nat) : List Value := [.bool false, .string ⟨#[102]⟩, .slice none 0 0, .slice (some ⟨p, 0, none⟩) 1 1, .int .i64 0, .string ⟨#[]⟩, .slice none 0 0, .slice none 0 0, .slice (some ⟨b, 0, none⟩) 1 1, .int .i64 0]
def letS : St := ⟨1, 0, true, [120], ⟨1, [], [], []⟩, false, Pl.zero, Va.zero, Opr.zero, [], []⟩
def badS : St := ⟨1, 0, true, [120], Ty.zero, false, Pl.zero, Va.zero, Opr.zero, [], []⟩
def parF : Fld := ⟨false, [112], ⟨2, [], [], []⟩⟩
def fncF (s : St) : Fnc := ⟨false, [102], [], [parF], Ty.zero, [s], 0⟩
structure Few (w W : World) (C gp gl gf gg gb : Nat) : Prop where
  below : Below w.heap.size w W
  size : C <= W.heap.size
  hp : gp < C
  hl : gl < C
  hb : gb < C
  pos : w.heap.size <= C
  par : Row W gp 51 parC
  lt : Row W gl 49 letC
  fn : Row W gf 40 (fncC gp gl)
  gn : Row W gg 40 (fncC gp gb)
  bd : Row W gb 49 badC
theorem Few.next {w W W' : World} {C gp gl gf gg gb : Nat} (h : Few w W C gp gl gf gg gb) (hb : Below W.heap.size W W') : Few w W' C gp gl gf gg gb :=
  ⟨h.below.trans (below_le hb h.below.size), Nat.le_trans h.size hb.size, h.hp, h.hl, h.hb, h.pos, h.par.below hb h.par.lt, h.lt.below hb h.lt.lt, h.fn.below hb h.fn.lt, h.gn.below hb h.gn.lt, h.bd.below hb h.bd.lt⟩
theorem let_at (n : Nat) (K : Ctx) (hB : 1 <= K.B) (w : World) : StAt (n + 1) K w letC letS :=
  ⟨tyCells 1, plCells, vaCells 0, oprCells, _, _, rfl, hB, kind_at K w 1, pl_zero K w, va_zero K w 0, opr_zero K w, nil_ar, nil_ar⟩
theorem bad_at (n : Nat) (K : Ctx) (hB : 1 <= K.B) (w : World) : StAt (n + 1) K w badC badS :=
  ⟨tyCells 0, plCells, vaCells 0, oprCells, _, _, rfl, hB, kind_at K w 0, pl_zero K w, va_zero K w 0, opr_zero K w, nil_ar, nil_ar⟩
theorem par_at (K : Ctx) (hB : 1 <= K.B) (w : World) : FldAt K w parC parF := ⟨tyCells 2, rfl, hB, kind_at K w 2⟩
theorem one_ar {α : Type} {z bz g : Nat} {P : List Value -> α -> Prop} {K : Ctx} {w : World} {cs : List Value} {x : α} {t : Nat} (hr : Row w g t cs) (hz : cs.length = z) (hb : bz <= 1000) (hg : g < K.C) (hp : P cs x) : Ar z bz P K w (.slice (some ⟨g, 0, none⟩) 1 1) [x] := by
  refine ⟨some ⟨g, 0, none⟩, 1, rfl, Nat.le_refl _, by simp; omega, fun i hi => ?_⟩
  obtain rfl : i = 0 := by simp at hi; omega
  refine ⟨g, 0, rfl, hg, cs, hz, fun j _ => ?_, hp⟩
  rw [Nat.zero_mul, Nat.add_zero, Nat.zero_add]
  exact hr.cell j
theorem fnc_at (n : Nat) (K : Ctx) (hB : 1 <= K.B) {w : World} {p b : Nat} {cs : List Value} {s : St} (hp : Row w p 51 parC) (hb : Row w b 49 cs) (hpC : p < K.C) (hbC : b < K.C) (hs : StAt (n + 1) K w cs s) : FncAt (n + 1) K w (fncC p b) (fncF s) :=
  ⟨_, _, tyCells 0, _, rfl, hB, nil_ar, one_ar hp rfl (by decide) hpC (par_at K hB w), kind_at K w 0, one_ar hb hs.len (by decide) hbC hs⟩
theorem may_fn (n : Nat) : MayFnc (n + 1) (fncF letS) := by
  refine ⟨by decide, ⟨by simp [fncF], by simp [fncF]⟩, ⟨by simp [fncF], ?_⟩, .inl rfl, ?_, ?_⟩
  . intro p hp
    simp [fncF] at hp
    subst hp
    exact ⟨by decide, .inl ⟨.inr rfl, rfl, rfl, rfl⟩⟩
  . intro s hs
    simp [fncF] at hs
    subst hs
    exact .inl ⟨rfl, by decide, .inl ⟨.inl rfl, rfl, rfl, rfl⟩, fun h => (by cases h), rfl⟩
  . simp [fncF, cnt, inner, letS]
theorem may_gn (n : Nat) : ¬ MayFnc (n + 1) (fncF badS) := by
  rintro ⟨_, _, _, _, hb, _⟩
  have h := hb badS (by simp [fncF])
  rw [ok_let rfl] at h
  exact mayTy_none (n := 63) (by decide) h.2.1
theorem names_fn (n : Nat) : namesF (n + 1) (fncF letS) = [[112], [120]] := by
  simp [namesF, fncF, letS, parF, ord, letN]

/- Laws for built values: a struct that is built, a slice of one statement, stores that hand on a world that is a letter. -/
theorem build_as {P : Program} {ops : Array Oper} {rest : List Oper} {o : Oper} {a : Act} {w : World} {Q : Exit -> Act -> World -> Prop} (hgd : o.guard = none) (t : TypeId) (parts : Array (Nat × Operand)) (ho : o.op = .build t parts)
    (cells : Array Value) (vs : List (Nat × Value)) (hv : (parts.map fun (i, x) => (i, a.eval x)).toList = vs) (hb : P.built t vs = some cells) (h : wpList P ops Q rest (a.put o.dst (.agg cells)) w) : wpList P ops Q (o :: rest) a w := by
  refine wpList_plain hgd fun _ hK => wp_build t parts ho (by rw [hv, hb]; rfl) (by rw [hv, hb]; exact hK _ _ h)
theorem store_newL {P : Program} {ops : Array Oper} {rest : List Oper} {o : Oper} {a : Act} {w : World} {Q : Exit -> Act -> World -> Prop} (hgd : o.guard = none) (ty : TypeId) (x y : Operand) (ho : o.op = .store ty x y)
    (cs : List Value) (old : Array Value) (t : TypeId) (hx : a.eval x = .pointer (some ⟨w.heap.size, 0, none⟩)) (hy : a.eval y = .agg cs.toArray) (hi : (P.info? ty).map (·.size) = some cs.toArray.size)
    (hold : old.size = cs.toArray.size) (h1 : cs.toArray.all (·.oneCell') = true)
    (h : ∀ w', Row w' w.heap.size t cs -> Below w.heap.size w w' -> wpList P ops Q rest (a.put o.dst undef) w') : wpList P ops Q (o :: rest) a (w.alloc (.cells old t)) :=
  store_new hgd ty x y ho cs.toArray old t hx hy hi hold h1 (h _ (Row.new w t cs) (alloc_one _ _))
theorem Tryz.info49z : (Tryz.prog.info? 49).map (fun i => (i.zero, i.size, i.bytes)) = some (some (.agg (stCells 0 0).toArray), 32, 496) := by kernel_rfl
theorem store_midL {P : Program} {ops : Array Oper} {rest : List Oper} {o : Oper} {a : Act} {w : World} {Q : Exit -> Act -> World -> Prop} (hgd : o.guard = none) (ty : TypeId) (x y : Operand) (ho : o.op = .store ty x y)
    (g t off : Nat) (A old cs R : List Value) (hr : Row w g t (A ++ (old ++ R))) (hA : A.length = off) (hl : old.length = cs.length) (hx : a.eval x = .pointer (some ⟨g, off, none⟩)) (hy : a.eval y = .agg cs.toArray) (hi : (P.info? ty).map (·.size) = some cs.toArray.size)
    (h1 : cs.toArray.all (·.oneCell') = true)
    (h : ∀ w', Row w' g t (A ++ (cs ++ R)) -> Stay (fun k => k = g) w w' -> wpList P ops Q rest (a.put o.dst undef) w') : wpList P ops Q (o :: rest) a w :=
  wpList_store_mid hgd ty x y ho g off cs.toArray hx hy (hr.there off _ (by simp [hA, hl])) hi h1 (h _ (by simpa using Row.setCells cs old A R w off hr hA hl) (stay_setCells _ _ _ _ (Stay.refl _ _) (fun _ => rfl)))
theorem built_let : Tryz.prog.built 49 [(0, .int .i64 1), (2, .bool true), (3, .string ⟨#[120]⟩), (4, .agg #[.int .i64 1, .string ⟨#[]⟩, .slice none 0 0, .slice none 0 0])] = some letC.toArray := by kernel_rfl

/- A slice of one thing that is built; the few, one by one. -/
theorem Tryz.info51z : (Tryz.prog.info? 51).map (fun i => (i.zero, i.size, i.bytes)) = some (some (.agg (Value.bool false :: .string (str []) :: tyCells 0).toArray), 6, 96) := by kernel_rfl
theorem Tryz.info40z : (Tryz.prog.info? 40).map (fun i => (i.zero, i.size, i.bytes)) = some (some (.agg (Value.bool false :: .string (str []) :: .slice none 0 0 :: .slice none 0 0 :: (tyCells 0 ++ [.slice none 0 0, .int .i64 0])).toArray), 10, 176) := by kernel_rfl
theorem bsliceL {ops : Array Oper} {rest : List Oper} {o : Oper} {a : Act} {w : World} {Q : Exit -> Act -> World -> Prop} (hgd : o.guard = none) (ty el sz bz : Nat) (Z : List Value) (x : Operand) (ho : o.op = .buildSlice ty 1 #[(0, x)])
    (hu : Tryz.prog.underlying ty = some (.slice el)) (hz : (Tryz.prog.info? el).map (fun i => (i.zero, i.size, i.bytes)) = some (some (.agg Z.toArray), sz, bz)) (h1 : 0 < sz) (h2 : sz <= 1000)
    (cs : List Value) (hl : cs.length = sz) (hx : a.eval x = .agg cs.toArray)
    (k : ∀ w', Row w' w.heap.size el cs -> Below w.heap.size w w' -> w.heap.size < w'.heap.size -> wpList Tryz.prog ops Q rest (a.put o.dst (.slice (some ⟨w.heap.size, 0, none⟩) 1 1)) w') : wpList Tryz.prog ops Q (o :: rest) a w := by
  obtain ⟨i0, hi, hz0, hz1, hz2⟩ := info_parts hz
  refine wpList_plain hgd fun _ hK => wp_buildSlice ty el 1 _ ho cs.toArray i0 (.agg Z.toArray) hu hi hz0 (by rw [hz1]; omega) (by rw [hz1]; omega) ?_ (hK _ _ (k _ (Row.new w el cs) (alloc_one _ _) (by rw [size_alloc]; omega)))
  have hw := Go.Great.fill_whole (s := sz) h1 [.agg cs.toArray] ((Array.range (1 * sz)).map ((Value.agg Z.toArray).cells[· % (Value.agg Z.toArray).cells.size]!)) (by simp [Value.cells, hl]) (by simp)
  rw [hz1]
  simp only [List.map_toArray, List.map_cons, List.map_nil, hx]
  simp only [List.zipIdx_cons, List.zipIdx_nil, List.map_cons, List.map_nil] at hw
  refine Eq.trans hw ?_
  simp [Value.cells]
theorem Tryz.size49 : (Tryz.prog.info? 49).map (·.size) = some letC.toArray.size := by kernel_rfl
theorem Tryz.size40 (p b : Nat) : (Tryz.prog.info? 40).map (·.size) = some (fncC p b).toArray.size := by kernel_rfl
theorem Tryz.size31 : (Tryz.prog.info? 31).map (·.size) = some (tyCells 0).toArray.size := by kernel_rfl
theorem one_letC : letC.toArray.all (·.oneCell') = true := by kernel_rfl
theorem one_tyC : (tyCells 0).toArray.all (·.oneCell') = true := by kernel_rfl
theorem one_fncC (p b : Nat) : (fncC p b).toArray.all (·.oneCell') = true := by kernel_rfl
theorem bad_cells : letC.take 4 ++ (tyCells 0 ++ letC.drop 8) = badC := by rfl
theorem strs_of_own {w : World} {base : Nat} {v : Value} {l : List Bs} {K : Ctx} (hK : w.heap.size <= K.C) (hB : ∀ s ∈ l, s.length <= K.B) (h : w.ownsRow base 9 1 v l.length (strs l)) : Ar 1 0 (TxAt K) K w v l := by
  obtain ⟨hlen, h⟩ := h
  rcases h with ⟨rfl, h0⟩ | ⟨g, cap, cur, rfl, hg, hh, h1, h2, h3, h4⟩
  . have : l = [] := List.length_eq_zero_iff.1 h0
    subst this
    exact nil_ar
  . have hR : Row w g 9 cur.toList := ⟨by simpa using hh⟩
    refine ⟨some ⟨g, 0, none⟩, cap, rfl, h1, by omega, fun i hi => ?_⟩
    refine ⟨g, 0, rfl, Nat.lt_of_lt_of_le hR.lt hK, [.string (str l[i])], rfl, fun j hj => ?_, rfl, hB _ (List.getElem_mem hi)⟩
    obtain rfl : j = 0 := by omega
    rw [show (0 + i * 1 + 0) = i by omega, hR.cell i]
    have h5 : (cur.toList.take (l.length * 1))[i]? = (strs l)[i]? := by rw [h4]
    rw [List.getElem?_take_of_lt (by omega)] at h5
    rw [h5]
    simp [strs, hi]
set_option maxHeartbeats 4000000 in
theorem texts_at {bz bz2 : Nat} {K : Ctx} {w : World} {va vb : Value} {la lb : List Bs} (ha : Ar 1 bz (TxAt K) K w va la) (hb : Ar 1 bz2 (TxAt K) K w vb lb) (hl9 : la.length <= 9223372036854775807) (B : Bool) (hB : B = true ↔ la = lb) :
    Calls Tryz.prog 20 #[va, vb] w fun ev w' => ev = .returned (.bool B) /\ ∃ m, w' = w.drewN m := by
  obtain ⟨aoA, capA, rfl, hcA, hbA, hA⟩ := ha.shape
  obtain ⟨aoB, capB, rfl, hcB, hbB, hBB⟩ := hb.shape
  by_cases hlen : la.length = lb.length
  . have b1 : ((la.length : Int) != (lb.length : Int)) = false := by simp; omega
    have HA : Hid (∀ i (h : i < la.length), ∃ b o, aoA = some ⟨b, o, none⟩ /\ w.cell? ⟨b, o + i, none⟩ = some (.string (str la[i]))) := by
      intro i h
      obtain ⟨b, o, e, _, cs, hl, hc, hx⟩ := hA i h
      have := hc 0 (by omega)
      rw [hx.1] at this
      exact ⟨b, o, e, by simpa using this⟩
    have HBB : Hid (∀ i (h : i < lb.length), ∃ b o, aoB = some ⟨b, o, none⟩ /\ w.cell? ⟨b, o + i, none⟩ = some (.string (str lb[i]))) := by
      intro i h
      obtain ⟨b, o, e, _, cs, hl, hc, hx⟩ := hBB i h
      have := hc 0 (by omega)
      rw [hx.1] at this
      exact ⟨b, o, e, by simpa using this⟩
    have HB : Hid (B = true ↔ la = lb) := hB
    have HL : Hid (la.length = lb.length) := hlen
    clear hA hBB hB ha hb hbA hbB hlen
    go_enter Tryz.func20, Tryz.ntmps20
    go_wp2_with fail
    go_loopw [5] (fun i wr => ∃ k : Nat, k <= la.length /\ i = .int .i64 k /\ (∀ j (ha : j < la.length) (hb : j < lb.length), j < k -> la[j] = lb[j]) /\ ∃ m, wr = w.drewN m) (fun i _ => la.length - (intOf i).toNat)
    case atStart => exact ⟨0, by omega, rfl, fun j _ _ h => by omega, 0, rfl⟩
    case round =>
      obtain ⟨k, hk, rfl, hj, m, rfl⟩ := hrel
      have HJ := hid0 hj
      clear hj
      by_cases h3 : k < la.length
      . have h4 : k < lb.length := by rw [← HL.out]; exact h3
        obtain ⟨b, o, e, c1⟩ := HA.out k h3
        obtain ⟨b', o', e', c2⟩ := HBB.out k h4
        subst e e'
        have q := str_beq la[k] lb[k]
        have i1 : (k : Int) < (la.length : Int) := by omega
        have i2 : (k : Int) < (lb.length : Int) := by omega
        by_cases he : la[k] = lb[k]
        . rw [decide_eq_true he] at q
          have q' : ((str la[k]).toList != (str lb[k]).toList) = false := by rw [bne, q]; rfl
          have HJ' : Hid (∀ j (ha : j < la.length) (hb : j < lb.length), j < k + 1 -> la[j] = lb[j]) := by
            intro j ha hb hjk
            rcases Nat.lt_or_ge j k with h | h
            . exact HJ.out j ha hb h
            . obtain rfl : j = k := by omega
              exact he
          clear he
          generalize str la[k] = SA at *
          generalize str lb[k] = SB at *
          go_wp2_with fail
          go_quiet (fail)
          go_wp2_with fail
          go_roundw
          case rel => exact ⟨k + 1, by omega, by go_num, HJ'.out, _, rfl⟩
          case measure => simp [intOf]; omega
        . rw [decide_eq_false he] at q
          have q' : ((str la[k]).toList != (str lb[k]).toList) = true := by rw [bne, q]; rfl
          have HF : Hid (B = false) := by
            show B = false
            cases hB : B
            . rfl
            . exact absurd (HB.out.1 hB) (not_at h3 h4 he)
          clear he
          generalize str la[k] = SA at *
          generalize str lb[k] = SB at *
          go_wp2_with fail
          go_quiet (fail)
          go_wp2_with fail
          go_ret
          exact ⟨by rw [HF.out]; rfl, _, by first | rfl | exact World.drewN_drewN ..⟩
      . have HF : Hid (B = true) := HB.out.2 (eq_upto HL.out fun j ha hb => HJ.out j ha hb (by omega))
        have i1 : ¬ (k : Int) < (la.length : Int) := by omega
        go_wp2_with fail
        go_ret
        exact ⟨by rw [HF.out]; rfl, _, by first | rfl | exact World.drewN_drewN ..⟩
  . have b1 : ((la.length : Int) != (lb.length : Int)) = true := by simp; omega
    have HF : Hid (B = false) := by
      show B = false
      cases hB' : B
      . rfl
      . exact absurd (congrArg List.length (hB.1 hB')) hlen
    clear hA hBB hB ha hb hbA hbB
    go_enter Tryz.func20, Tryz.ntmps20
    go_wp2_with fail
    go_ret
    exact ⟨by rw [HF.out]; rfl, 0, rfl⟩

/- What lies in elder memory, said by a condition on blocks; one thing more at a row of one's own. -/
section
variable {Q : Nat -> Prop} {K : Ctx} {w : World}
theorem Strs.toQ {v : Value} {l : List Bs} (h : Strs K w v l) (hk : ∀ b, b < K.C -> Q b) : StrQ Q K.B w v l := Ar.toQ h hk fun _ _ _ h => h
theorem TyAt.toQ (hk : ∀ b, b < K.C -> Q b) : ∀ {n : Nat} {cs : List Value} {t : Ty}, TyAt n K w cs t -> TyQ n Q K.B w cs t
  | 0, _, _, h => h.elim
  | n + 1, _, _, h => by
    obtain ⟨v2, v3, e, h1, h2, h3⟩ := h
    exact ⟨v2, v3, e, h1, h2.toQ hk, h3.toQ hk fun _ _ _ h => TyAt.toQ hk h⟩
theorem IsTy.toQ {cs : List Value} {t : Ty} (h : IsTy K w cs t) (hk : ∀ b, b < K.C -> Q b) : IsTyQ Q K.B w cs t := by obtain ⟨n, h⟩ := h; exact ⟨n, h.toQ hk⟩
theorem PlAt.toQ {cs : List Value} {t : Pl} (h : PlAt K w cs t) (hk : ∀ b, b < K.C -> Q b) : PlQ Q K.B w cs t := by obtain ⟨v1, e, h1, h2⟩ := h; exact ⟨v1, e, h1, h2.toQ hk⟩
theorem OprAt.toQ {cs : List Value} {t : Opr} (h : OprAt K w cs t) (hk : ∀ b, b < K.C -> Q b) : OprQ Q K.B w cs t := by obtain ⟨v1, e, h1⟩ := h; exact ⟨v1, e, h1.toQ hk⟩
theorem VaAt.toQ {cs : List Value} {t : Va} (h : VaAt K w cs t) (hk : ∀ b, b < K.C -> Q b) : VaQ Q K.B w cs t := by
  obtain ⟨xa, xb, ps, vn, va, e, h1, h2, h3, h4, h5, h6⟩ := h
  exact ⟨xa, xb, ps, vn, va, e, h1.toQ hk, h2.toQ hk, h3.toQ hk, h4, h5.toQ hk, h6.toQ hk fun _ _ _ h => h.toQ hk⟩
theorem LfeAt.toQ {cs : List Value} {t : Lfe} (h : LfeAt K w cs t) (hk : ∀ b, b < K.C -> Q b) : LfeQ Q K.B w cs t := by obtain ⟨v1, e, h1, h2⟩ := h; exact ⟨v1, e, h1, h2.toQ hk⟩
theorem FldAt.toQ {cs : List Value} {t : Fld} (h : FldAt K w cs t) (hk : ∀ b, b < K.C -> Q b) : FldQ Q K.B w cs t := by obtain ⟨v1, e, h1, h2⟩ := h; exact ⟨v1, e, h1, h2.toQ hk⟩
end
theorem app_one {ops : Array Oper} {rest : List Oper} {o : Oper} {a : Act} {Q : Exit -> Act -> World -> Prop} {w : World} (hgd : o.guard = none) (s x : Operand) (t el z bz : Nat) (Z : Value)
    (ho : o.op = .call { callee := .builtin .append, args := #[s, x], argTypes := #[t, t] }) (hu : Tryz.prog.underlying t = some (.slice el))
    (hz : (Tryz.prog.info? el).map (fun i => (i.zero, i.size, i.bytes)) = some (some Z, z, bz)) (hZ : Z.cells.size = z) (h0 : 0 < z) (v : Value) (hs : a.eval s = v) (g : Nat) (hx : a.eval x = .slice (some ⟨g, 0, none⟩) 1 1)
    (B n : Nat) (xs cs : List Value) (hh : w.ownsRow B el z v n xs /\ B <= w.heap.size /\ Row w g el cs /\ cs.length = z /\ (∀ u ∈ cs, u.oneCell' = true) /\ n <= 4611686018427387903 /\ (n + 1) * bz <= 140737488355328)
    (k : ∀ g' cp w', w'.ownsRow B el z (.slice (some ⟨g', 0, none⟩) (n + 1) cp) (n + 1) (xs ++ cs) -> w.grownBy w' v.ownBlock -> (some g' = v.ownBlock ∨ g' = w.heap.size) -> wpList Tryz.prog ops Q rest (a.put o.dst (.slice (some ⟨g', 0, none⟩) (n + 1) cp)) w') :
    wpList Tryz.prog ops Q (o :: rest) a w := by
  obtain ⟨hown, hB, hr, hc, h1, hn, hb⟩ := hh
  obtain ⟨i0, hi, hz0, hz1, hz2⟩ := info_parts hz
  refine wpList_plain hgd fun K hK => ?_
  obtain ⟨v', w', hrr, h2, h3, h4, h5⟩ := run_append_own_at (P := Tryz.prog) w B t o.type el i0 Z z bz hu hi hz0 hz1 hz2 hZ h0 v n xs hown ⟨g, 0, none⟩ 1 1 cs (by rw [hc, Nat.one_mul])
    (fun j u hj => by rw [addr_add, Nat.zero_add, hr.cell j]; exact hj) h1 (by unfold maxLen; omega) hb hB
  unfold Oper.wp execOp
  simp only [ho, resolve, invoke, builtin, Sem.run_bind, Sem.run_pure, Result.andThen_ok, List.map_toArray, List.map_cons, List.map_nil, hs, hx, hrr]
  rcases h2.2 with ⟨rfl, hm0⟩ | ⟨g1, cp, cur, rfl, _⟩
  . omega
  . exact hK _ _ (k g1 cp w' h2 h3 (by
      rcases h5 with h5 | h5
      . exact .inl h5
      . right; injection h5))
def Qx (K : Ctx) (w wr : World) (v : Value) (b : Nat) : Prop := b < K.C ∨ (w.heap.size <= b /\ b < wr.heap.size /\ v.ownBlock ≠ some b)
def QK (K : Ctx) (w wr : World) (b : Nat) : Prop := b < K.C ∨ Fr w wr b
theorem Kp.below {K : Ctx} {w wr W : World} {v : Value} (hC : K.C <= w.heap.size) (hw : w.heap.size <= wr.heap.size) (h : Below wr.heap.size wr W) : Kp (Qx K w wr v) (Qx K w W v) wr W := by
  have hz := h.size
  refine ⟨fun b hb => ?_, fun b hb => ?_⟩
  . rcases hb with hb | ⟨h1, h2, h3⟩
    . exact .inl hb
    . exact .inr ⟨h1, by omega, h3⟩
  . refine h.block b ?_
    rcases hb with hb | ⟨h1, h2, h3⟩ <;> omega
theorem Kp.grown {K : Ctx} {w W W' : World} {v v' : Value} (hC : K.C <= w.heap.size) (hw : w.heap.size <= W.heap.size) (h : W.grownBy W' v.ownBlock) (hv : ∀ g, v.ownBlock = some g -> w.heap.size <= g) (hv' : v'.ownBlock = v.ownBlock ∨ v'.ownBlock = some W.heap.size) :
    Kp (Qx K w W v) (Qx K w W' v') W W' := by
  have hz := h.size
  have hlt : ∀ b, Qx K w W v b -> b < W.heap.size /\ v.ownBlock ≠ some b := by
    rintro b (hb | ⟨h1, h2, h3⟩)
    . refine ⟨by omega, fun e => ?_⟩
      have := hv b e
      omega
    . exact ⟨h2, h3⟩
  refine ⟨fun b hb => ?_, fun b hb => h.block b (hlt b hb).1 (fun e => (hlt b hb).2 e.symm)⟩
  rcases hb with hb | ⟨h1, h2, h3⟩
  . exact .inl hb
  . refine .inr ⟨h1, by omega, ?_⟩
    rcases hv' with e | e
    . rw [e]; exact h3
    . rw [e]; intro h'; injection h' with h'; omega
end Go.Proofs.YtjenmmkamhplkaaGreat
