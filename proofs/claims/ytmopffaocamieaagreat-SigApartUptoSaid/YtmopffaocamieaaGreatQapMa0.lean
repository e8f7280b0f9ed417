/-
  Functions without bodies, and crates of such: may one be? The program says it.
-/
import Derived.Test.YtmopffaocamieaaGreatJapPrc2
namespace Go.Proofs.YtmopffaocamieaaGreat
open Go.RowKit

def MayFn0 (x : Fnc) : Prop := nameB x.name = true ∧ (x.lives.length ≤ 64 ∧ ∀ l ∈ x.lives, MayLfe l) ∧ (x.params.length ≤ 64 ∧ ∀ p ∈ x.params, MayPar p) ∧ MayRes x.result
def MayCr0 (c : Crt) : Prop := c.structs.length + c.funcs.length ≤ 256 ∧ (∀ s ∈ c.structs, MaySct s) ∧ ∀ f ∈ c.funcs, MayFn0 f
structure Fm0 (K : Ctx) (w : World) (cells : List Value) (a : World) : Prop where
  env : Env K a
  row : Row a w.heap.size 65 cells
  rb : Row a (w.heap.size + 1) 203 [.int .i64 2000]
  bel : Below w.heap.size w a
  kc : Below K.C w a
  C : K.C ≤ w.heap.size
set_option maxHeartbeats 2000000 in
theorem all170_nil (a : Option Addr) (c : Nat) (f : Value) (w : World) : Calls Tryz.prog 170 #[.slice a 0 c, f] w fun ev w' => ev = .returned (.bool true) ∧ w' = w := by
  go_enter Tryz.func170, Tryz.ntmps170
  go_wp2_with fail
  refine wp_loop_rounds 1 ?_
  rw [rounds_succ]
  go_wp2_with fail
  go_ret
  exact ⟨rfl, rfl⟩
set_option maxHeartbeats 4000000 in
theorem block_nil {w : World} {gb : Nat} (hr : Row w gb 203 [.int .i64 2000]) (p : Option Addr) (c : Nat) :
    Calls Tryz.prog 134 #[.pointer (some ⟨gb, 0, none⟩), .slice p 0 c, .int .i64 1] w fun ev w' => ev = .returned (.bool true) ∧ Stay (fun k => k = gb) w w' := by
  have hlt := hr.lt
  have C := fun f w => all170_nil p c f w
  obtain ⟨W, hW⟩ : ∃ W, W = (w.alloc (.cells #[.pointer (some ⟨gb, 0, none⟩)] 241)).alloc (.cells #[.int .i64 1] 3) := ⟨_, rfl⟩
  have rW : Row W gb 203 [.int .i64 2000] := by rw [hW]; exact (hr.alloc _).alloc _
  have c0 : ((w.alloc (.cells #[.pointer (some ⟨gb, 0, none⟩)] 241)).alloc (.cells #[.int .i64 1] 3)).cell? ⟨gb, 0, none⟩ = some (.int .i64 2000) := by rw [← hW]; exact rW.cell 0
  have z0 : ((w.alloc (.cells #[.pointer (some ⟨gb, 0, none⟩)] 241)).alloc (.cells #[.int .i64 1] 3)).frozen? ⟨gb, 0, none⟩ = false := by rw [← hW]; exact rW.fz 0
  have HS : Hid (Stay (fun k => k = gb) w (((w.setCell ⟨gb, 0, none⟩ (.int .i64 2000)).alloc (.cells #[.pointer (some ⟨gb, 0, none⟩)] 241)).alloc (.cells #[.int .i64 1] 3))) := (Stay.set (X := fun k => k = gb) (Stay.refl _ _) (fun _ => rfl) _ _).trans (Stay.of_below (alloc_two _ _ _))
  clear hW rW hr
  go_enter Tryz.func134, Tryz.ntmps134
  go_wp2_with fail
  refine (C _ _).mono ?_
  rintro _ _ ⟨rfl, rfl⟩
  go_wp2_with fail
  go_ret
  exact ⟨rfl, HS.out⟩
theorem Fm0.next {K : Ctx} {w a a' : World} {cells : List Value} (h : Fm0 K w cells a) (hb : Below a.heap.size a a') : Fm0 K w cells a' :=
  ⟨h.env.below (below_le hb h.env.C), h.row.below hb h.row.lt, h.rb.below hb h.rb.lt, h.bel.trans (below_le hb h.bel.size), h.kc.trans (below_le hb h.env.C), h.C⟩
theorem Fm0.first {K : Ctx} {w : World} (cells : List Value) (he : Env K w) : Fm0 K w cells ((w.alloc (.cells cells.toArray 65)).alloc (.cells #[.int .i64 2000] 203)) := by
  have hA := alloc_two w (.cells cells.toArray 65) (.cells #[.int .i64 2000] 203)
  have r1 := Row.new (w.alloc (.cells cells.toArray 65)) 203 [.int .i64 2000]
  rw [size_alloc] at r1
  exact ⟨he.below (below_le hA he.C), (Row.new w 65 cells).alloc _, r1, hA, below_le hA he.C, he.C⟩

set_option maxHeartbeats 8000000 in
set_option maxRecDepth 20000 in
theorem mayFunc0_any {n : Nat} {K : Ctx} {w : World} (he : Env K w) {x : Fnc} {cs : List Value} (hx : FncAt n K w cs x) (hx0 : x.body = []) (B : Bool) (hB : B = true ↔ MayFn0 x) :
    Calls Tryz.prog 85 #[.agg cs.toArray] w fun ev w' => ev = .returned (.bool B) ∧ Below w.heap.size w w' := by
  have hsm := K.small
  obtain ⟨v2, v3, ts, v8, rfl, hl, hli, hpa, hre, hbo⟩ := hx
  obtain ⟨t2, m2, d2, t3, m3, d3, rfl⟩ := hre.open
  obtain ⟨lp, lc, rfl⟩ := hli.form
  obtain ⟨pp, pc, rfl⟩ := hpa.form
  obtain ⟨bp, bc, rfl⟩ := hbo.form
  have F0 : Hid (Fm0 K w [.bool x.pub, .string (str x.name), .slice lp x.lives.length lc, .slice pp x.params.length pc, .int .i64 x.result.kind, .string (str x.result.name), .slice t2 m2 d2, .slice t3 m3 d3, .slice bp x.body.length bc, .int .i64 x.pos] ((w.alloc (.cells #[.bool x.pub, .string (str x.name), .slice lp x.lives.length lc, .slice pp x.params.length pc, .int .i64 x.result.kind, .string (str x.result.name), .slice t2 m2 d2, .slice t3 m3 d3, .slice bp x.body.length bc, .int .i64 x.pos] 65)).alloc (.cells #[.int .i64 2000] 203))) := Fm0.first _ he
  have N0 : Hid (Calls Tryz.prog 40 #[.string (str x.name)] ((w.alloc (.cells #[.bool x.pub, .string (str x.name), .slice lp x.lives.length lc, .slice pp x.params.length pc, .int .i64 x.result.kind, .string (str x.result.name), .slice t2 m2 d2, .slice t3 m3 d3, .slice bp x.body.length bc, .int .i64 x.pos] 65)).alloc (.cells #[.int .i64 2000] 203)) fun ev w' => ev = .returned (.bool (nameB x.name)) ∧ w' = ((w.alloc (.cells #[.bool x.pub, .string (str x.name), .slice lp x.lives.length lc, .slice pp x.params.length pc, .int .i64 x.result.kind, .string (str x.result.name), .slice t2 m2 d2, .slice t3 m3 d3, .slice bp x.body.length bc, .int .i64 x.pos] 65)).alloc (.cells #[.int .i64 2000] 203))) := name_any _ (by omega) _
  have T1 : Hid (∀ (a : World) (B : Bool), Fm0 K w [.bool x.pub, .string (str x.name), .slice lp x.lives.length lc, .slice pp x.params.length pc, .int .i64 x.result.kind, .string (str x.result.name), .slice t2 m2 d2, .slice t3 m3 d3, .slice bp x.body.length bc, .int .i64 x.pos] a → (B = true ↔ (x.lives.length ≤ 64 ∧ ∀ l ∈ x.lives, MayLfe l)) → Calls Tryz.prog 130 #[.slice lp x.lives.length lc, .func (.func 131) #[] #[]] a fun ev w' => ev = .returned (.bool B) ∧ Fm0 K w [.bool x.pub, .string (str x.name), .slice lp x.lives.length lc, .slice pp x.params.length pc, .int .i64 x.result.kind, .string (str x.result.name), .slice t2 m2 d2, .slice t3 m3 d3, .slice bp x.body.length bc, .int .i64 x.pos] w') := by
    intro a B h hB
    exact (partsLifes h.env (fun _ _ _ he hx B hB => mayLife_any he hx B hB) (hli.mono h.kc fun _ _ _ q => q.below h.kc) B hB).mono fun _ _ q => ⟨q.1, h.next q.2⟩
  have T2 : Hid (∀ (a : World) (B : Bool), Fm0 K w [.bool x.pub, .string (str x.name), .slice lp x.lives.length lc, .slice pp x.params.length pc, .int .i64 x.result.kind, .string (str x.result.name), .slice t2 m2 d2, .slice t3 m3 d3, .slice bp x.body.length bc, .int .i64 x.pos] a → (B = true ↔ (x.params.length ≤ 64 ∧ ∀ p ∈ x.params, MayPar p)) → Calls Tryz.prog 128 #[.slice pp x.params.length pc, .func (.func 132) #[] #[]] a fun ev w' => ev = .returned (.bool B) ∧ Fm0 K w [.bool x.pub, .string (str x.name), .slice lp x.lives.length lc, .slice pp x.params.length pc, .int .i64 x.result.kind, .string (str x.result.name), .slice t2 m2 d2, .slice t3 m3 d3, .slice bp x.body.length bc, .int .i64 x.pos] w') := by
    intro a B h hB
    exact (partsParams h.env (fun _ _ _ he hx B hB => mayParam_any he hx B hB) (hpa.mono h.kc fun _ _ _ q => q.below h.kc) B hB).mono fun _ _ q => ⟨q.1, h.next q.2⟩
  have T3 : Hid (∀ (a : World) (B : Bool), Fm0 K w [.bool x.pub, .string (str x.name), .slice lp x.lives.length lc, .slice pp x.params.length pc, .int .i64 x.result.kind, .string (str x.result.name), .slice t2 m2 d2, .slice t3 m3 d3, .slice bp x.body.length bc, .int .i64 x.pos] a → (B = true ↔ MayRes x.result) → Calls Tryz.prog 133 #[.agg #[.int .i64 x.result.kind, .string (str x.result.name), .slice t2 m2 d2, .slice t3 m3 d3]] a fun ev w' => ev = .returned (.bool B) ∧ Fm0 K w [.bool x.pub, .string (str x.name), .slice lp x.lives.length lc, .slice pp x.params.length pc, .int .i64 x.result.kind, .string (str x.result.name), .slice t2 m2 d2, .slice t3 m3 d3, .slice bp x.body.length bc, .int .i64 x.pos] w') := by
    intro a B h hB
    exact (mayResult_any h.env (cs := [.int .i64 x.result.kind, .string (str x.result.name), .slice t2 m2 d2, .slice t3 m3 d3]) (hre.below h.kc) B hB).mono fun _ _ q => ⟨q.1, h.next q.2⟩
  have T4 : Hid (∀ (a : World), Fm0 K w [.bool x.pub, .string (str x.name), .slice lp x.lives.length lc, .slice pp x.params.length pc, .int .i64 x.result.kind, .string (str x.result.name), .slice t2 m2 d2, .slice t3 m3 d3, .slice bp x.body.length bc, .int .i64 x.pos] a → Calls Tryz.prog 134 #[.pointer (some ⟨w.heap.size + 1, 0, none⟩), .slice bp x.body.length bc, .int .i64 1] a fun ev w' => ev = .returned (.bool true) ∧ Below w.heap.size w w') := by
    intro a h
    rw [hx0]
    refine (block_nil h.rb bp bc).mono ?_
    rintro _ _ ⟨rfl, hs⟩
    exact ⟨rfl, h.bel.trans (hs.below h.bel.size (fun k hk => by omega))⟩
  have HB : Hid (B = true ↔ MayFn0 x) := hB
  clear hB he hli hpa hre hbo hl hx0
  cases f0 : nameB x.name
  · have HF : Hid (B = false) := bool_false HB.out (fun h => by have h' := h.1; rw [f0] at h'; cases h')
    rw [f0] at N0
    clear HB T1 T2 T3 T4 f0
    generalize x.pub = pb at *
    generalize str x.name = nm1 at *
    generalize x.lives.length = l1 at *
    generalize x.params.length = l2 at *
    generalize x.result.kind = rk at *
    generalize str x.result.name = rn1 at *
    generalize x.body.length = l3 at *
    generalize x.pos = ps at *
    go_enter Tryz.func85, Tryz.ntmps85
    go_wp2_with fail
    refine N0.out.mono ?_
    rintro ev w0 ⟨rfl, rfl⟩
    go_wp2_with fail
    go_ret
    exact ⟨by rw [HF.out]; rfl, (F0.out).bel⟩
  by_cases f1 : (x.lives.length ≤ 64 ∧ ∀ l ∈ x.lives, MayLfe l)
  rotate_left
  · have HF : Hid (B = false) := bool_false HB.out (fun h => f1 h.2.1)
    rw [f0] at N0
    have U1 : Hid (∀ a h, _) := fun a h => T1.out a false h ⟨fun h => (by cases h), fun h => absurd h f1⟩
    clear HB T1 T2 T3 T4 f0 f1
    generalize x.pub = pb at *
    generalize str x.name = nm1 at *
    generalize x.lives.length = l1 at *
    generalize x.params.length = l2 at *
    generalize x.result.kind = rk at *
    generalize str x.result.name = rn1 at *
    generalize x.body.length = l3 at *
    generalize x.pos = ps at *
    go_enter Tryz.func85, Tryz.ntmps85
    go_wp2_with fail
    refine N0.out.mono ?_
    rintro ev w0 ⟨rfl, rfl⟩
    go_wp2_with fail
    refine (U1.out _ (F0.out)).mono ?_
    rintro ev w1 ⟨rfl, fm1⟩
    have e11 : w1.cell? ⟨w.heap.size, 2, none⟩ = some (.slice lp l1 lc) := fm1.row.cell 2
    have e12 : w1.cell? ⟨w.heap.size, 3, none⟩ = some (.slice pp l2 pc) := fm1.row.cell 3
    have e14 : w1.cell? ⟨w.heap.size, 4, none⟩ = some (.int .i64 rk) := fm1.row.cell 4
    have e15 : w1.cell? ⟨w.heap.size, 5, none⟩ = some (.string rn1) := fm1.row.cell 5
    have e16 : w1.cell? ⟨w.heap.size, 6, none⟩ = some (.slice t2 m2 d2) := fm1.row.cell 6
    have e17 : w1.cell? ⟨w.heap.size, 7, none⟩ = some (.slice t3 m3 d3) := fm1.row.cell 7
    have e18 : w1.cell? ⟨w.heap.size, 8, none⟩ = some (.slice bp l3 bc) := fm1.row.cell 8
    go_wp2_with fail
    go_ret
    exact ⟨by rw [HF.out]; rfl, (fm1).bel⟩
  by_cases f2 : (x.params.length ≤ 64 ∧ ∀ p ∈ x.params, MayPar p)
  rotate_left
  · have HF : Hid (B = false) := bool_false HB.out (fun h => f2 h.2.2.1)
    rw [f0] at N0
    have U1 : Hid (∀ a h, _) := fun a h => T1.out a true h ⟨fun _ => f1, fun _ => rfl⟩
    have U2 : Hid (∀ a h, _) := fun a h => T2.out a false h ⟨fun h => (by cases h), fun h => absurd h f2⟩
    clear HB T1 T2 T3 T4 f0 f1 f2
    generalize x.pub = pb at *
    generalize str x.name = nm1 at *
    generalize x.lives.length = l1 at *
    generalize x.params.length = l2 at *
    generalize x.result.kind = rk at *
    generalize str x.result.name = rn1 at *
    generalize x.body.length = l3 at *
    generalize x.pos = ps at *
    go_enter Tryz.func85, Tryz.ntmps85
    go_wp2_with fail
    refine N0.out.mono ?_
    rintro ev w0 ⟨rfl, rfl⟩
    go_wp2_with fail
    refine (U1.out _ (F0.out)).mono ?_
    rintro ev w1 ⟨rfl, fm1⟩
    have e11 : w1.cell? ⟨w.heap.size, 2, none⟩ = some (.slice lp l1 lc) := fm1.row.cell 2
    have e12 : w1.cell? ⟨w.heap.size, 3, none⟩ = some (.slice pp l2 pc) := fm1.row.cell 3
    have e14 : w1.cell? ⟨w.heap.size, 4, none⟩ = some (.int .i64 rk) := fm1.row.cell 4
    have e15 : w1.cell? ⟨w.heap.size, 5, none⟩ = some (.string rn1) := fm1.row.cell 5
    have e16 : w1.cell? ⟨w.heap.size, 6, none⟩ = some (.slice t2 m2 d2) := fm1.row.cell 6
    have e17 : w1.cell? ⟨w.heap.size, 7, none⟩ = some (.slice t3 m3 d3) := fm1.row.cell 7
    have e18 : w1.cell? ⟨w.heap.size, 8, none⟩ = some (.slice bp l3 bc) := fm1.row.cell 8
    go_wp2_with fail
    refine (U2.out _ (fm1)).mono ?_
    rintro ev w2 ⟨rfl, fm2⟩
    have e21 : w2.cell? ⟨w.heap.size, 2, none⟩ = some (.slice lp l1 lc) := fm2.row.cell 2
    have e22 : w2.cell? ⟨w.heap.size, 3, none⟩ = some (.slice pp l2 pc) := fm2.row.cell 3
    have e24 : w2.cell? ⟨w.heap.size, 4, none⟩ = some (.int .i64 rk) := fm2.row.cell 4
    have e25 : w2.cell? ⟨w.heap.size, 5, none⟩ = some (.string rn1) := fm2.row.cell 5
    have e26 : w2.cell? ⟨w.heap.size, 6, none⟩ = some (.slice t2 m2 d2) := fm2.row.cell 6
    have e27 : w2.cell? ⟨w.heap.size, 7, none⟩ = some (.slice t3 m3 d3) := fm2.row.cell 7
    have e28 : w2.cell? ⟨w.heap.size, 8, none⟩ = some (.slice bp l3 bc) := fm2.row.cell 8
    go_wp2_with fail
    go_ret
    exact ⟨by rw [HF.out]; rfl, (fm2).bel⟩
  by_cases f3 : MayRes x.result
  rotate_left
  · have HF : Hid (B = false) := bool_false HB.out (fun h => f3 h.2.2.2)
    rw [f0] at N0
    have U1 : Hid (∀ a h, _) := fun a h => T1.out a true h ⟨fun _ => f1, fun _ => rfl⟩
    have U2 : Hid (∀ a h, _) := fun a h => T2.out a true h ⟨fun _ => f2, fun _ => rfl⟩
    have U3 : Hid (∀ a h, _) := fun a h => T3.out a false h ⟨fun h => (by cases h), fun h => absurd h f3⟩
    clear HB T1 T2 T3 T4 f0 f1 f2 f3
    generalize x.pub = pb at *
    generalize str x.name = nm1 at *
    generalize x.lives.length = l1 at *
    generalize x.params.length = l2 at *
    generalize x.result.kind = rk at *
    generalize str x.result.name = rn1 at *
    generalize x.body.length = l3 at *
    generalize x.pos = ps at *
    go_enter Tryz.func85, Tryz.ntmps85
    go_wp2_with fail
    refine N0.out.mono ?_
    rintro ev w0 ⟨rfl, rfl⟩
    go_wp2_with fail
    refine (U1.out _ (F0.out)).mono ?_
    rintro ev w1 ⟨rfl, fm1⟩
    have e11 : w1.cell? ⟨w.heap.size, 2, none⟩ = some (.slice lp l1 lc) := fm1.row.cell 2
    have e12 : w1.cell? ⟨w.heap.size, 3, none⟩ = some (.slice pp l2 pc) := fm1.row.cell 3
    have e14 : w1.cell? ⟨w.heap.size, 4, none⟩ = some (.int .i64 rk) := fm1.row.cell 4
    have e15 : w1.cell? ⟨w.heap.size, 5, none⟩ = some (.string rn1) := fm1.row.cell 5
    have e16 : w1.cell? ⟨w.heap.size, 6, none⟩ = some (.slice t2 m2 d2) := fm1.row.cell 6
    have e17 : w1.cell? ⟨w.heap.size, 7, none⟩ = some (.slice t3 m3 d3) := fm1.row.cell 7
    have e18 : w1.cell? ⟨w.heap.size, 8, none⟩ = some (.slice bp l3 bc) := fm1.row.cell 8
    go_wp2_with fail
    refine (U2.out _ (fm1)).mono ?_
    rintro ev w2 ⟨rfl, fm2⟩
    have e21 : w2.cell? ⟨w.heap.size, 2, none⟩ = some (.slice lp l1 lc) := fm2.row.cell 2
    have e22 : w2.cell? ⟨w.heap.size, 3, none⟩ = some (.slice pp l2 pc) := fm2.row.cell 3
    have e24 : w2.cell? ⟨w.heap.size, 4, none⟩ = some (.int .i64 rk) := fm2.row.cell 4
    have e25 : w2.cell? ⟨w.heap.size, 5, none⟩ = some (.string rn1) := fm2.row.cell 5
    have e26 : w2.cell? ⟨w.heap.size, 6, none⟩ = some (.slice t2 m2 d2) := fm2.row.cell 6
    have e27 : w2.cell? ⟨w.heap.size, 7, none⟩ = some (.slice t3 m3 d3) := fm2.row.cell 7
    have e28 : w2.cell? ⟨w.heap.size, 8, none⟩ = some (.slice bp l3 bc) := fm2.row.cell 8
    go_wp2_with fail
    refine (U3.out _ (fm2)).mono ?_
    rintro ev w3 ⟨rfl, fm3⟩
    have e31 : w3.cell? ⟨w.heap.size, 2, none⟩ = some (.slice lp l1 lc) := fm3.row.cell 2
    have e32 : w3.cell? ⟨w.heap.size, 3, none⟩ = some (.slice pp l2 pc) := fm3.row.cell 3
    have e34 : w3.cell? ⟨w.heap.size, 4, none⟩ = some (.int .i64 rk) := fm3.row.cell 4
    have e35 : w3.cell? ⟨w.heap.size, 5, none⟩ = some (.string rn1) := fm3.row.cell 5
    have e36 : w3.cell? ⟨w.heap.size, 6, none⟩ = some (.slice t2 m2 d2) := fm3.row.cell 6
    have e37 : w3.cell? ⟨w.heap.size, 7, none⟩ = some (.slice t3 m3 d3) := fm3.row.cell 7
    have e38 : w3.cell? ⟨w.heap.size, 8, none⟩ = some (.slice bp l3 bc) := fm3.row.cell 8
    go_wp2_with fail
    go_ret
    exact ⟨by rw [HF.out]; rfl, (fm3).bel⟩
  have HF : Hid (B = true) := HB.out.2 ⟨f0, f1, f2, f3⟩
  rw [f0] at N0
  have U1 : Hid (∀ a h, _) := fun a h => T1.out a true h ⟨fun _ => f1, fun _ => rfl⟩
  have U2 : Hid (∀ a h, _) := fun a h => T2.out a true h ⟨fun _ => f2, fun _ => rfl⟩
  have U3 : Hid (∀ a h, _) := fun a h => T3.out a true h ⟨fun _ => f3, fun _ => rfl⟩
  have U4 : Hid (∀ a h, _) := fun a h => T4.out a h
  clear HB T1 T2 T3 T4 f0 f1 f2 f3
  generalize x.pub = pb at *
  generalize str x.name = nm1 at *
  generalize x.lives.length = l1 at *
  generalize x.params.length = l2 at *
  generalize x.result.kind = rk at *
  generalize str x.result.name = rn1 at *
  generalize x.body.length = l3 at *
  generalize x.pos = ps at *
  go_enter Tryz.func85, Tryz.ntmps85
  go_wp2_with fail
  refine N0.out.mono ?_
  rintro ev w0 ⟨rfl, rfl⟩
  go_wp2_with fail
  refine (U1.out _ (F0.out)).mono ?_
  rintro ev w1 ⟨rfl, fm1⟩
  have e11 : w1.cell? ⟨w.heap.size, 2, none⟩ = some (.slice lp l1 lc) := fm1.row.cell 2
  have e12 : w1.cell? ⟨w.heap.size, 3, none⟩ = some (.slice pp l2 pc) := fm1.row.cell 3
  have e14 : w1.cell? ⟨w.heap.size, 4, none⟩ = some (.int .i64 rk) := fm1.row.cell 4
  have e15 : w1.cell? ⟨w.heap.size, 5, none⟩ = some (.string rn1) := fm1.row.cell 5
  have e16 : w1.cell? ⟨w.heap.size, 6, none⟩ = some (.slice t2 m2 d2) := fm1.row.cell 6
  have e17 : w1.cell? ⟨w.heap.size, 7, none⟩ = some (.slice t3 m3 d3) := fm1.row.cell 7
  have e18 : w1.cell? ⟨w.heap.size, 8, none⟩ = some (.slice bp l3 bc) := fm1.row.cell 8
  go_wp2_with fail
  refine (U2.out _ (fm1)).mono ?_
  rintro ev w2 ⟨rfl, fm2⟩
  have e21 : w2.cell? ⟨w.heap.size, 2, none⟩ = some (.slice lp l1 lc) := fm2.row.cell 2
  have e22 : w2.cell? ⟨w.heap.size, 3, none⟩ = some (.slice pp l2 pc) := fm2.row.cell 3
  have e24 : w2.cell? ⟨w.heap.size, 4, none⟩ = some (.int .i64 rk) := fm2.row.cell 4
  have e25 : w2.cell? ⟨w.heap.size, 5, none⟩ = some (.string rn1) := fm2.row.cell 5
  have e26 : w2.cell? ⟨w.heap.size, 6, none⟩ = some (.slice t2 m2 d2) := fm2.row.cell 6
  have e27 : w2.cell? ⟨w.heap.size, 7, none⟩ = some (.slice t3 m3 d3) := fm2.row.cell 7
  have e28 : w2.cell? ⟨w.heap.size, 8, none⟩ = some (.slice bp l3 bc) := fm2.row.cell 8
  go_wp2_with fail
  refine (U3.out _ (fm2)).mono ?_
  rintro ev w3 ⟨rfl, fm3⟩
  have e31 : w3.cell? ⟨w.heap.size, 2, none⟩ = some (.slice lp l1 lc) := fm3.row.cell 2
  have e32 : w3.cell? ⟨w.heap.size, 3, none⟩ = some (.slice pp l2 pc) := fm3.row.cell 3
  have e34 : w3.cell? ⟨w.heap.size, 4, none⟩ = some (.int .i64 rk) := fm3.row.cell 4
  have e35 : w3.cell? ⟨w.heap.size, 5, none⟩ = some (.string rn1) := fm3.row.cell 5
  have e36 : w3.cell? ⟨w.heap.size, 6, none⟩ = some (.slice t2 m2 d2) := fm3.row.cell 6
  have e37 : w3.cell? ⟨w.heap.size, 7, none⟩ = some (.slice t3 m3 d3) := fm3.row.cell 7
  have e38 : w3.cell? ⟨w.heap.size, 8, none⟩ = some (.slice bp l3 bc) := fm3.row.cell 8
  go_wp2_with fail
  refine (U4.out _ (fm3)).mono ?_
  rintro ev w4 ⟨rfl, hb4⟩
  go_wp2_with fail
  go_ret
  exact ⟨by rw [HF.out]; rfl, hb4⟩

set_option maxRecDepth 20000 in
theorem allFuncs0 {n : Nat} {P : Fnc → Prop} {K : Ctx} {w : World} (he : Env K w)
    (ih : ∀ (x : Fnc) (cs : List Value) (y : World), x.body = [] → Env K y → FncAt n K y cs x → ∀ (B : Bool), (B = true ↔ P x) → Calls Tryz.prog 85 #[.agg cs.toArray] y fun ev w' => ev = .returned (.bool B) ∧ Below y.heap.size y w')
    {v : Value} {l : List Fnc} (hbo : ∀ x ∈ l, x.body = []) (ha : Ar 10 176 (FncAt n K w) K w v l) (B : Bool) (hB : B = true ↔ ∀ x ∈ l, P x) :
    Calls Tryz.prog 84 #[v, .func (.func 85) #[] #[]] w fun ev w' => ev = .returned (.bool B) ∧ Below w.heap.size w w' := by
  obtain ⟨ao, cap, rfl, hc, hb, hA⟩ := ha.shape
  have hl9 : l.length ≤ 9223372036854775807 := by omega
  have HE : Hid (Env K w) := he
  have HA : Hid (∀ i (h : i < l.length) (y : World), Below K.C w y → ∃ b o, ao = some ⟨b, o, none⟩ ∧ ∃ cs, cs.length = 10 ∧ y.rangeAt b (o + i * 10) cs ∧ FncAt n K y cs l[i]) := by
    intro i h y hy
    obtain ⟨b, o, e, hbC, cs, hl, hcs, hx⟩ := hA i h
    refine ⟨b, o, e, cs, hl, fun j u hj => ?_, hx.below hy⟩
    have hj' : j < 10 := by rw [← hl]; exact (List.getElem?_eq_some_iff.1 hj).1
    rw [hy.cell (p := ⟨b, o + i * 10 + j, none⟩) hbC, hcs j hj']
    exact hj
  have HB : Hid (B = true ↔ ∀ x ∈ l, P x) := hB
  have HBO : Hid (∀ x ∈ l, x.body = []) := hbo
  have HI : Hid (∀ (x : Fnc) (cs : List Value) (y : World), x.body = [] → Env K y → FncAt n K y cs x → ∀ (B : Bool), (B = true ↔ P x) → Calls Tryz.prog 85 #[.agg cs.toArray] y fun ev w' => ev = .returned (.bool B) ∧ Below y.heap.size y w') := ih
  clear hA hB ha ih he hb hbo
  go_enter Tryz.func84, Tryz.ntmps84
  go_wp2_with fail
  go_loopw [9] (fun i wr => ∃ k : Nat, k ≤ l.length ∧ i = .int .i64 k ∧ (∀ j (h : j < l.length), j < k → P l[j]) ∧ Below w.heap.size w wr) (fun i _ => l.length - (intOf i).toNat)
  case atStart => exact ⟨0, by omega, rfl, fun j _ h => by omega, Below.refl _ _⟩
  case round =>
    obtain ⟨k, hk, rfl, hj, hbw⟩ := hrel
    have HJ : Hid (∀ j (h : j < l.length), j < k → P l[j]) := hj
    have HW : Hid (Below w.heap.size w wr) := hbw
    clear hj hbw
    by_cases h3 : k < l.length
    · have hKC : Below K.C w wr := below_le HW.out HE.out.C
      obtain ⟨b, o, e, cs, hl, hr, hx⟩ := HA.out k h3 wr hKC
      subst e
      have hi : Hid ((Tryz.prog.info? 65).map (·.size) = some cs.length) := by show _ = _; rw [hl]; kernel_rfl
      have hi' : Hid ((Tryz.prog.info? 65).map (·.size) = some cs.toArray.size) := by show _ = _; rw [List.size_toArray]; exact hi.out
      have hl' : Hid (10 = cs.toArray.size) := by show _ = _; rw [List.size_toArray]; exact hl.symm
      have h1 : Hid (cs.toArray.all (·.oneCell') = true) := one_mem hx.one
      have hR : Hid (wr.rangeAt b (o + k * 10) cs) := hr
      have hA : Below wr.heap.size wr (wr.alloc (.cells cs.toArray 65)) := (Below.refl _ _).alloc (Nat.le_refl _) _
      have hKA : Below K.C w (wr.alloc (.cells cs.toArray 65)) := hKC.trans (below_le hA (Nat.le_trans HE.out.C HW.out.size))
      have hxA := (hx.below (below_le hA (Nat.le_trans HE.out.C HW.out.size)) : FncAt n K (wr.alloc (.cells cs.toArray 65)) cs l[k])
      have i1 : (k : Int) < (l.length : Int) := by omega
      by_cases hp : P l[k]
      · have HC : Hid (Calls Tryz.prog 85 #[.agg cs.toArray] (wr.alloc (.cells cs.toArray 65)) fun ev w' => ev = .returned (.bool true) ∧ Below wr.heap.size wr w') := (HI.out _ cs _ (HBO.out _ (List.getElem_mem (by assumption))) (HE.out.below hKA) hxA true ⟨fun _ => hp, fun _ => rfl⟩).mono fun _ _ h => ⟨h.1, hA.trans (below_le h.2 hA.size)⟩
        have HJ' : Hid (∀ j (h : j < l.length), j < k + 1 → P l[j]) := by
          intro j h hjk
          rcases Nat.lt_or_ge j k with h' | h'
          · exact HJ.out j h h'
          · obtain rfl : j = k := by omega
            exact hp
        clear hp hx HA HI hKC hxA hA hKA hl hr
        go_wp2_with (first | (refine wpList_load_mid rfl 65 (.tmp 11) rfl b (o + k * 10) rfl cs _ hR.out Tryz.underlying65 rfl hi.out ?_) | (refine store_new rfl 65 (.tmp 6) (.tmp 12) rfl cs.toArray _ 65 rfl rfl hi'.out hl'.out h1.out ?_) | (refine load_new rfl 65 (.tmp 6) rfl cs 65 _ rfl Tryz.underlying65 rfl hi.out ?_) | (go_at_call 85; refine HC.out.mono ?_; rintro ev w2 ⟨rfl, hb2⟩))
        go_roundw
        case rel => exact ⟨k + 1, by omega, by go_num, HJ'.out, HW.out.trans (below_le hb2 HW.out.size)⟩
        case measure => simp [intOf]; omega
      · have HC : Hid (Calls Tryz.prog 85 #[.agg cs.toArray] (wr.alloc (.cells cs.toArray 65)) fun ev w' => ev = .returned (.bool false) ∧ Below wr.heap.size wr w') := (HI.out _ cs _ (HBO.out _ (List.getElem_mem (by assumption))) (HE.out.below hKA) hxA false ⟨fun h => (by cases h), fun h => absurd h hp⟩).mono fun _ _ h => ⟨h.1, hA.trans (below_le h.2 hA.size)⟩
        have HF : Hid (B = false) := by
          show B = false
          cases hB : B
          · rfl
          · exact absurd (HB.out.1 hB _ (List.getElem_mem h3)) hp
        clear hp hx HA HI hKC hxA hA hKA hl hr
        go_wp2_with (first | (refine wpList_load_mid rfl 65 (.tmp 11) rfl b (o + k * 10) rfl cs _ hR.out Tryz.underlying65 rfl hi.out ?_) | (refine store_new rfl 65 (.tmp 6) (.tmp 12) rfl cs.toArray _ 65 rfl rfl hi'.out hl'.out h1.out ?_) | (refine load_new rfl 65 (.tmp 6) rfl cs 65 _ rfl Tryz.underlying65 rfl hi.out ?_) | (go_at_call 85; refine HC.out.mono ?_; rintro ev w2 ⟨rfl, hb2⟩))
        go_ret
        exact ⟨by rw [HF.out]; rfl, HW.out.trans (below_le hb2 HW.out.size)⟩
    · have HF : Hid (B = true) := HB.out.2 fun x hx => by
        obtain ⟨j, hj, rfl⟩ := List.getElem_of_mem hx
        exact HJ.out j hj (by omega)
      have i1 : ¬ (k : Int) < (l.length : Int) := by omega
      go_wp2_with fail
      go_ret
      exact ⟨by rw [HF.out]; rfl, HW.out⟩
set_option maxHeartbeats 8000000 in
theorem may0_any {n : Nat} {K : Ctx} {w : World} (he : Env K w) {c : Crt} {cs : List Value} (hx : CrtAt n K w cs c) (hx0 : ∀ f ∈ c.funcs, f.body = []) (B : Bool) (hB : B = true ↔ MayCr0 c) :
    Calls Tryz.prog 45 #[.agg cs.toArray] w fun ev w' => ev = .returned (.bool B) ∧ Below w.heap.size w w' := by
  obtain ⟨v0, v1, rfl, hs, hf⟩ := hx
  have hn1 : c.structs.length ≤ 4611686018427387903 := by obtain ⟨_, _, _, h1, h2, _⟩ := hs.shape; omega
  have hn2 : c.funcs.length ≤ 4611686018427387903 := by obtain ⟨_, _, _, h1, h2, _⟩ := hf.shape; omega
  obtain ⟨sp, sc, rfl⟩ := hs.form
  obtain ⟨fp, fc, rfl⟩ := hf.form
  have hA := alloc_one w (.cells #[.slice sp c.structs.length sc, .slice fp c.funcs.length fc] 25)
  have hK := below_le hA he.C
  have HA : Hid (Below w.heap.size w (w.alloc (.cells #[.slice sp c.structs.length sc, .slice fp c.funcs.length fc] 25))) := hA
  have T1 : Hid (∀ B, (B = true ↔ ∀ s ∈ c.structs, MaySct s) → Calls Tryz.prog 82 #[.slice sp c.structs.length sc, .func (.func 83) #[] #[]] (w.alloc (.cells #[.slice sp c.structs.length sc, .slice fp c.funcs.length fc] 25)) fun ev w' => ev = .returned (.bool B) ∧ Below w.heap.size w w' ∧ Row w' w.heap.size 25 [.slice sp c.structs.length sc, .slice fp c.funcs.length fc]) := by
    intro B hB
    refine (allStructs (he.below hK) (fun _ _ _ he hx B hB => mayStruct_any he hx B hB) (hs.mono hK fun _ _ _ q => q.below hK) B hB).mono ?_
    rintro _ _ ⟨rfl, hb⟩
    exact ⟨rfl, hA.trans (below_le hb hA.size), (Row.new w 25 _).below hb (by rw [size_alloc]; omega)⟩
  have T2 : Hid (∀ (a : World) (B : Bool), Below w.heap.size w a → (B = true ↔ ∀ f ∈ c.funcs, MayFn0 f) → Calls Tryz.prog 84 #[.slice fp c.funcs.length fc, .func (.func 85) #[] #[]] a fun ev w' => ev = .returned (.bool B) ∧ Below w.heap.size w w') := by
    intro a B hb hB
    have hKa := below_le hb he.C
    exact (allFuncs0 (he.below hKa) (fun _ _ _ hb he hx B hB => mayFunc0_any he hx hb B hB) hx0 (hf.mono hKa fun _ _ _ q => q.below hKa) B hB).mono fun _ _ q => ⟨q.1, hb.trans (below_le q.2 hb.size)⟩
  have HB : Hid (B = true ↔ MayCr0 c) := hB
  have wr : IntKind.i64.wrap ((c.structs.length : Int) + (c.funcs.length : Int)) = (c.structs.length : Int) + (c.funcs.length : Int) := wrap_small (by omega) (by omega)
  clear hB hs hf hA hK he
  by_cases f0 : c.structs.length + c.funcs.length ≤ 256
  · have b0 : decide ((c.structs.length : Int) + (c.funcs.length : Int) ≤ 256) = true := by simp; omega
    have b0' : (c.structs.length : Int) + (c.funcs.length : Int) ≤ 256 := by omega
    by_cases f1 : ∀ s ∈ c.structs, MaySct s
    · have U1 := T1.out true ⟨fun _ => f1, fun _ => rfl⟩
      have U2 : Hid (∀ a hb, _) := fun a hb => T2.out a B hb (by rw [HB.out]; exact ⟨fun h => h.2.2, fun h => ⟨f0, f1, h⟩⟩)
      clear HB T1 T2 f1 HA
      generalize c.structs.length = l1 at *
      generalize c.funcs.length = l2 at *
      go_enter Tryz.func45, Tryz.ntmps45
      go_wp2_with fail
      refine U1.mono ?_
      rintro ev w1 ⟨rfl, hb1, r1⟩
      have c1 : w1.cell? ⟨w.heap.size, 1, none⟩ = some (.slice fp l2 fc) := r1.cell 1
      go_wp2_with fail
      refine (U2.out _ hb1).mono ?_
      rintro ev w2 ⟨rfl, hb2⟩
      go_wp2_with fail
      go_ret
      exact ⟨rfl, hb2⟩
    · obtain rfl := bool_false HB.out (fun h => f1 h.2.1)
      have U1 := T1.out false ⟨fun h => (by cases h), fun h => absurd h f1⟩
      clear HB T1 T2 f1 HA
      generalize c.structs.length = l1 at *
      generalize c.funcs.length = l2 at *
      go_enter Tryz.func45, Tryz.ntmps45
      go_wp2_with fail
      refine U1.mono ?_
      rintro ev w1 ⟨rfl, hb1, _⟩
      go_wp2_with fail
      go_ret
      exact ⟨rfl, hb1⟩
  · have b0 : decide ((c.structs.length : Int) + (c.funcs.length : Int) ≤ 256) = false := by simp; omega
    have b0' : ¬ (c.structs.length : Int) + (c.funcs.length : Int) ≤ 256 := by omega
    obtain rfl := bool_false HB.out (fun h => f0 h.1)
    clear HB T1 T2
    generalize c.structs.length = l1 at *
    generalize c.funcs.length = l2 at *
    go_enter Tryz.func45, Tryz.ntmps45
    go_wp2_with fail
    go_ret
    exact ⟨rfl, HA.out⟩
end Go.Proofs.YtmopffaocamieaaGreat
