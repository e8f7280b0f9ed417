/-
  Functions and crates: may one be? The program says it.
-/
import Derived.Test.YtjenmmkamhplkaaStm
namespace Go.Proofs.Ytjenmmkamhplkaa
open Go.RowKit

def MayFnc (n : Nat) (x : Fnc) : Prop := nameB x.name = true ∧ (x.lives.length ≤ 64 ∧ ∀ l ∈ x.lives, MayLfe l) ∧ (x.params.length ≤ 64 ∧ ∀ p ∈ x.params, MayPar p) ∧ MayRes x.result ∧ (MayBlk 64 x.body ∧ cnt n x.body ≤ 2000)
def MayCrt (n : Nat) (c : Crt) : Prop := c.structs.length + c.funcs.length ≤ 256 ∧ (∀ s ∈ c.structs, MaySct s) ∧ ∀ f ∈ c.funcs, MayFnc n f
structure Fm (K : Ctx) (w : World) (cells : List Value) (a : World) : Prop where
  env : Env K a
  row : Row a w.heap.size 30 cells
  rb : Row a (w.heap.size + 1) 73 [.int .i64 2000]
  bel : Below w.heap.size w a
  kc : Below K.C w a
  C : K.C ≤ w.heap.size
theorem Fm.next {K : Ctx} {w a a' : World} {cells : List Value} (h : Fm K w cells a) (hb : Below a.heap.size a a') : Fm K w cells a' :=
  ⟨h.env.below (below_le hb h.env.C), h.row.below hb h.row.lt, h.rb.below hb h.rb.lt, h.bel.trans (below_le hb h.bel.size), h.kc.trans (below_le hb h.env.C), h.C⟩
theorem Fm.first {K : Ctx} {w : World} (cells : List Value) (he : Env K w) : Fm K w cells ((w.alloc (.cells cells.toArray 30)).alloc (.cells #[.int .i64 2000] 73)) := by
  have hA := alloc_two w (.cells cells.toArray 30) (.cells #[.int .i64 2000] 73)
  have r1 := Row.new (w.alloc (.cells cells.toArray 30)) 73 [.int .i64 2000]
  rw [size_alloc] at r1
  exact ⟨he.below (below_le hA he.C), (Row.new w 30 cells).alloc _, r1, hA, below_le hA he.C, he.C⟩

set_option maxHeartbeats 8000000 in
set_option maxRecDepth 20000 in
theorem mayFunc_any {n : Nat} {K : Ctx} {w : World} (he : Env K w) {x : Fnc} {cs : List Value} (hx : FncAt n K w cs x) (B : Bool) (hB : B = true ↔ MayFnc n x) :
    Calls Try.prog 22 #[.agg cs.toArray] w fun ev w' => ev = .returned (.bool B) ∧ Below w.heap.size w w' := by
  have hsm := K.small
  obtain ⟨v2, v3, ts, v8, rfl, hl, hli, hpa, hre, hbo⟩ := hx
  obtain ⟨t2, m2, d2, t3, m3, d3, rfl⟩ := hre.open
  obtain ⟨lp, lc, rfl⟩ := hli.form
  obtain ⟨pp, pc, rfl⟩ := hpa.form
  obtain ⟨bp, bc, rfl⟩ := hbo.form
  have F0 : Hid (Fm K w [.bool x.pub, .string (str x.name), .slice lp x.lives.length lc, .slice pp x.params.length pc, .int .i64 x.result.kind, .string (str x.result.name), .slice t2 m2 d2, .slice t3 m3 d3, .slice bp x.body.length bc, .int .i64 x.pos] ((w.alloc (.cells #[.bool x.pub, .string (str x.name), .slice lp x.lives.length lc, .slice pp x.params.length pc, .int .i64 x.result.kind, .string (str x.result.name), .slice t2 m2 d2, .slice t3 m3 d3, .slice bp x.body.length bc, .int .i64 x.pos] 30)).alloc (.cells #[.int .i64 2000] 73))) := Fm.first _ he
  have N0 : Hid (Calls Try.prog 28 #[.string (str x.name)] ((w.alloc (.cells #[.bool x.pub, .string (str x.name), .slice lp x.lives.length lc, .slice pp x.params.length pc, .int .i64 x.result.kind, .string (str x.result.name), .slice t2 m2 d2, .slice t3 m3 d3, .slice bp x.body.length bc, .int .i64 x.pos] 30)).alloc (.cells #[.int .i64 2000] 73)) fun ev w' => ev = .returned (.bool (nameB x.name)) ∧ w' = ((w.alloc (.cells #[.bool x.pub, .string (str x.name), .slice lp x.lives.length lc, .slice pp x.params.length pc, .int .i64 x.result.kind, .string (str x.result.name), .slice t2 m2 d2, .slice t3 m3 d3, .slice bp x.body.length bc, .int .i64 x.pos] 30)).alloc (.cells #[.int .i64 2000] 73))) := name_any _ (by omega) _
  have T1 : Hid (∀ (a : World) (B : Bool), Fm K w [.bool x.pub, .string (str x.name), .slice lp x.lives.length lc, .slice pp x.params.length pc, .int .i64 x.result.kind, .string (str x.result.name), .slice t2 m2 d2, .slice t3 m3 d3, .slice bp x.body.length bc, .int .i64 x.pos] a → (B = true ↔ (x.lives.length ≤ 64 ∧ ∀ l ∈ x.lives, MayLfe l)) → Calls Try.prog 33 #[.slice lp x.lives.length lc, .func (.func 34) #[] #[]] a fun ev w' => ev = .returned (.bool B) ∧ Fm K w [.bool x.pub, .string (str x.name), .slice lp x.lives.length lc, .slice pp x.params.length pc, .int .i64 x.result.kind, .string (str x.result.name), .slice t2 m2 d2, .slice t3 m3 d3, .slice bp x.body.length bc, .int .i64 x.pos] w') := by
    intro a B h hB
    exact (partsLifes h.env (fun _ _ _ he hx B hB => mayLife_any he hx B hB) (hli.mono h.kc fun _ _ _ q => q.below h.kc) B hB).mono fun _ _ q => ⟨q.1, h.next q.2⟩
  have T2 : Hid (∀ (a : World) (B : Bool), Fm K w [.bool x.pub, .string (str x.name), .slice lp x.lives.length lc, .slice pp x.params.length pc, .int .i64 x.result.kind, .string (str x.result.name), .slice t2 m2 d2, .slice t3 m3 d3, .slice bp x.body.length bc, .int .i64 x.pos] a → (B = true ↔ (x.params.length ≤ 64 ∧ ∀ p ∈ x.params, MayPar p)) → Calls Try.prog 31 #[.slice pp x.params.length pc, .func (.func 35) #[] #[]] a fun ev w' => ev = .returned (.bool B) ∧ Fm K w [.bool x.pub, .string (str x.name), .slice lp x.lives.length lc, .slice pp x.params.length pc, .int .i64 x.result.kind, .string (str x.result.name), .slice t2 m2 d2, .slice t3 m3 d3, .slice bp x.body.length bc, .int .i64 x.pos] w') := by
    intro a B h hB
    exact (partsParams h.env (fun _ _ _ he hx B hB => mayParam_any he hx B hB) (hpa.mono h.kc fun _ _ _ q => q.below h.kc) B hB).mono fun _ _ q => ⟨q.1, h.next q.2⟩
  have T3 : Hid (∀ (a : World) (B : Bool), Fm K w [.bool x.pub, .string (str x.name), .slice lp x.lives.length lc, .slice pp x.params.length pc, .int .i64 x.result.kind, .string (str x.result.name), .slice t2 m2 d2, .slice t3 m3 d3, .slice bp x.body.length bc, .int .i64 x.pos] a → (B = true ↔ MayRes x.result) → Calls Try.prog 36 #[.agg #[.int .i64 x.result.kind, .string (str x.result.name), .slice t2 m2 d2, .slice t3 m3 d3]] a fun ev w' => ev = .returned (.bool B) ∧ Fm K w [.bool x.pub, .string (str x.name), .slice lp x.lives.length lc, .slice pp x.params.length pc, .int .i64 x.result.kind, .string (str x.result.name), .slice t2 m2 d2, .slice t3 m3 d3, .slice bp x.body.length bc, .int .i64 x.pos] w') := by
    intro a B h hB
    exact (mayResult_any h.env (cs := [.int .i64 x.result.kind, .string (str x.result.name), .slice t2 m2 d2, .slice t3 m3 d3]) (hre.below h.kc) B hB).mono fun _ _ q => ⟨q.1, h.next q.2⟩
  have T4 : Hid (∀ (a : World) (B : Bool), Fm K w [.bool x.pub, .string (str x.name), .slice lp x.lives.length lc, .slice pp x.params.length pc, .int .i64 x.result.kind, .string (str x.result.name), .slice t2 m2 d2, .slice t3 m3 d3, .slice bp x.body.length bc, .int .i64 x.pos] a → (B = true ↔ (MayBlk 64 x.body ∧ cnt n x.body ≤ 2000)) → Calls Try.prog 37 #[.pointer (some ⟨w.heap.size + 1, 0, none⟩), .slice bp x.body.length bc, .int .i64 1] a fun ev w' => ev = .returned (.bool B) ∧ Below w.heap.size w w') := by
    intro a B h hB
    have hbd : Bod K (w.heap.size + 1) 2000 a := ⟨h.env, h.rb, Nat.le_trans h.C (by omega), by omega⟩
    refine (body_any hbd (hbo.mono h.kc fun _ _ _ q => q.below h.kc) B hB).mono ?_
    rintro _ _ ⟨rfl, hs⟩
    exact ⟨rfl, h.bel.trans (hs.below h.bel.size (fun k hk => by omega))⟩
  have HB : Hid (B = true ↔ MayFnc n x) := hB
  clear hB he hli hpa hre hbo hl
  cases f0 : nameB x.name
  · have HF : Hid (B = false) := bool_false HB.out (fun h => by have h' := h.1; rw [f0] at h'; cases h')
    rw [f0] at N0
    clear HB T1 T2 T3 T4 f0
    generalize x.pub = pb at *
    generalize str x.name = nm1 at *
    generalize x.lives.length = l1 at *
    generalize x.params.length = l2 at *
    generalize x.result.kind = rk at *
    generalize str x.result.name = rn1 at *
    generalize x.body.length = l3 at *
    generalize x.pos = ps at *
    go_enter Try.func22, Try.ntmps22
    go_wp2_with fail
    refine N0.out.mono ?_
    rintro ev w0 ⟨rfl, rfl⟩
    go_wp2_with fail
    go_ret
    exact ⟨by rw [HF.out]; rfl, (F0.out).bel⟩
  by_cases f1 : (x.lives.length ≤ 64 ∧ ∀ l ∈ x.lives, MayLfe l)
  rotate_left
  · have HF : Hid (B = false) := bool_false HB.out (fun h => f1 h.2.1)
    rw [f0] at N0
    have U1 : Hid (∀ a h, _) := fun a h => T1.out a false h ⟨fun h => (by cases h), fun h => absurd h f1⟩
    clear HB T1 T2 T3 T4 f0 f1
    generalize x.pub = pb at *
    generalize str x.name = nm1 at *
    generalize x.lives.length = l1 at *
    generalize x.params.length = l2 at *
    generalize x.result.kind = rk at *
    generalize str x.result.name = rn1 at *
    generalize x.body.length = l3 at *
    generalize x.pos = ps at *
    go_enter Try.func22, Try.ntmps22
    go_wp2_with fail
    refine N0.out.mono ?_
    rintro ev w0 ⟨rfl, rfl⟩
    go_wp2_with fail
    refine (U1.out _ (F0.out)).mono ?_
    rintro ev w1 ⟨rfl, fm1⟩
    have e11 : w1.cell? ⟨w.heap.size, 2, none⟩ = some (.slice lp l1 lc) := fm1.row.cell 2
    have e12 : w1.cell? ⟨w.heap.size, 3, none⟩ = some (.slice pp l2 pc) := fm1.row.cell 3
    have e14 : w1.cell? ⟨w.heap.size, 4, none⟩ = some (.int .i64 rk) := fm1.row.cell 4
    have e15 : w1.cell? ⟨w.heap.size, 5, none⟩ = some (.string rn1) := fm1.row.cell 5
    have e16 : w1.cell? ⟨w.heap.size, 6, none⟩ = some (.slice t2 m2 d2) := fm1.row.cell 6
    have e17 : w1.cell? ⟨w.heap.size, 7, none⟩ = some (.slice t3 m3 d3) := fm1.row.cell 7
    have e18 : w1.cell? ⟨w.heap.size, 8, none⟩ = some (.slice bp l3 bc) := fm1.row.cell 8
    go_wp2_with fail
    go_ret
    exact ⟨by rw [HF.out]; rfl, (fm1).bel⟩
  by_cases f2 : (x.params.length ≤ 64 ∧ ∀ p ∈ x.params, MayPar p)
  rotate_left
  · have HF : Hid (B = false) := bool_false HB.out (fun h => f2 h.2.2.1)
    rw [f0] at N0
    have U1 : Hid (∀ a h, _) := fun a h => T1.out a true h ⟨fun _ => f1, fun _ => rfl⟩
    have U2 : Hid (∀ a h, _) := fun a h => T2.out a false h ⟨fun h => (by cases h), fun h => absurd h f2⟩
    clear HB T1 T2 T3 T4 f0 f1 f2
    generalize x.pub = pb at *
    generalize str x.name = nm1 at *
    generalize x.lives.length = l1 at *
    generalize x.params.length = l2 at *
    generalize x.result.kind = rk at *
    generalize str x.result.name = rn1 at *
    generalize x.body.length = l3 at *
    generalize x.pos = ps at *
    go_enter Try.func22, Try.ntmps22
    go_wp2_with fail
    refine N0.out.mono ?_
    rintro ev w0 ⟨rfl, rfl⟩
    go_wp2_with fail
    refine (U1.out _ (F0.out)).mono ?_
    rintro ev w1 ⟨rfl, fm1⟩
    have e11 : w1.cell? ⟨w.heap.size, 2, none⟩ = some (.slice lp l1 lc) := fm1.row.cell 2
    have e12 : w1.cell? ⟨w.heap.size, 3, none⟩ = some (.slice pp l2 pc) := fm1.row.cell 3
    have e14 : w1.cell? ⟨w.heap.size, 4, none⟩ = some (.int .i64 rk) := fm1.row.cell 4
    have e15 : w1.cell? ⟨w.heap.size, 5, none⟩ = some (.string rn1) := fm1.row.cell 5
    have e16 : w1.cell? ⟨w.heap.size, 6, none⟩ = some (.slice t2 m2 d2) := fm1.row.cell 6
    have e17 : w1.cell? ⟨w.heap.size, 7, none⟩ = some (.slice t3 m3 d3) := fm1.row.cell 7
    have e18 : w1.cell? ⟨w.heap.size, 8, none⟩ = some (.slice bp l3 bc) := fm1.row.cell 8
    go_wp2_with fail
    refine (U2.out _ (fm1)).mono ?_
    rintro ev w2 ⟨rfl, fm2⟩
    have e21 : w2.cell? ⟨w.heap.size, 2, none⟩ = some (.slice lp l1 lc) := fm2.row.cell 2
    have e22 : w2.cell? ⟨w.heap.size, 3, none⟩ = some (.slice pp l2 pc) := fm2.row.cell 3
    have e24 : w2.cell? ⟨w.heap.size, 4, none⟩ = some (.int .i64 rk) := fm2.row.cell 4
    have e25 : w2.cell? ⟨w.heap.size, 5, none⟩ = some (.string rn1) := fm2.row.cell 5
    have e26 : w2.cell? ⟨w.heap.size, 6, none⟩ = some (.slice t2 m2 d2) := fm2.row.cell 6
    have e27 : w2.cell? ⟨w.heap.size, 7, none⟩ = some (.slice t3 m3 d3) := fm2.row.cell 7
    have e28 : w2.cell? ⟨w.heap.size, 8, none⟩ = some (.slice bp l3 bc) := fm2.row.cell 8
    go_wp2_with fail
    go_ret
    exact ⟨by rw [HF.out]; rfl, (fm2).bel⟩
  by_cases f3 : MayRes x.result
  rotate_left
  · have HF : Hid (B = false) := bool_false HB.out (fun h => f3 h.2.2.2.1)
    rw [f0] at N0
    have U1 : Hid (∀ a h, _) := fun a h => T1.out a true h ⟨fun _ => f1, fun _ => rfl⟩
    have U2 : Hid (∀ a h, _) := fun a h => T2.out a true h ⟨fun _ => f2, fun _ => rfl⟩
    have U3 : Hid (∀ a h, _) := fun a h => T3.out a false h ⟨fun h => (by cases h), fun h => absurd h f3⟩
    clear HB T1 T2 T3 T4 f0 f1 f2 f3
    generalize x.pub = pb at *
    generalize str x.name = nm1 at *
    generalize x.lives.length = l1 at *
    generalize x.params.length = l2 at *
    generalize x.result.kind = rk at *
    generalize str x.result.name = rn1 at *
    generalize x.body.length = l3 at *
    generalize x.pos = ps at *
    go_enter Try.func22, Try.ntmps22
    go_wp2_with fail
    refine N0.out.mono ?_
    rintro ev w0 ⟨rfl, rfl⟩
    go_wp2_with fail
    refine (U1.out _ (F0.out)).mono ?_
    rintro ev w1 ⟨rfl, fm1⟩
    have e11 : w1.cell? ⟨w.heap.size, 2, none⟩ = some (.slice lp l1 lc) := fm1.row.cell 2
    have e12 : w1.cell? ⟨w.heap.size, 3, none⟩ = some (.slice pp l2 pc) := fm1.row.cell 3
    have e14 : w1.cell? ⟨w.heap.size, 4, none⟩ = some (.int .i64 rk) := fm1.row.cell 4
    have e15 : w1.cell? ⟨w.heap.size, 5, none⟩ = some (.string rn1) := fm1.row.cell 5
    have e16 : w1.cell? ⟨w.heap.size, 6, none⟩ = some (.slice t2 m2 d2) := fm1.row.cell 6
    have e17 : w1.cell? ⟨w.heap.size, 7, none⟩ = some (.slice t3 m3 d3) := fm1.row.cell 7
    have e18 : w1.cell? ⟨w.heap.size, 8, none⟩ = some (.slice bp l3 bc) := fm1.row.cell 8
    go_wp2_with fail
    refine (U2.out _ (fm1)).mono ?_
    rintro ev w2 ⟨rfl, fm2⟩
    have e21 : w2.cell? ⟨w.heap.size, 2, none⟩ = some (.slice lp l1 lc) := fm2.row.cell 2
    have e22 : w2.cell? ⟨w.heap.size, 3, none⟩ = some (.slice pp l2 pc) := fm2.row.cell 3
    have e24 : w2.cell? ⟨w.heap.size, 4, none⟩ = some (.int .i64 rk) := fm2.row.cell 4
    have e25 : w2.cell? ⟨w.heap.size, 5, none⟩ = some (.string rn1) := fm2.row.cell 5
    have e26 : w2.cell? ⟨w.heap.size, 6, none⟩ = some (.slice t2 m2 d2) := fm2.row.cell 6
    have e27 : w2.cell? ⟨w.heap.size, 7, none⟩ = some (.slice t3 m3 d3) := fm2.row.cell 7
    have e28 : w2.cell? ⟨w.heap.size, 8, none⟩ = some (.slice bp l3 bc) := fm2.row.cell 8
    go_wp2_with fail
    refine (U3.out _ (fm2)).mono ?_
    rintro ev w3 ⟨rfl, fm3⟩
    have e31 : w3.cell? ⟨w.heap.size, 2, none⟩ = some (.slice lp l1 lc) := fm3.row.cell 2
    have e32 : w3.cell? ⟨w.heap.size, 3, none⟩ = some (.slice pp l2 pc) := fm3.row.cell 3
    have e34 : w3.cell? ⟨w.heap.size, 4, none⟩ = some (.int .i64 rk) := fm3.row.cell 4
    have e35 : w3.cell? ⟨w.heap.size, 5, none⟩ = some (.string rn1) := fm3.row.cell 5
    have e36 : w3.cell? ⟨w.heap.size, 6, none⟩ = some (.slice t2 m2 d2) := fm3.row.cell 6
    have e37 : w3.cell? ⟨w.heap.size, 7, none⟩ = some (.slice t3 m3 d3) := fm3.row.cell 7
    have e38 : w3.cell? ⟨w.heap.size, 8, none⟩ = some (.slice bp l3 bc) := fm3.row.cell 8
    go_wp2_with fail
    go_ret
    exact ⟨by rw [HF.out]; rfl, (fm3).bel⟩
  by_cases f4 : (MayBlk 64 x.body ∧ cnt n x.body ≤ 2000)
  rotate_left
  · have HF : Hid (B = false) := bool_false HB.out (fun h => f4 h.2.2.2.2)
    rw [f0] at N0
    have U1 : Hid (∀ a h, _) := fun a h => T1.out a true h ⟨fun _ => f1, fun _ => rfl⟩
    have U2 : Hid (∀ a h, _) := fun a h => T2.out a true h ⟨fun _ => f2, fun _ => rfl⟩
    have U3 : Hid (∀ a h, _) := fun a h => T3.out a true h ⟨fun _ => f3, fun _ => rfl⟩
    have U4 : Hid (∀ a h, _) := fun a h => T4.out a false h ⟨fun h => (by cases h), fun h => absurd h f4⟩
    clear HB T1 T2 T3 T4 f0 f1 f2 f3 f4
    generalize x.pub = pb at *
    generalize str x.name = nm1 at *
    generalize x.lives.length = l1 at *
    generalize x.params.length = l2 at *
    generalize x.result.kind = rk at *
    generalize str x.result.name = rn1 at *
    generalize x.body.length = l3 at *
    generalize x.pos = ps at *
    go_enter Try.func22, Try.ntmps22
    go_wp2_with fail
    refine N0.out.mono ?_
    rintro ev w0 ⟨rfl, rfl⟩
    go_wp2_with fail
    refine (U1.out _ (F0.out)).mono ?_
    rintro ev w1 ⟨rfl, fm1⟩
    have e11 : w1.cell? ⟨w.heap.size, 2, none⟩ = some (.slice lp l1 lc) := fm1.row.cell 2
    have e12 : w1.cell? ⟨w.heap.size, 3, none⟩ = some (.slice pp l2 pc) := fm1.row.cell 3
    have e14 : w1.cell? ⟨w.heap.size, 4, none⟩ = some (.int .i64 rk) := fm1.row.cell 4
    have e15 : w1.cell? ⟨w.heap.size, 5, none⟩ = some (.string rn1) := fm1.row.cell 5
    have e16 : w1.cell? ⟨w.heap.size, 6, none⟩ = some (.slice t2 m2 d2) := fm1.row.cell 6
    have e17 : w1.cell? ⟨w.heap.size, 7, none⟩ = some (.slice t3 m3 d3) := fm1.row.cell 7
    have e18 : w1.cell? ⟨w.heap.size, 8, none⟩ = some (.slice bp l3 bc) := fm1.row.cell 8
    go_wp2_with fail
    refine (U2.out _ (fm1)).mono ?_
    rintro ev w2 ⟨rfl, fm2⟩
    have e21 : w2.cell? ⟨w.heap.size, 2, none⟩ = some (.slice lp l1 lc) := fm2.row.cell 2
    have e22 : w2.cell? ⟨w.heap.size, 3, none⟩ = some (.slice pp l2 pc) := fm2.row.cell 3
    have e24 : w2.cell? ⟨w.heap.size, 4, none⟩ = some (.int .i64 rk) := fm2.row.cell 4
    have e25 : w2.cell? ⟨w.heap.size, 5, none⟩ = some (.string rn1) := fm2.row.cell 5
    have e26 : w2.cell? ⟨w.heap.size, 6, none⟩ = some (.slice t2 m2 d2) := fm2.row.cell 6
    have e27 : w2.cell? ⟨w.heap.size, 7, none⟩ = some (.slice t3 m3 d3) := fm2.row.cell 7
    have e28 : w2.cell? ⟨w.heap.size, 8, none⟩ = some (.slice bp l3 bc) := fm2.row.cell 8
    go_wp2_with fail
    refine (U3.out _ (fm2)).mono ?_
    rintro ev w3 ⟨rfl, fm3⟩
    have e31 : w3.cell? ⟨w.heap.size, 2, none⟩ = some (.slice lp l1 lc) := fm3.row.cell 2
    have e32 : w3.cell? ⟨w.heap.size, 3, none⟩ = some (.slice pp l2 pc) := fm3.row.cell 3
    have e34 : w3.cell? ⟨w.heap.size, 4, none⟩ = some (.int .i64 rk) := fm3.row.cell 4
    have e35 : w3.cell? ⟨w.heap.size, 5, none⟩ = some (.string rn1) := fm3.row.cell 5
    have e36 : w3.cell? ⟨w.heap.size, 6, none⟩ = some (.slice t2 m2 d2) := fm3.row.cell 6
    have e37 : w3.cell? ⟨w.heap.size, 7, none⟩ = some (.slice t3 m3 d3) := fm3.row.cell 7
    have e38 : w3.cell? ⟨w.heap.size, 8, none⟩ = some (.slice bp l3 bc) := fm3.row.cell 8
    go_wp2_with fail
    refine (U4.out _ (fm3)).mono ?_
    rintro ev w4 ⟨rfl, hb4⟩
    go_wp2_with fail
    go_ret
    exact ⟨by rw [HF.out]; rfl, hb4⟩
  have HF : Hid (B = true) := HB.out.2 ⟨f0, f1, f2, f3, f4⟩
  rw [f0] at N0
  have U1 : Hid (∀ a h, _) := fun a h => T1.out a true h ⟨fun _ => f1, fun _ => rfl⟩
  have U2 : Hid (∀ a h, _) := fun a h => T2.out a true h ⟨fun _ => f2, fun _ => rfl⟩
  have U3 : Hid (∀ a h, _) := fun a h => T3.out a true h ⟨fun _ => f3, fun _ => rfl⟩
  have U4 : Hid (∀ a h, _) := fun a h => T4.out a true h ⟨fun _ => f4, fun _ => rfl⟩
  clear HB T1 T2 T3 T4 f0 f1 f2 f3 f4
  generalize x.pub = pb at *
  generalize str x.name = nm1 at *
  generalize x.lives.length = l1 at *
  generalize x.params.length = l2 at *
  generalize x.result.kind = rk at *
  generalize str x.result.name = rn1 at *
  generalize x.body.length = l3 at *
  generalize x.pos = ps at *
  go_enter Try.func22, Try.ntmps22
  go_wp2_with fail
  refine N0.out.mono ?_
  rintro ev w0 ⟨rfl, rfl⟩
  go_wp2_with fail
  refine (U1.out _ (F0.out)).mono ?_
  rintro ev w1 ⟨rfl, fm1⟩
  have e11 : w1.cell? ⟨w.heap.size, 2, none⟩ = some (.slice lp l1 lc) := fm1.row.cell 2
  have e12 : w1.cell? ⟨w.heap.size, 3, none⟩ = some (.slice pp l2 pc) := fm1.row.cell 3
  have e14 : w1.cell? ⟨w.heap.size, 4, none⟩ = some (.int .i64 rk) := fm1.row.cell 4
  have e15 : w1.cell? ⟨w.heap.size, 5, none⟩ = some (.string rn1) := fm1.row.cell 5
  have e16 : w1.cell? ⟨w.heap.size, 6, none⟩ = some (.slice t2 m2 d2) := fm1.row.cell 6
  have e17 : w1.cell? ⟨w.heap.size, 7, none⟩ = some (.slice t3 m3 d3) := fm1.row.cell 7
  have e18 : w1.cell? ⟨w.heap.size, 8, none⟩ = some (.slice bp l3 bc) := fm1.row.cell 8
  go_wp2_with fail
  refine (U2.out _ (fm1)).mono ?_
  rintro ev w2 ⟨rfl, fm2⟩
  have e21 : w2.cell? ⟨w.heap.size, 2, none⟩ = some (.slice lp l1 lc) := fm2.row.cell 2
  have e22 : w2.cell? ⟨w.heap.size, 3, none⟩ = some (.slice pp l2 pc) := fm2.row.cell 3
  have e24 : w2.cell? ⟨w.heap.size, 4, none⟩ = some (.int .i64 rk) := fm2.row.cell 4
  have e25 : w2.cell? ⟨w.heap.size, 5, none⟩ = some (.string rn1) := fm2.row.cell 5
  have e26 : w2.cell? ⟨w.heap.size, 6, none⟩ = some (.slice t2 m2 d2) := fm2.row.cell 6
  have e27 : w2.cell? ⟨w.heap.size, 7, none⟩ = some (.slice t3 m3 d3) := fm2.row.cell 7
  have e28 : w2.cell? ⟨w.heap.size, 8, none⟩ = some (.slice bp l3 bc) := fm2.row.cell 8
  go_wp2_with fail
  refine (U3.out _ (fm2)).mono ?_
  rintro ev w3 ⟨rfl, fm3⟩
  have e31 : w3.cell? ⟨w.heap.size, 2, none⟩ = some (.slice lp l1 lc) := fm3.row.cell 2
  have e32 : w3.cell? ⟨w.heap.size, 3, none⟩ = some (.slice pp l2 pc) := fm3.row.cell 3
  have e34 : w3.cell? ⟨w.heap.size, 4, none⟩ = some (.int .i64 rk) := fm3.row.cell 4
  have e35 : w3.cell? ⟨w.heap.size, 5, none⟩ = some (.string rn1) := fm3.row.cell 5
  have e36 : w3.cell? ⟨w.heap.size, 6, none⟩ = some (.slice t2 m2 d2) := fm3.row.cell 6
  have e37 : w3.cell? ⟨w.heap.size, 7, none⟩ = some (.slice t3 m3 d3) := fm3.row.cell 7
  have e38 : w3.cell? ⟨w.heap.size, 8, none⟩ = some (.slice bp l3 bc) := fm3.row.cell 8
  go_wp2_with fail
  refine (U4.out _ (fm3)).mono ?_
  rintro ev w4 ⟨rfl, hb4⟩
  go_wp2_with fail
  go_ret
  exact ⟨by rw [HF.out]; rfl, hb4⟩

set_option maxHeartbeats 8000000 in
theorem may_any {n : Nat} {K : Ctx} {w : World} (he : Env K w) {c : Crt} {cs : List Value} (hx : CrtAt n K w cs c) (B : Bool) (hB : B = true ↔ MayCrt n c) :
    Calls Try.prog 12 #[.agg cs.toArray] w fun ev w' => ev = .returned (.bool B) ∧ Below w.heap.size w w' := by
  obtain ⟨v0, v1, rfl, hs, hf⟩ := hx
  have hn1 : c.structs.length ≤ 4611686018427387903 := by obtain ⟨_, _, _, h1, h2, _⟩ := hs.shape; omega
  have hn2 : c.funcs.length ≤ 4611686018427387903 := by obtain ⟨_, _, _, h1, h2, _⟩ := hf.shape; omega
  obtain ⟨sp, sc, rfl⟩ := hs.form
  obtain ⟨fp, fc, rfl⟩ := hf.form
  have hA := alloc_one w (.cells #[.slice sp c.structs.length sc, .slice fp c.funcs.length fc] 35)
  have hK := below_le hA he.C
  have HA : Hid (Below w.heap.size w (w.alloc (.cells #[.slice sp c.structs.length sc, .slice fp c.funcs.length fc] 35))) := hA
  have T1 : Hid (∀ B, (B = true ↔ ∀ s ∈ c.structs, MaySct s) → Calls Try.prog 19 #[.slice sp c.structs.length sc, .func (.func 20) #[] #[]] (w.alloc (.cells #[.slice sp c.structs.length sc, .slice fp c.funcs.length fc] 35)) fun ev w' => ev = .returned (.bool B) ∧ Below w.heap.size w w' ∧ Row w' w.heap.size 35 [.slice sp c.structs.length sc, .slice fp c.funcs.length fc]) := by
    intro B hB
    refine (allStructs (he.below hK) (fun _ _ _ he hx B hB => mayStruct_any he hx B hB) (hs.mono hK fun _ _ _ q => q.below hK) B hB).mono ?_
    rintro _ _ ⟨rfl, hb⟩
    exact ⟨rfl, hA.trans (below_le hb hA.size), (Row.new w 35 _).below hb (by rw [size_alloc]; omega)⟩
  have T2 : Hid (∀ (a : World) (B : Bool), Below w.heap.size w a → (B = true ↔ ∀ f ∈ c.funcs, MayFnc n f) → Calls Try.prog 21 #[.slice fp c.funcs.length fc, .func (.func 22) #[] #[]] a fun ev w' => ev = .returned (.bool B) ∧ Below w.heap.size w w') := by
    intro a B hb hB
    have hKa := below_le hb he.C
    exact (allFuncs (he.below hKa) (fun _ _ _ he hx B hB => mayFunc_any he hx B hB) (hf.mono hKa fun _ _ _ q => q.below hKa) B hB).mono fun _ _ q => ⟨q.1, hb.trans (below_le q.2 hb.size)⟩
  have HB : Hid (B = true ↔ MayCrt n c) := hB
  have wr : IntKind.i64.wrap ((c.structs.length : Int) + (c.funcs.length : Int)) = (c.structs.length : Int) + (c.funcs.length : Int) := wrap_small (by omega) (by omega)
  clear hB hs hf hA hK he
  by_cases f0 : c.structs.length + c.funcs.length ≤ 256
  · have b0 : decide ((c.structs.length : Int) + (c.funcs.length : Int) ≤ 256) = true := by simp; omega
    have b0' : (c.structs.length : Int) + (c.funcs.length : Int) ≤ 256 := by omega
    by_cases f1 : ∀ s ∈ c.structs, MaySct s
    · have U1 := T1.out true ⟨fun _ => f1, fun _ => rfl⟩
      have U2 : Hid (∀ a hb, _) := fun a hb => T2.out a B hb (by rw [HB.out]; exact ⟨fun h => h.2.2, fun h => ⟨f0, f1, h⟩⟩)
      clear HB T1 T2 f1 HA
      generalize c.structs.length = l1 at *
      generalize c.funcs.length = l2 at *
      go_enter Try.func12, Try.ntmps12
      go_wp2_with fail
      refine U1.mono ?_
      rintro ev w1 ⟨rfl, hb1, r1⟩
      have c1 : w1.cell? ⟨w.heap.size, 1, none⟩ = some (.slice fp l2 fc) := r1.cell 1
      go_wp2_with fail
      refine (U2.out _ hb1).mono ?_
      rintro ev w2 ⟨rfl, hb2⟩
      go_wp2_with fail
      go_ret
      exact ⟨rfl, hb2⟩
    · obtain rfl := bool_false HB.out (fun h => f1 h.2.1)
      have U1 := T1.out false ⟨fun h => (by cases h), fun h => absurd h f1⟩
      clear HB T1 T2 f1 HA
      generalize c.structs.length = l1 at *
      generalize c.funcs.length = l2 at *
      go_enter Try.func12, Try.ntmps12
      go_wp2_with fail
      refine U1.mono ?_
      rintro ev w1 ⟨rfl, hb1, _⟩
      go_wp2_with fail
      go_ret
      exact ⟨rfl, hb1⟩
  · have b0 : decide ((c.structs.length : Int) + (c.funcs.length : Int) ≤ 256) = false := by simp; omega
    have b0' : ¬ (c.structs.length : Int) + (c.funcs.length : Int) ≤ 256 := by omega
    obtain rfl := bool_false HB.out (fun h => f0 h.1)
    clear HB T1 T2
    generalize c.structs.length = l1 at *
    generalize c.funcs.length = l2 at *
    go_enter Try.func12, Try.ntmps12
    go_wp2_with fail
    go_ret
    exact ⟨rfl, HA.out⟩
end Go.Proofs.Ytjenmmkamhplkaa
