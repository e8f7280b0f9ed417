/-
  Bytes that have no mark are no sig: the program's Get refuses them.
-/
import Derived.Test.YtmopffaocamieaaGreatJapMty3
import Derived.Test.YtmopffaocamieaaGreatJapSub4
import Derived.Laws.ResultCell
namespace Go.Proofs.YtmopffaocamieaaGreat
open Go.RowKit

set_option maxHeartbeats 2000000 in
theorem getScts_bad {l : List UInt8} {w : World} {sb rb : Nat} {v : Value} (h : Sr l none w sb rb v) (f : Value) :
    Calls Tryz.prog 91 #[.pointer (some ⟨sb, 0, none⟩), .int .i64 256, f] w fun ev w' => ev = .returned (.slice none 0 0) ∧ Sr l none w' sb rb v ∧ Tu sb rb w w' := by
  have C := getNum_any (most := 256) (by decide) h
  simp only [gnm] at C
  clear h
  go_enter Tryz.func91, Tryz.ntmps91
  go_wp2_with fail
  refine C.mono ?_
  rintro _ w1 ⟨rfl, h1, h2⟩
  go_wp2_with fail
  refine wp_loop_rounds 1 ?_
  rw [rounds_succ]
  go_wp2_with fail
  go_ret
  exact ⟨rfl, h1, h2⟩
set_option maxHeartbeats 2000000 in
theorem getFncs_bad {l : List UInt8} {w : World} {sb rb : Nat} {v : Value} (h : Sr l none w sb rb v) (f : Value) :
    Calls Tryz.prog 93 #[.pointer (some ⟨sb, 0, none⟩), .int .i64 256, f] w fun ev w' => ev = .returned (.slice none 0 0) ∧ Sr l none w' sb rb v ∧ Tu sb rb w w' := by
  have C := getNum_any (most := 256) (by decide) h
  simp only [gnm] at C
  clear h
  go_enter Tryz.func93, Tryz.ntmps93
  go_wp2_with fail
  refine C.mono ?_
  rintro _ w1 ⟨rfl, h1, h2⟩
  go_wp2_with fail
  refine wp_loop_rounds 1 ?_
  rw [rounds_succ]
  go_wp2_with fail
  go_ret
  exact ⟨rfl, h1, h2⟩

theorem results_cell_row2 {P : Program} {fn : Func} {p u : Tmp} {ty : TypeId} (h : fn.results = #[.cell p ty, .tmp u]) (tmps : Array Value) (w : World) (g : Nat) (t : TypeId) (cs : Array Value) (fr : Nat × Nat) (d : TypeDesc)
    (hp : tmps.getD p undef = .pointer (some ⟨g, 0, none⟩)) (hg : w.heap[g]? = some (.cells cs t fr))
    (hu : P.underlying ty = some d) (hd : (match d with | .struct _ | .array _ _ => true | _ => false) = true) (hi : (P.info? ty).map (·.size) = some cs.size) :
    (results fn tmps).run P w = .ok (.tuple #[.agg cs, tmps.getD u undef]) w := by
  rw [results_cell_tmp h, hp]
  simp [asAddr, run_loadVar_row w g t ty cs fr d hg hu hd hi]
/-- A sig's cells where nothing was read. -/
def nilSig : Value := .agg #[.string (str []), .slice none 0 0, .slice none 0 0]

theorem Stay.rowT {sb rb g t : Nat} {w w' : World} {L : List Value} (h : Tu sb rb w w') (hr : Row w g t L) (h1 : g ≠ sb) (h2 : g ≠ rb) : Row w' g t L := Stay.row h hr (fun e => by rcases e with e | e <;> omega)

theorem Sr.stay {l : List UInt8} {st : Option Nat} {w w' : World} {sb rb : Nat} {v : Value} {X : Nat → Prop} (h : Sr l st w sb rb v) (hs : Stay X w w') (h1 : ¬ X sb) (h2 : ¬ X rb) (h3 : ∀ k, v.ownBlock = some k → ¬ X k) : Sr l st w' sb rb v := by
  have e1 := hs.block sb h.lt h1
  obtain ⟨p, hr, hp⟩ := h.rd
  refine ⟨(World.cell?_of_block (a := ⟨sb, 0, none⟩) e1).trans h.c0, fun e => ?_, fun q e => (World.cell?_of_block (a := ⟨sb, 1, none⟩) e1).trans (h.good q e), (World.frozen?_of_block (a := ⟨sb, 1, none⟩) e1).trans h.fz, ⟨p, hr.same (hs.block rb hr.lt h2) (fun k e => hs.block k (hr.own.lt k e).2 (h3 k e)), hp⟩, h.ne, h.no⟩
  obtain ⟨t, x, hx⟩ := h.bad e
  exact ⟨t, x, (World.cell?_of_block (a := ⟨sb, 1, none⟩) e1).trans hx⟩
abbrev N3 : List Value := [.string (str []), .slice none 0 0, .slice none 0 0]
/-- On the way through getSig behind an error. -/
structure Gsg (l : List UInt8) (w W : World) (sb rb : Nat) (v : Value) (g : Nat) : Prop where
  sr : Sr l none W sb rb v
  tu : Tu sb rb w W
  r1 : Row W w.heap.size 27 N3
  r2 : Row W g 27 N3
  lt : w.heap.size < g
  ls : sb < w.heap.size
  lr : rb < w.heap.size
  lv : ∀ k, v.ownBlock = some k → k < w.heap.size
theorem Gsg.next {l : List UInt8} {w W W' : World} {sb rb : Nat} {v : Value} {g : Nat} (h : Gsg l w W sb rb v g) (hs : Sr l none W' sb rb v) (ht : Tu sb rb W W') : Gsg l w W' sb rb v g :=
  ⟨hs, h.tu.trans ht, Stay.rowT ht h.r1 (by have := h.ls; omega) (by have := h.lr; omega), Stay.rowT ht h.r2 (by have := h.ls; have := h.lt; omega) (by have := h.lr; have := h.lt; omega), h.lt, h.ls, h.lr, h.lv⟩
theorem Gsg.set {l : List UInt8} {w W : World} {sb rb : Nat} {v : Value} {g : Nat} (h : Gsg l w W sb rb v g) (j : Nat) (x : Value) (hx : N3.set j x = N3) : Gsg l w (W.setCell ⟨g, j, none⟩ x) sb rb v g := by
  have hl := h.lt
  have h1 := h.ls
  have h2 := h.lr
  have hst : Stay (fun k => k = g) W (W.setCell ⟨g, j, none⟩ x) := Stay.set (X := fun k => k = g) (Stay.refl _ _) (fun _ => rfl) _ _
  refine ⟨h.sr.stay hst (by omega) (by omega) (fun k e hk => by have := h.lv k e; omega), h.tu.step hst (fun i hi e => by omega), hst.row h.r1 (by omega), ?_, h.lt, h.ls, h.lr, h.lv⟩
  have := h.r2.set j x
  rw [hx] at this
  exact this

theorem Gsg.set1 {l : List UInt8} {w W : World} {sb rb : Nat} {v : Value} {g : Nat} (h : Gsg l w W sb rb v g) (j : Nat) (x : Value) (hx : N3.set j x = N3) : Gsg l w (W.setCell ⟨w.heap.size, j, none⟩ x) sb rb v g := by
  have hl := h.lt
  have h1 := h.ls
  have h2 := h.lr
  have hst : Stay (fun k => k = w.heap.size) W (W.setCell ⟨w.heap.size, j, none⟩ x) := Stay.set (X := fun k => k = w.heap.size) (Stay.refl _ _) (fun _ => rfl) _ _
  refine ⟨h.sr.stay hst (by omega) (by omega) (fun k e hk => by have := h.lv k e; omega), h.tu.step hst (fun i hi e => by omega), ?_, hst.row h.r2 (by omega), h.lt, h.ls, h.lr, h.lv⟩
  have := h.r1.set j x
  rw [hx] at this
  exact this

set_option maxHeartbeats 4000000 in
theorem getSig_bad {l : List UInt8} {st : Option Nat} {w : World} {sb rb : Nat} {v : Value} (h : Sr l st w sb rb v) (hm : gmk l st = none) :
    Calls Tryz.prog 48 #[.pointer (some ⟨sb, 0, none⟩)] w fun ev w' => ev = .returned nilSig ∧ Sr l none w' sb rb v ∧ Tu sb rb w w' := by
  have ls := h.lt
  have lr := h.ltr
  have lv : ∀ k, v.ownBlock = some k → k < w.heap.size := fun k e => by obtain ⟨p, hr, _⟩ := h.rd; exact (hr.own.lt k e).2
  have hA := alloc_one w (.cells #[.string (str []), .slice none 0 0, .slice none 0 0] 27)
  have C1 : Hid (Calls Tryz.prog 89 #[.pointer (some ⟨sb, 0, none⟩)] (w.alloc (.cells #[.string (str []), .slice none 0 0, .slice none 0 0] 27)) fun ev w' => ev = .returned (.tuple #[]) ∧ Sr l none w' sb rb v ∧ Tu sb rb w w' ∧ w.heap.size < w'.heap.size ∧ Row w' w.heap.size 27 N3) := by
    have hR := Row.new w 27 [.string (str []), .slice none 0 0, .slice none 0 0]
    refine (getMark_any (h.past hA)).mono ?_
    rintro _ w1 ⟨rfl, h1, h2⟩
    rw [hm] at h1
    have hr := Stay.rowT h2 hR (by omega) (by omega)
    exact ⟨rfl, h1, (Stay.of_below hA).trans h2, hr.lt, hr⟩
  have C2 : Hid (∀ w1, Sr l none w1 sb rb v → Tu sb rb w w1 → w.heap.size < w1.heap.size → Row w1 w.heap.size 27 N3 → Calls Tryz.prog 90 #[.pointer (some ⟨sb, 0, none⟩)] (w1.alloc (.cells #[.string (str []), .slice none 0 0, .slice none 0 0] 27)) fun ev w' => ev = .returned (.string (str [])) ∧ Gsg l w w' sb rb v w1.heap.size) := by
    intro w1 h1 h2 hlt hr
    have hB := alloc_one w1 (.cells #[.string (str []), .slice none 0 0, .slice none 0 0] 27)
    refine (getText_any (h1.past hB)).mono ?_
    rintro _ w2 ⟨rfl, h3, h4⟩
    have hs := h2.size
    have r1 := Stay.rowT h4 (Row.new w1 27 N3) (by omega) (by omega)
    exact ⟨rfl, h3, h2.trans ((Stay.of_below hB).trans h4), Stay.rowT h4 (hr.alloc _) (by omega) (by omega), r1, hlt, ls, lr, lv⟩
  have C3 : Hid (∀ (W : World) (g : Nat) (f : Value), Gsg l w W sb rb v g → Calls Tryz.prog 91 #[.pointer (some ⟨sb, 0, none⟩), .int .i64 256, f] W fun ev w' => ev = .returned (.slice none 0 0) ∧ Gsg l w w' sb rb v g) := by
    intro W g f hg
    refine (getScts_bad hg.sr f).mono ?_
    rintro _ w1 ⟨rfl, h1, h2⟩
    exact ⟨rfl, hg.next h1 h2⟩
  have C4 : Hid (∀ (W : World) (g : Nat) (f : Value), Gsg l w W sb rb v g → Calls Tryz.prog 93 #[.pointer (some ⟨sb, 0, none⟩), .int .i64 256, f] W fun ev w' => ev = .returned (.slice none 0 0) ∧ Gsg l w w' sb rb v g) := by
    intro W g f hg
    refine (getFncs_bad hg.sr f).mono ?_
    rintro _ w1 ⟨rfl, h1, h2⟩
    exact ⟨rfl, hg.next h1 h2⟩
  clear hA ls lr lv h hm
  go_enter Tryz.func48, Tryz.ntmps48
  go_wp2_with fail
  refine C1.out.mono ?_
  rintro _ w1 ⟨rfl, h1, h2, hlt, hr⟩
  have D2 := hidS (C2.out w1 h1 h2 hlt hr)
  clear C1 C2 h1 h2 hr
  go_wp2_with fail
  refine D2.out.mono ?_
  rintro _ w2 ⟨rfl, hg⟩
  have e0 : w2.cell? ⟨w1.heap.size, 0, none⟩ = some (.string (str [])) := hg.r2.cell 0
  have z0 := hg.r2.fz 0
  have hg2 := hg.set 0 (.string (str [])) rfl
  have D3 : Hid (∀ f, _) := fun f => C3.out _ _ f hg2
  clear C3 D2 hg hg2
  go_wp2_with fail
  refine (D3.out _).mono ?_
  rintro _ w3 ⟨rfl, hg⟩
  have e1 : w3.cell? ⟨w1.heap.size, 1, none⟩ = some (.slice none 0 0) := hg.r2.cell 1
  have z1 := hg.r2.fz 1
  have hg2 := hg.set 1 (.slice none 0 0) rfl
  have D4 : Hid (∀ f, _) := fun f => C4.out _ _ f hg2
  clear C4 D3 hg hg2 e0 z0
  go_wp2_with fail
  refine (D4.out _).mono ?_
  rintro _ w4 ⟨rfl, hg⟩
  have hg2 := hg.set 2 (.slice none 0 0) rfl
  have e2 : w4.cell? ⟨w1.heap.size, 2, none⟩ = some (.slice none 0 0) := hg.r2.cell 2
  have z2 := hg.r2.fz 2
  have x0 : w4.cell? ⟨w1.heap.size, 0, none⟩ = some (.string (str [])) := hg.r2.cell 0
  have x1 : w4.cell? ⟨w1.heap.size, 1, none⟩ = some (.slice none 0 0) := hg.r2.cell 1
  have y0 : w4.cell? ⟨w.heap.size, 0, none⟩ = some (.string (str [])) := hg.r1.cell 0
  have y1 : w4.cell? ⟨w.heap.size, 1, none⟩ = some (.slice none 0 0) := hg.r1.cell 1
  have y2 : w4.cell? ⟨w.heap.size, 2, none⟩ = some (.slice none 0 0) := hg.r1.cell 2
  have t0 := hg.r1.fz 0
  have t1 := hg.r1.fz 1
  have t2 := hg.r1.fz 2
  have hne : w.heap.size ≠ w1.heap.size := by omega
  have hne2 : w1.heap.size ≠ w.heap.size := by omega
  have HG := hidS hg2
  clear D4 e1 z1 hg hg2
  go_wp2_with fail
  have G := ((HG.out.set1 0 (.string (str [])) rfl).set1 1 (.slice none 0 0) rfl).set1 2 (.slice none 0 0) rfl
  exact bodyPost_ret (v := nilSig) (results_cell_row Tryz.results48 _ _ w.heap.size 27 N3.toArray (0, 0) _ rfl G.r1.heap Tryz.underlying27 rfl (by kernel_rfl)) rfl ⟨rfl, G.sr, G.tu⟩

set_option maxHeartbeats 2000000 in
theorem whole_bad {l : List UInt8} {w : World} {sb rb : Nat} {v : Value} (h : Sr l none w sb rb v) :
    Calls Tryz.prog 49 #[.pointer (some ⟨sb, 0, none⟩)] w fun ev w' => ev = .returned (.bool false) ∧ w' = w := by
  obtain ⟨t, x, hx⟩ := h.bad rfl
  have kn := iface_not_nil t x
  clear h
  go_enter Tryz.func49, Tryz.ntmps49
  go_wp2_with fail
  go_ret
  exact ⟨rfl, rfl⟩

set_option maxHeartbeats 2000000 in
theorem newSr_any (w : World) (u : Value) (l : List UInt8) (h : Sw w u l) (hn : ∀ cap, u = .slice none 0 cap → cap = 0) (hl : l.length ≤ 1099511627776) :
    Calls Tryz.prog 47 #[u] w fun ev w' => ∃ sb rb v, ev = .returned (.pointer (some ⟨sb, 0, none⟩)) ∧ Sr l (some 0) w' sb rb v ∧ w.heap.size ≤ sb ∧ w.heap.size ≤ rb ∧ Below w.heap.size w w' := by
  have C := newReader_any w u l h hn hl
  clear h hn
  go_enter Tryz.func47, Tryz.ntmps47
  go_wp2_with fail
  refine C.mono ?_
  rintro _ w1 ⟨rb, v, rfl, hr, hb, hk, hB⟩
  have HF : Hid (Sr l (some 0) (w1.alloc (.cells #[.pointer (some ⟨rb, 0, none⟩), .nilIface] 155)) w1.heap.size rb v ∧ Below w.heap.size w (w1.alloc (.cells #[.pointer (some ⟨rb, 0, none⟩), .nilIface] 155))) := by
    have R := Row.new w1 155 [.pointer (some ⟨rb, 0, none⟩), .nilIface]
    have hlt := hr.lt
    refine ⟨⟨R.cell 0, fun e => (by cases e), fun _ _ => R.cell 1, R.fz 1, ⟨0, hr.past (alloc_one w1 _), fun q e => (by cases e; rfl)⟩, by omega, fun e => ?_⟩, hB.alloc hB.size _⟩
    have := (hr.own.lt _ e).2; omega
  have HZ : Hid (w.heap.size ≤ w1.heap.size ∧ w.heap.size ≤ rb) := ⟨hB.size, hb⟩
  clear C hr hk hB hb
  go_wp2_with fail
  go_ret
  exact ⟨_, rb, v, rfl, HF.out.1, HZ.out.1, HZ.out.2, HF.out.2⟩

theorem Er.stay {w w' : World} {e : Value} {code pl g t : Nat} {L : List Value} (h : Er w e code pl) (hs : Stay (fun k => k = g) w w') (hr : Row w g t L) (hL : ∀ c, L[0]? ≠ some (.int .i64 c)) : Er w' e code pl := by
  obtain ⟨b, he, h0, h1, h2⟩ := h.shape
  have hne : b ≠ g := fun e => by
    subst e
    rw [hr.cell 0] at h0
    exact hL _ h0
  have hb := hs.block b (World.block_lt_of_cell? w _ h0) hne
  exact ⟨b, he, (World.cell?_of_block (a := ⟨b, 0, none⟩) hb).trans h0, (World.cell?_of_block (a := ⟨b, 1, none⟩) hb).trans h1, (World.cell?_of_block (a := ⟨b, 2, none⟩) hb).trans h2⟩
set_option maxHeartbeats 4000000 in
/-- Bytes without the mark. -/
theorem get_bad (w : World) (u : Value) (l : List UInt8) (h : Sw w u l) (hn : ∀ cap, u = .slice none 0 cap → cap = 0) (hl : l.length ≤ 1099511627776) (hm : gmk l (some 0) = none) :
    Calls Tryz.prog 20 #[u] w fun ev w' => ∃ e, ev = .returned (.tuple #[nilSig, e]) ∧ Er w' e 4 0 ∧ Below w.heap.size w w' := by
  have hA := alloc_one w (.cells #[.string (str []), .slice none 0 0, .slice none 0 0] 27)
  have C1 : Hid (Calls Tryz.prog 47 #[u] (w.alloc (.cells #[.string (str []), .slice none 0 0, .slice none 0 0] 27)) fun ev w' => ∃ sb rb v, ev = .returned (.pointer (some ⟨sb, 0, none⟩)) ∧ Sr l (some 0) w' sb rb v ∧ w.heap.size < sb ∧ w.heap.size < rb ∧ Below w.heap.size w w' ∧ Row w' w.heap.size 27 N3) := by
    refine (newSr_any _ u l (h.below hA) hn hl).mono ?_
    rintro _ w1 ⟨sb, rb, v, rfl, h1, h2, h3, h4⟩
    rw [size_alloc] at h2 h3
    exact ⟨sb, rb, v, rfl, h1, h2, h3, hA.trans (h4.mono hA.size), (Row.new w 27 N3).below h4 (by rw [size_alloc]; omega)⟩
  have C2 : Hid (∀ w1 sb rb v, Sr l (some 0) w1 sb rb v → w.heap.size < sb → w.heap.size < rb → Below w.heap.size w w1 → Row w1 w.heap.size 27 N3 → Calls Tryz.prog 48 #[.pointer (some ⟨sb, 0, none⟩)] w1 fun ev w' => ev = .returned nilSig ∧ Sr l none w' sb rb v ∧ Below w.heap.size w w' ∧ Row w' w.heap.size 27 N3) := by
    intro w1 sb rb v h1 h2 h3 h4 h5
    refine (getSig_bad h1 hm).mono ?_
    rintro _ w2 ⟨rfl, k1, k2⟩
    exact ⟨rfl, k1, h4.trans (k2.below h4.size (fun k hk => by omega)), Stay.rowT k2 h5 (by omega) (by omega)⟩
  have C3 : Hid (∀ w2 sb rb v, Sr l none w2 sb rb v → Calls Tryz.prog 49 #[.pointer (some ⟨sb, 0, none⟩)] (w2.alloc (.cells #[.string (str []), .slice none 0 0, .slice none 0 0] 27)) fun ev w' => ev = .returned (.bool false) ∧ w' = w2.alloc (.cells #[.string (str []), .slice none 0 0, .slice none 0 0] 27)) :=
    fun w2 sb rb v h1 => whole_bad (h1.past (alloc_one w2 _))
  have C4 : Hid (∀ w2, Below w.heap.size w w2 → Row w2 w.heap.size 27 N3 → Calls Tryz.prog 28 #[.int .i64 4, .int .i64 0] (w2.alloc (.cells #[.string (str []), .slice none 0 0, .slice none 0 0] 27)) fun ev w' => ∃ e, ev = .returned e ∧ Er w' e 4 0 ∧ Below w.heap.size w w' ∧ Row w' w.heap.size 27 N3) := by
    intro w2 h1 h2
    refine (new_any _ 4 0 (by decide)).mono ?_
    rintro _ w3 ⟨e, rfl, hE, hB⟩
    have hz := h1.alloc h1.size (.cells #[.string (str []), .slice none 0 0, .slice none 0 0] 27)
    exact ⟨e, rfl, hE, hz.trans (hB.mono hz.size), (h2.alloc _).below hB (h2.alloc _).lt⟩
  clear hA h hn hm
  go_enter Tryz.func20, Tryz.ntmps20
  go_wp2_with fail
  refine C1.out.mono ?_
  rintro _ w1 ⟨sb, rb, v, rfl, h1, h2, h3, h4, h5⟩
  have D2 := hidS (C2.out w1 sb rb v h1 h2 h3 h4 h5)
  clear C1 C2 h1 h2 h3 h4 h5
  go_wp2_with fail
  refine D2.out.mono ?_
  rintro _ w2 ⟨rfl, k1, k2, k3⟩
  have D3 := hidS (C3.out w2 sb rb v k1)
  have D4 := hidS (C4.out w2 k2 k3)
  clear C3 C4 k1 k2 k3 D2
  unfold nilSig
  go_wp2_with fail
  refine D3.out.mono ?_
  rintro _ _ ⟨rfl, rfl⟩
  clear D3
  go_wp2_with fail
  refine D4.out.mono ?_
  rintro _ w3 ⟨e, rfl, hE, hB, hR⟩
  have y0 : w3.cell? ⟨w.heap.size, 0, none⟩ = some (.string (str [])) := hR.cell 0
  have y1 : w3.cell? ⟨w.heap.size, 1, none⟩ = some (.slice none 0 0) := hR.cell 1
  have y2 : w3.cell? ⟨w.heap.size, 2, none⟩ = some (.slice none 0 0) := hR.cell 2
  have t0 := hR.fz 0
  have t1 := hR.fz 1
  have t2 := hR.fz 2
  have HE := hidS hE
  have HB := hidS hB
  have HR := hidS hR
  clear D4 hE hB hR
  go_wp2_with fail
  have R5 := ((HR.out.set 0 (.string (str []))).set 1 (.slice none 0 0)).set 2 (.slice none 0 0)
  have S5 : Stay (fun k => k = w.heap.size) w3 (((w3.setCell ⟨w.heap.size, 0, none⟩ (.string (str []))).setCell ⟨w.heap.size, 1, none⟩ (.slice none 0 0)).setCell ⟨w.heap.size, 2, none⟩ (.slice none 0 0)) :=
    Stay.set (X := fun k => k = w.heap.size) (Stay.set (X := fun k => k = w.heap.size) (Stay.set (X := fun k => k = w.heap.size) (Stay.refl _ _) (fun _ => rfl) _ _) (fun _ => rfl) _ _) (fun _ => rfl) _ _
  have E5 := HE.out.stay S5 HR.out (fun c => by simp)
  exact bodyPost_ret (v := .tuple #[nilSig, e]) (results_cell_row2 Tryz.results20 _ _ w.heap.size 27 N3.toArray (0, 0) _ rfl R5.heap Tryz.underlying27 rfl (by kernel_rfl)) rfl ⟨e, rfl, E5, HB.out.trans (S5.below HB.out.size (fun k hk => by omega))⟩
end Go.Proofs.YtmopffaocamieaaGreat
