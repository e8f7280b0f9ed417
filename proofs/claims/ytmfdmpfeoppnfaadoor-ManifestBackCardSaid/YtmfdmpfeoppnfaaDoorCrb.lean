/-
  A crate written, crates written.
-/
import Derived.Test.YtmfdmpfeoppnfaaDoorCra
import Derived.Deep.RegionHeld3
namespace Go.Proofs.YtmfdmpfeoppnfaaDoor
open Go.RowKit

theorem Fr.drew {C : Nat} (w : World) : Fr C w w.drew := ⟨⟨rfl, rfl, rfl, Nat.le_refl _, fun _ _ => rfl⟩, fun _ _ _ => rfl⟩
theorem enters_at {f : FuncId} {fn : Func} {c : Code} (hf : Tryd.prog.funcs[f]? = some fn) (hname : (fn.name == "runtime.NumGoroutine") = false) (hb : fn.body = some c) : ∀ args w, (callFunc f args).run Tryd.prog w = .ok (.enter f args) w := by
  intro args w
  have h1 : fn.name ≠ "runtime.NumGoroutine" := by simpa using hname
  simp [callFunc, hf, h1, hb, mark]
theorem enters51 : ∀ args w, (callFunc 51 args).run Tryd.prog w = .ok (.enter 51 args) w := enters_at Tryd.func51 (by kernel_rfl) rfl
theorem enters36 : ∀ args w, (callFunc 36 args).run Tryd.prog w = .ok (.enter 36 args) w := enters_at Tryd.func36 (by kernel_rfl) rfl
/-- Texts that lie below C. -/
def Sv (C : Nat) (w : World) (v : Value) (l : List Bs) : Prop :=
  ∃ ao cap, v = .slice ao l.length cap ∧ l.length ≤ cap ∧ l.length ≤ 140737488355328 ∧ ∀ i (hi : i < l.length), ∃ b o, ao = some ⟨b, o, none⟩ ∧ b < C ∧ w.cell? ⟨b, o + i, none⟩ = some (.string (str l[i]))
theorem Sv.below {C : Nat} {w w' : World} {v : Value} {l : List Bs} (h : Sv C w v l) (hb : Below C w w') : Sv C w' v l := by
  obtain ⟨ao, cap, e, h1, h2, h3⟩ := h
  refine ⟨ao, cap, e, h1, h2, fun i hi => ?_⟩
  obtain ⟨b, o, ea, hc, hx⟩ := h3 i hi
  exact ⟨b, o, ea, hc, (hb.cell (p := ⟨b, o + i, none⟩) hc).trans hx⟩
/-- A crate at a place below C. -/
structure Sq (C : Nat) (w : World) (pb po : Nat) (x : Src) : Prop where
  lt : pb < C
  name : w.cell? ⟨pb, po, none⟩ = some (.string (str x.name))
  deps : ∃ dv, w.cell? ⟨pb, po + 1, none⟩ = some dv ∧ Sv C w dv x.deps
  text : w.cell? ⟨pb, po + 2, none⟩ = some (.string (str x.text))
  lim : x.name.length ≤ 140737488355328 ∧ x.text.length ≤ 140737488355328 ∧ ∀ d ∈ x.deps, d.length ≤ 140737488355328
theorem Sq.below {C : Nat} {w w' : World} {pb po : Nat} {x : Src} (h : Sq C w pb po x) (hb : Below C w w') : Sq C w' pb po x := by
  obtain ⟨dv, h1, h2⟩ := h.deps
  exact ⟨h.lt, (hb.cell (p := ⟨pb, po, none⟩) h.lt).trans h.name, ⟨dv, (hb.cell (p := ⟨pb, po + 1, none⟩) h.lt).trans h1, h2.below hb⟩, (hb.cell (p := ⟨pb, po + 2, none⟩) h.lt).trans h.text, h.lim⟩
theorem put_new {C b : Nat} {S : Bs} {n : Bool} {w : World} (h : Wtr C b S n w) (hS : S.length ≤ 4194304) (P : List Bs) (hP : P.length ≤ 1000) (hPl : ∀ x ∈ P, x.length ≤ 140737488355328) :
    Calls Tryd.prog 50 #[.pointer (some ⟨b, 0, none⟩), .slice (some ⟨w.heap.size, 0, none⟩) P.length P.length] (w.alloc (.cells (sts P).toArray 9)) fun ev w' => ev = .returned (.tuple #[]) ∧ Wtr C b (putF (S, n) P).1 (putF (S, n) P).2 w' ∧ Fr C w w' := by
  refine (put_any (h.alloc _) hS P (Row.new w 9 (sts P)) hP hPl).mono ?_
  rintro _ _ ⟨rfl, p1, p2⟩
  exact ⟨rfl, p1, (Fr.alloc w _ h.Cw).trans p2⟩

set_option maxHeartbeats 4000000 in
theorem dep_mem {C b g1 g2 bx ox : Nat} {w0 : World} {dv : Value} {l : List Bs} (hs : Sv C w0 dv l) (R1 : Row w0 g1 94 [.pointer (some ⟨b, 0, none⟩)]) (R2 : Row w0 g2 75 [.pointer (some ⟨bx, ox, none⟩)]) (hx : bx < C) (hxc : w0.cell? ⟨bx, ox + 1, none⟩ = some dv) (hl : ∀ d ∈ l, d.length ≤ 140737488355328) :
    Mbr C b w0 51 #[.pointer (some ⟨g1, 0, none⟩), .pointer (some ⟨g2, 0, none⟩)] (l.map depP) := by
  intro i hi S n w hS hf hw
  have hil : i < l.length := by simpa using hi
  have e0 : (l.map depP)[i] = [[32], l[i]] := by simp [depP]
  rw [e0]
  obtain ⟨ao, cap, rfl, hc, hb, hA⟩ := hs
  obtain ⟨bb, o, rfl, hbC, hcell⟩ := hA i hil
  have HS : Hid (∀ y, Fr C w y → y.cell? ⟨g1, 0, none⟩ = some (.pointer (some ⟨b, 0, none⟩)) ∧ y.cell? ⟨g2, 0, none⟩ = some (.pointer (some ⟨bx, ox, none⟩)) ∧ y.cell? ⟨bx, ox + 1, none⟩ = some (.slice (some ⟨bb, o, none⟩) l.length cap) ∧ y.cell? ⟨bb, o + i, none⟩ = some (.string (str l[i]))) := by
    intro y hy
    have h := hf.trans hy
    exact ⟨(h.row R1 (by decide) (by decide)).cell 0, (h.row R2 (by decide) (by decide)).cell 0, (h.below.cell (p := ⟨bx, ox + 1, none⟩) hx).trans hxc, (h.below.cell (p := ⟨bb, o + i, none⟩) hbC).trans hcell⟩
  have fd : Fr C w w.drew := Fr.drew w
  have fa : Fr C w (w.drew.alloc (.cells #[.string (str [32]), .string (str l[i])] 9)) := fd.trans (Fr.alloc _ _ hw.Cw)
  have D : Hid (Calls Tryd.prog 50 #[.pointer (some ⟨b, 0, none⟩), .slice (some ⟨w.drew.heap.size, 0, none⟩) 2 2] (w.drew.alloc (.cells #[.string (str [32]), .string (str l[i])] 9)) fun e w' => e = .returned (.tuple #[]) ∧ Wtr C b (putF (S, n) [[32], l[i]]).1 (putF (S, n) [[32], l[i]]).2 w' ∧ Fr C w w') := by
    refine (put_new hw.drew hS [[32], l[i]] (by simp) (fun x hx => by
      simp only [List.mem_cons, List.not_mem_nil, or_false] at hx
      rcases hx with rfl | rfl
      · simp
      · exact hl _ (List.getElem_mem hil))).mono ?_
    rintro _ _ ⟨rfl, p1, p2⟩
    exact ⟨rfl, p1, fd.trans p2⟩
  have i1 : (i : Int) < (l.length : Int) := by omega
  have i2 : l.length ≤ 9223372036854775807 := by omega
  generalize putF (S, n) [[32], l[i]] = tt at *
  generalize str l[i] = X at *
  clear hw hcell hA R1 R2 hf e0 hi hxc hl
  go_enter Tryd.func51, Tryd.ntmps51
  go_wp2_with fail
  go_region_held3 (fun z => z.cell? ⟨g1, 0, none⟩ = some (.pointer (some ⟨b, 0, none⟩)) ∧ z.cell? ⟨g2, 0, none⟩ = some (.pointer (some ⟨bx, ox, none⟩)) ∧ z.cell? ⟨bx, ox + 1, none⟩ = some (.slice (some ⟨bb, o, none⟩) l.length cap) ∧ z.cell? ⟨bb, o + i, none⟩ = some (.string X)) (exact HS.out _ (by assumption)) (first | (go_at_call 50; refine D.out.mono ?_; rintro _ w1 ⟨rfl, p1, q1⟩))
  go_wp2_with fail
  go_end0
  exact ⟨rfl, p1, q1⟩

/-- Two variables that a closure is handed. -/
theorem two_rows {C b : Nat} {S : Bs} {n : Bool} {w : World} (h : Wtr C b S n w) (u v : Value) :
    Wtr C b S n ((w.alloc (.cells #[u] 94)).alloc (.cells #[v] 75)) ∧ Fr C w ((w.alloc (.cells #[u] 94)).alloc (.cells #[v] 75)) ∧ Row ((w.alloc (.cells #[u] 94)).alloc (.cells #[v] 75)) w.heap.size 94 [u] ∧ Row ((w.alloc (.cells #[u] 94)).alloc (.cells #[v] 75)) (w.heap.size + 1) 75 [v] := by
  have hC := h.Cw
  have hs : (w.alloc (.cells #[u] 94)).heap.size = w.heap.size + 1 := by show (w.heap.push _).size = _; rw [Array.size_push]
  have f1 := Fr.alloc (C := C) w (.cells #[u] 94) hC
  have f2 := Fr.alloc (C := C) (w.alloc (.cells #[u] 94)) (.cells #[v] 75) (by omega)
  refine ⟨(h.alloc _).alloc _, f1.trans f2, f2.row (Row.new w 94 [u]) (by decide) (by decide), ?_⟩
  have := Row.new (w.alloc (.cells #[u] 94)) 75 [v]
  rw [hs] at this
  exact this

set_option maxHeartbeats 8000000 in
set_option maxRecDepth 20000 in
theorem crate_any {C b bx ox : Nat} {S : Bs} {n : Bool} {w : World} {x : Src} (hx : Sq C w bx ox x) (h : Wtr C b S n w) (hS : S.length ≤ 4194304) :
    Calls Tryd.prog 37 #[.pointer (some ⟨b, 0, none⟩), .pointer (some ⟨bx, ox, none⟩)] w fun e w' => e = .returned (.tuple #[]) ∧ Wtr C b (putF (S, n) (pcs x)).1 (putF (S, n) (pcs x)).2 w' ∧ Fr C w w' := by
  obtain ⟨hlt, c0, ⟨dv, c1, hsv⟩, c2, hl0, hl2, hl1⟩ := hx
  obtain ⟨ao, cap, rfl, hcap, hdl, hdc⟩ := id hsv
  obtain ⟨t1, t2, t3, t4⟩ := two_rows h (.pointer (some ⟨b, 0, none⟩)) (.pointer (some ⟨bx, ox, none⟩))
  obtain ⟨W, hW⟩ : ∃ W, W = (w.alloc (.cells #[.pointer (some ⟨b, 0, none⟩)] 94)).alloc (.cells #[.pointer (some ⟨bx, ox, none⟩)] 75) := ⟨_, rfl⟩
  rw [← hW] at t1 t2 t3 t4
  have HS : Hid (∀ y, Fr C W y → y.cell? ⟨w.heap.size, 0, none⟩ = some (.pointer (some ⟨b, 0, none⟩)) ∧ y.cell? ⟨w.heap.size + 1, 0, none⟩ = some (.pointer (some ⟨bx, ox, none⟩)) ∧ y.cell? ⟨bx, ox, none⟩ = some (.string (str x.name)) ∧ y.cell? ⟨bx, ox + 1, none⟩ = some (.slice ao x.deps.length cap) ∧ y.cell? ⟨bx, ox + 2, none⟩ = some (.string (str x.text))) := by
    intro y hy
    have hk := t2.trans hy
    exact ⟨(hy.row t3 (by decide) (by decide)).cell 0, (hy.row t4 (by decide) (by decide)).cell 0, (hk.below.cell (p := ⟨bx, ox, none⟩) hlt).trans c0, (hk.below.cell (p := ⟨bx, ox + 1, none⟩) hlt).trans c1, (hk.below.cell (p := ⟨bx, ox + 2, none⟩) hlt).trans c2⟩
  have ePC : putF (S, n) (pcs x) = putF (putF (putF (putF (S, n) [[61, 61], [32], x.name]) (if x.deps = [] then [] else [[32, 58]])) (x.deps.map depP).flatten) [[10], x.text] := by
    rw [pcs, putF_app, putF_app, putF_app, List.flatMap_def]
  rw [ePC]
  clear ePC
  have fd : Hid (∀ y, Fr C W y → Fr C W y.drew) := fun y hy => hy.trans (Fr.drew y)
  have D1 : Hid (∀ y, Fr C W y → Wtr C b S n y → Calls Tryd.prog 50 #[.pointer (some ⟨b, 0, none⟩), .slice (some ⟨y.drew.heap.size, 0, none⟩) 3 3] (y.drew.alloc (.cells #[.string (str [61, 61]), .string (str [32]), .string (str x.name)] 9)) fun e w' => e = .returned (.tuple #[]) ∧ Wtr C b (putF (S, n) [[61, 61], [32], x.name]).1 (putF (S, n) [[61, 61], [32], x.name]).2 w' ∧ Fr C W w') := by
    intro y hy hw
    refine (put_new hw.drew hS [[61, 61], [32], x.name] (by simp) (fun x hx => by
      simp only [List.mem_cons, List.not_mem_nil, or_false] at hx
      rcases hx with rfl | rfl | rfl
      · simp
      · simp
      · exact hl0)).mono ?_
    rintro _ _ ⟨rfl, p1, p2⟩
    exact ⟨rfl, p1, hy.trans ((Fr.drew y).trans p2)⟩
  have FA1 : Hid (∀ y S1 n1, Fr C W y → Wtr C b S1 n1 y → Fr C W (y.drew.alloc (.cells #[.string (str [61, 61]), .string (str [32]), .string (str x.name)] 9))) := fun y S1 n1 hy hw => hy.trans ((Fr.drew y).trans (Fr.alloc _ _ hw.Cw))
  have L1 := putF_len [[61, 61], [32], x.name] (S, n) hS
  generalize putF (S, n) [[61, 61], [32], x.name] = T1 at *
  have D2 : Hid (∀ y, Fr C W y → Wtr C b T1.1 T1.2 y → Calls Tryd.prog 50 #[.pointer (some ⟨b, 0, none⟩), .slice (some ⟨y.heap.size, 0, none⟩) 1 1] (y.alloc (.cells #[.string (str [32, 58])] 9)) fun e w' => e = .returned (.tuple #[]) ∧ Wtr C b (putF T1 [[32, 58]]).1 (putF T1 [[32, 58]]).2 w' ∧ Fr C W w') := by
    intro y hy hw
    refine (put_new hw L1 [[32, 58]] (by simp) (fun x hx => by
      simp only [List.mem_cons, List.not_mem_nil, or_false] at hx
      rcases hx with rfl
      simp)).mono ?_
    rintro _ _ ⟨rfl, p1, p2⟩
    exact ⟨rfl, p1, hy.trans p2⟩
  have L2 := putF_len (if x.deps = [] then [] else [[32, 58]]) T1 L1
  obtain ⟨T2, hT2⟩ : ∃ T2, T2 = putF T1 (if x.deps = [] then [] else [[32, 58]]) := ⟨_, rfl⟩
  rw [← hT2] at L2 ⊢
  have D3 : Hid (∀ y, Fr C W y → Wtr C b T2.1 T2.2 y → Calls Tryd.prog 35 #[.pointer (some ⟨b, 0, none⟩), .int .i64 (x.deps.length : Int), .func (.func 51) #[] #[.pointer (some ⟨w.heap.size, 0, none⟩), .pointer (some ⟨w.heap.size + 1, 0, none⟩)]] y.drew fun e w' => e = .returned (.tuple #[]) ∧ Wtr C b (putF T2 (x.deps.map depP).flatten).1 (putF T2 (x.deps.map depP).flatten).2 w' ∧ Fr C W w') := by
    intro y hy hw
    have hk := t2.trans hy
    have := each_w enters51 (dep_mem (hsv.below hk.below) (hy.row t3 (by decide) (by decide)) (hy.row t4 (by decide) (by decide)) hlt ((hk.below.cell (p := ⟨bx, ox + 1, none⟩) hlt).trans c1) hl1) L2 (Fr.drew y) hw.drew (by simp; omega)
    rw [List.length_map] at this
    refine this.mono ?_
    rintro _ _ ⟨rfl, p1, p2⟩
    exact ⟨rfl, p1, hy.trans ((Fr.drew y).trans p2)⟩
  have L3 := putF_len (x.deps.map depP).flatten T2 L2
  generalize putF T2 (x.deps.map depP).flatten = T3 at *
  have D4 : Hid (∀ y, Fr C W y → Wtr C b T3.1 T3.2 y → Calls Tryd.prog 50 #[.pointer (some ⟨b, 0, none⟩), .slice (some ⟨y.drew.heap.size, 0, none⟩) 2 2] (y.drew.alloc (.cells #[.string (str [10]), .string (str x.text)] 9)) fun e w' => e = .returned (.tuple #[]) ∧ Wtr C b (putF T3 [[10], x.text]).1 (putF T3 [[10], x.text]).2 w' ∧ Fr C W w') := by
    intro y hy hw
    refine (put_new hw.drew L3 [[10], x.text] (by simp) (fun x hx => by
      simp only [List.mem_cons, List.not_mem_nil, or_false] at hx
      rcases hx with rfl | rfl
      · simp
      · exact hl2)).mono ?_
    rintro _ _ ⟨rfl, p1, p2⟩
    exact ⟨rfl, p1, hy.trans ((Fr.drew y).trans p2)⟩
  have FA4 : Hid (∀ y S1 n1, Fr C W y → Wtr C b S1 n1 y → Fr C W (y.drew.alloc (.cells #[.string (str [10]), .string (str x.text)] 9))) := fun y S1 n1 hy hw => hy.trans ((Fr.drew y).trans (Fr.alloc _ _ hw.Cw))
  generalize putF T3 [[10], x.text] = T4 at *
  have HW0 := hid0 t2
  have p0 := t1
  have q0 := Fr.refl C W
  have i2 : x.deps.length ≤ 9223372036854775807 := by omega
  clear t1 t2 t3 t4 h hsv c0 c1 c2 hdc hl0 hl1 hl2 hS
  by_cases h0 : x.deps = []
  · have eT : T2 = T1 := by rw [hT2, if_pos h0, putF_nil]
    have i3 : ¬ (0 : Int) < (x.deps.length : Int) := by rw [h0]; simp
    subst eT
    clear hT2 h0 D2
    generalize x.deps.length = k1 at *
    generalize str x.name = X at *
    generalize str x.text = Y at *
    go_enter Tryd.func37, Tryd.ntmps37
    go_wp2_with fail
    rw [← hW]
    clear hW
    have f0 := fd.out _ q0
    have fa0 := FA1.out _ _ _ q0 p0
    go_region_held3 (fun z => z.cell? ⟨w.heap.size, 0, none⟩ = some (.pointer (some ⟨b, 0, none⟩)) ∧ z.cell? ⟨w.heap.size + 1, 0, none⟩ = some (.pointer (some ⟨bx, ox, none⟩)) ∧ z.cell? ⟨bx, ox, none⟩ = some (.string X) ∧ z.cell? ⟨bx, ox + 1, none⟩ = some (.slice ao k1 cap) ∧ z.cell? ⟨bx, ox + 2, none⟩ = some (.string Y)) (exact HS.out _ (by assumption)) (first | (go_at_call 50; refine (D1.out _ q0 p0).mono ?_; rintro _ w1 ⟨rfl, p1, q1⟩))
    obtain ⟨y0, y1, y2, y3, y4⟩ := HS.out _ q1
    have f1 := fd.out _ q1
    go_wp2_with fail
    go_region_held3 (fun z => z.cell? ⟨w.heap.size, 0, none⟩ = some (.pointer (some ⟨b, 0, none⟩)) ∧ z.cell? ⟨w.heap.size + 1, 0, none⟩ = some (.pointer (some ⟨bx, ox, none⟩)) ∧ z.cell? ⟨bx, ox, none⟩ = some (.string X) ∧ z.cell? ⟨bx, ox + 1, none⟩ = some (.slice ao k1 cap) ∧ z.cell? ⟨bx, ox + 2, none⟩ = some (.string Y)) (exact HS.out _ (by assumption)) (first | (go_at_call 35; refine (D3.out _ q1 p1).mono ?_; rintro _ w3 ⟨rfl, p3, q3⟩))
    have f3 := fd.out _ q3
    have fa3 := FA4.out _ _ _ q3 p3
    go_wp2_with fail
    go_region_held3 (fun z => z.cell? ⟨w.heap.size, 0, none⟩ = some (.pointer (some ⟨b, 0, none⟩)) ∧ z.cell? ⟨w.heap.size + 1, 0, none⟩ = some (.pointer (some ⟨bx, ox, none⟩)) ∧ z.cell? ⟨bx, ox, none⟩ = some (.string X) ∧ z.cell? ⟨bx, ox + 1, none⟩ = some (.slice ao k1 cap) ∧ z.cell? ⟨bx, ox + 2, none⟩ = some (.string Y)) (exact HS.out _ (by assumption)) (first | (go_at_call 50; refine (D4.out _ q3 p3).mono ?_; rintro _ w4 ⟨rfl, p4, q4⟩))
    go_wp2_with fail
    go_end0
    exact ⟨rfl, p4, HW0.out.trans q4⟩
  · have eT : T2 = putF T1 [[32, 58]] := by rw [hT2, if_neg h0]
    have i3 : (0 : Int) < (x.deps.length : Int) := by cases hh : x.deps with | nil => exact absurd hh h0 | cons a r => simp
    rw [← eT] at D2
    clear hT2 h0 eT
    generalize x.deps.length = k1 at *
    generalize str x.name = X at *
    generalize str x.text = Y at *
    go_enter Tryd.func37, Tryd.ntmps37
    go_wp2_with fail
    rw [← hW]
    clear hW
    have f0 := fd.out _ q0
    have fa0 := FA1.out _ _ _ q0 p0
    go_region_held3 (fun z => z.cell? ⟨w.heap.size, 0, none⟩ = some (.pointer (some ⟨b, 0, none⟩)) ∧ z.cell? ⟨w.heap.size + 1, 0, none⟩ = some (.pointer (some ⟨bx, ox, none⟩)) ∧ z.cell? ⟨bx, ox, none⟩ = some (.string X) ∧ z.cell? ⟨bx, ox + 1, none⟩ = some (.slice ao k1 cap) ∧ z.cell? ⟨bx, ox + 2, none⟩ = some (.string Y)) (exact HS.out _ (by assumption)) (first | (go_at_call 50; refine (D1.out _ q0 p0).mono ?_; rintro _ w1 ⟨rfl, p1, q1⟩))
    obtain ⟨y0, y1, y2, y3, y4⟩ := HS.out _ q1
    go_wp2_with fail
    refine (D2.out _ q1 p1).mono ?_
    rintro ev w2 ⟨rfl, p2, q2⟩
    have f2 := fd.out _ q2
    clear y0 y1 y2 y3 y4
    go_wp2_with fail
    go_region_held3 (fun z => z.cell? ⟨w.heap.size, 0, none⟩ = some (.pointer (some ⟨b, 0, none⟩)) ∧ z.cell? ⟨w.heap.size + 1, 0, none⟩ = some (.pointer (some ⟨bx, ox, none⟩)) ∧ z.cell? ⟨bx, ox, none⟩ = some (.string X) ∧ z.cell? ⟨bx, ox + 1, none⟩ = some (.slice ao k1 cap) ∧ z.cell? ⟨bx, ox + 2, none⟩ = some (.string Y)) (exact HS.out _ (by assumption)) (first | (go_at_call 35; refine (D3.out _ q2 p2).mono ?_; rintro _ w3 ⟨rfl, p3, q3⟩))
    have f3 := fd.out _ q3
    have fa3 := FA4.out _ _ _ q3 p3
    go_wp2_with fail
    go_region_held3 (fun z => z.cell? ⟨w.heap.size, 0, none⟩ = some (.pointer (some ⟨b, 0, none⟩)) ∧ z.cell? ⟨w.heap.size + 1, 0, none⟩ = some (.pointer (some ⟨bx, ox, none⟩)) ∧ z.cell? ⟨bx, ox, none⟩ = some (.string X) ∧ z.cell? ⟨bx, ox + 1, none⟩ = some (.slice ao k1 cap) ∧ z.cell? ⟨bx, ox + 2, none⟩ = some (.string Y)) (exact HS.out _ (by assumption)) (first | (go_at_call 50; refine (D4.out _ q3 p3).mono ?_; rintro _ w4 ⟨rfl, p4, q4⟩))
    go_wp2_with fail
    go_end0
    exact ⟨rfl, p4, HW0.out.trans q4⟩
end Go.Proofs.YtmfdmpfeoppnfaaDoor
