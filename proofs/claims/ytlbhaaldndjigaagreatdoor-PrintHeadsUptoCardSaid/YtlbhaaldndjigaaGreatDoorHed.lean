/-
  The writer's lives, lifeOver.
-/
import Derived.Test.YtlbhaaldndjigaaGreatDoorLis
import Derived.Deep.RegionHeld3
namespace Go.Proofs.YtlbhaaldndjigaaGreatDoor
open Go.RowKit

theorem Fr.drew {C : Nat} (w : World) : Fr C w w.drew := ⟨⟨rfl, rfl, rfl, Nat.le_refl _, fun _ _ => rfl⟩, fun _ _ _ => rfl⟩
theorem Strs.at {K : Ctx} {w : World} {v : Value} {l : List Bs} (h : Strs K w v l) : ∃ ao cap, v = .slice ao l.length cap ∧ l.length ≤ cap ∧ l.length * 16 ≤ 140737488355328 ∧ ∀ i (hi : i < l.length), ∃ b o, ao = some ⟨b, o, none⟩ ∧ b < K.C ∧ ∀ w', Below K.C w w' → w'.cell? ⟨b, o + i, none⟩ = some (.string (str l[i])) := by
  obtain ⟨ao, cap, e, h1, h2, h3⟩ := h.shape
  refine ⟨ao, cap, e, h1, h2, fun i hi => ?_⟩
  obtain ⟨b, o, ea, hb, cs, hl, hc, hx, _⟩ := h3 i hi
  refine ⟨b, o, ea, hb, fun w' hw => ?_⟩
  have := hc 0 (by decide)
  rw [hx] at this
  rw [hw.cell (p := ⟨b, o + i, none⟩) hb]
  simpa using this

theorem enters_at {f : FuncId} {fn : Func} {c : Code} (hf : Tryz.prog.funcs[f]? = some fn) (hname : (fn.name == "runtime.NumGoroutine") = false) (hb : fn.body = some c) : ∀ args w, (callFunc f args).run Tryz.prog w = .ok (.enter f args) w := by
  intro args w
  have h1 : fn.name ≠ "runtime.NumGoroutine" := by simpa using hname
  simp [callFunc, hf, h1, hb, mark]
theorem enters78 : ∀ args w, (callFunc 78 args).run Tryz.prog w = .ok (.enter 78 args) w := enters_at Tryz.func78 (by kernel_rfl) rfl
theorem enters80 : ∀ args w, (callFunc 80 args).run Tryz.prog w = .ok (.enter 80 args) w := enters_at Tryz.func80 (by kernel_rfl) rfl
theorem enters52 : ∀ args w, (callFunc 52 args).run Tryz.prog w = .ok (.enter 52 args) w := enters_at Tryz.func52 (by kernel_rfl) rfl
theorem enters55 : ∀ args w, (callFunc 55 args).run Tryz.prog w = .ok (.enter 55 args) w := enters_at Tryz.func55 (by kernel_rfl) rfl
theorem enters73 : ∀ args w, (callFunc 73 args).run Tryz.prog w = .ok (.enter 73 args) w := enters_at Tryz.func73 (by kernel_rfl) rfl

set_option maxHeartbeats 4000000 in
theorem lives_mem {K : Ctx} {b g1 g2 : Nat} {n : Int} {w0 : World} {v : Value} {l : List Bs} (hs : Strs K w0 v l) (R1 : Row w0 g1 93 [.pointer (some ⟨b, 0, none⟩)]) (R2 : Row w0 g2 35 [v]) :
    Mem K.C b n w0 78 #[.pointer (some ⟨g1, 0, none⟩), .pointer (some ⟨g2, 0, none⟩)] (l.map lifT) := by
  intro i hi S w hf hw hlen
  have hil : i < l.length := by simpa using hi
  have e0 : (l.map lifT)[i] = lifT l[i] := by simp
  rw [e0] at hlen ⊢
  obtain ⟨ao, cap, rfl, hc, hb, hA⟩ := hs.at
  obtain ⟨bb, o, rfl, hbC, hcell⟩ := hA i hil
  have HS : Hid (∀ y, Fr K.C w y → y.cell? ⟨g1, 0, none⟩ = some (.pointer (some ⟨b, 0, none⟩)) ∧ y.cell? ⟨g2, 0, none⟩ = some (.slice (some ⟨bb, o, none⟩) l.length cap) ∧ y.cell? ⟨bb, o + i, none⟩ = some (.string (str l[i]))) := by
    intro y hy
    have h := hf.trans hy
    exact ⟨(h.row R1 (by decide) (by decide)).cell 0, (h.row R2 (by decide) (by decide)).cell 0, hcell y h.below⟩
  have fd : Fr K.C w w.drew := Fr.drew w
  have D : Hid (Calls Tryz.prog 48 #[.pointer (some ⟨b, 0, none⟩), .string (str l[i])] w.drew fun e w' => e = .returned (.tuple #[]) ∧ Wtr K.C b (S ++ lifT l[i]) n w' ∧ Fr K.C w w') := by
    refine (life_any hw.drew l[i] hlen).mono ?_
    rintro _ _ ⟨rfl, p1, p2⟩
    exact ⟨rfl, p1, fd.trans p2⟩
  have i1 : (i : Int) < (l.length : Int) := by omega
  have i2 : l.length ≤ 9223372036854775807 := by omega
  generalize str l[i] = X at *
  clear hw hlen hcell hA hs R1 R2 hf e0 hi
  go_enter Tryz.func78, Tryz.ntmps78
  go_wp2_with fail
  go_region_held3 (fun z => z.cell? ⟨g1, 0, none⟩ = some (.pointer (some ⟨b, 0, none⟩)) ∧ z.cell? ⟨g2, 0, none⟩ = some (.slice (some ⟨bb, o, none⟩) l.length cap) ∧ z.cell? ⟨bb, o + i, none⟩ = some (.string X)) (exact HS.out _ (by assumption)) (first | (go_at_call 48; refine D.out.mono ?_; rintro _ w1 ⟨rfl, p1, q1⟩))
  go_wp2_with fail
  go_end0
  exact ⟨rfl, p1, q1⟩

/-- Two variables that a closure is handed. -/
theorem two_rows {C b : Nat} {S : Bs} {n : Int} {w : World} (h : Wtr C b S n w) (t : Nat) (u v : Value) :
    Wtr C b S n ((w.alloc (.cells #[u] 93)).alloc (.cells #[v] t)) ∧ Fr C w ((w.alloc (.cells #[u] 93)).alloc (.cells #[v] t)) ∧ Row ((w.alloc (.cells #[u] 93)).alloc (.cells #[v] t)) w.heap.size 93 [u] ∧ Row ((w.alloc (.cells #[u] 93)).alloc (.cells #[v] t)) (w.heap.size + 1) t [v] := by
  have hC := h.Cw
  have hs : (w.alloc (.cells #[u] 93)).heap.size = w.heap.size + 1 := by show (w.heap.push _).size = _; rw [Array.size_push]
  have f1 := Fr.alloc (C := C) w (.cells #[u] 93) hC
  have f2 := Fr.alloc (C := C) (w.alloc (.cells #[u] 93)) (.cells #[v] t) (by omega)
  refine ⟨(h.alloc _).alloc _, f1.trans f2, f2.row (Row.new w 93 [u]) (by decide) (by decide), ?_⟩
  have := Row.new (w.alloc (.cells #[u] 93)) t [v]
  rw [hs] at this
  exact this

set_option maxHeartbeats 2000000 in
theorem lives_any {K : Ctx} {b : Nat} {S : Bs} {n : Int} {w : World} {v : Value} {l : List Bs} (hs : Strs K w v l) (h : Wtr K.C b S n w) (hlen : S.length + (markT l).length ≤ 140737488355328) :
    Calls Tryz.prog 50 #[.pointer (some ⟨b, 0, none⟩), v] w fun e w' => e = .returned (.tuple #[]) ∧ Wtr K.C b (S ++ markT l) n w' ∧ Fr K.C w w' := by
  obtain ⟨ao, cap, rfl, hc, hb, -⟩ := hs.at
  obtain ⟨t1, t2, t3, t4⟩ := two_rows h 35 (.pointer (some ⟨b, 0, none⟩)) (.slice ao l.length cap)
  have D : Hid (Calls Tryz.prog 51 #[.pointer (some ⟨b, 0, none⟩), .int .i64 (l.length : Int), .func (.func 78) #[] #[.pointer (some ⟨w.heap.size, 0, none⟩), .pointer (some ⟨w.heap.size + 1, 0, none⟩)]] ((w.alloc (.cells #[.pointer (some ⟨b, 0, none⟩)] 93)).alloc (.cells #[.slice ao l.length cap] 35)) fun e w' => e = .returned (.tuple #[]) ∧ Wtr K.C b (S ++ markT l) n w' ∧ Fr K.C w w') := by
    have := angled_any enters78 (lives_mem (n := n) (hs.below t2.below) t3 t4) (Fr.refl _ _) t1 (by simp; omega) hlen
    rw [List.length_map] at this
    refine this.mono ?_
    rintro _ _ ⟨rfl, p1, p2⟩
    exact ⟨rfl, p1, t2.trans p2⟩
  clear t1 t2 t3 t4 h hs hlen
  have i2 : l.length ≤ 9223372036854775807 := by omega
  go_enter Tryz.func50, Tryz.ntmps50
  go_wp2_with fail
  refine D.out.mono ?_
  rintro ev w2 ⟨rfl, p1, p2⟩
  go_wp2_with fail
  go_end0
  exact ⟨rfl, p1, p2⟩

/-- Things of z cells at b, o. -/
def Lies (K : Ctx) (w : World) (z b o : Nat) (cs : List Value) : Prop := b < K.C ∧ ∀ j, j < z → w.cell? ⟨b, o + j, none⟩ = cs[j]?
theorem Lies.below {K : Ctx} {w w' : World} {z b o : Nat} {cs : List Value} (h : Lies K w z b o cs) (hb : Below K.C w w') : Lies K w' z b o cs :=
  ⟨h.1, fun j hj => (hb.cell (p := ⟨b, o + j, none⟩) h.1).trans (h.2 j hj)⟩

set_option maxHeartbeats 4000000 in
theorem over_mem {K : Ctx} {b g1 g2 bx ox : Nat} {n : Int} {w0 : World} {v : Value} {l : List Bs} (hs : Strs K w0 v l) (R1 : Row w0 g1 93 [.pointer (some ⟨b, 0, none⟩)]) (R2 : Row w0 g2 108 [.pointer (some ⟨bx, ox, none⟩)]) (hx : bx < K.C) (hxc : w0.cell? ⟨bx, ox + 1, none⟩ = some v) :
    Mem K.C b n w0 80 #[.pointer (some ⟨g1, 0, none⟩), .pointer (some ⟨g2, 0, none⟩)] (l.map lifT) := by
  intro i hi S w hf hw hlen
  have hil : i < l.length := by simpa using hi
  have e0 : (l.map lifT)[i] = lifT l[i] := by simp
  rw [e0] at hlen ⊢
  obtain ⟨ao, cap, rfl, hc, hb, hA⟩ := hs.at
  obtain ⟨bb, o, rfl, hbC, hcell⟩ := hA i hil
  have HS : Hid (∀ y, Fr K.C w y → y.cell? ⟨g1, 0, none⟩ = some (.pointer (some ⟨b, 0, none⟩)) ∧ y.cell? ⟨g2, 0, none⟩ = some (.pointer (some ⟨bx, ox, none⟩)) ∧ y.cell? ⟨bx, ox + 1, none⟩ = some (.slice (some ⟨bb, o, none⟩) l.length cap) ∧ y.cell? ⟨bb, o + i, none⟩ = some (.string (str l[i]))) := by
    intro y hy
    have h := hf.trans hy
    exact ⟨(h.row R1 (by decide) (by decide)).cell 0, (h.row R2 (by decide) (by decide)).cell 0, (h.below.cell (p := ⟨bx, ox + 1, none⟩) hx).trans hxc, hcell y h.below⟩
  have fd : Fr K.C w w.drew := Fr.drew w
  have D : Hid (Calls Tryz.prog 48 #[.pointer (some ⟨b, 0, none⟩), .string (str l[i])] w.drew fun e w' => e = .returned (.tuple #[]) ∧ Wtr K.C b (S ++ lifT l[i]) n w' ∧ Fr K.C w w') := by
    refine (life_any hw.drew l[i] hlen).mono ?_
    rintro _ _ ⟨rfl, p1, p2⟩
    exact ⟨rfl, p1, fd.trans p2⟩
  have i1 : (i : Int) < (l.length : Int) := by omega
  have i2 : l.length ≤ 9223372036854775807 := by omega
  generalize str l[i] = X at *
  clear hw hlen hcell hA hs R1 R2 hf e0 hi hxc
  go_enter Tryz.func80, Tryz.ntmps80
  go_wp2_with fail
  go_region_held3 (fun z => z.cell? ⟨g1, 0, none⟩ = some (.pointer (some ⟨b, 0, none⟩)) ∧ z.cell? ⟨g2, 0, none⟩ = some (.pointer (some ⟨bx, ox, none⟩)) ∧ z.cell? ⟨bx, ox + 1, none⟩ = some (.slice (some ⟨bb, o, none⟩) l.length cap) ∧ z.cell? ⟨bb, o + i, none⟩ = some (.string X)) (exact HS.out _ (by assumption)) (first | (go_at_call 48; refine D.out.mono ?_; rintro _ w1 ⟨rfl, p1, q1⟩))
  go_wp2_with fail
  go_end0
  exact ⟨rfl, p1, q1⟩

set_option maxHeartbeats 4000000 in
theorem lifeOver_any {K : Ctx} {b bx ox : Nat} {S : Bs} {n : Int} {w : World} {cs : List Value} {x : Lfe} (hx : LfeAt K w cs x) (hl : Lies K w 2 bx ox cs) (h : Wtr K.C b S n w) (hlen : S.length + (lfeT x).length ≤ 140737488355328) :
    Calls Tryz.prog 53 #[.pointer (some ⟨b, 0, none⟩), .pointer (some ⟨bx, ox, none⟩)] w fun e w' => e = .returned (.tuple #[]) ∧ Wtr K.C b (S ++ lfeT x) n w' ∧ Fr K.C w w' := by
  obtain ⟨v1, rfl, hn, hs⟩ := hx
  obtain ⟨ao, cap, rfl, hc, hb, -⟩ := hs.at
  have hc0 : w.cell? ⟨bx, ox, none⟩ = some (.string (str x.name)) := hl.2 0 (by decide)
  have hc1 : w.cell? ⟨bx, ox + 1, none⟩ = some (.slice ao x.over.length cap) := hl.2 1 (by decide)
  obtain ⟨t1, t2, t3, t4⟩ := two_rows h 108 (.pointer (some ⟨b, 0, none⟩)) (.pointer (some ⟨bx, ox, none⟩))
  obtain ⟨W, hW⟩ : ∃ W, W = (w.alloc (.cells #[.pointer (some ⟨b, 0, none⟩)] 93)).alloc (.cells #[.pointer (some ⟨bx, ox, none⟩)] 108) := ⟨_, rfl⟩
  rw [← hW] at t1 t2 t3 t4
  have HS : Hid (∀ y, Fr K.C W y → y.cell? ⟨w.heap.size, 0, none⟩ = some (.pointer (some ⟨b, 0, none⟩)) ∧ y.cell? ⟨w.heap.size + 1, 0, none⟩ = some (.pointer (some ⟨bx, ox, none⟩)) ∧ y.cell? ⟨bx, ox, none⟩ = some (.string (str x.name)) ∧ y.cell? ⟨bx, ox + 1, none⟩ = some (.slice ao x.over.length cap)) := by
    intro y hy
    have hk := t2.trans hy
    exact ⟨(hy.row t3 (by decide) (by decide)).cell 0, (hy.row t4 (by decide) (by decide)).cell 0, (hk.below.cell (p := ⟨bx, ox, none⟩) hl.1).trans hc0, (hk.below.cell (p := ⟨bx, ox + 1, none⟩) hl.1).trans hc1⟩
  have eO : overT x.over = (if decide (0 < x.over.length) = true then ([58, 32] : Bs) else []) ++ jn [32, 43, 32] (x.over.map lifT) := by
    unfold overT
    cases x.over with
    | nil => simp [jn]
    | cons a l => simp
  rw [show lfeT x = lifT x.name ++ ((if decide (0 < x.over.length) = true then ([58, 32] : Bs) else []) ++ jn [32, 43, 32] (x.over.map lifT)) by rw [← eO]; rfl] at hlen ⊢
  generalize hQ : (if decide (0 < x.over.length) = true then ([58, 32] : Bs) else []) = Q at *
  simp only [List.length_append] at hlen
  have fd : Hid (∀ y, Fr K.C W y → Fr K.C W y.drew) := fun y hy => hy.trans (Fr.drew y)
  have D1 : Hid (Calls Tryz.prog 48 #[.pointer (some ⟨b, 0, none⟩), .string (str x.name)] W.drew fun e w' => e = .returned (.tuple #[]) ∧ Wtr K.C b (S ++ lifT x.name) n w' ∧ Fr K.C W w') := by
    refine (life_any t1.drew x.name (by omega)).mono ?_
    rintro _ _ ⟨rfl, p1, p2⟩
    exact ⟨rfl, p1, (Fr.drew W).trans p2⟩
  have D2 : Hid (∀ y, Fr K.C W y → Wtr K.C b (S ++ lifT x.name) n y → Calls Tryz.prog 49 #[.pointer (some ⟨b, 0, none⟩), .bool (decide (0 < x.over.length)), .string (str [58, 32])] y.drew fun e w' => e = .returned (.tuple #[]) ∧ Wtr K.C b (S ++ lifT x.name ++ Q) n w' ∧ Fr K.C W w') := by
    intro y hy hw
    have := putIf_any hw.drew (decide (0 < x.over.length)) [58, 32] (by rw [hQ, List.length_append]; omega)
    rw [hQ] at this
    refine this.mono ?_
    rintro _ _ ⟨rfl, p1, p2⟩
    exact ⟨rfl, p1, hy.trans ((Fr.drew y).trans p2)⟩
  have D3 : Hid (∀ y, Fr K.C W y → Wtr K.C b (S ++ lifT x.name ++ Q) n y → Calls Tryz.prog 79 #[.pointer (some ⟨b, 0, none⟩), .int .i64 (x.over.length : Int), .string (str [32, 43, 32]), .func (.func 80) #[] #[.pointer (some ⟨w.heap.size, 0, none⟩), .pointer (some ⟨w.heap.size + 1, 0, none⟩)]] y.drew fun e w' => e = .returned (.tuple #[]) ∧ Wtr K.C b (S ++ lifT x.name ++ Q ++ jn [32, 43, 32] (x.over.map lifT)) n w' ∧ Fr K.C W w') := by
    intro y hy hw
    have hk := t2.trans hy
    have := list_any enters80 (over_mem (n := n) (hs.below hk.below) (hy.row t3 (by decide) (by decide)) (hy.row t4 (by decide) (by decide)) hl.1 ((hk.below.cell (p := ⟨bx, ox + 1, none⟩) hl.1).trans hc1)) (Fr.drew y) hw.drew [32, 43, 32] (by simp; omega) (by simp only [List.length_append]; omega)
    rw [List.length_map] at this
    refine this.mono ?_
    rintro _ _ ⟨rfl, p1, p2⟩
    exact ⟨rfl, p1, hy.trans ((Fr.drew y).trans p2)⟩
  have HW0 := hid0 t2
  have i2 : x.over.length ≤ 9223372036854775807 := by omega
  have FW := Fr.refl K.C W
  clear t1 t2 t3 t4 h hs hlen hl hc0 hc1 hQ eO
  generalize str x.name = X at *
  generalize x.over.length = m at *
  go_enter Tryz.func53, Tryz.ntmps53
  go_wp2_with fail
  rw [← hW]
  clear hW
  have f0 := fd.out _ FW
  go_region_held3 (fun z => z.cell? ⟨w.heap.size, 0, none⟩ = some (.pointer (some ⟨b, 0, none⟩)) ∧ z.cell? ⟨w.heap.size + 1, 0, none⟩ = some (.pointer (some ⟨bx, ox, none⟩)) ∧ z.cell? ⟨bx, ox, none⟩ = some (.string X) ∧ z.cell? ⟨bx, ox + 1, none⟩ = some (.slice ao m cap)) (exact HS.out _ (by assumption)) (first | (go_at_call 48; refine D1.out.mono ?_; rintro _ w1 ⟨rfl, p1, q1⟩))
  have f1 := fd.out _ q1
  go_wp2_with fail
  go_region_held3 (fun z => z.cell? ⟨w.heap.size, 0, none⟩ = some (.pointer (some ⟨b, 0, none⟩)) ∧ z.cell? ⟨w.heap.size + 1, 0, none⟩ = some (.pointer (some ⟨bx, ox, none⟩)) ∧ z.cell? ⟨bx, ox, none⟩ = some (.string X) ∧ z.cell? ⟨bx, ox + 1, none⟩ = some (.slice ao m cap)) (exact HS.out _ (by assumption)) (first | (go_at_call 49; refine (D2.out _ q1 p1).mono ?_; rintro _ w2 ⟨rfl, p2, q2⟩))
  have f2 := fd.out _ q2
  go_wp2_with fail
  go_region_held3 (fun z => z.cell? ⟨w.heap.size, 0, none⟩ = some (.pointer (some ⟨b, 0, none⟩)) ∧ z.cell? ⟨w.heap.size + 1, 0, none⟩ = some (.pointer (some ⟨bx, ox, none⟩)) ∧ z.cell? ⟨bx, ox, none⟩ = some (.string X) ∧ z.cell? ⟨bx, ox + 1, none⟩ = some (.slice ao m cap)) (exact HS.out _ (by assumption)) (first | (go_at_call 79; refine (D3.out _ q2 p2).mono ?_; rintro _ w3 ⟨rfl, p3, q3⟩))
  go_wp2_with fail
  go_end0
  exact ⟨rfl, by simpa [List.append_assoc] using p3, HW0.out.trans q3⟩
end Go.Proofs.YtlbhaaldndjigaaGreatDoor
