/-
  The texts Hd3, Shi, Byt, joined.
-/
import Derived.Test.YtlbhaaldndjigaaGreatDoorJTyp2
import Derived.Shelf.LaysM
import Derived.Shelf.Strconv.Itoa3
import Derived.Test.YtlbhaaldndjigaaGreatDoorJMat4
namespace Go.Proofs.YtlbhaaldndjigaaGreatDoor
open Go.RowKit

set_option maxHeartbeats 8000000 in
set_option maxRecDepth 20000 in
theorem head_any {N : Nat} {K : Ctx} {b bx ox : Nat} {S : Bs} {n : Int} {w : World} {cs : List Value} {x : Fnc} (hx : FncAt N K w cs x) (hl : Lies K w 10 bx ox cs) (h : Wtr K.C b S n w) (hlen : S.length + (headT x).length ≤ 140737488355328) :
    Calls Tryz.prog 27 #[.pointer (some ⟨b, 0, none⟩), .pointer (some ⟨bx, ox, none⟩)] w fun e w' => e = .returned (.tuple #[]) ∧ Wtr K.C b (S ++ headT x) n w' ∧ Fr K.C w w' := by
  obtain ⟨v2, v3, ts, v8, rfl, hn, hls, hps, ⟨m, ht⟩, -⟩ := hx
  have hl4 := ht.len4
  obtain ⟨a2, n2, rfl, hc2, hb2, -⟩ := id hls.shape
  obtain ⟨a3, n3, rfl, hc3, hb3, -⟩ := id hps.shape
  have c0 : w.cell? ⟨bx, ox, none⟩ = some (.bool x.pub) := hl.2 0 (by decide)
  have c1 : w.cell? ⟨bx, ox + 1, none⟩ = some (.string (str x.name)) := hl.2 1 (by decide)
  have c2 : w.cell? ⟨bx, ox + 2, none⟩ = some (.slice a2 x.lives.length n2) := hl.2 2 (by decide)
  have c3 : w.cell? ⟨bx, ox + 3, none⟩ = some (.slice a3 x.params.length n3) := hl.2 3 (by decide)
  have hp : Lies K w 4 bx (ox + 4) ts := by
    have := hl.part [.bool x.pub, .string (str x.name), .slice a2 x.lives.length n2, .slice a3 x.params.length n3] _ ts (by simp; rfl) 4 rfl (by omega)
    rwa [hl4] at this
  obtain ⟨_, _, _, _, c4, -⟩ := ht.at hp
  obtain ⟨t1, t2, t3, t4⟩ := two_rows h 69 (.pointer (some ⟨b, 0, none⟩)) (.pointer (some ⟨bx, ox, none⟩))
  obtain ⟨W, hW⟩ : ∃ W, W = (w.alloc (.cells #[.pointer (some ⟨b, 0, none⟩)] 93)).alloc (.cells #[.pointer (some ⟨bx, ox, none⟩)] 69) := ⟨_, rfl⟩
  rw [← hW] at t1 t2 t3 t4
  have HS : Hid (∀ y, Fr K.C W y → y.cell? ⟨w.heap.size, 0, none⟩ = some (.pointer (some ⟨b, 0, none⟩)) ∧ y.cell? ⟨w.heap.size + 1, 0, none⟩ = some (.pointer (some ⟨bx, ox, none⟩)) ∧ y.cell? ⟨bx, ox, none⟩ = some (.bool x.pub) ∧ y.cell? ⟨bx, ox + 1, none⟩ = some (.string (str x.name)) ∧ y.cell? ⟨bx, ox + 2, none⟩ = some (.slice a2 x.lives.length n2) ∧ y.cell? ⟨bx, ox + 3, none⟩ = some (.slice a3 x.params.length n3) ∧ y.cell? ⟨bx, ox + 4, none⟩ = some (.int .i64 x.result.kind)) := by
    intro y hy
    have hk := t2.trans hy
    exact ⟨(hy.row t3 (by decide) (by decide)).cell 0, (hy.row t4 (by decide) (by decide)).cell 0, (hk.below.cell (p := ⟨bx, ox, none⟩) hl.1).trans c0, (hk.below.cell (p := ⟨bx, ox + 1, none⟩) hl.1).trans c1, (hk.below.cell (p := ⟨bx, ox + 2, none⟩) hl.1).trans c2, (hk.below.cell (p := ⟨bx, ox + 3, none⟩) hl.1).trans c3, (hk.below.cell (p := ⟨bx, ox + 4, none⟩) hl.1).trans c4⟩
  unfold headT at hlen ⊢
  simp only [List.length_append] at hlen
  have fd : Hid (∀ y, Fr K.C W y → Fr K.C W y.drew) := fun y hy => hy.trans (Fr.drew y)
  have D1 : Hid (∀ y, Fr K.C W y → Wtr K.C b S n y → Calls Tryz.prog 49 #[.pointer (some ⟨b, 0, none⟩), .bool x.pub, .string (str [112, 117, 98, 32])] y.drew fun e w' => e = .returned (.tuple #[]) ∧ Wtr K.C b (S ++ pubT x.pub) n w' ∧ Fr K.C W w') := by
    intro y hy hw
    refine (putIf_any hw.drew x.pub [112, 117, 98, 32] (by unfold pubT at hlen; omega)).mono ?_
    rintro _ _ ⟨rfl, p1, p2⟩
    exact ⟨rfl, p1, hy.trans ((Fr.drew y).trans p2)⟩
  have D2 : Hid (∀ y, Fr K.C W y → Wtr K.C b (S ++ pubT x.pub) n y → Calls Tryz.prog 47 #[.pointer (some ⟨b, 0, none⟩), .slice (some ⟨y.drew.heap.size, 0, none⟩) 2 2] (y.drew.alloc (.cells #[.string (str [102, 110, 32]), .string (str x.name)] 9)) fun e w' => e = .returned (.tuple #[]) ∧ Wtr K.C b (S ++ pubT x.pub ++ ([102, 110, 32] ++ x.name)) n w' ∧ Fr K.C W w') := by
    intro y hy hw
    refine (put2 hw.drew _ _ (by simp only [List.length_append]; omega)).mono ?_
    rintro _ _ ⟨rfl, p1, p2⟩
    exact ⟨rfl, p1, hy.trans ((Fr.drew y).trans p2)⟩
  have FA : Hid (∀ y S1, Fr K.C W y → Wtr K.C b S1 n y → Fr K.C W (y.drew.alloc (.cells #[.string (str [102, 110, 32]), .string (str x.name)] 9))) := fun y S1 hy hw => hy.trans ((Fr.drew y).trans (Fr.alloc _ _ hw.Cw))
  have D3 : Hid (∀ y, Fr K.C W y → Wtr K.C b (S ++ pubT x.pub ++ ([102, 110, 32] ++ x.name)) n y → Calls Tryz.prog 51 #[.pointer (some ⟨b, 0, none⟩), .int .i64 (x.lives.length : Int), .func (.func 52) #[] #[.pointer (some ⟨w.heap.size, 0, none⟩), .pointer (some ⟨w.heap.size + 1, 0, none⟩)]] y.drew fun e w' => e = .returned (.tuple #[]) ∧ Wtr K.C b (S ++ pubT x.pub ++ ([102, 110, 32] ++ x.name) ++ angT (x.lives.map lfeT)) n w' ∧ Fr K.C W w') := by
    intro y hy hw
    have hk := t2.trans hy
    have := angled_any enters52 (lifes_mem (n := n) (hls.mono hk.below fun _ _ _ h => h.below hk.below) (hy.row t3 (by decide) (by decide)) (hy.row t4 (by decide) (by decide)) hl.1 ((hk.below.cell (p := ⟨bx, ox + 2, none⟩) hl.1).trans c2)) (Fr.drew y) hw.drew (by simp; omega) (by simp only [List.length_append]; omega)
    rw [List.length_map] at this
    refine this.mono ?_
    rintro _ _ ⟨rfl, p1, p2⟩
    exact ⟨rfl, p1, hy.trans ((Fr.drew y).trans p2)⟩
  have D4 : Hid (∀ y, Fr K.C W y → Wtr K.C b (S ++ pubT x.pub ++ ([102, 110, 32] ++ x.name) ++ angT (x.lives.map lfeT)) n y → Calls Tryz.prog 54 #[.pointer (some ⟨b, 0, none⟩), .int .i64 (x.params.length : Int), .func (.func 55) #[] #[.pointer (some ⟨w.heap.size, 0, none⟩), .pointer (some ⟨w.heap.size + 1, 0, none⟩)]] y.drew fun e w' => e = .returned (.tuple #[]) ∧ Wtr K.C b (S ++ pubT x.pub ++ ([102, 110, 32] ++ x.name) ++ angT (x.lives.map lfeT) ++ ([40] ++ jn [44, 32] (x.params.map fldT) ++ [41])) n w' ∧ Fr K.C W w') := by
    intro y hy hw
    have hk := t2.trans hy
    have := rounded_any enters55 (params_mem (n := n) (hps.mono hk.below fun _ _ _ h => h.below hk.below) (hy.row t3 (by decide) (by decide)) (hy.row t4 (by decide) (by decide)) hl.1 ((hk.below.cell (p := ⟨bx, ox + 3, none⟩) hl.1).trans c3)) (Fr.drew y) hw.drew (by simp; omega) (by simp only [List.length_append]; omega)
    rw [List.length_map] at this
    refine this.mono ?_
    rintro _ _ ⟨rfl, p1, p2⟩
    exact ⟨rfl, p1, hy.trans ((Fr.drew y).trans p2)⟩
  have HW0 := hid0 t2
  have HW1 := hid0 t1
  have FW := Fr.refl K.C W
  have i2 : x.lives.length ≤ 9223372036854775807 := by omega
  have i3 : x.params.length ≤ 9223372036854775807 := by omega
  obtain ⟨S4, hS4⟩ : ∃ S4, S4 = S ++ pubT x.pub ++ ([102, 110, 32] ++ x.name) ++ angT (x.lives.map lfeT) ++ ([40] ++ jn [44, 32] (x.params.map fldT) ++ [41]) := ⟨_, rfl⟩
  have hl4' : S4.length + (resT x.result).length ≤ 140737488355328 := by rw [hS4]; simp only [List.length_append]; omega
  have eG : Hid (S ++ (pubT x.pub ++ ([102, 110, 32] ++ x.name) ++ angT (x.lives.map lfeT) ++ ([40] ++ jn [44, 32] (x.params.map fldT) ++ [41]) ++ resT x.result) = S4 ++ resT x.result) := by show _ = _; rw [hS4]; simp only [List.append_assoc]
  rw [eG.out]
  rw [← hS4] at D4
  clear hS4 eG
  by_cases h0 : x.result.kind = 0
  · have b0 : (x.result.kind == 0) = true := by rw [h0]; rfl
    have e0 : resT x.result = [] := by unfold resT; rw [if_pos h0]
    rw [e0, List.append_nil]
    clear t1 t2 t3 t4 h hlen hl hp ht c0 c1 c2 c3 c4 hls hps h0 e0 hl4'
    generalize x.pub = pb at *
    generalize str x.name = X at *
    generalize x.lives.length = k1 at *
    generalize x.params.length = k2 at *
    generalize x.result.kind = kd at *
    go_enter Tryz.func27, Tryz.ntmps27
    go_wp2_with fail
    rw [← hW]
    clear hW
    have q0 := FW
    have p0 := HW1.out
    clear HW1 FW
    have f0 := fd.out _ q0
    go_region_held3 (fun z => z.cell? ⟨w.heap.size, 0, none⟩ = some (.pointer (some ⟨b, 0, none⟩)) ∧ z.cell? ⟨w.heap.size + 1, 0, none⟩ = some (.pointer (some ⟨bx, ox, none⟩)) ∧ z.cell? ⟨bx, ox, none⟩ = some (.bool pb) ∧ z.cell? ⟨bx, ox + 1, none⟩ = some (.string (X)) ∧ z.cell? ⟨bx, ox + 2, none⟩ = some (.slice a2 k1 n2) ∧ z.cell? ⟨bx, ox + 3, none⟩ = some (.slice a3 k2 n3) ∧ z.cell? ⟨bx, ox + 4, none⟩ = some (.int .i64 kd)) (exact HS.out _ (by assumption)) (first | (go_at_call 49; refine (D1.out _ q0 p0).mono ?_; rintro _ w1 ⟨rfl, p1, q1⟩))
    have fa := FA.out _ _ q1 p1
    have f1 := fd.out _ q1
    go_wp2_with fail
    go_region_held3 (fun z => z.cell? ⟨w.heap.size, 0, none⟩ = some (.pointer (some ⟨b, 0, none⟩)) ∧ z.cell? ⟨w.heap.size + 1, 0, none⟩ = some (.pointer (some ⟨bx, ox, none⟩)) ∧ z.cell? ⟨bx, ox, none⟩ = some (.bool pb) ∧ z.cell? ⟨bx, ox + 1, none⟩ = some (.string (X)) ∧ z.cell? ⟨bx, ox + 2, none⟩ = some (.slice a2 k1 n2) ∧ z.cell? ⟨bx, ox + 3, none⟩ = some (.slice a3 k2 n3) ∧ z.cell? ⟨bx, ox + 4, none⟩ = some (.int .i64 kd)) (exact HS.out _ (by assumption)) (first | (go_at_call 47; refine (D2.out _ q1 p1).mono ?_; rintro _ w2 ⟨rfl, p2, q2⟩))
    have f2 := fd.out _ q2
    go_wp2_with fail
    go_region_held3 (fun z => z.cell? ⟨w.heap.size, 0, none⟩ = some (.pointer (some ⟨b, 0, none⟩)) ∧ z.cell? ⟨w.heap.size + 1, 0, none⟩ = some (.pointer (some ⟨bx, ox, none⟩)) ∧ z.cell? ⟨bx, ox, none⟩ = some (.bool pb) ∧ z.cell? ⟨bx, ox + 1, none⟩ = some (.string (X)) ∧ z.cell? ⟨bx, ox + 2, none⟩ = some (.slice a2 k1 n2) ∧ z.cell? ⟨bx, ox + 3, none⟩ = some (.slice a3 k2 n3) ∧ z.cell? ⟨bx, ox + 4, none⟩ = some (.int .i64 kd)) (exact HS.out _ (by assumption)) (first | (go_at_call 51; refine (D3.out _ q2 p2).mono ?_; rintro _ w3 ⟨rfl, p3, q3⟩))
    have f3 := fd.out _ q3
    go_wp2_with fail
    go_region_held3 (fun z => z.cell? ⟨w.heap.size, 0, none⟩ = some (.pointer (some ⟨b, 0, none⟩)) ∧ z.cell? ⟨w.heap.size + 1, 0, none⟩ = some (.pointer (some ⟨bx, ox, none⟩)) ∧ z.cell? ⟨bx, ox, none⟩ = some (.bool pb) ∧ z.cell? ⟨bx, ox + 1, none⟩ = some (.string (X)) ∧ z.cell? ⟨bx, ox + 2, none⟩ = some (.slice a2 k1 n2) ∧ z.cell? ⟨bx, ox + 3, none⟩ = some (.slice a3 k2 n3) ∧ z.cell? ⟨bx, ox + 4, none⟩ = some (.int .i64 kd)) (exact HS.out _ (by assumption)) (first | (go_at_call 54; refine (D4.out _ q3 p3).mono ?_; rintro _ w4 ⟨rfl, p4, q4⟩))
    obtain ⟨y0, y1, y2, y3, y4, y5, y6⟩ := HS.out _ q4
    go_wp2_with fail
    go_end0
    exact ⟨rfl, p4, HW0.out.trans q4⟩
  · have b0 : (x.result.kind == 0) = false := by simpa using h0
    have e0 : resT x.result = [32, 45, 62, 32] ++ tyT x.result := by unfold resT; rw [if_neg h0]
    rw [e0] at hl4' ⊢
    simp only [List.length_append] at hl4'
    have D5 : Hid (∀ y, Wtr K.C b S4 n y → Calls Tryz.prog 47 #[.pointer (some ⟨b, 0, none⟩), .slice (some ⟨y.heap.size, 0, none⟩) 1 1] (y.alloc (.cells #[.string (str [32, 45, 62, 32])] 9)) fun e w' => e = .returned (.tuple #[]) ∧ Wtr K.C b (S4 ++ [32, 45, 62, 32]) n w' ∧ Fr K.C y w') := fun y hy => put1 hy _ (by omega)
    have D6 : Hid (∀ y, Fr K.C W y → Wtr K.C b (S4 ++ [32, 45, 62, 32]) n y → Calls Tryz.prog 25 #[.pointer (some ⟨b, 0, none⟩), .pointer (some ⟨bx, ox + 4, none⟩)] y.drew fun e w' => e = .returned (.tuple #[]) ∧ Wtr K.C b (S4 ++ [32, 45, 62, 32] ++ tyT x.result) n w' ∧ Fr K.C W w') := by
      intro y hy hw
      have hk := (t2.trans hy).trans (Fr.drew y)
      refine (typeOf_any (ht.below hk.below) (hp.below hk.below) hw.drew (by simp only [List.length_append]; omega)).mono ?_
      rintro _ _ ⟨rfl, p1, p2⟩
      exact ⟨rfl, p1, hy.trans ((Fr.drew y).trans p2)⟩
    clear t1 t2 t3 t4 h hlen hl hp ht c0 c1 c2 c3 c4 hls hps h0 e0 hl4'
    generalize x.pub = pb at *
    generalize str x.name = X at *
    generalize x.lives.length = k1 at *
    generalize x.params.length = k2 at *
    generalize x.result.kind = kd at *
    go_enter Tryz.func27, Tryz.ntmps27
    go_wp2_with fail
    rw [← hW]
    clear hW
    have q0 := FW
    have p0 := HW1.out
    clear HW1 FW
    have f0 := fd.out _ q0
    go_region_held3 (fun z => z.cell? ⟨w.heap.size, 0, none⟩ = some (.pointer (some ⟨b, 0, none⟩)) ∧ z.cell? ⟨w.heap.size + 1, 0, none⟩ = some (.pointer (some ⟨bx, ox, none⟩)) ∧ z.cell? ⟨bx, ox, none⟩ = some (.bool pb) ∧ z.cell? ⟨bx, ox + 1, none⟩ = some (.string (X)) ∧ z.cell? ⟨bx, ox + 2, none⟩ = some (.slice a2 k1 n2) ∧ z.cell? ⟨bx, ox + 3, none⟩ = some (.slice a3 k2 n3) ∧ z.cell? ⟨bx, ox + 4, none⟩ = some (.int .i64 kd)) (exact HS.out _ (by assumption)) (first | (go_at_call 49; refine (D1.out _ q0 p0).mono ?_; rintro _ w1 ⟨rfl, p1, q1⟩))
    have fa := FA.out _ _ q1 p1
    have f1 := fd.out _ q1
    go_wp2_with fail
    go_region_held3 (fun z => z.cell? ⟨w.heap.size, 0, none⟩ = some (.pointer (some ⟨b, 0, none⟩)) ∧ z.cell? ⟨w.heap.size + 1, 0, none⟩ = some (.pointer (some ⟨bx, ox, none⟩)) ∧ z.cell? ⟨bx, ox, none⟩ = some (.bool pb) ∧ z.cell? ⟨bx, ox + 1, none⟩ = some (.string (X)) ∧ z.cell? ⟨bx, ox + 2, none⟩ = some (.slice a2 k1 n2) ∧ z.cell? ⟨bx, ox + 3, none⟩ = some (.slice a3 k2 n3) ∧ z.cell? ⟨bx, ox + 4, none⟩ = some (.int .i64 kd)) (exact HS.out _ (by assumption)) (first | (go_at_call 47; refine (D2.out _ q1 p1).mono ?_; rintro _ w2 ⟨rfl, p2, q2⟩))
    have f2 := fd.out _ q2
    go_wp2_with fail
    go_region_held3 (fun z => z.cell? ⟨w.heap.size, 0, none⟩ = some (.pointer (some ⟨b, 0, none⟩)) ∧ z.cell? ⟨w.heap.size + 1, 0, none⟩ = some (.pointer (some ⟨bx, ox, none⟩)) ∧ z.cell? ⟨bx, ox, none⟩ = some (.bool pb) ∧ z.cell? ⟨bx, ox + 1, none⟩ = some (.string (X)) ∧ z.cell? ⟨bx, ox + 2, none⟩ = some (.slice a2 k1 n2) ∧ z.cell? ⟨bx, ox + 3, none⟩ = some (.slice a3 k2 n3) ∧ z.cell? ⟨bx, ox + 4, none⟩ = some (.int .i64 kd)) (exact HS.out _ (by assumption)) (first | (go_at_call 51; refine (D3.out _ q2 p2).mono ?_; rintro _ w3 ⟨rfl, p3, q3⟩))
    have f3 := fd.out _ q3
    go_wp2_with fail
    go_region_held3 (fun z => z.cell? ⟨w.heap.size, 0, none⟩ = some (.pointer (some ⟨b, 0, none⟩)) ∧ z.cell? ⟨w.heap.size + 1, 0, none⟩ = some (.pointer (some ⟨bx, ox, none⟩)) ∧ z.cell? ⟨bx, ox, none⟩ = some (.bool pb) ∧ z.cell? ⟨bx, ox + 1, none⟩ = some (.string (X)) ∧ z.cell? ⟨bx, ox + 2, none⟩ = some (.slice a2 k1 n2) ∧ z.cell? ⟨bx, ox + 3, none⟩ = some (.slice a3 k2 n3) ∧ z.cell? ⟨bx, ox + 4, none⟩ = some (.int .i64 kd)) (exact HS.out _ (by assumption)) (first | (go_at_call 54; refine (D4.out _ q3 p3).mono ?_; rintro _ w4 ⟨rfl, p4, q4⟩))
    obtain ⟨y0, y1, y2, y3, y4, y5, y6⟩ := HS.out _ q4
    go_wp2_with fail
    refine (D5.out _ p4).mono ?_
    rintro ev w5 ⟨rfl, p5, q5⟩
    have q5' := q4.trans q5
    have f5 := fd.out _ q5'
    obtain ⟨z0, z1, _, _, _, _, _⟩ := HS.out _ q5'
    go_wp2_with fail
    go_region_held3 (fun z => z.cell? ⟨w.heap.size, 0, none⟩ = some (.pointer (some ⟨b, 0, none⟩)) ∧ z.cell? ⟨w.heap.size + 1, 0, none⟩ = some (.pointer (some ⟨bx, ox, none⟩))) (exact ⟨(HS.out _ (by assumption)).1, (HS.out _ (by assumption)).2.1⟩) (first | (go_at_call 25; refine (D6.out _ q5' p5).mono ?_; rintro _ w6 ⟨rfl, p6, q6⟩))
    go_wp2_with fail
    go_end0
    exact ⟨rfl, by simpa [List.append_assoc] using p6, HW0.out.trans q6⟩
end Go.Proofs.YtlbhaaldndjigaaGreatDoor

namespace Go.Proofs.YtlbhaaldndjigaaGreatDoor
open Go.Shelf
/-- The name of the library's table of powers of ten, as the row lists it. -/
def tabName : String := (Rows.printHeadsUptoRow.laid.map Prod.fst).getD 2 ""
def Tryz.laysM171_ren : Go.Shelf.Ren := ⟨fun | 171 => 133 | 243 => 151 | 246 => 156 | 283 => 159 | 284 => 160 | 285 => 161 | 286 => 162 | 129 => 168 | 317 => 167 | 318 => 169 | 319 => 170 | 320 => 171 | 337 => 174 | 338 => 175 | n => n, fun | 3 => 3 | 9 => 9 | 2 => 2 | 4 => 4 | 171 => 186 | 0 => 0 | 53 => 187 | 37 => 54 | 5 => 5 | 173 => 190 | 212 => 196 | 51 => 197 | 20 => 20 | 213 => 198 | 46 => 194 | 232 => 203 | 233 => 204 | n => n, fun | 17 => 1 | 18 => 2 | 19 => 3 | n => n⟩
theorem Tryz.laysM171 : Go.Proofs.LaysM.n171 Tryz.prog Tryz.laysM171_ren := {
  mixed := by kernel_rfl
  f129 := Tryz.func168.trans (congrArg some (by kernel_rfl))
  f171 := Tryz.func133.trans (congrArg some (by kernel_rfl))
  f243 := Tryz.func151.trans (congrArg some (by kernel_rfl))
  f246 := Tryz.func156.trans (congrArg some (by kernel_rfl))
  f283 := Tryz.func159.trans (congrArg some (by kernel_rfl))
  f284 := Tryz.func160.trans (congrArg some (by kernel_rfl))
  f285 := Tryz.func161.trans (congrArg some (by kernel_rfl))
  f286 := Tryz.func162.trans (congrArg some (by kernel_rfl))
  f317 := Tryz.func167.trans (congrArg some (by kernel_rfl))
  f318 := Tryz.func169.trans (congrArg some (by kernel_rfl))
  f319 := Tryz.func170.trans (congrArg some (by kernel_rfl))
  f320 := Tryz.func171.trans (congrArg some (by kernel_rfl))
  f337 := Tryz.func174.trans (congrArg some (by kernel_rfl))
  f338 := Tryz.func175.trans (congrArg some (by kernel_rfl))
  t0 := Tryz.underlying0
  a0 := Tryz.isAgg0
  z0 := Tryz.sizeOf0
  v0 := Tryz.zeroValue0
  t2 := Tryz.underlying2
  a2 := Tryz.isAgg2
  z2 := Tryz.sizeOf2
  v2 := Tryz.zeroValue2
  t3 := Tryz.underlying3
  a3 := Tryz.isAgg3
  z3 := Tryz.sizeOf3
  v3 := Tryz.zeroValue3
  t4 := Tryz.underlying4
  a4 := Tryz.isAgg4
  z4 := Tryz.sizeOf4
  v4 := Tryz.zeroValue4
  t5 := Tryz.underlying5
  a5 := Tryz.isAgg5
  z5 := Tryz.sizeOf5
  v5 := Tryz.zeroValue5
  t9 := Tryz.underlying9
  a9 := Tryz.isAgg9
  z9 := Tryz.sizeOf9
  v9 := Tryz.zeroValue9
  t20 := Tryz.underlying20
  a20 := Tryz.isAgg20
  z20 := Tryz.sizeOf20
  v20 := Tryz.zeroValue20
  t37 := Tryz.underlying54
  a37 := Tryz.isAgg54
  z37 := Tryz.sizeOf54
  v37 := Tryz.zeroValue54
  t46 := Tryz.underlying194
  a46 := Tryz.isAgg194
  z46 := Tryz.sizeOf194
  v46 := Tryz.zeroValue194
  t51 := Tryz.underlying197
  a51 := Tryz.isAgg197
  z51 := Tryz.sizeOf197
  v51 := Tryz.zeroValue197
  t53 := Tryz.underlying187
  a53 := Tryz.isAgg187
  z53 := Tryz.sizeOf187
  v53 := Tryz.zeroValue187
  t171 := Tryz.underlying186
  a171 := Tryz.isAgg186
  z171 := Tryz.sizeOf186
  v171 := Tryz.zeroValue186
  t173 := Tryz.underlying190
  a173 := Tryz.isAgg190
  z173 := Tryz.sizeOf190
  v173 := Tryz.zeroValue190
  t212 := Tryz.underlying196
  a212 := Tryz.isAgg196
  z212 := Tryz.sizeOf196
  v212 := Tryz.zeroValue196
  t213 := Tryz.underlying198
  a213 := Tryz.isAgg198
  z213 := Tryz.sizeOf198
  t232 := Tryz.underlying203
  a232 := Tryz.isAgg203
  z232 := Tryz.sizeOf203
  v232 := Tryz.zeroValue203
  t233 := Tryz.underlying204
  a233 := Tryz.isAgg204
  z233 := Tryz.sizeOf204
  v233 := Tryz.zeroValue204
  g17 := by kernel_rfl
  g18 := by kernel_rfl
  g19 := by kernel_rfl
  i0 := by kernel_rfl
  i2 := by kernel_rfl
  i3 := by kernel_rfl
  i4 := by kernel_rfl
  i5 := by kernel_rfl
  i9 := by kernel_rfl
  i20 := by kernel_rfl
  i37 := by kernel_rfl
  i46 := by kernel_rfl
  i51 := by kernel_rfl
  i53 := by kernel_rfl
  i171 := by kernel_rfl
  i173 := by kernel_rfl
  i212 := by kernel_rfl
  i232 := by kernel_rfl
  i233 := by kernel_rfl
  m17 := by kernel_rfl
  m18 := by kernel_rfl
  m19 := by kernel_rfl }
open Go.RowKit Go.Sort Go.Lib in
theorem Tryz.strconv_Itoa (n : Int) (h0 : -9223372036854775808 ≤ n) (h1 : n ≤ 9223372036854775807) (w : World) (htab : Lib.TabIs Tryz.prog w tabName .u64 Lib.pow10Tab) :
    Calls Tryz.prog 133 #[.int .i64 n] w fun e w' => e = .returned (.string ⟨(Lib.itoa n).toArray⟩) ∧ ∃ k os, w' = grow (w.drewN k) os := Any.strconv_Itoa Tryz.laysM171 n h0 h1 w htab
end Go.Proofs.YtlbhaaldndjigaaGreatDoor

namespace Go.Proofs.YtlbhaaldndjigaaGreatDoor
open Go.RowKit

theorem isDigit_any (c : UInt8) (w : World) : Calls Tryz.prog 111 #[.int .u8 (c.toNat : Int)] w fun ev w' => ev = .returned (.bool (isDg c)) ∧ w' = w := by
  obtain ⟨B, hB⟩ : ∃ B, isDg c = B := ⟨_, rfl⟩
  rw [hB]
  unfold isDg at hB
  generalize c.toNat = n at *
  by_cases h1 : 48 ≤ n <;> by_cases h2 : n ≤ 57 <;> (try omega) <;> simp [h1, h2] at hB <;> subst hB <;> (go_enter Tryz.func111, Tryz.ntmps111; go_wp2_with fail; go_ret; first | exact ⟨rfl, rfl⟩ | (refine ⟨?_, rfl⟩; simp; omega) | (refine ⟨?_, rfl⟩; simp [*]))

theorem xdigit_any (c : UInt8) (w : World) : Calls Tryz.prog 105 #[.int .u8 (c.toNat : Int)] w fun ev w' => ev = .returned (.bool (isDg c)) ∧ w' = w := by
  obtain ⟨B, hB⟩ : ∃ B, isDg c = B := ⟨_, rfl⟩
  rw [hB]
  unfold isDg at hB
  generalize c.toNat = n at *
  by_cases h1 : 48 ≤ n <;> by_cases h2 : n ≤ 57 <;> (try omega) <;> simp [h1, h2] at hB <;> subst hB <;> (go_enter Tryz.func105, Tryz.ntmps105; go_wp2_with fail; go_ret; first | exact ⟨rfl, rfl⟩ | (refine ⟨?_, rfl⟩; simp; omega) | (refine ⟨?_, rfl⟩; simp [*]))

theorem letter_any (c : UInt8) (w : World) : Calls Tryz.prog 81 #[.int .u8 (c.toNat : Int)] w fun ev w' => ev = .returned (.bool (isLt c)) ∧ w' = w := by
  obtain ⟨B, hB⟩ : ∃ B, isLt c = B := ⟨_, rfl⟩
  rw [hB]
  unfold isLt at hB
  generalize c.toNat = n at *
  by_cases h1 : 97 ≤ n <;> by_cases h2 : n ≤ 122 <;> by_cases h3 : 65 ≤ n <;> by_cases h4 : n ≤ 90 <;> (try omega) <;> by_cases h5 : n = 95 <;> (try omega) <;>
    (have h5' : (n : Int) = 95 ∨ (n : Int) ≠ 95 := by omega
     rcases h5' with h5' | h5' <;> (try omega) <;> simp [h1, h2, h3, h4, h5] at hB <;> subst hB <;> (try subst h5) <;> (go_enter Tryz.func81, Tryz.ntmps81; go_wp2_with fail; go_ret; first | exact ⟨rfl, rfl⟩ | (refine ⟨?_, rfl⟩; simp; omega) | (refine ⟨?_, rfl⟩; simp [*])))

theorem isNameByte_any (c : UInt8) (w : World) : Calls Tryz.prog 135 #[.int .u8 (c.toNat : Int)] w fun ev w' => ev = .returned (.bool (isNm c)) ∧ w' = w := by
  have D := isDigit_any c w
  obtain ⟨B, hB⟩ : ∃ B, isNm c = B := ⟨_, rfl⟩
  rw [hB]
  obtain ⟨I, hI⟩ : ∃ I, isDg c = I := ⟨_, rfl⟩
  unfold isNm at hB
  rw [hI] at hB D
  unfold isLt at hB
  clear hI
  generalize c.toNat = n at *
  by_cases h1 : 97 ≤ n <;> by_cases h2 : n ≤ 122 <;> by_cases h3 : 65 ≤ n <;> by_cases h4 : n ≤ 90 <;> (try omega) <;> by_cases h5 : n = 95 <;> (try omega) <;>
    (have h5' : (n : Int) = 95 ∨ (n : Int) ≠ 95 := by omega
     rcases h5' with h5' | h5' <;> (try omega) <;> simp [h1, h2, h3, h4, h5] at hB <;> subst hB <;> (try subst h5) <;> (go_enter Tryz.func135, Tryz.ntmps135; first | (go_wp2_with fail; go_ret; first | exact ⟨rfl, rfl⟩ | (refine ⟨?_, rfl⟩; simp; omega) | (refine ⟨?_, rfl⟩; simp [*])) | (go_wp2_with fail; refine D.mono ?_; rintro ev w' ⟨rfl, rfl⟩; go_wp2_with fail; go_ret; first | exact ⟨rfl, rfl⟩ | (refine ⟨?_, rfl⟩; simp; omega) | (refine ⟨?_, rfl⟩; simp [*]))))
end Go.Proofs.YtlbhaaldndjigaaGreatDoor
