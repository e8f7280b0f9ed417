/-
  The writer's structure, function, crate.
-/
import Derived.Test.YtlbhaaldndjigaaGreatDoorSmw
namespace Go.Proofs.YtlbhaaldndjigaaGreatDoor
open Go.RowKit

theorem enters39 : ∀ args w, (callFunc 39 args).run Tryz.prog w = .ok (.enter 39 args) w := enters_at Tryz.func39 (by kernel_rfl) rfl
theorem enters42 : ∀ args w, (callFunc 42 args).run Tryz.prog w = .ok (.enter 42 args) w := enters_at Tryz.func42 (by kernel_rfl) rfl

set_option maxHeartbeats 8000000 in
set_option maxRecDepth 20000 in
theorem structure_any {K : Ctx} {b bx ox : Nat} {S : Bs} {n : Int} {w : World} {cs : List Value} {x : Sct} (hx : SctAt K w cs x) (hl : Lies K w 5 bx ox cs) (h : Wtr K.C b S n w) (hlen : S.length + (sctT x).length ≤ 140737488355328) :
    Calls Tryz.prog 40 #[.pointer (some ⟨b, 0, none⟩), .pointer (some ⟨bx, ox, none⟩)] w fun e w' => e = .returned (.tuple #[]) ∧ Wtr K.C b (S ++ sctT x) n w' ∧ Fr K.C w w' := by
  obtain ⟨v2, v3, rfl, hn, hls, hps⟩ := hx
  obtain ⟨a2, n2, rfl, hc2, hb2, -⟩ := id hls.shape
  obtain ⟨a3, n3, rfl, hc3, hb3, -⟩ := id hps.shape
  have c0 : w.cell? ⟨bx, ox, none⟩ = some (.bool x.pub) := hl.2 0 (by decide)
  have c1 : w.cell? ⟨bx, ox + 1, none⟩ = some (.string (str x.name)) := hl.2 1 (by decide)
  have c2 : w.cell? ⟨bx, ox + 2, none⟩ = some (.slice a2 x.lives.length n2) := hl.2 2 (by decide)
  have c3 : w.cell? ⟨bx, ox + 3, none⟩ = some (.slice a3 x.fields.length n3) := hl.2 3 (by decide)
  obtain ⟨t1, t2, t3, t4⟩ := two_rows h 96 (.pointer (some ⟨b, 0, none⟩)) (.pointer (some ⟨bx, ox, none⟩))
  obtain ⟨W, hW⟩ : ∃ W, W = (w.alloc (.cells #[.pointer (some ⟨b, 0, none⟩)] 93)).alloc (.cells #[.pointer (some ⟨bx, ox, none⟩)] 96) := ⟨_, rfl⟩
  rw [← hW] at t1 t2 t3 t4
  have HS : Hid (∀ y, Fr K.C W y → y.cell? ⟨w.heap.size, 0, none⟩ = some (.pointer (some ⟨b, 0, none⟩)) ∧ y.cell? ⟨w.heap.size + 1, 0, none⟩ = some (.pointer (some ⟨bx, ox, none⟩)) ∧ y.cell? ⟨bx, ox, none⟩ = some (.bool x.pub) ∧ y.cell? ⟨bx, ox + 1, none⟩ = some (.string (str x.name)) ∧ y.cell? ⟨bx, ox + 2, none⟩ = some (.slice a2 x.lives.length n2) ∧ y.cell? ⟨bx, ox + 3, none⟩ = some (.slice a3 x.fields.length n3)) := by
    intro y hy
    have hk := t2.trans hy
    exact ⟨(hy.row t3 (by decide) (by decide)).cell 0, (hy.row t4 (by decide) (by decide)).cell 0, (hk.below.cell (p := ⟨bx, ox, none⟩) hl.1).trans c0, (hk.below.cell (p := ⟨bx, ox + 1, none⟩) hl.1).trans c1, (hk.below.cell (p := ⟨bx, ox + 2, none⟩) hl.1).trans c2, (hk.below.cell (p := ⟨bx, ox + 3, none⟩) hl.1).trans c3⟩
  unfold sctT at hlen ⊢
  simp only [List.length_append, List.length_cons, List.length_nil] at hlen
  have fd : Hid (∀ y, Fr K.C W y → Fr K.C W y.drew) := fun y hy => hy.trans (Fr.drew y)
  have D1 : Hid (∀ y, Fr K.C W y → Wtr K.C b S n y → Calls Tryz.prog 49 #[.pointer (some ⟨b, 0, none⟩), .bool x.pub, .string (str [112, 117, 98, 32])] y.drew fun e w' => e = .returned (.tuple #[]) ∧ Wtr K.C b (S ++ pubT x.pub) n w' ∧ Fr K.C W w') := by
    intro y hy hw
    refine (putIf_any hw.drew x.pub [112, 117, 98, 32] (by unfold pubT at hlen; omega)).mono ?_
    rintro _ _ ⟨rfl, p1, p2⟩
    exact ⟨rfl, p1, hy.trans ((Fr.drew y).trans p2)⟩
  have D2 : Hid (∀ y, Fr K.C W y → Wtr K.C b (S ++ pubT x.pub) n y → Calls Tryz.prog 47 #[.pointer (some ⟨b, 0, none⟩), .slice (some ⟨y.drew.heap.size, 0, none⟩) 2 2] (y.drew.alloc (.cells #[.string (str [115, 116, 114, 117, 99, 116, 32]), .string (str x.name)] 9)) fun e w' => e = .returned (.tuple #[]) ∧ Wtr K.C b (S ++ pubT x.pub ++ ([115, 116, 114, 117, 99, 116, 32] ++ x.name)) n w' ∧ Fr K.C W w') := by
    intro y hy hw
    refine (put2 hw.drew _ _ (by simp only [List.length_append, List.length_cons, List.length_nil]; omega)).mono ?_
    rintro _ _ ⟨rfl, p1, p2⟩
    exact ⟨rfl, p1, hy.trans ((Fr.drew y).trans p2)⟩
  have FA : Hid (∀ y S1, Fr K.C W y → Wtr K.C b S1 n y → Fr K.C W (y.drew.alloc (.cells #[.string (str [115, 116, 114, 117, 99, 116, 32]), .string (str x.name)] 9))) := fun y S1 hy hw => hy.trans ((Fr.drew y).trans (Fr.alloc _ _ hw.Cw))
  have D3 : Hid (∀ y, Fr K.C W y → Wtr K.C b (S ++ pubT x.pub ++ ([115, 116, 114, 117, 99, 116, 32] ++ x.name)) n y → Calls Tryz.prog 50 #[.pointer (some ⟨b, 0, none⟩), .slice a2 x.lives.length n2] y.drew fun e w' => e = .returned (.tuple #[]) ∧ Wtr K.C b (S ++ pubT x.pub ++ ([115, 116, 114, 117, 99, 116, 32] ++ x.name) ++ markT x.lives) n w' ∧ Fr K.C W w') := by
    intro y hy hw
    have hk := t2.trans (fd.out y hy)
    refine (lives_any (hls.below hk.below) hw.drew (by simp only [List.length_append, List.length_cons, List.length_nil]; omega)).mono ?_
    rintro _ _ ⟨rfl, p1, p2⟩
    exact ⟨rfl, p1, (fd.out y hy).trans p2⟩
  have D4 : Hid (∀ y, Fr K.C W y → Wtr K.C b (S ++ pubT x.pub ++ ([115, 116, 114, 117, 99, 116, 32] ++ x.name) ++ markT x.lives) n y → Calls Tryz.prog 47 #[.pointer (some ⟨b, 0, none⟩), .slice (some ⟨y.heap.size, 0, none⟩) 1 1] (y.alloc (.cells #[.string (str [32])] 9)) fun e w' => e = .returned (.tuple #[]) ∧ Wtr K.C b (S ++ pubT x.pub ++ ([115, 116, 114, 117, 99, 116, 32] ++ x.name) ++ markT x.lives ++ [32]) n w' ∧ Fr K.C W w') := by
    intro y hy hw
    refine (put1 hw [32] (by simp only [List.length_append, List.length_cons, List.length_nil]; omega)).mono ?_
    rintro _ _ ⟨rfl, p1, p2⟩
    exact ⟨rfl, p1, hy.trans p2⟩
  have D5 : Hid (∀ y, Fr K.C W y → Wtr K.C b (S ++ pubT x.pub ++ ([115, 116, 114, 117, 99, 116, 32] ++ x.name) ++ markT x.lives ++ [32]) n y → Calls Tryz.prog 72 #[.pointer (some ⟨b, 0, none⟩), .int .i64 (x.fields.length : Int), .func (.func 73) #[] #[.pointer (some ⟨w.heap.size, 0, none⟩), .pointer (some ⟨w.heap.size + 1, 0, none⟩)]] y.drew fun e w' => e = .returned (.tuple #[]) ∧ Wtr K.C b (S ++ pubT x.pub ++ ([115, 116, 114, 117, 99, 116, 32] ++ x.name) ++ markT x.lives ++ [32] ++ bracT (x.fields.map fldT)) n w' ∧ Fr K.C W w') := by
    intro y hy hw
    have hk := t2.trans hy
    have := braced_any enters73 (fields_mem (n := n) (hps.mono hk.below fun _ _ _ h => h.below hk.below) (hy.row t3 (by decide) (by decide)) (hy.row t4 (by decide) (by decide)) hl.1 ((hk.below.cell (p := ⟨bx, ox + 3, none⟩) hl.1).trans c3)) (Fr.drew y) hw.drew (by simp; omega) (by simp only [List.length_append, List.length_cons, List.length_nil]; omega)
    rw [List.length_map] at this
    refine this.mono ?_
    rintro _ _ ⟨rfl, p1, p2⟩
    exact ⟨rfl, p1, hy.trans ((Fr.drew y).trans p2)⟩
  have HW0 := hid0 t2
  have HW1 := hid0 t1
  have FW := Fr.refl K.C W
  have i2 : x.lives.length ≤ 9223372036854775807 := by omega
  have i3 : x.fields.length ≤ 9223372036854775807 := by omega
  clear t1 t2 t3 t4 h hlen hl c0 c1 c2 c3 hls hps
  generalize markT x.lives = TM at *
  generalize bracT (x.fields.map fldT) = TB at *
  generalize x.pub = pb at *
  generalize str x.name = X at *
  generalize x.lives.length = k1 at *
  generalize x.fields.length = k2 at *
  go_enter Tryz.func40, Tryz.ntmps40
  go_wp2_with fail
  rw [← hW]
  clear hW
  have q0 := FW
  have p0 := HW1.out
  clear HW1 FW
  have f0 := fd.out _ q0
  go_region_held3 (fun z => z.cell? ⟨w.heap.size, 0, none⟩ = some (.pointer (some ⟨b, 0, none⟩)) ∧ z.cell? ⟨w.heap.size + 1, 0, none⟩ = some (.pointer (some ⟨bx, ox, none⟩)) ∧ z.cell? ⟨bx, ox, none⟩ = some (.bool pb) ∧ z.cell? ⟨bx, ox + 1, none⟩ = some (.string (X)) ∧ z.cell? ⟨bx, ox + 2, none⟩ = some (.slice a2 k1 n2) ∧ z.cell? ⟨bx, ox + 3, none⟩ = some (.slice a3 k2 n3)) (exact HS.out _ (by assumption)) (first | (go_at_call 49; refine (D1.out _ q0 p0).mono ?_; rintro _ w1 ⟨rfl, p1, q1⟩))
  have fa := FA.out _ _ q1 p1
  have f1 := fd.out _ q1
  go_wp2_with fail
  go_region_held3 (fun z => z.cell? ⟨w.heap.size, 0, none⟩ = some (.pointer (some ⟨b, 0, none⟩)) ∧ z.cell? ⟨w.heap.size + 1, 0, none⟩ = some (.pointer (some ⟨bx, ox, none⟩)) ∧ z.cell? ⟨bx, ox, none⟩ = some (.bool pb) ∧ z.cell? ⟨bx, ox + 1, none⟩ = some (.string (X)) ∧ z.cell? ⟨bx, ox + 2, none⟩ = some (.slice a2 k1 n2) ∧ z.cell? ⟨bx, ox + 3, none⟩ = some (.slice a3 k2 n3)) (exact HS.out _ (by assumption)) (first | (go_at_call 47; refine (D2.out _ q1 p1).mono ?_; rintro _ w2 ⟨rfl, p2, q2⟩))
  have f2 := fd.out _ q2
  go_wp2_with fail
  go_region_held3 (fun z => z.cell? ⟨w.heap.size, 0, none⟩ = some (.pointer (some ⟨b, 0, none⟩)) ∧ z.cell? ⟨w.heap.size + 1, 0, none⟩ = some (.pointer (some ⟨bx, ox, none⟩)) ∧ z.cell? ⟨bx, ox, none⟩ = some (.bool pb) ∧ z.cell? ⟨bx, ox + 1, none⟩ = some (.string (X)) ∧ z.cell? ⟨bx, ox + 2, none⟩ = some (.slice a2 k1 n2) ∧ z.cell? ⟨bx, ox + 3, none⟩ = some (.slice a3 k2 n3)) (exact HS.out _ (by assumption)) (first | (go_at_call 50; refine (D3.out _ q2 p2).mono ?_; rintro _ w3 ⟨rfl, p3, q3⟩))
  obtain ⟨y0, y1, y2, y3, y4, y5⟩ := HS.out _ q3
  go_wp2_with fail
  refine (D4.out _ q3 p3).mono ?_
  rintro ev w4 ⟨rfl, p4, q4⟩
  have f4 := fd.out _ q4
  go_wp2_with fail
  go_region_held3 (fun z => z.cell? ⟨w.heap.size, 0, none⟩ = some (.pointer (some ⟨b, 0, none⟩)) ∧ z.cell? ⟨w.heap.size + 1, 0, none⟩ = some (.pointer (some ⟨bx, ox, none⟩)) ∧ z.cell? ⟨bx, ox, none⟩ = some (.bool pb) ∧ z.cell? ⟨bx, ox + 1, none⟩ = some (.string (X)) ∧ z.cell? ⟨bx, ox + 2, none⟩ = some (.slice a2 k1 n2) ∧ z.cell? ⟨bx, ox + 3, none⟩ = some (.slice a3 k2 n3)) (exact HS.out _ (by assumption)) (first | (go_at_call 72; refine (D5.out _ q4 p4).mono ?_; rintro _ w5 ⟨rfl, p5, q5⟩))
  go_wp2_with fail
  go_end0
  exact ⟨rfl, by simpa [List.append_assoc] using p5, HW0.out.trans q5⟩

set_option maxHeartbeats 4000000 in
theorem function_any {N : Nat} {K : Ctx} (hK : 1 < K.C) {b bx ox : Nat} {S : Bs} {w : World} (tb : Tb w) {cs : List Value} {x : Fnc} (hx : FncAt N K w cs x) (hl : Lies K w 10 bx ox cs) (hm : MayBlk 64 x.body) (h : Wtr K.C b S ((0 : Nat) : Int) w) (hlen : S.length + (fncT Lib.itoa x).length ≤ 140737488355328) :
    Calls Tryz.prog 43 #[.pointer (some ⟨b, 0, none⟩), .pointer (some ⟨bx, ox, none⟩)] w fun e w' => e = .returned (.tuple #[]) ∧ (∃ T, Out S (fncT Lib.itoa x) T ∧ Wtr K.C b T ((0 : Nat) : Int) w') ∧ Fr K.C w w' := by
  unfold fncT at hlen ⊢
  simp only [List.length_append, List.length_cons, List.length_nil] at hlen
  have D0 := hid0 (head_any hx hl h (by omega))
  obtain ⟨v2, v3, ts, v8, rfl, hn, hls, hps, ⟨mm, ht⟩, hbd⟩ := hx
  have hl4 := ht.len4
  obtain ⟨a8, n8, rfl, hc8, hb8, -⟩ := id hbd.shape
  have l8 : Lies K w 2 bx (ox + 8) [.slice a8 x.body.length n8, .int .i64 x.pos] := hl.part (.bool x.pub :: .string (str x.name) :: v2 :: v3 :: ts) [] [.slice a8 x.body.length n8, .int .i64 x.pos] (by simp) 8 (by simp [hl4]) (by simp)
  have c8 : w.cell? ⟨bx, ox + 8, none⟩ = some (.slice a8 x.body.length n8) := l8.2 0 (by decide)
  have HX : Hid (∀ y, Fr K.C w y → y.cell? ⟨bx, ox + 8, none⟩ = some (.slice a8 x.body.length n8)) := fun y hy => (hy.below.cell (p := ⟨bx, ox + 8, none⟩) hl.1).trans c8
  have D1 : Hid (∀ y, Wtr K.C b (S ++ headT x) ((0 : Nat) : Int) y → Calls Tryz.prog 47 #[.pointer (some ⟨b, 0, none⟩), .slice (some ⟨y.heap.size, 0, none⟩) 1 1] (y.alloc (.cells #[.string (str [32])] 9)) fun e w' => e = .returned (.tuple #[]) ∧ Wtr K.C b (S ++ headT x ++ [32]) ((0 : Nat) : Int) w' ∧ Fr K.C y w') := fun y hw => put1 hw [32] (by simp only [List.length_append, List.length_cons, List.length_nil]; omega)
  have D2 : Hid (∀ y, Fr K.C w y → Wtr K.C b (S ++ headT x ++ [32]) ((0 : Nat) : Int) y → Calls Tryz.prog 74 #[.pointer (some ⟨b, 0, none⟩), .slice a8 x.body.length n8] y fun e w' => e = .returned (.tuple #[]) ∧ (∃ T, Out S (headT x ++ [32] ++ blkT Lib.itoa x.body 0) T ∧ Wtr K.C b T ((0 : Nat) : Int) w') ∧ Fr K.C y w') := by
    intro y hy hw
    refine (block_all N hK (tb.below hy.below hK) (hbd.mono hy.below fun _ _ _ h => h.below hy.below) hm (by omega) hw (by simp only [List.length_append, List.length_cons, List.length_nil]; omega)).mono ?_
    rintro _ _ ⟨rfl, ⟨T, hO, hT⟩, p2⟩
    exact ⟨rfl, ⟨T, (Out.full S (headT x ++ [32])).trans (by simpa [List.append_assoc] using hO), hT⟩, p2⟩
  clear h hlen hl hm hls hps ht hbd tb l8 c8
  generalize ((0 : Nat) : Int) = d0 at *
  generalize headT x = TH at *
  generalize blkT Lib.itoa x.body 0 = TB at *
  generalize x.body.length = ll at *
  go_enter Tryz.func43, Tryz.ntmps43
  go_wp2_with fail
  refine D0.out.mono ?_
  rintro ev w1 ⟨rfl, p1, q1⟩
  go_wp2_with fail
  refine (D1.out _ p1).mono ?_
  rintro ev w2 ⟨rfl, p2, q2⟩
  have q2n := q1.trans q2
  have x2 := HX.out _ q2n
  go_wp2_with fail
  refine (D2.out _ q2n p2).mono ?_
  rintro ev w3 ⟨rfl, p3, q3⟩
  go_wp2_with fail
  go_end0
  exact ⟨rfl, p3, q2n.trans q3⟩

set_option maxHeartbeats 4000000 in
theorem structs_mem {K : Ctx} {b g1 g2 bx ox : Nat} {w0 : World} {v : Value} {l : List Sct} (hs : Ar 5 80 (SctAt K w0) K w0 v l) (R1 : Row w0 g1 93 [.pointer (some ⟨b, 0, none⟩)]) (R2 : Row w0 g2 60 [.pointer (some ⟨bx, ox, none⟩)]) (hx : bx < K.C) (hxc : w0.cell? ⟨bx, ox, none⟩ = some v) :
    MemO K.C b ((0 : Nat) : Int) w0 39 #[.pointer (some ⟨g1, 0, none⟩), .pointer (some ⟨g2, 0, none⟩)] (l.map fun x => sctT x ++ [10]) := by
  intro i hi S w hf hw hlen
  have hil : i < l.length := by simpa using hi
  have e0 : (l.map fun x => sctT x ++ [10])[i] = sctT l[i] ++ [10] := by simp
  rw [e0] at hlen ⊢
  simp only [List.length_append, List.length_cons, List.length_nil] at hlen
  obtain ⟨ao, cap, rfl, hc, hb, hA⟩ := Ar.at (P := fun w => SctAt K w) hs (fun h hx => hx.below h)
  obtain ⟨bb, o, cs, rfl, hbC, hcell⟩ := hA i hil
  have HS : Hid (∀ y, Fr K.C w y → y.cell? ⟨g1, 0, none⟩ = some (.pointer (some ⟨b, 0, none⟩)) ∧ y.cell? ⟨g2, 0, none⟩ = some (.pointer (some ⟨bx, ox, none⟩)) ∧ y.cell? ⟨bx, ox, none⟩ = some (.slice (some ⟨bb, o, none⟩) l.length cap)) := by
    intro y hy
    have h := hf.trans hy
    exact ⟨(h.row R1 (by decide) (by decide)).cell 0, (h.row R2 (by decide) (by decide)).cell 0, (h.below.cell (p := ⟨bx, ox, none⟩) hx).trans hxc⟩
  have fd : Fr K.C w w.drew := Fr.drew w
  have D : Hid (Calls Tryz.prog 40 #[.pointer (some ⟨b, 0, none⟩), .pointer (some ⟨bb, o + i * 5, none⟩)] w.drew fun e w' => e = .returned (.tuple #[]) ∧ (∃ T, Out S (sctT l[i]) T ∧ Wtr K.C b T ((0 : Nat) : Int) w') ∧ Fr K.C w w') := by
    obtain ⟨k1, k2⟩ := hcell w.drew (hf.trans fd).below
    refine (structure_any k2 k1 hw.drew (by omega)).mono ?_
    rintro _ _ ⟨rfl, p1, p2⟩
    exact ⟨rfl, ⟨_, Out.full S _, p1⟩, fd.trans p2⟩
  have D2 : Hid (∀ y T, Out S (sctT l[i]) T → Wtr K.C b T ((0 : Nat) : Int) y → Calls Tryz.prog 41 #[.pointer (some ⟨b, 0, none⟩)] y fun e w' => e = .returned (.tuple #[]) ∧ (∃ T, Out S (sctT l[i] ++ [10]) T ∧ Wtr K.C b T ((0 : Nat) : Int) w') ∧ Fr K.C y w') := by
    intro y T hO hw
    have := hO.len
    refine (newLine_any hw (by omega) (by simp [nlT, tabsT]; omega)).mono ?_
    rintro _ _ ⟨rfl, p1, p2⟩
    exact ⟨rfl, ⟨_, hO.put [10], by simpa [nlT, tabsT] using p1⟩, p2⟩
  have i1 : (i : Int) < (l.length : Int) := by omega
  have i2 : l.length ≤ 9223372036854775807 := by omega
  clear hw hlen hcell hA hs R1 R2 hf e0 hi hxc 
  generalize sctT l[i] = TT at *
  generalize ((0 : Nat) : Int) = d0 at *
  go_enter Tryz.func39, Tryz.ntmps39
  go_wp2_with fail
  go_region_held3 (fun z => z.cell? ⟨g1, 0, none⟩ = some (.pointer (some ⟨b, 0, none⟩)) ∧ z.cell? ⟨g2, 0, none⟩ = some (.pointer (some ⟨bx, ox, none⟩)) ∧ z.cell? ⟨bx, ox, none⟩ = some (.slice (some ⟨bb, o, none⟩) l.length cap)) (exact HS.out _ (by assumption)) (first | (go_at_call 40; refine D.out.mono ?_; rintro _ w1 ⟨rfl, ⟨T, hO, p1⟩, q1⟩))
  obtain ⟨y0, y1, y2⟩ := HS.out _ q1
  go_wp2_with fail
  refine (D2.out _ T hO p1).mono ?_
  rintro ev w2 ⟨rfl, p2, q2⟩
  go_wp2_with fail
  go_end0
  exact ⟨rfl, p2, q1.trans q2⟩

set_option maxHeartbeats 4000000 in
theorem funcs_mem {N : Nat} {K : Ctx} (hK : 1 < K.C) {b g1 g2 bx ox : Nat} {w0 : World} (tb : Tb w0) {v : Value} {l : List Fnc} (hm : ∀ x ∈ l, MayBlk 64 x.body) (hs : Ar 10 176 (FncAt N K w0) K w0 v l) (R1 : Row w0 g1 93 [.pointer (some ⟨b, 0, none⟩)]) (R2 : Row w0 g2 60 [.pointer (some ⟨bx, ox, none⟩)]) (hx : bx < K.C) (hxc : w0.cell? ⟨bx, ox + 1, none⟩ = some v) :
    MemO K.C b ((0 : Nat) : Int) w0 42 #[.pointer (some ⟨g1, 0, none⟩), .pointer (some ⟨g2, 0, none⟩)] (l.map fun x => fncT Lib.itoa x ++ [10]) := by
  intro i hi S w hf hw hlen
  have hil : i < l.length := by simpa using hi
  have e0 : (l.map fun x => fncT Lib.itoa x ++ [10])[i] = fncT Lib.itoa l[i] ++ [10] := by simp
  rw [e0] at hlen ⊢
  simp only [List.length_append, List.length_cons, List.length_nil] at hlen
  obtain ⟨ao, cap, rfl, hc, hb, hA⟩ := Ar.at (P := fun w => FncAt N K w) hs (fun h hx => hx.below h)
  obtain ⟨bb, o, cs, rfl, hbC, hcell⟩ := hA i hil
  have HS : Hid (∀ y, Fr K.C w y → y.cell? ⟨g1, 0, none⟩ = some (.pointer (some ⟨b, 0, none⟩)) ∧ y.cell? ⟨g2, 0, none⟩ = some (.pointer (some ⟨bx, ox, none⟩)) ∧ y.cell? ⟨bx, ox + 1, none⟩ = some (.slice (some ⟨bb, o, none⟩) l.length cap)) := by
    intro y hy
    have h := hf.trans hy
    exact ⟨(h.row R1 (by decide) (by decide)).cell 0, (h.row R2 (by decide) (by decide)).cell 0, (h.below.cell (p := ⟨bx, ox + 1, none⟩) hx).trans hxc⟩
  have fd : Fr K.C w w.drew := Fr.drew w
  have D : Hid (Calls Tryz.prog 43 #[.pointer (some ⟨b, 0, none⟩), .pointer (some ⟨bb, o + i * 10, none⟩)] w.drew fun e w' => e = .returned (.tuple #[]) ∧ (∃ T, Out S (fncT Lib.itoa l[i]) T ∧ Wtr K.C b T ((0 : Nat) : Int) w') ∧ Fr K.C w w') := by
    obtain ⟨k1, k2⟩ := hcell w.drew (hf.trans fd).below
    refine (function_any hK (tb.below (hf.trans fd).below hK) k2 k1 (hm _ (List.getElem_mem hil)) hw.drew (by omega)).mono ?_
    rintro _ _ ⟨rfl, p1, p2⟩
    exact ⟨rfl, p1, fd.trans p2⟩
  have D2 : Hid (∀ y T, Out S (fncT Lib.itoa l[i]) T → Wtr K.C b T ((0 : Nat) : Int) y → Calls Tryz.prog 41 #[.pointer (some ⟨b, 0, none⟩)] y fun e w' => e = .returned (.tuple #[]) ∧ (∃ T, Out S (fncT Lib.itoa l[i] ++ [10]) T ∧ Wtr K.C b T ((0 : Nat) : Int) w') ∧ Fr K.C y w') := by
    intro y T hO hw
    have := hO.len
    refine (newLine_any hw (by omega) (by simp [nlT, tabsT]; omega)).mono ?_
    rintro _ _ ⟨rfl, p1, p2⟩
    exact ⟨rfl, ⟨_, hO.put [10], by simpa [nlT, tabsT] using p1⟩, p2⟩
  have i1 : (i : Int) < (l.length : Int) := by omega
  have i2 : l.length ≤ 9223372036854775807 := by omega
  clear hw hlen hcell hA hs R1 R2 hf e0 hi hxc tb hm
  generalize fncT Lib.itoa l[i] = TT at *
  generalize ((0 : Nat) : Int) = d0 at *
  go_enter Tryz.func42, Tryz.ntmps42
  go_wp2_with fail
  go_region_held3 (fun z => z.cell? ⟨g1, 0, none⟩ = some (.pointer (some ⟨b, 0, none⟩)) ∧ z.cell? ⟨g2, 0, none⟩ = some (.pointer (some ⟨bx, ox, none⟩)) ∧ z.cell? ⟨bx, ox + 1, none⟩ = some (.slice (some ⟨bb, o, none⟩) l.length cap)) (exact HS.out _ (by assumption)) (first | (go_at_call 43; refine D.out.mono ?_; rintro _ w1 ⟨rfl, ⟨T, hO, p1⟩, q1⟩))
  obtain ⟨y0, y1, y2⟩ := HS.out _ q1
  go_wp2_with fail
  refine (D2.out _ T hO p1).mono ?_
  rintro ev w2 ⟨rfl, p2, q2⟩
  go_wp2_with fail
  go_end0
  exact ⟨rfl, p2, q1.trans q2⟩

set_option maxHeartbeats 8000000 in
set_option maxRecDepth 20000 in
theorem crate_any {N : Nat} {K : Ctx} (hK : 1 < K.C) {b bx ox : Nat} {w : World} (tb : Tb w) {cs : List Value} {x : Crt} (hx : CrtAt N K w cs x) (hl : Lies K w 2 bx ox cs) (hm : ∀ f ∈ x.funcs, MayBlk 64 f.body) (h : Wtr K.C b [] ((0 : Nat) : Int) w) (hlen : (crtT Lib.itoa x).length ≤ 140737488355328) :
    Calls Tryz.prog 20 #[.pointer (some ⟨b, 0, none⟩), .pointer (some ⟨bx, ox, none⟩)] w fun e w' => e = .returned (.tuple #[]) ∧ (∃ T, Out [] (crtT Lib.itoa x) T ∧ Wtr K.C b T ((0 : Nat) : Int) w') ∧ Fr K.C w w' := by
  obtain ⟨v0, v1, rfl, hss, hfs⟩ := hx
  obtain ⟨a0, n0, rfl, hc0, hb0, -⟩ := id hss.shape
  obtain ⟨a1, n1, rfl, hc1, hb1, -⟩ := id hfs.shape
  have c0 : w.cell? ⟨bx, ox, none⟩ = some (.slice a0 x.structs.length n0) := hl.2 0 (by decide)
  have c1 : w.cell? ⟨bx, ox + 1, none⟩ = some (.slice a1 x.funcs.length n1) := hl.2 1 (by decide)
  obtain ⟨t1, t2, t3, t4⟩ := two_rows h 60 (.pointer (some ⟨b, 0, none⟩)) (.pointer (some ⟨bx, ox, none⟩))
  obtain ⟨W, hW⟩ : ∃ W, W = (w.alloc (.cells #[.pointer (some ⟨b, 0, none⟩)] 93)).alloc (.cells #[.pointer (some ⟨bx, ox, none⟩)] 60) := ⟨_, rfl⟩
  rw [← hW] at t1 t2 t3 t4
  have HS : Hid (∀ y, Fr K.C W y → y.cell? ⟨w.heap.size, 0, none⟩ = some (.pointer (some ⟨b, 0, none⟩)) ∧ y.cell? ⟨w.heap.size + 1, 0, none⟩ = some (.pointer (some ⟨bx, ox, none⟩)) ∧ y.cell? ⟨bx, ox, none⟩ = some (.slice a0 x.structs.length n0) ∧ y.cell? ⟨bx, ox + 1, none⟩ = some (.slice a1 x.funcs.length n1)) := by
    intro y hy
    have hk := t2.trans hy
    exact ⟨(hy.row t3 (by decide) (by decide)).cell 0, (hy.row t4 (by decide) (by decide)).cell 0, (hk.below.cell (p := ⟨bx, ox, none⟩) hl.1).trans c0, (hk.below.cell (p := ⟨bx, ox + 1, none⟩) hl.1).trans c1⟩
  have eC : crtT Lib.itoa x = (x.structs.map fun x => sctT x ++ [10]).flatten ++ (x.funcs.map fun x => fncT Lib.itoa x ++ [10]).flatten := by unfold crtT; rw [List.flatMap_def, List.flatMap_def]
  rw [eC] at hlen ⊢
  rw [List.length_append] at hlen
  have fd : Hid (∀ y, Fr K.C W y → Fr K.C W y.drew) := fun y hy => hy.trans (Fr.drew y)
  have D1 : Hid (Calls Tryz.prog 38 #[.pointer (some ⟨b, 0, none⟩), .int .i64 (x.structs.length : Int), .func (.func 39) #[] #[.pointer (some ⟨w.heap.size, 0, none⟩), .pointer (some ⟨w.heap.size + 1, 0, none⟩)]] W.drew fun e w' => e = .returned (.tuple #[]) ∧ (∃ T, Out [] (x.structs.map fun x => sctT x ++ [10]).flatten T ∧ Wtr K.C b T ((0 : Nat) : Int) w') ∧ Fr K.C W w') := by
    have := upToMost_any enters39 (structs_mem (hss.mono t2.below fun _ _ _ h => h.below t2.below) t3 t4 hl.1 ((t2.below.cell (p := ⟨bx, ox, none⟩) hl.1).trans c0)) (Fr.drew W) t1.drew (by simp; omega) (by simp only [List.length_nil]; omega)
    rw [List.length_map] at this
    refine this.mono ?_
    rintro _ _ ⟨rfl, p1, p2⟩
    exact ⟨rfl, p1, (Fr.drew W).trans p2⟩
  have D2 : Hid (∀ y T, Fr K.C W y → Out [] (x.structs.map fun x => sctT x ++ [10]).flatten T → Wtr K.C b T ((0 : Nat) : Int) y → Calls Tryz.prog 38 #[.pointer (some ⟨b, 0, none⟩), .int .i64 (x.funcs.length : Int), .func (.func 42) #[] #[.pointer (some ⟨w.heap.size, 0, none⟩), .pointer (some ⟨w.heap.size + 1, 0, none⟩)]] y.drew fun e w' => e = .returned (.tuple #[]) ∧ (∃ T, Out [] ((x.structs.map fun x => sctT x ++ [10]).flatten ++ (x.funcs.map fun x => fncT Lib.itoa x ++ [10]).flatten) T ∧ Wtr K.C b T ((0 : Nat) : Int) w') ∧ Fr K.C W w') := by
    intro y T hy hO hw
    have hk := t2.trans hy
    have ho := hO.len
    rw [List.length_nil] at ho
    have := upToMost_any enters42 (funcs_mem (N := N) hK (tb.below hk.below hK) hm (hfs.mono hk.below fun _ _ _ h => h.below hk.below) (hy.row t3 (by decide) (by decide)) (hy.row t4 (by decide) (by decide)) hl.1 ((hk.below.cell (p := ⟨bx, ox + 1, none⟩) hl.1).trans c1)) (Fr.drew y) hw.drew (by simp; omega) (by omega)
    rw [List.length_map] at this
    refine this.mono ?_
    rintro _ _ ⟨rfl, ⟨U, hU, p1⟩, p2⟩
    exact ⟨rfl, ⟨U, hO.trans hU, p1⟩, (fd.out y hy).trans p2⟩
  have HW0 := hid0 t2
  have i2 : x.structs.length ≤ 9223372036854775807 := by omega
  have i3 : x.funcs.length ≤ 9223372036854775807 := by omega
  have FW := Fr.refl K.C W
  clear t1 t2 t3 t4 h hlen hl c0 c1 hss hfs hm tb eC
  generalize (x.structs.map fun x => sctT x ++ [10]).flatten = TS at *
  generalize (x.funcs.map fun x => fncT Lib.itoa x ++ [10]).flatten = TF at *
  generalize x.structs.length = k1 at *
  generalize x.funcs.length = k2 at *
  generalize ((0 : Nat) : Int) = d0 at *
  go_enter Tryz.func20, Tryz.ntmps20
  go_wp2_with fail
  rw [← hW]
  clear hW
  have f0 := fd.out _ FW
  go_region_held3 (fun z => z.cell? ⟨w.heap.size, 0, none⟩ = some (.pointer (some ⟨b, 0, none⟩)) ∧ z.cell? ⟨w.heap.size + 1, 0, none⟩ = some (.pointer (some ⟨bx, ox, none⟩)) ∧ z.cell? ⟨bx, ox, none⟩ = some (.slice a0 k1 n0) ∧ z.cell? ⟨bx, ox + 1, none⟩ = some (.slice a1 k2 n1)) (exact HS.out _ (by assumption)) (first | (go_at_call 38; refine D1.out.mono ?_; rintro _ w1 ⟨rfl, ⟨T, hO, p1⟩, q1⟩))
  have f1 := fd.out _ q1
  go_wp2_with fail
  go_region_held3 (fun z => z.cell? ⟨w.heap.size, 0, none⟩ = some (.pointer (some ⟨b, 0, none⟩)) ∧ z.cell? ⟨w.heap.size + 1, 0, none⟩ = some (.pointer (some ⟨bx, ox, none⟩)) ∧ z.cell? ⟨bx, ox, none⟩ = some (.slice a0 k1 n0) ∧ z.cell? ⟨bx, ox + 1, none⟩ = some (.slice a1 k2 n1)) (exact HS.out _ (by assumption)) (first | (go_at_call 38; refine (D2.out _ T q1 hO p1).mono ?_; rintro _ w2 ⟨rfl, p2, q2⟩))
  go_wp2_with fail
  go_end0
  exact ⟨rfl, p2, HW0.out.trans q2⟩
end Go.Proofs.YtlbhaaldndjigaaGreatDoor
