/-
  What the program tells of a few.
-/
import Derived.Test.YtmfdmpfeoppnfaaDoorIxw
namespace Go.Proofs.YtmfdmpfeoppnfaaDoor
open Go.RowKit

theorem par_t1 : parF [10, 61, 61, 32, 97, 10, 102, 110, 32, 102, 40, 41, 32, 123, 10, 125, 10, 61, 61, 32, 98, 32, 58, 32, 97, 10] = .ok [⟨[97], [], [102, 110, 32, 102, 40, 41, 32, 123, 10, 125, 10]⟩, ⟨[98], [[97]], []⟩] := by kernel_rfl
theorem par_t2 : parF [61, 61, 32, 97, 10, 61, 61, 32, 97, 10] = .error (23, 5) := by kernel_rfl
theorem par_t3 : parF [] = .error (40, 0) := by kernel_rfl
theorem idx_t4 : idxF [⟨[97], [], []⟩, ⟨[98], [[99]], []⟩] = .error 1 := by kernel_rfl
/-- Two crates in a slice. -/
theorem build43b {ops : Array Oper} {rest : List Oper} {o : Oper} {a : Act} {w : World} {Q : Exit → Act → World → Prop} (hgd : o.guard = none) (x y : Operand) (ho : o.op = .buildSlice 24 2 #[(0, x), (1, y)])
    (p q r p' q' r' : Value) (hx : a.eval x = .agg #[p, q, r]) (hy : a.eval y = .agg #[p', q', r'])
    (k : wpList Tryd.prog ops Q rest (a.put o.dst (.slice (some ⟨w.heap.size, 0, none⟩) 2 2)) (w.alloc (.cells #[p, q, r, p', q', r'] 43))) : wpList Tryd.prog ops Q (o :: rest) a w := by
  obtain ⟨i0, hi, hz0, hz1, hz2⟩ := info_parts Tryd.info43z
  refine wpList_plain hgd fun _ hK => wp_buildSlice 24 43 2 _ ho #[p, q, r, p', q', r'] i0 (.agg #[.string ⟨#[]⟩, .slice none 0 0, .string ⟨#[]⟩]) Tryd.underlying24 hi hz0 (by rw [hz1]; decide) (by rw [hz1]; decide) ?_ (hK _ _ k)
  have hw := Go.Great.fill_whole (s := 3) (by decide) [.agg #[p, q, r], .agg #[p', q', r']] ((Array.range (2 * 3)).map ((Value.agg #[.string ⟨#[]⟩, .slice none 0 0, .string ⟨#[]⟩]).cells[· % (Value.agg #[.string ⟨#[]⟩, .slice none 0 0, .string ⟨#[]⟩]).cells.size]!)) (by simp [Value.cells]) (by simp)
  rw [hz1]
  simp only [List.map_toArray, List.map_cons, List.map_nil, hx, hy]
  simp only [List.zipIdx_cons, List.zipIdx_nil, List.map_cons, List.map_nil] at hw
  refine Eq.trans hw ?_
  simp [Value.cells]
theorem Er.shape' {w : World} {e : Value} {c p : Nat} (h : Er w e c p) : ∃ b, e = .iface 66 (.pointer (some ⟨b, 0, none⟩)) := by
  obtain ⟨b, e, _⟩ := h.shape
  exact ⟨b, e⟩
set_option maxHeartbeats 8000000 in
set_option maxRecDepth 20000 in
theorem told_any (w : World) (m : Int) (hm : w.cell? ⟨0, 0, none⟩ = some (.int .i64 m)) : Calls Tryd.prog 9 #[] w fun ev w' => ev = .returned (.bool true) ∧ Below w.heap.size w w' := by
  have P1 := hid0 (parse_any w [10, 61, 61, 32, 97, 10, 102, 110, 32, 102, 40, 41, 32, 123, 10, 125, 10, 61, 61, 32, 98, 32, 58, 32, 97, 10] m hm (by simp))
  rw [par_t1] at P1
  have HM := hid0 hm
  clear hm
  go_enter Tryd.func9, Tryd.ntmps9
  go_wp2_with fail
  refine P1.out.mono ?_
  rintro ev w1 ⟨v1, rfl, hS1, hb1⟩
  clear P1
  have P2 := hid0 (parse_any w1 [61, 61, 32, 97, 10, 61, 61, 32, 97, 10] m (Below.cellOf hb1 HM.out) (by simp))
  rw [par_t2] at P2
  go_wp2_with fail
  refine P2.out.mono ?_
  rintro ev w2 ⟨e2, rfl, hE2, hb2⟩
  clear P2
  have hb12 := nextB hb1 hb2
  have P3 := hid0 (parse_any w2 [] m (Below.cellOf hb12 HM.out) (by simp))
  rw [par_t3] at P3
  go_wp2_with fail
  refine P3.out.mono ?_
  rintro ev w3 ⟨e3, rfl, hE3, hb3⟩
  clear P3
  have hb13 := nextB hb12 hb3
  have hA : Below w3.heap.size w3 (w3.alloc (.cells #[.string ⟨#[99]⟩] 9)) := (Below.refl _ _).alloc (Nat.le_refl _) _
  have rA := Row.new w3 9 [.string ⟨#[99]⟩]
  obtain ⟨WA, hWA⟩ : ∃ WA, WA = w3.alloc (.cells #[.string ⟨#[99]⟩] 9) := ⟨_, rfl⟩
  have rA' : Row WA w3.heap.size 9 (List.map (fun d => Value.string (str d)) [[99]]) := by rw [hWA]; exact rA
  have hA' : Below w3.heap.size w3 WA := by rw [hWA]; exact hA
  have hBb : Below WA.heap.size WA (WA.alloc (.cells #[.string ⟨#[97]⟩, .slice none 0 0, .string ⟨#[]⟩, .string ⟨#[98]⟩, .slice (some ⟨w3.heap.size, 0, none⟩) 1 1, .string ⟨#[]⟩] 43)) := (Below.refl _ _).alloc (Nat.le_refl _) _
  have rB := Row.new WA 43 [.string ⟨#[97]⟩, .slice none 0 0, .string ⟨#[]⟩, .string ⟨#[98]⟩, .slice (some ⟨w3.heap.size, 0, none⟩) 1 1, .string ⟨#[]⟩]
  have SB : Srs (WA.alloc (.cells #[.string ⟨#[97]⟩, .slice none 0 0, .string ⟨#[]⟩, .string ⟨#[98]⟩, .slice (some ⟨w3.heap.size, 0, none⟩) 1 1, .string ⟨#[]⟩] 43)) (.slice (some ⟨WA.heap.size, 0, none⟩) 2 2) [⟨[97], [], []⟩, ⟨[98], [[99]], []⟩] := by
    refine ⟨_, _, rfl, Nat.le_refl _, by simp, fun i hi => ?_⟩
    have : i = 0 ∨ i = 1 := by simp at hi; omega
    rcases this with rfl | rfl
    · exact ⟨_, _, _, rfl, rB.cell 0, rB.cell 1, rB.cell 2, Ss.nil _ _ _⟩
    · exact ⟨_, _, _, rfl, rB.cell 3, rB.cell 4, rB.cell 5, (Ss.row (cap := 1) rA' (by simp) (by simp)).below hBb⟩
  have P4 := hid0 (index_any _ _ _ SB (by simp) (by simp))
  rw [idx_t4] at P4
  have hb4 := nextB (nextB hb13 hA') hBb
  have AWA := aside0 hWA
  clear hWA rA rA' rB SB hA
  go_wp2_with (first | (refine build43b rfl _ _ rfl (.string ⟨#[97]⟩) (.slice none 0 0) (.string ⟨#[]⟩) (.string ⟨#[98]⟩) (.slice (some ⟨w3.heap.size, 0, none⟩) 1 1) (.string ⟨#[]⟩) rfl rfl ?_; rw [← AWA.out]))
  refine P4.out.mono ?_
  rintro ev w4 ⟨e4, rfl, hE4, hb5⟩
  clear P4
  have h34 : Below w3.heap.size w3 w4 := nextB (nextB hA' hBb) hb5
  have h04 := nextB hb13 h34
  have hS1' := hS1.below (nextB hb2 (nextB hb3 h34))
  have hE2' := hE2.below (nextB hb3 h34)
  have hE3' := hE3.below h34
  obtain ⟨ao, cap, rfl, -, -, hcs⟩ := hS1'.shape
  obtain ⟨b0, o0, dv0, rfl, p0, p1, p2, ps⟩ := hcs 0 (by simp)
  obtain ⟨b1, o1, dv1, e1, q0, q1, q2, qs⟩ := hcs 1 (by simp)
  cases e1
  have HS := hid0 qs
  obtain ⟨b2, rfl⟩ := hE2.shape'
  obtain ⟨b3, rfl⟩ := hE3.shape'
  obtain ⟨b4, rfl⟩ := hE4.shape'
  have A2 := hid0 hE2'
  have A3 := hid0 hE3'
  have A4 := hid0 hE4
  have A0 := hid0 h04
  clear hcs ps qs hE2 hE3 hE4 hE2' hE3' hS1 hS1' hb1 hb2 hb3 hb12 hb13 hA' hBb hb4 hb5 h34 h04 AWA p0 q0 p1
  simp only [List.getD, List.getElem?_cons_zero, List.getElem?_cons_succ, Option.getD_some, Nat.zero_mul, Nat.one_mul, Nat.add_zero] at p2 q1 q2 HS
  have t1 : ((str [102, 110, 32, 102, 40, 41, 32, 123, 10, 125, 10]).toList == [102, 110, 32, 102, 40, 41, 32, 123, 10, 125, 10]) = true := by unfold str; rw [ByteArray.toList_mk]; decide
  have t2 : ((str []).toList == []) = true := by unfold str; rw [ByteArray.toList_mk]; decide
  generalize str [102, 110, 32, 102, 40, 41, 32, 123, 10, 125, 10] = S1 at *
  generalize str [] = S2 at *
  have TX : Hid (∀ y, Below w4.heap.size w4 y → ∀ v, Ss y v [[97]] → Calls Tryd.prog 20 #[dv1, v] y fun ev w' => ev = .returned (.bool true) ∧ Below y.heap.size y w') := by
    intro y hy v hv
    refine (texts_any y dv1 v [[97]] [[97]] (HS.out.below hy) hv).mono ?_
    rintro ev w' ⟨rfl, hb⟩
    exact ⟨rfl, hb⟩
  have I2 : Hid (∀ y, Below w4.heap.size w4 y → Calls Tryd.prog 10 #[.iface 66 (.pointer (some ⟨b2, 0, none⟩)), .int .i64 23, .int .i64 5] y fun ev w' => ev = .returned (.bool true) ∧ Below y.heap.size y w') := fun y hy => is_any y _ 23 5 _ _ (.inr (A2.out.below hy)) rfl rfl
  have I3 : Hid (∀ y, Below w4.heap.size w4 y → Calls Tryd.prog 10 #[.iface 66 (.pointer (some ⟨b3, 0, none⟩)), .int .i64 40, .int .i64 0] y fun ev w' => ev = .returned (.bool true) ∧ Below y.heap.size y w') := fun y hy => is_any y _ 40 0 _ _ (.inr (A3.out.below hy)) rfl rfl
  have I4 : Hid (∀ y, Below w4.heap.size w4 y → Calls Tryd.prog 10 #[.iface 66 (.pointer (some ⟨b4, 0, none⟩)), .int .i64 41, .int .i64 1] y fun ev w' => ev = .returned (.bool true) ∧ Below y.heap.size y w') := fun y hy => is_any y _ 41 1 _ _ (.inr (A4.out.below hy)) rfl rfl
  have hA4 : Below w4.heap.size w4 (w4.alloc (.cells #[.string ⟨#[97]⟩] 9)) := (Below.refl _ _).alloc (Nat.le_refl _) _
  have T4 := hid0 (TX.out _ hA4 (.slice (some ⟨w4.heap.size, 0, none⟩) 1 1) (Ss.row (D := [[97]]) (Row.new w4 9 [.string ⟨#[97]⟩]) (by simp) (by simp)))
  clear A2 A3 A4 TX HS
  go_wp2_with fail
  refine T4.out.mono ?_
  rintro ev w5 ⟨rfl, hb5⟩
  have k5 := nextB hA4 hb5
  clear T4 hb5 hA4
  go_wp2_with fail
  refine (I2.out _ k5).mono ?_
  rintro ev w6 ⟨rfl, hb6⟩
  have k6 := nextB k5 hb6
  clear k5 hb6 I2
  go_wp2_with fail
  refine (I3.out _ k6).mono ?_
  rintro ev w7 ⟨rfl, hb7⟩
  have k7 := nextB k6 hb7
  clear k6 hb7 I3
  go_wp2_with fail
  refine (I4.out _ k7).mono ?_
  rintro ev w8 ⟨rfl, hb8⟩
  have k8 := nextB k7 hb8
  clear k7 hb8 I4
  go_wp2_with fail
  go_ret
  exact ⟨rfl, nextB A0.out k8⟩
end Go.Proofs.YtmfdmpfeoppnfaaDoor
