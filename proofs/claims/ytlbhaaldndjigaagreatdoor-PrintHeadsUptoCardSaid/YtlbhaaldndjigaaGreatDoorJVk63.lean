/-
  The texts Vk6, Vk7, Vlw, joined.
-/
import Derived.Test.YtlbhaaldndjigaaGreatDoorJVl02
import Derived.Test.YtlbhaaldndjigaaGreatDoorJVk22
import Derived.Test.YtlbhaaldndjigaaGreatDoorJVk42
namespace Go.Proofs.YtlbhaaldndjigaaGreatDoor
open Go.RowKit

set_option maxHeartbeats 16000000 in
set_option maxRecDepth 20000 in
theorem value_6 {K : Ctx} (hK : 1 < K.C) {b bx ox : Nat} {S : Bs} {n : Int} {w : World} (tb : Tb w) {cs : List Value} {x : Va} (h1 : x.kind = 6) (h2 : x.args.length ≤ 64 ∧ ∀ a ∈ x.args, MayOpr a) (hx : VaAt K w cs x) (hl : Lies K w 15 bx ox cs) (h : Wtr K.C b S n w) (hlen : S.length + (valT Lib.itoa x).length ≤ 140737488355328) :
    Calls Tryz.prog 130 #[.pointer (some ⟨b, 0, none⟩), .pointer (some ⟨bx, ox, none⟩)] w fun e w' => e = .returned (.tuple #[]) ∧ Wtr K.C b (S ++ valT Lib.itoa x) n w' ∧ Fr K.C w w' := by
  obtain ⟨xa, xb, ps, vn, va, rfl, ha, hb, hp, hn, hns, has⟩ := hx
  have la : xa.length = 4 := by obtain ⟨ps, rfl, v, rfl, _⟩ := ha; rfl
  have lb : xb.length = 4 := by obtain ⟨ps, rfl, v, rfl, _⟩ := hb; rfl
  have lp : ps.length = 2 := by obtain ⟨v, rfl, _⟩ := hp; rfl
  obtain ⟨an, cn, rfl, hcn, hbn, -⟩ := id hns.shape
  obtain ⟨aa, ca, rfl, hca, hba, -⟩ := id has.shape
  have lA : Lies K w 4 bx (ox + 1) xa := by
    have := hl.part [.int .i64 x.kind] _ xa rfl 1 rfl (by omega)
    rwa [la] at this
  have lB : Lies K w 4 bx (ox + 5) xb := by
    have := hl.part (.int .i64 x.kind :: xa) _ xb (by simp; rfl) 5 (by simp [la]) (by omega)
    rwa [lb] at this
  have lT : Lies K w 1 bx (ox + 9) [.int .i64 x.op] := hl.part (.int .i64 x.kind :: (xa ++ xb)) _ [.int .i64 x.op] (by simp; rfl) 9 (by simp [la, lb]) (by simp)
  have lP : Lies K w 2 bx (ox + 10) ps := by
    have := hl.part (.int .i64 x.kind :: (xa ++ (xb ++ [.int .i64 x.op]))) _ ps (by simp; rfl) 10 (by simp [la, lb]) (by omega)
    rwa [lp] at this
  have lN : Lies K w 3 bx (ox + 12) [.string (str x.name), .slice an x.names.length cn, .slice aa x.args.length ca] := hl.part (.int .i64 x.kind :: (xa ++ (xb ++ (.int .i64 x.op :: ps)))) [] [.string (str x.name), .slice an x.names.length cn, .slice aa x.args.length ca] (by simp) 12 (by simp [la, lb, lp]) (by simp)
  have c0 : w.cell? ⟨bx, ox, none⟩ = some (.int .i64 x.kind) := hl.2 0 (by decide)
  have c9 : w.cell? ⟨bx, ox + 9, none⟩ = some (.int .i64 x.op) := lT.2 0 (by decide)
  have c12 : w.cell? ⟨bx, ox + 12, none⟩ = some (.string (str x.name)) := lN.2 0 (by decide)
  have c13 : w.cell? ⟨bx, ox + 13, none⟩ = some (.slice an x.names.length cn) := lN.2 1 (by decide)
  have c14 : w.cell? ⟨bx, ox + 14, none⟩ = some (.slice aa x.args.length ca) := lN.2 2 (by decide)
  clear hl lT lN
  obtain ⟨t1, t2, t3, t4⟩ := two_rows h 156 (.pointer (some ⟨b, 0, none⟩)) (.pointer (some ⟨bx, ox, none⟩))
  obtain ⟨W, hW⟩ : ∃ W, W = (w.alloc (.cells #[.pointer (some ⟨b, 0, none⟩)] 93)).alloc (.cells #[.pointer (some ⟨bx, ox, none⟩)] 156) := ⟨_, rfl⟩
  rw [← hW] at t1 t2 t3 t4
  have hbC : bx < K.C := lA.1
  have HS : Hid (∀ y, Fr K.C W y → y.cell? ⟨w.heap.size, 0, none⟩ = some (.pointer (some ⟨b, 0, none⟩)) ∧ y.cell? ⟨w.heap.size + 1, 0, none⟩ = some (.pointer (some ⟨bx, ox, none⟩)) ∧ y.cell? ⟨bx, ox, none⟩ = some (.int .i64 x.kind) ∧ y.cell? ⟨bx, ox + 9, none⟩ = some (.int .i64 x.op) ∧ y.cell? ⟨bx, ox + 12, none⟩ = some (.string (str x.name)) ∧ y.cell? ⟨bx, ox + 13, none⟩ = some (.slice an x.names.length cn) ∧ y.cell? ⟨bx, ox + 14, none⟩ = some (.slice aa x.args.length ca)) := by
    intro y hy
    have hk := t2.trans hy
    exact ⟨(hy.row t3 (by decide) (by decide)).cell 0, (hy.row t4 (by decide) (by decide)).cell 0, (hk.below.cell (p := ⟨bx, ox, none⟩) hbC).trans c0, (hk.below.cell (p := ⟨bx, ox + 9, none⟩) hbC).trans c9, (hk.below.cell (p := ⟨bx, ox + 12, none⟩) hbC).trans c12, (hk.below.cell (p := ⟨bx, ox + 13, none⟩) hbC).trans c13, (hk.below.cell (p := ⟨bx, ox + 14, none⟩) hbC).trans c14⟩
  have fd : Hid (∀ y, Fr K.C W y → Fr K.C W y.drew) := fun y hy => hy.trans (Fr.drew y)
  have HTb : Hid (∀ y, Fr K.C W y → Tb y) := fun y hy => tb.below (t2.trans hy).below hK
  have HW0 := hid0 t2
  have HW1 := hid0 t1
  have hWs : W.heap.size = w.heap.size + 1 + 1 := by rw [hW]; show ((w.heap.push _).push _).size = _; rw [Array.size_push, Array.size_push]
  have FW := Fr.refl K.C W
  have cW : ((w.alloc (.cells #[.pointer (some ⟨b, 0, none⟩)] 93)).alloc (.cells #[.pointer (some ⟨bx, ox, none⟩)] 156)).cell? ⟨bx, ox, none⟩ = some (.int .i64 x.kind) := by rw [← hW]; exact (HS.out _ FW).2.2.1
  have i2 : x.names.length ≤ 9223372036854775807 := by omega
  have i3 : x.args.length ≤ 9223372036854775807 := by omega
  have OA : Hid (∀ T y, Fr K.C W y → Wtr K.C b T n y → MayOpr x.a → T.length + (operT Lib.itoa x.a).length ≤ 140737488355328 → Calls Tryz.prog 147 #[.pointer (some ⟨b, 0, none⟩), .pointer (some ⟨bx, ox + 1, none⟩)] y.drew fun e w' => e = .returned (.tuple #[]) ∧ Wtr K.C b (T ++ operT Lib.itoa x.a) n w' ∧ Fr K.C W w') := by
    intro T y hy hw hm hl
    have hk := t2.trans (fd.out y hy)
    refine (oper_any (HTb.out _ (fd.out y hy)) hm (ha.below hk.below) (lA.below hk.below) hw.drew hl).mono ?_
    rintro _ _ ⟨rfl, p1, p2⟩
    exact ⟨rfl, p1, (fd.out y hy).trans p2⟩
  have OB : Hid (∀ T y, Fr K.C W y → Wtr K.C b T n y → MayOpr x.b → T.length + (operT Lib.itoa x.b).length ≤ 140737488355328 → Calls Tryz.prog 147 #[.pointer (some ⟨b, 0, none⟩), .pointer (some ⟨bx, ox + 5, none⟩)] y.drew fun e w' => e = .returned (.tuple #[]) ∧ Wtr K.C b (T ++ operT Lib.itoa x.b) n w' ∧ Fr K.C W w') := by
    intro T y hy hw hm hl
    have hk := t2.trans (fd.out y hy)
    refine (oper_any (HTb.out _ (fd.out y hy)) hm (hb.below hk.below) (lB.below hk.below) hw.drew hl).mono ?_
    rintro _ _ ⟨rfl, p1, p2⟩
    exact ⟨rfl, p1, (fd.out y hy).trans p2⟩
  have OP : Hid (∀ T y, Fr K.C W y → Wtr K.C b T n y → T.length + (placeT x.place).length ≤ 140737488355328 → Calls Tryz.prog 129 #[.pointer (some ⟨b, 0, none⟩), .pointer (some ⟨bx, ox + 10, none⟩)] y.drew fun e w' => e = .returned (.tuple #[]) ∧ Wtr K.C b (T ++ placeT x.place) n w' ∧ Fr K.C W w') := by
    intro T y hy hw hl
    have hk := t2.trans (fd.out y hy)
    refine (place_any (hp.below hk.below) (lP.below hk.below) hw.drew hl).mono ?_
    rintro _ _ ⟨rfl, p1, p2⟩
    exact ⟨rfl, p1, (fd.out y hy).trans p2⟩
  have P1 : Hid (∀ T z y, Wtr K.C b T n y → T.length + List.length z ≤ 140737488355328 → Calls Tryz.prog 47 #[.pointer (some ⟨b, 0, none⟩), .slice (some ⟨y.heap.size, 0, none⟩) 1 1] (y.alloc (.cells #[.string (str z)] 9)) fun e w' => e = .returned (.tuple #[]) ∧ Wtr K.C b (T ++ z) n w' ∧ Fr K.C y w') := fun T z y hw hl => put1 hw z hl
  unfold valT at hlen ⊢
  have b2 : (x.kind == 2) = false := by rw [h1]; rfl
  have b3 : (x.kind == 3) = false := by rw [h1]; rfl
  have b4 : (x.kind == 4) = false := by rw [h1]; rfl
  have b1 : (x.kind == 1) = false := by rw [h1]; rfl
  have b5 : (x.kind == 5) = false := by rw [h1]; rfl
  have b6 : (x.kind == 6) = true := by rw [h1]; rfl
  rw [if_neg (by omega), if_neg (by omega), if_neg (by omega), if_neg (by omega), if_neg (by omega), if_pos h1] at hlen ⊢
  try simp only [List.length_append, List.length_cons, List.length_nil] at hlen
  have D1 : Hid (∀ y, Fr K.C W y → Wtr K.C b S n y → Calls Tryz.prog 47 #[.pointer (some ⟨b, 0, none⟩), .slice (some ⟨y.drew.heap.size, 0, none⟩) 1 1] (y.drew.alloc (.cells #[.string (str x.name)] 9)) fun e w' => e = .returned (.tuple #[]) ∧ Wtr K.C b (S ++ x.name) n w' ∧ Fr K.C W w') := by
    intro y hy hw
    refine (put1 hw.drew _ (by omega)).mono ?_
    rintro _ _ ⟨rfl, p1, p2⟩
    exact ⟨rfl, p1, (fd.out y hy).trans p2⟩
  have FA : Hid (∀ y S1, Fr K.C W y → Wtr K.C b S1 n y → Fr K.C W (y.drew.alloc (.cells #[.string (str x.name)] 9))) := fun y S1 hy hw => (fd.out y hy).trans (Fr.alloc _ _ hw.Cw)
  have D2 : Hid (∀ y, Fr K.C W y → Wtr K.C b (S ++ x.name) n y → Calls Tryz.prog 54 #[.pointer (some ⟨b, 0, none⟩), .int .i64 (x.args.length : Int), .func (.func 149) #[] #[.pointer (some ⟨w.heap.size, 0, none⟩), .pointer (some ⟨w.heap.size + 1, 0, none⟩)]] y.drew fun e w' => e = .returned (.tuple #[]) ∧ Wtr K.C b (S ++ x.name ++ ([40] ++ jn [44, 32] (x.args.map (operT Lib.itoa)) ++ [41])) n w' ∧ Fr K.C W w') := by
    intro y hy hw
    have hk := t2.trans hy
    have := rounded_any enters149 (args_mem hK (n := n) (HTb.out y hy) h2.2 (has.mono hk.below fun _ _ _ h => h.below hk.below) (hy.row t3 (by decide) (by decide)) (hy.row t4 (by decide) (by decide)) hbC ((hk.below.cell (p := ⟨bx, ox + 14, none⟩) hbC).trans c14)) (Fr.drew y) hw.drew (by simp; omega) (by simp only [List.length_append, List.length_cons, List.length_nil]; omega)
    rw [List.length_map] at this
    refine this.mono ?_
    rintro _ _ ⟨rfl, p1, p2⟩
    exact ⟨rfl, p1, (fd.out y hy).trans p2⟩
  clear h1 h2 OA OB OP P1
  clear hWs t1 t2 t3 t4 h hlen lA lB lP ha hb hp hns has c0 c9 c12 c13 c14 tb
  generalize jn [44, 32] (x.args.map (operT Lib.itoa)) = TA at *
  generalize x.kind = kd at *
  generalize x.op = op at *
  generalize str x.name = X at *
  generalize x.names.length = k1 at *
  generalize x.args.length = k2 at *
  go_enter Tryz.func130, Tryz.ntmps130
  go_wp2_with fail
  rw [← hW]
  clear hW
  have q0 := FW
  have p0 := HW1.out
  clear HW1 FW
  obtain ⟨e0, e1, e2, e3, e4, e5, e6⟩ := HS.out _ q0
  have fa := FA.out _ _ q0 p0
  have f0 := fd.out _ q0
  go_wp2_with fail
  go_region_held3 (fun z => z.cell? ⟨w.heap.size, 0, none⟩ = some (.pointer (some ⟨b, 0, none⟩)) ∧ z.cell? ⟨w.heap.size + 1, 0, none⟩ = some (.pointer (some ⟨bx, ox, none⟩)) ∧ z.cell? ⟨bx, ox, none⟩ = some (.int .i64 kd) ∧ z.cell? ⟨bx, ox + 9, none⟩ = some (.int .i64 op) ∧ z.cell? ⟨bx, ox + 12, none⟩ = some (.string (X)) ∧ z.cell? ⟨bx, ox + 13, none⟩ = some (.slice an k1 cn) ∧ z.cell? ⟨bx, ox + 14, none⟩ = some (.slice aa k2 ca)) (exact HS.out _ (by assumption)) (first | (go_at_call 47; refine (D1.out _ q0 p0).mono ?_; rintro _ w1 ⟨rfl, p1, q1⟩))
  have f1 := fd.out _ q1
  go_wp2_with fail
  go_region_held3 (fun z => z.cell? ⟨w.heap.size, 0, none⟩ = some (.pointer (some ⟨b, 0, none⟩)) ∧ z.cell? ⟨w.heap.size + 1, 0, none⟩ = some (.pointer (some ⟨bx, ox, none⟩)) ∧ z.cell? ⟨bx, ox, none⟩ = some (.int .i64 kd) ∧ z.cell? ⟨bx, ox + 9, none⟩ = some (.int .i64 op) ∧ z.cell? ⟨bx, ox + 12, none⟩ = some (.string (X)) ∧ z.cell? ⟨bx, ox + 13, none⟩ = some (.slice an k1 cn) ∧ z.cell? ⟨bx, ox + 14, none⟩ = some (.slice aa k2 ca)) (exact HS.out _ (by assumption)) (first | (go_at_call 54; refine (D2.out _ q1 p1).mono ?_; rintro _ w2 ⟨rfl, p2, q2⟩))
  go_wp2_with fail
  go_end0
  exact ⟨rfl, by simpa [List.append_assoc] using p2, HW0.out.trans q2⟩
end Go.Proofs.YtlbhaaldndjigaaGreatDoor

namespace Go.Proofs.YtlbhaaldndjigaaGreatDoor
open Go.RowKit

set_option maxHeartbeats 16000000 in
set_option maxRecDepth 20000 in
theorem value_7 {K : Ctx} (hK : 1 < K.C) {b bx ox : Nat} {S : Bs} {n : Int} {w : World} (tb : Tb w) {cs : List Value} {x : Va} (h1 : x.kind = 7) (h2 : x.names.length = x.args.length) (h3 : x.args.length ≤ 64 ∧ ∀ a ∈ x.args, MayOpr a) (hx : VaAt K w cs x) (hl : Lies K w 15 bx ox cs) (h : Wtr K.C b S n w) (hlen : S.length + (valT Lib.itoa x).length ≤ 140737488355328) :
    Calls Tryz.prog 130 #[.pointer (some ⟨b, 0, none⟩), .pointer (some ⟨bx, ox, none⟩)] w fun e w' => e = .returned (.tuple #[]) ∧ Wtr K.C b (S ++ valT Lib.itoa x) n w' ∧ Fr K.C w w' := by
  obtain ⟨xa, xb, ps, vn, va, rfl, ha, hb, hp, hn, hns, has⟩ := hx
  have la : xa.length = 4 := by obtain ⟨ps, rfl, v, rfl, _⟩ := ha; rfl
  have lb : xb.length = 4 := by obtain ⟨ps, rfl, v, rfl, _⟩ := hb; rfl
  have lp : ps.length = 2 := by obtain ⟨v, rfl, _⟩ := hp; rfl
  obtain ⟨an, cn, rfl, hcn, hbn, -⟩ := id hns.shape
  obtain ⟨aa, ca, rfl, hca, hba, -⟩ := id has.shape
  have lA : Lies K w 4 bx (ox + 1) xa := by
    have := hl.part [.int .i64 x.kind] _ xa rfl 1 rfl (by omega)
    rwa [la] at this
  have lB : Lies K w 4 bx (ox + 5) xb := by
    have := hl.part (.int .i64 x.kind :: xa) _ xb (by simp; rfl) 5 (by simp [la]) (by omega)
    rwa [lb] at this
  have lT : Lies K w 1 bx (ox + 9) [.int .i64 x.op] := hl.part (.int .i64 x.kind :: (xa ++ xb)) _ [.int .i64 x.op] (by simp; rfl) 9 (by simp [la, lb]) (by simp)
  have lP : Lies K w 2 bx (ox + 10) ps := by
    have := hl.part (.int .i64 x.kind :: (xa ++ (xb ++ [.int .i64 x.op]))) _ ps (by simp; rfl) 10 (by simp [la, lb]) (by omega)
    rwa [lp] at this
  have lN : Lies K w 3 bx (ox + 12) [.string (str x.name), .slice an x.names.length cn, .slice aa x.args.length ca] := hl.part (.int .i64 x.kind :: (xa ++ (xb ++ (.int .i64 x.op :: ps)))) [] [.string (str x.name), .slice an x.names.length cn, .slice aa x.args.length ca] (by simp) 12 (by simp [la, lb, lp]) (by simp)
  have c0 : w.cell? ⟨bx, ox, none⟩ = some (.int .i64 x.kind) := hl.2 0 (by decide)
  have c9 : w.cell? ⟨bx, ox + 9, none⟩ = some (.int .i64 x.op) := lT.2 0 (by decide)
  have c12 : w.cell? ⟨bx, ox + 12, none⟩ = some (.string (str x.name)) := lN.2 0 (by decide)
  have c13 : w.cell? ⟨bx, ox + 13, none⟩ = some (.slice an x.names.length cn) := lN.2 1 (by decide)
  have c14 : w.cell? ⟨bx, ox + 14, none⟩ = some (.slice aa x.args.length ca) := lN.2 2 (by decide)
  clear hl lT lN
  obtain ⟨t1, t2, t3, t4⟩ := two_rows h 156 (.pointer (some ⟨b, 0, none⟩)) (.pointer (some ⟨bx, ox, none⟩))
  obtain ⟨W, hW⟩ : ∃ W, W = (w.alloc (.cells #[.pointer (some ⟨b, 0, none⟩)] 93)).alloc (.cells #[.pointer (some ⟨bx, ox, none⟩)] 156) := ⟨_, rfl⟩
  rw [← hW] at t1 t2 t3 t4
  have hbC : bx < K.C := lA.1
  have HS : Hid (∀ y, Fr K.C W y → y.cell? ⟨w.heap.size, 0, none⟩ = some (.pointer (some ⟨b, 0, none⟩)) ∧ y.cell? ⟨w.heap.size + 1, 0, none⟩ = some (.pointer (some ⟨bx, ox, none⟩)) ∧ y.cell? ⟨bx, ox, none⟩ = some (.int .i64 x.kind) ∧ y.cell? ⟨bx, ox + 9, none⟩ = some (.int .i64 x.op) ∧ y.cell? ⟨bx, ox + 12, none⟩ = some (.string (str x.name)) ∧ y.cell? ⟨bx, ox + 13, none⟩ = some (.slice an x.names.length cn) ∧ y.cell? ⟨bx, ox + 14, none⟩ = some (.slice aa x.args.length ca)) := by
    intro y hy
    have hk := t2.trans hy
    exact ⟨(hy.row t3 (by decide) (by decide)).cell 0, (hy.row t4 (by decide) (by decide)).cell 0, (hk.below.cell (p := ⟨bx, ox, none⟩) hbC).trans c0, (hk.below.cell (p := ⟨bx, ox + 9, none⟩) hbC).trans c9, (hk.below.cell (p := ⟨bx, ox + 12, none⟩) hbC).trans c12, (hk.below.cell (p := ⟨bx, ox + 13, none⟩) hbC).trans c13, (hk.below.cell (p := ⟨bx, ox + 14, none⟩) hbC).trans c14⟩
  have fd : Hid (∀ y, Fr K.C W y → Fr K.C W y.drew) := fun y hy => hy.trans (Fr.drew y)
  have HTb : Hid (∀ y, Fr K.C W y → Tb y) := fun y hy => tb.below (t2.trans hy).below hK
  have HW0 := hid0 t2
  have HW1 := hid0 t1
  have hWs : W.heap.size = w.heap.size + 1 + 1 := by rw [hW]; show ((w.heap.push _).push _).size = _; rw [Array.size_push, Array.size_push]
  have FW := Fr.refl K.C W
  have cW : ((w.alloc (.cells #[.pointer (some ⟨b, 0, none⟩)] 93)).alloc (.cells #[.pointer (some ⟨bx, ox, none⟩)] 156)).cell? ⟨bx, ox, none⟩ = some (.int .i64 x.kind) := by rw [← hW]; exact (HS.out _ FW).2.2.1
  have i2 : x.names.length ≤ 9223372036854775807 := by omega
  have i3 : x.args.length ≤ 9223372036854775807 := by omega
  have OA : Hid (∀ T y, Fr K.C W y → Wtr K.C b T n y → MayOpr x.a → T.length + (operT Lib.itoa x.a).length ≤ 140737488355328 → Calls Tryz.prog 147 #[.pointer (some ⟨b, 0, none⟩), .pointer (some ⟨bx, ox + 1, none⟩)] y.drew fun e w' => e = .returned (.tuple #[]) ∧ Wtr K.C b (T ++ operT Lib.itoa x.a) n w' ∧ Fr K.C W w') := by
    intro T y hy hw hm hl
    have hk := t2.trans (fd.out y hy)
    refine (oper_any (HTb.out _ (fd.out y hy)) hm (ha.below hk.below) (lA.below hk.below) hw.drew hl).mono ?_
    rintro _ _ ⟨rfl, p1, p2⟩
    exact ⟨rfl, p1, (fd.out y hy).trans p2⟩
  have OB : Hid (∀ T y, Fr K.C W y → Wtr K.C b T n y → MayOpr x.b → T.length + (operT Lib.itoa x.b).length ≤ 140737488355328 → Calls Tryz.prog 147 #[.pointer (some ⟨b, 0, none⟩), .pointer (some ⟨bx, ox + 5, none⟩)] y.drew fun e w' => e = .returned (.tuple #[]) ∧ Wtr K.C b (T ++ operT Lib.itoa x.b) n w' ∧ Fr K.C W w') := by
    intro T y hy hw hm hl
    have hk := t2.trans (fd.out y hy)
    refine (oper_any (HTb.out _ (fd.out y hy)) hm (hb.below hk.below) (lB.below hk.below) hw.drew hl).mono ?_
    rintro _ _ ⟨rfl, p1, p2⟩
    exact ⟨rfl, p1, (fd.out y hy).trans p2⟩
  have OP : Hid (∀ T y, Fr K.C W y → Wtr K.C b T n y → T.length + (placeT x.place).length ≤ 140737488355328 → Calls Tryz.prog 129 #[.pointer (some ⟨b, 0, none⟩), .pointer (some ⟨bx, ox + 10, none⟩)] y.drew fun e w' => e = .returned (.tuple #[]) ∧ Wtr K.C b (T ++ placeT x.place) n w' ∧ Fr K.C W w') := by
    intro T y hy hw hl
    have hk := t2.trans (fd.out y hy)
    refine (place_any (hp.below hk.below) (lP.below hk.below) hw.drew hl).mono ?_
    rintro _ _ ⟨rfl, p1, p2⟩
    exact ⟨rfl, p1, (fd.out y hy).trans p2⟩
  have P1 : Hid (∀ T z y, Wtr K.C b T n y → T.length + List.length z ≤ 140737488355328 → Calls Tryz.prog 47 #[.pointer (some ⟨b, 0, none⟩), .slice (some ⟨y.heap.size, 0, none⟩) 1 1] (y.alloc (.cells #[.string (str z)] 9)) fun e w' => e = .returned (.tuple #[]) ∧ Wtr K.C b (T ++ z) n w' ∧ Fr K.C y w') := fun T z y hw hl => put1 hw z hl
  unfold valT at hlen ⊢
  have b2 : (x.kind == 2) = false := by rw [h1]; rfl
  have b3 : (x.kind == 3) = false := by rw [h1]; rfl
  have b4 : (x.kind == 4) = false := by rw [h1]; rfl
  have b1 : (x.kind == 1) = false := by rw [h1]; rfl
  have b5 : (x.kind == 5) = false := by rw [h1]; rfl
  have b6 : (x.kind == 6) = false := by rw [h1]; rfl
  have b7 : (x.kind == 7) = true := by rw [h1]; rfl
  rw [if_neg (by omega), if_neg (by omega), if_neg (by omega), if_neg (by omega), if_neg (by omega), if_neg (by omega)] at hlen ⊢
  try simp only [List.length_append, List.length_cons, List.length_nil] at hlen
  have eZ : ([123, 32] ++ jn [44, 32] (List.zipWith (fun a b => a ++ [58, 32] ++ operT Lib.itoa b) x.names x.args) ++ (if x.names = [] then [] else [32]) ++ [125] : Bs) = (bracT (List.zipWith (fun a b => a ++ [58, 32] ++ operT Lib.itoa b) x.names x.args)) := by
    unfold bracT
    congr 2
    have hz : List.zipWith (fun a b => a ++ [58, 32] ++ operT Lib.itoa b) x.names x.args = [] ↔ x.names = [] := by
      rw [← List.length_eq_zero_iff, ← List.length_eq_zero_iff, List.length_zipWith]; omega
    by_cases hq : x.names = []
    · rw [if_pos hq, if_pos (hz.2 hq)]
    · rw [if_neg hq, if_neg (fun h => hq (hz.1 h))]
  have hz : (bracT (List.zipWith (fun a b => a ++ [58, 32] ++ operT Lib.itoa b) x.names x.args)).length + x.name.length + 1 + S.length ≤ 140737488355328 := by rw [← eZ]; simp only [List.length_append, List.length_cons, List.length_nil]; omega
  rw [eZ]
  have D1 : Hid (∀ y, Fr K.C W y → Wtr K.C b S n y → Calls Tryz.prog 47 #[.pointer (some ⟨b, 0, none⟩), .slice (some ⟨y.drew.heap.size, 0, none⟩) 2 2] (y.drew.alloc (.cells #[.string (str x.name), .string (str [32])] 9)) fun e w' => e = .returned (.tuple #[]) ∧ Wtr K.C b (S ++ (x.name ++ [32])) n w' ∧ Fr K.C W w') := by
    intro y hy hw
    refine (put2 hw.drew _ _ (by simp only [List.length_append, List.length_cons, List.length_nil]; omega)).mono ?_
    rintro _ _ ⟨rfl, p1, p2⟩
    exact ⟨rfl, p1, (fd.out y hy).trans p2⟩
  have FA : Hid (∀ y S1, Fr K.C W y → Wtr K.C b S1 n y → Fr K.C W (y.drew.alloc (.cells #[.string (str x.name), .string (str [32])] 9))) := fun y S1 hy hw => (fd.out y hy).trans (Fr.alloc _ _ hw.Cw)
  have D2 : Hid (∀ y, Fr K.C W y → Wtr K.C b (S ++ (x.name ++ [32])) n y → Calls Tryz.prog 72 #[.pointer (some ⟨b, 0, none⟩), .int .i64 (x.names.length : Int), .func (.func 150) #[] #[.pointer (some ⟨w.heap.size, 0, none⟩), .pointer (some ⟨w.heap.size + 1, 0, none⟩)]] y.drew fun e w' => e = .returned (.tuple #[]) ∧ Wtr K.C b (S ++ (x.name ++ [32]) ++ (bracT (List.zipWith (fun a b => a ++ [58, 32] ++ operT Lib.itoa b) x.names x.args))) n w' ∧ Fr K.C W w') := by
    intro y hy hw
    have hk := t2.trans hy
    have := braced_any enters150 (parts_mem hK (n := n) (HTb.out y hy) h2 h3.2 (has.mono hk.below fun _ _ _ h => h.below hk.below) (hns.below hk.below) (hy.row t3 (by decide) (by decide)) (hy.row t4 (by decide) (by decide)) hbC ((hk.below.cell (p := ⟨bx, ox + 13, none⟩) hbC).trans c13) ((hk.below.cell (p := ⟨bx, ox + 14, none⟩) hbC).trans c14)) (Fr.drew y) hw.drew (by rw [List.length_zipWith]; omega) (by simp only [List.length_append, List.length_cons, List.length_nil]; omega)
    rw [List.length_zipWith, ← h2, Nat.min_self] at this
    refine this.mono ?_
    rintro _ _ ⟨rfl, p1, p2⟩
    exact ⟨rfl, p1, (fd.out y hy).trans p2⟩
  clear hz eZ
  generalize (bracT (List.zipWith (fun a b => a ++ [58, 32] ++ operT Lib.itoa b) x.names x.args)) = TA at *
  clear h1 h2 h3 OA OB OP P1
  clear hWs t1 t2 t3 t4 h hlen lA lB lP ha hb hp hns has c0 c9 c12 c13 c14 tb
  generalize x.kind = kd at *
  generalize x.op = op at *
  generalize str x.name = X at *
  generalize x.names.length = k1 at *
  generalize x.args.length = k2 at *
  go_enter Tryz.func130, Tryz.ntmps130
  go_wp2_with fail
  rw [← hW]
  clear hW
  have q0 := FW
  have p0 := HW1.out
  clear HW1 FW
  obtain ⟨e0, e1, e2, e3, e4, e5, e6⟩ := HS.out _ q0
  have fa := FA.out _ _ q0 p0
  have f0 := fd.out _ q0
  go_wp2_with fail
  go_region_held3 (fun z => z.cell? ⟨w.heap.size, 0, none⟩ = some (.pointer (some ⟨b, 0, none⟩)) ∧ z.cell? ⟨w.heap.size + 1, 0, none⟩ = some (.pointer (some ⟨bx, ox, none⟩)) ∧ z.cell? ⟨bx, ox, none⟩ = some (.int .i64 kd) ∧ z.cell? ⟨bx, ox + 9, none⟩ = some (.int .i64 op) ∧ z.cell? ⟨bx, ox + 12, none⟩ = some (.string (X)) ∧ z.cell? ⟨bx, ox + 13, none⟩ = some (.slice an k1 cn) ∧ z.cell? ⟨bx, ox + 14, none⟩ = some (.slice aa k2 ca)) (exact HS.out _ (by assumption)) (first | (go_at_call 47; refine (D1.out _ q0 p0).mono ?_; rintro _ w1 ⟨rfl, p1, q1⟩))
  have f1 := fd.out _ q1
  go_wp2_with fail
  go_region_held3 (fun z => z.cell? ⟨w.heap.size, 0, none⟩ = some (.pointer (some ⟨b, 0, none⟩)) ∧ z.cell? ⟨w.heap.size + 1, 0, none⟩ = some (.pointer (some ⟨bx, ox, none⟩)) ∧ z.cell? ⟨bx, ox, none⟩ = some (.int .i64 kd) ∧ z.cell? ⟨bx, ox + 9, none⟩ = some (.int .i64 op) ∧ z.cell? ⟨bx, ox + 12, none⟩ = some (.string (X)) ∧ z.cell? ⟨bx, ox + 13, none⟩ = some (.slice an k1 cn) ∧ z.cell? ⟨bx, ox + 14, none⟩ = some (.slice aa k2 ca)) (exact HS.out _ (by assumption)) (first | (go_at_call 72; refine (D2.out _ q1 p1).mono ?_; rintro _ w2 ⟨rfl, p2, q2⟩))
  go_wp2_with fail
  go_end0
  exact ⟨rfl, by simpa [List.append_assoc] using p2, HW0.out.trans q2⟩
end Go.Proofs.YtlbhaaldndjigaaGreatDoor

namespace Go.Proofs.YtlbhaaldndjigaaGreatDoor
open Go.RowKit
theorem value_any {K : Ctx} (hK : 1 < K.C) {b bx ox : Nat} {S : Bs} {n : Int} {w : World} (tb : Tb w) {cs : List Value} {x : Va} (hm : MayVa x) (hx : VaAt K w cs x) (hl : Lies K w 15 bx ox cs) (h : Wtr K.C b S n w) (hlen : S.length + (valT Lib.itoa x).length ≤ 140737488355328) :
    Calls Tryz.prog 130 #[.pointer (some ⟨b, 0, none⟩), .pointer (some ⟨bx, ox, none⟩)] w fun e w' => e = .returned (.tuple #[]) ∧ Wtr K.C b (S ++ valT Lib.itoa x) n w' ∧ Fr K.C w w' := by
  rcases hm with ⟨h1, -, h2, h3, -⟩ | ⟨h1, h2, -⟩ | ⟨h1, h2, -⟩ | ⟨h1, h2, -, -, h3, -⟩ | ⟨h1, -, h2, -⟩
  · exact value_5 hK tb h1 h2 h3 hx hl h hlen
  · rcases h1 with h1 | h1
    · exact value_1 hK tb h1 h2 hx hl h hlen
    · exact value_4 hK tb h1 h2 hx hl h hlen
  · rcases h1 with h1 | h1
    · exact value_2 hK tb h1 hx hl h hlen
    · exact value_3 hK tb h1 hx hl h hlen
  · exact value_7 hK tb h1 h2 h3 hx hl h hlen
  · exact value_6 hK tb h1 h2 hx hl h hlen
end Go.Proofs.YtlbhaaldndjigaaGreatDoor
