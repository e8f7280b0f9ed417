/-
  The texts Vl0, Vk1, joined.
-/
import Derived.Test.YtlbhaaldndjigaaGreatDoorJMop2
import Derived.Test.YtlbhaaldndjigaaGreatDoorVl1
import Derived.Test.YtlbhaaldndjigaaGreatDoorPln
namespace Go.Proofs.YtlbhaaldndjigaaGreatDoor
open Go.RowKit

theorem enters149 : ∀ args w, (callFunc 149 args).run Tryz.prog w = .ok (.enter 149 args) w := enters_at Tryz.func149 (by kernel_rfl) rfl
theorem enters150 : ∀ args w, (callFunc 150 args).run Tryz.prog w = .ok (.enter 150 args) w := enters_at Tryz.func150 (by kernel_rfl) rfl
theorem oper_lens {x : Opr} (h : MayOpr x) : (operT Lib.itoa x).length ≤ 2200 := oper_len (fun _ h0 h1 => itoa_len h0 h1) h

set_option maxHeartbeats 4000000 in
theorem args_mem {K : Ctx} (hK : 1 < K.C) {b g1 g2 bx ox : Nat} {n : Int} {w0 : World} (tb : Tb w0) {v : Value} {l : List Opr} (hm : ∀ x ∈ l, MayOpr x) (hs : Ar 4 56 (OprAt K w0) K w0 v l) (R1 : Row w0 g1 93 [.pointer (some ⟨b, 0, none⟩)]) (R2 : Row w0 g2 156 [.pointer (some ⟨bx, ox, none⟩)]) (hx : bx < K.C) (hxc : w0.cell? ⟨bx, ox + 14, none⟩ = some v) :
    Mem K.C b n w0 149 #[.pointer (some ⟨g1, 0, none⟩), .pointer (some ⟨g2, 0, none⟩)] (l.map (operT Lib.itoa)) := by
  intro i hi S w hf hw hlen
  have hil : i < l.length := by simpa using hi
  have e0 : (l.map (operT Lib.itoa))[i] = operT Lib.itoa l[i] := by simp
  rw [e0] at hlen ⊢
  obtain ⟨ao, cap, rfl, hc, hb, hA⟩ := Ar.at (P := OprAt K) hs (fun h hx => hx.below h)
  obtain ⟨bb, o, cs, rfl, hbC, hcell⟩ := hA i hil
  have HS : Hid (∀ y, Fr K.C w y → y.cell? ⟨g1, 0, none⟩ = some (.pointer (some ⟨b, 0, none⟩)) ∧ y.cell? ⟨g2, 0, none⟩ = some (.pointer (some ⟨bx, ox, none⟩)) ∧ y.cell? ⟨bx, ox + 14, none⟩ = some (.slice (some ⟨bb, o, none⟩) l.length cap)) := by
    intro y hy
    have h := hf.trans hy
    exact ⟨(h.row R1 (by decide) (by decide)).cell 0, (h.row R2 (by decide) (by decide)).cell 0, (h.below.cell (p := ⟨bx, ox + 14, none⟩) hx).trans hxc⟩
  have fd : Fr K.C w w.drew := Fr.drew w
  have D : Hid (Calls Tryz.prog 147 #[.pointer (some ⟨b, 0, none⟩), .pointer (some ⟨bb, o + i * 4, none⟩)] w.drew fun e w' => e = .returned (.tuple #[]) ∧ Wtr K.C b (S ++ operT Lib.itoa l[i]) n w' ∧ Fr K.C w w') := by
    obtain ⟨k1, k2⟩ := hcell w.drew (hf.trans fd).below
    refine (oper_any (tb.below (hf.trans fd).below hK) (hm _ (List.getElem_mem hil)) k2 k1 hw.drew hlen).mono ?_
    rintro _ _ ⟨rfl, p1, p2⟩
    exact ⟨rfl, p1, fd.trans p2⟩
  have i1 : (i : Int) < (l.length : Int) := by omega
  have i2 : l.length ≤ 9223372036854775807 := by omega
  clear hw hlen hcell hA hs R1 R2 hf e0 hi hxc tb hm
  go_enter Tryz.func149, Tryz.ntmps149
  go_wp2_with fail
  go_region_held3 (fun z => z.cell? ⟨g1, 0, none⟩ = some (.pointer (some ⟨b, 0, none⟩)) ∧ z.cell? ⟨g2, 0, none⟩ = some (.pointer (some ⟨bx, ox, none⟩)) ∧ z.cell? ⟨bx, ox + 14, none⟩ = some (.slice (some ⟨bb, o, none⟩) l.length cap)) (exact HS.out _ (by assumption)) (first | (go_at_call 147; refine D.out.mono ?_; rintro _ w1 ⟨rfl, p1, q1⟩))
  go_wp2_with fail
  go_end0
  exact ⟨rfl, p1, q1⟩

set_option maxHeartbeats 8000000 in
theorem parts_mem {K : Ctx} (hK : 1 < K.C) {b g1 g2 bx ox : Nat} {n : Int} {w0 : World} (tb : Tb w0) {v u : Value} {l : List Opr} {nm : List Bs} (hq : nm.length = l.length) (hm : ∀ x ∈ l, MayOpr x) (hs : Ar 4 56 (OprAt K w0) K w0 v l) (hns : Strs K w0 u nm) (R1 : Row w0 g1 93 [.pointer (some ⟨b, 0, none⟩)]) (R2 : Row w0 g2 156 [.pointer (some ⟨bx, ox, none⟩)]) (hx : bx < K.C) (hxu : w0.cell? ⟨bx, ox + 13, none⟩ = some u) (hxc : w0.cell? ⟨bx, ox + 14, none⟩ = some v) :
    Mem K.C b n w0 150 #[.pointer (some ⟨g1, 0, none⟩), .pointer (some ⟨g2, 0, none⟩)] (List.zipWith (fun a b => a ++ [58, 32] ++ operT Lib.itoa b) nm l) := by
  intro i hi S w hf hw hlen
  have hil : i < l.length := by rw [List.length_zipWith] at hi; omega
  have hin : i < nm.length := by omega
  have e0 : (List.zipWith (fun a b => a ++ [58, 32] ++ operT Lib.itoa b) nm l)[i] = nm[i] ++ [58, 32] ++ operT Lib.itoa l[i] := by simp
  rw [e0] at hlen ⊢
  simp only [List.length_append] at hlen
  obtain ⟨ao, cap, rfl, hc, hb, hA⟩ := Ar.at (P := OprAt K) hs (fun h hx => hx.below h)
  obtain ⟨bb, o, cs, rfl, hbC, hcell⟩ := hA i hil
  obtain ⟨an, cn, rfl, hcn, hbn, hAn⟩ := hns.at
  obtain ⟨bn, on, rfl, hbnC, hcelln⟩ := hAn i hin
  have HS : Hid (∀ y, Fr K.C w y → y.cell? ⟨g1, 0, none⟩ = some (.pointer (some ⟨b, 0, none⟩)) ∧ y.cell? ⟨g2, 0, none⟩ = some (.pointer (some ⟨bx, ox, none⟩)) ∧ y.cell? ⟨bx, ox + 13, none⟩ = some (.slice (some ⟨bn, on, none⟩) nm.length cn) ∧ y.cell? ⟨bx, ox + 14, none⟩ = some (.slice (some ⟨bb, o, none⟩) l.length cap) ∧ y.cell? ⟨bn, on + i, none⟩ = some (.string (str nm[i]))) := by
    intro y hy
    have h := hf.trans hy
    exact ⟨(h.row R1 (by decide) (by decide)).cell 0, (h.row R2 (by decide) (by decide)).cell 0, (h.below.cell (p := ⟨bx, ox + 13, none⟩) hx).trans hxu, (h.below.cell (p := ⟨bx, ox + 14, none⟩) hx).trans hxc, hcelln y h.below⟩
  have fd : Hid (∀ y, Fr K.C w y → Fr K.C w y.drew) := fun y hy => hy.trans (Fr.drew y)
  have D1 : Hid (Calls Tryz.prog 47 #[.pointer (some ⟨b, 0, none⟩), .slice (some ⟨w.drew.heap.size, 0, none⟩) 2 2] (w.drew.alloc (.cells #[.string (str nm[i]), .string (str [58, 32])] 9)) fun e w' => e = .returned (.tuple #[]) ∧ Wtr K.C b (S ++ (nm[i] ++ [58, 32])) n w' ∧ Fr K.C w w') := by
    refine (put2 hw.drew _ _ (by simp only [List.length_append]; omega)).mono ?_
    rintro _ _ ⟨rfl, p1, p2⟩
    exact ⟨rfl, p1, (Fr.drew w).trans p2⟩
  have fa : Fr K.C w (w.drew.alloc (.cells #[.string (str nm[i]), .string (str [58, 32])] 9)) := (Fr.drew w).trans (Fr.alloc _ _ hw.Cw)
  have D : Hid (∀ y, Fr K.C w y → Wtr K.C b (S ++ (nm[i] ++ [58, 32])) n y → Calls Tryz.prog 147 #[.pointer (some ⟨b, 0, none⟩), .pointer (some ⟨bb, o + i * 4, none⟩)] y.drew fun e w' => e = .returned (.tuple #[]) ∧ Wtr K.C b (S ++ (nm[i] ++ [58, 32]) ++ operT Lib.itoa l[i]) n w' ∧ Fr K.C w w') := by
    intro y hy hw
    have hk := hf.trans (fd.out y hy)
    obtain ⟨k1, k2⟩ := hcell y.drew hk.below
    refine (oper_any (tb.below hk.below hK) (hm _ (List.getElem_mem hil)) k2 k1 hw.drew (by simp only [List.length_append]; omega)).mono ?_
    rintro _ _ ⟨rfl, p1, p2⟩
    exact ⟨rfl, p1, (fd.out y hy).trans p2⟩
  have i1 : (i : Int) < (l.length : Int) := by omega
  have i2 : l.length ≤ 9223372036854775807 := by omega
  have i3 : (i : Int) < (nm.length : Int) := by omega
  have i4 : nm.length ≤ 9223372036854775807 := by omega
  have f0 := fd.out w (Fr.refl _ _)
  clear hw hlen hcell hcelln hA hAn hs hns R1 R2 hf e0 hi hxc hxu tb hm hq
  generalize nm[i] ++ [58, 32] = NN at *
  generalize operT Lib.itoa l[i] = OO at *
  generalize str nm[i] = X at *
  generalize nm.length = nl at *
  go_enter Tryz.func150, Tryz.ntmps150
  go_wp2_with fail
  go_region_held3 (fun z => z.cell? ⟨g1, 0, none⟩ = some (.pointer (some ⟨b, 0, none⟩)) ∧ z.cell? ⟨g2, 0, none⟩ = some (.pointer (some ⟨bx, ox, none⟩)) ∧ z.cell? ⟨bx, ox + 13, none⟩ = some (.slice (some ⟨bn, on, none⟩) nl cn) ∧ z.cell? ⟨bx, ox + 14, none⟩ = some (.slice (some ⟨bb, o, none⟩) l.length cap) ∧ z.cell? ⟨bn, on + i, none⟩ = some (.string X)) (exact HS.out _ (by assumption)) (first | (go_at_call 47; refine D1.out.mono ?_; rintro _ w1 ⟨rfl, p1, q1⟩))
  have f1 := fd.out _ q1
  go_wp2_with fail
  go_region_held3 (fun z => z.cell? ⟨g1, 0, none⟩ = some (.pointer (some ⟨b, 0, none⟩)) ∧ z.cell? ⟨g2, 0, none⟩ = some (.pointer (some ⟨bx, ox, none⟩)) ∧ z.cell? ⟨bx, ox + 13, none⟩ = some (.slice (some ⟨bn, on, none⟩) nl cn) ∧ z.cell? ⟨bx, ox + 14, none⟩ = some (.slice (some ⟨bb, o, none⟩) l.length cap) ∧ z.cell? ⟨bn, on + i, none⟩ = some (.string X)) (exact HS.out _ (by assumption)) (first | (go_at_call 147; refine (D.out _ q1 p1).mono ?_; rintro _ w2 ⟨rfl, p2, q2⟩))
  go_wp2_with fail
  go_end0
  exact ⟨rfl, by simpa [List.append_assoc] using p2, q2⟩
end Go.Proofs.YtlbhaaldndjigaaGreatDoor

namespace Go.Proofs.YtlbhaaldndjigaaGreatDoor
open Go.RowKit

set_option maxHeartbeats 16000000 in
set_option maxRecDepth 20000 in
theorem value_1 {K : Ctx} (hK : 1 < K.C) {b bx ox : Nat} {S : Bs} {n : Int} {w : World} (tb : Tb w) {cs : List Value} {x : Va} (h1 : x.kind = 1) (h2 : MayOpr x.a) (hx : VaAt K w cs x) (hl : Lies K w 15 bx ox cs) (h : Wtr K.C b S n w) (hlen : S.length + (valT Lib.itoa x).length ≤ 140737488355328) :
    Calls Tryz.prog 130 #[.pointer (some ⟨b, 0, none⟩), .pointer (some ⟨bx, ox, none⟩)] w fun e w' => e = .returned (.tuple #[]) ∧ Wtr K.C b (S ++ valT Lib.itoa x) n w' ∧ Fr K.C w w' := by
  obtain ⟨xa, xb, ps, vn, va, rfl, ha, hb, hp, hn, hns, has⟩ := hx
  have la : xa.length = 4 := by obtain ⟨ps, rfl, v, rfl, _⟩ := ha; rfl
  have lb : xb.length = 4 := by obtain ⟨ps, rfl, v, rfl, _⟩ := hb; rfl
  have lp : ps.length = 2 := by obtain ⟨v, rfl, _⟩ := hp; rfl
  obtain ⟨an, cn, rfl, hcn, hbn, -⟩ := id hns.shape
  obtain ⟨aa, ca, rfl, hca, hba, -⟩ := id has.shape
  have lA : Lies K w 4 bx (ox + 1) xa := by
    have := hl.part [.int .i64 x.kind] _ xa rfl 1 rfl (by omega)
    rwa [la] at this
  have lB : Lies K w 4 bx (ox + 5) xb := by
    have := hl.part (.int .i64 x.kind :: xa) _ xb (by simp; rfl) 5 (by simp [la]) (by omega)
    rwa [lb] at this
  have lT : Lies K w 1 bx (ox + 9) [.int .i64 x.op] := hl.part (.int .i64 x.kind :: (xa ++ xb)) _ [.int .i64 x.op] (by simp; rfl) 9 (by simp [la, lb]) (by simp)
  have lP : Lies K w 2 bx (ox + 10) ps := by
    have := hl.part (.int .i64 x.kind :: (xa ++ (xb ++ [.int .i64 x.op]))) _ ps (by simp; rfl) 10 (by simp [la, lb]) (by omega)
    rwa [lp] at this
  have lN : Lies K w 3 bx (ox + 12) [.string (str x.name), .slice an x.names.length cn, .slice aa x.args.length ca] := hl.part (.int .i64 x.kind :: (xa ++ (xb ++ (.int .i64 x.op :: ps)))) [] [.string (str x.name), .slice an x.names.length cn, .slice aa x.args.length ca] (by simp) 12 (by simp [la, lb, lp]) (by simp)
  have c0 : w.cell? ⟨bx, ox, none⟩ = some (.int .i64 x.kind) := hl.2 0 (by decide)
  have c9 : w.cell? ⟨bx, ox + 9, none⟩ = some (.int .i64 x.op) := lT.2 0 (by decide)
  have c12 : w.cell? ⟨bx, ox + 12, none⟩ = some (.string (str x.name)) := lN.2 0 (by decide)
  have c13 : w.cell? ⟨bx, ox + 13, none⟩ = some (.slice an x.names.length cn) := lN.2 1 (by decide)
  have c14 : w.cell? ⟨bx, ox + 14, none⟩ = some (.slice aa x.args.length ca) := lN.2 2 (by decide)
  clear hl lT lN
  obtain ⟨t1, t2, t3, t4⟩ := two_rows h 156 (.pointer (some ⟨b, 0, none⟩)) (.pointer (some ⟨bx, ox, none⟩))
  obtain ⟨W, hW⟩ : ∃ W, W = (w.alloc (.cells #[.pointer (some ⟨b, 0, none⟩)] 93)).alloc (.cells #[.pointer (some ⟨bx, ox, none⟩)] 156) := ⟨_, rfl⟩
  rw [← hW] at t1 t2 t3 t4
  have hbC : bx < K.C := lA.1
  have HS : Hid (∀ y, Fr K.C W y → y.cell? ⟨w.heap.size, 0, none⟩ = some (.pointer (some ⟨b, 0, none⟩)) ∧ y.cell? ⟨w.heap.size + 1, 0, none⟩ = some (.pointer (some ⟨bx, ox, none⟩)) ∧ y.cell? ⟨bx, ox, none⟩ = some (.int .i64 x.kind) ∧ y.cell? ⟨bx, ox + 9, none⟩ = some (.int .i64 x.op) ∧ y.cell? ⟨bx, ox + 12, none⟩ = some (.string (str x.name)) ∧ y.cell? ⟨bx, ox + 13, none⟩ = some (.slice an x.names.length cn) ∧ y.cell? ⟨bx, ox + 14, none⟩ = some (.slice aa x.args.length ca)) := by
    intro y hy
    have hk := t2.trans hy
    exact ⟨(hy.row t3 (by decide) (by decide)).cell 0, (hy.row t4 (by decide) (by decide)).cell 0, (hk.below.cell (p := ⟨bx, ox, none⟩) hbC).trans c0, (hk.below.cell (p := ⟨bx, ox + 9, none⟩) hbC).trans c9, (hk.below.cell (p := ⟨bx, ox + 12, none⟩) hbC).trans c12, (hk.below.cell (p := ⟨bx, ox + 13, none⟩) hbC).trans c13, (hk.below.cell (p := ⟨bx, ox + 14, none⟩) hbC).trans c14⟩
  have fd : Hid (∀ y, Fr K.C W y → Fr K.C W y.drew) := fun y hy => hy.trans (Fr.drew y)
  have HTb : Hid (∀ y, Fr K.C W y → Tb y) := fun y hy => tb.below (t2.trans hy).below hK
  have HW0 := hid0 t2
  have HW1 := hid0 t1
  have hWs : W.heap.size = w.heap.size + 1 + 1 := by rw [hW]; show ((w.heap.push _).push _).size = _; rw [Array.size_push, Array.size_push]
  have FW := Fr.refl K.C W
  have cW : ((w.alloc (.cells #[.pointer (some ⟨b, 0, none⟩)] 93)).alloc (.cells #[.pointer (some ⟨bx, ox, none⟩)] 156)).cell? ⟨bx, ox, none⟩ = some (.int .i64 x.kind) := by rw [← hW]; exact (HS.out _ FW).2.2.1
  have i2 : x.names.length ≤ 9223372036854775807 := by omega
  have i3 : x.args.length ≤ 9223372036854775807 := by omega
  have OA : Hid (∀ T y, Fr K.C W y → Wtr K.C b T n y → MayOpr x.a → T.length + (operT Lib.itoa x.a).length ≤ 140737488355328 → Calls Tryz.prog 147 #[.pointer (some ⟨b, 0, none⟩), .pointer (some ⟨bx, ox + 1, none⟩)] y.drew fun e w' => e = .returned (.tuple #[]) ∧ Wtr K.C b (T ++ operT Lib.itoa x.a) n w' ∧ Fr K.C W w') := by
    intro T y hy hw hm hl
    have hk := t2.trans (fd.out y hy)
    refine (oper_any (HTb.out _ (fd.out y hy)) hm (ha.below hk.below) (lA.below hk.below) hw.drew hl).mono ?_
    rintro _ _ ⟨rfl, p1, p2⟩
    exact ⟨rfl, p1, (fd.out y hy).trans p2⟩
  have OB : Hid (∀ T y, Fr K.C W y → Wtr K.C b T n y → MayOpr x.b → T.length + (operT Lib.itoa x.b).length ≤ 140737488355328 → Calls Tryz.prog 147 #[.pointer (some ⟨b, 0, none⟩), .pointer (some ⟨bx, ox + 5, none⟩)] y.drew fun e w' => e = .returned (.tuple #[]) ∧ Wtr K.C b (T ++ operT Lib.itoa x.b) n w' ∧ Fr K.C W w') := by
    intro T y hy hw hm hl
    have hk := t2.trans (fd.out y hy)
    refine (oper_any (HTb.out _ (fd.out y hy)) hm (hb.below hk.below) (lB.below hk.below) hw.drew hl).mono ?_
    rintro _ _ ⟨rfl, p1, p2⟩
    exact ⟨rfl, p1, (fd.out y hy).trans p2⟩
  have OP : Hid (∀ T y, Fr K.C W y → Wtr K.C b T n y → T.length + (placeT x.place).length ≤ 140737488355328 → Calls Tryz.prog 129 #[.pointer (some ⟨b, 0, none⟩), .pointer (some ⟨bx, ox + 10, none⟩)] y.drew fun e w' => e = .returned (.tuple #[]) ∧ Wtr K.C b (T ++ placeT x.place) n w' ∧ Fr K.C W w') := by
    intro T y hy hw hl
    have hk := t2.trans (fd.out y hy)
    refine (place_any (hp.below hk.below) (lP.below hk.below) hw.drew hl).mono ?_
    rintro _ _ ⟨rfl, p1, p2⟩
    exact ⟨rfl, p1, (fd.out y hy).trans p2⟩
  have P1 : Hid (∀ T z y, Wtr K.C b T n y → T.length + List.length z ≤ 140737488355328 → Calls Tryz.prog 47 #[.pointer (some ⟨b, 0, none⟩), .slice (some ⟨y.heap.size, 0, none⟩) 1 1] (y.alloc (.cells #[.string (str z)] 9)) fun e w' => e = .returned (.tuple #[]) ∧ Wtr K.C b (T ++ z) n w' ∧ Fr K.C y w') := fun T z y hw hl => put1 hw z hl
  unfold valT at hlen ⊢
  have b2 : (x.kind == 2) = false := by rw [h1]; rfl
  have b3 : (x.kind == 3) = false := by rw [h1]; rfl
  have b4 : (x.kind == 4) = false := by rw [h1]; rfl
  have b1 : (x.kind == 1) = true := by rw [h1]; rfl
  rw [if_pos h1] at hlen ⊢
  try simp only [List.length_append, List.length_cons, List.length_nil] at hlen
  have D1 : Hid (∀ y, Fr K.C W y → Wtr K.C b S n y → Calls Tryz.prog 147 #[.pointer (some ⟨b, 0, none⟩), .pointer (some ⟨bx, ox + 1, none⟩)] y.drew fun e w' => e = .returned (.tuple #[]) ∧ Wtr K.C b (S ++ operT Lib.itoa x.a) n w' ∧ Fr K.C W w') := fun y hy hw => OA.out S y hy hw h2 (by omega)
  clear h1 h2 OA OB OP P1
  clear hWs t1 t2 t3 t4 h hlen lA lB lP ha hb hp hns has c0 c9 c12 c13 c14 tb
  generalize operT Lib.itoa x.a = TA at *
  generalize x.kind = kd at *
  generalize x.op = op at *
  generalize str x.name = X at *
  generalize x.names.length = k1 at *
  generalize x.args.length = k2 at *
  go_enter Tryz.func130, Tryz.ntmps130
  go_wp2_with fail
  rw [← hW]
  clear hW
  have q0 := FW
  have p0 := HW1.out
  clear HW1 FW
  obtain ⟨e0, e1, e2, e3, e4, e5, e6⟩ := HS.out _ q0
  have f0 := fd.out _ q0
  go_wp2_with fail
  go_region_held3 (fun z => z.cell? ⟨w.heap.size, 0, none⟩ = some (.pointer (some ⟨b, 0, none⟩)) ∧ z.cell? ⟨w.heap.size + 1, 0, none⟩ = some (.pointer (some ⟨bx, ox, none⟩)) ∧ z.cell? ⟨bx, ox, none⟩ = some (.int .i64 kd) ∧ z.cell? ⟨bx, ox + 9, none⟩ = some (.int .i64 op) ∧ z.cell? ⟨bx, ox + 12, none⟩ = some (.string (X)) ∧ z.cell? ⟨bx, ox + 13, none⟩ = some (.slice an k1 cn) ∧ z.cell? ⟨bx, ox + 14, none⟩ = some (.slice aa k2 ca)) (exact HS.out _ (by assumption)) (first | (go_at_call 147; refine (D1.out _ q0 p0).mono ?_; rintro _ w1 ⟨rfl, p1, q1⟩))
  go_wp2_with fail
  go_end0
  exact ⟨rfl, by simpa [List.append_assoc] using p1, HW0.out.trans q1⟩
end Go.Proofs.YtlbhaaldndjigaaGreatDoor
