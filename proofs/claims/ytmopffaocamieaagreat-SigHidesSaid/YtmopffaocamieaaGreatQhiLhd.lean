/-
  SigHides: what is not pub, and bodies, are not seen in a sig.
-/
import Derived.Test.YtmopffaocamieaaGreatJhiStl2
import Derived.Test.YtmopffaocamieaaGreatJhiSsm2
import Derived.Test.YtmopffaocamieaaGreatJhiXdp2
import Derived.Test.YtmopffaocamieaaGreatQhiLhm
namespace Go.Proofs.YtmopffaocamieaaGreat
open Go.RowKit

set_option maxHeartbeats 8000000 in
set_option maxRecDepth 20000 in
theorem hides_walk {n : Nat} {K : Ctx} {w : World} (hC : K.C ≤ w.heap.size) {c d : Crt} {cs ds : List Value} (hx : CrtAt n K w cs c) (hy : CrtAt n K w ds d) :
    Calls Tryz.prog 6 #[.agg cs.toArray, .agg ds.toArray] w fun ev w' => ev = .returned (.bool true) ∧ Below w.heap.size w w' := by
  have HX0 := hidS hx
  have HY0 := hidS hy
  obtain ⟨v0, v1, rfl, h0, h1⟩ := hx
  obtain ⟨z0, z1, rfl, k0, k1⟩ := hy
  obtain ⟨a0, c0, rfl, _, gb0, A0⟩ := h0.shape
  obtain ⟨a1, c1, rfl, _, gb1, A1⟩ := h1.shape
  obtain ⟨b0, e0, rfl, _, hb0, B0⟩ := k0.shape
  obtain ⟨b1, e1, rfl, _, hb1, B1⟩ := k1.shape
  obtain ⟨W0, hW0⟩ : ∃ W0, W0 = (w.alloc (.cells #[.slice a0 c.structs.length c0, .slice a1 c.funcs.length c1] 25)).alloc (.cells #[.slice b0 d.structs.length e0, .slice b1 d.funcs.length e1] 25) := ⟨_, rfl⟩
  have hBW : Below w.heap.size w W0 := by rw [hW0]; exact alloc_two w _ _
  have hsz : W0.heap.size = w.heap.size + 2 := by rw [hW0, size_alloc, size_alloc]
  have R2 : Row W0 w.heap.size 25 [.slice a0 c.structs.length c0, .slice a1 c.funcs.length c1] := by rw [hW0]; exact (Row.new w 25 [.slice a0 c.structs.length c0, .slice a1 c.funcs.length c1]).alloc _
  have R3 : Row W0 (w.heap.size + 1) 25 [.slice b0 d.structs.length e0, .slice b1 d.funcs.length e1] := by
    have := Row.new (w.alloc (.cells #[.slice a0 c.structs.length c0, .slice a1 c.funcs.length c1] 25)) 25 [.slice b0 d.structs.length e0, .slice b1 d.funcs.length e1]
    rw [size_alloc] at this; rw [hW0]; exact this
  have hK := below_le hBW hC
  have HX : Hid (∀ y, Below K.C w y → CrtAt n K y [.slice a0 c.structs.length c0, .slice a1 c.funcs.length c1] c ∧ CrtAt n K y [.slice b0 d.structs.length e0, .slice b1 d.funcs.length e1] d) := fun y hb => ⟨CrtAt.below ⟨_, _, rfl, h0, h1⟩ hb, CrtAt.below ⟨_, _, rfl, k0, k1⟩ hb⟩
  have G1 : Hid (∀ B, (B = true ↔ GrtC n c) → Calls Tryz.prog 8 #[.agg #[.slice a0 c.structs.length c0, .slice a1 c.funcs.length c1]] W0 fun ev w' => ev = .returned (.bool B) ∧ Below W0.heap.size W0 w') := fun B hB => great_any (Nat.le_trans hC hBW.size) (HX.out W0 hK).1 B hB
  have G2 : Hid (∀ w1, Below W0.heap.size W0 w1 → ∀ B, (B = true ↔ GrtC n d) → Calls Tryz.prog 8 #[.agg #[.slice b0 d.structs.length e0, .slice b1 d.funcs.length e1]] w1 fun ev w' => ev = .returned (.bool B) ∧ Below W0.heap.size W0 w') := fun w1 h1 B hB =>
    (great_any (Nat.le_trans hC (Nat.le_trans hBW.size h1.size)) (HX.out w1 (hK.trans (h1.mono (Nat.le_trans hC hBW.size)))).2 B hB).mono fun _ _ q => ⟨q.1, h1.trans (q.2.mono h1.size)⟩
  have T : Hid (∀ w1, Below W0.heap.size W0 w1 → Calls Tryz.prog 9 #[] w1 fun ev w' => ev = .returned (.bool true) ∧ Below w.heap.size w w') := fun w1 h1 =>
    (told_any w1).mono fun _ _ q => ⟨q.1, hBW.trans (((h1.trans (q.2.mono h1.size))).mono hBW.size)⟩
  have HR : Hid (∀ w1, Below W0.heap.size W0 w1 → w1.cell? ⟨w.heap.size + 1, 0, none⟩ = some (.slice b0 d.structs.length e0) ∧ w1.cell? ⟨w.heap.size + 1, 1, none⟩ = some (.slice b1 d.funcs.length e1)) := fun w1 h1 => ⟨(R3.below h1 R3.lt).cell 0, (R3.below h1 R3.lt).cell 1⟩
  by_cases gc : GrtC n c
  · clear HX0 HY0
    have U := hidS (G1.out true ⟨fun _ => gc, fun _ => rfl⟩)
    subst hW0
    clear G1 G2 HR HX A0 A1 B0 B1 h0 h1 k0 k1 R2 R3 gc hK hBW hC
    generalize c.structs.length = l1 at *
    generalize c.funcs.length = l2 at *
    generalize d.structs.length = l3 at *
    generalize d.funcs.length = l4 at *
    go_enter Tryz.func6, Tryz.ntmps6
    go_wp2_with fail
    refine U.out.mono ?_
    rintro _ w1 ⟨rfl, hb⟩
    have D := hidS (T.out w1 hb)
    clear T U hb
    go_wp2_with fail
    refine D.out.mono ?_
    rintro _ w2 ⟨rfl, hb⟩
    go_wp2_with fail
    go_ret
    exact ⟨rfl, hb⟩
  by_cases gd : GrtC n d
  · clear HX0 HY0
    have U := hidS (G1.out false ⟨fun h => (by cases h), fun h => absurd h gc⟩)
    have V : Hid (∀ w1, Below W0.heap.size W0 w1 → _) := fun w1 h1 => G2.out w1 h1 true ⟨fun _ => gd, fun _ => rfl⟩
    subst hW0
    clear G1 G2 HX A0 A1 B0 B1 h0 h1 k0 k1 R2 R3 gc gd hK hBW hC
    generalize c.structs.length = l1 at *
    generalize c.funcs.length = l2 at *
    generalize d.structs.length = l3 at *
    generalize d.funcs.length = l4 at *
    go_enter Tryz.func6, Tryz.ntmps6
    go_wp2_with fail
    refine U.out.mono ?_
    rintro _ w1 ⟨rfl, hb⟩
    have D := hidS (V.out w1 hb)
    obtain ⟨x1, x2⟩ := HR.out w1 hb
    clear V U hb HR
    go_wp2_with fail
    refine D.out.mono ?_
    rintro _ w2 ⟨rfl, hb⟩
    have D2 := hidS (T.out w2 hb)
    clear D T hb x1 x2
    go_wp2_with fail
    refine D2.out.mono ?_
    rintro _ w3 ⟨rfl, hb⟩
    go_wp2_with fail
    go_ret
    exact ⟨rfl, hb⟩
  exact hides_main hC HX0.out HY0.out gc gd
end Go.Proofs.YtmopffaocamieaaGreat
