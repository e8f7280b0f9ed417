/-
  The law PrintHeads.
-/
import Derived.Test.YtlbhaaldndjigaaGreatDoorJTo92
import Derived.Test.YtlbhaaldndjigaaGreatDoorRhd
namespace Go.Proofs.YtlbhaaldndjigaaGreatDoor
open Go.RowKit

set_option maxHeartbeats 16000000 in
set_option maxRecDepth 20000 in
theorem heads_walk {K : Ctx} {w : World} (hC : K.C ≤ w.heap.size) (hm : ∃ m, w.cell? ⟨0, 0, none⟩ = some (.int .i64 m)) (tb : Tb w) (h1 : 1 < w.heap.size) {mt n : Nat} {ts fs : List Value} {t : Ty} {f : Fnc} (ht : TyAt mt K w ts t) (hf : FncAt n K w fs f)
    (lt : (tyT t).length ≤ 140737488355328) (lf : f.lives.length ≤ 70 → f.params.length ≤ 70 → (headT f).length ≤ 140737488355328) :
    Calls Tryz.prog 4 #[.agg ts.toArray, .agg fs.toArray] w fun ev w' => ev = .returned (.bool true) ∧ Below w.heap.size w w' := by
  obtain ⟨W, hW⟩ : ∃ W, W = (w.alloc (.cells ts.toArray 38)).alloc (.cells fs.toArray 43) := ⟨_, rfl⟩
  have hA : Below w.heap.size w W := by rw [hW]; exact alloc_two w _ _
  have hs1 : (w.alloc (.cells ts.toArray 38)).heap.size = w.heap.size + 1 := size_alloc _ _
  have hsz : W.heap.size = w.heap.size + 2 := by rw [hW, size_alloc, size_alloc]
  have R1 : Row W w.heap.size 38 ts := by rw [hW]; exact (Row.new w 38 ts).alloc _
  have R2 : Row W (w.heap.size + 1) 43 fs := by have := Row.new (w.alloc (.cells ts.toArray 38)) 43 fs; rw [hs1] at this; rw [hW]; exact this
  have HBW : Hid (∀ y, Below (w.heap.size + 2) W y → Below w.heap.size w y) := fun y hy => hA.trans (below_le hy (by omega))
  have HZ : ∀ y, Below (w.heap.size + 2) W y → w.heap.size + 2 ≤ y.heap.size := fun y hy => by have := hy.size; omega
  have DT : Hid (∀ y, Below (w.heap.size + 2) W y → Calls Tryz.prog 7 #[] y fun ev w' => ev = .returned (.bool true) ∧ Below (w.heap.size + 2) W w') := by
    intro y hy
    have hb := HBW.out y hy
    obtain ⟨m, hm⟩ := hm
    refine (told9_any ⟨m, (hb.cell (p := ⟨0, 0, none⟩) (show 0 < w.heap.size by omega)).trans hm⟩ (tb.below hb h1) (by have := hb.size; omega)).mono ?_
    rintro _ _ ⟨rfl, h⟩
    exact ⟨rfl, hy.trans (below_le h (HZ y hy))⟩
  have D11 : Hid (∀ y, Below (w.heap.size + 2) W y → Calls Tryz.prog 11 #[.agg ts.toArray] y fun ev w' => ev = .returned (.string (str (tyT t))) ∧ Below (w.heap.size + 2) W w') := by
    intro y hy
    have hb := HBW.out y hy
    refine (typeP_any (Nat.le_trans hC hb.size) (ht.below (below_le hb hC)) lt).mono ?_
    rintro _ _ ⟨rfl, h⟩
    exact ⟨rfl, hy.trans (below_le h (HZ y hy))⟩
  have D12 : Hid (∀ y, Below (w.heap.size + 2) W y → Calls Tryz.prog 12 #[.agg ts.toArray] y fun ev w' => ev = .returned (.string (str (tyT t))) ∧ Below (w.heap.size + 2) W w') := by
    intro y hy
    have hb := HBW.out y hy
    refine (xtype_any mt (Nat.le_trans hC hb.size) (ht.below (below_le hb hC)) lt).mono ?_
    rintro _ _ ⟨rfl, h⟩
    exact ⟨rfl, hy.trans (below_le h (HZ y hy))⟩
  have D13 : Hid (f.lives.length ≤ 70 → f.params.length ≤ 70 → ∀ y, Below (w.heap.size + 2) W y → Calls Tryz.prog 13 #[.agg fs.toArray] y fun ev w' => ev = .returned (.string (str (headT f))) ∧ Below (w.heap.size + 2) W w') := by
    intro e1 e2 y hy
    have hb := HBW.out y hy
    refine (headP_any (Nat.le_trans hC hb.size) (hf.below (below_le hb hC)) (lf e1 e2)).mono ?_
    rintro _ _ ⟨rfl, h⟩
    exact ⟨rfl, hy.trans (below_le h (HZ y hy))⟩
  have D14 : Hid (f.lives.length ≤ 70 → f.params.length ≤ 70 → ∀ y, Below (w.heap.size + 2) W y → Calls Tryz.prog 14 #[.agg fs.toArray] y fun ev w' => ev = .returned (.string (str (headT f))) ∧ Below (w.heap.size + 2) W w') := by
    intro e1 e2 y hy
    have hb := HBW.out y hy
    refine (xhead_any (Nat.le_trans hC hb.size) (hf.below (below_le hb hC)) (lf e1 e2)).mono ?_
    rintro _ _ ⟨rfl, h⟩
    exact ⟨rfl, hy.trans (below_le h (HZ y hy))⟩
  obtain ⟨b2, q2, d2, b3, q3, d3, rfl⟩ := IsTy.open ⟨mt, ht⟩
  obtain ⟨v2, v3, rs, v8, rfl, -, h2, h3, hr, h8⟩ := hf
  obtain ⟨a2, n2, rfl, hc2, hb2, -⟩ := h2.shape
  obtain ⟨a3, n3, rfl, hc3, hb3, -⟩ := h3.shape
  obtain ⟨a8, n8, rfl⟩ := h8.form
  obtain ⟨r2, k2, m2, r3, k3, m3, rfl⟩ := hr.open
  have i8 : f.lives.length ≤ 9223372036854775807 := by omega
  have i9 : f.params.length ≤ 9223372036854775807 := by omega
  have y0 : Below (w.heap.size + 2) W W := Below.refl _ _
  have y1 : Below (w.heap.size + 2) W W.drew := ⟨rfl, rfl, rfl, Nat.le_refl _, fun _ _ => rfl⟩
  clear ht lt lf hr h8 tb hm h1 hC hA hs1 hsz HZ h2 h3
  generalize str (tyT t) = YT at *
  generalize str (headT f) = YH at *
  generalize t.kind = kt at *
  generalize str t.name = XT at *
  generalize f.pub = pb at *
  generalize str f.name = XN at *
  generalize f.lives.length = L2 at *
  generalize f.params.length = L3 at *
  generalize f.result.kind = kd at *
  generalize str f.result.name = XR at *
  generalize f.body.length = L8 at *
  generalize f.pos = ps0 at *
  have HS : Hid (∀ z, Below (w.heap.size + 2) W z → z.cell? ⟨w.heap.size, 0, none⟩ = some (.int .i64 kt) ∧ z.cell? ⟨w.heap.size, 1, none⟩ = some (.string XT) ∧ z.cell? ⟨w.heap.size, 2, none⟩ = some (.slice b2 q2 d2) ∧ z.cell? ⟨w.heap.size, 3, none⟩ = some (.slice b3 q3 d3) ∧ z.cell? ⟨w.heap.size + 1, 0, none⟩ = some (.bool pb) ∧ z.cell? ⟨w.heap.size + 1, 1, none⟩ = some (.string XN) ∧ z.cell? ⟨w.heap.size + 1, 2, none⟩ = some (.slice a2 L2 n2) ∧ z.cell? ⟨w.heap.size + 1, 3, none⟩ = some (.slice a3 L3 n3) ∧ z.cell? ⟨w.heap.size + 1, 4, none⟩ = some (.int .i64 kd) ∧ z.cell? ⟨w.heap.size + 1, 5, none⟩ = some (.string XR) ∧ z.cell? ⟨w.heap.size + 1, 6, none⟩ = some (.slice r2 k2 m2) ∧ z.cell? ⟨w.heap.size + 1, 7, none⟩ = some (.slice r3 k3 m3) ∧ z.cell? ⟨w.heap.size + 1, 8, none⟩ = some (.slice a8 L8 n8) ∧ z.cell? ⟨w.heap.size + 1, 9, none⟩ = some (.int .i64 ps0)) := by
    intro z hz
    have r := R1.below hz (show w.heap.size < w.heap.size + 2 by omega)
    have s := R2.below hz (show w.heap.size + 1 < w.heap.size + 2 by omega)
    exact ⟨r.cell 0, r.cell 1, r.cell 2, r.cell 3, s.cell 0, s.cell 1, s.cell 2, s.cell 3, s.cell 4, s.cell 5, s.cell 6, s.cell 7, s.cell 8, s.cell 9⟩
  clear R1 R2
  simp only [List.cons_append, List.nil_append] at hW D13 D14
  by_cases g1 : 70 < L2
  · have j1 : (70 : Int) < (L2 : Int) := by omega
    go_enter Tryz.func4, Tryz.ntmps4
    go_wp2_with fail
    rw [← hW]
    refine (DT.out _ y0).mono ?_
    rintro ev w1 ⟨rfl, q1⟩
    go_wp2_with fail
    go_ret
    exact ⟨rfl, HBW.out _ q1⟩
  have j1 : ¬ (70 : Int) < (L2 : Int) := by omega
  by_cases g2 : 70 < L3
  · have j2 : (70 : Int) < (L3 : Int) := by omega
    go_enter Tryz.func4, Tryz.ntmps4
    go_wp2_with fail
    rw [← hW]
    refine (DT.out _ y0).mono ?_
    rintro ev w1 ⟨rfl, q1⟩
    go_wp2_with fail
    go_ret
    exact ⟨rfl, HBW.out _ q1⟩
  have j2 : ¬ (70 : Int) < (L3 : Int) := by omega
  have D13 := hid0 (D13.out (by omega) (by omega))
  have D14 := hid0 (D14.out (by omega) (by omega))
  go_enter Tryz.func4, Tryz.ntmps4
  go_wp2_with fail
  rw [← hW]
  clear hW
  go_region_held3 (fun z => z.cell? ⟨w.heap.size, 0, none⟩ = some (.int .i64 kt) ∧ z.cell? ⟨w.heap.size, 1, none⟩ = some (.string XT) ∧ z.cell? ⟨w.heap.size, 2, none⟩ = some (.slice b2 q2 d2) ∧ z.cell? ⟨w.heap.size, 3, none⟩ = some (.slice b3 q3 d3) ∧ z.cell? ⟨w.heap.size + 1, 0, none⟩ = some (.bool pb) ∧ z.cell? ⟨w.heap.size + 1, 1, none⟩ = some (.string XN) ∧ z.cell? ⟨w.heap.size + 1, 2, none⟩ = some (.slice a2 L2 n2) ∧ z.cell? ⟨w.heap.size + 1, 3, none⟩ = some (.slice a3 L3 n3) ∧ z.cell? ⟨w.heap.size + 1, 4, none⟩ = some (.int .i64 kd) ∧ z.cell? ⟨w.heap.size + 1, 5, none⟩ = some (.string XR) ∧ z.cell? ⟨w.heap.size + 1, 6, none⟩ = some (.slice r2 k2 m2) ∧ z.cell? ⟨w.heap.size + 1, 7, none⟩ = some (.slice r3 k3 m3) ∧ z.cell? ⟨w.heap.size + 1, 8, none⟩ = some (.slice a8 L8 n8) ∧ z.cell? ⟨w.heap.size + 1, 9, none⟩ = some (.int .i64 ps0)) (exact HS.out _ (by assumption)) (first | (go_at_call 7; refine (DT.out _ (by assumption)).mono ?_; rintro _ w1 ⟨rfl, q1⟩) | (go_at_call 11; refine (D11.out _ (by assumption)).mono ?_; rintro _ w2 ⟨rfl, q2⟩) | (go_at_call 12; refine (D12.out _ (by assumption)).mono ?_; rintro _ w3 ⟨rfl, q3⟩) | (go_at_call 13; refine (D13.out _ (by assumption)).mono ?_; rintro _ w4 ⟨rfl, q4⟩) | (go_at_call 14; refine (D14.out _ (by assumption)).mono ?_; rintro _ w5 ⟨rfl, q5⟩))
  all_goals
    go_wp2_with fail
    go_ret
    exact ⟨rfl, HBW.out _ (by assumption)⟩
end Go.Proofs.YtlbhaaldndjigaaGreatDoor
