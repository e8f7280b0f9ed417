/-
  All the blocks: mixAll.
-/
import Derived.Test.YtfkibbpekngciaaQPrSch
import Derived.Test.YtfkibbpekngciaaQPrMix
import Derived.Deep.RegionWith
namespace Go.Proofs.Ytfkibbpekngciaa
open Go.RowKit

def mixes (s : St) (l : List UInt8) : Nat → St
  | 0 => s
  | n + 1 => mixed (mixes s l n) (sched (l.drop (64 * n)))

/-- The letters as one value. -/
def St.val (s : St) : Value := .agg #[.int .u32 s.a, .int .u32 s.b, .int .u32 s.c, .int .u32 s.d, .int .u32 s.e, .int .u32 s.f, .int .u32 s.g, .int .u32 s.h]
theorem St.val_eq (s : St) : s.val = .agg (u32s s.list).toArray := rfl

/-- A block that holds the letters. -/
structure Ltr (w : World) (g : Nat) (s : St) : Prop where
  row : Row w g 71 (u32s s.list)
def stored (w : World) (g : Nat) (s : St) : World :=
  (((((((w.setCell ⟨g, 0, none⟩ (.int .u32 s.a)).setCell ⟨g, 1, none⟩ (.int .u32 s.b)).setCell ⟨g, 2, none⟩ (.int .u32 s.c)).setCell ⟨g, 3, none⟩ (.int .u32 s.d)).setCell ⟨g, 4, none⟩ (.int .u32 s.e)).setCell ⟨g, 5, none⟩ (.int .u32 s.f)).setCell ⟨g, 6, none⟩ (.int .u32 s.g)).setCell ⟨g, 7, none⟩ (.int .u32 s.h)
theorem stored_row {w : World} {g : Nat} {s : St} (r : St) (h : Row w g 71 (u32s s.list)) : Row (stored w g r) g 71 (u32s r.list) :=
  ((((((((h.set 0 _).set 1 _).set 2 _).set 3 _).set 4 _).set 5 _).set 6 _).set 7 _)
theorem stored_other {w : World} {g g' t : Nat} {L : List Value} (r : St) (h : Row w g' t L) (hne : g' ≠ g) : Row (stored w g r) g' t L :=
  (((((((h.other hne _).other hne _).other hne _).other hne _).other hne _).other hne _).other hne _).other hne _
theorem stored_below {w w' : World} {B g : Nat} (r : St) (h : Below B w w') (hg : B ≤ g) : Below B w (stored w' g r) :=
  (((((((h.setCell (p := ⟨g, 0, none⟩) hg _).setCell (p := ⟨g, 1, none⟩) hg _).setCell (p := ⟨g, 2, none⟩) hg _).setCell (p := ⟨g, 3, none⟩) hg _).setCell (p := ⟨g, 4, none⟩) hg _).setCell (p := ⟨g, 5, none⟩) hg _).setCell (p := ⟨g, 6, none⟩) hg _).setCell (p := ⟨g, 7, none⟩) hg _

/-- Where mixAll's loop stands. -/
structure ARel (w : World) (s : St) (wr : World) : Prop where
  row : Row wr w.heap.size 71 (u32s s.list)
  res : Row wr (w.heap.size + 1) 71 z43
  below : Below w.heap.size w wr
theorem ARel.drew {w wr : World} {s : St} (h : ARel w s wr) : ARel w s wr.drew := ⟨h.row.drew, h.res.drew, h.below.drew⟩
theorem ARel.past {w wr w' : World} {s : St} (h : ARel w s wr) (hb : Below wr.heap.size wr w') : ARel w s w' :=
  ⟨h.row.below hb h.row.lt, h.res.below hb h.res.lt, h.below.trans (hb.mono (Nat.le_trans (Nat.le_of_lt h.row.lt) (Nat.le_refl _)))⟩
theorem ARel.stored {w wr : World} {s : St} (h : ARel w s wr) (r : St) : ARel w r (stored wr w.heap.size r) :=
  ⟨stored_row r h.row, stored_other r h.res (by omega), stored_below r h.below (Nat.le_refl _)⟩
/-- The eight cells. -/
theorem ARel.cells {w wr : World} {a b c d e f g h : Int} (H : ARel w ⟨a, b, c, d, e, f, g, h⟩ wr) :
    wr.cell? ⟨w.heap.size, 0, none⟩ = some (.int .u32 a) ∧ wr.cell? ⟨w.heap.size, 1, none⟩ = some (.int .u32 b) ∧ wr.cell? ⟨w.heap.size, 2, none⟩ = some (.int .u32 c) ∧ wr.cell? ⟨w.heap.size, 3, none⟩ = some (.int .u32 d) ∧
    wr.cell? ⟨w.heap.size, 4, none⟩ = some (.int .u32 e) ∧ wr.cell? ⟨w.heap.size, 5, none⟩ = some (.int .u32 f) ∧ wr.cell? ⟨w.heap.size, 6, none⟩ = some (.int .u32 g) ∧ wr.cell? ⟨w.heap.size, 7, none⟩ = some (.int .u32 h) :=
  ⟨H.row.cell 0, H.row.cell 1, H.row.cell 2, H.row.cell 3, H.row.cell 4, H.row.cell 5, H.row.cell 6, H.row.cell 7⟩

attribute [local go_sem ↓] Go.wp_at_zero Go.wp_at_succ
set_option maxHeartbeats 4000000 in
set_option maxRecDepth 20000 in
theorem mixAll_any (w : World) (s : St) (ao : Option Addr) (cap q : Nat) (l : List UInt8) (hl : l.length = 64 * q) (hq : q ≤ 1000000000000)
    (hc : 0 < q → ∃ b o, ao = some ⟨b, o, none⟩ ∧ 64 * q ≤ cap ∧ ∀ i, i < 64 * q → w.cell? ⟨b, o + i, none⟩ = some (.int .u8 ((l.getD i 0).toNat : Int))) :
    Calls Try.prog 39 #[s.val, .slice ao (64 * q) cap] w fun ev w' => ev = .returned (mixes s l q).val ∧ Below w.heap.size w w' := by
  have HI : Hid (ARel w s ((w.alloc (.cells (u32s s.list).toArray 71)).alloc (.cells z43.toArray 71))) := by
    refine ⟨(Row.new w 71 (u32s s.list)).below ((Below.refl _ _).alloc (Nat.le_refl _) _) (by simp), ?_, ((Below.refl w.heap.size w).alloc (Nat.le_refl _) _).alloc (by simp) _⟩
    have := Row.new (w.alloc (.cells (u32s s.list).toArray 71)) 71 z43
    simpa using this
  have HS : Hid (∀ y k, ARel w (mixes s l k) y → k < q → ∃ b o, ao = some ⟨b, o, none⟩ ∧ 64 * q ≤ cap ∧ Calls Try.prog 55 #[.slice (some ⟨b, o + 64 * k, none⟩) 64 (cap - 64 * k)] y fun ev y' => ev = .returned (.agg (u32s (sched (l.drop (64 * k)))).toArray) ∧ ARel w (mixes s l k) y') := by
    intro y k hA hk
    obtain ⟨b, o, rfl, hcap, hcc⟩ := hc (by omega)
    refine ⟨b, o, rfl, hcap, ?_⟩
    have hbl : b < w.heap.size := World.block_lt_of_cell? w _ (hcc 0 (by omega))
    refine (schedule_any y b (o + 64 * k) (cap - 64 * k) (l.drop (64 * k)) (by omega) ?_).mono ?_
    · intro i hi
      rw [hA.below.cell (p := ⟨b, o + 64 * k + i, none⟩) hbl, Nat.add_assoc, hcc (64 * k + i) (by omega)]
      simp [List.getD]
    · rintro ev y' ⟨rfl, hb⟩
      exact ⟨rfl, hA.past hb⟩
  have HM : Hid (∀ y k, ARel w (mixes s l k) y → Calls Try.prog 54 #[(mixes s l k).val, .agg (u32s (sched (l.drop (64 * k)))).toArray] y fun ev y' => ev = .returned (mixes s l (k + 1)).val ∧ ARel w (mixes s l k) y') := by
    intro y k hA
    refine (mix_any y (mixes s l k) (sched (l.drop (64 * k))) (sched_len _)).mono ?_
    rintro ev y' ⟨rfl, hb⟩
    exact ⟨rfl, hA.past hb⟩
  clear hc
  obtain ⟨a, b, c, d, e, f, g, h⟩ := s
  have hq' : q ≤ 1000000000000 := hq
  unfold St.val
  go_enter Try.func39, Try.ntmps39
  go_wp2_with fail
  go_loopw [5] (fun i wr => ∃ k : Nat, k ≤ q ∧ i = .int .i64 (64 * k : Nat) ∧ ARel w (mixes ⟨a, b, c, d, e, f, g, h⟩ l k) wr) (fun i _ => 64 * q - (intOf i).toNat)
  case atStart => exact ⟨0, by omega, rfl, HI.out⟩
  case round =>
    obtain ⟨k, hk, rfl, hA⟩ := hrel
    clear HI
    by_cases hk3 : k < q
    · have h27 := fun y hy => HS.out y k hy hk3
      have h26 := fun y hy => HM.out y k hy
      have HN : Hid (∀ y, ARel w (mixes ⟨a, b, c, d, e, f, g, h⟩ l k) y → ARel w (mixes ⟨a, b, c, d, e, f, g, h⟩ l (k + 1)) (stored y w.heap.size (mixes ⟨a, b, c, d, e, f, g, h⟩ l (k + 1)))) := fun y hy => hy.stored _
      obtain ⟨b1, o1, rfl, hcap, _⟩ := h27 wr hA
      have h27' : Hid (∀ y, ARel w (mixes ⟨a, b, c, d, e, f, g, h⟩ l k) y → Calls Try.prog 55 #[.slice (some ⟨b1, o1 + 64 * k, none⟩) 64 (cap - 64 * k)] y fun ev y' => ev = .returned (.agg (u32s (sched (l.drop (64 * k)))).toArray) ∧ ARel w (mixes ⟨a, b, c, d, e, f, g, h⟩ l k) y') := by
        intro y hy
        obtain ⟨b2, o2, e2, _, H⟩ := h27 y hy
        cases e2
        exact H
      clear h27 HS HM
      have HE : Hid (∀ y, ARel w (mixes ⟨a, b, c, d, e, f, g, h⟩ l (k + 1)) y → ∃ m : Nat, m ≤ q ∧ Value.int .i64 (((64 * k : Nat) : Int) + 64) = .int .i64 ((64 * m : Nat) : Int) ∧ ARel w (mixes ⟨a, b, c, d, e, f, g, h⟩ l m) y) := fun y hy => ⟨k + 1, by omega, by congr 1, hy⟩
      generalize mixes ⟨a, b, c, d, e, f, g, h⟩ l (k + 1) = r2 at *
      generalize mixes ⟨a, b, c, d, e, f, g, h⟩ l k = r1 at *
      generalize (u32s (sched (l.drop (64 * k)))).toArray = YY at *
      obtain ⟨a2, b2, c2, d2, e2, f2, g2, h2⟩ := r2
      obtain ⟨a1, b1', c1, d1, e1, f1, g1, h1⟩ := r1
      unfold St.val at h26
      have H26 : Hid _ := h26
      clear h26
      obtain ⟨p0, p1, p2, p3, p4, p5, p6, p7⟩ := hA.cells
      have hA' := hA.drew
      clear hA
      generalize hm : 64 * k = m at *
      have hs : m + 64 - m = 64 := by omega
      have i1 : (m : Int) < 64 * (q : Int) := by omega
      have i2 : IntKind.i64.wrap ((m : Int) + 64) = (m : Int) + 64 := by rw [IntKind.wrap_i64]; omega
      have i3 : (m : Int) + 64 ≤ (cap : Int) := by omega
      have i4 : ((m : Int) + 64).toNat = m + 64 := by omega
      have i5 : (m : Int) ≤ (m : Int) + 64 := by omega
      have i6 : cap ≠ m := by omega
      have i7 : (0 : Int) ≤ (m : Int) + 64 := by omega
      go_wp2_with fail
      go_region_with (first | (go_at_call 55; refine (h27'.out _ ?_).mono ?_; assumption; rintro ev w6 ⟨rfl, hA6⟩; obtain ⟨q0, q1, q2, q3, q4, q5, q6, q7⟩ := hA6.cells) | (go_at_call 54; refine (H26.out _ ?_).mono ?_; assumption; rintro ev w7 ⟨rfl, hA7⟩; obtain ⟨r0, r1, r2, r3, r4, r5, r6, r7⟩ := hA7.cells; have z0 := hA7.row.fz 0; have z1 := hA7.row.fz 1; have z2 := hA7.row.fz 2; have z3 := hA7.row.fz 3; have z4 := hA7.row.fz 4; have z5 := hA7.row.fz 5; have z6 := hA7.row.fz 6; have z7 := hA7.row.fz 7))
      all_goals
        have HW : Hid _ := HE.out _ (HN.out _ hA7)
        clear hA7 hA' HE HN H26 h27'
        go_wp2_with fail
        go_roundw
        case rel => exact HW.out
        case measure => simp [intOf]; omega
    · obtain rfl : k = q := by omega
      clear HS HM
      obtain ⟨r, hr⟩ : ∃ r, r = mixes ⟨a, b, c, d, e, f, g, h⟩ l k := ⟨_, rfl⟩
      have HR : Hid (r = mixes ⟨a, b, c, d, e, f, g, h⟩ l k) := hr
      rw [← hr] at hA
      clear hr
      have HX : Hid (Row (wr.setRow (w.heap.size + 1) (u32s r.list).toArray) (w.heap.size + 1) 71 (u32s r.list) ∧ Below w.heap.size w (wr.setRow (w.heap.size + 1) (u32s r.list).toArray)) := ⟨hA.res.setRow _, below_setRow hA.below (by omega) _⟩
      have hrow := hA.row.heap
      have hres := hA.res.heap
      have hres2 := HX.out.1.heap
      have hi : (Try.prog.info? 71).map (·.size) = some (u32s r.list).toArray.size := Try.info71
      have hz : z43.toArray.size = (u32s r.list).toArray.size := rfl
      have hone := all_one (u32s_one r.list)
      have hv : Hid (Value.agg (u32s r.list).toArray = r.val) := rfl
      generalize (u32s r.list).toArray = Y2 at *
      clear hA
      go_wp2_with (first | (refine wpList_load_row rfl 71 _ rfl w.heap.size rfl 71 Y2 (0, 0) _ hrow Try.underlying71 rfl hi ?_) | (refine wpList_store_row rfl 71 _ _ rfl (w.heap.size + 1) Y2 rfl rfl 71 z43.toArray hres hi hz hone ?_))
      refine bodyPost_ret (v := .agg Y2) (results_cell_row Try.results39 _ _ (w.heap.size + 1) 71 Y2 (0, 0) _ rfl hres2 Try.underlying71 rfl hi) rfl ⟨?_, HX.out.2⟩
      rw [hv.out, HR.out]; rfl
end Go.Proofs.Ytfkibbpekngciaa
