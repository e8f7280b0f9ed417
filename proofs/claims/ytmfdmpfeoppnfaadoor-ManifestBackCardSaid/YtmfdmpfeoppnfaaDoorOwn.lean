/-
  A crate's texts copied: what lies there stays.
-/
import Derived.Test.YtmfdmpfeoppnfaaDoorEch
namespace Go.Proofs.YtmfdmpfeoppnfaaDoor
open Go.RowKit

theorem setCell_id {w : World} {g j : Nat} {v : Value} {cs : Array Value} {t : Nat} (hg : w.heap[g]? = some (.cells cs t (0, 0))) (hv : w.cell? ⟨g, j, none⟩ = some v) : w.setCell ⟨g, j, none⟩ v = w := by
  refine setCell_same rfl (fun c e f h => ?_)
  have h' := hg.symm.trans h
  simp only [Option.some.injEq, Obj.cells.injEq] at h'
  rw [← h'.1, ← cell_of_row w g j cs t (0, 0) hg]
  exact hv
set_option maxHeartbeats 4000000 in
theorem own_any (w : World) (g o : Nat) (cs : Array Value) (hg : w.heap[g]? = some (.cells cs 43 (0, 0))) (n t : Bs) (dv : Value) (ds : List Bs) (h0 : w.cell? ⟨g, o, none⟩ = some (.string (str n))) (h1 : w.cell? ⟨g, o + 1, none⟩ = some dv) (h2 : w.cell? ⟨g, o + 2, none⟩ = some (.string (str t))) (hd : S9 w dv ds)
    (hn : n.length ≤ 140737488355328) (ht : t.length ≤ 140737488355328) (hds : ∀ x ∈ ds, x.length ≤ 140737488355328) :
    Calls Tryd.prog 32 #[.pointer (some ⟨g, o, none⟩)] w fun ev w' => ev = .returned (.tuple #[]) ∧ Below w.heap.size w w' := by
  have HY : Hid (∀ y, Below w.heap.size w y → y.cell? ⟨g, o, none⟩ = some (.string (str n)) ∧ y.cell? ⟨g, o + 1, none⟩ = some dv ∧ y.cell? ⟨g, o + 2, none⟩ = some (.string (str t)) ∧ S9 y dv ds ∧ y.frozen? ⟨g, o, none⟩ = false ∧ y.frozen? ⟨g, o + 2, none⟩ = false ∧ y.setCell ⟨g, o, none⟩ (.string (str n)) = y ∧ y.setCell ⟨g, o + 2, none⟩ (.string (str t)) = y) := by
    intro y hy
    have hlt : g < w.heap.size := World.block_lt_of_cell? w _ h0
    have hg' : y.heap[g]? = some (.cells cs 43 (0, 0)) := by rw [hy.block g hlt]; exact hg
    refine ⟨Below.cellOf hy h0, Below.cellOf hy h1, Below.cellOf hy h2, hd.below hy, by simp [World.frozen?, hg'], by simp [World.frozen?, hg'], setCell_id hg' (Below.cellOf hy h0), setCell_id hg' (Below.cellOf hy h2)⟩
  have CN := hid0 (clone_any n hn)
  have CT := hid0 (clone_any t ht)
  obtain ⟨dao, rfl⟩ := hd.slice
  have HD : Hid (∀ y, Below w.heap.size w y → ∀ k, k < ds.length → ∃ b, dao = some ⟨b, 0, none⟩ ∧ y.cell? ⟨b, k, none⟩ = some (.string (str (ds.getD k []))) ∧ y.frozen? ⟨b, k, none⟩ = false ∧ y.setCell ⟨b, k, none⟩ (.string (str (ds.getD k []))) = y) := by
    intro y hy k hk
    rcases (hd.below hy).shape with ⟨_, e⟩ | ⟨b, e, hr⟩
    · subst e; simp at hk
    · cases e
      have hc : y.cell? ⟨b, k, none⟩ = some (.string (str (ds.getD k []))) := by
        rw [hr.cell k]; simp [List.getD, List.getElem?_eq_getElem hk]
      exact ⟨b, rfl, hc, hr.fz k, setCell_id hr.heap hc⟩
  have CD := hid0 (fun k (hk : k < ds.length) => clone_any (ds.getD k []) (by rw [getD_eq ds k [] hk]; exact hds _ (List.getElem_mem hk)))
  obtain ⟨c0, c1, c2, -, f0, f2, -, -⟩ := HY.out w (Below.refl _ _)
  have hdl := hd.len
  clear h0 h1 h2 hd hg hn ht hds
  generalize str n = SN at *
  generalize str t = ST at *
  go_enter Tryd.func32, Tryd.ntmps32
  go_wp2_with fail
  refine (CN.out _).mono ?_
  rintro ev w1 ⟨rfl, hb1⟩
  obtain ⟨d0, d1, d2, -, g0, g2, e0, e2⟩ := HY.out w1 hb1
  clear c0 c1 c2 f0 f2
  have A1 := aside0 hb1
  clear hb1
  go_wp2_with fail
  refine (CT.out _).mono ?_
  rintro ev w2 ⟨rfl, hb2⟩
  have hb2' := nextB A1.out hb2
  obtain ⟨d0, d1, d2, -, g0, g2, e0, e2⟩ := HY.out w2 hb2'
  have A2 := aside0 hb2'
  clear hb2 hb2' CT CN
  go_wp2_with fail
  clear d0 d1 d2 g0 g2 e0 e2
  go_loopw [25] (fun i wr => ∃ k : Nat, k ≤ ds.length ∧ i = .int .i64 k ∧ Below w.heap.size w wr) (fun i _ => ds.length - (intOf i).toNat)
  case atStart => exact ⟨0, by omega, rfl, A2.out⟩
  case round =>
    obtain ⟨k, hk, rfl, hb⟩ := hrel
    have HB := aside0 hb
    clear hb
    by_cases h3 : k < ds.length
    · have l1 : (k : Int) < (ds.length : Int) := by omega
      obtain ⟨b, rfl, q0, q1, q2⟩ := HD.out wr HB.out k h3
      obtain ⟨-, d1, -, -, -, -, -, -⟩ := HY.out wr HB.out
      have CK : Hid (∀ y, (Below w.heap.size w y ∧ y.cell? ⟨g, o + 1, none⟩ = some (.slice (some ⟨b, 0, none⟩) ds.length ds.length) ∧ y.cell? ⟨b, k, none⟩ = some (.string (str (ds.getD k []))) ∧ y.frozen? ⟨b, k, none⟩ = false ∧ y.setCell ⟨b, k, none⟩ (.string (str (ds.getD k []))) = y) → Calls Tryd.prog 47 #[.string (str (ds.getD k []))] y fun ev y' => ev = .returned (.string (str (ds.getD k []))) ∧ (Below w.heap.size w y' ∧ y'.cell? ⟨g, o + 1, none⟩ = some (.slice (some ⟨b, 0, none⟩) ds.length ds.length) ∧ y'.cell? ⟨b, k, none⟩ = some (.string (str (ds.getD k []))) ∧ y'.frozen? ⟨b, k, none⟩ = false ∧ y'.setCell ⟨b, k, none⟩ (.string (str (ds.getD k []))) = y')) := by
        rintro y ⟨hy, -⟩
        refine (CD.out k h3 y).mono ?_
        rintro ev y' ⟨rfl, hy'⟩
        have h2 := nextB hy hy'
        obtain ⟨b', e, p0, p1, p2⟩ := HD.out y' h2 k h3
        cases e
        exact ⟨rfl, h2, (HY.out y' h2).2.1, p0, p1, p2⟩
      have HW : Hid (Below w.heap.size w wr.drew ∧ wr.drew.cell? ⟨g, o + 1, none⟩ = some (.slice (some ⟨b, 0, none⟩) ds.length ds.length) ∧ wr.drew.cell? ⟨b, k, none⟩ = some (.string (str (ds.getD k []))) ∧ wr.drew.frozen? ⟨b, k, none⟩ = false ∧ wr.drew.setCell ⟨b, k, none⟩ (.string (str (ds.getD k []))) = wr.drew) := by
        have h2 := HB.out.drew
        obtain ⟨b', e, p0, p1, p2⟩ := HD.out _ h2 k h3
        cases e
        exact ⟨h2, (HY.out _ h2).2.1, p0, p1, p2⟩
      clear HD HY CD
      generalize str (ds.getD k []) = SK at *
      go_wp2_with fail
      go_region_held3 (fun y => Below w.heap.size w y ∧ y.cell? ⟨g, o + 1, none⟩ = some (.slice (some ⟨b, 0, none⟩) ds.length ds.length) ∧ y.cell? ⟨b, k, none⟩ = some (.string SK) ∧ y.frozen? ⟨b, k, none⟩ = false ∧ y.setCell ⟨b, k, none⟩ (.string SK) = y) (first | assumption | exact HW.out | go_keep) (first | (go_at_call 47; refine (CK.out _ (by assumption)).mono ?_; rintro ev y2 ⟨rfl, hS2⟩))
      go_wp2_with fail
      go_roundw
      case rel => exact ⟨k + 1, by omega, by go_num, hS2.1⟩
      case measure => simp [intOf]; omega
    · have l1 : ¬ (k : Int) < (ds.length : Int) := by omega
      go_wp2_with fail
      go_end0
      exact ⟨rfl, HB.out⟩
end Go.Proofs.YtmfdmpfeoppnfaaDoor
