/-
  CasPlays: where it begins.
-/
import Derived.Test.YtjnogpcpekheoaaPla
import Derived.Test.YtjnogpcpekheoaaOpp
import Derived.Test.YtjnogpcpekheoaaKps
namespace Go.Proofs.Ytjnogpcpekheoaa
open Go.RowKit Go.Maps

def box32 (room : Nat) : Array Value := #[.int .i64 (room : Int), .slice none 0 0, .slice none 0 0]
theorem play_new (w : World) (room : Nat) (h1 : 1 ≤ room) (h2 : room ≤ 16) : Calls Try.prog 8 #[.int .i64 (room : Int)] w fun ev w1 => ∃ sb F R R1, ev = .returned (.tuple #[.pointer (some ⟨sb, 0, none⟩), .nilIface]) ∧ PEnv w sb w1.heap.size F R R1 ∧ R (fun _ => False) [] (w1.alloc (.cells (box32 room) 32)) := by
  refine (new_ok w room h1 (by omega)).mono ?_
  rintro ev w1 ⟨v, bm, rfl, hS, hb⟩
  obtain ⟨sb, rfl, -⟩ := hS.shape
  refine ⟨sb, _, _, _, rfl, penv_any w room sb bm w1.heap.size (by omega), [], List.Perm.refl _, ?_, ?_, hb.alloc hb.size _⟩
  · have hA : Below w1.heap.size w1 (w1.alloc (.cells (box32 room) 32)) := (Below.refl _ _).alloc (Nat.le_refl _) _
    exact (hS.tight.below hA).wide (fun k hk => ⟨hk.1, fun h => h.elim (fun h => h) (fun h => absurd hk.2 (by omega))⟩)
  · refine ⟨⟨.slice none 0 0, .slice none 0 0, by simp [box32], by simp [box32], World.ownsRow_nil _ _ _ _, World.ownsRow_nil _ _ _ _, fun k e => (by cases e), fun k e => (by cases e)⟩, ⟨hb.size, fun h => h⟩, by simp [box32], fun p hp => by simp at hp, by simp [ks], by simp, fun j => by simp⟩

def z37 : List Value := opc 0 (.slice none 0 0) (List.replicate 32 0)
theorem opc_len (k : Int) (v : Value) (h : Bys) (hh : h.length = 32) : (opc k v h).length = 34 := by simp [opc, bys_len, hh]
theorem Try.info37 : (Try.prog.info? 37).map (·.size) = some 34 := by kernel_rfl
theorem opc_one (k : Int) (v : Value) (h : Bys) (hv : v.oneCell' = true) : (opc k v h).toArray.all (·.oneCell') = true := by
  refine all_one (fun u hu => ?_)
  rcases List.mem_append.1 hu with h1 | h1
  · simp at h1
    rcases h1 with rfl | rfl
    · rfl
    · exact hv
  · exact bys_one _ u h1
/-- A call's parts, in its own block. -/
theorem op_parts {w : World} {ob : Nat} {k : Int} {v : Value} {h : Bys} (hg : w.heap[ob]? = some (.cells (opc k v h).toArray 37 (0, 0))) : w.cell? ⟨ob, 0, none⟩ = some (.int .i64 k) ∧ w.cell? ⟨ob, 1, none⟩ = some v ∧ w.rangeAt ob 2 (bys h) := by
  have hc : ∀ j, w.cell? ⟨ob, j, none⟩ = (opc k v h)[j]? := fun j => by
    unfold World.cell?; rw [hg]; simp
  refine ⟨by rw [hc]; rfl, by rw [hc]; rfl, fun j u hj => ?_⟩
  rw [hc]
  show ([Value.int .i64 k, v] ++ bys h)[2 + j]? = some u
  rw [List.getElem?_append_right (by simp)]
  simpa using hj
/-- Which kind a number is. -/
def kind (k : Int) : Int := ((k.tmod 6) + 6).tmod 6
theorem kind_in (k : Int) : kind k = 0 ∨ kind k = 1 ∨ kind k = 2 ∨ kind k = 3 ∨ kind k = 4 ∨ kind k = 5 := by
  unfold kind
  have h1 : -6 < k.tmod 6 := by
    have := Int.lt_tmod_of_pos k (show (0 : Int) < 6 by omega)
    omega
  have h2 : k.tmod 6 < 6 := Int.tmod_lt_of_pos k (by omega)
  generalize k.tmod 6 = a at *
  rw [Int.tmod_eq_emod_of_nonneg (by omega)]
  omega
/-- Bytes that one may turn. -/
def Bs (y : World) (g n : Nat) : Prop := ∀ j, j < n → (∃ z : Int, y.cell? ⟨g, j, none⟩ = some (.int .u8 z)) ∧ y.frozen? ⟨g, j, none⟩ = false
theorem bs_own {y : World} {B g n cap : Nat} {l : Bys} (h : y.ownsRow B 5 1 (.slice (some ⟨g, 0, none⟩) n cap) n (bys l)) (hl : l.length = n) : Bs y g n := fun j hj => by
  refine ⟨⟨((l.getD j 0).toNat : Int), ?_⟩, h.frozenAt j⟩
  rw [h.cellAt j (by omega)]
  exact bys_get l j (by omega)
theorem bs_set {y : World} {g n j : Nat} {z : Int} (h : Bs y g n) (hj : j < n) : Bs (y.setCell ⟨g, j, none⟩ (.int .u8 z)) g n := fun i hi => by
  obtain ⟨⟨z', c⟩, f⟩ := h i hi
  refine ⟨?_, (World.frozen?_setCell _ _ _ _).trans f⟩
  by_cases e : i = j
  · subst e
    exact ⟨z, World.cell?_setCell_same y _ _ c⟩
  · exact ⟨z', (World.cell?_setCell_other (w := y) (a := ⟨g, j, none⟩) (b := ⟨g, i, none⟩) (v := .int .u8 z) (by intro e'; cases e'; exact e rfl)).trans c⟩
theorem bs_other {y : World} {g g' n j : Nat} {u : Value} (h : Bs y g n) (hne : g' ≠ g) : Bs (y.setCell ⟨g', j, none⟩ u) g n := fun i hi => by
  obtain ⟨⟨z', c⟩, f⟩ := h i hi
  exact ⟨⟨z', (World.cell?_setCell_other (w := y) (a := ⟨g', j, none⟩) (b := ⟨g, i, none⟩) (v := u) (by intro e'; cases e'; exact hne rfl)).trans c⟩, (World.frozen?_setCell _ _ _ _).trans f⟩
theorem orZ_len (code : Nat) (h : Bys) (hh : h.length = 32) : (orZ code h).length = 32 := by unfold orZ; split <;> simp [hh]
theorem orZ_box (code : Nat) (h : Bys) (hh : h.length = 32) : (Try.prog.info? 35).map (·.size) = some (bys (orZ code h)).toArray.size ∧ (bys (orZ code h)).toArray.all (·.oneCell') = true ∧ z25.toArray.size = (bys (orZ code h)).toArray.size := by
  refine ⟨size35 _ (orZ_len code h hh), all_one (bys_one _), ?_⟩
  rw [List.size_toArray, List.size_toArray, bys_len, orZ_len code h hh]
  rfl
theorem wrap6 (k : Int) : IntKind.i64.wrap (k.tmod 6 + 6) = k.tmod 6 + 6 := by
  have h1 : -6 < k.tmod 6 := by
    have := Int.lt_tmod_of_pos k (show (0 : Int) < 6 by omega)
    omega
  have h2 : k.tmod 6 < 6 := Int.tmod_lt_of_pos k (by omega)
  rw [IntKind.wrap_i64]; omega
/-- One sum of a list turned: the others stay, and both stores. -/
theorem lies_turn {w wr : World} {sb xb gt q : Nat} {F : Bys → Bys} {R : (Nat → Prop) → List (Bys × Bys) → World → Prop} {R1 : (Nat → Prop) → List (Bys × Bys) → Bys → Nat → World → Prop} {r : List (Bys × Bys)} (E : PEnv w sb xb F R R1) (hR : R (fun k => k = gt) r wr)
    (hrest : ∀ q', q ≤ q' → q' < r.length → wr.rangeAt gt (q' * 32) (bys ((ks r).getD q' [])) ∧ wr.there gt (q' * 32) 32) (hgt : w.heap.size ≤ gt) (hk : ((ks r).getD q []).length = 32) (hq : q < r.length) :
    ∃ z : Int, wr.cell? ⟨gt, q * 32, none⟩ = some (.int .u8 z) ∧ wr.frozen? ⟨gt, q * 32, none⟩ = false ∧ ∀ n u, R (fun k => k = gt) r (((wr.drewN n).drew).setCell ⟨gt, q * 32, none⟩ (.int .u8 u)) ∧ ∀ q', q + 1 ≤ q' → q' < r.length → (((wr.drewN n).drew).setCell ⟨gt, q * 32, none⟩ (.int .u8 u)).rangeAt gt (q' * 32) (bys ((ks r).getD q' [])) ∧ (((wr.drewN n).drew).setCell ⟨gt, q * 32, none⟩ (.int .u8 u)).there gt (q' * 32) 32 := by
  obtain ⟨h1, h2⟩ := hrest q (Nat.le_refl _) hq
  have hb : ∀ n, Below wr.heap.size wr (wr.drewN n).drew := fun n => (below_drewN (Below.refl _ _) n).drew
  refine ⟨((((ks r).getD q []).getD 0 0).toNat : Int), ?_, ?_, fun n u => ⟨?_, fun q' hq1 hq2 => ?_⟩⟩
  · exact h1 0 _ (bys_get _ 0 (by omega))
  · exact (h2 0 (by omega)).2
  · exact E.turn _ _ _ _ hR (fun k hk' _ => Below.heap_setCell _ _ _ _ hk') (((E.below _ _ _ hR).trans ((hb n).mono (E.below _ _ _ hR).size)).setCell (p := ⟨gt, q * 32, none⟩) hgt _)
  · obtain ⟨h3, h4⟩ := hrest q' (by omega) hq2
    have hoff : ∀ j, (⟨gt, q' * 32 + j, none⟩ : Addr) ≠ ⟨gt, q * 32, none⟩ := fun j e => by
      have e2 : q' * 32 + j = q * 32 := congrArg Addr.off e
      omega
    have hc : ∀ j, (((wr.drewN n).drew).setCell ⟨gt, q * 32, none⟩ (.int .u8 u)).cell? ⟨gt, q' * 32 + j, none⟩ = wr.cell? ⟨gt, q' * 32 + j, none⟩ := fun j =>
      World.cell?_setCell_other (w := (wr.drewN n).drew) (a := ⟨gt, q * 32, none⟩) (b := ⟨gt, q' * 32 + j, none⟩) (v := .int .u8 u) (Ne.symm (hoff j))
    refine ⟨fun j v hj => (hc j).trans (h3 j v hj), fun j hj => ⟨?_, ?_⟩⟩
    · rw [hc j]; exact (h4 j hj).1
    · exact (World.frozen?_setCell _ _ _ _).trans (h4 j hj).2
end Go.Proofs.Ytjnogpcpekheoaa
