/-
  The law ManifestKnown.
-/
import Derived.Test.YtmfdmpfeoppnfaaDoorTol
namespace Go.Proofs.YtmfdmpfeoppnfaaDoor
open Go.RowKit

def knT : List Bs := [[61, 61, 32, 97], [61, 61, 32, 97, 10], [10, 10, 61, 61, 32, 97, 32, 58, 32, 98, 32, 99, 10, 61, 61, 32, 98, 10, 61, 61, 32, 99, 10], [61, 61, 97, 10], [61, 61, 32, 97, 32, 58, 10], [61, 61, 32, 97, 58, 32, 98, 10], [61, 61, 32, 97, 32, 58, 32, 32, 98, 10], [61, 61, 32, 97, 32, 98, 10], [61, 61, 32, 10], [61, 61, 10], [120, 10, 61, 61, 32, 97, 10], [61, 61, 32, 97, 10, 61, 61, 32, 98, 32, 58, 32, 98, 10], [61, 61, 32, 97, 32, 58, 32, 98, 32, 98, 10], [61, 61, 32, 102, 110, 10], [61, 61, 32, 97, 10, 61, 61, 61, 32, 98, 10], [61, 61, 32, 97, 32, 10], [32, 61, 61, 32, 97, 10]]
def knC : List Nat := [0, 0, 0, 40, 40, 40, 40, 40, 40, 40, 40, 23, 23, 40, 40, 40, 40]
def knP : List Nat := [0, 0, 0, 0, 0, 0, 0, 0, 0, 0, 0, 5, 0, 0, 5, 0, 0]
def knB (k : Nat) : Bool := match parF (knT.getD k []) with
  | .error e => decide (e = (knC.getD k 0, knP.getD k 0)) && decide (e.1 ≠ 0)
  | .ok L => decide (knC.getD k 0 = 0) && decide (knP.getD k 0 = 0) && !L.isEmpty
theorem kn_all : (List.range 17).all knB = true := by kernel_rfl
theorem kn_one {k : Nat} (h : k < 17) : knB k = true := List.all_eq_true.1 kn_all k (List.mem_range.2 h)
theorem kn_len {k : Nat} (h : k < 17) : (knT.getD k []).length ≤ 30 := by
  have : (List.range 17).all (fun k => decide ((knT.getD k []).length ≤ 30)) = true := by kernel_rfl
  simpa using List.all_eq_true.1 this k (List.mem_range.2 h)
theorem calls_at {P : Program} {f : FuncId} {a a' : Array Value} {w w' : World} {Q : Ending → World → Prop} (e : w = w') (ea : a = a') (h : Calls P f a w Q) : Calls P f a' w' Q := by subst e; subst ea; exact h
set_option maxHeartbeats 8000000 in
set_option maxRecDepth 20000 in
theorem known_walk (p : Int) (w : World) (m : Int) (hm : w.cell? ⟨0, 0, none⟩ = some (.int .i64 m)) : Calls Tryd.prog 3 #[.int .i64 p] w fun ev w' => ev = .returned (.bool true) ∧ Below w.heap.size w w' := by
  obtain ⟨r1, f1⟩ : ∃ r, r = p.tmod 17 := ⟨_, rfl⟩
  have f1' : p.tmod 17 = r1 := f1.symm
  have h1 : -17 < r1 ∧ r1 < 17 := by
    rw [f1]
    have := Int.tmod_lt_of_pos p (b := 17) (by omega)
    have h2 := Int.lt_tmod_of_pos p (b := 17) (by omega)
    omega
  obtain ⟨k, hk, hk17⟩ : ∃ k : Nat, (r1 + 17).tmod 17 = (k : Int) ∧ k < 17 := by
    refine ⟨((r1 + 17).tmod 17).toNat, ?_, ?_⟩
    · have := Int.tmod_nonneg (a := r1 + 17) 17 (by omega); omega
    · have := Int.tmod_lt_of_pos (r1 + 17) (b := 17) (by omega); have := Int.tmod_nonneg (a := r1 + 17) 17 (by omega); omega
  clear f1
  have ik : (k : Int) < 17 := by omega
  have ik0 : (0 : Int) ≤ (k : Int) := by omega
  obtain ⟨W1, hW1⟩ : ∃ W1, W1 = w.alloc (.cells (knT.map fun t => Value.string (str t)).toArray 9) := ⟨_, rfl⟩
  obtain ⟨W2, hW2⟩ : ∃ W2, W2 = W1.alloc (.cells (nms knC).toArray 3) := ⟨_, rfl⟩
  obtain ⟨W3, hW3⟩ : ∃ W3, W3 = W2.alloc (.cells (nms knP).toArray 3) := ⟨_, rfl⟩
  have b1 : Below w.heap.size w W1 := by rw [hW1]; exact (Below.refl _ _).alloc (Nat.le_refl _) _
  have b2 : Below W1.heap.size W1 W2 := by rw [hW2]; exact (Below.refl _ _).alloc (Nat.le_refl _) _
  have b3 : Below W2.heap.size W2 W3 := by rw [hW3]; exact (Below.refl _ _).alloc (Nat.le_refl _) _
  have R1 : Row W1 w.heap.size 9 (knT.map fun t => Value.string (str t)) := by rw [hW1]; exact Row.new _ _ _
  have R2 : Row W2 W1.heap.size 3 (nms knC) := by rw [hW2]; exact Row.new _ _ _
  have R3 : Row W3 W2.heap.size 3 (nms knP) := by rw [hW3]; exact Row.new _ _ _
  unfold knT at hW1
  unfold nms knC at hW2
  unfold nms knP at hW3
  simp only [List.map_cons, List.map_nil] at hW1 hW2 hW3
  go_enter Tryd.func3, Tryd.ntmps3
  go_wp2_with fail
  refine calls_at (w := W3) (a := #[.string (str (knT.getD k []))]) (by rw [hW3, hW2, hW1]; rfl) ?_ ?_
  · show #[Value.string (str (knT.getD k []))] = #[(knT.map fun t => Value.string (str t))[k]'(by simpa [knT] using hk17)]
    rw [List.getElem_map, getD_eq knT k [] hk17]
    rfl
  have hz1 : W1.heap.size = w.heap.size + 1 := by rw [hW1]; simp
  have hz2 : W2.heap.size = w.heap.size + 1 + 1 := by rw [hW2]; simp [hz1]
  rw [hz1] at R2
  rw [hz2] at R3
  have b13 := nextB (nextB b1 b2) b3
  have R2' := R2.below b3 R2.lt
  clear hW1 hW2 hW3 b1 b2 b3 R1 R2 hz1 hz2
  have hkn := kn_one hk17
  have hln := kn_len hk17
  have PA := hid0 (parse_any W3 (knT.getD k []) m (Below.cellOf b13 hm) (by omega))
  have c1 : W3.cell? ⟨w.heap.size + 1, k, none⟩ = some (.int .i64 ((knC.getD k 0 : Nat) : Int)) := by
    rw [R2'.cell k]
    have hk' : k < knC.length := hk17
    simp [nms, List.getD, List.getElem?_eq_getElem hk']
  have c2 : W3.cell? ⟨w.heap.size + 1 + 1, k, none⟩ = some (.int .i64 ((knP.getD k 0 : Nat) : Int)) := by
    rw [R3.cell k]
    have hk' : k < knP.length := hk17
    simp [nms, List.getD, List.getElem?_eq_getElem hk']
  unfold knB at hkn
  clear R2' R3 hln
  have HM : Hid (∀ y, Below W3.heap.size W3 y → y.cell? ⟨0, 0, none⟩ = some (.int .i64 m)) := fun y hy => Below.cellOf (nextB b13 hy) hm
  have AB := aside0 b13
  clear hm b13
  generalize parF (knT.getD k []) = r at *
  generalize knC.getD k 0 = c at *
  generalize knP.getD k 0 = q at *
  generalize str (knT.getD k []) = ST at *
  cases r with
  | error e =>
    simp only [Bool.and_eq_true, decide_eq_true_eq] at hkn
    obtain ⟨rfl, hc0⟩ := hkn
    refine PA.out.mono ?_
    rintro ev w1 ⟨e, rfl, hE, hb⟩
    have d1 := Below.cellOf hb c1
    have d2 := Below.cellOf hb c2
    obtain ⟨eb, rfl⟩ := hE.shape'
    have TO : Hid (∀ y, (Below w1.heap.size w1 y ∧ y.cell? ⟨w.heap.size + 1, k, none⟩ = some (.int .i64 (c : Int)) ∧ y.cell? ⟨w.heap.size + 1 + 1, k, none⟩ = some (.int .i64 (q : Int))) → Calls Tryd.prog 9 #[] y fun ev y' => ev = .returned (.bool true) ∧ (Below w1.heap.size w1 y' ∧ y'.cell? ⟨w.heap.size + 1, k, none⟩ = some (.int .i64 (c : Int)) ∧ y'.cell? ⟨w.heap.size + 1 + 1, k, none⟩ = some (.int .i64 (q : Int)))) := by
      rintro y ⟨hy, -, -⟩
      refine (told_any y m (HM.out y (nextB hb hy))).mono ?_
      rintro ev y' ⟨rfl, hy'⟩
      have h2 := nextB hy hy'
      exact ⟨rfl, h2, Below.cellOf h2 d1, Below.cellOf h2 d2⟩
    have IS : Hid (∀ y, (Below w1.heap.size w1 y ∧ y.cell? ⟨w.heap.size + 1, k, none⟩ = some (.int .i64 (c : Int)) ∧ y.cell? ⟨w.heap.size + 1 + 1, k, none⟩ = some (.int .i64 (q : Int))) → Calls Tryd.prog 10 #[.iface 66 (.pointer (some ⟨eb, 0, none⟩)), .int .i64 (c : Int), .int .i64 (q : Int)] y fun ev y' => ev = .returned (.bool true) ∧ (Below w1.heap.size w1 y' ∧ y'.cell? ⟨w.heap.size + 1, k, none⟩ = some (.int .i64 (c : Int)) ∧ y'.cell? ⟨w.heap.size + 1 + 1, k, none⟩ = some (.int .i64 (q : Int)))) := by
      rintro y ⟨hy, -, -⟩
      refine (is_any y _ c q _ _ (.inr (hE.below hy)) rfl rfl).mono ?_
      rintro ev y' ⟨rfl, hy'⟩
      have h2 := nextB hy hy'
      exact ⟨rfl, h2, Below.cellOf h2 d1, Below.cellOf h2 d2⟩
    have H0 : Hid (Below w1.heap.size w1 w1.drew ∧ w1.drew.cell? ⟨w.heap.size + 1, k, none⟩ = some (.int .i64 (c : Int)) ∧ w1.drew.cell? ⟨w.heap.size + 1 + 1, k, none⟩ = some (.int .i64 (q : Int))) := ⟨(Below.refl _ _).drew, d1, d2⟩
    have AB1 := aside0 (nextB AB.out hb)
    clear hE hb PA c1 c2 HM AB
    go_wp2_with fail
    go_region_held3 (fun y => Below w1.heap.size w1 y ∧ y.cell? ⟨w.heap.size + 1, k, none⟩ = some (.int .i64 (c : Int)) ∧ y.cell? ⟨w.heap.size + 1 + 1, k, none⟩ = some (.int .i64 (q : Int))) (first | assumption | exact H0.out) (first | (go_at_call 9; refine (TO.out _ (by assumption)).mono ?_; rintro ev y2 ⟨rfl, hS2⟩) | (go_at_call 10; refine (IS.out _ (by assumption)).mono ?_; rintro ev y3 ⟨rfl, hS3⟩))
    go_wp2_with fail
    go_ret
    exact ⟨rfl, nextB AB1.out hS3.1⟩
  | ok L =>
    simp only [Bool.and_eq_true, decide_eq_true_eq] at hkn
    obtain ⟨⟨rfl, rfl⟩, hL0⟩ := hkn
    have l1 : (0 : Int) < (L.length : Int) := by
      cases L with
      | nil => simp at hL0
      | cons a b => simp
    have HL : Hid (0 < L.length) := by show 0 < L.length; omega
    refine PA.out.mono ?_
    rintro ev w1 ⟨v, rfl, hS, hb⟩
    obtain ⟨ao, cap, rfl, -⟩ := hS.shape
    have d1 : w1.cell? ⟨w.heap.size + 1, k, none⟩ = some (.int .i64 0) := Below.cellOf hb c1
    have d2 : w1.cell? ⟨w.heap.size + 1 + 1, k, none⟩ = some (.int .i64 0) := Below.cellOf hb c2
    have TO : Hid (∀ y, (Below w1.heap.size w1 y ∧ y.cell? ⟨w.heap.size + 1, k, none⟩ = some (.int .i64 (0 : Int)) ∧ y.cell? ⟨w.heap.size + 1 + 1, k, none⟩ = some (.int .i64 (0 : Int))) → Calls Tryd.prog 9 #[] y fun ev y' => ev = .returned (.bool true) ∧ (Below w1.heap.size w1 y' ∧ y'.cell? ⟨w.heap.size + 1, k, none⟩ = some (.int .i64 (0 : Int)) ∧ y'.cell? ⟨w.heap.size + 1 + 1, k, none⟩ = some (.int .i64 (0 : Int)))) := by
      rintro y ⟨hy, -, -⟩
      refine (told_any y m (HM.out y (nextB hb hy))).mono ?_
      rintro ev y' ⟨rfl, hy'⟩
      have h2 := nextB hy hy'
      exact ⟨rfl, h2, Below.cellOf h2 d1, Below.cellOf h2 d2⟩
    have IS : Hid (∀ y, (Below w1.heap.size w1 y ∧ y.cell? ⟨w.heap.size + 1, k, none⟩ = some (.int .i64 (0 : Int)) ∧ y.cell? ⟨w.heap.size + 1 + 1, k, none⟩ = some (.int .i64 (0 : Int))) → Calls Tryd.prog 10 #[.nilIface, .int .i64 (0 : Int), .int .i64 (0 : Int)] y fun ev y' => ev = .returned (.bool true) ∧ (Below w1.heap.size w1 y' ∧ y'.cell? ⟨w.heap.size + 1, k, none⟩ = some (.int .i64 (0 : Int)) ∧ y'.cell? ⟨w.heap.size + 1 + 1, k, none⟩ = some (.int .i64 (0 : Int)))) := by
      rintro y ⟨hy, -, -⟩
      refine (is_any y _ 0 0 _ _ (.inl ⟨rfl, rfl, rfl⟩) rfl rfl).mono ?_
      rintro ev y' ⟨rfl, hy'⟩
      have h2 := nextB hy hy'
      exact ⟨rfl, h2, Below.cellOf h2 d1, Below.cellOf h2 d2⟩
    have H0 : Hid (Below w1.heap.size w1 w1.drew ∧ w1.drew.cell? ⟨w.heap.size + 1, k, none⟩ = some (.int .i64 (0 : Int)) ∧ w1.drew.cell? ⟨w.heap.size + 1 + 1, k, none⟩ = some (.int .i64 (0 : Int))) := ⟨(Below.refl _ _).drew, d1, d2⟩
    have AB1 := aside0 (nextB AB.out hb)
    clear hS hb PA c1 c2 HM AB
    go_wp2_with fail
    go_region_held3 (fun y => Below w1.heap.size w1 y ∧ y.cell? ⟨w.heap.size + 1, k, none⟩ = some (.int .i64 (0 : Int)) ∧ y.cell? ⟨w.heap.size + 1 + 1, k, none⟩ = some (.int .i64 (0 : Int))) (first | assumption | exact H0.out) (first | (go_at_call 9; refine (TO.out _ (by assumption)).mono ?_; rintro ev y2 ⟨rfl, hS2⟩) | (go_at_call 10; refine (IS.out _ (by assumption)).mono ?_; rintro ev y3 ⟨rfl, hS3⟩))
    go_wp2_with fail
    go_ret
    refine ⟨?_, nextB AB1.out hS3.1⟩
    show Ending.returned (Value.bool (decide (0 < L.length))) = _
    rw [decide_eq_true HL.out]
end Go.Proofs.YtmfdmpfeoppnfaaDoor
