/-
  The texts Xsd, Roo, joined.
-/
import Derived.Test.YtfkibbpekngciaaJoinTre2xEx
import Derived.Test.YtfkibbpekngciaaJoinTcl2xEx
import Derived.Test.YtfkibbpekngciaaJoinAp22xEx
/- The document's own sides. -/
namespace Go.Proofs.Ytfkibbpekngciaa
open Go.RowKit

/-- A slice of one bool, behind a row of one's own. -/
theorem own_bool {w : World} {B n : Nat} {v : Value} {xs : List Value} (x : Bool) (h : w.ownsRow B 4 1 v n xs) (hB : B ≤ w.heap.size) :
    (w.alloc (.cells #[.bool x] 4)).ownsRow B 4 1 v n xs ∧ B ≤ (w.alloc (.cells #[.bool x] 4)).heap.size ∧ (w.alloc (.cells #[.bool x] 4)).cell? ⟨w.heap.size, 0, none⟩ = some (.bool x) :=
  ⟨own_past' h ((Below.refl _ _).alloc (Nat.le_refl _) _), by simp; omega, (Row.new w 4 [.bool x]).cell 0⟩

set_option maxHeartbeats 2000000 in
theorem sides_left (w : World) (n i : Nat) (h2 : 2 ≤ n) (hn : n ≤ 9223372036854775807) (hi : i < half n)
    (ih : ∀ (w : World), Calls Try.prog 50 #[.int .i64 (half n : Int), .int .i64 (i : Int)] w fun ev w' => ∃ v', ev = .returned v' ∧ w'.ownsRow w.heap.size 4 1 v' (xsides (half n) i).length (bos (xsides (half n) i)) ∧ Below w.heap.size w w') (hl : (xsides (half n) i).length ≤ 1000000) :
    Calls Try.prog 50 #[.int .i64 (n : Int), .int .i64 (i : Int)] w fun ev w' => ∃ v', ev = .returned v' ∧ w'.ownsRow w.heap.size 4 1 v' (xsides n i).length (bos (xsides n i)) ∧ Below w.heap.size w w' := by
  have HL := xhalf_any w n h2 hn
  have HX : Hid (xsides n i = xsides (half n) i ++ [true]) := by
    show _ = _
    rw [xsides_unf, if_neg (by omega), if_pos hi]
  have HI : Hid _ := ih
  clear ih
  generalize xsides n i = Z at *
  generalize xsides (half n) i = P at *
  generalize half n = k at *
  have n1 : ¬ ((n : Int) ≤ 1) := by omega
  have n2 : (i : Int) < (k : Int) := by omega
  go_enter Try.func50, Try.ntmps50
  go_wp2_with (first
    | (go_at_call 30; refine HL.mono ?_; rintro ev w1 ⟨rfl, hw1⟩; replace hw1 := hw1.symm; subst hw1)
    | (go_at_call 50; refine (HI.out _).mono ?_; rintro ev w2 ⟨v2, rfl, ho2, hb2⟩; obtain ⟨ao, cp, rfl⟩ := own_shape' ho2; obtain ⟨ho3, hB3, hc3⟩ := own_bool true ho2 hb2.size; have HB3 : Hid (Below w.heap.size w (w2.alloc (.cells #[.bool true] 4))) := hb2.alloc hb2.size _; clear ho2)
    | (at_builtin; refine app4 true rfl _ _ rfl rfl ho3 hB3 w2.heap.size 1 rfl hc3 hl ?_; intro v4 w4 ho4 hb4 _))
  go_ret
  refine ⟨_, rfl, ?_, HB3.out.trans hb4⟩
  rw [HX.out]
  exact ho4

set_option maxHeartbeats 2000000 in
theorem sides_right (w : World) (n i : Nat) (h2 : 2 ≤ n) (hn : n ≤ 9223372036854775807) (hin : i < n) (hi : ¬ i < half n)
    (ih : ∀ (w : World), Calls Try.prog 50 #[.int .i64 ((n - half n : Nat) : Int), .int .i64 ((i - half n : Nat) : Int)] w fun ev w' => ∃ v', ev = .returned v' ∧ w'.ownsRow w.heap.size 4 1 v' (xsides (n - half n) (i - half n)).length (bos (xsides (n - half n) (i - half n))) ∧ Below w.heap.size w w') (hl : (xsides (n - half n) (i - half n)).length ≤ 1000000) :
    Calls Try.prog 50 #[.int .i64 (n : Int), .int .i64 (i : Int)] w fun ev w' => ∃ v', ev = .returned v' ∧ w'.ownsRow w.heap.size 4 1 v' (xsides n i).length (bos (xsides n i)) ∧ Below w.heap.size w w' := by
  have HL := xhalf_any w n h2 hn
  have hh := half_le n h2
  have HX : Hid (xsides n i = xsides (n - half n) (i - half n) ++ [false]) := by
    show _ = _
    rw [xsides_unf, if_neg (by omega), if_neg hi]
  have HI : Hid (∀ (w : World), Calls Try.prog 50 #[.int .i64 ((n : Int) - (half n : Int)), .int .i64 ((i : Int) - (half n : Int))] w fun ev w' => ∃ v', ev = .returned v' ∧ w'.ownsRow w.heap.size 4 1 v' (xsides (n - half n) (i - half n)).length (bos (xsides (n - half n) (i - half n))) ∧ Below w.heap.size w w') := fun y => by
    have := ih y
    rwa [show ((n - half n : Nat) : Int) = (n : Int) - (half n : Int) by omega, show ((i - half n : Nat) : Int) = (i : Int) - (half n : Int) by omega] at this
  clear ih
  generalize xsides n i = Z at *
  generalize xsides (n - half n) (i - half n) = P at *
  generalize half n = k at *
  have n1 : ¬ ((n : Int) ≤ 1) := by omega
  have n2 : ¬ (i : Int) < (k : Int) := by omega
  have e1 : IntKind.i64.wrap ((n : Int) - (k : Int)) = (n : Int) - (k : Int) := by rw [IntKind.wrap_i64]; omega
  have e2 : IntKind.i64.wrap ((i : Int) - (k : Int)) = (i : Int) - (k : Int) := by rw [IntKind.wrap_i64]; omega
  go_enter Try.func50, Try.ntmps50
  go_wp2_with (first
    | (go_at_call 30; refine HL.mono ?_; rintro ev w1 ⟨rfl, hw1⟩; replace hw1 := hw1.symm; subst hw1)
    | (go_at_call 50; refine (HI.out _).mono ?_; rintro ev w2 ⟨v2, rfl, ho2, hb2⟩; obtain ⟨ao, cp, rfl⟩ := own_shape' ho2; obtain ⟨ho3, hB3, hc3⟩ := own_bool false ho2 hb2.size; have HB3 : Hid (Below w.heap.size w (w2.alloc (.cells #[.bool false] 4))) := hb2.alloc hb2.size _; clear ho2)
    | (at_builtin; refine app4 false rfl _ _ rfl rfl ho3 hB3 w2.heap.size 1 rfl hc3 hl ?_; intro v4 w4 ho4 hb4 _))
  go_ret
  refine ⟨_, rfl, ?_, HB3.out.trans hb4⟩
  rw [HX.out]
  exact ho4

theorem xsides_few (n i : Nat) (hi : i < n) (hn : n ≤ 9223372036854775807) : (xsides n i).length ≤ 63 := by
  rw [xsides_eq i n hi]
  simp only [lefts, List.length_map, List.length_reverse]
  exact downs_64 i n hn
theorem sides_any' : ∀ (n i : Nat) (w : World), i < n → n ≤ 9223372036854775807 →
    Calls Try.prog 50 #[.int .i64 (n : Int), .int .i64 (i : Int)] w fun ev w' => ∃ v', ev = .returned v' ∧ w'.ownsRow w.heap.size 4 1 v' (xsides n i).length (bos (xsides n i)) ∧ Below w.heap.size w w' := by
  intro n
  induction n using Nat.strongRecOn with
  | _ n ih =>
    intro i w hi hn
    by_cases h2 : n < 2
    · have e : xsides n i = [] := by rw [xsides_unf, if_pos h2]
      rw [e]
      have n1 : (n : Int) ≤ 1 := by omega
      go_enter Try.func50, Try.ntmps50
      go_wp2_with fail
      go_ret
      exact ⟨_, rfl, ⟨rfl, .inl ⟨rfl, rfl⟩⟩, Below.refl _ _⟩
    · have hh := half_le n (by omega)
      by_cases hc : i < half n
      · exact sides_left w n i (by omega) hn hc (fun y => ih (half n) (by omega) i y hc (by omega)) (Nat.le_trans (xsides_few _ _ hc (by omega)) (by omega))
      · exact sides_right w n i (by omega) hn hi hc (fun y => ih (n - half n) (by omega) (i - half n) y (by omega) (by omega)) (Nat.le_trans (xsides_few _ _ (by omega) (by omega)) (by omega))
/-- What sides hands back: for each step, does the leaf's side stand on the left? -/
theorem sides_any (w : World) (n i : Nat) (hi : i < n) (hn : n ≤ 9223372036854775807) :
    Calls Try.prog 50 #[.int .i64 (n : Int), .int .i64 (i : Int)] w fun ev w' => ∃ v', ev = .returned v' ∧ w'.ownsRow w.heap.size 4 1 v' (lefts i n).length (bos ((lefts i n).map (!·))) ∧ Below w.heap.size w w' := by
  have := sides_any' n i w hi hn
  rw [xsides_eq i n hi, List.length_map] at this
  exact this
end Go.Proofs.Ytfkibbpekngciaa

/- rootBy, Root, Leaf. -/
namespace Go.Proofs.Ytfkibbpekngciaa
open Go.RowKit

theorem rootT_len (n : Nat) (s : Bys) : (rootT n s).length = 9 + s.length := by simp [rootT, be8]; omega
set_option maxHeartbeats 4000000 in
theorem rootBy_none (F : Bys → Bys) (E : Env F) (w : World) (ao : Option Addr) (cap : Nat) :
    Calls Try.prog 24 #[fn25, .slice ao 0 cap] w fun ev w' => ev = .returned (.agg (bys (root F [])).toArray) ∧ Below w.heap.size w w' := by
  have HT := rootText_any (w.alloc (.cells (bys zero32).toArray 26)) 0 (.slice none 0 0) [] ⟨.inl ⟨_, rfl, rfl⟩⟩ (by simp) (by omega)
  have R0 := Row.new w 26 (bys zero32)
  have HA : Hid (Below w.heap.size w (w.alloc (.cells (bys zero32).toArray 26))) := (Below.refl _ _).alloc (Nat.le_refl _) _
  have e : root F [] = F (rootT 0 []) := rfl
  have hl : (rootT 0 []).length ≤ 1000000 := by rw [rootT_len]; simp
  rw [e]
  have hlen := E.len (rootT 0 [])
  have hz := size26 _ hlen
  clear e
  unfold fn25
  generalize rootT 0 [] = T at *
  go_enter Try.func24, Try.ntmps24
  go_wp2_with (first | (go_at_call 37; refine HT.mono ?_; rintro ev w1 ⟨v1, rfl, ho1, hb1⟩) | (go_at_call 25; refine (E.sum _ _ _ (Sl.ofRow ho1) hl).mono ?_; rintro ev w2 ⟨rfl, hb2⟩; have hb12 := nextB hb1 hb2; have R2 := R0.below hb12 R0.lt; have hB2 := nextB HA.out hb12) | (refine store26 rfl _ _ rfl w w.heap.size _ hlen rfl rfl zero32 zero32_len R2 _ hB2 (Nat.le_refl _) ?_; intro w3 R3 hB3 _))
  exact bodyPost_ret (v := .agg _) (results_cell_row Try.results24 _ _ w.heap.size 26 _ (0, 0) _ rfl R3.heap Try.underlying26 rfl hz) rfl ⟨rfl, hB3⟩

set_option maxHeartbeats 4000000 in
theorem rootBy_some (F : Bys → Bys) (E : Env F) (w : World) (v : Value) (L : List Bys) (h : Ls w v L) (hs : Short L) (h1 : 1 ≤ L.length) (h9 : L.length ≤ 1000000) :
    Calls Try.prog 24 #[fn25, v] w fun ev w' => ev = .returned (.agg (bys (root F L)).toArray) ∧ Below w.heap.size w w' := by
  obtain ⟨ao, cp, rfl⟩ := h.slice
  have hA : Below w.heap.size w (w.alloc (.cells (bys zero32).toArray 26)) := (Below.refl _ _).alloc (Nat.le_refl _) _
  have HT := tree_any F E _ (w.alloc (.cells (bys zero32).toArray 26)) _ L rfl (h.below hA) hs h1 h9
  have HA : Hid (Below w.heap.size w (w.alloc (.cells (bys zero32).toArray 26))) := hA
  have R0 := Row.new w 26 (bys zero32)
  have ht := tree_len E L
  rw [root_some F L (by omega)]
  have HR : Hid (∀ y v', Sl y v' (tree F L) → Calls Try.prog 37 #[.int .i64 (L.length : Int), v'] y fun ev w' => ∃ v', ev = .returned v' ∧ w'.ownsRow y.heap.size 5 1 v' (rootT L.length (tree F L)).length (bys (rootT L.length (tree F L))) ∧ Below y.heap.size y w') := fun y v' hS => rootText_any y L.length v' _ hS (by omega) (by omega)
  have hl : (rootT L.length (tree F L)).length ≤ 1000000 := by rw [rootT_len]; omega
  have hlen := E.len (rootT L.length (tree F L))
  have hz := size26 _ hlen
  generalize rootT L.length (tree F L) = T at *
  unfold fn25 at *
  clear hA h hs
  generalize tree F L = t at *
  have n1 : ¬ ((L.length : Int) = 0) := by omega
  generalize L.length = n at *
  go_enter Try.func24, Try.ntmps24
  go_wp2_with fail
  refine HT.mono ?_
  rintro ev w1 ⟨rfl, hb1⟩
  have hB1 := nextB HA.out hb1
  have R1 := R0.below hb1 R0.lt
  have hbA : Below w1.heap.size w1 (w1.alloc (.cells (bys zero32).toArray 26)) := (Below.refl _ _).alloc (Nat.le_refl _) _
  have RA := Row.new w1 26 (bys zero32)
  have hlt1 := R1.lt
  go_wp2_with (first | (refine store26 rfl _ _ rfl w1 w1.heap.size _ ht rfl rfl zero32 zero32_len RA _ hbA (Nat.le_refl _) ?_; intro w2 R2 hB2 _; have hS2 := R2.sl; rw [ht] at hS2) | (go_at_call 37; refine (HR.out _ _ hS2).mono ?_; rintro ev w3 ⟨v3, rfl, ho3, hb3⟩) | (go_at_call 25; refine (E.sum _ _ _ (Sl.ofRow ho3) hl).mono ?_; rintro ev w4 ⟨rfl, hb4⟩; have hb14 := nextB (nextB hB2 hb3) hb4; have R4 := R1.below hb14 hlt1; have hB4 := nextB hB1 hb14) | (refine store26 rfl _ _ rfl w w.heap.size _ hlen rfl rfl zero32 zero32_len R4 _ hB4 (Nat.le_refl _) ?_; intro w5 R5 hB5 _))
  exact bodyPost_ret (v := .agg _) (results_cell_row Try.results24 _ _ w.heap.size 26 _ (0, 0) _ rfl R5.heap Try.underlying26 rfl hz) rfl ⟨rfl, hB5⟩
theorem rootBy_any (F : Bys → Bys) (E : Env F) (w : World) (v : Value) (L : List Bys) (h : Ls w v L) (hs : Short L) (h9 : L.length ≤ 1000000) :
    Calls Try.prog 24 #[fn25, v] w fun ev w' => ev = .returned (.agg (bys (root F L)).toArray) ∧ Below w.heap.size w w' := by
  rcases Nat.eq_zero_or_pos L.length with h0 | h0
  · obtain rfl := List.eq_nil_of_length_eq_zero h0
    obtain ⟨ao, cp, rfl⟩ := h.slice
    exact rootBy_none F E w ao cp
  · exact rootBy_some F E w v L h hs h0 h9

set_option maxHeartbeats 4000000 in
theorem root_any (F : Bys → Bys) (E : Env F) (w : World) (v : Value) (L : List Bys) (h : Ls w v L) (hs : Short L) (h9 : L.length ≤ 1000000) :
    Calls Try.prog 11 #[v] w fun ev w' => ev = .returned (.agg (bys (root F L)).toArray) ∧ Below w.heap.size w w' := by
  have hA : Below w.heap.size w (w.alloc (.cells (bys zero32).toArray 26)) := (Below.refl _ _).alloc (Nat.le_refl _) _
  have HT := rootBy_any F E (w.alloc (.cells (bys zero32).toArray 26)) _ L (h.below hA) hs h9
  have HA : Hid (Below w.heap.size w (w.alloc (.cells (bys zero32).toArray 26))) := hA
  have R0 := Row.new w 26 (bys zero32)
  have hlen : (root F L).length = 32 := E.len _
  have hz := size26 _ hlen
  unfold fn25 at HT
  clear hA h hs
  generalize root F L = r at *
  go_enter Try.func11, Try.ntmps11
  go_wp2_with (first | (go_at_call 24; refine HT.mono ?_; rintro ev w1 ⟨rfl, hb1⟩; have hB1 := nextB HA.out hb1; have R1 := R0.below hb1 R0.lt) | (refine store26 rfl _ _ rfl w w.heap.size _ hlen rfl rfl zero32 zero32_len R1 _ hB1 (Nat.le_refl _) ?_; intro w5 R5 hB5 _))
  exact bodyPost_ret (v := .agg _) (results_cell_row Try.results11 _ _ w.heap.size 26 _ (0, 0) _ rfl R5.heap Try.underlying26 rfl hz) rfl ⟨rfl, hB5⟩

set_option maxHeartbeats 4000000 in
theorem leaf_any (F : Bys → Bys) (E : Env F) (w : World) (v : Value) (l : Bys) (h : Sl w v l) (hl : l.length ≤ 100000) :
    Calls Try.prog 23 #[v] w fun ev w' => ev = .returned (.agg (bys (F (0 :: l))).toArray) ∧ Below w.heap.size w w' := by
  have hA : Below w.heap.size w (w.alloc (.cells (bys zero32).toArray 26)) := (Below.refl _ _).alloc (Nat.le_refl _) _
  have HT := leafText_any (w.alloc (.cells (bys zero32).toArray 26)) _ l (h.below hA) (by omega)
  have HA : Hid (Below w.heap.size w (w.alloc (.cells (bys zero32).toArray 26))) := hA
  have R0 := Row.new w 26 (bys zero32)
  have hlen : (F (0 :: l)).length = 32 := E.len _
  have hz := size26 _ hlen
  clear hA h
  go_enter Try.func23, Try.ntmps23
  go_wp2_with (first | (go_at_call 36; refine HT.mono ?_; rintro ev w1 ⟨v1, rfl, ho1, hb1⟩) | (go_at_call 25; refine (E.sum _ _ _ (Sl.ofRow ho1) (by simp; omega)).mono ?_; rintro ev w2 ⟨rfl, hb2⟩; have hb12 := nextB hb1 hb2; have R2 := R0.below hb12 R0.lt; have hB2 := nextB HA.out hb12) | (refine store26 rfl _ _ rfl w w.heap.size _ hlen rfl rfl zero32 zero32_len R2 _ hB2 (Nat.le_refl _) ?_; intro w3 R3 hB3 _))
  exact bodyPost_ret (v := .agg _) (results_cell_row Try.results23 _ _ w.heap.size 26 _ (0, 0) _ rfl R3.heap Try.underlying26 rfl hz) rfl ⟨rfl, hB3⟩
end Go.Proofs.Ytfkibbpekngciaa
