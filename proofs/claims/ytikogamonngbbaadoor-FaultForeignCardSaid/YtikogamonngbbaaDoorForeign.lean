/-
  FaultForeign's walk: whatever the number, the place and the way are, it answers true, and nothing that was there has changed.
-/
import Derived.Test.YtikogamonngbbaaDoorTold
namespace Go.Proofs.YtikogamonngbbaaDoor
open Go.RowKit Go.Extern.Stop Go.Stop Go.Extern Err

theorem sl_nil (w : World) : Sl w (.slice none 0 0) [] := ⟨_, _, rfl, Nat.le_refl _, fun k hk => by cases hk⟩
theorem sl_one (w w' : World) (a : Int) (hb : Below (w.heap.size + 1) (w.alloc (.cells #[.int .i64 a] 3)) w') : Sl w' (.slice (some ⟨w.heap.size, 0, none⟩) 1 1) [a] :=
  ⟨_, _, rfl, Nat.le_refl _, fun k hk => ⟨_, _, rfl, by
    match k, hk with
    | 0, _ => rw [hb.cell (by simp)]; simp⟩⟩

set_option maxHeartbeats 4000000 in
theorem foreign_0 (c a h : Int) (w : World) (hg : Glob w) (hc : c ≠ 0) (m0 : ((wrap64 (h.tmod 4 + 4)).tmod 4 == 0) = true) : Calls Tryd.prog 4 #[.int .i64 c, .int .i64 a, .int .i64 h] w fun ev w' => ev = .returned (.bool true) ∧ Below w.heap.size w w' := by
  have hc0 : (c == 0) = false := by simpa using hc
  have hk : (links (ff (num c))).length ≤ 100 := Nat.le_of_ble_eq_true rfl
  have hB0 : Below w.heap.size w (w.alloc (.cells #[.int .i64 a] 3)) := (Below.refl _ _).alloc (Nat.le_refl _) _
  have hl0 : lies (w.alloc (.cells #[.int .i64 a] 3)) (num c) := trivial
  have hs0 := sl_nil (w.alloc (.cells #[.int .i64 a] 3))
  go_enter Tryd.func4, Tryd.ntmps4
  go_wp2_with fail
  refine (told_any _ (hg.below hB0)).mono ?_
  rintro ev w1 ⟨rfl, hB1'⟩
  have hl1 := lies_below hB1' (Nat.le_refl _) hl0
  have hs1 := hs0.below hB1'
  have hB1 := hB0.trans (hB1'.mono hB0.size)
  clear hB1' hl0 hs0 hB0
  go_wp2_with fail
  refine (code_any (num c) _ (hg.below hB1) hl1).mono ?_
  rintro ev w2 ⟨rfl, hB2'⟩
  rw [show code (num c) = c from rfl]
  have hl2 := lies_below hB2' (Nat.le_refl _) hl1
  have hs2 := hs1.below hB2'
  have hB2 := hB1.trans (hB2'.mono hB1.size)
  clear hB2' hl1 hs1 hB1
  go_wp2_with fail
  refine (at_any (num c) _ (hg.below hB2) hl2 hk).mono ?_
  rintro ev w3 ⟨rfl, hB3'⟩
  rw [show at_ (num c) = 0 from rfl]
  have hl3 := lies_below hB3' (Nat.le_refl _) hl2
  have hs3 := hs2.below hB3'
  have hB3 := hB2.trans (hB3'.mono hB2.size)
  clear hB3' hl2 hs2 hB2
  go_wp2_with fail
  refine (path_any (num c) _ (hg.below hB3) hl3 hk).mono ?_
  rintro ev w4 ⟨v, rfl, hown, hB4'⟩
  have hv := sl_own hown
  rw [show path (num c) = [] from rfl] at hv
  have hl4 := lies_below hB4' (Nat.le_refl _) hl3
  have hs4 := hs3.below hB4'
  have hB4 := hB3.trans (hB4'.mono hB3.size)
  clear hB4' hl3 hs3 hB3 hown
  go_wp2_with fail
  refine (ints_same _ _ [] _ hv hs4 (by simp)).mono ?_
  rintro ev w5 ⟨rfl, hB5'⟩
  have hl5 := lies_below hB5' (Nat.le_refl _) hl4
  have hB5 := hB4.trans (hB5'.mono hB4.size)
  clear hB5' hl4 hs4 hB4 hv
  go_wp2_with fail
  refine (is_fault (num c) c _ (hg.below hB5) hl5 hk).mono ?_
  rintro ev w6 ⟨rfl, hB6'⟩
  rw [show has c (num c) = true from (show (c == c) = true by simp)]
  have hl6 := lies_below hB6' (Nat.le_refl _) hl5
  have hB6 := hB5.trans (hB6'.mono hB5.size)
  clear hB6' hl5 hB5
  go_wp2_with fail
  refine (in_any (num c) 9 _ (hg.below hB6) hl6).mono ?_
  rintro ev w7 ⟨b7, -, rfl, hl7, hB7'⟩
  obtain ⟨F, hF, f1, f2, f3, f4⟩ : ∃ F, F = fault b7 (code (num c)) 9 (num c) ∧ code F = c ∧ path F = [9] ∧ has c F = true ∧ (links (ff F)).length ≤ 100 := ⟨_, rfl, rfl, rfl, (show (c == c) = true by simp), Nat.le_of_ble_eq_true rfl⟩
  rw [← hF] at hl7 ⊢
  have hB7 := hB6.trans (hB7'.mono hB6.size)
  clear hB7' hl6 hB6 hF
  go_wp2_with fail
  refine (path_any F _ (hg.below hB7) hl7 f4).mono ?_
  rintro ev w8 ⟨v8, rfl, hown, hB8'⟩
  rw [f2] at hown
  obtain ⟨g, cap, rfl, -, hgl, hnc, hcm, hcl⟩ := own_some hown (by decide)
  have q8 : w8.cell? ⟨g, 0, none⟩ = some (.int .i64 9) := hcl 0 (by decide)
  have hl8 := lies_below hB8' (Nat.le_refl _) hl7
  have hB8 := hB7.trans (hB8'.mono hB7.size)
  clear hB8' hl7 hB7 hown hcl
  simp only [List.length_cons, List.length_nil, Nat.zero_add] at hnc ⊢
  go_wp2_with fail
  refine (code_any F _ (hg.below hB8) hl8).mono ?_
  rintro ev w9 ⟨rfl, hB9'⟩
  rw [f1]
  have hl9 := lies_below hB9' (Nat.le_refl _) hl8
  have q9 : w9.cell? ⟨g, 0, none⟩ = some (.int .i64 9) := (hB9'.cell (p := ⟨g, 0, none⟩) hgl).trans q8
  have hB9 := hB8.trans (hB9'.mono hB8.size)
  clear hB9' hl8 hB8 q8
  go_wp2_with fail
  refine (is_fault F c _ (hg.below hB9) hl9 f4).mono ?_
  rintro ev w10 ⟨rfl, hB10'⟩
  rw [f3]
  have hB10 := hB9.trans (hB10'.mono hB9.size)
  clear hB10' hl9 hB9 q9
  go_wp2
  go_ret
  exact ⟨rfl, hB10⟩

set_option maxHeartbeats 4000000 in
theorem foreign_1 (c a h : Int) (w : World) (hg : Glob w) (hc : c ≠ 0) (m0 : ((wrap64 (h.tmod 4 + 4)).tmod 4 == 0) = false) (m1 : ((wrap64 (h.tmod 4 + 4)).tmod 4 == 1) = true) : Calls Tryd.prog 4 #[.int .i64 c, .int .i64 a, .int .i64 h] w fun ev w' => ev = .returned (.bool true) ∧ Below w.heap.size w w' := by
  have hc0 : (c == 0) = false := by simpa using hc
  have hk : (links (ff (odd (num c)))).length ≤ 100 := Nat.le_of_ble_eq_true rfl
  have hB0 : Below w.heap.size w (w.alloc (.cells #[.int .i64 a] 3)) := (Below.refl _ _).alloc (Nat.le_refl _) _
  have hl0 : lies (w.alloc (.cells #[.int .i64 a] 3)) (odd (num c)) := trivial
  have hs0 := sl_nil (w.alloc (.cells #[.int .i64 a] 3))
  go_enter Tryd.func4, Tryd.ntmps4
  go_wp2_with fail
  refine (told_any _ (hg.below hB0)).mono ?_
  rintro ev w1 ⟨rfl, hB1'⟩
  have hl1 := lies_below hB1' (Nat.le_refl _) hl0
  have hs1 := hs0.below hB1'
  have hB1 := hB0.trans (hB1'.mono hB0.size)
  clear hB1' hl0 hs0 hB0
  go_wp2_with fail
  refine (code_any (odd (num c)) _ (hg.below hB1) hl1).mono ?_
  rintro ev w2 ⟨rfl, hB2'⟩
  rw [show code (odd (num c)) = c from rfl]
  have hl2 := lies_below hB2' (Nat.le_refl _) hl1
  have hs2 := hs1.below hB2'
  have hB2 := hB1.trans (hB2'.mono hB1.size)
  clear hB2' hl1 hs1 hB1
  go_wp2_with fail
  refine (at_any (odd (num c)) _ (hg.below hB2) hl2 hk).mono ?_
  rintro ev w3 ⟨rfl, hB3'⟩
  rw [show at_ (odd (num c)) = 0 from rfl]
  have hl3 := lies_below hB3' (Nat.le_refl _) hl2
  have hs3 := hs2.below hB3'
  have hB3 := hB2.trans (hB3'.mono hB2.size)
  clear hB3' hl2 hs2 hB2
  go_wp2_with fail
  refine (path_any (odd (num c)) _ (hg.below hB3) hl3 hk).mono ?_
  rintro ev w4 ⟨v, rfl, hown, hB4'⟩
  have hv := sl_own hown
  rw [show path (odd (num c)) = [] from rfl] at hv
  have hl4 := lies_below hB4' (Nat.le_refl _) hl3
  have hs4 := hs3.below hB4'
  have hB4 := hB3.trans (hB4'.mono hB3.size)
  clear hB4' hl3 hs3 hB3 hown
  go_wp2_with fail
  refine (ints_same _ _ [] _ hv hs4 (by simp)).mono ?_
  rintro ev w5 ⟨rfl, hB5'⟩
  have hl5 := lies_below hB5' (Nat.le_refl _) hl4
  have hB5 := hB4.trans (hB5'.mono hB4.size)
  clear hB5' hl4 hs4 hB4 hv
  go_wp2_with fail
  refine (is_fault (odd (num c)) c _ (hg.below hB5) hl5 hk).mono ?_
  rintro ev w6 ⟨rfl, hB6'⟩
  rw [show has c (odd (num c)) = true from (show (c == c) = true by simp)]
  have hl6 := lies_below hB6' (Nat.le_refl _) hl5
  have hB6 := hB5.trans (hB6'.mono hB5.size)
  clear hB6' hl5 hB5
  go_wp2_with fail
  refine (in_any (odd (num c)) 9 _ (hg.below hB6) hl6).mono ?_
  rintro ev w7 ⟨b7, -, rfl, hl7, hB7'⟩
  obtain ⟨F, hF, f1, f2, f3, f4⟩ : ∃ F, F = fault b7 (code (odd (num c))) 9 (odd (num c)) ∧ code F = c ∧ path F = [9] ∧ has c F = true ∧ (links (ff F)).length ≤ 100 := ⟨_, rfl, rfl, rfl, (show (c == c) = true by simp), Nat.le_of_ble_eq_true rfl⟩
  rw [← hF] at hl7 ⊢
  have hB7 := hB6.trans (hB7'.mono hB6.size)
  clear hB7' hl6 hB6 hF
  go_wp2_with fail
  refine (path_any F _ (hg.below hB7) hl7 f4).mono ?_
  rintro ev w8 ⟨v8, rfl, hown, hB8'⟩
  rw [f2] at hown
  obtain ⟨g, cap, rfl, -, hgl, hnc, hcm, hcl⟩ := own_some hown (by decide)
  have q8 : w8.cell? ⟨g, 0, none⟩ = some (.int .i64 9) := hcl 0 (by decide)
  have hl8 := lies_below hB8' (Nat.le_refl _) hl7
  have hB8 := hB7.trans (hB8'.mono hB7.size)
  clear hB8' hl7 hB7 hown hcl
  simp only [List.length_cons, List.length_nil, Nat.zero_add] at hnc ⊢
  go_wp2_with fail
  refine (code_any F _ (hg.below hB8) hl8).mono ?_
  rintro ev w9 ⟨rfl, hB9'⟩
  rw [f1]
  have hl9 := lies_below hB9' (Nat.le_refl _) hl8
  have q9 : w9.cell? ⟨g, 0, none⟩ = some (.int .i64 9) := (hB9'.cell (p := ⟨g, 0, none⟩) hgl).trans q8
  have hB9 := hB8.trans (hB9'.mono hB8.size)
  clear hB9' hl8 hB8 q8
  go_wp2_with fail
  refine (is_fault F c _ (hg.below hB9) hl9 f4).mono ?_
  rintro ev w10 ⟨rfl, hB10'⟩
  rw [f3]
  have hB10 := hB9.trans (hB10'.mono hB9.size)
  clear hB10' hl9 hB9 q9
  go_wp2
  go_ret
  exact ⟨rfl, hB10⟩

set_option maxHeartbeats 4000000 in
theorem foreign_3 (c a h : Int) (w : World) (hg : Glob w) (hc : c ≠ 0) (m0 : ((wrap64 (h.tmod 4 + 4)).tmod 4 == 0) = false) (m1 : ((wrap64 (h.tmod 4 + 4)).tmod 4 == 1) = false) (m2 : ((wrap64 (h.tmod 4 + 4)).tmod 4 == 2) = false) : Calls Tryd.prog 4 #[.int .i64 c, .int .i64 a, .int .i64 h] w fun ev w' => ev = .returned (.bool true) ∧ Below w.heap.size w w' := by
  have hc0 : (c == 0) = false := by simpa using hc
  have hk : (links (ff (bare))).length ≤ 100 := Nat.le_of_ble_eq_true rfl
  have hB0 : Below w.heap.size w (w.alloc (.cells #[.int .i64 a] 3)) := (Below.refl _ _).alloc (Nat.le_refl _) _
  have hl0 : lies (w.alloc (.cells #[.int .i64 a] 3)) (bare) := trivial
  have hs0 := sl_nil (w.alloc (.cells #[.int .i64 a] 3))
  go_enter Tryd.func4, Tryd.ntmps4
  go_wp2_with fail
  refine (told_any _ (hg.below hB0)).mono ?_
  rintro ev w1 ⟨rfl, hB1'⟩
  have hl1 := lies_below hB1' (Nat.le_refl _) hl0
  have hs1 := hs0.below hB1'
  have hB1 := hB0.trans (hB1'.mono hB0.size)
  clear hB1' hl0 hs0 hB0
  go_wp2_with fail
  refine (code_any (bare) _ (hg.below hB1) hl1).mono ?_
  rintro ev w2 ⟨rfl, hB2'⟩
  rw [show code (bare) = 1 from rfl]
  have hl2 := lies_below hB2' (Nat.le_refl _) hl1
  have hs2 := hs1.below hB2'
  have hB2 := hB1.trans (hB2'.mono hB1.size)
  clear hB2' hl1 hs1 hB1
  go_wp2_with fail
  refine (at_any (bare) _ (hg.below hB2) hl2 hk).mono ?_
  rintro ev w3 ⟨rfl, hB3'⟩
  rw [show at_ (bare) = 0 from rfl]
  have hl3 := lies_below hB3' (Nat.le_refl _) hl2
  have hs3 := hs2.below hB3'
  have hB3 := hB2.trans (hB3'.mono hB2.size)
  clear hB3' hl2 hs2 hB2
  go_wp2_with fail
  refine (path_any (bare) _ (hg.below hB3) hl3 hk).mono ?_
  rintro ev w4 ⟨v, rfl, hown, hB4'⟩
  have hv := sl_own hown
  rw [show path (bare) = [] from rfl] at hv
  have hl4 := lies_below hB4' (Nat.le_refl _) hl3
  have hs4 := hs3.below hB4'
  have hB4 := hB3.trans (hB4'.mono hB3.size)
  clear hB4' hl3 hs3 hB3 hown
  go_wp2_with fail
  refine (ints_same _ _ [] _ hv hs4 (by simp)).mono ?_
  rintro ev w5 ⟨rfl, hB5'⟩
  have hl5 := lies_below hB5' (Nat.le_refl _) hl4
  have hB5 := hB4.trans (hB5'.mono hB4.size)
  clear hB5' hl4 hs4 hB4 hv
  go_wp2_with fail
  refine (is_fault (bare) c _ (hg.below hB5) hl5 hk).mono ?_
  rintro ev w6 ⟨rfl, hB6'⟩
  rw [show has c (bare) = false from rfl]
  have hl6 := lies_below hB6' (Nat.le_refl _) hl5
  have hB6 := hB5.trans (hB6'.mono hB5.size)
  clear hB6' hl5 hB5
  go_wp2_with fail
  refine (in_any (bare) 9 _ (hg.below hB6) hl6).mono ?_
  rintro ev w7 ⟨b7, -, rfl, hl7, hB7'⟩
  obtain ⟨F, hF, f1, f2, f3, f4⟩ : ∃ F, F = fault b7 (code (bare)) 9 (bare) ∧ code F = 1 ∧ path F = [9] ∧ has c F = false ∧ (links (ff F)).length ≤ 100 := ⟨_, rfl, rfl, rfl, rfl, Nat.le_of_ble_eq_true rfl⟩
  rw [← hF] at hl7 ⊢
  have hB7 := hB6.trans (hB7'.mono hB6.size)
  clear hB7' hl6 hB6 hF
  go_wp2_with fail
  refine (path_any F _ (hg.below hB7) hl7 f4).mono ?_
  rintro ev w8 ⟨v8, rfl, hown, hB8'⟩
  rw [f2] at hown
  obtain ⟨g, cap, rfl, -, hgl, hnc, hcm, hcl⟩ := own_some hown (by decide)
  have q8 : w8.cell? ⟨g, 0, none⟩ = some (.int .i64 9) := hcl 0 (by decide)
  have hl8 := lies_below hB8' (Nat.le_refl _) hl7
  have hB8 := hB7.trans (hB8'.mono hB7.size)
  clear hB8' hl7 hB7 hown hcl
  simp only [List.length_cons, List.length_nil, Nat.zero_add] at hnc ⊢
  go_wp2_with fail
  refine (code_any F _ (hg.below hB8) hl8).mono ?_
  rintro ev w9 ⟨rfl, hB9'⟩
  rw [f1]
  have hl9 := lies_below hB9' (Nat.le_refl _) hl8
  have q9 : w9.cell? ⟨g, 0, none⟩ = some (.int .i64 9) := (hB9'.cell (p := ⟨g, 0, none⟩) hgl).trans q8
  have hB9 := hB8.trans (hB9'.mono hB8.size)
  clear hB9' hl8 hB8 q8
  go_wp2_with fail
  refine (is_fault F c _ (hg.below hB9) hl9 f4).mono ?_
  rintro ev w10 ⟨rfl, hB10'⟩
  rw [f3]
  have hB10 := hB9.trans (hB10'.mono hB9.size)
  clear hB10' hl9 hB9 q9
  go_wp2
  go_ret
  exact ⟨rfl, hB10⟩

set_option maxHeartbeats 4000000 in
theorem foreign_2 (c a h : Int) (w : World) (hg : Glob w) (hc : c ≠ 0) (m0 : ((wrap64 (h.tmod 4 + 4)).tmod 4 == 0) = false) (m1 : ((wrap64 (h.tmod 4 + 4)).tmod 4 == 1) = false) (m2 : ((wrap64 (h.tmod 4 + 4)).tmod 4 == 2) = true) : Calls Tryd.prog 4 #[.int .i64 c, .int .i64 a, .int .i64 h] w fun ev w' => ev = .returned (.bool true) ∧ Below w.heap.size w w' := by
  have hc0 : (c == 0) = false := by simpa using hc
  have hk : (links (ff (odd (fault (w.heap.size + 1) c a (num c))))).length ≤ 100 := Nat.le_of_ble_eq_true rfl
  have hBa : Below w.heap.size w (w.alloc (.cells #[.int .i64 a] 3)) := (Below.refl _ _).alloc (Nat.le_refl _) _
  have C := new_any c a (w.alloc (.cells #[.int .i64 a] 3)) hc
  go_enter Tryd.func4, Tryd.ntmps4
  go_wp2_with fail
  refine C.mono ?_
  rintro ev w0 ⟨rfl, hl0', hB0'⟩
  rw [World.size_alloc] at hl0' hB0' ⊢
  simp only [val_fault]
  have hs0 := sl_one w w0 a hB0'
  have hl0 : lies w0 (odd (fault (w.heap.size + 1) c a (num c))) := hl0'
  have hB0 := hBa.trans (hB0'.mono (Nat.le_succ _))
  clear hl0' hB0' hBa C
  go_wp2_with fail
  refine (told_any _ (hg.below hB0)).mono ?_
  rintro ev w1 ⟨rfl, hB1'⟩
  have hl1 := lies_below hB1' (Nat.le_refl _) hl0
  have hs1 := hs0.below hB1'
  have hB1 := hB0.trans (hB1'.mono hB0.size)
  clear hB1' hl0 hs0 hB0
  go_wp2_with fail
  refine (code_any (odd (fault (w.heap.size + 1) c a (num c))) _ (hg.below hB1) hl1).mono ?_
  rintro ev w2 ⟨rfl, hB2'⟩
  rw [show code (odd (fault (w.heap.size + 1) c a (num c))) = c from rfl]
  have hl2 := lies_below hB2' (Nat.le_refl _) hl1
  have hs2 := hs1.below hB2'
  have hB2 := hB1.trans (hB2'.mono hB1.size)
  clear hB2' hl1 hs1 hB1
  go_wp2_with fail
  refine (at_any (odd (fault (w.heap.size + 1) c a (num c))) _ (hg.below hB2) hl2 hk).mono ?_
  rintro ev w3 ⟨rfl, hB3'⟩
  rw [show at_ (odd (fault (w.heap.size + 1) c a (num c))) = a from rfl]
  have hl3 := lies_below hB3' (Nat.le_refl _) hl2
  have hs3 := hs2.below hB3'
  have hB3 := hB2.trans (hB3'.mono hB2.size)
  clear hB3' hl2 hs2 hB2
  go_wp2_with fail
  refine (path_any (odd (fault (w.heap.size + 1) c a (num c))) _ (hg.below hB3) hl3 hk).mono ?_
  rintro ev w4 ⟨v, rfl, hown, hB4'⟩
  have hv := sl_own hown
  rw [show path (odd (fault (w.heap.size + 1) c a (num c))) = [a] from rfl] at hv
  have hl4 := lies_below hB4' (Nat.le_refl _) hl3
  have hs4 := hs3.below hB4'
  have hB4 := hB3.trans (hB4'.mono hB3.size)
  clear hB4' hl3 hs3 hB3 hown
  go_wp2_with fail
  refine (ints_same _ _ [a] _ hv hs4 (by simp)).mono ?_
  rintro ev w5 ⟨rfl, hB5'⟩
  have hl5 := lies_below hB5' (Nat.le_refl _) hl4
  have hB5 := hB4.trans (hB5'.mono hB4.size)
  clear hB5' hl4 hs4 hB4 hv
  go_wp2_with fail
  refine (is_fault (odd (fault (w.heap.size + 1) c a (num c))) c _ (hg.below hB5) hl5 hk).mono ?_
  rintro ev w6 ⟨rfl, hB6'⟩
  rw [show has c (odd (fault (w.heap.size + 1) c a (num c))) = true from (show (c == c) = true by simp)]
  have hl6 := lies_below hB6' (Nat.le_refl _) hl5
  have hB6 := hB5.trans (hB6'.mono hB5.size)
  clear hB6' hl5 hB5
  go_wp2_with fail
  refine (in_any (odd (fault (w.heap.size + 1) c a (num c))) 9 _ (hg.below hB6) hl6).mono ?_
  rintro ev w7 ⟨b7, -, rfl, hl7, hB7'⟩
  obtain ⟨F, hF, f1, f2, f3, f4⟩ : ∃ F, F = fault b7 (code (odd (fault (w.heap.size + 1) c a (num c)))) 9 (odd (fault (w.heap.size + 1) c a (num c))) ∧ code F = c ∧ path F = [9] ∧ has c F = true ∧ (links (ff F)).length ≤ 100 := ⟨_, rfl, rfl, rfl, (show (c == c) = true by simp), Nat.le_of_ble_eq_true rfl⟩
  rw [← hF] at hl7 ⊢
  have hB7 := hB6.trans (hB7'.mono hB6.size)
  clear hB7' hl6 hB6 hF
  go_wp2_with fail
  refine (path_any F _ (hg.below hB7) hl7 f4).mono ?_
  rintro ev w8 ⟨v8, rfl, hown, hB8'⟩
  rw [f2] at hown
  obtain ⟨g, cap, rfl, -, hgl, hnc, hcm, hcl⟩ := own_some hown (by decide)
  have q8 : w8.cell? ⟨g, 0, none⟩ = some (.int .i64 9) := hcl 0 (by decide)
  have hl8 := lies_below hB8' (Nat.le_refl _) hl7
  have hB8 := hB7.trans (hB8'.mono hB7.size)
  clear hB8' hl7 hB7 hown hcl
  simp only [List.length_cons, List.length_nil, Nat.zero_add] at hnc ⊢
  go_wp2_with fail
  refine (code_any F _ (hg.below hB8) hl8).mono ?_
  rintro ev w9 ⟨rfl, hB9'⟩
  rw [f1]
  have hl9 := lies_below hB9' (Nat.le_refl _) hl8
  have q9 : w9.cell? ⟨g, 0, none⟩ = some (.int .i64 9) := (hB9'.cell (p := ⟨g, 0, none⟩) hgl).trans q8
  have hB9 := hB8.trans (hB9'.mono hB8.size)
  clear hB9' hl8 hB8 q8
  go_wp2_with fail
  refine (is_fault F c _ (hg.below hB9) hl9 f4).mono ?_
  rintro ev w10 ⟨rfl, hB10'⟩
  rw [f3]
  have hB10 := hB9.trans (hB10'.mono hB9.size)
  clear hB10' hl9 hB9 q9
  go_wp2
  go_ret
  exact ⟨rfl, hB10⟩

theorem foreign_any (c a h : Int) (w : World) (hg : Glob w) (hc : c ≠ 0) : Calls Tryd.prog 4 #[.int .i64 c, .int .i64 a, .int .i64 h] w fun ev w' => ev = .returned (.bool true) ∧ Below w.heap.size w w' := by
  cases m0 : ((wrap64 (h.tmod 4 + 4)).tmod 4 == 0) with
  | true => exact foreign_0 c a h w hg hc m0
  | false =>
    cases m1 : ((wrap64 (h.tmod 4 + 4)).tmod 4 == 1) with
    | true => exact foreign_1 c a h w hg hc m0 m1
    | false =>
      cases m2 : ((wrap64 (h.tmod 4 + 4)).tmod 4 == 2) with
      | true => exact foreign_2 c a h w hg hc m0 m1 m2
      | false => exact foreign_3 c a h w hg hc m0 m1 m2

set_option maxHeartbeats 4000000 in
theorem foreignz_0 (a h : Int) (w : World) (hg : Glob w) (m0 : ((wrap64 (h.tmod 4 + 4)).tmod 4 == 0) = true) : Calls Tryd.prog 4 #[.int .i64 0, .int .i64 a, .int .i64 h] w fun ev w' => ev = .returned (.bool true) ∧ Below w.heap.size w w' := by
  have hk : (links (ff (num 1))).length ≤ 100 := Nat.le_of_ble_eq_true rfl
  have hB0 : Below w.heap.size w (w.alloc (.cells #[.int .i64 a] 3)) := (Below.refl _ _).alloc (Nat.le_refl _) _
  have hl0 : lies (w.alloc (.cells #[.int .i64 a] 3)) (num 1) := trivial
  have hs0 := sl_nil (w.alloc (.cells #[.int .i64 a] 3))
  go_enter Tryd.func4, Tryd.ntmps4
  go_wp2_with fail
  refine (told_any _ (hg.below hB0)).mono ?_
  rintro ev w1 ⟨rfl, hB1'⟩
  have hl1 := lies_below hB1' (Nat.le_refl _) hl0
  have hs1 := hs0.below hB1'
  have hB1 := hB0.trans (hB1'.mono hB0.size)
  clear hB1' hl0 hs0 hB0
  go_wp2_with fail
  refine (code_any (num 1) _ (hg.below hB1) hl1).mono ?_
  rintro ev w2 ⟨rfl, hB2'⟩
  rw [show code (num 1) = 1 from rfl]
  have hl2 := lies_below hB2' (Nat.le_refl _) hl1
  have hs2 := hs1.below hB2'
  have hB2 := hB1.trans (hB2'.mono hB1.size)
  clear hB2' hl1 hs1 hB1
  go_wp2_with fail
  refine (at_any (num 1) _ (hg.below hB2) hl2 hk).mono ?_
  rintro ev w3 ⟨rfl, hB3'⟩
  rw [show at_ (num 1) = 0 from rfl]
  have hl3 := lies_below hB3' (Nat.le_refl _) hl2
  have hs3 := hs2.below hB3'
  have hB3 := hB2.trans (hB3'.mono hB2.size)
  clear hB3' hl2 hs2 hB2
  go_wp2_with fail
  refine (path_any (num 1) _ (hg.below hB3) hl3 hk).mono ?_
  rintro ev w4 ⟨v, rfl, hown, hB4'⟩
  have hv := sl_own hown
  rw [show path (num 1) = [] from rfl] at hv
  have hl4 := lies_below hB4' (Nat.le_refl _) hl3
  have hs4 := hs3.below hB4'
  have hB4 := hB3.trans (hB4'.mono hB3.size)
  clear hB4' hl3 hs3 hB3 hown
  go_wp2_with fail
  refine (ints_same _ _ [] _ hv hs4 (by simp)).mono ?_
  rintro ev w5 ⟨rfl, hB5'⟩
  have hl5 := lies_below hB5' (Nat.le_refl _) hl4
  have hB5 := hB4.trans (hB5'.mono hB4.size)
  clear hB5' hl4 hs4 hB4 hv
  go_wp2_with fail
  refine (is_fault (num 1) 1 _ (hg.below hB5) hl5 hk).mono ?_
  rintro ev w6 ⟨rfl, hB6'⟩
  rw [show has 1 (num 1) = true from (show (1 == 1) = true by simp)]
  have hl6 := lies_below hB6' (Nat.le_refl _) hl5
  have hB6 := hB5.trans (hB6'.mono hB5.size)
  clear hB6' hl5 hB5
  go_wp2_with fail
  refine (in_any (num 1) 9 _ (hg.below hB6) hl6).mono ?_
  rintro ev w7 ⟨b7, -, rfl, hl7, hB7'⟩
  obtain ⟨F, hF, f1, f2, f3, f4⟩ : ∃ F, F = fault b7 (code (num 1)) 9 (num 1) ∧ code F = 1 ∧ path F = [9] ∧ has 1 F = true ∧ (links (ff F)).length ≤ 100 := ⟨_, rfl, rfl, rfl, (show (1 == 1) = true by simp), Nat.le_of_ble_eq_true rfl⟩
  rw [← hF] at hl7 ⊢
  have hB7 := hB6.trans (hB7'.mono hB6.size)
  clear hB7' hl6 hB6 hF
  go_wp2_with fail
  refine (path_any F _ (hg.below hB7) hl7 f4).mono ?_
  rintro ev w8 ⟨v8, rfl, hown, hB8'⟩
  rw [f2] at hown
  obtain ⟨g, cap, rfl, -, hgl, hnc, hcm, hcl⟩ := own_some hown (by decide)
  have q8 : w8.cell? ⟨g, 0, none⟩ = some (.int .i64 9) := hcl 0 (by decide)
  have hl8 := lies_below hB8' (Nat.le_refl _) hl7
  have hB8 := hB7.trans (hB8'.mono hB7.size)
  clear hB8' hl7 hB7 hown hcl
  simp only [List.length_cons, List.length_nil, Nat.zero_add] at hnc ⊢
  go_wp2_with fail
  refine (code_any F _ (hg.below hB8) hl8).mono ?_
  rintro ev w9 ⟨rfl, hB9'⟩
  rw [f1]
  have hl9 := lies_below hB9' (Nat.le_refl _) hl8
  have q9 : w9.cell? ⟨g, 0, none⟩ = some (.int .i64 9) := (hB9'.cell (p := ⟨g, 0, none⟩) hgl).trans q8
  have hB9 := hB8.trans (hB9'.mono hB8.size)
  clear hB9' hl8 hB8 q8
  go_wp2_with fail
  refine (is_fault F 1 _ (hg.below hB9) hl9 f4).mono ?_
  rintro ev w10 ⟨rfl, hB10'⟩
  rw [f3]
  have hB10 := hB9.trans (hB10'.mono hB9.size)
  clear hB10' hl9 hB9 q9
  go_wp2
  go_ret
  exact ⟨rfl, hB10⟩

set_option maxHeartbeats 4000000 in
theorem foreignz_1 (a h : Int) (w : World) (hg : Glob w) (m0 : ((wrap64 (h.tmod 4 + 4)).tmod 4 == 0) = false) (m1 : ((wrap64 (h.tmod 4 + 4)).tmod 4 == 1) = true) : Calls Tryd.prog 4 #[.int .i64 0, .int .i64 a, .int .i64 h] w fun ev w' => ev = .returned (.bool true) ∧ Below w.heap.size w w' := by
  have hk : (links (ff (odd (num 1)))).length ≤ 100 := Nat.le_of_ble_eq_true rfl
  have hB0 : Below w.heap.size w (w.alloc (.cells #[.int .i64 a] 3)) := (Below.refl _ _).alloc (Nat.le_refl _) _
  have hl0 : lies (w.alloc (.cells #[.int .i64 a] 3)) (odd (num 1)) := trivial
  have hs0 := sl_nil (w.alloc (.cells #[.int .i64 a] 3))
  go_enter Tryd.func4, Tryd.ntmps4
  go_wp2_with fail
  refine (told_any _ (hg.below hB0)).mono ?_
  rintro ev w1 ⟨rfl, hB1'⟩
  have hl1 := lies_below hB1' (Nat.le_refl _) hl0
  have hs1 := hs0.below hB1'
  have hB1 := hB0.trans (hB1'.mono hB0.size)
  clear hB1' hl0 hs0 hB0
  go_wp2_with fail
  refine (code_any (odd (num 1)) _ (hg.below hB1) hl1).mono ?_
  rintro ev w2 ⟨rfl, hB2'⟩
  rw [show code (odd (num 1)) = 1 from rfl]
  have hl2 := lies_below hB2' (Nat.le_refl _) hl1
  have hs2 := hs1.below hB2'
  have hB2 := hB1.trans (hB2'.mono hB1.size)
  clear hB2' hl1 hs1 hB1
  go_wp2_with fail
  refine (at_any (odd (num 1)) _ (hg.below hB2) hl2 hk).mono ?_
  rintro ev w3 ⟨rfl, hB3'⟩
  rw [show at_ (odd (num 1)) = 0 from rfl]
  have hl3 := lies_below hB3' (Nat.le_refl _) hl2
  have hs3 := hs2.below hB3'
  have hB3 := hB2.trans (hB3'.mono hB2.size)
  clear hB3' hl2 hs2 hB2
  go_wp2_with fail
  refine (path_any (odd (num 1)) _ (hg.below hB3) hl3 hk).mono ?_
  rintro ev w4 ⟨v, rfl, hown, hB4'⟩
  have hv := sl_own hown
  rw [show path (odd (num 1)) = [] from rfl] at hv
  have hl4 := lies_below hB4' (Nat.le_refl _) hl3
  have hs4 := hs3.below hB4'
  have hB4 := hB3.trans (hB4'.mono hB3.size)
  clear hB4' hl3 hs3 hB3 hown
  go_wp2_with fail
  refine (ints_same _ _ [] _ hv hs4 (by simp)).mono ?_
  rintro ev w5 ⟨rfl, hB5'⟩
  have hl5 := lies_below hB5' (Nat.le_refl _) hl4
  have hB5 := hB4.trans (hB5'.mono hB4.size)
  clear hB5' hl4 hs4 hB4 hv
  go_wp2_with fail
  refine (is_fault (odd (num 1)) 1 _ (hg.below hB5) hl5 hk).mono ?_
  rintro ev w6 ⟨rfl, hB6'⟩
  rw [show has 1 (odd (num 1)) = true from (show (1 == 1) = true by simp)]
  have hl6 := lies_below hB6' (Nat.le_refl _) hl5
  have hB6 := hB5.trans (hB6'.mono hB5.size)
  clear hB6' hl5 hB5
  go_wp2_with fail
  refine (in_any (odd (num 1)) 9 _ (hg.below hB6) hl6).mono ?_
  rintro ev w7 ⟨b7, -, rfl, hl7, hB7'⟩
  obtain ⟨F, hF, f1, f2, f3, f4⟩ : ∃ F, F = fault b7 (code (odd (num 1))) 9 (odd (num 1)) ∧ code F = 1 ∧ path F = [9] ∧ has 1 F = true ∧ (links (ff F)).length ≤ 100 := ⟨_, rfl, rfl, rfl, (show (1 == 1) = true by simp), Nat.le_of_ble_eq_true rfl⟩
  rw [← hF] at hl7 ⊢
  have hB7 := hB6.trans (hB7'.mono hB6.size)
  clear hB7' hl6 hB6 hF
  go_wp2_with fail
  refine (path_any F _ (hg.below hB7) hl7 f4).mono ?_
  rintro ev w8 ⟨v8, rfl, hown, hB8'⟩
  rw [f2] at hown
  obtain ⟨g, cap, rfl, -, hgl, hnc, hcm, hcl⟩ := own_some hown (by decide)
  have q8 : w8.cell? ⟨g, 0, none⟩ = some (.int .i64 9) := hcl 0 (by decide)
  have hl8 := lies_below hB8' (Nat.le_refl _) hl7
  have hB8 := hB7.trans (hB8'.mono hB7.size)
  clear hB8' hl7 hB7 hown hcl
  simp only [List.length_cons, List.length_nil, Nat.zero_add] at hnc ⊢
  go_wp2_with fail
  refine (code_any F _ (hg.below hB8) hl8).mono ?_
  rintro ev w9 ⟨rfl, hB9'⟩
  rw [f1]
  have hl9 := lies_below hB9' (Nat.le_refl _) hl8
  have q9 : w9.cell? ⟨g, 0, none⟩ = some (.int .i64 9) := (hB9'.cell (p := ⟨g, 0, none⟩) hgl).trans q8
  have hB9 := hB8.trans (hB9'.mono hB8.size)
  clear hB9' hl8 hB8 q8
  go_wp2_with fail
  refine (is_fault F 1 _ (hg.below hB9) hl9 f4).mono ?_
  rintro ev w10 ⟨rfl, hB10'⟩
  rw [f3]
  have hB10 := hB9.trans (hB10'.mono hB9.size)
  clear hB10' hl9 hB9 q9
  go_wp2
  go_ret
  exact ⟨rfl, hB10⟩

set_option maxHeartbeats 4000000 in
theorem foreignz_3 (a h : Int) (w : World) (hg : Glob w) (m0 : ((wrap64 (h.tmod 4 + 4)).tmod 4 == 0) = false) (m1 : ((wrap64 (h.tmod 4 + 4)).tmod 4 == 1) = false) (m2 : ((wrap64 (h.tmod 4 + 4)).tmod 4 == 2) = false) : Calls Tryd.prog 4 #[.int .i64 0, .int .i64 a, .int .i64 h] w fun ev w' => ev = .returned (.bool true) ∧ Below w.heap.size w w' := by
  have hk : (links (ff (bare))).length ≤ 100 := Nat.le_of_ble_eq_true rfl
  have hB0 : Below w.heap.size w (w.alloc (.cells #[.int .i64 a] 3)) := (Below.refl _ _).alloc (Nat.le_refl _) _
  have hl0 : lies (w.alloc (.cells #[.int .i64 a] 3)) (bare) := trivial
  have hs0 := sl_nil (w.alloc (.cells #[.int .i64 a] 3))
  go_enter Tryd.func4, Tryd.ntmps4
  go_wp2_with fail
  refine (told_any _ (hg.below hB0)).mono ?_
  rintro ev w1 ⟨rfl, hB1'⟩
  have hl1 := lies_below hB1' (Nat.le_refl _) hl0
  have hs1 := hs0.below hB1'
  have hB1 := hB0.trans (hB1'.mono hB0.size)
  clear hB1' hl0 hs0 hB0
  go_wp2_with fail
  refine (code_any (bare) _ (hg.below hB1) hl1).mono ?_
  rintro ev w2 ⟨rfl, hB2'⟩
  rw [show code (bare) = 1 from rfl]
  have hl2 := lies_below hB2' (Nat.le_refl _) hl1
  have hs2 := hs1.below hB2'
  have hB2 := hB1.trans (hB2'.mono hB1.size)
  clear hB2' hl1 hs1 hB1
  go_wp2_with fail
  refine (at_any (bare) _ (hg.below hB2) hl2 hk).mono ?_
  rintro ev w3 ⟨rfl, hB3'⟩
  rw [show at_ (bare) = 0 from rfl]
  have hl3 := lies_below hB3' (Nat.le_refl _) hl2
  have hs3 := hs2.below hB3'
  have hB3 := hB2.trans (hB3'.mono hB2.size)
  clear hB3' hl2 hs2 hB2
  go_wp2_with fail
  refine (path_any (bare) _ (hg.below hB3) hl3 hk).mono ?_
  rintro ev w4 ⟨v, rfl, hown, hB4'⟩
  have hv := sl_own hown
  rw [show path (bare) = [] from rfl] at hv
  have hl4 := lies_below hB4' (Nat.le_refl _) hl3
  have hs4 := hs3.below hB4'
  have hB4 := hB3.trans (hB4'.mono hB3.size)
  clear hB4' hl3 hs3 hB3 hown
  go_wp2_with fail
  refine (ints_same _ _ [] _ hv hs4 (by simp)).mono ?_
  rintro ev w5 ⟨rfl, hB5'⟩
  have hl5 := lies_below hB5' (Nat.le_refl _) hl4
  have hB5 := hB4.trans (hB5'.mono hB4.size)
  clear hB5' hl4 hs4 hB4 hv
  go_wp2_with fail
  refine (is_fault (bare) 1 _ (hg.below hB5) hl5 hk).mono ?_
  rintro ev w6 ⟨rfl, hB6'⟩
  rw [show has 1 (bare) = false from rfl]
  have hl6 := lies_below hB6' (Nat.le_refl _) hl5
  have hB6 := hB5.trans (hB6'.mono hB5.size)
  clear hB6' hl5 hB5
  go_wp2_with fail
  refine (in_any (bare) 9 _ (hg.below hB6) hl6).mono ?_
  rintro ev w7 ⟨b7, -, rfl, hl7, hB7'⟩
  obtain ⟨F, hF, f1, f2, f3, f4⟩ : ∃ F, F = fault b7 (code (bare)) 9 (bare) ∧ code F = 1 ∧ path F = [9] ∧ has 1 F = false ∧ (links (ff F)).length ≤ 100 := ⟨_, rfl, rfl, rfl, rfl, Nat.le_of_ble_eq_true rfl⟩
  rw [← hF] at hl7 ⊢
  have hB7 := hB6.trans (hB7'.mono hB6.size)
  clear hB7' hl6 hB6 hF
  go_wp2_with fail
  refine (path_any F _ (hg.below hB7) hl7 f4).mono ?_
  rintro ev w8 ⟨v8, rfl, hown, hB8'⟩
  rw [f2] at hown
  obtain ⟨g, cap, rfl, -, hgl, hnc, hcm, hcl⟩ := own_some hown (by decide)
  have q8 : w8.cell? ⟨g, 0, none⟩ = some (.int .i64 9) := hcl 0 (by decide)
  have hl8 := lies_below hB8' (Nat.le_refl _) hl7
  have hB8 := hB7.trans (hB8'.mono hB7.size)
  clear hB8' hl7 hB7 hown hcl
  simp only [List.length_cons, List.length_nil, Nat.zero_add] at hnc ⊢
  go_wp2_with fail
  refine (code_any F _ (hg.below hB8) hl8).mono ?_
  rintro ev w9 ⟨rfl, hB9'⟩
  rw [f1]
  have hl9 := lies_below hB9' (Nat.le_refl _) hl8
  have q9 : w9.cell? ⟨g, 0, none⟩ = some (.int .i64 9) := (hB9'.cell (p := ⟨g, 0, none⟩) hgl).trans q8
  have hB9 := hB8.trans (hB9'.mono hB8.size)
  clear hB9' hl8 hB8 q8
  go_wp2_with fail
  refine (is_fault F 1 _ (hg.below hB9) hl9 f4).mono ?_
  rintro ev w10 ⟨rfl, hB10'⟩
  rw [f3]
  have hB10 := hB9.trans (hB10'.mono hB9.size)
  clear hB10' hl9 hB9 q9
  go_wp2
  go_ret
  exact ⟨rfl, hB10⟩

set_option maxHeartbeats 4000000 in
theorem foreignz_2 (a h : Int) (w : World) (hg : Glob w) (m0 : ((wrap64 (h.tmod 4 + 4)).tmod 4 == 0) = false) (m1 : ((wrap64 (h.tmod 4 + 4)).tmod 4 == 1) = false) (m2 : ((wrap64 (h.tmod 4 + 4)).tmod 4 == 2) = true) : Calls Tryd.prog 4 #[.int .i64 0, .int .i64 a, .int .i64 h] w fun ev w' => ev = .returned (.bool true) ∧ Below w.heap.size w w' := by
  have hk : (links (ff (odd (fault (w.heap.size + 1) 1 a (num 1))))).length ≤ 100 := Nat.le_of_ble_eq_true rfl
  have hBa : Below w.heap.size w (w.alloc (.cells #[.int .i64 a] 3)) := (Below.refl _ _).alloc (Nat.le_refl _) _
  have C := new_any 1 a (w.alloc (.cells #[.int .i64 a] 3)) (by decide)
  go_enter Tryd.func4, Tryd.ntmps4
  go_wp2_with fail
  refine C.mono ?_
  rintro ev w0 ⟨rfl, hl0', hB0'⟩
  rw [World.size_alloc] at hl0' hB0' ⊢
  simp only [val_fault]
  have hs0 := sl_one w w0 a hB0'
  have hl0 : lies w0 (odd (fault (w.heap.size + 1) 1 a (num 1))) := hl0'
  have hB0 := hBa.trans (hB0'.mono (Nat.le_succ _))
  clear hl0' hB0' hBa C
  go_wp2_with fail
  refine (told_any _ (hg.below hB0)).mono ?_
  rintro ev w1 ⟨rfl, hB1'⟩
  have hl1 := lies_below hB1' (Nat.le_refl _) hl0
  have hs1 := hs0.below hB1'
  have hB1 := hB0.trans (hB1'.mono hB0.size)
  clear hB1' hl0 hs0 hB0
  go_wp2_with fail
  refine (code_any (odd (fault (w.heap.size + 1) 1 a (num 1))) _ (hg.below hB1) hl1).mono ?_
  rintro ev w2 ⟨rfl, hB2'⟩
  rw [show code (odd (fault (w.heap.size + 1) 1 a (num 1))) = 1 from rfl]
  have hl2 := lies_below hB2' (Nat.le_refl _) hl1
  have hs2 := hs1.below hB2'
  have hB2 := hB1.trans (hB2'.mono hB1.size)
  clear hB2' hl1 hs1 hB1
  go_wp2_with fail
  refine (at_any (odd (fault (w.heap.size + 1) 1 a (num 1))) _ (hg.below hB2) hl2 hk).mono ?_
  rintro ev w3 ⟨rfl, hB3'⟩
  rw [show at_ (odd (fault (w.heap.size + 1) 1 a (num 1))) = a from rfl]
  have hl3 := lies_below hB3' (Nat.le_refl _) hl2
  have hs3 := hs2.below hB3'
  have hB3 := hB2.trans (hB3'.mono hB2.size)
  clear hB3' hl2 hs2 hB2
  go_wp2_with fail
  refine (path_any (odd (fault (w.heap.size + 1) 1 a (num 1))) _ (hg.below hB3) hl3 hk).mono ?_
  rintro ev w4 ⟨v, rfl, hown, hB4'⟩
  have hv := sl_own hown
  rw [show path (odd (fault (w.heap.size + 1) 1 a (num 1))) = [a] from rfl] at hv
  have hl4 := lies_below hB4' (Nat.le_refl _) hl3
  have hs4 := hs3.below hB4'
  have hB4 := hB3.trans (hB4'.mono hB3.size)
  clear hB4' hl3 hs3 hB3 hown
  go_wp2_with fail
  refine (ints_same _ _ [a] _ hv hs4 (by simp)).mono ?_
  rintro ev w5 ⟨rfl, hB5'⟩
  have hl5 := lies_below hB5' (Nat.le_refl _) hl4
  have hB5 := hB4.trans (hB5'.mono hB4.size)
  clear hB5' hl4 hs4 hB4 hv
  go_wp2_with fail
  refine (is_fault (odd (fault (w.heap.size + 1) 1 a (num 1))) 1 _ (hg.below hB5) hl5 hk).mono ?_
  rintro ev w6 ⟨rfl, hB6'⟩
  rw [show has 1 (odd (fault (w.heap.size + 1) 1 a (num 1))) = true from (show (1 == 1) = true by simp)]
  have hl6 := lies_below hB6' (Nat.le_refl _) hl5
  have hB6 := hB5.trans (hB6'.mono hB5.size)
  clear hB6' hl5 hB5
  go_wp2_with fail
  refine (in_any (odd (fault (w.heap.size + 1) 1 a (num 1))) 9 _ (hg.below hB6) hl6).mono ?_
  rintro ev w7 ⟨b7, -, rfl, hl7, hB7'⟩
  obtain ⟨F, hF, f1, f2, f3, f4⟩ : ∃ F, F = fault b7 (code (odd (fault (w.heap.size + 1) 1 a (num 1)))) 9 (odd (fault (w.heap.size + 1) 1 a (num 1))) ∧ code F = 1 ∧ path F = [9] ∧ has 1 F = true ∧ (links (ff F)).length ≤ 100 := ⟨_, rfl, rfl, rfl, (show (1 == 1) = true by simp), Nat.le_of_ble_eq_true rfl⟩
  rw [← hF] at hl7 ⊢
  have hB7 := hB6.trans (hB7'.mono hB6.size)
  clear hB7' hl6 hB6 hF
  go_wp2_with fail
  refine (path_any F _ (hg.below hB7) hl7 f4).mono ?_
  rintro ev w8 ⟨v8, rfl, hown, hB8'⟩
  rw [f2] at hown
  obtain ⟨g, cap, rfl, -, hgl, hnc, hcm, hcl⟩ := own_some hown (by decide)
  have q8 : w8.cell? ⟨g, 0, none⟩ = some (.int .i64 9) := hcl 0 (by decide)
  have hl8 := lies_below hB8' (Nat.le_refl _) hl7
  have hB8 := hB7.trans (hB8'.mono hB7.size)
  clear hB8' hl7 hB7 hown hcl
  simp only [List.length_cons, List.length_nil, Nat.zero_add] at hnc ⊢
  go_wp2_with fail
  refine (code_any F _ (hg.below hB8) hl8).mono ?_
  rintro ev w9 ⟨rfl, hB9'⟩
  rw [f1]
  have hl9 := lies_below hB9' (Nat.le_refl _) hl8
  have q9 : w9.cell? ⟨g, 0, none⟩ = some (.int .i64 9) := (hB9'.cell (p := ⟨g, 0, none⟩) hgl).trans q8
  have hB9 := hB8.trans (hB9'.mono hB8.size)
  clear hB9' hl8 hB8 q8
  go_wp2_with fail
  refine (is_fault F 1 _ (hg.below hB9) hl9 f4).mono ?_
  rintro ev w10 ⟨rfl, hB10'⟩
  rw [f3]
  have hB10 := hB9.trans (hB10'.mono hB9.size)
  clear hB10' hl9 hB9 q9
  go_wp2
  go_ret
  exact ⟨rfl, hB10⟩

theorem foreign_zero (a h : Int) (w : World) (hg : Glob w) : Calls Tryd.prog 4 #[.int .i64 0, .int .i64 a, .int .i64 h] w fun ev w' => ev = .returned (.bool true) ∧ Below w.heap.size w w' := by
  cases m0 : ((wrap64 (h.tmod 4 + 4)).tmod 4 == 0) with
  | true => exact foreignz_0 a h w hg m0
  | false =>
    cases m1 : ((wrap64 (h.tmod 4 + 4)).tmod 4 == 1) with
    | true => exact foreignz_1 a h w hg m0 m1
    | false =>
      cases m2 : ((wrap64 (h.tmod 4 + 4)).tmod 4 == 2) with
      | true => exact foreignz_2 a h w hg m0 m1 m2
      | false => exact foreignz_3 a h w hg m0 m1 m2
end Go.Proofs.YtikogamonngbbaaDoor
