/-
  The document's own Path.
-/
import Derived.Test.YtfkibbpekngciaaQPrXtr
import Derived.Test.YtfkibbpekngciaaJoinDwn2xPr
import Derived.Test.YtfkibbpekngciaaQPrR09
namespace Go.Proofs.Ytfkibbpekngciaa
open Go.RowKit

set_option maxHeartbeats 1500000 in
set_option maxRecDepth 20000 in
theorem xpath_left (F : Bys → Bys) (E : Env2 F) (w : World) (v : Value) (L : List Bys) (h : Ls w v L) (hs : Small L) (h1 : 2 ≤ L.length) (h9 : L.length ≤ 1000000) (i : Nat) (hc : i < half L.length)
    (ih : ∀ (w : World) (v : Value) (M : List Bys) (j : Nat), M.length < L.length → j < M.length → Ls w v M → Small M → Calls Try.prog 16 #[v, .int .i64 (j : Int)] w fun ev w' => ∃ v', ev = .returned v' ∧ w'.ownsRow w.heap.size 26 32 v' (xpath F M j).length (rows26 (xpath F M j)) ∧ Below w.heap.size w w') :
    Calls Try.prog 16 #[v, .int .i64 (i : Int)] w fun ev w' => ∃ v', ev = .returned v' ∧ w'.ownsRow w.heap.size 26 32 v' (xpath F L i).length (rows26 (xpath F L i)) ∧ Below w.heap.size w w' := by
  obtain ⟨b, off, cap, rfl, hcap⟩ : ∃ b off cap, v = .slice (some ⟨b, off, none⟩) L.length cap ∧ L.length ≤ cap := by
    obtain ⟨b, off, cap, _, h1, h2, _⟩ := h.some_ (by omega)
    exact ⟨b, off, cap, h1, h2⟩
  have hh := half_le L.length h1
  have HL := xhalf_any w L.length h1 (by omega)
  have l1 := seg_len L 0 (half L.length) (by omega)
  have l2 := seg_len L (half L.length) L.length (Nat.le_refl _)
  have HP : Hid (∀ y, Below w.heap.size w y → Calls Try.prog 16 #[.slice (some ⟨b, off, none⟩) (half L.length) cap, .int .i64 (i : Int)] y fun ev w' => ∃ v', ev = .returned v' ∧ w'.ownsRow y.heap.size 26 32 v' (xpath F (seg L 0 (half L.length)) i).length (rows26 (xpath F (seg L 0 (half L.length)) i)) ∧ Below y.heap.size y w') := fun y hy => by
    have := ih y _ _ i (by omega) (by omega) ((h.below hy).part 0 (half L.length) (by omega) (by omega) cap (by omega)) (hs.seg _ _)
    exact this
  have HT : Hid (∀ y, Below w.heap.size w y → Calls Try.prog 27 #[.slice (some ⟨b, off + half L.length, none⟩) (L.length - half L.length) (cap - half L.length)] y fun ev w' => ev = .returned (.agg (bys (tree F (seg L (half L.length) L.length))).toArray) ∧ Below y.heap.size y w') := fun y hy =>
    xtree_any F E _ y _ _ rfl ((h.below hy).part (half L.length) L.length (by omega) (Nat.le_refl _) (cap - half L.length) (by omega)) (hs.seg _ _) (by omega) (by omega)
  have HX : Hid (xpath F L i = xpath F (seg L 0 (half L.length)) i ++ [tree F (seg L (half L.length) L.length)]) := by
    show _ = _
    rw [xpath_unf, if_neg (by omega)]
    rw [if_pos hc, seg_head, seg_tail]
  have hdl : (xpath F (seg L 0 (half L.length)) i).length ≤ 1000000 := by
    rw [xpath_eq F _ _ (by omega)]
    simp only [path, List.length_map, List.length_reverse]
    exact Nat.le_trans (downs_64 _ _ (by omega)) (by omega)
  have ht := tree_len E.toEnv (seg L (half L.length) L.length)
  generalize tree F (seg L (half L.length) L.length) = t at *
  generalize xpath F (seg L 0 (half L.length)) i = P at *
  have hY32 : (bys t).length = 32 := by rw [bys_len]; exact ht
  obtain ⟨k, hk⟩ : ∃ k, k = half L.length := ⟨_, rfl⟩
  rw [← hk] at HL hh HP HT hc
  clear hk h hs ih l1 l2
  generalize xpath F L i = Z at *
  generalize L.length = n at *
  have n1 : ¬ ((n : Int) = 1) := by omega
  have n2 : (i : Int) < (k : Int) := by omega
  have n3 : (k : Int) ≤ (n : Int) := by omega
  have n4 : (0 : Int) ≤ (k : Int) := by omega
  have n5 : (k : Int) ≤ (cap : Int) := by omega
  have n6 : (n : Int) ≤ (cap : Int) := by omega
  have n7 : ¬ cap = k := by omega

  have n8 : ((n : Int) - (k : Int)).toNat = n - k := by omega
  go_enter Try.func16, Try.ntmps16
  go_wp2_with (go_at_call 30; refine HL.mono ?_; rintro ev w1 ⟨rfl, hw1⟩; replace hw1 := hw1.symm; subst hw1)
  refine beginL (fun y => Below w.heap.size w y) 11 (by kernel_rfl) (Below.refl _ _).drew (fun hS0 => ?_)
  refine takeL 0 (v := ?vq0) rfl (some 15) rfl (by decide) (by kernel_rfl) (by kernel_rfl) (by kernel_rfl) (by kernel_rfl) (fun _ _ _ h => h) (Or.inl ⟨by rfl, ?hq0⟩) hS0 ?rq0
  case hq0 => (intro y hy; go_simp; with_reducible rfl)
  simp only [Act.put, List.setIfInBounds_toArray, List.set_cons_zero, List.set_cons_succ]
  refine takeL 1 (v := ?vq1) rfl (some 16) rfl (by decide) (by kernel_rfl) (by kernel_rfl) (by kernel_rfl) (by kernel_rfl) (fun _ _ _ h => h) (Or.inl ⟨by rfl, ?hq1⟩) hS0 ?rq1
  case hq1 => (intro y hy; go_simp; with_reducible rfl)
  simp only [Act.put, List.setIfInBounds_toArray, List.set_cons_zero, List.set_cons_succ]
  refine takeL 2 (v := ?vq2) rfl (some 17) rfl (by decide) (by kernel_rfl) (by kernel_rfl) (by kernel_rfl) (by kernel_rfl) (fun _ _ _ h => h) (Or.inl ⟨by rfl, ?hq2⟩) hS0 ?rq2
  case hq2 => (intro y hy; go_simp; with_reducible rfl)
  simp only [Act.put, List.setIfInBounds_toArray, List.set_cons_zero, List.set_cons_succ]
  refine takeL 3 (v := ?vq3) rfl (some 18) rfl (by decide) (by kernel_rfl) (by kernel_rfl) (by kernel_rfl) (by kernel_rfl) (fun _ _ _ h => h) (Or.inl ⟨by rfl, ?hq3⟩) hS0 ?rq3
  case hq3 => (intro y hy; go_simp; with_reducible rfl)
  simp only [Act.put, List.setIfInBounds_toArray, List.set_cons_zero, List.set_cons_succ]
  refine takeL 5 (v := ?vq4) rfl (some 20) rfl (by decide) (by kernel_rfl) (by kernel_rfl) (by kernel_rfl) (by kernel_rfl) (fun _ _ _ h => h) (Or.inl ⟨by rfl, ?hq4⟩) hS0 ?rq4
  case hq4 => (intro y hy; go_simp; with_reducible rfl)
  simp only [Act.put, List.setIfInBounds_toArray, List.set_cons_zero, List.set_cons_succ]
  refine takeL 6 (v := ?vq5) rfl (some 21) rfl (by decide) (by kernel_rfl) (by kernel_rfl) (by kernel_rfl) (by kernel_rfl) (fun _ _ _ h => h) (Or.inl ⟨by rfl, ?hq5⟩) hS0 ?rq5
  case hq5 => (intro y hy; go_simp; with_reducible rfl)
  simp only [Act.put, List.setIfInBounds_toArray, List.set_cons_zero, List.set_cons_succ]
  refine takeL 7 (v := ?vq6) rfl (some 22) rfl (by decide) (by kernel_rfl) (by kernel_rfl) (by kernel_rfl) (by kernel_rfl) (fun _ _ _ h => h) (Or.inl ⟨by rfl, ?hq6⟩) hS0 ?rq6
  case hq6 => (intro y hy; go_simp; with_reducible rfl)
  simp only [Act.put, List.setIfInBounds_toArray, List.set_cons_zero, List.set_cons_succ]
  refine readyL (rs := [4]) (by kernel_rfl) (by simp) ?_
  refine ReadyL.cons rfl (fun K hK => ?_) ReadyL.nil
  go_simp
  refine (HP.out _ hS0).mono ?_
  rintro ev w1 ⟨v1, rfl, ho1, hb1⟩
  obtain ⟨ap, cpp, rfl⟩ := own_shape' ho1
  have hS1 := nextB hS0 hb1
  refine hK.out _ _ (fun _ => hS1) (fun _ => ?_)
  clear hK K
  refine readyL (rs := [8]) (by kernel_rfl) (by simp) ?_
  refine ReadyL.cons rfl (fun K hK => ?_) ReadyL.nil
  go_simp
  refine (HT.out _ hS1).mono ?_
  rintro ev w2 ⟨rfl, hb2⟩
  have hS2 := nextB hS1 hb2
  refine hK.out _ _ (fun _ => hS2) (fun _ => ?_)
  clear hK K
  refine readyL (rs := [9]) (by kernel_rfl) (by simp) ?_
  refine ReadyL.cons rfl (fun K hK => ?_) ReadyL.nil
  refine want (by rfl) ?_
  refine wpo_build26 _ rfl _ rfl hY32 ?_
  obtain ⟨w3, g3, hw3, hg3, hb3, R3⟩ := new26 w2 t
  rw [← hw3, ← hg3]
  clear hw3 hg3
  have hS3 := nextB hS2 hb3
  refine hK.out _ _ (fun _ => hS3) (fun _ => ?_)
  clear hK K
  refine readyL (rs := [10]) (by kernel_rfl) (by simp) ?_
  refine ReadyL.cons rfl (fun K hK => ?_) ReadyL.nil
  refine want (by rfl) ?_
  have ho3 := own_past' (own_past' (own_lower' ho1 hS0.size) hb2) hb3
  refine wpo_app26 _ _ rfl rfl ho3 hS3.size g3 1 t ht rfl R3.range hdl ?_
  intro v4 w4 ho4 hb4 hg4 _
  have hS4 : Below w.heap.size w w4 := hS3.trans hb4
  obtain ⟨ao4, cp4, rfl⟩ := own_shape' ho4
  refine hK.out _ _ (fun _ => hS4) (fun _ => ?_)
  clear hK K
  refine readyL (rs := [11]) (by kernel_rfl) (by simp) ?_
  refine ReadyL.cons rfl (fun K hK => ?_) ReadyL.nil
  go_simp
  refine hK.out _ _ (fun h => absurd rfl h) (fun _ => ?_)
  clear hK K
  refine doneL (by kernel_rfl) ?_ _
  go_wp2_with fail
  go_ret
  refine ⟨_, rfl, ?_, hS4⟩
  rw [HX.out]
  rw [show (P ++ [t]).length = P.length + 1 by simp] at ho4 ⊢
  exact ho4
set_option maxHeartbeats 1500000 in
set_option maxRecDepth 20000 in
theorem xpath_right (F : Bys → Bys) (E : Env2 F) (w : World) (v : Value) (L : List Bys) (h : Ls w v L) (hs : Small L) (h1 : 2 ≤ L.length) (h9 : L.length ≤ 1000000) (i : Nat) (hi : i < L.length) (hc : ¬ i < half L.length)
    (ih : ∀ (w : World) (v : Value) (M : List Bys) (j : Nat), M.length < L.length → j < M.length → Ls w v M → Small M → Calls Try.prog 16 #[v, .int .i64 (j : Int)] w fun ev w' => ∃ v', ev = .returned v' ∧ w'.ownsRow w.heap.size 26 32 v' (xpath F M j).length (rows26 (xpath F M j)) ∧ Below w.heap.size w w') :
    Calls Try.prog 16 #[v, .int .i64 (i : Int)] w fun ev w' => ∃ v', ev = .returned v' ∧ w'.ownsRow w.heap.size 26 32 v' (xpath F L i).length (rows26 (xpath F L i)) ∧ Below w.heap.size w w' := by
  obtain ⟨b, off, cap, rfl, hcap⟩ : ∃ b off cap, v = .slice (some ⟨b, off, none⟩) L.length cap ∧ L.length ≤ cap := by
    obtain ⟨b, off, cap, _, h1, h2, _⟩ := h.some_ (by omega)
    exact ⟨b, off, cap, h1, h2⟩
  have hh := half_le L.length h1
  have HL := xhalf_any w L.length h1 (by omega)
  have l1 := seg_len L 0 (half L.length) (by omega)
  have l2 := seg_len L (half L.length) L.length (Nat.le_refl _)
  have HP : Hid (∀ y, Below w.heap.size w y → Calls Try.prog 16 #[.slice (some ⟨b, off + half L.length, none⟩) (L.length - half L.length) (cap - half L.length), .int .i64 ((i : Int) - (half L.length : Int))] y fun ev w' => ∃ v', ev = .returned v' ∧ w'.ownsRow y.heap.size 26 32 v' (xpath F (seg L (half L.length) L.length) (i - half L.length)).length (rows26 (xpath F (seg L (half L.length) L.length) (i - half L.length))) ∧ Below y.heap.size y w') := fun y hy => by
    have := ih y _ _ (i - half L.length) (by omega) (by omega) ((h.below hy).part (half L.length) L.length (by omega) (Nat.le_refl _) (cap - half L.length) (by omega)) (hs.seg _ _)
    rw [show ((i : Int) - (half L.length : Int)) = ((i - half L.length : Nat) : Int) by omega]; exact this
  have HT : Hid (∀ y, Below w.heap.size w y → Calls Try.prog 27 #[.slice (some ⟨b, off, none⟩) (half L.length) cap] y fun ev w' => ev = .returned (.agg (bys (tree F (seg L 0 (half L.length)))).toArray) ∧ Below y.heap.size y w') := fun y hy =>
    xtree_any F E _ y _ _ rfl ((h.below hy).part 0 (half L.length) (by omega) (by omega) cap (by omega)) (hs.seg _ _) (by omega) (by omega)
  have HX : Hid (xpath F L i = xpath F (seg L (half L.length) L.length) (i - half L.length) ++ [tree F (seg L 0 (half L.length))]) := by
    show _ = _
    rw [xpath_unf, if_neg (by omega)]
    rw [if_neg hc, seg_head, seg_tail]
  have hdl : (xpath F (seg L (half L.length) L.length) (i - half L.length)).length ≤ 1000000 := by
    rw [xpath_eq F _ _ (by omega)]
    simp only [path, List.length_map, List.length_reverse]
    exact Nat.le_trans (downs_64 _ _ (by omega)) (by omega)
  have ht := tree_len E.toEnv (seg L 0 (half L.length))
  generalize tree F (seg L 0 (half L.length)) = t at *
  generalize xpath F (seg L (half L.length) L.length) (i - half L.length) = P at *
  have hY32 : (bys t).length = 32 := by rw [bys_len]; exact ht
  obtain ⟨k, hk⟩ : ∃ k, k = half L.length := ⟨_, rfl⟩
  rw [← hk] at HL hh HP HT hc
  clear hk h hs ih l1 l2
  generalize xpath F L i = Z at *
  generalize L.length = n at *
  have n1 : ¬ ((n : Int) = 1) := by omega
  have n2 : ¬ (i : Int) < (k : Int) := by omega
  have n3 : (k : Int) ≤ (n : Int) := by omega
  have n4 : (0 : Int) ≤ (k : Int) := by omega
  have n5 : (k : Int) ≤ (cap : Int) := by omega
  have n6 : (n : Int) ≤ (cap : Int) := by omega
  have n7 : ¬ cap = k := by omega
  have n9 : IntKind.i64.wrap ((i : Int) - (k : Int)) = (i : Int) - (k : Int) := by rw [IntKind.wrap_i64]; omega
  have n8 : ((n : Int) - (k : Int)).toNat = n - k := by omega
  go_enter Try.func16, Try.ntmps16
  go_wp2_with (go_at_call 30; refine HL.mono ?_; rintro ev w1 ⟨rfl, hw1⟩; replace hw1 := hw1.symm; subst hw1)
  refine beginL (fun y => Below w.heap.size w y) 13 (by kernel_rfl) (Below.refl _ _).drew (fun hS0 => ?_)
  refine takeL 0 (v := ?vq0) rfl (some 26) rfl (by decide) (by kernel_rfl) (by kernel_rfl) (by kernel_rfl) (by kernel_rfl) (fun _ _ _ h => h) (Or.inl ⟨by rfl, ?hq0⟩) hS0 ?rq0
  case hq0 => (intro y hy; go_simp; with_reducible rfl)
  simp only [Act.put, List.setIfInBounds_toArray, List.set_cons_zero, List.set_cons_succ]
  refine takeL 1 (v := ?vq1) rfl (some 27) rfl (by decide) (by kernel_rfl) (by kernel_rfl) (by kernel_rfl) (by kernel_rfl) (fun _ _ _ h => h) (Or.inl ⟨by rfl, ?hq1⟩) hS0 ?rq1
  case hq1 => (intro y hy; go_simp; with_reducible rfl)
  simp only [Act.put, List.setIfInBounds_toArray, List.set_cons_zero, List.set_cons_succ]
  refine takeL 2 (v := ?vq2) rfl (some 28) rfl (by decide) (by kernel_rfl) (by kernel_rfl) (by kernel_rfl) (by kernel_rfl) (fun _ _ _ h => h) (Or.inl ⟨by rfl, ?hq2⟩) hS0 ?rq2
  case hq2 => (intro y hy; go_simp; with_reducible rfl)
  simp only [Act.put, List.setIfInBounds_toArray, List.set_cons_zero, List.set_cons_succ]
  refine takeL 3 (v := ?vq3) rfl (some 29) rfl (by decide) (by kernel_rfl) (by kernel_rfl) (by kernel_rfl) (by kernel_rfl) (fun _ _ _ h => h) (Or.inl ⟨by rfl, ?hq3⟩) hS0 ?rq3
  case hq3 => (intro y hy; go_simp; with_reducible rfl)
  simp only [Act.put, List.setIfInBounds_toArray, List.set_cons_zero, List.set_cons_succ]
  refine takeL 4 (v := ?vq4) rfl (some 30) rfl (by decide) (by kernel_rfl) (by kernel_rfl) (by kernel_rfl) (by kernel_rfl) (fun _ _ _ h => h) (Or.inl ⟨by rfl, ?hq4⟩) hS0 ?rq4
  case hq4 => (intro y hy; go_simp; with_reducible rfl)
  simp only [Act.put, List.setIfInBounds_toArray, List.set_cons_zero, List.set_cons_succ]
  refine takeL 5 (v := ?vq5) rfl (some 31) rfl (by decide) (by kernel_rfl) (by kernel_rfl) (by kernel_rfl) (by kernel_rfl) (fun _ _ _ h => h) (Or.inl ⟨by rfl, ?hq5⟩) hS0 ?rq5
  case hq5 => (intro y hy; go_simp; with_reducible rfl)
  simp only [Act.put, List.setIfInBounds_toArray, List.set_cons_zero, List.set_cons_succ]
  refine takeL 7 (v := ?vq6) rfl (some 33) rfl (by decide) (by kernel_rfl) (by kernel_rfl) (by kernel_rfl) (by kernel_rfl) (fun _ _ _ h => h) (Or.inl ⟨by rfl, ?hq6⟩) hS0 ?rq6
  case hq6 => (intro y hy; go_simp; with_reducible rfl)
  simp only [Act.put, List.setIfInBounds_toArray, List.set_cons_zero, List.set_cons_succ]
  refine takeL 8 (v := ?vq7) rfl (some 34) rfl (by decide) (by kernel_rfl) (by kernel_rfl) (by kernel_rfl) (by kernel_rfl) (fun _ _ _ h => h) (Or.inl ⟨by rfl, ?hq7⟩) hS0 ?rq7
  case hq7 => (intro y hy; go_simp; with_reducible rfl)
  simp only [Act.put, List.setIfInBounds_toArray, List.set_cons_zero, List.set_cons_succ]
  refine takeL 9 (v := ?vq8) rfl (some 35) rfl (by decide) (by kernel_rfl) (by kernel_rfl) (by kernel_rfl) (by kernel_rfl) (fun _ _ _ h => h) (Or.inl ⟨by rfl, ?hq8⟩) hS0 ?rq8
  case hq8 => (intro y hy; go_simp; with_reducible rfl)
  simp only [Act.put, List.setIfInBounds_toArray, List.set_cons_zero, List.set_cons_succ]
  refine readyL (rs := [6]) (by kernel_rfl) (by simp) ?_
  refine ReadyL.cons rfl (fun K hK => ?_) ReadyL.nil
  go_simp
  refine (HP.out _ hS0).mono ?_
  rintro ev w1 ⟨v1, rfl, ho1, hb1⟩
  obtain ⟨ap, cpp, rfl⟩ := own_shape' ho1
  have hS1 := nextB hS0 hb1
  refine hK.out _ _ (fun _ => hS1) (fun _ => ?_)
  clear hK K
  refine readyL (rs := [10]) (by kernel_rfl) (by simp) ?_
  refine ReadyL.cons rfl (fun K hK => ?_) ReadyL.nil
  go_simp
  refine (HT.out _ hS1).mono ?_
  rintro ev w2 ⟨rfl, hb2⟩
  have hS2 := nextB hS1 hb2
  refine hK.out _ _ (fun _ => hS2) (fun _ => ?_)
  clear hK K
  refine readyL (rs := [11]) (by kernel_rfl) (by simp) ?_
  refine ReadyL.cons rfl (fun K hK => ?_) ReadyL.nil
  refine want (by rfl) ?_
  refine wpo_build26 _ rfl _ rfl hY32 ?_
  obtain ⟨w3, g3, hw3, hg3, hb3, R3⟩ := new26 w2 t
  rw [← hw3, ← hg3]
  clear hw3 hg3
  have hS3 := nextB hS2 hb3
  refine hK.out _ _ (fun _ => hS3) (fun _ => ?_)
  clear hK K
  refine readyL (rs := [12]) (by kernel_rfl) (by simp) ?_
  refine ReadyL.cons rfl (fun K hK => ?_) ReadyL.nil
  refine want (by rfl) ?_
  have ho3 := own_past' (own_past' (own_lower' ho1 hS0.size) hb2) hb3
  refine wpo_app26 _ _ rfl rfl ho3 hS3.size g3 1 t ht rfl R3.range hdl ?_
  intro v4 w4 ho4 hb4 hg4 _
  have hS4 : Below w.heap.size w w4 := hS3.trans hb4
  obtain ⟨ao4, cp4, rfl⟩ := own_shape' ho4
  refine hK.out _ _ (fun _ => hS4) (fun _ => ?_)
  clear hK K
  refine readyL (rs := [13]) (by kernel_rfl) (by simp) ?_
  refine ReadyL.cons rfl (fun K hK => ?_) ReadyL.nil
  go_simp
  refine hK.out _ _ (fun h => absurd rfl h) (fun _ => ?_)
  clear hK K
  refine doneL (by kernel_rfl) ?_ _
  go_wp2_with fail
  go_ret
  refine ⟨_, rfl, ?_, hS4⟩
  rw [HX.out]
  rw [show (P ++ [t]).length = P.length + 1 by simp] at ho4 ⊢
  exact ho4
set_option maxHeartbeats 1500000 in
theorem xpath_base (F : Bys → Bys) (w : World) (v : Value) (L : List Bys) (h : Ls w v L) (h1 : L.length = 1) (i : Nat) :
    Calls Try.prog 16 #[v, .int .i64 (i : Int)] w fun ev w' => ∃ v', ev = .returned v' ∧ w'.ownsRow w.heap.size 26 32 v' (xpath F L i).length (rows26 (xpath F L i)) ∧ Below w.heap.size w w' := by
  obtain ⟨ao, cp, rfl⟩ := h.slice
  have e : xpath F L i = [] := by rw [xpath_unf, if_pos (by omega)]
  rw [e, h1]
  go_enter Try.func16, Try.ntmps16
  go_wp2_with fail
  go_ret
  exact ⟨_, rfl, ⟨rfl, .inl ⟨rfl, rfl⟩⟩, Below.refl _ _⟩
theorem xpath_any' (F : Bys → Bys) (E : Env2 F) : ∀ (n : Nat) (w : World) (v : Value) (L : List Bys) (i : Nat), L.length = n → Ls w v L → Small L → i < L.length → L.length ≤ 1000000 →
    Calls Try.prog 16 #[v, .int .i64 (i : Int)] w fun ev w' => ∃ v', ev = .returned v' ∧ w'.ownsRow w.heap.size 26 32 v' (xpath F L i).length (rows26 (xpath F L i)) ∧ Below w.heap.size w w' := by
  intro n
  induction n using Nat.strongRecOn with
  | _ n ih =>
    intro w v L i hn h hs hi h9
    by_cases h2 : L.length = 1
    · exact xpath_base F w v L h h2 i
    · by_cases hc : i < half L.length
      · exact xpath_left F E w v L h hs (by omega) h9 i hc (fun w v M j hM hj hLs hSh => ih M.length (by omega) w v M j rfl hLs hSh hj (by omega))
      · exact xpath_right F E w v L h hs (by omega) h9 i hi hc (fun w v M j hM hj hLs hSh => ih M.length (by omega) w v M j rfl hLs hSh hj (by omega))
theorem xpath_any (F : Bys → Bys) (E : Env2 F) (w : World) (v : Value) (L : List Bys) (i : Nat) (h : Ls w v L) (hs : Small L) (hi : i < L.length) (h9 : L.length ≤ 1000000) :
    Calls Try.prog 16 #[v, .int .i64 (i : Int)] w fun ev w' => ∃ v', ev = .returned v' ∧ w'.ownsRow w.heap.size 26 32 v' (path F L i).length (rows26 (path F L i)) ∧ Below w.heap.size w w' := by
  rw [← xpath_eq F L i hi]
  exact xpath_any' F E _ w v L i rfl h hs hi h9
end Go.Proofs.Ytfkibbpekngciaa
