/-
  The document's own Tree and Root.
-/
import Derived.Test.YtfkibbpekngciaaQPrXtp
import Derived.Test.YtfkibbpekngciaaQPrTol
namespace Go.Proofs.Ytfkibbpekngciaa
open Go.RowKit

/-- All leaves are of few bytes. -/
def Small (L : List Bys) : Prop := ∀ b ∈ L, b.length ≤ 1000
theorem Small.get {L : List Bys} (h : Small L) (i : Nat) : (L.getD i []).length ≤ 1000 := by
  rcases Nat.lt_or_ge i L.length with hi | hi
  · rw [List.getD, List.getElem?_eq_getElem hi]; exact h _ (List.getElem_mem hi)
  · rw [List.getD, List.getElem?_eq_none hi]; simp
theorem Small.seg {L : List Bys} (h : Small L) (i j : Nat) : Small (seg L i j) := fun b hb => h b (List.mem_of_mem_drop (List.mem_of_mem_take hb))
theorem Small.short {L : List Bys} (h : Small L) : Short L := fun b hb => Nat.le_trans (h b hb) (by omega)
set_option maxHeartbeats 1000000 in
theorem xtree_base (F : Bys → Bys) (E : Env2 F) (w : World) (v : Value) (L : List Bys) (h : Ls w v L) (hs : Small L) (h1 : L.length = 1) :
    Calls Try.prog 27 #[v] w fun ev w' => ev = .returned (.agg (bys (tree F L)).toArray) ∧ Below w.heap.size w w' := by
  obtain ⟨b, off, cap, fv, rfl, hcap, hc⟩ := h.some_ (by omega)
  have c0 : w.cell? ⟨b, off, none⟩ = some (fv 0) := (hc 0 (by omega)).1
  have s0 := (hc 0 (by omega)).2
  obtain ⟨ao, cp, e0⟩ := sl_slice s0
  have hl0 := hs.get 0
  rw [h1, tree_one F L (by omega)]
  generalize L.getD 0 [] = l at *
  rw [e0] at c0 s0
  have cA := fun o => (((Below.refl w.heap.size w).alloc (Nat.le_refl _) o).cell (p := ⟨b, off, none⟩) (World.block_lt_of_cell? w _ c0)).trans c0
  have hA : Below w.heap.size w (w.alloc (.cells (bys zero32).toArray 26)) := (Below.refl _ _).alloc (Nat.le_refl _) _
  have HF := xleaf_any (w.alloc (.cells (bys zero32).toArray 26)) _ l (s0.below hA) (by omega)
  have R0 := Row.new w 26 (bys zero32)
  have HA : Hid (Below w.heap.size w (w.alloc (.cells (bys zero32).toArray 26))) := hA
  have hlen := E.len (0 :: l)
  have hz := size26 _ hlen
  clear e0 hc h hs hcap h1 c0 s0 hA
  go_enter Try.func27, Try.ntmps27
  go_wp2_with (first | (go_at_call 42; refine HF.mono ?_; rintro ev w1 ⟨v1, rfl, ho1, hb1⟩) | (go_at_call 22; refine (E.xsum _ _ _ (Sl.ofRow ho1) (by simp; omega)).mono ?_; rintro ev w2 ⟨rfl, hb2⟩; have hb12 := nextB hb1 hb2; have R2 := R0.below hb12 R0.lt; have hB2 := nextB HA.out hb12) | (refine store26 rfl _ _ rfl w w.heap.size _ hlen rfl rfl zero32 zero32_len R2 _ hB2 (Nat.le_refl _) ?_; intro w3 R3 hB3 _))
  exact bodyPost_ret (v := .agg _) (results_cell_row Try.results27 _ _ w.heap.size 26 _ (0, 0) _ rfl R3.heap Try.underlying26 rfl hz) rfl ⟨rfl, hB3⟩
set_option maxHeartbeats 4000000 in
theorem xtree_step (F : Bys → Bys) (E : Env2 F) (w : World) (v : Value) (L : List Bys) (h : Ls w v L) (hs : Small L) (h1 : 2 ≤ L.length) (h9 : L.length ≤ 1000000)
    (ih : ∀ (w : World) (v : Value) (M : List Bys), M.length < L.length → 1 ≤ M.length → Ls w v M → Small M → Calls Try.prog 27 #[v] w fun ev w' => ev = .returned (.agg (bys (tree F M)).toArray) ∧ Below w.heap.size w w') :
    Calls Try.prog 27 #[v] w fun ev w' => ev = .returned (.agg (bys (tree F L)).toArray) ∧ Below w.heap.size w w' := by
  obtain ⟨b, off, cap, rfl, hcap⟩ : ∃ b off cap, v = .slice (some ⟨b, off, none⟩) L.length cap ∧ L.length ≤ cap := by
    obtain ⟨b, off, cap, _, h1, h2, _⟩ := h.some_ (by omega)
    exact ⟨b, off, cap, h1, h2⟩
  have hh := half_le L.length h1
  obtain ⟨W, hW⟩ : ∃ W, W = w.alloc (.cells (bys zero32).toArray 26) := ⟨_, rfl⟩
  have HL := xhalf_any W L.length h1 (by omega)
  have hA : Below w.heap.size w W.drew := by rw [hW]; exact ((Below.refl _ _).alloc (Nat.le_refl _) _).drew
  have R0 : Row W.drew w.heap.size 26 (bys zero32) := by rw [hW]; exact (Row.new w 26 (bys zero32)).drew
  have q0 : Below w.heap.size w W.drew ∧ W.drew.there w.heap.size 0 32 := ⟨hA, R0.there 32 (by simp [bys_len, zero32_len])⟩
  have P1 := fun y (hy : Below w.heap.size w y) => (h.below hy).part 0 (half L.length) (by omega) (by omega) cap (by omega)
  have P2 := fun y (hy : Below w.heap.size w y) => (h.below hy).part (half L.length) L.length (by omega) (Nat.le_refl _) (cap - half L.length) (by omega)
  have l1 := seg_len L 0 (half L.length) (by omega)
  have l2 := seg_len L (half L.length) L.length (Nat.le_refl _)
  have HT : Hid (tree F L = F (1 :: (tree F (seg L 0 (half L.length)) ++ tree F (seg L (half L.length) L.length)))) := by
    show _ = _
    rw [tree_two F L h1, seg_head, seg_tail]
  have t1 := tree_len E.toEnv (seg L 0 (half L.length))
  have t2 := tree_len E.toEnv (seg L (half L.length) L.length)
  have step : ∀ y y', (Below w.heap.size w y ∧ y.there w.heap.size 0 32) → Below y.heap.size y y' → (Below w.heap.size w y' ∧ y'.there w.heap.size 0 32) := fun y y' h h' => ⟨nextB h.1 h', there_below h.2 h'⟩
  have J1 : Hid (∀ y, (Below w.heap.size w y ∧ y.there w.heap.size 0 32) → Calls Try.prog 27 #[.slice (some ⟨b, off, none⟩) (half L.length) cap] y fun ev y' => ev = .returned (.agg (bys (tree F (seg L 0 (half L.length)))).toArray) ∧ (Below w.heap.size w y' ∧ y'.there w.heap.size 0 32)) := fun y hy =>
    (ih y _ _ (by omega) (by omega) (P1 y hy.1) (hs.seg _ _)).mono (fun ev y' ⟨e, hb⟩ => ⟨e, step y y' hy hb⟩)
  have J2 : Hid (∀ y, (Below w.heap.size w y ∧ y.there w.heap.size 0 32) → Calls Try.prog 27 #[.slice (some ⟨b, off + half L.length, none⟩) (L.length - half L.length) (cap - half L.length)] y fun ev y' => ev = .returned (.agg (bys (tree F (seg L (half L.length) L.length))).toArray) ∧ (Below w.heap.size w y' ∧ y'.there w.heap.size 0 32)) := fun y hy =>
    (ih y _ _ (by omega) (by omega) (P2 y hy.1) (hs.seg _ _)).mono (fun ev y' ⟨e, hb⟩ => ⟨e, step y y' hy hb⟩)
  have HTx : Hid (∀ l, tree F L = F l → ∀ y v', (Below w.heap.size w y ∧ y.there w.heap.size 0 32) → Sl y v' l → l.length ≤ 100000 → Calls Try.prog 22 #[v'] y fun ev y' => ev = .returned (.agg (bys (tree F L)).toArray) ∧ (Below w.heap.size w y' ∧ y'.there w.heap.size 0 32)) := fun l e y v' hy hS hl => by
    rw [e]; exact (E.xsum y v' l hS hl).mono (fun ev y' ⟨e, hb⟩ => ⟨e, step y y' hy hb⟩)
  have t3 := tree_len E.toEnv L
  generalize hT1 : tree F (seg L 0 (half L.length)) = T1 at *
  generalize hT2 : tree F (seg L (half L.length) L.length) = T2 at *
  have J3 : Hid (∀ y, (Below w.heap.size w y ∧ y.there w.heap.size 0 32) → Calls Try.prog 43 #[.agg (bys T1).toArray, .agg (bys T2).toArray] y fun ev y' => ∃ v', ev = .returned v' ∧ Sl y' v' (1 :: (T1 ++ T2)) ∧ (Below w.heap.size w y' ∧ y'.there w.heap.size 0 32)) := fun y hy =>
    (pair_any y T1 T2 t1 t2).mono (fun ev y' ⟨v', e, ho, hb⟩ => ⟨v', e, Sl.ofRow ho, step y y' hy hb⟩)
  have J4 : Hid (∀ y v', (Below w.heap.size w y ∧ y.there w.heap.size 0 32) → Sl y v' (1 :: (T1 ++ T2)) → Calls Try.prog 22 #[v'] y fun ev y' => ev = .returned (.agg (bys (tree F L)).toArray) ∧ (Below w.heap.size w y' ∧ y'.there w.heap.size 0 32)) := fun y v' hy hS => HTx.out _ HT.out y v' hy hS (by simp [t1, t2])
  have hY := info26L _ t3
  have h32 := bys32 _ t3
  have h1c : ∀ u ∈ bys (tree F L), u.oneCell' = true := bys_one _
  clear h hs ih hT1 hT2 P1 P2 l1 l2 HT HTx t1 t2 step R0 hA t3
  generalize bys (tree F L) = Y at *
  generalize (bys T1).toArray = Y1 at *
  generalize (bys T2).toArray = Y2 at *
  obtain ⟨k, hk⟩ : ∃ k, k = half L.length := ⟨_, rfl⟩
  rw [← hk] at HL hh J1 J2
  clear hk
  generalize L.length = n at *
  have AW : Aside (W = w.alloc (.cells (bys zero32).toArray 26)) := hW
  clear hW
  have n2 : ¬ ((n : Int) = 1) := by omega
  have n3 : (k : Int) ≤ (n : Int) := by omega
  have n4 : (0 : Int) ≤ (k : Int) := by omega
  have n5 : (k : Int) ≤ (cap : Int) := by omega
  have n6 : (n : Int) ≤ (cap : Int) := by omega
  go_enter Try.func27, Try.ntmps27
  go_wp2_with fail
  refine Calls_at_world AW.out ?_
  refine HL.mono ?_
  rintro ev w1 ⟨rfl, rfl⟩
  go_wp2_with fail
  go_region_held3 (fun y => Below w.heap.size w y ∧ y.there w.heap.size 0 32) (first | assumption | exact ⟨below_setCells (Nat.le_refl _) _ _ hS5.1, World.there_setCells hS5.2 _ _ _⟩) (first
    | (go_at_call_of 27 (off + k); refine (J2.out _ (by assumption)).mono ?_; rintro ev w3 ⟨rfl, hS3⟩)
    | (go_at_call_of 27 k; refine (J1.out _ (by assumption)).mono ?_; rintro ev w2 ⟨rfl, hS2⟩)
    | (go_at_call 43; refine (J3.out _ (by assumption)).mono ?_; rintro ev w4 ⟨v4, rfl, hSl4, hS4⟩)
    | (go_at_call 22; refine (J4.out _ _ (by assumption) hSl4).mono ?_; rintro ev w5 ⟨rfl, hS5⟩; have hT5 := hS5.2))
  go_wp2_with fail
  refine bodyPost_ret (v := .agg _) (results_cell_mid Try.results27 _ _ w.heap.size Y rfl (World.rangeAt_setCells_same _ _ _ _ (by rw [h32]; exact hT5)) hY) rfl ⟨rfl, below_setCells (Nat.le_refl _) _ _ hS5.1⟩
theorem xtree_any (F : Bys → Bys) (E : Env2 F) : ∀ (n : Nat) (w : World) (v : Value) (L : List Bys), L.length = n → Ls w v L → Small L → 1 ≤ L.length → L.length ≤ 1000000 →
    Calls Try.prog 27 #[v] w fun ev w' => ev = .returned (.agg (bys (tree F L)).toArray) ∧ Below w.heap.size w w' := by
  intro n
  induction n using Nat.strongRecOn with
  | _ n ih =>
    intro w v L hn h hs h1 h9
    by_cases h2 : L.length = 1
    · exact xtree_base F E w v L h hs h2
    · exact xtree_step F E w v L h hs (by omega) h9 (fun w v M hM h1M hLs hSh => ih M.length (by omega) w v M rfl hLs hSh h1M (by omega))

set_option maxHeartbeats 4000000 in
theorem xroot_none (F : Bys → Bys) (E : Env2 F) (w : World) (ao : Option Addr) (cap : Nat) :
    Calls Try.prog 12 #[.slice ao 0 cap] w fun ev w' => ev = .returned (.agg (bys (root F [])).toArray) ∧ Below w.heap.size w w' := by
  have HT := top_any (w.alloc (.cells (bys zero32).toArray 26)) 0 zero32 zero32_len (by omega)
  have R0 := Row.new w 26 (bys zero32)
  have HA : Hid (Below w.heap.size w (w.alloc (.cells (bys zero32).toArray 26))) := (Below.refl _ _).alloc (Nat.le_refl _) _
  have e : root F [] = F (rootT 0 []) := rfl
  rw [if_pos rfl] at HT
  have hl : (rootT 0 []).length ≤ 100000 := by rw [rootT_len]; simp
  rw [e]
  have hlen := E.len (rootT 0 [])
  have hz := size26 _ hlen
  clear e
  generalize rootT 0 [] = T at *
  go_enter Try.func12, Try.ntmps12
  go_wp2_with (first | (go_at_call 26; refine HT.mono ?_; rintro ev w1 ⟨v1, rfl, ho1, hb1⟩) | (go_at_call 22; refine (E.xsum _ _ _ (Sl.ofRow ho1) hl).mono ?_; rintro ev w2 ⟨rfl, hb2⟩; have hb12 := nextB hb1 hb2; have R2 := R0.below hb12 R0.lt; have hB2 := nextB HA.out hb12) | (refine store26 rfl _ _ rfl w w.heap.size _ hlen rfl rfl zero32 zero32_len R2 _ hB2 (Nat.le_refl _) ?_; intro w3 R3 hB3 _))
  exact bodyPost_ret (v := .agg _) (results_cell_row Try.results12 _ _ w.heap.size 26 _ (0, 0) _ rfl R3.heap Try.underlying26 rfl hz) rfl ⟨rfl, hB3⟩

set_option maxHeartbeats 4000000 in
theorem xroot_some (F : Bys → Bys) (E : Env2 F) (w : World) (v : Value) (L : List Bys) (h : Ls w v L) (hs : Small L) (h1 : 1 ≤ L.length) (h9 : L.length ≤ 1000000) :
    Calls Try.prog 12 #[v] w fun ev w' => ev = .returned (.agg (bys (root F L)).toArray) ∧ Below w.heap.size w w' := by
  obtain ⟨ao, cp, rfl⟩ := h.slice
  have hA : Below w.heap.size w (w.alloc (.cells (bys zero32).toArray 26)) := (Below.refl _ _).alloc (Nat.le_refl _) _
  have HT := xtree_any F E _ (w.alloc (.cells (bys zero32).toArray 26)) _ L rfl (h.below hA) hs h1 h9
  have HA : Hid (Below w.heap.size w (w.alloc (.cells (bys zero32).toArray 26))) := hA
  have R0 := Row.new w 26 (bys zero32)
  have ht := tree_len E.toEnv L
  rw [root_some F L (by omega)]
  have HR : Hid (∀ y, Calls Try.prog 26 #[.int .i64 (L.length : Int), .agg (bys (tree F L)).toArray] y fun ev w' => ∃ v', ev = .returned v' ∧ w'.ownsRow y.heap.size 5 1 v' (rootT L.length (tree F L)).length (bys (rootT L.length (tree F L))) ∧ Below y.heap.size y w') := fun y => by
    have := top_any y L.length (tree F L) ht (by omega)
    rwa [if_neg (by omega)] at this
  have hl : (rootT L.length (tree F L)).length ≤ 100000 := by rw [rootT_len]; omega
  have hlen := E.len (rootT L.length (tree F L))
  have hz := size26 _ hlen
  generalize rootT L.length (tree F L) = T at *
  clear hA h hs
  generalize tree F L = t at *
  have n1 : ¬ ((L.length : Int) = 0) := by omega
  generalize L.length = n at *
  generalize (bys t).toArray = Y at *
  go_enter Try.func12, Try.ntmps12
  go_wp2_with (first | (go_at_call 27; refine HT.mono ?_; rintro ev w1 ⟨rfl, hb1⟩; have hB1 := nextB HA.out hb1; have R1 := R0.below hb1 R0.lt) | (go_at_call 26; refine (HR.out _).mono ?_; rintro ev w3 ⟨v3, rfl, ho3, hb3⟩) | (go_at_call 22; refine (E.xsum _ _ _ (Sl.ofRow ho3) hl).mono ?_; rintro ev w4 ⟨rfl, hb4⟩; have hb14 := nextB hb3 hb4; have R4 := R1.below hb14 R1.lt; have hB4 := nextB hB1 hb14) | (refine store26 rfl _ _ rfl w w.heap.size _ hlen rfl rfl zero32 zero32_len R4 _ hB4 (Nat.le_refl _) ?_; intro w5 R5 hB5 _))
  exact bodyPost_ret (v := .agg _) (results_cell_row Try.results12 _ _ w.heap.size 26 _ (0, 0) _ rfl R5.heap Try.underlying26 rfl hz) rfl ⟨rfl, hB5⟩
theorem xroot_any (F : Bys → Bys) (E : Env2 F) (w : World) (v : Value) (L : List Bys) (h : Ls w v L) (hs : Small L) (h9 : L.length ≤ 1000000) :
    Calls Try.prog 12 #[v] w fun ev w' => ev = .returned (.agg (bys (root F L)).toArray) ∧ Below w.heap.size w w' := by
  rcases Nat.eq_zero_or_pos L.length with h0 | h0
  · obtain ⟨ao, cp, rfl⟩ := h.slice
    obtain rfl : L = [] := by cases L <;> simp_all
    exact xroot_none F E w ao cp
  · exact xroot_some F E w v L h hs (by omega) h9
end Go.Proofs.Ytfkibbpekngciaa
