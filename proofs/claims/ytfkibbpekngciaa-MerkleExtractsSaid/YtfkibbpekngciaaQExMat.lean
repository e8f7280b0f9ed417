/-
  The mathematics of the tree, of ways and of proofs.
-/
import Derived.KernelRfl
namespace Go.Proofs.Ytfkibbpekngciaa

abbrev Bys := List UInt8
/-- The greatest power of two below n. -/
def half (n : Nat) : Nat := 2 ^ Nat.log2 (n - 1)
theorem half_le (n : Nat) (h : 2 ≤ n) : half n < n ∧ 1 ≤ half n ∧ n ≤ 2 * half n := by
  have h1 := Nat.log2_self_le (n := n - 1) (by omega)
  have h2 := Nat.lt_log2_self (n := n - 1)
  have h3 : 1 ≤ 2 ^ Nat.log2 (n - 1) := Nat.one_le_two_pow
  unfold half
  rw [Nat.pow_succ] at h2
  omega
/-- The tree's sum, at most so deep. -/
def treeN (F : Bys → Bys) : Nat → List Bys → Bys
  | 0, l => F (0 :: l.getD 0 [])
  | f + 1, l => if l.length < 2 then F (0 :: l.getD 0 []) else F (1 :: (treeN F f (l.take (half l.length)) ++ treeN F f (l.drop (half l.length))))
theorem treeN_same (F : Bys → Bys) : ∀ (f g : Nat) (l : List Bys), l.length ≤ f → l.length ≤ g → treeN F f l = treeN F g l
  | 0, 0, _, _, _ => rfl
  | 0, g + 1, l, h, _ => by simp only [treeN]; rw [if_pos (by omega)]
  | f + 1, 0, l, _, h => by simp only [treeN]; rw [if_pos (by omega)]
  | f + 1, g + 1, l, h1, h2 => by
    simp only [treeN]
    by_cases h : l.length < 2
    · rw [if_pos h, if_pos h]
    · have hh := half_le l.length (by omega)
      rw [if_neg h, if_neg h, treeN_same F f g (l.take (half l.length)) (by simp; omega) (by simp; omega), treeN_same F f g (l.drop (half l.length)) (by simp; omega) (by simp; omega)]
/-- The tree's sum. -/
def tree (F : Bys → Bys) (l : List Bys) : Bys := treeN F l.length l
theorem tree_unf (F : Bys → Bys) (l : List Bys) : tree F l = if l.length < 2 then F (0 :: l.getD 0 []) else F (1 :: (tree F (l.take (half l.length)) ++ tree F (l.drop (half l.length)))) := by
  unfold tree
  rw [treeN_same F l.length (l.length + 1) l (Nat.le_refl _) (by omega)]
  simp only [treeN]
  by_cases h : l.length < 2
  · rw [if_pos h, if_pos h]
  · have hh := half_le l.length (by omega)
    rw [if_neg h, if_neg h, treeN_same F l.length _ (l.take (half l.length)) (by simp; omega) (Nat.le_refl _), treeN_same F l.length _ (l.drop (half l.length)) (by simp) (Nat.le_refl _)]
theorem tree_one (F : Bys → Bys) (l : List Bys) (h : l.length < 2) : tree F l = F (0 :: l.getD 0 []) := by
  rw [tree_unf, if_pos h]
theorem tree_two (F : Bys → Bys) (l : List Bys) (h : 2 ≤ l.length) : tree F l = F (1 :: (tree F (l.take (half l.length)) ++ tree F (l.drop (half l.length)))) := by
  rw [tree_unf, if_neg (by omega)]
/-- Which leaves are on the other side, at each node from the top down, at most so many. -/
def downsN (idx : Nat) : Nat → Nat → Nat → List (Nat × Nat)
  | 0, _, _ => []
  | f + 1, low, high =>
    if high - low < 2 then [] else
      if idx < low + half (high - low) then (low + half (high - low), high) :: downsN idx f low (low + half (high - low))
      else (low, low + half (high - low)) :: downsN idx f (low + half (high - low)) high
theorem downsN_same (idx : Nat) : ∀ (f g low high : Nat), high - low ≤ f → high - low ≤ g → downsN idx f low high = downsN idx g low high
  | 0, 0, _, _, _, _ => rfl
  | 0, g + 1, low, high, h, _ => by simp only [downsN]; rw [if_pos (by omega)]
  | f + 1, 0, low, high, _, h => by simp only [downsN]; rw [if_pos (by omega)]
  | f + 1, g + 1, low, high, h1, h2 => by
    simp only [downsN]
    by_cases h : high - low < 2
    · rw [if_pos h, if_pos h]
    · have hh := half_le (high - low) (by omega)
      rw [if_neg h, if_neg h, downsN_same idx f g low (low + half (high - low)) (by omega) (by omega), downsN_same idx f g (low + half (high - low)) high (by omega) (by omega)]
/-- Which leaves are on the other side, at each node from the top down. -/
def downs (idx low high : Nat) : List (Nat × Nat) := downsN idx (high - low) low high
theorem downs_unf (idx low high : Nat) : downs idx low high = if high - low < 2 then [] else
    if idx < low + half (high - low) then (low + half (high - low), high) :: downs idx low (low + half (high - low))
    else (low, low + half (high - low)) :: downs idx (low + half (high - low)) high := by
  unfold downs
  rw [downsN_same idx (high - low) (high - low + 1) low high (Nat.le_refl _) (by omega)]
  simp only [downsN]
  by_cases h : high - low < 2
  · rw [if_pos h, if_pos h]
  · have hh := half_le (high - low) (by omega)
    rw [if_neg h, if_neg h, downsN_same idx (high - low) _ low (low + half (high - low)) (by omega) (Nat.le_refl _), downsN_same idx (high - low) _ (low + half (high - low)) high (by omega) (Nat.le_refl _)]
theorem downs_end (i low high : Nat) (h : high - low < 2) : downs i low high = [] := by rw [downs_unf, if_pos h]
theorem downs_left (i low high : Nat) (h : 2 ≤ high - low) (hi : i < low + half (high - low)) : downs i low high = (low + half (high - low), high) :: downs i low (low + half (high - low)) := by
  rw [downs_unf, if_neg (by omega), if_pos hi]
theorem downs_right (i low high : Nat) (h : 2 ≤ high - low) (hi : ¬ i < low + half (high - low)) : downs i low high = (low, low + half (high - low)) :: downs i (low + half (high - low)) high := by
  rw [downs_unf, if_neg (by omega), if_neg hi]
/-- Those from one place on to below another. -/
def seg {α : Type} (l : List α) (a b : Nat) : List α := (l.drop a).take (b - a)
theorem seg_len {α : Type} (l : List α) (a b : Nat) (h : b ≤ l.length) : (seg l a b).length = b - a := by simp [seg]; omega
theorem seg_all {α : Type} (l : List α) : seg l 0 l.length = l := by simp [seg]
theorem seg_take {α : Type} (l : List α) (a b k : Nat) (h : a + k ≤ b) : (seg l a b).take k = seg l a (a + k) := by
  unfold seg
  rw [List.take_take]; congr 1; omega
theorem seg_drop {α : Type} (l : List α) (a b k : Nat) : (seg l a b).drop k = seg l (a + k) b := by
  unfold seg
  rw [List.drop_take, List.drop_drop]; congr 1; omega
theorem seg_get (l : List Bys) (a b j : Nat) (h : j < b - a) : (seg l a b).getD j [] = l.getD (a + j) [] := by
  simp [seg, List.getD, List.getElem?_take_of_lt h]
theorem tree_seg (F : Bys → Bys) (l : List Bys) (a b : Nat) (h : 2 ≤ b - a) (hb : b ≤ l.length) : tree F (seg l a b) = F (1 :: (tree F (seg l a (a + half (b - a))) ++ tree F (seg l (a + half (b - a)) b))) := by
  have hh := half_le (b - a) h
  rw [tree_two _ _ (by rw [seg_len _ _ _ hb]; exact h), seg_len _ _ _ hb, seg_take _ _ _ _ (by omega), seg_drop]
theorem tree_seg1 (F : Bys → Bys) (l : List Bys) (a b : Nat) (h : b - a = 1) (hb : b ≤ l.length) : tree F (seg l a b) = F (0 :: l.getD a []) := by
  rw [tree_one _ _ (by rw [seg_len _ _ _ hb]; omega), seg_get _ _ _ _ (by omega), Nat.add_zero]

/-- A proof's sums. -/
def path (F : Bys → Bys) (l : List Bys) (i : Nat) : List Bys := (downs i 0 l.length).reverse.map (fun p => tree F (seg l p.1 p.2))
/-- Is the other side the left one, from the leaf up. -/
def lefts (i n : Nat) : List Bool := (downs i 0 n).reverse.map (fun p => decide (p.1 < i))
theorem lefts_path (F : Bys → Bys) (l : List Bys) (i : Nat) : (lefts i l.length).length = (path F l i).length := by simp [lefts, path]
/-- The document's own path, at most so long. -/
def xpathN (F : Bys → Bys) : Nat → List Bys → Nat → List Bys
  | 0, _, _ => []
  | f + 1, l, i =>
    if l.length < 2 then [] else
      if i < half l.length then xpathN F f (l.take (half l.length)) i ++ [tree F (l.drop (half l.length))]
      else xpathN F f (l.drop (half l.length)) (i - half l.length) ++ [tree F (l.take (half l.length))]
theorem xpathN_same (F : Bys → Bys) : ∀ (f g : Nat) (l : List Bys) (i : Nat), l.length ≤ f → l.length ≤ g → xpathN F f l i = xpathN F g l i
  | 0, 0, _, _, _, _ => rfl
  | 0, g + 1, l, i, h, _ => by simp only [xpathN]; rw [if_pos (by omega)]
  | f + 1, 0, l, i, _, h => by simp only [xpathN]; rw [if_pos (by omega)]
  | f + 1, g + 1, l, i, h1, h2 => by
    simp only [xpathN]
    by_cases h : l.length < 2
    · rw [if_pos h, if_pos h]
    · have hh := half_le l.length (by omega)
      rw [if_neg h, if_neg h, xpathN_same F f g (l.take (half l.length)) i (by simp; omega) (by simp; omega), xpathN_same F f g (l.drop (half l.length)) (i - half l.length) (by simp; omega) (by simp; omega)]
/-- The document's own path. -/
def xpath (F : Bys → Bys) (l : List Bys) (i : Nat) : List Bys := xpathN F l.length l i
theorem xpath_unf (F : Bys → Bys) (l : List Bys) (i : Nat) : xpath F l i = if l.length < 2 then [] else
    if i < half l.length then xpath F (l.take (half l.length)) i ++ [tree F (l.drop (half l.length))]
    else xpath F (l.drop (half l.length)) (i - half l.length) ++ [tree F (l.take (half l.length))] := by
  unfold xpath
  rw [xpathN_same F l.length (l.length + 1) l i (Nat.le_refl _) (by omega)]
  simp only [xpathN]
  by_cases h : l.length < 2
  · rw [if_pos h, if_pos h]
  · have hh := half_le l.length (by omega)
    rw [if_neg h, if_neg h, xpathN_same F l.length _ (l.take (half l.length)) i (by simp; omega) (Nat.le_refl _), xpathN_same F l.length _ (l.drop (half l.length)) (i - half l.length) (by simp) (Nat.le_refl _)]
def xsidesN : Nat → Nat → Nat → List Bool
  | 0, _, _ => []
  | f + 1, n, i =>
    if n < 2 then [] else
      if i < half n then xsidesN f (half n) i ++ [true] else xsidesN f (n - half n) (i - half n) ++ [false]
theorem xsidesN_same : ∀ (f g n i : Nat), n ≤ f → n ≤ g → xsidesN f n i = xsidesN g n i
  | 0, 0, _, _, _, _ => rfl
  | 0, g + 1, n, i, h, _ => by simp only [xsidesN]; rw [if_pos (by omega)]
  | f + 1, 0, n, i, _, h => by simp only [xsidesN]; rw [if_pos (by omega)]
  | f + 1, g + 1, n, i, h1, h2 => by
    simp only [xsidesN]
    by_cases h : n < 2
    · rw [if_pos h, if_pos h]
    · have hh := half_le n (by omega)
      rw [if_neg h, if_neg h, xsidesN_same f g (half n) i (by omega) (by omega), xsidesN_same f g (n - half n) (i - half n) (by omega) (by omega)]
def xsides (n i : Nat) : List Bool := xsidesN n n i
theorem xsides_unf (n i : Nat) : xsides n i = if n < 2 then [] else
    if i < half n then xsides (half n) i ++ [true] else xsides (n - half n) (i - half n) ++ [false] := by
  unfold xsides
  rw [xsidesN_same n (n + 1) n i (Nat.le_refl _) (by omega)]
  simp only [xsidesN]
  by_cases h : n < 2
  · rw [if_pos h, if_pos h]
  · have hh := half_le n (by omega)
    rw [if_neg h, if_neg h, xsidesN_same n _ (half n) i (by omega) (Nat.le_refl _), xsidesN_same n _ (n - half n) (i - half n) (by omega) (Nat.le_refl _)]
theorem xpath_seg (F : Bys → Bys) (l : List Bys) (i : Nat) : ∀ (d low high : Nat), high - low = d → low ≤ i → i < high → high ≤ l.length →
    xpath F (seg l low high) (i - low) = (downs i low high).reverse.map (fun p => tree F (seg l p.1 p.2)) := by
  intro d
  induction d using Nat.strongRecOn with
  | _ d ih =>
    intro low high hd h1 h2 h3
    have hl := seg_len l low high h3
    by_cases h : high - low < 2
    · rw [downs_end _ _ _ h, xpath_unf, if_pos (by omega)]; rfl
    · have hh := half_le (high - low) (by omega)
      rw [xpath_unf, if_neg (by omega), hl]
      by_cases hi : i < low + half (high - low)
      · rw [if_pos (by omega), downs_left _ _ _ (by omega) hi, seg_take _ _ _ _ (by omega), seg_drop, ih (low + half (high - low) - low) (by omega) low _ rfl h1 hi (by omega)]
        simp
      · rw [if_neg (by omega), downs_right _ _ _ (by omega) hi, seg_take _ _ _ _ (by omega), seg_drop]
        have e : i - low - half (high - low) = i - (low + half (high - low)) := by omega
        rw [e, ih (high - (low + half (high - low))) (by omega) _ high rfl (by omega) h2 h3]
        simp
theorem xpath_eq (F : Bys → Bys) (l : List Bys) (i : Nat) (h : i < l.length) : xpath F l i = path F l i := by
  have := xpath_seg F l i _ 0 l.length rfl (by omega) h (Nat.le_refl _)
  rwa [seg_all] at this
theorem xsides_seg (i : Nat) : ∀ (d low high : Nat), high - low = d → low ≤ i → i < high → xsides (high - low) (i - low) = (downs i low high).reverse.map (fun p => !decide (p.1 < i)) := by
  intro d
  induction d using Nat.strongRecOn with
  | _ d ih =>
    intro low high hd h1 h2
    by_cases h : high - low < 2
    · rw [downs_end _ _ _ h, xsides_unf, if_pos (by omega)]; rfl
    · have hh := half_le (high - low) (by omega)
      rw [xsides_unf, if_neg (by omega)]
      by_cases hi : i < low + half (high - low)
      · have e := ih (low + half (high - low) - low) (by omega) low _ rfl h1 hi
        have e0 : low + half (high - low) - low = half (high - low) := by omega
        rw [e0] at e
        have e1 : ¬ low + half (high - low) < i := by omega
        rw [if_pos (by omega), downs_left _ _ _ (by omega) hi, e]
        simp; omega
      · have e := ih (high - (low + half (high - low))) (by omega) (low + half (high - low)) high rfl (by omega) h2
        have e0 : high - (low + half (high - low)) = high - low - half (high - low) := by omega
        have e1 : i - (low + half (high - low)) = i - low - half (high - low) := by omega
        have e2 : low < i := by omega
        rw [e0, e1] at e
        rw [if_neg (by omega), downs_right _ _ _ (by omega) hi, e]
        simp; omega
theorem xsides_eq (i n : Nat) (h : i < n) : xsides n i = (lefts i n).map (!·) := by
  have := xsides_seg i _ 0 n rfl (by omega) h
  simp only [Nat.sub_zero] at this
  rw [this]; simp [lefts]

/-- What a node is made of: the other side, and this one's sum. -/
def node (x : Bool × Bys) (s : Bys) : Bys := if x.1 then 1 :: (x.2 ++ s) else 1 :: (s ++ x.2)
/-- What the sums of a proof are made of, from the leaf up. -/
def climb (F : Bys → Bys) : Bys → List (Bool × Bys) → List Bys
  | t, [] => [t]
  | t, x :: r => t :: climb F (node x (F t)) r
theorem climb_len (F : Bys → Bys) : ∀ (xs : List (Bool × Bys)) (t : Bys), (climb F t xs).length = xs.length + 1
  | [], _ => rfl
  | x :: r, t => by simp [climb, climb_len F r]
theorem climb_ne (F : Bys → Bys) (xs : List (Bool × Bys)) (t : Bys) : climb F t xs ≠ [] := fun h => by
  have := climb_len F xs t; rw [h] at this; simp at this
def lastT (l : List Bys) : Bys := l.getLastD []
theorem lastT_cons (t : Bys) (l : List Bys) (h : l ≠ []) : lastT (t :: l) = lastT l := by
  cases l with
  | nil => exact absurd rfl h
  | cons a r => simp [lastT, List.getLastD]
theorem lastT_snoc (l : List Bys) (x : Bys) : lastT (l ++ [x]) = x := by
  unfold lastT
  rw [List.getLastD_eq_getLast?]; simp
theorem lastT_get (l : List Bys) : lastT l = l.getD (l.length - 1) [] := by
  unfold lastT
  rw [List.getLastD_eq_getLast?, List.getLast?_eq_getElem?]; rfl
theorem climb_snoc (F : Bys → Bys) (x : Bool × Bys) : ∀ (xs : List (Bool × Bys)) (t : Bys), climb F t (xs ++ [x]) = climb F t xs ++ [node x (F (lastT (climb F t xs)))]
  | [], t => rfl
  | y :: r, t => by
    simp only [List.cons_append, climb]
    rw [climb_snoc F x r, lastT_cons _ _ (climb_ne F r _)]
def b8 (n : Nat) (k : Nat) : UInt8 := UInt8.ofNat (n / k % 256)
/-- Eight bytes, the highest first. -/
def be8 (n : Nat) : Bys := [b8 n 72057594037927936, b8 n 281474976710656, b8 n 1099511627776, b8 n 4294967296, b8 n 16777216, b8 n 65536, b8 n 256, b8 n 1]
theorem be8_inj {n m : Nat} (hn : n < 18446744073709551616) (hm : m < 18446744073709551616) (h : be8 n = be8 m) : n = m := by
  have key : ∀ k, b8 n k = b8 m k → n / k % 256 = m / k % 256 := fun k e => by
    have := congrArg UInt8.toNat e
    simpa [b8] using this
  simp only [be8, List.cons.injEq, and_true] at h
  obtain ⟨h0, h1, h2, h3, h4, h5, h6, h7⟩ := h
  have := key _ h0; have := key _ h1; have := key _ h2; have := key _ h3; have := key _ h4; have := key _ h5; have := key _ h6; have := key _ h7
  omega
def rootT (n : Nat) (s : Bys) : Bys := 2 :: (be8 n ++ s)
def root (F : Bys → Bys) (l : List Bys) : Bys := F (rootT l.length (if l.length = 0 then [] else tree F l))
/-- All that a proof's sums are made of, from the leaf up, the root last. -/
def texts (F : Bys → Bys) (b : Bys) (i n : Nat) (p : List Bys) : List Bys :=
  climb F (0 :: b) ((lefts i n).zip p) ++ [rootT n (F (lastT (climb F (0 :: b) ((lefts i n).zip p))))]
/-- The form of a proof. -/
def Form (i n : Int) (p : List Bys) : Prop := 0 ≤ i ∧ i < n ∧ (lefts i.toNat n.toNat).length = p.length
def check (F : Bys → Bys) (r b : Bys) (i n : Nat) (p : List Bys) : Bool := F (lastT (texts F b i n p)) == r
theorem texts_len (F : Bys → Bys) (b : Bys) (i n : Nat) (p : List Bys) (h : (lefts i n).length = p.length) : (texts F b i n p).length = p.length + 2 := by
  simp [texts, climb_len, h]
theorem texts_last (F : Bys → Bys) (b : Bys) (i n : Nat) (p : List Bys) : lastT (texts F b i n p) = rootT n (F (lastT (climb F (0 :: b) ((lefts i n).zip p)))) := lastT_snoc _ _

theorem climb_seg (F : Bys → Bys) (l : List Bys) (i : Nat) : ∀ (d low high : Nat), high - low = d → low ≤ i → i < high → high ≤ l.length →
    F (lastT (climb F (0 :: l.getD i []) ((downs i low high).reverse.map (fun p => (decide (p.1 < i), tree F (seg l p.1 p.2)))))) = tree F (seg l low high) := by
  intro d
  induction d using Nat.strongRecOn with
  | _ d ih =>
    intro low high hd h1 h2 h3
    by_cases h : high - low < 2
    · obtain rfl : low = i := by omega
      rw [downs_end _ _ _ h, tree_seg1 _ _ _ _ (by omega) h3]; rfl
    · have hh := half_le (high - low) (by omega)
      rw [tree_seg _ _ _ _ (by omega) h3]
      by_cases hi : i < low + half (high - low)
      · have e1 : ¬ low + half (high - low) < i := by omega
        rw [downs_left _ _ _ (by omega) hi, List.reverse_cons, List.map_append, List.map_singleton, climb_snoc, lastT_snoc, ih (low + half (high - low) - low) (by omega) low _ rfl h1 hi (by omega)]
        simp [node, e1]
      · have e1 : low < i := by omega
        rw [downs_right _ _ _ (by omega) hi, List.reverse_cons, List.map_append, List.map_singleton, climb_snoc, lastT_snoc, ih (high - (low + half (high - low))) (by omega) _ high rfl (by omega) h2 h3]
        simp [node, e1]
theorem zip_own (F : Bys → Bys) (l : List Bys) (i : Nat) : (lefts i l.length).zip (path F l i) = (downs i 0 l.length).reverse.map (fun p => (decide (p.1 < i), tree F (seg l p.1 p.2))) := by
  unfold lefts path
  rw [List.zip_map', ]
theorem climb_own (F : Bys → Bys) (l : List Bys) (i : Nat) (h : i < l.length) : F (lastT (climb F (0 :: l.getD i []) ((lefts i l.length).zip (path F l i)))) = tree F l := by
  rw [zip_own]
  have := climb_seg F l i _ 0 l.length rfl (by omega) h (Nat.le_refl _)
  rwa [seg_all] at this
theorem root_some (F : Bys → Bys) (l : List Bys) (h : 0 < l.length) : root F l = F (rootT l.length (tree F l)) := by
  unfold root; rw [if_neg (by omega)]
/-- Each leaf's proof is right. -/
theorem check_own (F : Bys → Bys) (l : List Bys) (i : Nat) (h : i < l.length) : check F (root F l) (l.getD i []) i l.length (path F l i) = true := by
  unfold check
  rw [texts_last, climb_own F l i h, root_some F l (by omega)]
  simp

/-- The first two that are unlike. -/
def diff : List Bys → List Bys → Option (Bys × Bys)
  | x :: xs, y :: ys => if x = y then diff xs ys else some (x, y)
  | _, _ => none
theorem diff_ne : ∀ {xs ys : List Bys} {x y : Bys}, diff xs ys = some (x, y) → x ≠ y
  | [], _, _, _, h => by simp [diff] at h
  | _ :: _, [], _, _, h => by simp [diff] at h
  | a :: xs, b :: ys, x, y, h => by
    unfold diff at h
    by_cases e : a = b
    · rw [if_pos e] at h; exact diff_ne h
    · rw [if_neg e] at h; cases h; exact e
theorem diff_append_ne : ∀ (xs ys : List Bys) (x y : Bys), xs.length = ys.length → x ≠ y → (diff (xs ++ [x]) (ys ++ [y])).isSome = true
  | [], [], x, y, _, h => by simp [diff, h]
  | a :: xs, b :: ys, x, y, hl, h => by
    simp only [List.cons_append]
    unfold diff
    by_cases e : a = b
    · rw [if_pos e]; exact diff_append_ne xs ys x y (by simpa using hl) h
    · rw [if_neg e]; rfl
  | [], _ :: _, _, _, hl, _ => by simp at hl
  | _ :: _, [], _, _, hl, _ => by simp at hl

/-- From the top down: each text tells the sum of the next one. -/
theorem node_inj {x y : Bool × Bys} {s t : Bys} (hb : x.1 = y.1) (hx : x.2.length = 32) (hy : y.2.length = 32) (hs : s.length = 32) (ht : t.length = 32) (h : node x s = node y t) : s = t := by
  unfold node at h
  rw [← hb] at h
  by_cases e : x.1 = true
  · rw [if_pos e, if_pos e] at h
    exact (List.append_inj (List.cons.inj h).2 (by omega)).2
  · rw [if_neg e, if_neg e] at h
    exact (List.append_inj (List.cons.inj h).2 (by omega)).1
theorem diff_climb (F : Bys → Bys) (hF : ∀ l, (F l).length = 32) (bs : List Bool) (t u : Bys) : ∀ (ps qs : List Bys), ps.length = bs.length → qs.length = bs.length → (∀ p ∈ ps, p.length = 32) → (∀ q ∈ qs, q.length = 32) →
    F (lastT (climb F t (bs.zip ps))) = F (lastT (climb F u (bs.zip qs))) → ∀ x y, diff (climb F t (bs.zip ps)).reverse (climb F u (bs.zip qs)).reverse = some (x, y) → F x = F y := by
  suffices H : ∀ (n : Nat) (bs : List Bool) (ps qs : List Bys), bs.length = n → ps.length = bs.length → qs.length = bs.length → (∀ p ∈ ps, p.length = 32) → (∀ q ∈ qs, q.length = 32) →
    F (lastT (climb F t (bs.zip ps))) = F (lastT (climb F u (bs.zip qs))) → ∀ x y, diff (climb F t (bs.zip ps)).reverse (climb F u (bs.zip qs)).reverse = some (x, y) → F x = F y from fun ps qs => H _ bs ps qs rfl
  intro n
  induction n with
  | zero =>
    intro bs ps qs hn h1 h2 _ _ hF0 x y hd
    obtain rfl := List.eq_nil_of_length_eq_zero hn
    simp only [List.zip_nil_left, climb, List.reverse_cons, List.reverse_nil, List.nil_append] at hd hF0
    unfold diff at hd
    by_cases e : t = u
    · rw [if_pos e] at hd; simp [diff] at hd
    · rw [if_neg e] at hd; cases hd; exact hF0
  | succ n ih =>
    intro bs ps qs hn h1 h2 h3 h4 hF0 x y hd
    obtain ⟨bs, b, rfl⟩ : ∃ r b, bs = r ++ [b] := ⟨bs.dropLast, bs.getLast (by intro e; rw [e] at hn; simp at hn), (List.dropLast_concat_getLast _).symm⟩
    obtain ⟨ps, p, rfl⟩ : ∃ r b, ps = r ++ [b] := ⟨ps.dropLast, ps.getLast (by intro e; rw [e] at h1; simp at h1), (List.dropLast_concat_getLast _).symm⟩
    obtain ⟨qs, q, rfl⟩ : ∃ r b, qs = r ++ [b] := ⟨qs.dropLast, qs.getLast (by intro e; rw [e] at h2; simp at h2), (List.dropLast_concat_getLast _).symm⟩
    simp only [List.length_append, List.length_singleton] at hn h1 h2
    rw [List.zip_append (by omega), List.zip_append (by omega)] at hF0 hd
    simp only [List.zip_cons_cons, List.zip_nil_right] at hF0 hd
    rw [climb_snoc, climb_snoc] at hF0 hd
    rw [lastT_snoc, lastT_snoc] at hF0
    rw [List.reverse_append, List.reverse_append] at hd
    simp only [List.reverse_cons, List.reverse_nil, List.nil_append, List.singleton_append] at hd
    unfold diff at hd
    split at hd
    · rename_i e
      have es := node_inj (x := (b, p)) (y := (b, q)) rfl (h3 p (by simp)) (h4 q (by simp)) (hF _) (hF _) e
      exact ih bs ps qs (by omega) (by omega) (by omega) (fun p hp => h3 p (by simp [hp])) (fun q hq => h4 q (by simp [hq])) es x y hd
    · cases hd; exact hF0
/-- What Extract tells. -/
def extract (F : Bys → Bys) (l : List Bys) (b : Bys) (i n : Nat) (p : List Bys) : Option (Bys × Bys) :=
  diff (texts F b i n p).reverse (texts F (l.getD i []) i l.length (path F l i)).reverse
theorem path_mem (F : Bys → Bys) (hF : ∀ l, (F l).length = 32) (l : List Bys) (i : Nat) : ∀ p ∈ path F l i, p.length = 32 := by
  intro p hp
  unfold path at hp
  obtain ⟨x, _, rfl⟩ := List.mem_map.1 hp
  by_cases h : (seg l x.1 x.2).length < 2
  · rw [tree_one _ _ h]; exact hF _
  · rw [tree_two _ _ (by omega)]; exact hF _
theorem texts_rev (F : Bys → Bys) (b : Bys) (i n : Nat) (p : List Bys) : (texts F b i n p).reverse = rootT n (F (lastT (climb F (0 :: b) ((lefts i n).zip p)))) :: (climb F (0 :: b) ((lefts i n).zip p)).reverse := by
  unfold texts; simp
theorem rootT_inj {n m : Nat} {s t : Bys} (hn : n < 18446744073709551616) (hm : m < 18446744073709551616) (h : rootT n s = rootT m t) : n = m ∧ s = t := by
  have := (List.cons.inj h).2
  have := List.append_inj this rfl
  exact ⟨be8_inj hn hm this.1, this.2⟩
/-- Two texts that Extract tells have one sum. -/
theorem extract_sum (F : Bys → Bys) (hF : ∀ l, (F l).length = 32) (l : List Bys) (b : Bys) (i n : Nat) (p : List Bys) (hi : i < l.length) (hn : n < 18446744073709551616) (hm : l.length < 18446744073709551616) (hp : ∀ q ∈ p, q.length = 32) (hl : (lefts i n).length = p.length)
    (hc : check F (root F l) b i n p = true) (x y : Bys) (h : extract F l b i n p = some (x, y)) : F x = F y := by
  have hr : F (lastT (texts F b i n p)) = F (lastT (texts F (l.getD i []) i l.length (path F l i))) := by
    have h1 : F (lastT (texts F b i n p)) = root F l := by simpa [check] using hc
    have h2 : F (lastT (texts F (l.getD i []) i l.length (path F l i))) = root F l := by simpa [check] using check_own F l i hi
    rw [h1, h2]
  rw [texts_last, texts_last] at hr
  unfold extract at h
  rw [texts_rev, texts_rev] at h
  unfold diff at h
  split at h
  · rename_i e
    obtain ⟨rfl, es⟩ := rootT_inj hn hm e
    exact diff_climb F hF (lefts i l.length) _ _ p (path F l i) hl.symm (lefts_path F l i).symm hp (path_mem F hF l i) es x y h
  · cases h; exact hr
/-- Extract finds two texts unless the leaf is the shown one. -/
theorem extract_some (F : Bys → Bys) (l : List Bys) (b : Bys) (i n : Nat) (p : List Bys) (hn : n < 18446744073709551616) (hm : l.length < 18446744073709551616) (hl : (lefts i n).length = p.length) (hne : ¬ (n = l.length ∧ b = l.getD i [])) : (extract F l b i n p).isSome = true := by
  unfold extract
  rw [texts_rev, texts_rev]
  by_cases e : n = l.length
  · subst e
    have hb : b ≠ l.getD i [] := fun h => hne ⟨rfl, h⟩
    unfold diff
    split
    · have hcl : ∀ (t : Bys) (xs : List (Bool × Bys)), ∃ r, (climb F t xs).reverse = r ++ [t] ∧ r.length = xs.length := fun t xs => by
        cases xs with
        | nil => exact ⟨[], rfl, rfl⟩
        | cons x r => exact ⟨(climb F (node x (F t)) r).reverse, by simp [climb], by simp [climb_len]⟩
      obtain ⟨r1, e1, l1⟩ := hcl (0 :: b) ((lefts i l.length).zip p)
      obtain ⟨r2, e2, l2⟩ := hcl (0 :: l.getD i []) ((lefts i l.length).zip (path F l i))
      rw [e1, e2]
      refine diff_append_ne _ _ _ _ ?_ (fun h => hb (List.cons.inj h).2)
      rw [l1, l2]
      have := lefts_path F l i
      simp; omega
    · rfl
  · unfold diff
    rw [if_neg (fun h => e (rootT_inj hn hm h).1)]; rfl
theorem half_pow (n k : Nat) (h : 2 ≤ n) (hk : n ≤ 2 ^ (k + 1)) : half n ≤ 2 ^ k := by
  unfold half
  refine Nat.pow_le_pow_right (by omega) ?_
  have h1 : Nat.log2 (n - 1) < k + 1 := (Nat.log2_lt (by omega)).2 (by omega)
  omega
/-- A way has no more nodes than the leaves can be halved. -/
theorem downs_len (i : Nat) : ∀ (k low high : Nat), high - low ≤ 2 ^ k → (downs i low high).length ≤ k
  | 0, low, high, h => by rw [downs_end _ _ _ (by omega)]; simp
  | k + 1, low, high, h => by
    by_cases h2 : high - low < 2
    · rw [downs_end _ _ _ h2]; simp
    · have hh := half_le (high - low) (by omega)
      have hp := half_pow (high - low) k (by omega) h
      by_cases hi : i < low + half (high - low)
      · rw [downs_left _ _ _ (by omega) hi]
        have := downs_len i k low (low + half (high - low)) (by omega)
        simp; omega
      · rw [downs_right _ _ _ (by omega) hi]
        have := downs_len i k (low + half (high - low)) high (by omega)
        simp; omega
/-- Just as many where they are a power of two. -/
theorem downs_full (i : Nat) : ∀ (k low high : Nat), high - low = 2 ^ k → (downs i low high).length = k
  | 0, low, high, h => by rw [downs_end _ _ _ (by omega)]; rfl
  | k + 1, low, high, h => by
    have h2 : 2 ≤ high - low := by rw [h, Nat.pow_succ]; have := Nat.two_pow_pos k; omega
    have hh := half_le (high - low) h2
    have hp := half_pow (high - low) k h2 (by omega)
    have hq : half (high - low) = 2 ^ k := by rw [Nat.pow_succ] at h; omega
    rw [Nat.pow_succ] at h
    by_cases hi : i < low + half (high - low)
    · rw [downs_left _ _ _ h2 hi]
      have := downs_full i k low (low + half (high - low)) (by omega)
      simp; omega
    · rw [downs_right _ _ _ h2 hi]
      have := downs_full i k (low + half (high - low)) high (by omega)
      simp; omega
theorem downs_pos (i low high : Nat) (h : 2 ≤ high - low) : 1 ≤ (downs i low high).length := by
  by_cases hi : i < low + half (high - low)
  · rw [downs_left _ _ _ h hi]; simp
  · rw [downs_right _ _ _ h hi]; simp
theorem downs_64 (i n : Nat) (h : n ≤ 9223372036854775807) : (downs i 0 n).length ≤ 63 := downs_len i 63 0 n (by omega)
end Go.Proofs.Ytfkibbpekngciaa
