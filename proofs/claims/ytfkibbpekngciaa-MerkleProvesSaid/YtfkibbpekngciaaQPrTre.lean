/-
  treeBy and rootBy.
-/
import Derived.Test.YtfkibbpekngciaaJoinLsm3xPr
import Derived.Test.YtfkibbpekngciaaQPrTxc
import Derived.Test.YtfkibbpekngciaaQPrLof
import Derived.Deep.RegionHeld3
namespace Go.Proofs.Ytfkibbpekngciaa
open Go.RowKit

/-- What is known of a summing function of the program. -/
structure Env (F : Bys → Bys) : Prop where
  len : ∀ l, (F l).length = 32
  sum : ∀ (w : World) (v : Value) (l : Bys), Sl w v l → l.length ≤ 1000000 → Calls Try.prog 25 #[v] w fun ev w' => ev = .returned (.agg (bys (F l)).toArray) ∧ Below w.heap.size w w'
theorem tree_len {F : Bys → Bys} (E : Env F) (L : List Bys) : (tree F L).length = 32 := by
  by_cases h : L.length < 2
  · rw [tree_one _ _ h]; exact E.len _
  · rw [tree_two _ _ (by omega)]; exact E.len _
def fn25 : Value := .func (.func 25) #[] #[]
theorem Sl.ofRow {w : World} {B : Nat} {v : Value} {l : List UInt8} (h : w.ownsRow B 5 1 v l.length (bys l)) : Sl w v l := Sl.ofOwn' h
/-- All leaves are short. -/
def Short (L : List Bys) : Prop := ∀ b ∈ L, b.length ≤ 100000
theorem Short.get {L : List Bys} (h : Short L) (i : Nat) : (L.getD i []).length ≤ 100000 := by
  rcases Nat.lt_or_ge i L.length with hi | hi
  · rw [List.getD, List.getElem?_eq_getElem hi]; exact h _ (List.getElem_mem hi)
  · rw [List.getD, List.getElem?_eq_none hi]; simp
theorem Short.seg {L : List Bys} (h : Short L) (i j : Nat) : Short (seg L i j) := fun b hb => h b (List.mem_of_mem_drop (List.mem_of_mem_take hb))
def z26 : List Value := bys (List.replicate 32 0)

theorem sl_slice {w : World} {v : Value} {l : List UInt8} (h : Sl w v l) : ∃ ao cp, v = .slice ao l.length cp := by
  rcases h.shape with ⟨_, rfl, rfl⟩ | ⟨b', o, cap, rfl, _⟩
  · exact ⟨_, _, rfl⟩
  · exact ⟨_, _, rfl⟩
theorem size26 (h : Bys) (hl : h.length = 32) : (Try.prog.info? 26).map (·.size) = some (bys h).toArray.size := by rw [Try.info26]; simp [bys_len, hl]
/-- A sum is stored into a variable of one's own. -/
theorem store26 {ops : Array Oper} {rest : List Oper} {o : Oper} {a : Act} {w : World} {Q : Exit → Act → World → Prop} (hgd : o.guard = none) (x y : Operand) (ho : o.op = .store 26 x y) (w0 : World) (g : Nat) (h : Bys) (hl : h.length = 32)
    (hx : a.eval x = .pointer (some ⟨g, 0, none⟩)) (hy : a.eval y = .agg (bys h).toArray) (old : Bys) (hol : old.length = 32) (hr : Row w g 26 (bys old)) (B : Nat) (hb : Below B w0 w) (hB : B ≤ g)
    (k : ∀ w', Row w' g 26 (bys h) → Below B w0 w' → Hid (w' = w.setRow g (bys h).toArray) → wpList Try.prog ops Q rest (a.put o.dst undef) w') : wpList Try.prog ops Q (o :: rest) a w := by
  refine wpList_store_row hgd 26 x y ho g (bys h).toArray hx hy 26 (bys old).toArray hr.heap (size26 h hl) (by simp [bys_len, hl, hol]) (all_one (bys_one h)) ?_
  exact k _ ⟨setRow_heap w g _ _ 26 _ hr.heap⟩ (below_setRow hb hB _) rfl
theorem nextB {w w1 w2 : World} (h1 : Below w.heap.size w w1) (h2 : Below w1.heap.size w1 w2) : Below w.heap.size w w2 := h1.trans (h2.mono h1.size)
def zero32 : Bys := List.replicate 32 0
theorem zero32_len : zero32.length = 32 := rfl
set_option maxHeartbeats 1000000 in
theorem tree_base (F : Bys → Bys) (E : Env F) (w : World) (v : Value) (L : List Bys) (h : Ls w v L) (hs : Short L) (h1 : L.length = 1) :
    Calls Try.prog 38 #[fn25, v] w fun ev w' => ev = .returned (.agg (bys (tree F L)).toArray) ∧ Below w.heap.size w w' := by
  obtain ⟨b, off, cap, fv, rfl, hcap, hc⟩ := h.some_ (by omega)
  have c0 : w.cell? ⟨b, off, none⟩ = some (fv 0) := (hc 0 (by omega)).1
  have s0 := (hc 0 (by omega)).2
  obtain ⟨ao, cp, e0⟩ := sl_slice s0
  have hl0 := hs.get 0
  rw [h1, tree_one F L (by omega)]
  unfold fn25
  generalize L.getD 0 [] = l at *
  rw [e0] at c0 s0
  have cA := fun o => (((Below.refl w.heap.size w).alloc (Nat.le_refl _) o).cell (p := ⟨b, off, none⟩) (World.block_lt_of_cell? w _ c0)).trans c0
  have hA : Below w.heap.size w (w.alloc (.cells (bys zero32).toArray 26)) := (Below.refl _ _).alloc (Nat.le_refl _) _
  have HF := leafText_any (w.alloc (.cells (bys zero32).toArray 26)) _ l (s0.below hA) (by omega)
  have R0 := Row.new w 26 (bys zero32)
  have HA : Hid (Below w.heap.size w (w.alloc (.cells (bys zero32).toArray 26))) := hA
  have hlen := E.len (0 :: l)
  have hz := size26 _ hlen
  clear e0 hc h hs hcap h1 c0 s0 hA
  go_enter Try.func38, Try.ntmps38
  go_wp2_with (first | (go_at_call 36; refine HF.mono ?_; rintro ev w1 ⟨v1, rfl, ho1, hb1⟩) | (go_at_call 25; refine (E.sum _ _ _ (Sl.ofRow ho1) (by simp; omega)).mono ?_; rintro ev w2 ⟨rfl, hb2⟩; have hb12 := nextB hb1 hb2; have R2 := R0.below hb12 R0.lt; have hB2 := nextB HA.out hb12) | (refine store26 rfl _ _ rfl w w.heap.size _ hlen rfl rfl zero32 zero32_len R2 _ hB2 (Nat.le_refl _) ?_; intro w3 R3 hB3 _))
  exact bodyPost_ret (v := .agg _) (results_cell_row Try.results38 _ _ w.heap.size 26 _ (0, 0) _ rfl R3.heap Try.underlying26 rfl hz) rfl ⟨rfl, hB3⟩
theorem below_setCells {B b : Nat} (hb : B ≤ b) : ∀ (vs : List Value) (o : Nat) {w w' : World}, Below B w w' → Below B w (w'.setCells b o vs)
  | [], _, _, _, h => h
  | v :: r, o, _, _, h => below_setCells hb r (o + 1) (h.setCell (p := ⟨b, o, none⟩) hb v)
theorem there_below {w w' : World} {g o n : Nat} (h : w.there g o n) (hb : Below w.heap.size w w') : w'.there g o n := fun j hj => by
  obtain ⟨h1, h2⟩ := h j hj
  obtain ⟨u, hu⟩ := Option.isSome_iff_exists.1 h1
  have hlt := World.block_lt_of_cell? w ⟨g, o + j, none⟩ hu
  exact ⟨by rw [hb.cell (p := ⟨g, o + j, none⟩) hlt]; exact h1, by rw [hb.frozen (p := ⟨g, o + j, none⟩) hlt]; exact h2⟩
theorem Row.there {w : World} {g t : Nat} {L : List Value} (h : Row w g t L) (n : Nat) (hn : n ≤ L.length) : w.there g 0 n := fun j hj => by
  rw [Nat.zero_add]
  refine ⟨?_, h.fz j⟩
  rw [h.cell j, List.getElem?_eq_getElem (by omega)]; rfl
theorem load26m (w : World) (g of : Nat) (L : List Value) (hr : w.rangeAt g of L) (hi : (Try.prog.info? 26).map (·.size) = some L.length) : (loadVar 26 ⟨g, of, none⟩).run Try.prog w = .ok (.agg L.toArray) w :=
  run_loadVar_mid w g of 26 L _ hr Try.underlying26 rfl hi
theorem info26L (h : Bys) (hl : h.length = 32) : (Try.prog.info? 26).map (·.size) = some (bys h).length := by rw [bys_len, hl]; exact Try.info26
theorem bys32 (h : Bys) (hl : h.length = 32) : (bys h).length = 32 := by rw [bys_len, hl]
theorem results_cell_mid {fn : Func} {p : Tmp} (h : fn.results = #[.cell p 26]) (tmps : Array Value) (w : World) (g : Nat) (L : List Value) (hp : tmps.getD p undef = .pointer (some ⟨g, 0, none⟩)) (hr : w.rangeAt g 0 L) (hi : (Try.prog.info? 26).map (·.size) = some L.length) :
    (results fn tmps).run Try.prog w = .ok (.agg L.toArray) w := by
  have hp' : tmps[p]?.getD undef = .pointer (some ⟨g, 0, none⟩) := by simpa using hp
  simp [results, h, hp', asAddr, load26m w g 0 L hr hi]

theorem Calls_at_world {P : Program} {f : Nat} {xs : Array Value} {Q : Ending → World → Prop} {w w' : World} (e : w = w') (h : Calls P f xs w Q) : Calls P f xs w' Q := e ▸ h
set_option maxHeartbeats 4000000 in
theorem tree_step (F : Bys → Bys) (E : Env F) (w : World) (v : Value) (L : List Bys) (h : Ls w v L) (hs : Short L) (h1 : 2 ≤ L.length) (h9 : L.length ≤ 1000000)
    (ih : ∀ (w : World) (v : Value) (M : List Bys), M.length < L.length → 1 ≤ M.length → Ls w v M → Short M → Calls Try.prog 38 #[fn25, v] w fun ev w' => ev = .returned (.agg (bys (tree F M)).toArray) ∧ Below w.heap.size w w') :
    Calls Try.prog 38 #[fn25, v] w fun ev w' => ev = .returned (.agg (bys (tree F L)).toArray) ∧ Below w.heap.size w w' := by
  obtain ⟨b, off, cap, rfl, hcap⟩ : ∃ b off cap, v = .slice (some ⟨b, off, none⟩) L.length cap ∧ L.length ≤ cap := by
    obtain ⟨b, off, cap, _, h1, h2, _⟩ := h.some_ (by omega)
    exact ⟨b, off, cap, h1, h2⟩
  have hh := half_le L.length h1
  obtain ⟨W, hW⟩ : ∃ W, W = w.alloc (.cells (bys zero32).toArray 26) := ⟨_, rfl⟩
  have HL := left_any W L.length h1 (by omega)
  have hA : Below w.heap.size w W.drew := by rw [hW]; exact ((Below.refl _ _).alloc (Nat.le_refl _) _).drew
  have R0 : Row W.drew w.heap.size 26 (bys zero32) := by rw [hW]; exact (Row.new w 26 (bys zero32)).drew
  have q0 : Below w.heap.size w W.drew ∧ W.drew.there w.heap.size 0 32 := ⟨hA, R0.there 32 (by simp [bys_len, zero32_len])⟩
  have P1 := fun y (hy : Below w.heap.size w y) => (h.below hy).part 0 (half L.length) (by omega) (by omega) cap (by omega)
  have P2 := fun y (hy : Below w.heap.size w y) => (h.below hy).part (half L.length) L.length (by omega) (Nat.le_refl _) (cap - half L.length) (by omega)
  have l1 := seg_len L 0 (half L.length) (by omega)
  have l2 := seg_len L (half L.length) L.length (Nat.le_refl _)
  have HT : Hid (tree F L = F (1 :: (tree F (seg L 0 (half L.length)) ++ tree F (seg L (half L.length) L.length)))) := by
    show _ = _
    rw [tree_two F L h1, seg_head, seg_tail]
  have t1 := tree_len E (seg L 0 (half L.length))
  have t2 := tree_len E (seg L (half L.length) L.length)
  have step : ∀ y y', (Below w.heap.size w y ∧ y.there w.heap.size 0 32) → Below y.heap.size y y' → (Below w.heap.size w y' ∧ y'.there w.heap.size 0 32) := fun y y' h h' => ⟨nextB h.1 h', there_below h.2 h'⟩
  have J1 : Hid (∀ y, (Below w.heap.size w y ∧ y.there w.heap.size 0 32) → Calls Try.prog 38 #[.func (.func 25) #[] #[], .slice (some ⟨b, off, none⟩) (half L.length) cap] y fun ev y' => ev = .returned (.agg (bys (tree F (seg L 0 (half L.length)))).toArray) ∧ (Below w.heap.size w y' ∧ y'.there w.heap.size 0 32)) := fun y hy =>
    (ih y _ _ (by omega) (by omega) (P1 y hy.1) (hs.seg _ _)).mono (fun ev y' ⟨e, hb⟩ => ⟨e, step y y' hy hb⟩)
  have J2 : Hid (∀ y, (Below w.heap.size w y ∧ y.there w.heap.size 0 32) → Calls Try.prog 38 #[.func (.func 25) #[] #[], .slice (some ⟨b, off + half L.length, none⟩) (L.length - half L.length) (cap - half L.length)] y fun ev y' => ev = .returned (.agg (bys (tree F (seg L (half L.length) L.length))).toArray) ∧ (Below w.heap.size w y' ∧ y'.there w.heap.size 0 32)) := fun y hy =>
    (ih y _ _ (by omega) (by omega) (P2 y hy.1) (hs.seg _ _)).mono (fun ev y' ⟨e, hb⟩ => ⟨e, step y y' hy hb⟩)
  have HTx : Hid (∀ l, tree F L = F l → ∀ y v', (Below w.heap.size w y ∧ y.there w.heap.size 0 32) → Sl y v' l → l.length ≤ 1000000 → Calls Try.prog 25 #[v'] y fun ev y' => ev = .returned (.agg (bys (tree F L)).toArray) ∧ (Below w.heap.size w y' ∧ y'.there w.heap.size 0 32)) := fun l e y v' hy hS hl => by
    rw [e]; exact (E.sum y v' l hS hl).mono (fun ev y' ⟨e, hb⟩ => ⟨e, step y y' hy hb⟩)
  have t3 := tree_len E L
  generalize hT1 : tree F (seg L 0 (half L.length)) = T1 at *
  generalize hT2 : tree F (seg L (half L.length) L.length) = T2 at *
  have J3 : Hid (∀ y, (Below w.heap.size w y ∧ y.there w.heap.size 0 32) → Calls Try.prog 53 #[.agg (bys T1).toArray, .agg (bys T2).toArray] y fun ev y' => ∃ v', ev = .returned v' ∧ Sl y' v' (1 :: (T1 ++ T2)) ∧ (Below w.heap.size w y' ∧ y'.there w.heap.size 0 32)) := fun y hy =>
    (nodeText_any y T1 T2 t1 t2).mono (fun ev y' ⟨v', e, ho, hb⟩ => ⟨v', e, Sl.ofRow ho, step y y' hy hb⟩)
  have J4 : Hid (∀ y v', (Below w.heap.size w y ∧ y.there w.heap.size 0 32) → Sl y v' (1 :: (T1 ++ T2)) → Calls Try.prog 25 #[v'] y fun ev y' => ev = .returned (.agg (bys (tree F L)).toArray) ∧ (Below w.heap.size w y' ∧ y'.there w.heap.size 0 32)) := fun y v' hy hS => HTx.out _ HT.out y v' hy hS (by simp [t1, t2])
  have hY := info26L _ t3
  have h32 := bys32 _ t3
  have h1c : ∀ u ∈ bys (tree F L), u.oneCell' = true := bys_one _
  clear h hs ih hT1 hT2 P1 P2 l1 l2 HT HTx t1 t2 step R0 hA t3
  generalize bys (tree F L) = Y at *
  generalize (bys T1).toArray = Y1 at *
  generalize (bys T2).toArray = Y2 at *
  obtain ⟨k, hk⟩ : ∃ k, k = half L.length := ⟨_, rfl⟩
  rw [← hk] at HL hh J1 J2
  clear hk
  generalize L.length = n at *
  have AW : Aside (W = w.alloc (.cells (bys zero32).toArray 26)) := hW
  clear hW
  unfold fn25
  have n2 : ¬ ((n : Int) = 1) := by omega
  have n3 : (k : Int) ≤ (n : Int) := by omega
  have n4 : (0 : Int) ≤ (k : Int) := by omega
  have n5 : (k : Int) ≤ (cap : Int) := by omega
  have n6 : (n : Int) ≤ (cap : Int) := by omega
  go_enter Try.func38, Try.ntmps38
  go_wp2_with fail
  refine Calls_at_world AW.out ?_
  refine HL.mono ?_
  rintro ev w1 ⟨rfl, rfl⟩
  go_wp2_with fail
  go_region_held3 (fun y => Below w.heap.size w y ∧ y.there w.heap.size 0 32) (first | assumption | exact ⟨below_setCells (Nat.le_refl _) _ _ hS5.1, World.there_setCells hS5.2 _ _ _⟩) (first
    | (go_at_call_of 38 (off + k); refine (J2.out _ (by assumption)).mono ?_; rintro ev w3 ⟨rfl, hS3⟩)
    | (go_at_call_of 38 k; refine (J1.out _ (by assumption)).mono ?_; rintro ev w2 ⟨rfl, hS2⟩)
    | (go_at_call 53; refine (J3.out _ (by assumption)).mono ?_; rintro ev w4 ⟨v4, rfl, hSl4, hS4⟩)
    | (go_at_call 25; refine (J4.out _ _ (by assumption) hSl4).mono ?_; rintro ev w5 ⟨rfl, hS5⟩; have hT5 := hS5.2))
  go_wp2_with fail
  refine bodyPost_ret (v := .agg _) (results_cell_mid Try.results38 _ _ w.heap.size Y rfl (World.rangeAt_setCells_same _ _ _ _ (by rw [h32]; exact hT5)) hY) rfl ⟨rfl, below_setCells (Nat.le_refl _) _ _ hS5.1⟩
theorem tree_any (F : Bys → Bys) (E : Env F) : ∀ (n : Nat) (w : World) (v : Value) (L : List Bys), L.length = n → Ls w v L → Short L → 1 ≤ L.length → L.length ≤ 1000000 →
    Calls Try.prog 38 #[fn25, v] w fun ev w' => ev = .returned (.agg (bys (tree F L)).toArray) ∧ Below w.heap.size w w' := by
  intro n
  induction n using Nat.strongRecOn with
  | _ n ih =>
    intro w v L hn h hs h1 h9
    by_cases h2 : L.length = 1
    · exact tree_base F E w v L h hs h2
    · exact tree_step F E w v L h hs (by omega) h9 (fun w v M hM h1M hLs hSh => ih M.length (by omega) w v M rfl hLs hSh h1M (by omega))
end Go.Proofs.Ytfkibbpekngciaa
