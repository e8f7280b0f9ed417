/-
  The texts Chk, Roo, joined.
-/
import Derived.Test.YtfkibbpekngciaaQPrTxs
import Derived.Test.YtfkibbpekngciaaQPrTre
/- checkBy, Check. -/
namespace Go.Proofs.Ytfkibbpekngciaa
open Go.RowKit

def decForm (i n : Int) (P : List Bys) : Decidable (Form i n P) := by unfold Form; exact inferInstance
/-- What Check answers. -/
def chk (F : Bys → Bys) (r b : Bys) (i n : Int) (P : List Bys) : Bool := @decide (Form i n P) (decForm i n P) && check F r b i.toNat n.toNat P
/-- What textsBy hands back. -/
theorem texts_any (F : Bys → Bys) (E : Env F) (w : World) (bv pv : Value) (b : Bys) (i n : Int) (P : List Bys) (hb : Sl w bv b) (hbl : b.length ≤ 100000) (hn : n ≤ 9223372036854775807) (hP : Hs w pv P) :
    Calls Try.prog 49 #[fn25, bv, .agg #[.int .i64 i, .int .i64 n, pv]] w fun ev w' => Below w.heap.size w w' ∧ ((¬ Form i n P ∧ ev = .returned (.tuple #[.slice none 0 0, .bool false])) ∨ (Form i n P ∧ ∃ tv, ev = .returned (.tuple #[tv, .bool true]) ∧ Tx w.heap.size tv (texts F b i.toNat n.toNat P).reverse w')) := by
  by_cases h1 : 0 ≤ i ∧ i < n
  · obtain ⟨i', rfl⟩ : ∃ i' : Nat, i = (i' : Int) := ⟨i.toNat, by omega⟩
    obtain ⟨n', rfl⟩ : ∃ n' : Nat, n = (n' : Int) := ⟨n.toNat, by omega⟩
    have e1 : (i' : Int).toNat = i' := by omega
    have e2 : (n' : Int).toNat = n' := by omega
    by_cases h2 : (lefts i' n').length = P.length
    · refine (texts_yes F E w bv pv b i' n' P hb hbl (by omega) (by omega) hP h2).mono ?_
      rintro ev w' ⟨tv, rfl, hT, hB⟩
      rw [e1, e2]
      exact ⟨hB, .inr ⟨⟨h1.1, h1.2, by rw [e1, e2]; exact h2⟩, tv, rfl, hT⟩⟩
    · refine (texts_no2 w bv pv i' n' P (by omega) (by omega) hP h2).mono ?_
      rintro ev w' ⟨rfl, hB⟩
      exact ⟨hB, .inl ⟨fun h => h2 (by have := h.2.2; rwa [e1, e2] at this), rfl⟩⟩
  · refine (texts_no1 w bv pv i n h1).mono ?_
    rintro ev w' ⟨rfl, hB⟩
    exact ⟨hB, .inl ⟨fun h => h1 ⟨h.1, h.2.1⟩, rfl⟩⟩
theorem texts_pos (F : Bys → Bys) (b : Bys) (i n : Nat) (P : List Bys) : 0 < (texts F b i n P).length := by simp [texts]
theorem texts_head (F : Bys → Bys) (b : Bys) (i n : Nat) (P : List Bys) : (texts F b i n P).reverse.getD 0 [] = lastT (texts F b i n P) := by
  rw [texts_rev, texts_last]; rfl
theorem check_len {F : Bys → Bys} (E : Env F) (b : Bys) (i n : Nat) (P : List Bys) : (lastT (texts F b i n P)).length ≤ 1000000 := by
  rw [texts_last]
  have := E.len (lastT (climb F (0 :: b) ((lefts i n).zip P)))
  simp [rootT, be8, this]

set_option maxHeartbeats 4000000 in
set_option maxRecDepth 20000 in
theorem checkBy_any (F : Bys → Bys) (E : Env F) (w : World) (bv pv : Value) (r b : Bys) (i n : Int) (P : List Bys) (hr : r.length = 32) (hb : Sl w bv b) (hbl : b.length ≤ 100000) (hn : n ≤ 9223372036854775807) (hP : Hs w pv P) :
    Calls Try.prog 31 #[fn25, .agg (bys r).toArray, bv, .agg #[.int .i64 i, .int .i64 n, pv]] w fun ev w' => ev = .returned (.bool (chk F r b i n P)) ∧ Below w.heap.size w w' := by
  obtain ⟨ap, cpp, rfl⟩ := hP.slice
  obtain ⟨W, hW⟩ : ∃ W, W = (w.alloc (.cells (bys r).toArray 26)).alloc (.cells #[.int .i64 i, .int .i64 n, .slice ap P.length cpp] 30) := ⟨_, rfl⟩
  have hA : Below w.heap.size w W := by
    rw [hW]; exact ((Below.refl w.heap.size w).alloc (Nat.le_refl _) _).alloc (by simp) _
  have RR : Row W w.heap.size 26 (bys r) := by
    rw [hW]; exact (Row.new w 26 _).below ((Below.refl _ _).alloc (Nat.le_refl _) _) (by simp)
  have HT := texts_any F E W bv _ b i n P (hb.below hA) hbl hn (hP.below hA)
  have AW : Aside (W = (w.alloc (.cells (bys r).toArray 26)).alloc (.cells #[.int .i64 i, .int .i64 n, .slice ap P.length cpp] 30)) := hW
  have hl := check_len E b i.toNat n.toNat P
  have HA : Hid (Below w.heap.size w W) := hA
  have hpos := texts_pos F b i.toNat n.toNat P
  have HC : Hid (Form i n P → chk F r b i n P = (F (lastT (texts F b i.toNat n.toNat P)) == r)) := fun h => by
    show _ = _
    unfold chk check
    simp [h]
  have HC0 : Hid (¬ Form i n P → chk F r b i n P = false) := fun h => by
    show _ = _
    unfold chk
    simp [h]
  have hLr := info26L r hr
  have hu := Try.underlying26
  clear hW hA hb hP
  unfold fn25 at *
  have HEQ : Hid (∀ t y, (Op.equalIn 10000 26 (.agg (bys (F t)).toArray) (.agg (bys r).toArray)).run Try.prog y = .ok (F t == r) y) := fun t y => equ25 y (F t) r (E.len t) hr
  generalize bys r = Z at *
  go_enter Try.func31, Try.ntmps31
  go_wp2_with fail
  refine Calls_at_world AW.out ?_
  refine HT.mono ?_
  rintro ev w2 ⟨hB2, ⟨hF, rfl⟩ | ⟨hF, tv, rfl, hX⟩⟩
  · have HF : Hid _ := HC0.out hF
    have HB : Hid _ := nextB HA.out hB2
    clear HT HC HC0 hB2 RR hF
    go_wp2_with fail
    go_quiet (fail)
    go_wp2_with fail
    go_ret
    exact ⟨by rw [HF.out]; rfl, below_drewN HB.out _⟩
  · have HF : Hid _ := HC.out hF
    have hB := nextB HA.out hB2
    obtain ⟨gT, capT, aT, cT, rfl, hcT, hcell, hSl⟩ := hX.elem 0 (by simpa using hpos)
    rw [texts_head] at hcell hSl
    generalize lastT (texts F b i.toNat n.toNat P) = t at *
    have hFt := E.len t
    have SU := E.sum w2.drew _ t (hSl.below (Below.refl w2.heap.size w2).drew) hl
    have R2 := RR.below hB2 RR.lt
    have q0 : w2.drew.cell? ⟨gT, 0, none⟩ = some (.slice aT t.length cT) ∧ w2.drew.rangeAt w.heap.size 0 Z := ⟨hcell, R2.drew.range⟩
    have HS : Hid (∀ y, Below w2.drew.heap.size w2.drew y → (y.cell? ⟨gT, 0, none⟩ = some (.slice aT t.length cT) ∧ y.rangeAt w.heap.size 0 Z) ∧ Below w.heap.size w y) := fun y hy =>
      ⟨⟨(hy.cell (p := ⟨gT, 0, none⟩) (World.block_lt_of_cell? w2.drew _ q0.1)).trans q0.1, range_below q0.2 hy⟩, nextB hB.drew hy⟩
    have he := HEQ.out t
    have hpos' : 0 < (texts F b i.toNat n.toNat P).reverse.length := by simpa using hpos
    generalize (texts F b i.toNat n.toNat P).reverse.length = nT at *
    clear HT HC HC0 hB2 RR hF hX hcell hSl R2 hB hpos
    have hn1 : (0 : Int) < (nT : Int) := by omega
    go_wp2_with fail
    go_region_held3 (fun y => y.cell? ⟨gT, 0, none⟩ = some (.slice aT t.length cT) ∧ y.rangeAt w.heap.size 0 Z) (assumption) (first
      | (go_at_call 25; refine SU.mono ?_; rintro ev w3 ⟨rfl, hb3⟩; obtain ⟨hS3, hB3⟩ := HS.out w3 hb3))
    go_wp2_with fail
    go_ret
    exact ⟨by rw [HF.out]; rfl, hB3⟩

theorem load30r {ops : Array Oper} {rest : List Oper} {o : Oper} {a : Act} {w : World} {Q : Exit → Act → World → Prop} (hgd : o.guard = none) (x : Operand) (ho : o.op = .load 30 x) (g : Nat) (p q r : Value) (hx : a.eval x = .pointer (some ⟨g, 0, none⟩)) (hr : Row w g 30 [p, q, r])
    (k : wpList Try.prog ops Q rest (a.put o.dst (.agg #[p, q, r])) w) : wpList Try.prog ops Q (o :: rest) a w :=
  wpList_load_row hgd 30 x ho g hx 30 #[p, q, r] (0, 0) _ hr.heap Try.underlying30 rfl Try.info30 k
set_option maxHeartbeats 4000000 in
theorem check_any (F : Bys → Bys) (E : Env F) (w : World) (bv pv : Value) (r b : Bys) (i n : Int) (P : List Bys) (hr : r.length = 32) (hb : Sl w bv b) (hbl : b.length ≤ 100000) (hn : n ≤ 9223372036854775807) (hP : Hs w pv P) :
    Calls Try.prog 17 #[.agg (bys r).toArray, bv, .agg #[.int .i64 i, .int .i64 n, pv]] w fun ev w' => ev = .returned (.bool (chk F r b i n P)) ∧ Below w.heap.size w w' := by
  obtain ⟨ap, cpp, rfl⟩ := hP.slice
  obtain ⟨W, hW⟩ : ∃ W, W = (w.alloc (.cells (bys r).toArray 26)).alloc (.cells #[.int .i64 i, .int .i64 n, .slice ap P.length cpp] 30) := ⟨_, rfl⟩
  have hA : Below w.heap.size w W := by
    rw [hW]; exact ((Below.refl w.heap.size w).alloc (Nat.le_refl _) _).alloc (by simp) _
  have RR : Row W w.heap.size 26 (bys r) := by
    rw [hW]; exact (Row.new w 26 _).below ((Below.refl _ _).alloc (Nat.le_refl _) _) (by simp)
  have R3 : Row W (w.heap.size + 1) 30 [.int .i64 i, .int .i64 n, .slice ap P.length cpp] := by
    have := Row.new (w.alloc (.cells (bys r).toArray 26)) 30 [.int .i64 i, .int .i64 n, .slice ap P.length cpp]
    rw [hW]; exact (by simpa using this : Row _ (w.heap.size + 1) _ _)
  have HT := checkBy_any F E W bv _ r b i n P hr (hb.below hA) hbl hn (hP.below hA)
  have AW : Aside (W = (w.alloc (.cells (bys r).toArray 26)).alloc (.cells #[.int .i64 i, .int .i64 n, .slice ap P.length cpp] 30)) := hW
  have HA : Hid (Below w.heap.size w W) := hA
  clear hW hA hb hP
  unfold fn25 at *
  generalize chk F r b i n P = res at *
  go_enter Try.func17, Try.ntmps17
  go_wp2_with (first | (rw [← AW.out]; refine load26r rfl _ rfl w.heap.size _ hr rfl RR ?_) | (refine load30r rfl _ rfl (w.heap.size + 1) _ _ _ rfl R3 ?_) | (go_at_call 31; refine HT.mono ?_; rintro ev w2 ⟨rfl, hB2⟩))
  go_ret
  exact ⟨rfl, nextB HA.out hB2⟩
theorem str_list (a : Bys) : (str a).toList = a := by rw [ByteArray.toList_eq]; simp [str]
set_option maxHeartbeats 1000000 in
theorem equal_any (w : World) (va vb : Value) (a b : Bys) (ha : Sl w va a) (hb : Sl w vb b) : Calls Try.prog 51 #[va, vb] w fun ev w' => ev = .returned (.bool (a == b)) ∧ w' = w := by
  have c1 := conv_sl w _ _ ha
  have c2 := conv_sl w _ _ hb
  have he : ((str a).toList == (str b).toList) = (a == b) := by rw [str_list, str_list]
  clear ha hb
  generalize str a = Sa at *
  generalize str b = Sb at *
  generalize (a == b) = r at *
  go_enter Try.func51, Try.ntmps51
  go_wp2_with fail
  go_ret
  exact ⟨rfl, rfl⟩
end Go.Proofs.Ytfkibbpekngciaa

/- rootBy, Root, Leaf. -/
namespace Go.Proofs.Ytfkibbpekngciaa
open Go.RowKit

theorem rootT_len (n : Nat) (s : Bys) : (rootT n s).length = 9 + s.length := by simp [rootT, be8]; omega
set_option maxHeartbeats 4000000 in
theorem rootBy_none (F : Bys → Bys) (E : Env F) (w : World) (ao : Option Addr) (cap : Nat) :
    Calls Try.prog 24 #[fn25, .slice ao 0 cap] w fun ev w' => ev = .returned (.agg (bys (root F [])).toArray) ∧ Below w.heap.size w w' := by
  have HT := rootText_any (w.alloc (.cells (bys zero32).toArray 26)) 0 (.slice none 0 0) [] ⟨.inl ⟨_, rfl, rfl⟩⟩ (by simp) (by omega)
  have R0 := Row.new w 26 (bys zero32)
  have HA : Hid (Below w.heap.size w (w.alloc (.cells (bys zero32).toArray 26))) := (Below.refl _ _).alloc (Nat.le_refl _) _
  have e : root F [] = F (rootT 0 []) := rfl
  have hl : (rootT 0 []).length ≤ 1000000 := by rw [rootT_len]; simp
  rw [e]
  have hlen := E.len (rootT 0 [])
  have hz := size26 _ hlen
  clear e
  unfold fn25
  generalize rootT 0 [] = T at *
  go_enter Try.func24, Try.ntmps24
  go_wp2_with (first | (go_at_call 37; refine HT.mono ?_; rintro ev w1 ⟨v1, rfl, ho1, hb1⟩) | (go_at_call 25; refine (E.sum _ _ _ (Sl.ofRow ho1) hl).mono ?_; rintro ev w2 ⟨rfl, hb2⟩; have hb12 := nextB hb1 hb2; have R2 := R0.below hb12 R0.lt; have hB2 := nextB HA.out hb12) | (refine store26 rfl _ _ rfl w w.heap.size _ hlen rfl rfl zero32 zero32_len R2 _ hB2 (Nat.le_refl _) ?_; intro w3 R3 hB3 _))
  exact bodyPost_ret (v := .agg _) (results_cell_row Try.results24 _ _ w.heap.size 26 _ (0, 0) _ rfl R3.heap Try.underlying26 rfl hz) rfl ⟨rfl, hB3⟩

set_option maxHeartbeats 4000000 in
theorem rootBy_some (F : Bys → Bys) (E : Env F) (w : World) (v : Value) (L : List Bys) (h : Ls w v L) (hs : Short L) (h1 : 1 ≤ L.length) (h9 : L.length ≤ 1000000) :
    Calls Try.prog 24 #[fn25, v] w fun ev w' => ev = .returned (.agg (bys (root F L)).toArray) ∧ Below w.heap.size w w' := by
  obtain ⟨ao, cp, rfl⟩ := h.slice
  have hA : Below w.heap.size w (w.alloc (.cells (bys zero32).toArray 26)) := (Below.refl _ _).alloc (Nat.le_refl _) _
  have HT := tree_any F E _ (w.alloc (.cells (bys zero32).toArray 26)) _ L rfl (h.below hA) hs h1 h9
  have HA : Hid (Below w.heap.size w (w.alloc (.cells (bys zero32).toArray 26))) := hA
  have R0 := Row.new w 26 (bys zero32)
  have ht := tree_len E L
  rw [root_some F L (by omega)]
  have HR : Hid (∀ y v', Sl y v' (tree F L) → Calls Try.prog 37 #[.int .i64 (L.length : Int), v'] y fun ev w' => ∃ v', ev = .returned v' ∧ w'.ownsRow y.heap.size 5 1 v' (rootT L.length (tree F L)).length (bys (rootT L.length (tree F L))) ∧ Below y.heap.size y w') := fun y v' hS => rootText_any y L.length v' _ hS (by omega) (by omega)
  have hl : (rootT L.length (tree F L)).length ≤ 1000000 := by rw [rootT_len]; omega
  have hlen := E.len (rootT L.length (tree F L))
  have hz := size26 _ hlen
  generalize rootT L.length (tree F L) = T at *
  unfold fn25 at *
  clear hA h hs
  generalize tree F L = t at *
  have n1 : ¬ ((L.length : Int) = 0) := by omega
  generalize L.length = n at *
  go_enter Try.func24, Try.ntmps24
  go_wp2_with fail
  refine HT.mono ?_
  rintro ev w1 ⟨rfl, hb1⟩
  have hB1 := nextB HA.out hb1
  have R1 := R0.below hb1 R0.lt
  have hbA : Below w1.heap.size w1 (w1.alloc (.cells (bys zero32).toArray 26)) := (Below.refl _ _).alloc (Nat.le_refl _) _
  have RA := Row.new w1 26 (bys zero32)
  have hlt1 := R1.lt
  go_wp2_with (first | (refine store26 rfl _ _ rfl w1 w1.heap.size _ ht rfl rfl zero32 zero32_len RA _ hbA (Nat.le_refl _) ?_; intro w2 R2 hB2 _; have hS2 := R2.sl; rw [ht] at hS2) | (go_at_call 37; refine (HR.out _ _ hS2).mono ?_; rintro ev w3 ⟨v3, rfl, ho3, hb3⟩) | (go_at_call 25; refine (E.sum _ _ _ (Sl.ofRow ho3) hl).mono ?_; rintro ev w4 ⟨rfl, hb4⟩; have hb14 := nextB (nextB hB2 hb3) hb4; have R4 := R1.below hb14 hlt1; have hB4 := nextB hB1 hb14) | (refine store26 rfl _ _ rfl w w.heap.size _ hlen rfl rfl zero32 zero32_len R4 _ hB4 (Nat.le_refl _) ?_; intro w5 R5 hB5 _))
  exact bodyPost_ret (v := .agg _) (results_cell_row Try.results24 _ _ w.heap.size 26 _ (0, 0) _ rfl R5.heap Try.underlying26 rfl hz) rfl ⟨rfl, hB5⟩
theorem rootBy_any (F : Bys → Bys) (E : Env F) (w : World) (v : Value) (L : List Bys) (h : Ls w v L) (hs : Short L) (h9 : L.length ≤ 1000000) :
    Calls Try.prog 24 #[fn25, v] w fun ev w' => ev = .returned (.agg (bys (root F L)).toArray) ∧ Below w.heap.size w w' := by
  rcases Nat.eq_zero_or_pos L.length with h0 | h0
  · obtain rfl := List.eq_nil_of_length_eq_zero h0
    obtain ⟨ao, cp, rfl⟩ := h.slice
    exact rootBy_none F E w ao cp
  · exact rootBy_some F E w v L h hs h0 h9

set_option maxHeartbeats 4000000 in
theorem root_any (F : Bys → Bys) (E : Env F) (w : World) (v : Value) (L : List Bys) (h : Ls w v L) (hs : Short L) (h9 : L.length ≤ 1000000) :
    Calls Try.prog 11 #[v] w fun ev w' => ev = .returned (.agg (bys (root F L)).toArray) ∧ Below w.heap.size w w' := by
  have hA : Below w.heap.size w (w.alloc (.cells (bys zero32).toArray 26)) := (Below.refl _ _).alloc (Nat.le_refl _) _
  have HT := rootBy_any F E (w.alloc (.cells (bys zero32).toArray 26)) _ L (h.below hA) hs h9
  have HA : Hid (Below w.heap.size w (w.alloc (.cells (bys zero32).toArray 26))) := hA
  have R0 := Row.new w 26 (bys zero32)
  have hlen : (root F L).length = 32 := E.len _
  have hz := size26 _ hlen
  unfold fn25 at HT
  clear hA h hs
  generalize root F L = r at *
  go_enter Try.func11, Try.ntmps11
  go_wp2_with (first | (go_at_call 24; refine HT.mono ?_; rintro ev w1 ⟨rfl, hb1⟩; have hB1 := nextB HA.out hb1; have R1 := R0.below hb1 R0.lt) | (refine store26 rfl _ _ rfl w w.heap.size _ hlen rfl rfl zero32 zero32_len R1 _ hB1 (Nat.le_refl _) ?_; intro w5 R5 hB5 _))
  exact bodyPost_ret (v := .agg _) (results_cell_row Try.results11 _ _ w.heap.size 26 _ (0, 0) _ rfl R5.heap Try.underlying26 rfl hz) rfl ⟨rfl, hB5⟩

set_option maxHeartbeats 4000000 in
theorem leaf_any (F : Bys → Bys) (E : Env F) (w : World) (v : Value) (l : Bys) (h : Sl w v l) (hl : l.length ≤ 100000) :
    Calls Try.prog 23 #[v] w fun ev w' => ev = .returned (.agg (bys (F (0 :: l))).toArray) ∧ Below w.heap.size w w' := by
  have hA : Below w.heap.size w (w.alloc (.cells (bys zero32).toArray 26)) := (Below.refl _ _).alloc (Nat.le_refl _) _
  have HT := leafText_any (w.alloc (.cells (bys zero32).toArray 26)) _ l (h.below hA) (by omega)
  have HA : Hid (Below w.heap.size w (w.alloc (.cells (bys zero32).toArray 26))) := hA
  have R0 := Row.new w 26 (bys zero32)
  have hlen : (F (0 :: l)).length = 32 := E.len _
  have hz := size26 _ hlen
  clear hA h
  go_enter Try.func23, Try.ntmps23
  go_wp2_with (first | (go_at_call 36; refine HT.mono ?_; rintro ev w1 ⟨v1, rfl, ho1, hb1⟩) | (go_at_call 25; refine (E.sum _ _ _ (Sl.ofRow ho1) (by simp; omega)).mono ?_; rintro ev w2 ⟨rfl, hb2⟩; have hb12 := nextB hb1 hb2; have R2 := R0.below hb12 R0.lt; have hB2 := nextB HA.out hb12) | (refine store26 rfl _ _ rfl w w.heap.size _ hlen rfl rfl zero32 zero32_len R2 _ hB2 (Nat.le_refl _) ?_; intro w3 R3 hB3 _))
  exact bodyPost_ret (v := .agg _) (results_cell_row Try.results23 _ _ w.heap.size 26 _ (0, 0) _ rfl R3.heap Try.underlying26 rfl hz) rfl ⟨rfl, hB3⟩
end Go.Proofs.Ytfkibbpekngciaa
