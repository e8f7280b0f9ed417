/-
  The texts Chk, Tol, joined.
-/
import Derived.Test.YtfkibbpekngciaaQExTxs
import Derived.Test.YtfkibbpekngciaaQExR10
import Derived.Test.YtfkibbpekngciaaJoinXsd2xEx
/- checkBy, Check. -/
namespace Go.Proofs.Ytfkibbpekngciaa
open Go.RowKit

def decForm (i n : Int) (P : List Bys) : Decidable (Form i n P) := by unfold Form; exact inferInstance
/-- What Check answers. -/
def chk (F : Bys → Bys) (r b : Bys) (i n : Int) (P : List Bys) : Bool := @decide (Form i n P) (decForm i n P) && check F r b i.toNat n.toNat P
/-- What textsBy hands back. -/
theorem texts_any (F : Bys → Bys) (E : Env F) (w : World) (bv pv : Value) (b : Bys) (i n : Int) (P : List Bys) (hb : Sl w bv b) (hbl : b.length ≤ 100000) (hn : n ≤ 9223372036854775807) (hP : Hs w pv P) :
    Calls Try.prog 49 #[fn25, bv, .agg #[.int .i64 i, .int .i64 n, pv]] w fun ev w' => Below w.heap.size w w' ∧ ((¬ Form i n P ∧ ev = .returned (.tuple #[.slice none 0 0, .bool false])) ∨ (Form i n P ∧ ∃ tv, ev = .returned (.tuple #[tv, .bool true]) ∧ Tx w.heap.size tv (texts F b i.toNat n.toNat P).reverse w')) := by
  by_cases h1 : 0 ≤ i ∧ i < n
  · obtain ⟨i', rfl⟩ : ∃ i' : Nat, i = (i' : Int) := ⟨i.toNat, by omega⟩
    obtain ⟨n', rfl⟩ : ∃ n' : Nat, n = (n' : Int) := ⟨n.toNat, by omega⟩
    have e1 : (i' : Int).toNat = i' := by omega
    have e2 : (n' : Int).toNat = n' := by omega
    by_cases h2 : (lefts i' n').length = P.length
    · refine (texts_yes F E w bv pv b i' n' P hb hbl (by omega) (by omega) hP h2).mono ?_
      rintro ev w' ⟨tv, rfl, hT, hB⟩
      rw [e1, e2]
      exact ⟨hB, .inr ⟨⟨h1.1, h1.2, by rw [e1, e2]; exact h2⟩, tv, rfl, hT⟩⟩
    · refine (texts_no2 w bv pv i' n' P (by omega) (by omega) hP h2).mono ?_
      rintro ev w' ⟨rfl, hB⟩
      exact ⟨hB, .inl ⟨fun h => h2 (by have := h.2.2; rwa [e1, e2] at this), rfl⟩⟩
  · refine (texts_no1 w bv pv i n h1).mono ?_
    rintro ev w' ⟨rfl, hB⟩
    exact ⟨hB, .inl ⟨fun h => h1 ⟨h.1, h.2.1⟩, rfl⟩⟩
theorem texts_pos (F : Bys → Bys) (b : Bys) (i n : Nat) (P : List Bys) : 0 < (texts F b i n P).length := by simp [texts]
theorem texts_head (F : Bys → Bys) (b : Bys) (i n : Nat) (P : List Bys) : (texts F b i n P).reverse.getD 0 [] = lastT (texts F b i n P) := by
  rw [texts_rev, texts_last]; rfl
theorem check_len {F : Bys → Bys} (E : Env F) (b : Bys) (i n : Nat) (P : List Bys) : (lastT (texts F b i n P)).length ≤ 1000000 := by
  rw [texts_last]
  have := E.len (lastT (climb F (0 :: b) ((lefts i n).zip P)))
  simp [rootT, be8, this]

set_option maxHeartbeats 4000000 in
set_option maxRecDepth 20000 in
theorem checkBy_any (F : Bys → Bys) (E : Env F) (w : World) (bv pv : Value) (r b : Bys) (i n : Int) (P : List Bys) (hr : r.length = 32) (hb : Sl w bv b) (hbl : b.length ≤ 100000) (hn : n ≤ 9223372036854775807) (hP : Hs w pv P) :
    Calls Try.prog 31 #[fn25, .agg (bys r).toArray, bv, .agg #[.int .i64 i, .int .i64 n, pv]] w fun ev w' => ev = .returned (.bool (chk F r b i n P)) ∧ Below w.heap.size w w' := by
  obtain ⟨ap, cpp, rfl⟩ := hP.slice
  obtain ⟨W, hW⟩ : ∃ W, W = (w.alloc (.cells (bys r).toArray 26)).alloc (.cells #[.int .i64 i, .int .i64 n, .slice ap P.length cpp] 30) := ⟨_, rfl⟩
  have hA : Below w.heap.size w W := by
    rw [hW]; exact ((Below.refl w.heap.size w).alloc (Nat.le_refl _) _).alloc (by simp) _
  have RR : Row W w.heap.size 26 (bys r) := by
    rw [hW]; exact (Row.new w 26 _).below ((Below.refl _ _).alloc (Nat.le_refl _) _) (by simp)
  have HT := texts_any F E W bv _ b i n P (hb.below hA) hbl hn (hP.below hA)
  have AW : Aside (W = (w.alloc (.cells (bys r).toArray 26)).alloc (.cells #[.int .i64 i, .int .i64 n, .slice ap P.length cpp] 30)) := hW
  have hl := check_len E b i.toNat n.toNat P
  have HA : Hid (Below w.heap.size w W) := hA
  have hpos := texts_pos F b i.toNat n.toNat P
  have HC : Hid (Form i n P → chk F r b i n P = (F (lastT (texts F b i.toNat n.toNat P)) == r)) := fun h => by
    show _ = _
    unfold chk check
    simp [h]
  have HC0 : Hid (¬ Form i n P → chk F r b i n P = false) := fun h => by
    show _ = _
    unfold chk
    simp [h]
  have hLr := info26L r hr
  have hu := Try.underlying26
  clear hW hA hb hP
  unfold fn25 at *
  have HEQ : Hid (∀ t y, (Op.equalIn 10000 26 (.agg (bys (F t)).toArray) (.agg (bys r).toArray)).run Try.prog y = .ok (F t == r) y) := fun t y => equ25 y (F t) r (E.len t) hr
  generalize bys r = Z at *
  go_enter Try.func31, Try.ntmps31
  go_wp2_with fail
  refine Calls_at_world AW.out ?_
  refine HT.mono ?_
  rintro ev w2 ⟨hB2, ⟨hF, rfl⟩ | ⟨hF, tv, rfl, hX⟩⟩
  · have HF : Hid _ := HC0.out hF
    have HB : Hid _ := nextB HA.out hB2
    clear HT HC HC0 hB2 RR hF
    go_wp2_with fail
    go_quiet (fail)
    go_wp2_with fail
    go_ret
    exact ⟨by rw [HF.out]; rfl, below_drewN HB.out _⟩
  · have HF : Hid _ := HC.out hF
    have hB := nextB HA.out hB2
    obtain ⟨gT, capT, aT, cT, rfl, hcT, hcell, hSl⟩ := hX.elem 0 (by simpa using hpos)
    rw [texts_head] at hcell hSl
    generalize lastT (texts F b i.toNat n.toNat P) = t at *
    have hFt := E.len t
    have SU := E.sum w2.drew _ t (hSl.below (Below.refl w2.heap.size w2).drew) hl
    have R2 := RR.below hB2 RR.lt
    have q0 : w2.drew.cell? ⟨gT, 0, none⟩ = some (.slice aT t.length cT) ∧ w2.drew.rangeAt w.heap.size 0 Z := ⟨hcell, R2.drew.range⟩
    have HS : Hid (∀ y, Below w2.drew.heap.size w2.drew y → (y.cell? ⟨gT, 0, none⟩ = some (.slice aT t.length cT) ∧ y.rangeAt w.heap.size 0 Z) ∧ Below w.heap.size w y) := fun y hy =>
      ⟨⟨(hy.cell (p := ⟨gT, 0, none⟩) (World.block_lt_of_cell? w2.drew _ q0.1)).trans q0.1, range_below q0.2 hy⟩, nextB hB.drew hy⟩
    have he := HEQ.out t
    have hpos' : 0 < (texts F b i.toNat n.toNat P).reverse.length := by simpa using hpos
    generalize (texts F b i.toNat n.toNat P).reverse.length = nT at *
    clear HT HC HC0 hB2 RR hF hX hcell hSl R2 hB hpos
    have hn1 : (0 : Int) < (nT : Int) := by omega
    go_wp2_with fail
    go_region_held3 (fun y => y.cell? ⟨gT, 0, none⟩ = some (.slice aT t.length cT) ∧ y.rangeAt w.heap.size 0 Z) (assumption) (first
      | (go_at_call 25; refine SU.mono ?_; rintro ev w3 ⟨rfl, hb3⟩; obtain ⟨hS3, hB3⟩ := HS.out w3 hb3))
    go_wp2_with fail
    go_ret
    exact ⟨by rw [HF.out]; rfl, hB3⟩

theorem load30r {ops : Array Oper} {rest : List Oper} {o : Oper} {a : Act} {w : World} {Q : Exit → Act → World → Prop} (hgd : o.guard = none) (x : Operand) (ho : o.op = .load 30 x) (g : Nat) (p q r : Value) (hx : a.eval x = .pointer (some ⟨g, 0, none⟩)) (hr : Row w g 30 [p, q, r])
    (k : wpList Try.prog ops Q rest (a.put o.dst (.agg #[p, q, r])) w) : wpList Try.prog ops Q (o :: rest) a w :=
  wpList_load_row hgd 30 x ho g hx 30 #[p, q, r] (0, 0) _ hr.heap Try.underlying30 rfl Try.info30 k
set_option maxHeartbeats 4000000 in
theorem check_any (F : Bys → Bys) (E : Env F) (w : World) (bv pv : Value) (r b : Bys) (i n : Int) (P : List Bys) (hr : r.length = 32) (hb : Sl w bv b) (hbl : b.length ≤ 100000) (hn : n ≤ 9223372036854775807) (hP : Hs w pv P) :
    Calls Try.prog 17 #[.agg (bys r).toArray, bv, .agg #[.int .i64 i, .int .i64 n, pv]] w fun ev w' => ev = .returned (.bool (chk F r b i n P)) ∧ Below w.heap.size w w' := by
  obtain ⟨ap, cpp, rfl⟩ := hP.slice
  obtain ⟨W, hW⟩ : ∃ W, W = (w.alloc (.cells (bys r).toArray 26)).alloc (.cells #[.int .i64 i, .int .i64 n, .slice ap P.length cpp] 30) := ⟨_, rfl⟩
  have hA : Below w.heap.size w W := by
    rw [hW]; exact ((Below.refl w.heap.size w).alloc (Nat.le_refl _) _).alloc (by simp) _
  have RR : Row W w.heap.size 26 (bys r) := by
    rw [hW]; exact (Row.new w 26 _).below ((Below.refl _ _).alloc (Nat.le_refl _) _) (by simp)
  have R3 : Row W (w.heap.size + 1) 30 [.int .i64 i, .int .i64 n, .slice ap P.length cpp] := by
    have := Row.new (w.alloc (.cells (bys r).toArray 26)) 30 [.int .i64 i, .int .i64 n, .slice ap P.length cpp]
    rw [hW]; exact (by simpa using this : Row _ (w.heap.size + 1) _ _)
  have HT := checkBy_any F E W bv _ r b i n P hr (hb.below hA) hbl hn (hP.below hA)
  have AW : Aside (W = (w.alloc (.cells (bys r).toArray 26)).alloc (.cells #[.int .i64 i, .int .i64 n, .slice ap P.length cpp] 30)) := hW
  have HA : Hid (Below w.heap.size w W) := hA
  clear hW hA hb hP
  unfold fn25 at *
  generalize chk F r b i n P = res at *
  go_enter Try.func17, Try.ntmps17
  go_wp2_with (first | (rw [← AW.out]; refine load26r rfl _ rfl w.heap.size _ hr rfl RR ?_) | (refine load30r rfl _ rfl (w.heap.size + 1) _ _ _ rfl R3 ?_) | (go_at_call 31; refine HT.mono ?_; rintro ev w2 ⟨rfl, hB2⟩))
  go_ret
  exact ⟨rfl, nextB HA.out hB2⟩
theorem str_list (a : Bys) : (str a).toList = a := by rw [ByteArray.toList_eq]; simp [str]
set_option maxHeartbeats 1000000 in
theorem equal_any (w : World) (va vb : Value) (a b : Bys) (ha : Sl w va a) (hb : Sl w vb b) : Calls Try.prog 51 #[va, vb] w fun ev w' => ev = .returned (.bool (a == b)) ∧ w' = w := by
  have c1 := conv_sl w _ _ ha
  have c2 := conv_sl w _ _ hb
  have he : ((str a).toList == (str b).toList) = (a == b) := by rw [str_list, str_list]
  clear ha hb
  generalize str a = Sa at *
  generalize str b = Sb at *
  generalize (a == b) = r at *
  go_enter Try.func51, Try.ntmps51
  go_wp2_with fail
  go_ret
  exact ⟨rfl, rfl⟩
end Go.Proofs.Ytfkibbpekngciaa

/- told. -/
namespace Go.Proofs.Ytfkibbpekngciaa
open Go.RowKit

def L3 : List Bys := [[1], [2], [3]]
/-- What is known of the program's sums and of the document's. -/
structure Env2 (F : Bys → Bys) : Prop extends Env F where
  xsum : ∀ (w : World) (v : Value) (l : Bys), Sl w v l → l.length ≤ 100000 → Calls Try.prog 22 #[v] w fun ev w' => ev = .returned (.agg (bys (F l)).toArray) ∧ Below w.heap.size w w'
  apart : F (lastT (texts F [2] 0 3 (path F L3 0))) ≠ root F L3
theorem half3 : half 3 = 2 := by decide
theorem half2 : half 2 = 1 := by decide
theorem downs32 : downs 2 0 3 = [(0, 2)] := by
  rw [downs_right 2 0 3 (by omega) (by simp [half3]), downs_end _ _ _ (by simp [half3])]; simp [half3]
theorem downs30 : downs 0 0 3 = [(2, 3), (1, 2)] := by
  rw [downs_left 0 0 3 (by omega) (by simp [half3])]
  simp only [Nat.sub_zero, half3, Nat.zero_add]
  rw [downs_left 0 0 2 (by omega) (by simp [half2]), downs_end _ _ _ (by simp [half2])]; simp [half2]
theorem path32 (F : Bys → Bys) : (path F L3 2).length = 1 := by
  have : (path F L3 2).length = (downs 2 0 3).length := by simp [path, L3]
  rw [this, downs32]; rfl
theorem path30 (F : Bys → Bys) : (path F L3 0).length = 2 := by
  have : (path F L3 0).length = (downs 0 0 3).length := by simp [path, L3]
  rw [this, downs30]; rfl
theorem short3 : Short L3 := fun b hb => by
  simp [L3] at hb
  rcases hb with rfl | rfl | rfl <;> simp
theorem ls3 (w : World) : Ls ((((w.alloc (.cells #[.int .u8 1] 5)).alloc (.cells #[.int .u8 2] 5)).alloc (.cells #[.int .u8 3] 5)).alloc (.cells #[.slice (some ⟨w.heap.size, 0, none⟩) 1 1, .slice (some ⟨w.heap.size + 1, 0, none⟩) 1 1, .slice (some ⟨w.heap.size + 1 + 1, 0, none⟩) 1 1] 39)) (.slice (some ⟨w.heap.size + 1 + 1 + 1, 0, none⟩) 3 3) L3 := by
  have b1 : ∀ (y : World) o, Below y.heap.size y (y.alloc o) := fun y o => (Below.refl _ _).alloc (Nat.le_refl _) _
  have s1 := (((Row.new w 5 (bys [1])).sl.below (b1 _ (.cells #[.int .u8 2] 5))).below (b1 _ (.cells #[.int .u8 3] 5))).below (b1 _ (.cells #[.slice (some ⟨w.heap.size, 0, none⟩) 1 1, .slice (some ⟨w.heap.size + 1, 0, none⟩) 1 1, .slice (some ⟨w.heap.size + 1 + 1, 0, none⟩) 1 1] 39))
  have s2 := ((Row.new (w.alloc (.cells #[.int .u8 1] 5)) 5 (bys [2])).sl.below (b1 _ (.cells #[.int .u8 3] 5))).below (b1 _ (.cells #[.slice (some ⟨w.heap.size, 0, none⟩) 1 1, .slice (some ⟨w.heap.size + 1, 0, none⟩) 1 1, .slice (some ⟨w.heap.size + 1 + 1, 0, none⟩) 1 1] 39))
  have s3 := (Row.new ((w.alloc (.cells #[.int .u8 1] 5)).alloc (.cells #[.int .u8 2] 5)) 5 (bys [3])).sl.below (b1 _ (.cells #[.slice (some ⟨w.heap.size, 0, none⟩) 1 1, .slice (some ⟨w.heap.size + 1, 0, none⟩) 1 1, .slice (some ⟨w.heap.size + 1 + 1, 0, none⟩) 1 1] 39))
  have r4 := Row.new (((w.alloc (.cells #[.int .u8 1] 5)).alloc (.cells #[.int .u8 2] 5)).alloc (.cells #[.int .u8 3] 5)) 39 [.slice (some ⟨w.heap.size, 0, none⟩) 1 1, .slice (some ⟨w.heap.size + 1, 0, none⟩) 1 1, .slice (some ⟨w.heap.size + 1 + 1, 0, none⟩) 1 1]
  have z2 : (w.alloc (.cells #[.int .u8 1] 5)).heap.size = w.heap.size + 1 := by simp
  have z3 : ((w.alloc (.cells #[.int .u8 1] 5)).alloc (.cells #[.int .u8 2] 5)).heap.size = w.heap.size + 1 + 1 := by simp
  have z4 : (((w.alloc (.cells #[.int .u8 1] 5)).alloc (.cells #[.int .u8 2] 5)).alloc (.cells #[.int .u8 3] 5)).heap.size = w.heap.size + 1 + 1 + 1 := by simp
  rw [z2] at s2
  rw [z3] at s3
  rw [z4] at r4
  refine ⟨.inr ⟨w.heap.size + 1 + 1 + 1, 0, 3, fun j => [.slice (some ⟨w.heap.size, 0, none⟩) 1 1, .slice (some ⟨w.heap.size + 1, 0, none⟩) 1 1, .slice (some ⟨w.heap.size + 1 + 1, 0, none⟩) 1 1].getD j undef, rfl, by decide, fun j hj => ?_⟩⟩
  have hj' : j < 3 := hj
  rw [Nat.zero_add]
  refine ⟨(r4.cell j).trans ?_, ?_⟩
  · rcases (by omega : j = 0 ∨ j = 1 ∨ j = 2) with rfl | rfl | rfl <;> rfl
  · rcases (by omega : j = 0 ∨ j = 1 ∨ j = 2) with rfl | rfl | rfl
    · exact s1
    · exact s2
    · exact s3
theorem form30 (F : Bys → Bys) : Form 0 3 (path F L3 0) := ⟨by omega, by omega, lefts_path F L3 0⟩
theorem chk31 (F : Bys → Bys) : chk F (root F L3) [1] 0 3 (path F L3 0) = true := by
  unfold chk
  have := check_own F L3 0 (by decide)
  have e : check F (root F L3) [1] (0 : Int).toNat (3 : Int).toNat (path F L3 0) = true := this
  rw [e, @decide_eq_true _ (decForm _ _ _) (form30 F)]; rfl
theorem chk32 (F : Bys → Bys) (h : F (lastT (texts F [2] 0 3 (path F L3 0))) ≠ root F L3) : chk F (root F L3) [2] 0 3 (path F L3 0) = false := by
  unfold chk
  have e : check F (root F L3) [2] (0 : Int).toNat (3 : Int).toNat (path F L3 0) = false := by
    unfold check
    simpa using h
  rw [e, Bool.and_false]
set_option maxHeartbeats 8000000 in
set_option maxRecDepth 20000 in
theorem told_any (F : Bys → Bys) (E : Env2 F) (w : World) : Calls Try.prog 10 #[] w fun ev w' => ev = .returned (.bool true) ∧ Below w.heap.size w w' := by
  obtain ⟨W, hW⟩ : ∃ W, W = (((w.alloc (.cells #[.int .u8 1] 5)).alloc (.cells #[.int .u8 2] 5)).alloc (.cells #[.int .u8 3] 5)).alloc (.cells #[.slice (some ⟨w.heap.size, 0, none⟩) 1 1, .slice (some ⟨w.heap.size + 1, 0, none⟩) 1 1, .slice (some ⟨w.heap.size + 1 + 1, 0, none⟩) 1 1] 39) := ⟨_, rfl⟩
  have hA : Below w.heap.size w W := by
    rw [hW]; exact ((((Below.refl w.heap.size w).alloc (Nat.le_refl _) _).alloc (by simp) _).alloc (by simp; omega) _).alloc (by simp; omega) _
  have hL : Ls W (.slice (some ⟨w.heap.size + 1 + 1 + 1, 0, none⟩) 3 3) L3 := by rw [hW]; exact ls3 w
  have AW : Aside (W = (((w.alloc (.cells #[.int .u8 1] 5)).alloc (.cells #[.int .u8 2] 5)).alloc (.cells #[.int .u8 3] 5)).alloc (.cells #[.slice (some ⟨w.heap.size, 0, none⟩) 1 1, .slice (some ⟨w.heap.size + 1, 0, none⟩) 1 1, .slice (some ⟨w.heap.size + 1 + 1, 0, none⟩) 1 1] 39)) := hW
  have P1 := prove_yes F E.toEnv W _ L3 hL short3 (by decide) 2 (by decide)
  have HL : Hid (Ls W (.slice (some ⟨w.heap.size + 1 + 1 + 1, 0, none⟩) 3 3) L3) := hL
  have HA : Hid (Below w.heap.size w W) := hA
  have HP2 : Hid (∀ y, Below W.heap.size W y → Calls Try.prog 13 #[.slice (some ⟨w.heap.size + 1 + 1 + 1, 0, none⟩) 3 3, .int .i64 0] y fun ev w' => ∃ ao cap, ev = .returned (.tuple #[.agg #[.int .i64 0, .int .i64 3, .slice ao 2 cap], .nilIface]) ∧ Hs w' (.slice ao 2 cap) (path F L3 0) ∧ Below y.heap.size y w') := fun y hy => by
    refine (prove_yes F E.toEnv y _ L3 (hL.below hy) short3 (by decide) 0 (by decide)).mono ?_
    rintro ev w' ⟨ao, cap, rfl, hH, _, hb⟩
    rw [path30] at hH ⊢
    exact ⟨ao, cap, rfl, hH, hb⟩
  have HP3 : Hid (∀ y, Calls Try.prog 13 #[.slice (some ⟨w.heap.size + 1 + 1 + 1, 0, none⟩) 3 3, .int .i64 3] y fun ev w' => ∃ b, ev = .returned (.tuple #[.agg #[.int .i64 0, .int .i64 0, .slice none 0 0], .iface 83 (.pointer (some ⟨b, 0, none⟩))]) ∧ Er w' (.iface 83 (.pointer (some ⟨b, 0, none⟩))) 2 0 ∧ Below y.heap.size y w') := fun y => prove_no y _ 3 3 3 (by omega)
  rw [path32] at P1
  clear hW hA hL
  go_enter Try.func10, Try.ntmps10
  go_wp2_with fail
  refine Calls_at_world AW.out ?_
  refine P1.mono ?_
  rintro ev w1 ⟨aa, ca, rfl, hH1, _, hb1⟩
  have b1 : ∀ (y : World) o, Below y.heap.size y (y.alloc o) := fun y o => (Below.refl _ _).alloc (Nat.le_refl _) _
  have N1 := Row.new w1 30 [.int .i64 0, .int .i64 0, .slice none 0 0]
  have A1 := b1 w1 (.cells #[.int .i64 0, .int .i64 0, .slice none 0 0] 30)
  have o1 := one3 2 3 aa 1 ca
  clear P1
  go_wp2_with (first | (refine store30 rfl _ _ rfl w1 w1.heap.size _ _ _ o1 rfl rfl _ _ _ N1 _ A1 (Nat.le_refl _) ?_; intro w2 R2 hb2 _))
  refine (HP2.out w2 (nextB hb1 hb2)).mono ?_
  rintro ev w3 ⟨ab, cb, rfl, hH3, hb3⟩
  have N3 := Row.new w3 30 [.int .i64 0, .int .i64 0, .slice none 0 0]
  have A3 := b1 w3 (.cells #[.int .i64 0, .int .i64 0, .slice none 0 0] 30)
  have o3 := one3 0 3 ab 2 cb
  clear HP2
  go_wp2_with (first | (refine store30 rfl _ _ rfl w3 w3.heap.size _ _ _ o3 rfl rfl _ _ _ N3 _ A3 (Nat.le_refl _) ?_; intro w4 R4 hb4 _))
  refine (HP3.out w4).mono ?_
  rintro ev w5 ⟨eb, rfl, hE5, hb5⟩
  have N5 := Row.new w5 30 [.int .i64 0, .int .i64 0, .slice none 0 0]
  have A5 := b1 w5 (.cells #[.int .i64 0, .int .i64 0, .slice none 0 0] 30)
  have o5 := one3 0 0 none 0 0
  clear HP3
  go_wp2_with (first | (refine store30 rfl _ _ rfl w5 w5.heap.size _ _ _ o5 rfl rfl _ _ _ N5 _ A5 (Nat.le_refl _) ?_; intro w6 R6 hb6 _))
  have hE6 := hE5.below hb6
  have h36 := nextB (nextB hb4 hb5) hb6
  have h26 := nextB hb3 h36
  have R2' := R2.below h26 R2.lt
  have R4' := (R4.below hb5 R4.lt).below hb6 (by have := R4.lt; have := hb5.size; omega)
  have hH6 := hH3.below h36
  have hW6 : Below W.heap.size W w6 := nextB (nextB hb1 hb2) h26
  have hL6 := HL.out.below hW6
  have hB6 : Below w.heap.size w w6 := nextB HA.out hW6
  have hr3 : (root F L3).length = 32 := E.len _
  have cA := R2'.cell 2
  simp only [List.getElem?_cons_zero, List.getElem?_cons_succ] at cA
  refine Code.wp_mono ?_ (reg10_any w6 (.slice (some ⟨w.heap.size + 1 + 1 + 1, 0, none⟩) 3 3) (.iface 83 (.pointer (some ⟨eb, 0, none⟩))) w1.heap.size w3.heap.size ca cb aa ab (bys (root F [])).toArray (bys (F [0, 120])).toArray (bys (root F L3)).toArray cA R4'
    (fun y => by rw [equ25 y (root F []) (root F []) (E.len _) (E.len _)]; simp) (fun y => by rw [equ25 y (F [0, 120]) (F [0, 120]) (E.len _) (E.len _)]; simp)
    (fun y _ => root_any F E.toEnv y _ [] ⟨.inl ⟨_, _, rfl, rfl⟩⟩ (fun b hb => by simp at hb) (by simp))
    (fun y g r _ => E.xsum y _ [2, 0, 0, 0, 0, 0, 0, 0, 0] r.sl (by simp))
    (fun y g r _ => leaf_any F E.toEnv y _ [120] r (by simp))
    (fun y g r _ => E.xsum y _ [0, 120] r.sl (by simp))
    (fun y hy => root_any F E.toEnv y _ L3 (hL6.below hy) short3 (by decide))
    (fun y g r hy => ?_) (fun y g r hy => ?_) (fun y hy => ?_) _ _ _ _ _ _ _ _ _ _ _ _ _ _ _ _ _ _ _ _ _ _ _ _ _ _ _ _ _ _ _ _ _ _ _ _ _ _ _ _ _ _ _ _ _ _ _ _ _ _ _ _ _ _ _ _ _ _ _ _ _ _ _ _ _ _ _ _ _ _ _ _)
  · rintro e a' w7 ⟨rfl, hd, h0, hb7⟩
    have HB : Hid (Below w.heap.size w w7) := nextB hB6 hb7
    have HD : Hid (a'.defers = []) := hd
    have H0 : Hid (a'.tmps.getD 0 undef = .bool true) := h0
    clear hd h0 hb7
    go_wp2_with fail
    refine bodyPost_ret (results_tmp Try.results10 _ _ _) HD.out ⟨?_, HB.out⟩
    rw [H0.out]
  · refine (check_any F E.toEnv y _ _ (root F L3) [1] 0 3 (path F L3 0) hr3 r.sl (by simp) (by omega) (hH6.below hy)).mono ?_
    rintro ev w' ⟨rfl, hb⟩
    exact ⟨by rw [chk31], hb⟩
  · refine (check_any F E.toEnv y _ _ (root F L3) [2] 0 3 (path F L3 0) hr3 r.sl (by simp) (by omega) (hH6.below hy)).mono ?_
    rintro ev w' ⟨rfl, hb⟩
    exact ⟨by rw [chk32 F E.apart], hb⟩
  · exact is_any y _ 2 0 2 0 (.inr (hE6.below hy)) rfl rfl
end Go.Proofs.Ytfkibbpekngciaa
