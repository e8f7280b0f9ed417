/-
  The region of MerkleForms in which a proof gets a sum more.
-/
import Derived.Test.YtfkibbpekngciaaQPrAp2
namespace Go.Proofs.Ytfkibbpekngciaa
open Go.RowKit

theorem no_panic9 {c} (h : Exit.panic c = Exit.normal) : False := by cases h
theorem row_ne {w : World} {g g' t t' : Nat} {L L' : List Value} (r : Row w g t L) (r' : Row w g' t' L') (hne : t ≠ t') : g ≠ g' := fun e => by
  subst e
  have a := r.heap
  rw [r'.heap] at a
  injection a with a
  injection a with _ a
  exact hne a.symm
theorem new26e (w : World) : ∃ (y : World) (g : Nat), y = w.alloc (.cells #[] 26) ∧ g = w.heap.size ∧ Below w.heap.size w y ∧ y.ownsRow w.heap.size 26 32 (.slice (some ⟨g, 0, none⟩) 0 0) ([] : List Bys).length (rows26 []) :=
  ⟨_, _, rfl, rfl, (Below.refl _ _).alloc (Nat.le_refl _) _, own26_nil w⟩
theorem own_lower' {w : World} {B B' t s n : Nat} {v : Value} {xs : List Value} (h : w.ownsRow B t s v n xs) (hB : B' ≤ B) : w.ownsRow B' t s v n xs := by
  refine ⟨h.1, ?_⟩
  rcases h.2 with hn | ⟨g, cap, cur, rfl, hb, rest⟩
  · exact .inl hn
  · exact .inr ⟨g, cap, cur, rfl, by omega, rest⟩
set_option maxHeartbeats 16000000 in
set_option maxRecDepth 20000 in
theorem reg9_any (w : World) (g5 g8 g11 cpp : Nat) (i n : Int) (ap : Option Addr) (h : Bys) (hh : h.length = 32) (P : List Bys) (hPl : P.length ≤ 1000) (hP : Hs w (.slice ap P.length cpp) P) (r5 : Row w g5 26 (bys h)) (r8 : Row w g8 30 [.int .i64 i, .int .i64 n, .slice ap P.length cpp]) (r11 : Row w g11 30 [.int .i64 i, .int .i64 n, .slice ap P.length cpp]) (hne : g8 ≠ g11)
    (c0 c1 c2 c3 c4 c6 c7 c9 c10 c12 c13 c14 c15 c16 c17 c18 c19 c20 c21 c22 c23 c24 c25 c26 c27 c28 c29 c30 c31 c32 c33 c34 c35 c36 c37 c38 c39 c40 c41 c42 c43 c44 c45 c46 c47 c48 c49 c50 c51 c52 c53 c54 c55 c56 c57 c58 c59 c60 c61 c62 c63 c64 c65 c66 c67 c68 c69 c70 c71 c72 c73 c74 c75 c76 c77 c78 c79 c80 c81 c82 c83 c84 c85 c86 c87 c88 c89 c90 c91 c92 c93 c94 c95 c96 c97 c98 c99 c100 c101 c102 c103 c104 c105 c106 c107 c108 c109 c110 c111 c112 c113 c114 c115 : Value) :
    (Code.region 9 #[{ dst := some 47, op := Op.buildSlice 28 0 #[], type := 28, pos := "more.go:43", after := #[], guard := none }, { dst := some 48, op := Op.fieldAddr 30 (Operand.tmp 8) 2, type := 0, pos := "more.go:43", after := #[], guard := none }, { dst := some 49, op := Op.load 28 (Operand.tmp 48), type := 28, pos := "more.go:43", after := #[{ on := 1, ground := Ground.data }], guard := none }, { dst := some 50, op := Op.call { callee := Callee.builtin Builtin.append, args := #[Operand.tmp 47, Operand.tmp 49], argTypes := #[28, 28] }, type := 28, pos := "more.go:43", after := #[{ on := 0, ground := Ground.data }, { on := 2, ground := Ground.data }], guard := none }, { dst := some 51, op := Op.load 26 (Operand.tmp 5), type := 26, pos := "more.go:43", after := #[], guard := none }, { dst := some 52, op := Op.buildSlice 28 1 #[(0, Operand.tmp 51)], type := 28, pos := "more.go:43", after := #[{ on := 4, ground := Ground.data }], guard := none }, { dst := some 53, op := Op.call { callee := Callee.builtin Builtin.append, args := #[Operand.tmp 50, Operand.tmp 52], argTypes := #[28, 28] }, type := 28, pos := "more.go:43", after := #[{ on := 3, ground := Ground.data }, { on := 5, ground := Ground.data }, { on := 3, ground := Ground.chain }], guard := none }, { dst := some 54, op := Op.fieldAddr 30 (Operand.tmp 11) 2, type := 0, pos := "more.go:43", after := #[{ on := 0, ground := Ground.phase }, { on := 1, ground := Ground.phase }, { on := 2, ground := Ground.phase }, { on := 3, ground := Ground.phase }, { on := 4, ground := Ground.phase }, { on := 5, ground := Ground.phase }, { on := 6, ground := Ground.phase }], guard := none }, { dst := none, op := Op.store 28 (Operand.tmp 54) (Operand.tmp 53), type := 0, pos := "more.go:43", after := #[{ on := 7, ground := Ground.data }, { on := 6, ground := Ground.data }, { on := 6, ground := Ground.chain }, { on := 0, ground := Ground.phase }, { on := 1, ground := Ground.phase }, { on := 2, ground := Ground.phase }, { on := 3, ground := Ground.phase }, { on := 4, ground := Ground.phase }, { on := 5, ground := Ground.phase }, { on := 6, ground := Ground.phase }], guard := none }] true).wp Try.prog (fun e a' w' => e = .normal ∧ ∃ (g47 g52 c5 a6c : Nat) (a5 a6 : Option Addr), a' = ⟨#[c0, c1, c2, c3, c4, .pointer (some ⟨g5, 0, none⟩), c6, c7, .pointer (some ⟨g8, 0, none⟩), c9, c10, .pointer (some ⟨g11, 0, none⟩), c12, c13, c14, c15, c16, c17, c18, c19, c20, c21, c22, c23, c24, c25, c26, c27, c28, c29, c30, c31, c32, c33, c34, c35, c36, c37, c38, c39, c40, c41, c42, c43, c44, c45, c46, .slice (some ⟨g47, 0, none⟩) 0 0, .pointer (some ⟨g8, 2, none⟩), .slice ap P.length cpp, .slice a5 P.length c5, .agg (bys h).toArray, .slice (some ⟨g52, 0, none⟩) 1 1, .slice a6 (P.length + 1) a6c, .pointer (some ⟨g11, 2, none⟩), c55, c56, c57, c58, c59, c60, c61, c62, c63, c64, c65, c66, c67, c68, c69, c70, c71, c72, c73, c74, c75, c76, c77, c78, c79, c80, c81, c82, c83, c84, c85, c86, c87, c88, c89, c90, c91, c92, c93, c94, c95, c96, c97, c98, c99, c100, c101, c102, c103, c104, c105, c106, c107, c108, c109, c110, c111, c112, c113, c114, c115], []⟩ ∧ Row w' g11 30 [.int .i64 i, .int .i64 n, .slice a6 (P.length + 1) a6c] ∧ w'.ownsRow w.heap.size 26 32 (.slice a6 (P.length + 1) a6c) (P.length + 1) (rows26 (P ++ [h])) ∧ w.grownBy w' (some g11)) ⟨#[c0, c1, c2, c3, c4, .pointer (some ⟨g5, 0, none⟩), c6, c7, .pointer (some ⟨g8, 0, none⟩), c9, c10, .pointer (some ⟨g11, 0, none⟩), c12, c13, c14, c15, c16, c17, c18, c19, c20, c21, c22, c23, c24, c25, c26, c27, c28, c29, c30, c31, c32, c33, c34, c35, c36, c37, c38, c39, c40, c41, c42, c43, c44, c45, c46, c47, c48, c49, c50, c51, c52, c53, c54, c55, c56, c57, c58, c59, c60, c61, c62, c63, c64, c65, c66, c67, c68, c69, c70, c71, c72, c73, c74, c75, c76, c77, c78, c79, c80, c81, c82, c83, c84, c85, c86, c87, c88, c89, c90, c91, c92, c93, c94, c95, c96, c97, c98, c99, c100, c101, c102, c103, c104, c105, c106, c107, c108, c109, c110, c111, c112, c113, c114, c115], []⟩ w := by
  obtain ⟨W, hW⟩ : ∃ W, W = w.drew := ⟨_, rfl⟩
  have hw0 : Below w.heap.size w W := by rw [hW]; exact (Below.refl _ _).drew
  have hsz : W.heap.size = w.heap.size := by rw [hW]; rfl
  have hQ : ∀ y, Below W.heap.size W y → Below w.heap.size w y := fun y hy => nextB hw0 hy
  have l8 := r8.lt
  have l5 := r5.lt
  have l11 := r11.lt
  have hne5 : g5 ≠ g11 := row_ne r5 r11 (by decide)
  have HN : Hid (∀ y y', (Row y g8 30 [.int .i64 i, .int .i64 n, .slice ap P.length cpp] ∧ Row y g5 26 (bys h)) → Below y.heap.size y y' → (Row y' g8 30 [.int .i64 i, .int .i64 n, .slice ap P.length cpp] ∧ Row y' g5 26 (bys h))) := fun y y' hy hb => ⟨hy.1.below hb hy.1.lt, hy.2.below hb hy.2.lt⟩
  have HG : Hid (∀ y y' (u : Value), Below W.heap.size W y → (Row y g8 30 [.int .i64 i, .int .i64 n, .slice ap P.length cpp] ∧ Row y g5 26 (bys h)) → y.grownBy y' u.ownBlock → (∀ q, u.ownBlock = some q → W.heap.size ≤ q) → (Row y' g8 30 [.int .i64 i, .int .i64 n, .slice ap P.length cpp] ∧ Row y' g5 26 (bys h))) := fun y y' u _ hy hg hu => ⟨hy.1.grown hg (fun e => by have := hu _ e; omega), hy.2.grown hg (fun e => by have := hu _ e; omega)⟩
  have H11 : Hid (∀ y, Below W.heap.size W y → Row y g11 30 [.int .i64 i, .int .i64 n, .slice ap P.length cpp]) := fun y hy => r11.below (hQ y hy) r11.lt
  have HS : Hid (∀ y v, (Row y g8 30 [.int .i64 i, .int .i64 n, .slice ap P.length cpp] ∧ Row y g5 26 (bys h)) → (Row (y.setCell ⟨g11, 2, none⟩ v) g8 30 [.int .i64 i, .int .i64 n, .slice ap P.length cpp] ∧ Row (y.setCell ⟨g11, 2, none⟩ v) g5 26 (bys h))) := fun y v hy => ⟨hy.1.other hne v, hy.2.other hne5 v⟩
  have HP : Hid (∀ y, Below W.heap.size W y → Hs y (.slice ap P.length cpp) P) := fun y hy => hP.below (hQ y hy)
  have HF : Hid (∀ y a c, Below W.heap.size W y → y.ownsRow W.heap.size 26 32 (.slice a (P ++ [h]).length c) (P ++ [h]).length (rows26 (P ++ [h])) → Row (y.setCell ⟨g11, 2, none⟩ (.slice a (P ++ [h]).length c)) g11 30 [.int .i64 i, .int .i64 n, .slice a (P ++ [h]).length c] ∧ (y.setCell ⟨g11, 2, none⟩ (.slice a (P ++ [h]).length c)).ownsRow w.heap.size 26 32 (.slice a (P ++ [h]).length c) (P ++ [h]).length (rows26 (P ++ [h])) ∧ w.grownBy (y.setCell ⟨g11, 2, none⟩ (.slice a (P ++ [h]).length c)) (some g11)) := fun y a c hy ho => by
    have r := (H11.out y hy)
    refine ⟨r.set 2 _, own_lower' (own_setCell ho r (by decide)) (by omega), ?_⟩
    · have hg : y.grownBy (y.setCell ⟨g11, 2, none⟩ (.slice a (P ++ [h]).length c)) (some g11) := by
        have hb : Below g11 y (y.setCell ⟨g11, 2, none⟩ (.slice a (P ++ [h]).length c)) := (Below.refl _ _).setCell (p := ⟨g11, 2, none⟩) (Nat.le_refl _) _
        exact ⟨hb.os, hb.tape, hb.output, hb.size, fun q _ hq => heap_setCell_other y ⟨g11, 2, none⟩ q _ (fun e => hq (by rw [e]))⟩
      exact (grown_below (hQ y hy) _).trans hg
  have hhi := info26L h hh
  have h32 := bys32 h hh
  have hq0 : Row W g8 30 [.int .i64 i, .int .i64 n, .slice ap P.length cpp] ∧ Row W g5 26 (bys h) := ⟨r8.below hw0 l8, r5.below hw0 l5⟩
  have hB0 : Below W.heap.size W W := Below.refl _ _
  clear r5 r8 r11 hP hw0
  refine wp_region_held_drew (S := fun y => Row y g8 30 [.int .i64 i, .int .i64 n, .slice ap P.length cpp] ∧ Row y g5 26 (bys h)) (by kernel_rfl) (by rw [← hW]; exact hq0) (fun hS0 => ?_)
  rw [← hW] at hS0 ⊢
  clear hW hq0 hsz l8 l5 l11
  refine take_in 1 (v := ?vp1) rfl (some 48) rfl (by kernel_rfl) (by kernel_rfl) (by kernel_rfl) (fun _ _ _ h => (no_panic9 h.1).elim) (Or.inl ⟨by rfl, ?hp1⟩) hS0 ?rp1
  case hp1 => (intro y hy; go_simp; with_reducible rfl)
  simp only [Act.put, List.setIfInBounds_toArray, List.set_cons_zero, List.set_cons_succ]
  refine take_in 2 (v := ?vp2) rfl (some 49) rfl (by kernel_rfl) (by kernel_rfl) (by kernel_rfl) (fun _ _ _ h => (no_panic9 h.1).elim) (Or.inl ⟨by rfl, ?hp2⟩) hS0 ?rp2
  case hp2 => (intro y hy; have c1 := hy.1.cell 2; simp only [List.getElem?_cons_zero, List.getElem?_cons_succ] at c1; go_simp; with_reducible rfl)
  simp only [Act.put, List.setIfInBounds_toArray, List.set_cons_zero, List.set_cons_succ]
  refine take_in 4 (v := .agg (bys h).toArray) rfl (some 51) rfl (by kernel_rfl) (by kernel_rfl) (by kernel_rfl) (fun _ _ _ h => (no_panic9 h.1).elim) (yieldsIf_load_mid (by rfl) 26 _ rfl g5 0 rfl (bys h) _ (fun y hy => hy.2.range) Try.underlying26 rfl hhi) hS0 ?_
  simp only [Act.put, List.setIfInBounds_toArray, List.set_cons_zero, List.set_cons_succ]
  refine join (fuel' := 3) (listed' := (((((((Array.replicate 9 false).setIfInBounds 0 true).setIfInBounds 1 true).setIfInBounds 2 true).setIfInBounds 3 true).setIfInBounds 4 true).setIfInBounds 5 true)) (fun (g : Nat × Nat × Option Addr × Nat) => ⟨#[c0, c1, c2, c3, c4, .pointer (some ⟨g5, 0, none⟩), c6, c7, .pointer (some ⟨g8, 0, none⟩), c9, c10, .pointer (some ⟨g11, 0, none⟩), c12, c13, c14, c15, c16, c17, c18, c19, c20, c21, c22, c23, c24, c25, c26, c27, c28, c29, c30, c31, c32, c33, c34, c35, c36, c37, c38, c39, c40, c41, c42, c43, c44, c45, c46, .slice (some ⟨g.1, 0, none⟩) 0 0, .pointer (some ⟨g8, 2, none⟩), .slice ap P.length cpp, .slice g.2.2.1 P.length g.2.2.2, .agg (bys h).toArray, .slice (some ⟨g.2.1, 0, none⟩) 1 1, c53, c54, c55, c56, c57, c58, c59, c60, c61, c62, c63, c64, c65, c66, c67, c68, c69, c70, c71, c72, c73, c74, c75, c76, c77, c78, c79, c80, c81, c82, c83, c84, c85, c86, c87, c88, c89, c90, c91, c92, c93, c94, c95, c96, c97, c98, c99, c100, c101, c102, c103, c104, c105, c106, c107, c108, c109, c110, c111, c112, c113, c114, c115], []⟩) (fun g y => (Row y g8 30 [.int .i64 i, .int .i64 n, .slice ap P.length cpp] ∧ Row y g5 26 (bys h)) ∧ Below W.heap.size W y ∧ y.ownsRow W.heap.size 26 32 (.slice g.2.2.1 P.length g.2.2.2) P.length (rows26 P) ∧ Row y g.2.1 26 (bys h)) ?_ (fun HJ => ?_)
  rotate_left
  refine wpAnyH_ready (rs := [0, 5]) (by kernel_rfl) (by simp) ?_
  refine AllReadyH.cons rfl (fun K hK => ?_) (AllReadyH.cons rfl (fun K hK => ?_) AllReadyH.nil)
  · go_simp
    obtain ⟨y3, gg7, hy_, hg_, hb4, ho8⟩ := new26e W
    rw [← hy_, ← hg_]
    have lo9 := own_lower' ho8 hB0.size
    clear hy_ hg_
    have hB6 := nextB hB0 hb4
    have hS5 := HN.out _ _ hS0 hb4
    refine hK.out _ _ hS5 (fun _ => ?_)
    clear hK K
    refine wpAnyH_ready (rs := [3, 5]) (by kernel_rfl) (by simp) ?_
    refine AllReadyH.cons rfl (fun K hK => ?_) (AllReadyH.cons rfl (fun K hK => ?_) AllReadyH.nil)
    · refine want (by rfl) ?_
      refine wpo_app26s (P := []) _ _ rfl rfl lo9 hB6.size rfl (HP.out _ hB6) (by simp; omega) ?_
      intro v14 y10 ho16 hb11 hg15
      obtain ⟨a17, c18, rfl⟩ := own_shape' ho16
      have hB13 := hB6.trans hb11
      have hS12 := HG.out _ _ _ hB6 hS5 hg15 (fun q e => (lo9.lt q e).1)
      refine hK.out _ _ hS12 (fun _ => ?_)
      clear hK K
      refine wpAnyH_ready (rs := [5]) (by kernel_rfl) (by simp) ?_
      refine AllReadyH.cons rfl (fun K hK => ?_) AllReadyH.nil
      refine want (by rfl) ?_
      refine wpo_build26 _ rfl _ rfl h32 ?_
      obtain ⟨y19, gg23, hy_, hg_, hb20, R24⟩ := new26 y10 h
      rw [← hy_, ← hg_]
      have ho25 := own_past' ho16 hb20
      clear hy_ hg_
      have hB22 := nextB hB13 hb20
      have hS21 := HN.out _ _ hS12 hb20
      refine hK.out _ _ hS21 (fun _ => ?_)
      clear hK K
      refine listed_eq (by kernel_rfl) (HJ (gg7, gg23, a17, c18) _ ⟨hS21, hB22, ho25, R24⟩)
    · refine want (by rfl) ?_
      refine wpo_build26 _ rfl _ rfl h32 ?_
      obtain ⟨y26, gg30, hy_, hg_, hb27, R31⟩ := new26 y3 h
      rw [← hy_, ← hg_]
      have ho32 := own_past' lo9 hb27
      have ne33 : gg30 ≠ gg7 := by have hlt_ : gg7 < _ := (lo9.lt gg7 rfl).2; omega
      clear hy_ hg_
      have hB29 := nextB hB6 hb27
      have hS28 := HN.out _ _ hS5 hb27
      refine hK.out _ _ hS28 (fun _ => ?_)
      clear hK K
      refine wpAnyH_ready (rs := [3]) (by kernel_rfl) (by simp) ?_
      refine AllReadyH.cons rfl (fun K hK => ?_) AllReadyH.nil
      refine want (by rfl) ?_
      refine wpo_app26s (P := []) _ _ rfl rfl ho32 hB29.size rfl (HP.out _ hB29) (by simp; omega) ?_
      intro v38 y34 ho40 hb35 hg39
      obtain ⟨a41, c42, rfl⟩ := own_shape' ho40
      have hB37 := hB29.trans hb35
      have hS36 := HG.out _ _ _ hB29 hS28 hg39 (fun q e => (ho32.lt q e).1)
      have R43 := R31.grown hg39 (fun e => ne33 (Option.some.inj e).symm)
      refine hK.out _ _ hS36 (fun _ => ?_)
      clear hK K
      refine listed_eq (by kernel_rfl) (HJ (gg7, gg30, a41, c42) _ ⟨hS36, hB37, ho40, R43⟩)
  · refine want (by rfl) ?_
    refine wpo_build26 _ rfl _ rfl h32 ?_
    obtain ⟨y44, gg48, hy_, hg_, hb45, R49⟩ := new26 W h
    rw [← hy_, ← hg_]
    clear hy_ hg_
    have hB47 := nextB hB0 hb45
    have hS46 := HN.out _ _ hS0 hb45
    refine hK.out _ _ hS46 (fun _ => ?_)
    clear hK K
    refine wpAnyH_ready (rs := [0]) (by kernel_rfl) (by simp) ?_
    refine AllReadyH.cons rfl (fun K hK => ?_) AllReadyH.nil
    go_simp
    obtain ⟨y50, gg54, hy_, hg_, hb51, ho55⟩ := new26e y44
    rw [← hy_, ← hg_]
    have ne56 : gg48 ≠ gg54 := by have := R49.lt; omega
    have R57 := R49.below hb51 R49.lt
    have lo58 := own_lower' ho55 hB47.size
    clear hy_ hg_
    have hB53 := nextB hB47 hb51
    have hS52 := HN.out _ _ hS46 hb51
    refine hK.out _ _ hS52 (fun _ => ?_)
    clear hK K
    refine wpAnyH_ready (rs := [3]) (by kernel_rfl) (by simp) ?_
    refine AllReadyH.cons rfl (fun K hK => ?_) AllReadyH.nil
    refine want (by rfl) ?_
    refine wpo_app26s (P := []) _ _ rfl rfl lo58 hB53.size rfl (HP.out _ hB53) (by simp; omega) ?_
    intro v63 y59 ho65 hb60 hg64
    obtain ⟨a66, c67, rfl⟩ := own_shape' ho65
    have hB62 := hB53.trans hb60
    have hS61 := HG.out _ _ _ hB53 hS52 hg64 (fun q e => (lo58.lt q e).1)
    have R68 := R57.grown hg64 (fun e => ne56 (Option.some.inj e).symm)
    refine hK.out _ _ hS61 (fun _ => ?_)
    clear hK K
    refine listed_eq (by kernel_rfl) (HJ (gg54, gg48, a66, c67) _ ⟨hS61, hB62, ho65, R68⟩)
  rintro ⟨g47, g52, a5, c5⟩ y1 ⟨hS1, hB1, o1, R1⟩
  simp only at o1 R1 ⊢
  refine wpAnyH_ready (rs := [6]) (by kernel_rfl) (by simp) ?_
  refine AllReadyH.cons rfl (fun K hK => ?_) AllReadyH.nil
  refine want (by rfl) ?_
  refine wpo_app26 _ _ rfl rfl o1 hB1.size g52 1 h hh rfl R1.range (by omega) ?_
  intro v2 y2 o2 hb2 hg2 _
  have hB2 := hB1.trans hb2
  have hS2 := HG.out _ _ _ hB1 hS1 hg2 (fun q e => (o1.lt q e).1)
  obtain ⟨a6, c6, rfl⟩ := own_shape' o2
  refine hK.out _ _ hS2 (fun _ => ?_)
  clear hK K
  refine take_in 7 (v := ?vp69) rfl (some 54) rfl (by kernel_rfl) (by kernel_rfl) (by kernel_rfl) (fun _ _ _ h => (no_panic9 h.1).elim) (Or.inl ⟨by rfl, ?hp69⟩) hS2 ?rp69
  case hp69 => (intro y hy; go_simp; with_reducible rfl)
  simp only [Act.put, List.setIfInBounds_toArray]
  refine wpAnyH_ready (rs := [8]) (by kernel_rfl) (by simp) ?_
  refine AllReadyH.cons rfl (fun K hK => ?_) AllReadyH.nil
  have cx := (H11.out _ hB2).cell 2
  have fx := (H11.out _ hB2).fz 2
  simp only [List.getElem?_cons_zero, List.getElem?_cons_succ] at cx
  go_simp
  clear cx fx
  refine hK.out _ _ (HS.out _ _ hS2) (fun _ => ?_)
  clear hK K
  refine wpAnyH_done (by kernel_rfl) ?_ _
  have hfin := HF.out y2 a6 c6 hB2 o2
  rw [show (P ++ [h]).length = P.length + 1 by simp] at hfin
  obtain ⟨hrow, hhs, hgr⟩ := hfin
  exact ⟨rfl, g47, g52, c5, c6, a5, a6, rfl, hrow, hhs, hgr⟩
end Go.Proofs.Ytfkibbpekngciaa
