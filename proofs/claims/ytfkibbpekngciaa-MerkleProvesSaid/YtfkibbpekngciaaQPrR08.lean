/-
  The region of MerkleForms in which three proofs are laid.
-/
import Derived.Test.YtfkibbpekngciaaQPrR10
namespace Go.Proofs.Ytfkibbpekngciaa
open Go.RowKit

theorem no_panic8 {c} (h : Exit.panic c = Exit.normal) : False := by cases h
theorem Try.info30z : (Try.prog.info? 30).map (fun i => (i.zero, i.size, i.bytes)) = some (some (.agg #[.int .i64 0, .int .i64 0, .slice none 0 0]), 3, 40) := by kernel_rfl
theorem wpo_alloc30 {o : Oper} {a : Act} {K : Act → World → Prop} {Q : Exit → Act → World → Prop} {w : World} (ho : o.op = .alloc 30)
    (h : ∀ y g, Row y g 30 [.int .i64 0, .int .i64 0, .slice none 0 0] → g = w.heap.size → Below w.heap.size w y → K (a.put o.dst (.pointer (some ⟨g, 0, none⟩))) y) : Oper.wp Try.prog o a w K Q := by
  have := h (w.alloc (.cells #[.int .i64 0, .int .i64 0, .slice none 0 0] 30)) w.heap.size (Row.new w 30 _) rfl ((Below.refl _ _).alloc (Nat.le_refl _) _)
  obtain ⟨i0, hi, hz0, hz1, hz2⟩ := info_parts Try.info30z
  unfold Oper.wp execOp
  simp [ho, go_sem, Instr.alloc, zeroValue, typeInfo, hi, hz0]
  exact this
theorem wpo_store30 {o : Oper} {a : Act} {K : Act → World → Prop} {Q : Exit → Act → World → Prop} {w : World} (x y : Operand) (ho : o.op = .store 30 x y) (w0 : World) (g : Nat) (p q r : Value) (h1 : #[p, q, r].all (·.oneCell') = true)
    (hx : a.eval x = .pointer (some ⟨g, 0, none⟩)) (hy : a.eval y = .agg #[p, q, r]) (p' q' r' : Value) (hr : Row w g 30 [p', q', r']) (B : Nat) (hb : Below B w0 w) (hB : B ≤ g)
    (k : ∀ w', Row w' g 30 [p, q, r] → Below B w0 w' → Hid (w' = w.setRow g #[p, q, r]) → K (a.put o.dst undef) w') : Oper.wp Try.prog o a w K Q := by
  refine wp_store_row 30 x y ho g #[p, q, r] hx hy 30 #[p', q', r'] hr.heap Try.info30 rfl h1 ?_
  exact k _ ⟨setRow_heap w g _ _ 30 _ hr.heap⟩ (below_setRow hb hB _) rfl
set_option maxHeartbeats 16000000 in
set_option maxRecDepth 20000 in
theorem reg8_any (w : World) (g8 l cpp : Nat) (i n : Int) (ap : Option Addr) (hr : Row w g8 30 [.int .i64 i, .int .i64 n, .slice ap l cpp])
    (c0 c1 c2 c3 c4 c5 c6 c7 c9 c10 c11 c12 c13 c14 c15 c16 c17 c18 c19 c20 c21 c22 c23 c24 c25 c26 c27 c28 c29 c30 c31 c32 c33 c34 c35 c36 c37 c38 c39 c40 c41 c42 c43 c44 c45 c46 c47 c48 c49 c50 c51 c52 c53 c54 c55 c56 c57 c58 c59 c60 c61 c62 c63 c64 c65 c66 c67 c68 c69 c70 c71 c72 c73 c74 c75 c76 c77 c78 c79 c80 c81 c82 c83 c84 c85 c86 c87 c88 c89 c90 c91 c92 c93 c94 c95 c96 c97 c98 c99 c100 c101 c102 c103 c104 c105 c106 c107 c108 c109 c110 c111 c112 c113 c114 c115 : Value) :
    (Code.region 8 #[{ dst := some 44, op := Op.load 30 (Operand.tmp 8), type := 30, pos := "more.go:42", after := #[], guard := none }, { dst := some 45, op := Op.load 30 (Operand.tmp 8), type := 30, pos := "more.go:42", after := #[{ on := 6, ground := Ground.gcOnly Go.Departure.lateStores }], guard := none }, { dst := some 46, op := Op.load 30 (Operand.tmp 8), type := 30, pos := "more.go:42", after := #[{ on := 7, ground := Ground.gcOnly Go.Departure.lateStores }], guard := none }, { dst := some 11, op := Op.alloc 30, type := 0, pos := "more.go:42", after := #[], guard := none }, { dst := some 12, op := Op.alloc 30, type := 0, pos := "more.go:42", after := #[], guard := none }, { dst := some 13, op := Op.alloc 30, type := 0, pos := "more.go:42", after := #[], guard := none }, { dst := none, op := Op.store 30 (Operand.tmp 11) (Operand.tmp 44), type := 0, pos := "more.go:42", after := #[{ on := 3, ground := Ground.data }, { on := 0, ground := Ground.data }, { on := 0, ground := Ground.phase }, { on := 1, ground := Ground.textOnly Go.Departure.lateStores }, { on := 2, ground := Ground.textOnly Go.Departure.lateStores }, { on := 3, ground := Ground.phase }, { on := 4, ground := Ground.phase }, { on := 5, ground := Ground.phase }], guard := none }, { dst := none, op := Op.store 30 (Operand.tmp 12) (Operand.tmp 45), type := 0, pos := "more.go:42", after := #[{ on := 4, ground := Ground.data }, { on := 1, ground := Ground.data }, { on := 6, ground := Ground.chain }, { on := 0, ground := Ground.phase }, { on := 1, ground := Ground.phase }, { on := 2, ground := Ground.textOnly Go.Departure.lateStores }, { on := 3, ground := Ground.phase }, { on := 4, ground := Ground.phase }, { on := 5, ground := Ground.phase }, { on := 6, ground := Ground.phase }], guard := none }, { dst := none, op := Op.store 30 (Operand.tmp 13) (Operand.tmp 46), type := 0, pos := "more.go:42", after := #[{ on := 5, ground := Ground.data }, { on := 2, ground := Ground.data }, { on := 7, ground := Ground.chain }, { on := 0, ground := Ground.phase }, { on := 1, ground := Ground.phase }, { on := 2, ground := Ground.phase }, { on := 3, ground := Ground.phase }, { on := 4, ground := Ground.phase }, { on := 5, ground := Ground.phase }, { on := 6, ground := Ground.phase }, { on := 7, ground := Ground.phase }], guard := none }] true).wp Try.prog (fun e a' w' => e = .normal ∧ ∃ g11 g12 g13, a' = ⟨#[c0, c1, c2, c3, c4, c5, c6, c7, .pointer (some ⟨g8, 0, none⟩), c9, c10, .pointer (some ⟨g11, 0, none⟩), .pointer (some ⟨g12, 0, none⟩), .pointer (some ⟨g13, 0, none⟩), c14, c15, c16, c17, c18, c19, c20, c21, c22, c23, c24, c25, c26, c27, c28, c29, c30, c31, c32, c33, c34, c35, c36, c37, c38, c39, c40, c41, c42, c43, .agg #[.int .i64 i, .int .i64 n, .slice ap l cpp], .agg #[.int .i64 i, .int .i64 n, .slice ap l cpp], .agg #[.int .i64 i, .int .i64 n, .slice ap l cpp], c47, c48, c49, c50, c51, c52, c53, c54, c55, c56, c57, c58, c59, c60, c61, c62, c63, c64, c65, c66, c67, c68, c69, c70, c71, c72, c73, c74, c75, c76, c77, c78, c79, c80, c81, c82, c83, c84, c85, c86, c87, c88, c89, c90, c91, c92, c93, c94, c95, c96, c97, c98, c99, c100, c101, c102, c103, c104, c105, c106, c107, c108, c109, c110, c111, c112, c113, c114, c115], []⟩ ∧ Row w' g11 30 [.int .i64 i, .int .i64 n, .slice ap l cpp] ∧ Row w' g12 30 [.int .i64 i, .int .i64 n, .slice ap l cpp] ∧ Row w' g13 30 [.int .i64 i, .int .i64 n, .slice ap l cpp] ∧ g11 ≠ g12 ∧ g11 ≠ g13 ∧ g12 ≠ g13 ∧ w.heap.size ≤ g11 ∧ w.heap.size ≤ g12 ∧ w.heap.size ≤ g13 ∧ Below w.heap.size w w') ⟨#[c0, c1, c2, c3, c4, c5, c6, c7, .pointer (some ⟨g8, 0, none⟩), c9, c10, c11, c12, c13, c14, c15, c16, c17, c18, c19, c20, c21, c22, c23, c24, c25, c26, c27, c28, c29, c30, c31, c32, c33, c34, c35, c36, c37, c38, c39, c40, c41, c42, c43, c44, c45, c46, c47, c48, c49, c50, c51, c52, c53, c54, c55, c56, c57, c58, c59, c60, c61, c62, c63, c64, c65, c66, c67, c68, c69, c70, c71, c72, c73, c74, c75, c76, c77, c78, c79, c80, c81, c82, c83, c84, c85, c86, c87, c88, c89, c90, c91, c92, c93, c94, c95, c96, c97, c98, c99, c100, c101, c102, c103, c104, c105, c106, c107, c108, c109, c110, c111, c112, c113, c114, c115], []⟩ w := by
  obtain ⟨W, hW⟩ : ∃ W, W = w.drew := ⟨_, rfl⟩
  have hw0 : Below w.heap.size w W := by rw [hW]; exact (Below.refl _ _).drew
  have hsz : W.heap.size = w.heap.size := by rw [hW]; rfl
  have hQ : ∀ y, Below W.heap.size W y → Below w.heap.size w y := fun y hy => nextB hw0 hy
  have HR : Hid (∀ y, Below W.heap.size W y → y.rangeAt g8 0 [.int .i64 i, .int .i64 n, .slice ap l cpp]) := fun y hy => (hr.below (hQ y hy) hr.lt).range
  clear hr hw0
  refine wp_region_held_drew (S := fun y => Below W.heap.size W y) (by kernel_rfl) (by rw [← hW]; exact Below.refl _ _) (fun hS0 => ?_)
  rw [← hW] at hS0 ⊢
  clear hW
  refine take_in 0 (v := .agg #[.int .i64 i, .int .i64 n, .slice ap l cpp]) rfl (some 44) rfl (by kernel_rfl) (by kernel_rfl) (by kernel_rfl) (fun _ _ _ h => (no_panic8 h.1).elim) (yieldsIf_load_mid (by rfl) 30 _ rfl g8 0 rfl [.int .i64 i, .int .i64 n, .slice ap l cpp] _ (fun y hy => HR.out y hy) Try.underlying30 rfl Try.info30) hS0 ?_
  simp only [Act.put, List.setIfInBounds_toArray, List.set_cons_zero, List.set_cons_succ]
  refine take_in 1 (v := .agg #[.int .i64 i, .int .i64 n, .slice ap l cpp]) rfl (some 45) rfl (by kernel_rfl) (by kernel_rfl) (by kernel_rfl) (fun _ _ _ h => (no_panic8 h.1).elim) (yieldsIf_load_mid (by rfl) 30 _ rfl g8 0 rfl [.int .i64 i, .int .i64 n, .slice ap l cpp] _ (fun y hy => HR.out y hy) Try.underlying30 rfl Try.info30) hS0 ?_
  simp only [Act.put, List.setIfInBounds_toArray, List.set_cons_zero, List.set_cons_succ]
  refine take_in 2 (v := .agg #[.int .i64 i, .int .i64 n, .slice ap l cpp]) rfl (some 46) rfl (by kernel_rfl) (by kernel_rfl) (by kernel_rfl) (fun _ _ _ h => (no_panic8 h.1).elim) (yieldsIf_load_mid (by rfl) 30 _ rfl g8 0 rfl [.int .i64 i, .int .i64 n, .slice ap l cpp] _ (fun y hy => HR.out y hy) Try.underlying30 rfl Try.info30) hS0 ?_
  simp only [Act.put, List.setIfInBounds_toArray, List.set_cons_zero, List.set_cons_succ]
  refine join (fuel' := 3) (listed' := (((((((Array.replicate 9 false).setIfInBounds 0 true).setIfInBounds 1 true).setIfInBounds 2 true).setIfInBounds 3 true).setIfInBounds 4 true).setIfInBounds 5 true)) (fun (g : Nat × Nat × Nat) => ⟨#[c0, c1, c2, c3, c4, c5, c6, c7, .pointer (some ⟨g8, 0, none⟩), c9, c10, .pointer (some ⟨g.1, 0, none⟩), .pointer (some ⟨g.2.1, 0, none⟩), .pointer (some ⟨g.2.2, 0, none⟩), c14, c15, c16, c17, c18, c19, c20, c21, c22, c23, c24, c25, c26, c27, c28, c29, c30, c31, c32, c33, c34, c35, c36, c37, c38, c39, c40, c41, c42, c43, .agg #[.int .i64 i, .int .i64 n, .slice ap l cpp], .agg #[.int .i64 i, .int .i64 n, .slice ap l cpp], .agg #[.int .i64 i, .int .i64 n, .slice ap l cpp], c47, c48, c49, c50, c51, c52, c53, c54, c55, c56, c57, c58, c59, c60, c61, c62, c63, c64, c65, c66, c67, c68, c69, c70, c71, c72, c73, c74, c75, c76, c77, c78, c79, c80, c81, c82, c83, c84, c85, c86, c87, c88, c89, c90, c91, c92, c93, c94, c95, c96, c97, c98, c99, c100, c101, c102, c103, c104, c105, c106, c107, c108, c109, c110, c111, c112, c113, c114, c115], []⟩) (fun g y => Below W.heap.size W y ∧ Row y g.1 30 [.int .i64 0, .int .i64 0, .slice none 0 0] ∧ Row y g.2.1 30 [.int .i64 0, .int .i64 0, .slice none 0 0] ∧ Row y g.2.2 30 [.int .i64 0, .int .i64 0, .slice none 0 0] ∧ g.1 ≠ g.2.1 ∧ g.1 ≠ g.2.2 ∧ g.2.1 ≠ g.2.2 ∧ W.heap.size ≤ g.1 ∧ W.heap.size ≤ g.2.1 ∧ W.heap.size ≤ g.2.2) ?_ (fun HJ => ?_)
  rotate_left
  refine wpAnyH_ready (rs := [3, 4, 5]) (by kernel_rfl) (by simp) ?_
  refine AllReadyH.cons rfl (fun K hK => ?_) (AllReadyH.cons rfl (fun K hK => ?_) (AllReadyH.cons rfl (fun K hK => ?_) AllReadyH.nil))
  · refine want (by rfl) ?_
    refine wpo_alloc30 rfl ?_
    intro y1 gg2 R3 eg hb4
    have hS5 := nextB hS0 hb4
    have hge6 : W.heap.size ≤ gg2 := by have := hS0.size; omega
    clear eg
    refine hK.out _ _ hS5 (fun _ => ?_)
    clear hK K
    refine wpAnyH_ready (rs := [4, 5]) (by kernel_rfl) (by simp) ?_
    refine AllReadyH.cons rfl (fun K hK => ?_) (AllReadyH.cons rfl (fun K hK => ?_) AllReadyH.nil)
    · refine want (by rfl) ?_
      refine wpo_alloc30 rfl ?_
      intro y7 gg8 R9 eg hb10
      have hS11 := nextB hS5 hb10
      have hge12 : W.heap.size ≤ gg8 := by have := hS5.size; omega
      have ne14 : gg2 < gg8 := by have := R3.lt; omega
      have R13 := R3.below hb10 R3.lt
      clear eg
      refine hK.out _ _ hS11 (fun _ => ?_)
      clear hK K
      refine wpAnyH_ready (rs := [5]) (by kernel_rfl) (by simp) ?_
      refine AllReadyH.cons rfl (fun K hK => ?_) AllReadyH.nil
      refine want (by rfl) ?_
      refine wpo_alloc30 rfl ?_
      intro y15 gg16 R17 eg hb18
      have hS19 := nextB hS11 hb18
      have hge20 : W.heap.size ≤ gg16 := by have := hS11.size; omega
      have ne22 : gg2 < gg16 := by have := R13.lt; omega
      have R21 := R13.below hb18 R13.lt
      have ne24 : gg8 < gg16 := by have := R9.lt; omega
      have R23 := R9.below hb18 R9.lt
      clear eg
      refine hK.out _ _ hS19 (fun _ => ?_)
      clear hK K
      refine listed_eq (by kernel_rfl) (HJ (gg2, gg8, gg16) _ ⟨hS19, R21, R23, R17, (by dsimp only; omega), (by dsimp only; omega), (by dsimp only; omega), (by dsimp only; omega), (by dsimp only; omega), (by dsimp only; omega)⟩)
    · refine want (by rfl) ?_
      refine wpo_alloc30 rfl ?_
      intro y25 gg26 R27 eg hb28
      have hS29 := nextB hS5 hb28
      have hge30 : W.heap.size ≤ gg26 := by have := hS5.size; omega
      have ne32 : gg2 < gg26 := by have := R3.lt; omega
      have R31 := R3.below hb28 R3.lt
      clear eg
      refine hK.out _ _ hS29 (fun _ => ?_)
      clear hK K
      refine wpAnyH_ready (rs := [4]) (by kernel_rfl) (by simp) ?_
      refine AllReadyH.cons rfl (fun K hK => ?_) AllReadyH.nil
      refine want (by rfl) ?_
      refine wpo_alloc30 rfl ?_
      intro y33 gg34 R35 eg hb36
      have hS37 := nextB hS29 hb36
      have hge38 : W.heap.size ≤ gg34 := by have := hS29.size; omega
      have ne40 : gg2 < gg34 := by have := R31.lt; omega
      have R39 := R31.below hb36 R31.lt
      have ne42 : gg26 < gg34 := by have := R27.lt; omega
      have R41 := R27.below hb36 R27.lt
      clear eg
      refine hK.out _ _ hS37 (fun _ => ?_)
      clear hK K
      refine listed_eq (by kernel_rfl) (HJ (gg2, gg34, gg26) _ ⟨hS37, R39, R35, R41, (by dsimp only; omega), (by dsimp only; omega), (by dsimp only; omega), (by dsimp only; omega), (by dsimp only; omega), (by dsimp only; omega)⟩)
  · refine want (by rfl) ?_
    refine wpo_alloc30 rfl ?_
    intro y43 gg44 R45 eg hb46
    have hS47 := nextB hS0 hb46
    have hge48 : W.heap.size ≤ gg44 := by have := hS0.size; omega
    clear eg
    refine hK.out _ _ hS47 (fun _ => ?_)
    clear hK K
    refine wpAnyH_ready (rs := [3, 5]) (by kernel_rfl) (by simp) ?_
    refine AllReadyH.cons rfl (fun K hK => ?_) (AllReadyH.cons rfl (fun K hK => ?_) AllReadyH.nil)
    · refine want (by rfl) ?_
      refine wpo_alloc30 rfl ?_
      intro y49 gg50 R51 eg hb52
      have hS53 := nextB hS47 hb52
      have hge54 : W.heap.size ≤ gg50 := by have := hS47.size; omega
      have ne56 : gg44 < gg50 := by have := R45.lt; omega
      have R55 := R45.below hb52 R45.lt
      clear eg
      refine hK.out _ _ hS53 (fun _ => ?_)
      clear hK K
      refine wpAnyH_ready (rs := [5]) (by kernel_rfl) (by simp) ?_
      refine AllReadyH.cons rfl (fun K hK => ?_) AllReadyH.nil
      refine want (by rfl) ?_
      refine wpo_alloc30 rfl ?_
      intro y57 gg58 R59 eg hb60
      have hS61 := nextB hS53 hb60
      have hge62 : W.heap.size ≤ gg58 := by have := hS53.size; omega
      have ne64 : gg50 < gg58 := by have := R51.lt; omega
      have R63 := R51.below hb60 R51.lt
      have ne66 : gg44 < gg58 := by have := R55.lt; omega
      have R65 := R55.below hb60 R55.lt
      clear eg
      refine hK.out _ _ hS61 (fun _ => ?_)
      clear hK K
      refine listed_eq (by kernel_rfl) (HJ (gg50, gg44, gg58) _ ⟨hS61, R63, R65, R59, (by dsimp only; omega), (by dsimp only; omega), (by dsimp only; omega), (by dsimp only; omega), (by dsimp only; omega), (by dsimp only; omega)⟩)
    · refine want (by rfl) ?_
      refine wpo_alloc30 rfl ?_
      intro y67 gg68 R69 eg hb70
      have hS71 := nextB hS47 hb70
      have hge72 : W.heap.size ≤ gg68 := by have := hS47.size; omega
      have ne74 : gg44 < gg68 := by have := R45.lt; omega
      have R73 := R45.below hb70 R45.lt
      clear eg
      refine hK.out _ _ hS71 (fun _ => ?_)
      clear hK K
      refine wpAnyH_ready (rs := [3]) (by kernel_rfl) (by simp) ?_
      refine AllReadyH.cons rfl (fun K hK => ?_) AllReadyH.nil
      refine want (by rfl) ?_
      refine wpo_alloc30 rfl ?_
      intro y75 gg76 R77 eg hb78
      have hS79 := nextB hS71 hb78
      have hge80 : W.heap.size ≤ gg76 := by have := hS71.size; omega
      have ne82 : gg44 < gg76 := by have := R73.lt; omega
      have R81 := R73.below hb78 R73.lt
      have ne84 : gg68 < gg76 := by have := R69.lt; omega
      have R83 := R69.below hb78 R69.lt
      clear eg
      refine hK.out _ _ hS79 (fun _ => ?_)
      clear hK K
      refine listed_eq (by kernel_rfl) (HJ (gg76, gg44, gg68) _ ⟨hS79, R77, R81, R83, (by dsimp only; omega), (by dsimp only; omega), (by dsimp only; omega), (by dsimp only; omega), (by dsimp only; omega), (by dsimp only; omega)⟩)
  · refine want (by rfl) ?_
    refine wpo_alloc30 rfl ?_
    intro y85 gg86 R87 eg hb88
    have hS89 := nextB hS0 hb88
    have hge90 : W.heap.size ≤ gg86 := by have := hS0.size; omega
    clear eg
    refine hK.out _ _ hS89 (fun _ => ?_)
    clear hK K
    refine wpAnyH_ready (rs := [3, 4]) (by kernel_rfl) (by simp) ?_
    refine AllReadyH.cons rfl (fun K hK => ?_) (AllReadyH.cons rfl (fun K hK => ?_) AllReadyH.nil)
    · refine want (by rfl) ?_
      refine wpo_alloc30 rfl ?_
      intro y91 gg92 R93 eg hb94
      have hS95 := nextB hS89 hb94
      have hge96 : W.heap.size ≤ gg92 := by have := hS89.size; omega
      have ne98 : gg86 < gg92 := by have := R87.lt; omega
      have R97 := R87.below hb94 R87.lt
      clear eg
      refine hK.out _ _ hS95 (fun _ => ?_)
      clear hK K
      refine wpAnyH_ready (rs := [4]) (by kernel_rfl) (by simp) ?_
      refine AllReadyH.cons rfl (fun K hK => ?_) AllReadyH.nil
      refine want (by rfl) ?_
      refine wpo_alloc30 rfl ?_
      intro y99 gg100 R101 eg hb102
      have hS103 := nextB hS95 hb102
      have hge104 : W.heap.size ≤ gg100 := by have := hS95.size; omega
      have ne106 : gg92 < gg100 := by have := R93.lt; omega
      have R105 := R93.below hb102 R93.lt
      have ne108 : gg86 < gg100 := by have := R97.lt; omega
      have R107 := R97.below hb102 R97.lt
      clear eg
      refine hK.out _ _ hS103 (fun _ => ?_)
      clear hK K
      refine listed_eq (by kernel_rfl) (HJ (gg92, gg100, gg86) _ ⟨hS103, R105, R101, R107, (by dsimp only; omega), (by dsimp only; omega), (by dsimp only; omega), (by dsimp only; omega), (by dsimp only; omega), (by dsimp only; omega)⟩)
    · refine want (by rfl) ?_
      refine wpo_alloc30 rfl ?_
      intro y109 gg110 R111 eg hb112
      have hS113 := nextB hS89 hb112
      have hge114 : W.heap.size ≤ gg110 := by have := hS89.size; omega
      have ne116 : gg86 < gg110 := by have := R87.lt; omega
      have R115 := R87.below hb112 R87.lt
      clear eg
      refine hK.out _ _ hS113 (fun _ => ?_)
      clear hK K
      refine wpAnyH_ready (rs := [3]) (by kernel_rfl) (by simp) ?_
      refine AllReadyH.cons rfl (fun K hK => ?_) AllReadyH.nil
      refine want (by rfl) ?_
      refine wpo_alloc30 rfl ?_
      intro y117 gg118 R119 eg hb120
      have hS121 := nextB hS113 hb120
      have hge122 : W.heap.size ≤ gg118 := by have := hS113.size; omega
      have ne124 : gg110 < gg118 := by have := R111.lt; omega
      have R123 := R111.below hb120 R111.lt
      have ne126 : gg86 < gg118 := by have := R115.lt; omega
      have R125 := R115.below hb120 R115.lt
      clear eg
      refine hK.out _ _ hS121 (fun _ => ?_)
      clear hK K
      refine listed_eq (by kernel_rfl) (HJ (gg118, gg110, gg86) _ ⟨hS121, R119, R123, R125, (by dsimp only; omega), (by dsimp only; omega), (by dsimp only; omega), (by dsimp only; omega), (by dsimp only; omega), (by dsimp only; omega)⟩)
  rintro ⟨g11, g12, g13⟩ y1 ⟨hS1, R11, R12, R13, n1, n2, n3, e1, e2, e3⟩
  simp only at R11 R12 R13 n1 n2 n3 e1 e2 e3 ⊢
  refine wpAnyH_ready (rs := [6]) (by kernel_rfl) (by simp) ?_
  refine AllReadyH.cons rfl (fun K hK => ?_) AllReadyH.nil
  refine want (by rfl) ?_
  refine wpo_store30 _ _ rfl W g11 _ _ _ (one3 i n ap l cpp) rfl rfl _ _ _ R11 W.heap.size hS1 (by assumption) ?_
  intro y127 R128 hS129 hw130
  have R131 : Row y127 g12 30 [.int .i64 0, .int .i64 0, .slice none 0 0] := by rw [hw130.out]; exact R12.setRow_other (by omega) _
  have R132 : Row y127 g13 30 [.int .i64 0, .int .i64 0, .slice none 0 0] := by rw [hw130.out]; exact R13.setRow_other (by omega) _
  clear hw130
  refine hK.out _ _ hS129 (fun _ => ?_)
  clear hK K
  refine wpAnyH_ready (rs := [7]) (by kernel_rfl) (by simp) ?_
  refine AllReadyH.cons rfl (fun K hK => ?_) AllReadyH.nil
  refine want (by rfl) ?_
  refine wpo_store30 _ _ rfl W g12 _ _ _ (one3 i n ap l cpp) rfl rfl _ _ _ R131 W.heap.size hS129 (by assumption) ?_
  intro y133 R134 hS135 hw136
  have R137 : Row y133 g11 30 [.int .i64 i, .int .i64 n, .slice ap l cpp] := by rw [hw136.out]; exact R128.setRow_other (by omega) _
  have R138 : Row y133 g13 30 [.int .i64 0, .int .i64 0, .slice none 0 0] := by rw [hw136.out]; exact R132.setRow_other (by omega) _
  clear hw136
  refine hK.out _ _ hS135 (fun _ => ?_)
  clear hK K
  refine wpAnyH_ready (rs := [8]) (by kernel_rfl) (by simp) ?_
  refine AllReadyH.cons rfl (fun K hK => ?_) AllReadyH.nil
  refine want (by rfl) ?_
  refine wpo_store30 _ _ rfl W g13 _ _ _ (one3 i n ap l cpp) rfl rfl _ _ _ R138 W.heap.size hS135 (by assumption) ?_
  intro y139 R140 hS141 hw142
  have R143 : Row y139 g11 30 [.int .i64 i, .int .i64 n, .slice ap l cpp] := by rw [hw142.out]; exact R137.setRow_other (by omega) _
  have R144 : Row y139 g12 30 [.int .i64 i, .int .i64 n, .slice ap l cpp] := by rw [hw142.out]; exact R134.setRow_other (by omega) _
  clear hw142
  refine hK.out _ _ hS141 (fun _ => ?_)
  clear hK K
  refine wpAnyH_done (by kernel_rfl) ?_ _
  exact ⟨rfl, g11, g12, g13, rfl, R143, R144, R140, n1, n2, n3, by omega, by omega, by omega, hQ _ hS141⟩
end Go.Proofs.Ytfkibbpekngciaa
