/-
  The last region of MerkleForms.
-/
import Derived.Test.YtfkibbpekngciaaJoinAp22xEx
namespace Go.Proofs.Ytfkibbpekngciaa
open Go.RowKit

theorem no_panic17 {c} (h : Exit.panic c = Exit.normal) : False := by cases h
set_option maxHeartbeats 16000000 in
set_option maxRecDepth 20000 in
theorem reg17_any (w : World) (b off nl cap k g5 g10 g11 g12 g13 lk ck : Nat) (ak : Option Addr) (r h : Bys) (hr : r.length = 32) (hh : h.length = 32) (a1 b1 a2 b2 a3 b3 : Value) (d1 d2 d3 : Option Addr) (e1 f1 e2 f2 e3 f3 : Nat) (hk : k < nl)
    (hc : w.cell? ⟨b, off + k, none⟩ = some (.slice ak lk ck)) (r5 : Row w g5 26 (bys h)) (r10 : Row w g10 26 (bys r)) (r11 : Row w g11 30 [a1, b1, .slice d1 e1 f1]) (r12 : Row w g12 30 [a2, b2, .slice d2 e2 f2]) (r13 : Row w g13 30 [a3, b3, .slice d3 e3 f3])
    (ct_ : ∀ y, Below w.heap.size w y → Calls Try.prog 10 #[] y fun ev y' => ev = .returned (.bool true) ∧ Below y.heap.size y y')
    (c11_ : ∀ y, Below w.heap.size w y → Calls Try.prog 17 #[.agg (bys r).toArray, .slice ak lk ck, .agg #[a1, b1, .slice d1 e1 f1]] y fun ev y' => ev = .returned (.bool false) ∧ Below y.heap.size y y') (c13_ : ∀ y, Below w.heap.size w y → Calls Try.prog 17 #[.agg (bys r).toArray, .slice ak lk ck, .agg #[a3, b3, .slice d3 e3 f3]] y fun ev y' => ev = .returned (.bool false) ∧ Below y.heap.size y y') (c12_ : ∀ y, Below w.heap.size w y → Calls Try.prog 17 #[.agg (bys r).toArray, .slice ak lk ck, .agg #[a2, b2, .slice d2 e2 f2]] y fun ev y' => ev = .returned (.bool false) ∧ Below y.heap.size y y') (c5_ : ∀ y, Below w.heap.size w y → Calls Try.prog 17 #[.agg (bys h).toArray, .slice ak lk ck, .agg #[.int .i64 (-1), .int .i64 1, .slice none 0 0]] y fun ev y' => ev = .returned (.bool false) ∧ Below y.heap.size y y')
    (c1 c2 c3 c4 c6 c8 c9 c14 c15 c16 c17 c18 c19 c20 c21 c22 c23 c24 c25 c26 c27 c28 c29 c30 c31 c32 c33 c34 c35 c36 c37 c38 c39 c40 c41 c42 c43 c44 c45 c46 c47 c48 c49 c50 c51 c52 c53 c54 c55 c56 c57 c58 c59 c60 c61 c62 c63 c64 c65 c66 c67 c68 c69 c70 c71 c72 c73 c74 c75 c76 c77 c78 c79 c80 c81 c82 c83 c84 c85 c86 c87 c88 c89 c90 c91 c92 c93 c94 c95 c96 c97 c98 c99 c100 c101 c102 c103 c104 c105 c106 c107 c108 c109 c110 c111 c112 c113 c114 c115 : Value) :
    (Code.region 17 #[{ dst := some 75, op := Op.call { callee := Callee.value (Operand.func 10), args := #[], argTypes := #[] }, type := 4, pos := "more.go:53", after := #[], guard := none }, { dst := some 76, op := Op.move (Operand.tmp 75), type := 4, pos := "more.go:53", after := #[{ on := 0, ground := Ground.data }, { on := 0, ground := Ground.chain }], guard := none }, { dst := some 77, op := Op.load 26 (Operand.tmp 10), type := 26, pos := "more.go:53", after := #[{ on := 1, ground := Ground.guard }], guard := some (1, true) }, { dst := some 78, op := Op.move (Operand.tmp 0), type := 22, pos := "more.go:53", after := #[{ on := 1, ground := Ground.guard }], guard := some (1, true) }, { dst := some 79, op := Op.move (Operand.tmp 7), type := 3, pos := "more.go:53", after := #[{ on := 1, ground := Ground.guard }], guard := some (1, true) }, { dst := some 80, op := Op.indexAddr 22 (Operand.tmp 78) (Operand.tmp 79), type := 0, pos := "more.go:53", after := #[{ on := 3, ground := Ground.data }, { on := 4, ground := Ground.data }, { on := 1, ground := Ground.guard }], guard := some (1, true) }, { dst := some 81, op := Op.load 39 (Operand.tmp 80), type := 39, pos := "more.go:53", after := #[{ on := 5, ground := Ground.data }, { on := 1, ground := Ground.guard }], guard := some (1, true) }, { dst := some 82, op := Op.load 30 (Operand.tmp 11), type := 30, pos := "more.go:53", after := #[{ on := 1, ground := Ground.guard }], guard := some (1, true) }, { dst := some 83, op := Op.call { callee := Callee.value (Operand.func 17), args := #[Operand.tmp 77, Operand.tmp 81, Operand.tmp 82], argTypes := #[26, 39, 30] }, type := 4, pos := "more.go:53", after := #[{ on := 2, ground := Ground.data }, { on := 6, ground := Ground.data }, { on := 7, ground := Ground.data }, { on := 1, ground := Ground.chain }, { on := 1, ground := Ground.guard }], guard := some (1, true) }, { dst := some 84, op := Op.unOp UnOp.not 4 (Operand.tmp 83), type := 4, pos := "more.go:53", after := #[{ on := 8, ground := Ground.data }, { on := 1, ground := Ground.guard }], guard := some (1, true) }, { dst := some 85, op := Op.pick (Operand.tmp 76) (Operand.tmp 84) (Operand.const (Value.bool false)), type := 4, pos := "more.go:53", after := #[{ on := 1, ground := Ground.data }, { on := 9, ground := Ground.data }], guard := none }, { dst := some 86, op := Op.move (Operand.tmp 85), type := 4, pos := "more.go:53", after := #[{ on := 10, ground := Ground.data }, { on := 8, ground := Ground.chain }], guard := none }, { dst := some 87, op := Op.load 26 (Operand.tmp 10), type := 26, pos := "more.go:53", after := #[{ on := 11, ground := Ground.guard }], guard := some (11, true) }, { dst := some 88, op := Op.move (Operand.tmp 0), type := 22, pos := "more.go:53", after := #[{ on := 11, ground := Ground.guard }], guard := some (11, true) }, { dst := some 89, op := Op.move (Operand.tmp 7), type := 3, pos := "more.go:53", after := #[{ on := 11, ground := Ground.guard }], guard := some (11, true) }, { dst := some 90, op := Op.indexAddr 22 (Operand.tmp 88) (Operand.tmp 89), type := 0, pos := "more.go:53", after := #[{ on := 13, ground := Ground.data }, { on := 14, ground := Ground.data }, { on := 11, ground := Ground.guard }], guard := some (11, true) }, { dst := some 91, op := Op.load 39 (Operand.tmp 90), type := 39, pos := "more.go:53", after := #[{ on := 15, ground := Ground.data }, { on := 11, ground := Ground.guard }], guard := some (11, true) }, { dst := some 92, op := Op.load 30 (Operand.tmp 13), type := 30, pos := "more.go:53", after := #[{ on := 11, ground := Ground.guard }], guard := some (11, true) }, { dst := some 93, op := Op.call { callee := Callee.value (Operand.func 17), args := #[Operand.tmp 87, Operand.tmp 91, Operand.tmp 92], argTypes := #[26, 39, 30] }, type := 4, pos := "more.go:53", after := #[{ on := 12, ground := Ground.data }, { on := 16, ground := Ground.data }, { on := 17, ground := Ground.data }, { on := 11, ground := Ground.chain }, { on := 11, ground := Ground.guard }], guard := some (11, true) }, { dst := some 94, op := Op.unOp UnOp.not 4 (Operand.tmp 93), type := 4, pos := "more.go:53", after := #[{ on := 18, ground := Ground.data }, { on := 11, ground := Ground.guard }], guard := some (11, true) }, { dst := some 95, op := Op.pick (Operand.tmp 86) (Operand.tmp 94) (Operand.const (Value.bool false)), type := 4, pos := "more.go:53", after := #[{ on := 11, ground := Ground.data }, { on := 19, ground := Ground.data }], guard := none }, { dst := some 96, op := Op.move (Operand.tmp 95), type := 4, pos := "more.go:53", after := #[{ on := 20, ground := Ground.data }, { on := 18, ground := Ground.chain }], guard := none }, { dst := some 97, op := Op.load 26 (Operand.tmp 10), type := 26, pos := "more.go:53", after := #[{ on := 21, ground := Ground.guard }], guard := some (21, true) }, { dst := some 98, op := Op.move (Operand.tmp 0), type := 22, pos := "more.go:53", after := #[{ on := 21, ground := Ground.guard }], guard := some (21, true) }, { dst := some 99, op := Op.move (Operand.tmp 7), type := 3, pos := "more.go:53", after := #[{ on := 21, ground := Ground.guard }], guard := some (21, true) }, { dst := some 100, op := Op.indexAddr 22 (Operand.tmp 98) (Operand.tmp 99), type := 0, pos := "more.go:53", after := #[{ on := 23, ground := Ground.data }, { on := 24, ground := Ground.data }, { on := 21, ground := Ground.guard }], guard := some (21, true) }, { dst := some 101, op := Op.load 39 (Operand.tmp 100), type := 39, pos := "more.go:53", after := #[{ on := 25, ground := Ground.data }, { on := 21, ground := Ground.guard }], guard := some (21, true) }, { dst := some 102, op := Op.load 30 (Operand.tmp 12), type := 30, pos := "more.go:53", after := #[{ on := 21, ground := Ground.guard }], guard := some (21, true) }, { dst := some 103, op := Op.call { callee := Callee.value (Operand.func 17), args := #[Operand.tmp 97, Operand.tmp 101, Operand.tmp 102], argTypes := #[26, 39, 30] }, type := 4, pos := "more.go:53", after := #[{ on := 22, ground := Ground.data }, { on := 26, ground := Ground.data }, { on := 27, ground := Ground.data }, { on := 21, ground := Ground.chain }, { on := 21, ground := Ground.guard }], guard := some (21, true) }, { dst := some 104, op := Op.unOp UnOp.not 4 (Operand.tmp 103), type := 4, pos := "more.go:53", after := #[{ on := 28, ground := Ground.data }, { on := 21, ground := Ground.guard }], guard := some (21, true) }, { dst := some 105, op := Op.pick (Operand.tmp 96) (Operand.tmp 104) (Operand.const (Value.bool false)), type := 4, pos := "more.go:53", after := #[{ on := 21, ground := Ground.data }, { on := 29, ground := Ground.data }], guard := none }, { dst := some 106, op := Op.move (Operand.tmp 105), type := 4, pos := "more.go:53", after := #[{ on := 30, ground := Ground.data }, { on := 28, ground := Ground.chain }], guard := none }, { dst := some 107, op := Op.load 26 (Operand.tmp 5), type := 26, pos := "more.go:53", after := #[{ on := 31, ground := Ground.guard }], guard := some (31, true) }, { dst := some 108, op := Op.move (Operand.tmp 0), type := 22, pos := "more.go:53", after := #[{ on := 31, ground := Ground.guard }], guard := some (31, true) }, { dst := some 109, op := Op.move (Operand.tmp 7), type := 3, pos := "more.go:53", after := #[{ on := 31, ground := Ground.guard }], guard := some (31, true) }, { dst := some 110, op := Op.indexAddr 22 (Operand.tmp 108) (Operand.tmp 109), type := 0, pos := "more.go:53", after := #[{ on := 33, ground := Ground.data }, { on := 34, ground := Ground.data }, { on := 31, ground := Ground.guard }], guard := some (31, true) }, { dst := some 111, op := Op.load 39 (Operand.tmp 110), type := 39, pos := "more.go:53", after := #[{ on := 35, ground := Ground.data }, { on := 31, ground := Ground.guard }], guard := some (31, true) }, { dst := some 112, op := Op.build 30 #[(0, Operand.const (Value.int IntKind.i64 (-1))), (1, Operand.const (Value.int IntKind.i64 1))], type := 30, pos := "more.go:53", after := #[{ on := 31, ground := Ground.guard }], guard := some (31, true) }, { dst := some 113, op := Op.call { callee := Callee.value (Operand.func 17), args := #[Operand.tmp 107, Operand.tmp 111, Operand.tmp 112], argTypes := #[26, 39, 30] }, type := 4, pos := "more.go:53", after := #[{ on := 32, ground := Ground.data }, { on := 36, ground := Ground.data }, { on := 37, ground := Ground.data }, { on := 31, ground := Ground.chain }, { on := 31, ground := Ground.guard }], guard := some (31, true) }, { dst := some 114, op := Op.unOp UnOp.not 4 (Operand.tmp 113), type := 4, pos := "more.go:53", after := #[{ on := 38, ground := Ground.data }, { on := 31, ground := Ground.guard }], guard := some (31, true) }, { dst := some 115, op := Op.pick (Operand.tmp 106) (Operand.tmp 114) (Operand.const (Value.bool false)), type := 4, pos := "more.go:53", after := #[{ on := 31, ground := Ground.data }, { on := 39, ground := Ground.data }], guard := none }, { dst := some 6, op := Op.assign (Operand.tmp 115), type := 4, pos := "more.go:53", after := #[{ on := 40, ground := Ground.data }, { on := 38, ground := Ground.chain }, { on := 0, ground := Ground.phase }, { on := 1, ground := Ground.phase }, { on := 2, ground := Ground.phase }, { on := 3, ground := Ground.phase }, { on := 4, ground := Ground.phase }, { on := 5, ground := Ground.phase }, { on := 6, ground := Ground.phase }, { on := 7, ground := Ground.phase }, { on := 8, ground := Ground.phase }, { on := 9, ground := Ground.phase }, { on := 10, ground := Ground.phase }, { on := 11, ground := Ground.phase }, { on := 12, ground := Ground.phase }, { on := 13, ground := Ground.phase }, { on := 14, ground := Ground.phase }, { on := 15, ground := Ground.phase }, { on := 16, ground := Ground.phase }, { on := 17, ground := Ground.phase }, { on := 18, ground := Ground.phase }, { on := 19, ground := Ground.phase }, { on := 20, ground := Ground.phase }, { on := 21, ground := Ground.phase }, { on := 22, ground := Ground.phase }, { on := 23, ground := Ground.phase }, { on := 24, ground := Ground.phase }, { on := 25, ground := Ground.phase }, { on := 26, ground := Ground.phase }, { on := 27, ground := Ground.phase }, { on := 28, ground := Ground.phase }, { on := 29, ground := Ground.phase }, { on := 30, ground := Ground.phase }, { on := 31, ground := Ground.phase }, { on := 32, ground := Ground.phase }, { on := 33, ground := Ground.phase }, { on := 34, ground := Ground.phase }, { on := 35, ground := Ground.phase }, { on := 36, ground := Ground.phase }, { on := 37, ground := Ground.phase }, { on := 38, ground := Ground.phase }, { on := 39, ground := Ground.phase }, { on := 40, ground := Ground.phase }], guard := none }] true).wp Try.prog (fun e a' w' => e = .normal ∧ a'.defers = [] ∧ a'.tmps.getD 6 undef = .bool true ∧ Below w.heap.size w w') ⟨#[.slice (some ⟨b, off, none⟩) nl cap, c1, c2, c3, c4, .pointer (some ⟨g5, 0, none⟩), c6, .int .i64 (k : Int), c8, c9, .pointer (some ⟨g10, 0, none⟩), .pointer (some ⟨g11, 0, none⟩), .pointer (some ⟨g12, 0, none⟩), .pointer (some ⟨g13, 0, none⟩), c14, c15, c16, c17, c18, c19, c20, c21, c22, c23, c24, c25, c26, c27, c28, c29, c30, c31, c32, c33, c34, c35, c36, c37, c38, c39, c40, c41, c42, c43, c44, c45, c46, c47, c48, c49, c50, c51, c52, c53, c54, c55, c56, c57, c58, c59, c60, c61, c62, c63, c64, c65, c66, c67, c68, c69, c70, c71, c72, c73, c74, c75, c76, c77, c78, c79, c80, c81, c82, c83, c84, c85, c86, c87, c88, c89, c90, c91, c92, c93, c94, c95, c96, c97, c98, c99, c100, c101, c102, c103, c104, c105, c106, c107, c108, c109, c110, c111, c112, c113, c114, c115], []⟩ w := by
  obtain ⟨W, hW⟩ : ∃ W, W = w.drew := ⟨_, rfl⟩
  have hw0 : Below w.heap.size w W := by rw [hW]; exact (Below.refl _ _).drew
  have hQ : ∀ y, Below W.heap.size W y → Below w.heap.size w y := fun y hy => nextB hw0 hy
  have HC : Hid (∀ y, Below W.heap.size W y → y.cell? ⟨b, off + k, none⟩ = some (.slice ak lk ck)) := fun y hy => ((hQ y hy).cell (p := ⟨b, off + k, none⟩) (World.block_lt_of_cell? w _ hc)).trans hc
  have H5 : Hid (∀ y, Below W.heap.size W y → y.rangeAt g5 0 (bys h)) := fun y hy => (r5.below (hQ y hy) r5.lt).range
  have H10 : Hid (∀ y, Below W.heap.size W y → y.rangeAt g10 0 (bys r)) := fun y hy => (r10.below (hQ y hy) r10.lt).range
  have H11 : Hid (∀ y, Below W.heap.size W y → y.rangeAt g11 0 [a1, b1, .slice d1 e1 f1]) := fun y hy => (r11.below (hQ y hy) r11.lt).range
  have H12 : Hid (∀ y, Below W.heap.size W y → y.rangeAt g12 0 [a2, b2, .slice d2 e2 f2]) := fun y hy => (r12.below (hQ y hy) r12.lt).range
  have H13 : Hid (∀ y, Below W.heap.size W y → y.rangeAt g13 0 [a3, b3, .slice d3 e3 f3]) := fun y hy => (r13.below (hQ y hy) r13.lt).range
  have CT : Hid (∀ y, Below W.heap.size W y → _) := fun y hy => ct_ y (hQ y hy)
  have C11 : Hid (∀ y, Below W.heap.size W y → _) := fun y hy => c11_ y (hQ y hy)
  have C12 : Hid (∀ y, Below W.heap.size W y → _) := fun y hy => c12_ y (hQ y hy)
  have C13 : Hid (∀ y, Below W.heap.size W y → _) := fun y hy => c13_ y (hQ y hy)
  have C5 : Hid (∀ y, Below W.heap.size W y → _) := fun y hy => c5_ y (hQ y hy)
  have hi10 := info26L r hr
  have hi5 := info26L h hh
  have k1 : (0 : Int) ≤ (k : Int) := by omega
  have k2 : (k : Int) < (nl : Int) := by omega
  clear hc r5 r10 r11 r12 r13 ct_ c11_ c12_ c13_ c5_ hw0
  refine wp_region_held_drew (S := fun y => Below W.heap.size W y) (by kernel_rfl) (by rw [← hW]; exact Below.refl _ _) (fun hS0 => ?_)
  rw [← hW] at hS0 ⊢
  clear hW
  refine wpAnyH_ready (rs := [0]) (by kernel_rfl) (by simp) ?_
  refine AllReadyH.cons rfl (fun K hK => ?_) AllReadyH.nil
  go_simp
  refine (CT.out _ hS0).mono ?_
  rintro ev_ y1 ⟨rfl, hb2⟩
  have hS3 := nextB hS0 hb2
  refine hK.out _ _ hS3 (fun _ => ?_)
  clear hK K
  refine take_in 1 (v := ?vp4) rfl (some 76) rfl (by kernel_rfl) (by kernel_rfl) (by kernel_rfl) (fun _ _ _ h => (no_panic17 h.1).elim) (Or.inl ⟨by rfl, ?hp4⟩) hS3 ?rp4
  case hp4 => (intro y hy; go_simp; with_reducible rfl)
  simp only [Act.put, List.setIfInBounds_toArray, List.set_cons_zero, List.set_cons_succ]
  refine take_in 2 (v := .agg (bys r).toArray) rfl (some 77) rfl (by kernel_rfl) (by kernel_rfl) (by kernel_rfl) (fun _ _ _ h => (no_panic17 h.1).elim) (yieldsIf_load_mid (by rfl) 26 _ rfl g10 0 rfl (bys r) _ (fun y hy => H10.out y hy) Try.underlying26 rfl hi10) hS3 ?_
  simp only [Act.put, List.setIfInBounds_toArray, List.set_cons_zero, List.set_cons_succ]
  refine take_in 3 (v := ?vp6) rfl (some 78) rfl (by kernel_rfl) (by kernel_rfl) (by kernel_rfl) (fun _ _ _ h => (no_panic17 h.1).elim) (Or.inl ⟨by rfl, ?hp6⟩) hS3 ?rp6
  case hp6 => (intro y hy; go_simp; with_reducible rfl)
  simp only [Act.put, List.setIfInBounds_toArray, List.set_cons_zero, List.set_cons_succ]
  refine take_in 4 (v := ?vp7) rfl (some 79) rfl (by kernel_rfl) (by kernel_rfl) (by kernel_rfl) (fun _ _ _ h => (no_panic17 h.1).elim) (Or.inl ⟨by rfl, ?hp7⟩) hS3 ?rp7
  case hp7 => (intro y hy; go_simp; with_reducible rfl)
  simp only [Act.put, List.setIfInBounds_toArray, List.set_cons_zero, List.set_cons_succ]
  refine take_in 5 (v := ?vp8) rfl (some 80) rfl (by kernel_rfl) (by kernel_rfl) (by kernel_rfl) (fun _ _ _ h => (no_panic17 h.1).elim) (Or.inl ⟨by rfl, ?hp8⟩) hS3 ?rp8
  case hp8 => (intro y hy; go_simp; with_reducible rfl)
  simp only [Act.put, List.setIfInBounds_toArray, List.set_cons_zero, List.set_cons_succ]
  refine take_in 6 (v := ?vp9) rfl (some 81) rfl (by kernel_rfl) (by kernel_rfl) (by kernel_rfl) (fun _ _ _ h => (no_panic17 h.1).elim) (Or.inl ⟨by rfl, ?hp9⟩) hS3 ?rp9
  case hp9 => (intro y hy; have c1 := HC.out y hy; go_simp; with_reducible rfl)
  simp only [Act.put, List.setIfInBounds_toArray, List.set_cons_zero, List.set_cons_succ]
  refine take_in 7 (v := .agg #[a1, b1, .slice d1 e1 f1]) rfl (some 82) rfl (by kernel_rfl) (by kernel_rfl) (by kernel_rfl) (fun _ _ _ h => (no_panic17 h.1).elim) (yieldsIf_load_mid (by rfl) 30 _ rfl g11 0 rfl [a1, b1, .slice d1 e1 f1] _ (fun y hy => H11.out y hy) Try.underlying30 rfl Try.info30) hS3 ?_
  simp only [Act.put, List.setIfInBounds_toArray, List.set_cons_zero, List.set_cons_succ]
  refine wpAnyH_ready (rs := [8]) (by kernel_rfl) (by simp) ?_
  refine AllReadyH.cons rfl (fun K hK => ?_) AllReadyH.nil
  go_simp
  refine (C11.out _ hS3).mono ?_
  rintro ev_ y11 ⟨rfl, hb12⟩
  have hS13 := nextB hS3 hb12
  refine hK.out _ _ hS13 (fun _ => ?_)
  clear hK K
  refine take_in 9 (v := ?vp14) rfl (some 84) rfl (by kernel_rfl) (by kernel_rfl) (by kernel_rfl) (fun _ _ _ h => (no_panic17 h.1).elim) (Or.inl ⟨by rfl, ?hp14⟩) hS13 ?rp14
  case hp14 => (intro y hy; go_simp; with_reducible rfl)
  simp only [Act.put, List.setIfInBounds_toArray, List.set_cons_zero, List.set_cons_succ]
  refine take_in 10 (v := ?vp15) rfl (some 85) rfl (by kernel_rfl) (by kernel_rfl) (by kernel_rfl) (fun _ _ _ h => (no_panic17 h.1).elim) (Or.inl ⟨by rfl, ?hp15⟩) hS13 ?rp15
  case hp15 => (intro y hy; go_simp; with_reducible rfl)
  simp only [Act.put, List.setIfInBounds_toArray, List.set_cons_zero, List.set_cons_succ]
  refine take_in 11 (v := ?vp16) rfl (some 86) rfl (by kernel_rfl) (by kernel_rfl) (by kernel_rfl) (fun _ _ _ h => (no_panic17 h.1).elim) (Or.inl ⟨by rfl, ?hp16⟩) hS13 ?rp16
  case hp16 => (intro y hy; go_simp; with_reducible rfl)
  simp only [Act.put, List.setIfInBounds_toArray, List.set_cons_zero, List.set_cons_succ]
  refine take_in 12 (v := .agg (bys r).toArray) rfl (some 87) rfl (by kernel_rfl) (by kernel_rfl) (by kernel_rfl) (fun _ _ _ h => (no_panic17 h.1).elim) (yieldsIf_load_mid (by rfl) 26 _ rfl g10 0 rfl (bys r) _ (fun y hy => H10.out y hy) Try.underlying26 rfl hi10) hS13 ?_
  simp only [Act.put, List.setIfInBounds_toArray, List.set_cons_zero, List.set_cons_succ]
  refine take_in 13 (v := ?vp18) rfl (some 88) rfl (by kernel_rfl) (by kernel_rfl) (by kernel_rfl) (fun _ _ _ h => (no_panic17 h.1).elim) (Or.inl ⟨by rfl, ?hp18⟩) hS13 ?rp18
  case hp18 => (intro y hy; go_simp; with_reducible rfl)
  simp only [Act.put, List.setIfInBounds_toArray, List.set_cons_zero, List.set_cons_succ]
  refine take_in 14 (v := ?vp19) rfl (some 89) rfl (by kernel_rfl) (by kernel_rfl) (by kernel_rfl) (fun _ _ _ h => (no_panic17 h.1).elim) (Or.inl ⟨by rfl, ?hp19⟩) hS13 ?rp19
  case hp19 => (intro y hy; go_simp; with_reducible rfl)
  simp only [Act.put, List.setIfInBounds_toArray, List.set_cons_zero, List.set_cons_succ]
  refine take_in 15 (v := ?vp20) rfl (some 90) rfl (by kernel_rfl) (by kernel_rfl) (by kernel_rfl) (fun _ _ _ h => (no_panic17 h.1).elim) (Or.inl ⟨by rfl, ?hp20⟩) hS13 ?rp20
  case hp20 => (intro y hy; go_simp; with_reducible rfl)
  simp only [Act.put, List.setIfInBounds_toArray, List.set_cons_zero, List.set_cons_succ]
  refine take_in 16 (v := ?vp21) rfl (some 91) rfl (by kernel_rfl) (by kernel_rfl) (by kernel_rfl) (fun _ _ _ h => (no_panic17 h.1).elim) (Or.inl ⟨by rfl, ?hp21⟩) hS13 ?rp21
  case hp21 => (intro y hy; have c1 := HC.out y hy; go_simp; with_reducible rfl)
  simp only [Act.put, List.setIfInBounds_toArray, List.set_cons_zero, List.set_cons_succ]
  refine take_in 17 (v := .agg #[a3, b3, .slice d3 e3 f3]) rfl (some 92) rfl (by kernel_rfl) (by kernel_rfl) (by kernel_rfl) (fun _ _ _ h => (no_panic17 h.1).elim) (yieldsIf_load_mid (by rfl) 30 _ rfl g13 0 rfl [a3, b3, .slice d3 e3 f3] _ (fun y hy => H13.out y hy) Try.underlying30 rfl Try.info30) hS13 ?_
  simp only [Act.put, List.setIfInBounds_toArray, List.set_cons_zero, List.set_cons_succ]
  refine wpAnyH_ready (rs := [18]) (by kernel_rfl) (by simp) ?_
  refine AllReadyH.cons rfl (fun K hK => ?_) AllReadyH.nil
  go_simp
  refine (C13.out _ hS13).mono ?_
  rintro ev_ y23 ⟨rfl, hb24⟩
  have hS25 := nextB hS13 hb24
  refine hK.out _ _ hS25 (fun _ => ?_)
  clear hK K
  refine take_in 19 (v := ?vp26) rfl (some 94) rfl (by kernel_rfl) (by kernel_rfl) (by kernel_rfl) (fun _ _ _ h => (no_panic17 h.1).elim) (Or.inl ⟨by rfl, ?hp26⟩) hS25 ?rp26
  case hp26 => (intro y hy; go_simp; with_reducible rfl)
  simp only [Act.put, List.setIfInBounds_toArray, List.set_cons_zero, List.set_cons_succ]
  refine take_in 20 (v := ?vp27) rfl (some 95) rfl (by kernel_rfl) (by kernel_rfl) (by kernel_rfl) (fun _ _ _ h => (no_panic17 h.1).elim) (Or.inl ⟨by rfl, ?hp27⟩) hS25 ?rp27
  case hp27 => (intro y hy; go_simp; with_reducible rfl)
  simp only [Act.put, List.setIfInBounds_toArray, List.set_cons_zero, List.set_cons_succ]
  refine take_in 21 (v := ?vp28) rfl (some 96) rfl (by kernel_rfl) (by kernel_rfl) (by kernel_rfl) (fun _ _ _ h => (no_panic17 h.1).elim) (Or.inl ⟨by rfl, ?hp28⟩) hS25 ?rp28
  case hp28 => (intro y hy; go_simp; with_reducible rfl)
  simp only [Act.put, List.setIfInBounds_toArray, List.set_cons_zero, List.set_cons_succ]
  refine take_in 22 (v := .agg (bys r).toArray) rfl (some 97) rfl (by kernel_rfl) (by kernel_rfl) (by kernel_rfl) (fun _ _ _ h => (no_panic17 h.1).elim) (yieldsIf_load_mid (by rfl) 26 _ rfl g10 0 rfl (bys r) _ (fun y hy => H10.out y hy) Try.underlying26 rfl hi10) hS25 ?_
  simp only [Act.put, List.setIfInBounds_toArray, List.set_cons_zero, List.set_cons_succ]
  refine take_in 23 (v := ?vp30) rfl (some 98) rfl (by kernel_rfl) (by kernel_rfl) (by kernel_rfl) (fun _ _ _ h => (no_panic17 h.1).elim) (Or.inl ⟨by rfl, ?hp30⟩) hS25 ?rp30
  case hp30 => (intro y hy; go_simp; with_reducible rfl)
  simp only [Act.put, List.setIfInBounds_toArray, List.set_cons_zero, List.set_cons_succ]
  refine take_in 24 (v := ?vp31) rfl (some 99) rfl (by kernel_rfl) (by kernel_rfl) (by kernel_rfl) (fun _ _ _ h => (no_panic17 h.1).elim) (Or.inl ⟨by rfl, ?hp31⟩) hS25 ?rp31
  case hp31 => (intro y hy; go_simp; with_reducible rfl)
  simp only [Act.put, List.setIfInBounds_toArray, List.set_cons_zero, List.set_cons_succ]
  refine take_in 25 (v := ?vp32) rfl (some 100) rfl (by kernel_rfl) (by kernel_rfl) (by kernel_rfl) (fun _ _ _ h => (no_panic17 h.1).elim) (Or.inl ⟨by rfl, ?hp32⟩) hS25 ?rp32
  case hp32 => (intro y hy; go_simp; with_reducible rfl)
  simp only [Act.put, List.setIfInBounds_toArray, List.set_cons_zero, List.set_cons_succ]
  refine take_in 26 (v := ?vp33) rfl (some 101) rfl (by kernel_rfl) (by kernel_rfl) (by kernel_rfl) (fun _ _ _ h => (no_panic17 h.1).elim) (Or.inl ⟨by rfl, ?hp33⟩) hS25 ?rp33
  case hp33 => (intro y hy; have c1 := HC.out y hy; go_simp; with_reducible rfl)
  simp only [Act.put, List.setIfInBounds_toArray, List.set_cons_zero, List.set_cons_succ]
  refine take_in 27 (v := .agg #[a2, b2, .slice d2 e2 f2]) rfl (some 102) rfl (by kernel_rfl) (by kernel_rfl) (by kernel_rfl) (fun _ _ _ h => (no_panic17 h.1).elim) (yieldsIf_load_mid (by rfl) 30 _ rfl g12 0 rfl [a2, b2, .slice d2 e2 f2] _ (fun y hy => H12.out y hy) Try.underlying30 rfl Try.info30) hS25 ?_
  simp only [Act.put, List.setIfInBounds_toArray, List.set_cons_zero, List.set_cons_succ]
  refine wpAnyH_ready (rs := [28]) (by kernel_rfl) (by simp) ?_
  refine AllReadyH.cons rfl (fun K hK => ?_) AllReadyH.nil
  go_simp
  refine (C12.out _ hS25).mono ?_
  rintro ev_ y35 ⟨rfl, hb36⟩
  have hS37 := nextB hS25 hb36
  refine hK.out _ _ hS37 (fun _ => ?_)
  clear hK K
  refine take_in 29 (v := ?vp38) rfl (some 104) rfl (by kernel_rfl) (by kernel_rfl) (by kernel_rfl) (fun _ _ _ h => (no_panic17 h.1).elim) (Or.inl ⟨by rfl, ?hp38⟩) hS37 ?rp38
  case hp38 => (intro y hy; go_simp; with_reducible rfl)
  simp only [Act.put, List.setIfInBounds_toArray, List.set_cons_zero, List.set_cons_succ]
  refine take_in 30 (v := ?vp39) rfl (some 105) rfl (by kernel_rfl) (by kernel_rfl) (by kernel_rfl) (fun _ _ _ h => (no_panic17 h.1).elim) (Or.inl ⟨by rfl, ?hp39⟩) hS37 ?rp39
  case hp39 => (intro y hy; go_simp; with_reducible rfl)
  simp only [Act.put, List.setIfInBounds_toArray, List.set_cons_zero, List.set_cons_succ]
  refine take_in 31 (v := ?vp40) rfl (some 106) rfl (by kernel_rfl) (by kernel_rfl) (by kernel_rfl) (fun _ _ _ h => (no_panic17 h.1).elim) (Or.inl ⟨by rfl, ?hp40⟩) hS37 ?rp40
  case hp40 => (intro y hy; go_simp; with_reducible rfl)
  simp only [Act.put, List.setIfInBounds_toArray, List.set_cons_zero, List.set_cons_succ]
  refine take_in 32 (v := .agg (bys h).toArray) rfl (some 107) rfl (by kernel_rfl) (by kernel_rfl) (by kernel_rfl) (fun _ _ _ h => (no_panic17 h.1).elim) (yieldsIf_load_mid (by rfl) 26 _ rfl g5 0 rfl (bys h) _ (fun y hy => H5.out y hy) Try.underlying26 rfl hi5) hS37 ?_
  simp only [Act.put, List.setIfInBounds_toArray, List.set_cons_zero, List.set_cons_succ]
  refine take_in 33 (v := ?vp42) rfl (some 108) rfl (by kernel_rfl) (by kernel_rfl) (by kernel_rfl) (fun _ _ _ h => (no_panic17 h.1).elim) (Or.inl ⟨by rfl, ?hp42⟩) hS37 ?rp42
  case hp42 => (intro y hy; go_simp; with_reducible rfl)
  simp only [Act.put, List.setIfInBounds_toArray, List.set_cons_zero, List.set_cons_succ]
  refine take_in 34 (v := ?vp43) rfl (some 109) rfl (by kernel_rfl) (by kernel_rfl) (by kernel_rfl) (fun _ _ _ h => (no_panic17 h.1).elim) (Or.inl ⟨by rfl, ?hp43⟩) hS37 ?rp43
  case hp43 => (intro y hy; go_simp; with_reducible rfl)
  simp only [Act.put, List.setIfInBounds_toArray, List.set_cons_zero, List.set_cons_succ]
  refine take_in 35 (v := ?vp44) rfl (some 110) rfl (by kernel_rfl) (by kernel_rfl) (by kernel_rfl) (fun _ _ _ h => (no_panic17 h.1).elim) (Or.inl ⟨by rfl, ?hp44⟩) hS37 ?rp44
  case hp44 => (intro y hy; go_simp; with_reducible rfl)
  simp only [Act.put, List.setIfInBounds_toArray, List.set_cons_zero, List.set_cons_succ]
  refine take_in 36 (v := ?vp45) rfl (some 111) rfl (by kernel_rfl) (by kernel_rfl) (by kernel_rfl) (fun _ _ _ h => (no_panic17 h.1).elim) (Or.inl ⟨by rfl, ?hp45⟩) hS37 ?rp45
  case hp45 => (intro y hy; have c1 := HC.out y hy; go_simp; with_reducible rfl)
  simp only [Act.put, List.setIfInBounds_toArray, List.set_cons_zero, List.set_cons_succ]
  refine take_in 37 (v := ?vp46) rfl (some 112) rfl (by kernel_rfl) (by kernel_rfl) (by kernel_rfl) (fun _ _ _ h => (no_panic17 h.1).elim) (Or.inl ⟨by rfl, ?hp46⟩) hS37 ?rp46
  case hp46 => (intro y hy; go_simp; with_reducible rfl)
  simp only [Act.put, List.setIfInBounds_toArray, List.set_cons_zero, List.set_cons_succ]
  refine wpAnyH_ready (rs := [38]) (by kernel_rfl) (by simp) ?_
  refine AllReadyH.cons rfl (fun K hK => ?_) AllReadyH.nil
  go_simp
  refine (C5.out _ hS37).mono ?_
  rintro ev_ y47 ⟨rfl, hb48⟩
  have hS49 := nextB hS37 hb48
  refine hK.out _ _ hS49 (fun _ => ?_)
  clear hK K
  refine take_in 39 (v := ?vp50) rfl (some 114) rfl (by kernel_rfl) (by kernel_rfl) (by kernel_rfl) (fun _ _ _ h => (no_panic17 h.1).elim) (Or.inl ⟨by rfl, ?hp50⟩) hS49 ?rp50
  case hp50 => (intro y hy; go_simp; with_reducible rfl)
  simp only [Act.put, List.setIfInBounds_toArray, List.set_cons_zero, List.set_cons_succ]
  refine take_in 40 (v := ?vp51) rfl (some 115) rfl (by kernel_rfl) (by kernel_rfl) (by kernel_rfl) (fun _ _ _ h => (no_panic17 h.1).elim) (Or.inl ⟨by rfl, ?hp51⟩) hS49 ?rp51
  case hp51 => (intro y hy; go_simp; with_reducible rfl)
  simp only [Act.put, List.setIfInBounds_toArray, List.set_cons_zero, List.set_cons_succ]
  refine take_in 41 (v := ?vp52) rfl (some 6) rfl (by kernel_rfl) (by kernel_rfl) (by kernel_rfl) (fun _ _ _ h => (no_panic17 h.1).elim) (Or.inl ⟨by rfl, ?hp52⟩) hS49 ?rp52
  case hp52 => (intro y hy; go_simp; with_reducible rfl)
  simp only [Act.put, List.setIfInBounds_toArray, List.set_cons_zero, List.set_cons_succ]
  refine wpAnyH_done (by kernel_rfl) ?_ _
  exact ⟨rfl, rfl, rfl, hQ _ hS49⟩
end Go.Proofs.Ytfkibbpekngciaa
