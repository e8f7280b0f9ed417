/-
  The region of textsBy in which a node's sides are laid.
-/
import Derived.Test.YtfkibbpekngciaaJoinLas2xPr
import Derived.Test.YtfkibbpekngciaaQPrXcm
namespace Go.Proofs.Ytfkibbpekngciaa
open Go.RowKit

theorem no_panic {c} (h : Exit.panic c = Exit.normal) : False := by cases h
theorem wpo_alloc26 {o : Oper} {a : Act} {K : Act → World → Prop} {Q : Exit → Act → World → Prop} {w : World} (ho : o.op = .alloc 26)
    (h : ∀ y g, Row y g 26 (bys zero32) → g = w.heap.size → Below w.heap.size w y → K (a.put o.dst (.pointer (some ⟨g, 0, none⟩))) y) : Oper.wp Try.prog o a w K Q := by
  have := h (w.alloc (.cells (bys zero32).toArray 26)) w.heap.size (Row.new w 26 _) rfl ((Below.refl _ _).alloc (Nat.le_refl _) _)
  obtain ⟨i0, hi, hz0, hz1, hz2⟩ := info_parts Try.info26z
  unfold Oper.wp execOp
  simp [ho, go_sem, Instr.alloc, zeroValue, typeInfo, hi, hz0]
  exact this
theorem wpo_store26 {o : Oper} {a : Act} {K : Act → World → Prop} {Q : Exit → Act → World → Prop} {w : World} (x y : Operand) (ho : o.op = .store 26 x y) (w0 : World) (g : Nat) (h : Bys) (hl : h.length = 32)
    (hx : a.eval x = .pointer (some ⟨g, 0, none⟩)) (hy : a.eval y = .agg (bys h).toArray) (old : Bys) (hol : old.length = 32) (hr : Row w g 26 (bys old)) (B : Nat) (hb : Below B w0 w) (hB : B ≤ g)
    (k : ∀ w', Row w' g 26 (bys h) → Below B w0 w' → Hid (w' = w.setRow g (bys h).toArray) → K (a.put o.dst undef) w') : Oper.wp Try.prog o a w K Q := by
  refine wp_store_row 26 x y ho g (bys h).toArray hx hy 26 (bys old).toArray hr.heap (size26 h hl) (by simp [bys_len, hl, hol]) (all_one (bys_one h)) ?_
  exact k _ ⟨setRow_heap w g _ _ 26 _ hr.heap⟩ (below_setRow hb hB _) rfl
set_option maxHeartbeats 8000000 in
set_option maxRecDepth 20000 in
theorem reg12_any (F : Bys → Bys) (E : Env F) (w : World) (gt nT capT k g11 m cp : Nat) (ao : Option Addr) (T p : Bys) (hp : p.length = 32) (hk : k < nT) (hc : w.cell? ⟨gt, k, none⟩ = some (.slice ao m cp)) (hT : Sl w (.slice ao m cp) T) (hTl : T.length ≤ 1000000) (hr : Row w g11 26 (bys p))
    (c1 c2 c3 c4 c5 c6 c7 c8 c12 c13 c14 c15 c16 c17 c18 c19 c20 c21 c22 c23 c24 c25 c26 c27 c28 c29 c30 c31 c32 c33 c34 c35 c36 c37 c38 c39 c40 c41 c42 c43 c44 c45 c46 c47 c48 c49 c50 c51 c52 c53 c54 c55 c56 c57 c58 c59 c60 c61 c62 c63 c64 c65 c66 c67 c68 c69 c70 c71 c72 c73 c74 c75 c76 c77 c78 c79 c80 c81 c82 c83 : Value) :
    (Code.region 12 #[{ dst := some 46, op := Op.move (Operand.tmp 0), type := 69, pos := "merkle.go:125", after := #[], guard := none }, { dst := some 47, op := Op.move (Operand.tmp 9), type := 22, pos := "merkle.go:125", after := #[], guard := none }, { dst := some 48, op := Op.move (Operand.tmp 10), type := 3, pos := "merkle.go:125", after := #[], guard := none }, { dst := some 49, op := Op.indexAddr 22 (Operand.tmp 47) (Operand.tmp 48), type := 0, pos := "merkle.go:125", after := #[{ on := 1, ground := Ground.data }, { on := 2, ground := Ground.data }], guard := none }, { dst := some 50, op := Op.load 39 (Operand.tmp 49), type := 39, pos := "merkle.go:125", after := #[{ on := 3, ground := Ground.data }], guard := none }, { dst := some 51, op := Op.call { callee := Callee.value (Operand.tmp 46), args := #[Operand.tmp 50], argTypes := #[39] }, type := 26, pos := "merkle.go:125", after := #[{ on := 0, ground := Ground.data }, { on := 4, ground := Ground.data }], guard := none }, { dst := some 52, op := Op.load 26 (Operand.tmp 11), type := 26, pos := "merkle.go:125", after := #[{ on := 9, ground := Ground.gcOnly Go.Departure.lateStores }], guard := none }, { dst := some 12, op := Op.alloc 26, type := 0, pos := "merkle.go:125", after := #[], guard := none }, { dst := some 13, op := Op.alloc 26, type := 0, pos := "merkle.go:125", after := #[], guard := none }, { dst := none, op := Op.store 26 (Operand.tmp 12) (Operand.tmp 51), type := 0, pos := "merkle.go:125", after := #[{ on := 7, ground := Ground.data }, { on := 5, ground := Ground.data }, { on := 5, ground := Ground.chain }, { on := 0, ground := Ground.phase }, { on := 1, ground := Ground.phase }, { on := 2, ground := Ground.phase }, { on := 3, ground := Ground.phase }, { on := 4, ground := Ground.phase }, { on := 5, ground := Ground.phase }, { on := 6, ground := Ground.textOnly Go.Departure.lateStores }, { on := 7, ground := Ground.phase }, { on := 8, ground := Ground.phase }], guard := none }, { dst := none, op := Op.store 26 (Operand.tmp 13) (Operand.tmp 52), type := 0, pos := "merkle.go:125", after := #[{ on := 8, ground := Ground.data }, { on := 6, ground := Ground.data }, { on := 9, ground := Ground.chain }, { on := 0, ground := Ground.phase }, { on := 1, ground := Ground.phase }, { on := 2, ground := Ground.phase }, { on := 3, ground := Ground.phase }, { on := 4, ground := Ground.phase }, { on := 5, ground := Ground.phase }, { on := 6, ground := Ground.phase }, { on := 7, ground := Ground.phase }, { on := 8, ground := Ground.phase }, { on := 9, ground := Ground.phase }], guard := none }] true).wp Try.prog (fun e a' w' => e = .normal ∧ ∃ g12 g13, a' = ⟨#[.func (.func 25) #[] #[], c1, c2, c3, c4, c5, c6, c7, c8, .slice (some ⟨gt, 0, none⟩) nT capT, .int .i64 (k : Int), .pointer (some ⟨g11, 0, none⟩), .pointer (some ⟨g12, 0, none⟩), .pointer (some ⟨g13, 0, none⟩), c14, c15, c16, c17, c18, c19, c20, c21, c22, c23, c24, c25, c26, c27, c28, c29, c30, c31, c32, c33, c34, c35, c36, c37, c38, c39, c40, c41, c42, c43, c44, c45, .func (.func 25) #[] #[], .slice (some ⟨gt, 0, none⟩) nT capT, .int .i64 (k : Int), .pointer (some ⟨gt, k, none⟩), .slice ao m cp, .agg (bys (F T)).toArray, .agg (bys p).toArray, c53, c54, c55, c56, c57, c58, c59, c60, c61, c62, c63, c64, c65, c66, c67, c68, c69, c70, c71, c72, c73, c74, c75, c76, c77, c78, c79, c80, c81, c82, c83], []⟩ ∧ Row w' g12 26 (bys (F T)) ∧ Row w' g13 26 (bys p) ∧ g12 ≠ g13 ∧ w.heap.size ≤ g12 ∧ w.heap.size ≤ g13 ∧ Below w.heap.size w w')
      ⟨#[.func (.func 25) #[] #[], c1, c2, c3, c4, c5, c6, c7, c8, .slice (some ⟨gt, 0, none⟩) nT capT, .int .i64 (k : Int), .pointer (some ⟨g11, 0, none⟩), c12, c13, c14, c15, c16, c17, c18, c19, c20, c21, c22, c23, c24, c25, c26, c27, c28, c29, c30, c31, c32, c33, c34, c35, c36, c37, c38, c39, c40, c41, c42, c43, c44, c45, c46, c47, c48, c49, c50, c51, c52, c53, c54, c55, c56, c57, c58, c59, c60, c61, c62, c63, c64, c65, c66, c67, c68, c69, c70, c71, c72, c73, c74, c75, c76, c77, c78, c79, c80, c81, c82, c83], []⟩ w := by
  obtain ⟨W, hW⟩ : ∃ W, W = w.drew := ⟨_, rfl⟩
  have hw0 : Below w.heap.size w W := by rw [hW]; exact (Below.refl _ _).drew
  have hsz : W.heap.size = w.heap.size := by rw [hW]; rfl
  have HC : Hid (∀ y, Below W.heap.size W y → y.cell? ⟨gt, k, none⟩ = some (.slice ao m cp)) := fun y hy => by
    have h1 : W.cell? ⟨gt, k, none⟩ = some (.slice ao m cp) := by rw [hW]; exact hc
    exact (hy.cell (p := ⟨gt, k, none⟩) (World.block_lt_of_cell? W _ h1)).trans h1
  have HT : Hid (∀ y, Below W.heap.size W y → Sl y (.slice ao m cp) T) := fun y hy => (hT.below hw0).below hy
  have HR : Hid (∀ y, Below W.heap.size W y → y.rangeAt g11 0 (bys p)) := fun y hy => ((hr.below hw0 hr.lt).below hy (by rw [hsz]; exact hr.lt)).range
  have hpi := info26L p hp
  have k1 : (0 : Int) ≤ (k : Int) := by omega
  have k2 : (k : Int) < (nT : Int) := by omega
  have HPW : Hid (W = w.drew) := hW
  have hQ : ∀ y, Below W.heap.size W y → Below w.heap.size w y := fun y hy => nextB hw0 hy
  clear hc hT hr hw0
  rw [← hsz] at hQ ⊢
  refine wp_region_held_drew (S := fun y => Below W.heap.size W y) (by kernel_rfl) (by rw [← hW]; exact Below.refl _ _) (fun hS0 => ?_)
  rw [← hW] at hS0 ⊢
  clear hW
  refine take_in 0 (v := ?vp1) rfl (some 46) rfl (by kernel_rfl) (by kernel_rfl) (by kernel_rfl) (fun _ _ _ h => (no_panic h.1).elim) (Or.inl ⟨by rfl, ?hp1⟩) hS0 ?rp1
  case hp1 => (intro y hy; go_simp; with_reducible rfl)
  simp only [Act.put, List.setIfInBounds_toArray, List.set_cons_zero, List.set_cons_succ]
  refine take_in 1 (v := ?vp2) rfl (some 47) rfl (by kernel_rfl) (by kernel_rfl) (by kernel_rfl) (fun _ _ _ h => (no_panic h.1).elim) (Or.inl ⟨by rfl, ?hp2⟩) hS0 ?rp2
  case hp2 => (intro y hy; go_simp; with_reducible rfl)
  simp only [Act.put, List.setIfInBounds_toArray, List.set_cons_zero, List.set_cons_succ]
  refine take_in 2 (v := ?vp3) rfl (some 48) rfl (by kernel_rfl) (by kernel_rfl) (by kernel_rfl) (fun _ _ _ h => (no_panic h.1).elim) (Or.inl ⟨by rfl, ?hp3⟩) hS0 ?rp3
  case hp3 => (intro y hy; go_simp; with_reducible rfl)
  simp only [Act.put, List.setIfInBounds_toArray, List.set_cons_zero, List.set_cons_succ]
  refine take_in 3 (v := ?vp4) rfl (some 49) rfl (by kernel_rfl) (by kernel_rfl) (by kernel_rfl) (fun _ _ _ h => (no_panic h.1).elim) (Or.inl ⟨by rfl, ?hp4⟩) hS0 ?rp4
  case hp4 => (intro y hy; go_simp; with_reducible rfl)
  simp only [Act.put, List.setIfInBounds_toArray, List.set_cons_zero, List.set_cons_succ]
  refine take_in 4 (v := ?vp5) rfl (some 50) rfl (by kernel_rfl) (by kernel_rfl) (by kernel_rfl) (fun _ _ _ h => (no_panic h.1).elim) (Or.inl ⟨by rfl, ?hp5⟩) hS0 ?rp5
  case hp5 => (intro y hy; have c1 := HC.out y hy; go_simp; with_reducible rfl)
  simp only [Act.put, List.setIfInBounds_toArray, List.set_cons_zero, List.set_cons_succ]
  refine take_in 6 (v := .agg (bys p).toArray) rfl (some 52) rfl (by kernel_rfl) (by kernel_rfl) (by kernel_rfl) (fun _ _ _ h => (no_panic h.1).elim) (yieldsIf_load_mid (by rfl) 26 _ rfl g11 0 rfl (bys p) _ (fun y hy => HR.out y hy) Try.underlying26 rfl hpi) hS0 ?_
  simp only [Act.put, List.setIfInBounds_toArray, List.set_cons_zero, List.set_cons_succ]
  refine wpAnyH_ready (rs := [5, 7, 8]) (by kernel_rfl) (by simp) ?_
  refine AllReadyH.cons rfl (fun K hK => ?_) (AllReadyH.cons rfl (fun K hK => ?_) (AllReadyH.cons rfl (fun K hK => ?_) AllReadyH.nil))
  · go_simp
    refine (E.sum _ _ _ (HT.out _ hS0) hTl).mono ?_
    rintro ev y7 ⟨rfl, hb8⟩
    have hS9 := nextB hS0 hb8
    refine hK.out _ _ hS9 (fun _ => ?_)
    clear hK K
    refine wpAnyH_ready (rs := [7, 8]) (by kernel_rfl) (by simp) ?_
    refine AllReadyH.cons rfl (fun K hK => ?_) (AllReadyH.cons rfl (fun K hK => ?_) AllReadyH.nil)
    · refine want (by rfl) ?_
      refine wpo_alloc26 rfl ?_
      intro y10 gg11 R12 eg hb13
      have hS14 := nextB hS9 hb13
      have hge15 : W.heap.size ≤ gg11 := by have := hS9.size; omega
      clear eg
      refine hK.out _ _ hS14 (fun _ => ?_)
      clear hK K
      refine wpAnyH_ready (rs := [8]) (by kernel_rfl) (by simp) ?_
      refine AllReadyH.cons rfl (fun K hK => ?_) AllReadyH.nil
      refine want (by rfl) ?_
      refine wpo_alloc26 rfl ?_
      intro y16 gg17 R18 eg hb19
      have hS20 := nextB hS14 hb19
      have hge21 : W.heap.size ≤ gg17 := by have := hS14.size; omega
      have ne23 : gg11 ≠ gg17 := by have := R12.lt; omega
      have R22 := R12.below hb19 R12.lt
      clear eg
      refine hK.out _ _ hS20 (fun _ => ?_)
      clear hK K
      refine wpAnyH_ready (rs := [9]) (by kernel_rfl) (by simp) ?_
      refine AllReadyH.cons rfl (fun K hK => ?_) AllReadyH.nil
      refine want (by rfl) ?_
      refine wpo_store26 _ _ rfl W gg11 (F T) (E.len T) rfl rfl zero32 zero32_len R22 W.heap.size hS20 hge15 ?_
      intro y24 R25 hS26 hw28
      have R27 : Row y24 gg17 26 (bys zero32) := by rw [hw28.out]; exact R18.setRow_other (by omega) _
      clear hw28
      refine hK.out _ _ hS26 (fun _ => ?_)
      clear hK K
      refine wpAnyH_ready (rs := [10]) (by kernel_rfl) (by simp) ?_
      refine AllReadyH.cons rfl (fun K hK => ?_) AllReadyH.nil
      refine want (by rfl) ?_
      refine wpo_store26 _ _ rfl W gg17 p hp rfl rfl zero32 zero32_len R27 W.heap.size hS26 hge21 ?_
      intro y29 R30 hS31 hw33
      have R32 : Row y29 gg11 26 (bys (F T)) := by rw [hw33.out]; exact R25.setRow_other (by omega) _
      clear hw33
      refine hK.out _ _ hS31 (fun _ => ?_)
      clear hK K
      refine wpAnyH_done (by kernel_rfl) ?_ _
      exact ⟨rfl, gg11, gg17, rfl, R32, R30, by omega, hge15, hge21, hQ _ hS31⟩
    · refine want (by rfl) ?_
      refine wpo_alloc26 rfl ?_
      intro y34 gg35 R36 eg hb37
      have hS38 := nextB hS9 hb37
      have hge39 : W.heap.size ≤ gg35 := by have := hS9.size; omega
      clear eg
      refine hK.out _ _ hS38 (fun _ => ?_)
      clear hK K
      refine wpAnyH_ready (rs := [7]) (by kernel_rfl) (by simp) ?_
      refine AllReadyH.cons rfl (fun K hK => ?_) AllReadyH.nil
      refine want (by rfl) ?_
      refine wpo_alloc26 rfl ?_
      intro y40 gg41 R42 eg hb43
      have hS44 := nextB hS38 hb43
      have hge45 : W.heap.size ≤ gg41 := by have := hS38.size; omega
      have ne47 : gg35 ≠ gg41 := by have := R36.lt; omega
      have R46 := R36.below hb43 R36.lt
      clear eg
      refine hK.out _ _ hS44 (fun _ => ?_)
      clear hK K
      refine wpAnyH_ready (rs := [9]) (by kernel_rfl) (by simp) ?_
      refine AllReadyH.cons rfl (fun K hK => ?_) AllReadyH.nil
      refine want (by rfl) ?_
      refine wpo_store26 _ _ rfl W gg41 (F T) (E.len T) rfl rfl zero32 zero32_len R42 W.heap.size hS44 hge45 ?_
      intro y48 R49 hS50 hw52
      have R51 : Row y48 gg35 26 (bys zero32) := by rw [hw52.out]; exact R46.setRow_other (by omega) _
      clear hw52
      refine hK.out _ _ hS50 (fun _ => ?_)
      clear hK K
      refine wpAnyH_ready (rs := [10]) (by kernel_rfl) (by simp) ?_
      refine AllReadyH.cons rfl (fun K hK => ?_) AllReadyH.nil
      refine want (by rfl) ?_
      refine wpo_store26 _ _ rfl W gg35 p hp rfl rfl zero32 zero32_len R51 W.heap.size hS50 hge39 ?_
      intro y53 R54 hS55 hw57
      have R56 : Row y53 gg41 26 (bys (F T)) := by rw [hw57.out]; exact R49.setRow_other (by omega) _
      clear hw57
      refine hK.out _ _ hS55 (fun _ => ?_)
      clear hK K
      refine wpAnyH_done (by kernel_rfl) ?_ _
      exact ⟨rfl, gg41, gg35, rfl, R56, R54, by omega, hge45, hge39, hQ _ hS55⟩
  · refine want (by rfl) ?_
    refine wpo_alloc26 rfl ?_
    intro y58 gg59 R60 eg hb61
    have hS62 := nextB hS0 hb61
    have hge63 : W.heap.size ≤ gg59 := by have := hS0.size; omega
    clear eg
    refine hK.out _ _ hS62 (fun _ => ?_)
    clear hK K
    refine wpAnyH_ready (rs := [5, 8]) (by kernel_rfl) (by simp) ?_
    refine AllReadyH.cons rfl (fun K hK => ?_) (AllReadyH.cons rfl (fun K hK => ?_) AllReadyH.nil)
    · go_simp
      refine (E.sum _ _ _ (HT.out _ hS62) hTl).mono ?_
      rintro ev y64 ⟨rfl, hb65⟩
      have hS66 := nextB hS62 hb65
      have R67 := R60.below hb65 R60.lt
      refine hK.out _ _ hS66 (fun _ => ?_)
      clear hK K
      refine wpAnyH_ready (rs := [8]) (by kernel_rfl) (by simp) ?_
      refine AllReadyH.cons rfl (fun K hK => ?_) AllReadyH.nil
      refine want (by rfl) ?_
      refine wpo_alloc26 rfl ?_
      intro y68 gg69 R70 eg hb71
      have hS72 := nextB hS66 hb71
      have hge73 : W.heap.size ≤ gg69 := by have := hS66.size; omega
      have ne75 : gg59 ≠ gg69 := by have := R67.lt; omega
      have R74 := R67.below hb71 R67.lt
      clear eg
      refine hK.out _ _ hS72 (fun _ => ?_)
      clear hK K
      refine wpAnyH_ready (rs := [9]) (by kernel_rfl) (by simp) ?_
      refine AllReadyH.cons rfl (fun K hK => ?_) AllReadyH.nil
      refine want (by rfl) ?_
      refine wpo_store26 _ _ rfl W gg59 (F T) (E.len T) rfl rfl zero32 zero32_len R74 W.heap.size hS72 hge63 ?_
      intro y76 R77 hS78 hw80
      have R79 : Row y76 gg69 26 (bys zero32) := by rw [hw80.out]; exact R70.setRow_other (by omega) _
      clear hw80
      refine hK.out _ _ hS78 (fun _ => ?_)
      clear hK K
      refine wpAnyH_ready (rs := [10]) (by kernel_rfl) (by simp) ?_
      refine AllReadyH.cons rfl (fun K hK => ?_) AllReadyH.nil
      refine want (by rfl) ?_
      refine wpo_store26 _ _ rfl W gg69 p hp rfl rfl zero32 zero32_len R79 W.heap.size hS78 hge73 ?_
      intro y81 R82 hS83 hw85
      have R84 : Row y81 gg59 26 (bys (F T)) := by rw [hw85.out]; exact R77.setRow_other (by omega) _
      clear hw85
      refine hK.out _ _ hS83 (fun _ => ?_)
      clear hK K
      refine wpAnyH_done (by kernel_rfl) ?_ _
      exact ⟨rfl, gg59, gg69, rfl, R84, R82, by omega, hge63, hge73, hQ _ hS83⟩
    · refine want (by rfl) ?_
      refine wpo_alloc26 rfl ?_
      intro y86 gg87 R88 eg hb89
      have hS90 := nextB hS62 hb89
      have hge91 : W.heap.size ≤ gg87 := by have := hS62.size; omega
      have ne93 : gg59 ≠ gg87 := by have := R60.lt; omega
      have R92 := R60.below hb89 R60.lt
      clear eg
      refine hK.out _ _ hS90 (fun _ => ?_)
      clear hK K
      refine wpAnyH_ready (rs := [5]) (by kernel_rfl) (by simp) ?_
      refine AllReadyH.cons rfl (fun K hK => ?_) AllReadyH.nil
      go_simp
      refine (E.sum _ _ _ (HT.out _ hS90) hTl).mono ?_
      rintro ev y94 ⟨rfl, hb95⟩
      have hS96 := nextB hS90 hb95
      have R97 := R92.below hb95 R92.lt
      have R98 := R88.below hb95 R88.lt
      refine hK.out _ _ hS96 (fun _ => ?_)
      clear hK K
      refine wpAnyH_ready (rs := [9]) (by kernel_rfl) (by simp) ?_
      refine AllReadyH.cons rfl (fun K hK => ?_) AllReadyH.nil
      refine want (by rfl) ?_
      refine wpo_store26 _ _ rfl W gg59 (F T) (E.len T) rfl rfl zero32 zero32_len R97 W.heap.size hS96 hge63 ?_
      intro y99 R100 hS101 hw103
      have R102 : Row y99 gg87 26 (bys zero32) := by rw [hw103.out]; exact R98.setRow_other (by omega) _
      clear hw103
      refine hK.out _ _ hS101 (fun _ => ?_)
      clear hK K
      refine wpAnyH_ready (rs := [10]) (by kernel_rfl) (by simp) ?_
      refine AllReadyH.cons rfl (fun K hK => ?_) AllReadyH.nil
      refine want (by rfl) ?_
      refine wpo_store26 _ _ rfl W gg87 p hp rfl rfl zero32 zero32_len R102 W.heap.size hS101 hge91 ?_
      intro y104 R105 hS106 hw108
      have R107 : Row y104 gg59 26 (bys (F T)) := by rw [hw108.out]; exact R100.setRow_other (by omega) _
      clear hw108
      refine hK.out _ _ hS106 (fun _ => ?_)
      clear hK K
      refine wpAnyH_done (by kernel_rfl) ?_ _
      exact ⟨rfl, gg59, gg87, rfl, R107, R105, by omega, hge63, hge91, hQ _ hS106⟩
  · refine want (by rfl) ?_
    refine wpo_alloc26 rfl ?_
    intro y109 gg110 R111 eg hb112
    have hS113 := nextB hS0 hb112
    have hge114 : W.heap.size ≤ gg110 := by have := hS0.size; omega
    clear eg
    refine hK.out _ _ hS113 (fun _ => ?_)
    clear hK K
    refine wpAnyH_ready (rs := [5, 7]) (by kernel_rfl) (by simp) ?_
    refine AllReadyH.cons rfl (fun K hK => ?_) (AllReadyH.cons rfl (fun K hK => ?_) AllReadyH.nil)
    · go_simp
      refine (E.sum _ _ _ (HT.out _ hS113) hTl).mono ?_
      rintro ev y115 ⟨rfl, hb116⟩
      have hS117 := nextB hS113 hb116
      have R118 := R111.below hb116 R111.lt
      refine hK.out _ _ hS117 (fun _ => ?_)
      clear hK K
      refine wpAnyH_ready (rs := [7]) (by kernel_rfl) (by simp) ?_
      refine AllReadyH.cons rfl (fun K hK => ?_) AllReadyH.nil
      refine want (by rfl) ?_
      refine wpo_alloc26 rfl ?_
      intro y119 gg120 R121 eg hb122
      have hS123 := nextB hS117 hb122
      have hge124 : W.heap.size ≤ gg120 := by have := hS117.size; omega
      have ne126 : gg110 ≠ gg120 := by have := R118.lt; omega
      have R125 := R118.below hb122 R118.lt
      clear eg
      refine hK.out _ _ hS123 (fun _ => ?_)
      clear hK K
      refine wpAnyH_ready (rs := [9]) (by kernel_rfl) (by simp) ?_
      refine AllReadyH.cons rfl (fun K hK => ?_) AllReadyH.nil
      refine want (by rfl) ?_
      refine wpo_store26 _ _ rfl W gg120 (F T) (E.len T) rfl rfl zero32 zero32_len R121 W.heap.size hS123 hge124 ?_
      intro y127 R128 hS129 hw131
      have R130 : Row y127 gg110 26 (bys zero32) := by rw [hw131.out]; exact R125.setRow_other (by omega) _
      clear hw131
      refine hK.out _ _ hS129 (fun _ => ?_)
      clear hK K
      refine wpAnyH_ready (rs := [10]) (by kernel_rfl) (by simp) ?_
      refine AllReadyH.cons rfl (fun K hK => ?_) AllReadyH.nil
      refine want (by rfl) ?_
      refine wpo_store26 _ _ rfl W gg110 p hp rfl rfl zero32 zero32_len R130 W.heap.size hS129 hge114 ?_
      intro y132 R133 hS134 hw136
      have R135 : Row y132 gg120 26 (bys (F T)) := by rw [hw136.out]; exact R128.setRow_other (by omega) _
      clear hw136
      refine hK.out _ _ hS134 (fun _ => ?_)
      clear hK K
      refine wpAnyH_done (by kernel_rfl) ?_ _
      exact ⟨rfl, gg120, gg110, rfl, R135, R133, by omega, hge124, hge114, hQ _ hS134⟩
    · refine want (by rfl) ?_
      refine wpo_alloc26 rfl ?_
      intro y137 gg138 R139 eg hb140
      have hS141 := nextB hS113 hb140
      have hge142 : W.heap.size ≤ gg138 := by have := hS113.size; omega
      have ne144 : gg110 ≠ gg138 := by have := R111.lt; omega
      have R143 := R111.below hb140 R111.lt
      clear eg
      refine hK.out _ _ hS141 (fun _ => ?_)
      clear hK K
      refine wpAnyH_ready (rs := [5]) (by kernel_rfl) (by simp) ?_
      refine AllReadyH.cons rfl (fun K hK => ?_) AllReadyH.nil
      go_simp
      refine (E.sum _ _ _ (HT.out _ hS141) hTl).mono ?_
      rintro ev y145 ⟨rfl, hb146⟩
      have hS147 := nextB hS141 hb146
      have R148 := R139.below hb146 R139.lt
      have R149 := R143.below hb146 R143.lt
      refine hK.out _ _ hS147 (fun _ => ?_)
      clear hK K
      refine wpAnyH_ready (rs := [9]) (by kernel_rfl) (by simp) ?_
      refine AllReadyH.cons rfl (fun K hK => ?_) AllReadyH.nil
      refine want (by rfl) ?_
      refine wpo_store26 _ _ rfl W gg138 (F T) (E.len T) rfl rfl zero32 zero32_len R148 W.heap.size hS147 hge142 ?_
      intro y150 R151 hS152 hw154
      have R153 : Row y150 gg110 26 (bys zero32) := by rw [hw154.out]; exact R149.setRow_other (by omega) _
      clear hw154
      refine hK.out _ _ hS152 (fun _ => ?_)
      clear hK K
      refine wpAnyH_ready (rs := [10]) (by kernel_rfl) (by simp) ?_
      refine AllReadyH.cons rfl (fun K hK => ?_) AllReadyH.nil
      refine want (by rfl) ?_
      refine wpo_store26 _ _ rfl W gg110 p hp rfl rfl zero32 zero32_len R153 W.heap.size hS152 hge114 ?_
      intro y155 R156 hS157 hw159
      have R158 : Row y155 gg138 26 (bys (F T)) := by rw [hw159.out]; exact R151.setRow_other (by omega) _
      clear hw159
      refine hK.out _ _ hS157 (fun _ => ?_)
      clear hK K
      refine wpAnyH_done (by kernel_rfl) ?_ _
      exact ⟨rfl, gg138, gg110, rfl, R158, R156, by omega, hge142, hge114, hQ _ hS157⟩
end Go.Proofs.Ytfkibbpekngciaa
