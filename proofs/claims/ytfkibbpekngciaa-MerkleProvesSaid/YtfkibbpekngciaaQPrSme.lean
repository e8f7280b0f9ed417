/-
  The document's own Same, of two proofs that are the same.
-/
import Derived.Test.YtfkibbpekngciaaJoinChk2xPr
namespace Go.Proofs.Ytfkibbpekngciaa
open Go.RowKit

theorem Hs.at {w : World} {b off cap : Nat} {P : List Bys} (h : Hs w (.slice (some ⟨b, off, none⟩) P.length cap) P) (k : Nat) (hk : k < P.length) : w.rangeAt b (off + k * 32) (bys (P.getD k [])) := fun j u hj => by
  rcases h.shape with ⟨_, _, _, rfl⟩ | ⟨b', off', cap', e, _, hr⟩
  · simp at hk
  · cases e
    have h32 : (P.getD k []).length = 32 := by rw [List.getD, List.getElem?_eq_getElem hk]; exact h.each _ (List.getElem_mem hk)
    have hj' : j < 32 := by
      rcases Nat.lt_or_ge j 32 with h' | h'
      · exact h'
      · rw [List.getElem?_eq_none (by rw [bys_len]; omega)] at hj; cases hj
    have := hr (k * 32 + j) u (by rw [flat_get P h.each k j hk hj']; exact hj)
    rw [show off + k * 32 + j = off + (k * 32 + j) by omega]; exact this
theorem Hs.get {w : World} {v : Value} {P : List Bys} (h : Hs w v P) (k : Nat) (hk : k < P.length) : (P.getD k []).length = 32 := by
  rw [List.getD, List.getElem?_eq_getElem hk]; exact h.each _ (List.getElem_mem hk)
theorem Hs.some_ {w : World} {ao : Option Addr} {n cap : Nat} {P : List Bys} (h : Hs w (.slice ao n cap) P) (h0 : 0 < P.length) : ∃ b off, ao = some ⟨b, off, none⟩ := by
  rcases h.shape with ⟨_, _, _, rfl⟩ | ⟨b', off', cap', e, _, hr⟩
  · simp at h0
  · cases e; exact ⟨b', off', rfl⟩

set_option maxHeartbeats 4000000 in
set_option maxRecDepth 20000 in
theorem same_yes (w : World) (i n : Int) (ao bo : Option Addr) (c d : Nat) (P : List Bys) (h1 : Hs w (.slice ao P.length c) P) (h2 : Hs w (.slice bo P.length d) P) (hP : P.length ≤ 1000000) :
    Calls Try.prog 15 #[.agg #[.int .i64 i, .int .i64 n, .slice ao P.length c], .agg #[.int .i64 i, .int .i64 n, .slice bo P.length d]] w fun ev w' => ev = .returned (.bool true) ∧ Below w.heap.size w w' := by
  obtain ⟨W, hW⟩ : ∃ W, W = (w.alloc (.cells #[.int .i64 i, .int .i64 n, .slice ao P.length c] 30)).alloc (.cells #[.int .i64 i, .int .i64 n, .slice bo P.length d] 30) := ⟨_, rfl⟩
  have hA : Below w.heap.size w W := by
    rw [hW]; exact ((Below.refl w.heap.size w).alloc (Nat.le_refl _) _).alloc (by simp) _
  have RA : Row W w.heap.size 30 [.int .i64 i, .int .i64 n, .slice ao P.length c] := by
    rw [hW]; exact (Row.new w 30 _).below ((Below.refl _ _).alloc (Nat.le_refl _) _) (by simp)
  have RB : Row W (w.heap.size + 1) 30 [.int .i64 i, .int .i64 n, .slice bo P.length d] := by
    have := Row.new (w.alloc (.cells #[.int .i64 i, .int .i64 n, .slice ao P.length c] 30)) 30 [.int .i64 i, .int .i64 n, .slice bo P.length d]
    rw [hW]; exact (by simpa using this : Row _ (w.heap.size + 1) _ _)
  have a0 : W.cell? ⟨w.heap.size, 0, none⟩ = some (.int .i64 i) := RA.cell 0
  have a1 : W.cell? ⟨w.heap.size, 1, none⟩ = some (.int .i64 n) := RA.cell 1
  have a2 : W.cell? ⟨w.heap.size, 2, none⟩ = some (.slice ao P.length c) := RA.cell 2
  have b0 : W.cell? ⟨w.heap.size + 1, 0, none⟩ = some (.int .i64 i) := RB.cell 0
  have b1 : W.cell? ⟨w.heap.size + 1, 1, none⟩ = some (.int .i64 n) := RB.cell 1
  have b2 : W.cell? ⟨w.heap.size + 1, 2, none⟩ = some (.slice bo P.length d) := RB.cell 2
  have HA : Hid (Below w.heap.size w W) := hA
  have HF : Hid (∀ y, Below W.heap.size W y → y.cell? ⟨w.heap.size, 2, none⟩ = some (.slice ao P.length c) ∧ y.cell? ⟨w.heap.size + 1, 2, none⟩ = some (.slice bo P.length d)) := fun y hy => ⟨(RA.below hy RA.lt).cell 2, (RB.below hy RB.lt).cell 2⟩
  have HP : Hid (∀ y, Below W.heap.size W y → Hs y (.slice ao P.length c) P ∧ Hs y (.slice bo P.length d) P) := fun y hy => ⟨h1.below (nextB hA hy), h2.below (nextB hA hy)⟩
  have AW : Aside (W = (w.alloc (.cells #[.int .i64 i, .int .i64 n, .slice ao P.length c] 30)).alloc (.cells #[.int .i64 i, .int .i64 n, .slice bo P.length d] 30)) := hW
  clear hW hA RA RB h1 h2
  obtain ⟨g1, hg1⟩ : ∃ g, g = w.heap.size := ⟨_, rfl⟩
  obtain ⟨g2, hg2⟩ : ∃ g, g = w.heap.size + 1 := ⟨_, rfl⟩
  rw [← hg1] at a0 a1 a2
  rw [← hg2] at b0 b1 b2
  rw [← hg2, ← hg1] at HF
  have AG : Aside (g1 = w.heap.size ∧ g2 = w.heap.size + 1) := ⟨hg1, hg2⟩
  clear hg1 hg2
  go_enter Try.func15, Try.ntmps15
  go_wp2_with fail
  refine wp_at_world AW.out ?_
  rw [← AG.out.2, ← AG.out.1]
  go_loopw [5] (fun t wr => ∃ k : Nat, k ≤ P.length ∧ t = .int .i64 (k : Int) ∧ Below W.heap.size W wr) (fun t _ => P.length - (intOf t).toNat)
  case atStart => exact ⟨0, by omega, rfl, Below.refl _ _⟩
  case round =>
    obtain ⟨k, hk, rfl, hb⟩ := hrel
    clear a0 a1 a2 b0 b1 b2
    obtain ⟨f1, f2⟩ := HF.out wr hb
    have HB : Hid (Below W.heap.size W wr) := hb
    by_cases hk3 : k < P.length
    · have l1 : (k : Int) < (P.length : Int) := by omega
      have l0 : (0 : Int) ≤ (k : Int) := by omega
      obtain ⟨p1, p2⟩ := HP.out wr.drew hb.drew
      obtain ⟨f3, f4⟩ := HF.out wr.drew hb.drew
      obtain ⟨x1, y1, rfl⟩ := p1.some_ (by omega)
      obtain ⟨x2, y2, rfl⟩ := p2.some_ (by omega)
      have r1 := p1.at k hk3
      have r2 := p2.at k hk3
      have h32 := p1.get k hk3
      have he : ∀ y, (Op.equalIn 10000 26 (.agg (bys (P.getD k [])).toArray) (.agg (bys (P.getD k [])).toArray)).run Try.prog y = .ok true y := fun y => by rw [equ25 y _ _ h32 h32, beq_self_eq_true]
      have hLr := info26L _ h32
      have hu := Try.underlying26
      obtain ⟨Z2, hZ2⟩ : ∃ Z2, Z2 = bys (P.getD k []) := ⟨_, rfl⟩
      rw [← hZ2] at r2
      have he2 : ∀ y, (Op.equalIn 10000 26 (.agg (bys (P.getD k [])).toArray) (.agg Z2.toArray)).run Try.prog y = .ok true y := by rw [hZ2]; exact he
      have hLr2 : (Try.prog.info? 26).map (·.size) = some Z2.length := by rw [hZ2]; exact hLr
      clear hZ2 he
      generalize bys (P.getD k []) = Z at *
      have q0 : wr.drew.cell? ⟨g1, 2, none⟩ = some (.slice (some ⟨x1, y1, none⟩) P.length c) ∧ wr.drew.cell? ⟨g2, 2, none⟩ = some (.slice (some ⟨x2, y2, none⟩) P.length d) ∧ wr.drew.rangeAt x1 (y1 + k * 32) Z ∧ wr.drew.rangeAt x2 (y2 + k * 32) Z2 := ⟨f3, f4, r1, r2⟩
      clear p1 p2 f3 f4 r1 r2 hb HP HF
      go_wp2_with fail
      refine wp_region_held_drew (S := (fun y => y.cell? ⟨g1, 2, none⟩ = some (.slice (some ⟨x1, y1, none⟩) P.length c) ∧ y.cell? ⟨g2, 2, none⟩ = some (.slice (some ⟨x2, y2, none⟩) P.length d) ∧ y.rangeAt x1 (y1 + k * 32) Z ∧ y.rangeAt x2 (y2 + k * 32) Z2)) (by kernel_rfl) q0 (fun hHeld => ?_)
      refine wpAnyH_take (i := 0) (oi := { dst := some 34, op := Op.fieldAddr 30 (Operand.tmp 2) 2, type := 0, pos := "ref.go:134", after := #[], guard := none }) (v := ?vq0) rfl (by kernel_rfl) (by kernel_rfl) (by kernel_rfl) (fun _ _ _ h => h) (Or.inl ⟨by rfl, ?hq0⟩) hHeld ?rq0
      case hq0 => (intro y hy; obtain ⟨z1, z2, _, _⟩ := hy; go_simp; with_reducible rfl)
      simp only [Act.put, List.setIfInBounds_toArray, List.set_cons_zero, List.set_cons_succ]
      refine wpAnyH_take (i := 1) (oi := { dst := some 35, op := Op.load 28 (Operand.tmp 34), type := 28, pos := "ref.go:134", after := #[{ on := 0, ground := Ground.data }], guard := none }) (v := ?vq1) rfl (by kernel_rfl) (by kernel_rfl) (by kernel_rfl) (fun _ _ _ h => h) (Or.inl ⟨by rfl, ?hq1⟩) hHeld ?rq1
      case hq1 => (intro y hy; obtain ⟨z1, z2, _, _⟩ := hy; go_simp; with_reducible rfl)
      simp only [Act.put, List.setIfInBounds_toArray, List.set_cons_zero, List.set_cons_succ]
      refine wpAnyH_take (i := 2) (oi := { dst := some 36, op := Op.move (Operand.tmp 5), type := 3, pos := "ref.go:134", after := #[], guard := none }) (v := ?vq2) rfl (by kernel_rfl) (by kernel_rfl) (by kernel_rfl) (fun _ _ _ h => h) (Or.inl ⟨by rfl, ?hq2⟩) hHeld ?rq2
      case hq2 => (intro y hy; obtain ⟨z1, z2, _, _⟩ := hy; go_simp; with_reducible rfl)
      simp only [Act.put, List.setIfInBounds_toArray, List.set_cons_zero, List.set_cons_succ]
      refine wpAnyH_take (i := 3) (oi := { dst := some 37, op := Op.indexAddr 28 (Operand.tmp 35) (Operand.tmp 36), type := 0, pos := "ref.go:134", after := #[{ on := 1, ground := Ground.data }, { on := 2, ground := Ground.data }], guard := none }) (v := ?vq3) rfl (by kernel_rfl) (by kernel_rfl) (by kernel_rfl) (fun _ _ _ h => h) (Or.inl ⟨by rfl, ?hq3⟩) hHeld ?rq3
      case hq3 => (intro y hy; obtain ⟨z1, z2, _, _⟩ := hy; go_simp; with_reducible rfl)
      simp only [Act.put, List.setIfInBounds_toArray, List.set_cons_zero, List.set_cons_succ]
      refine wpAnyH_take (i := 4) (oi := { dst := some 38, op := Op.load 26 (Operand.tmp 37), type := 26, pos := "ref.go:134", after := #[{ on := 3, ground := Ground.data }], guard := none }) (v := _) rfl (by kernel_rfl) (by kernel_rfl) (by kernel_rfl) (fun _ _ _ h => h) (yieldsIf_load_mid (by rfl) _ _ rfl _ _ rfl Z _ (fun y hy => hy.2.2.1) hu rfl hLr) hHeld ?_
      simp only [Act.put, List.setIfInBounds_toArray, List.set_cons_zero, List.set_cons_succ]
      refine wpAnyH_take (i := 5) (oi := { dst := some 39, op := Op.fieldAddr 30 (Operand.tmp 3) 2, type := 0, pos := "ref.go:134", after := #[], guard := none }) (v := ?vq5) rfl (by kernel_rfl) (by kernel_rfl) (by kernel_rfl) (fun _ _ _ h => h) (Or.inl ⟨by rfl, ?hq5⟩) hHeld ?rq5
      case hq5 => (intro y hy; obtain ⟨z1, z2, _, _⟩ := hy; go_simp; with_reducible rfl)
      simp only [Act.put, List.setIfInBounds_toArray, List.set_cons_zero, List.set_cons_succ]
      refine wpAnyH_take (i := 6) (oi := { dst := some 40, op := Op.load 28 (Operand.tmp 39), type := 28, pos := "ref.go:134", after := #[{ on := 5, ground := Ground.data }], guard := none }) (v := ?vq6) rfl (by kernel_rfl) (by kernel_rfl) (by kernel_rfl) (fun _ _ _ h => h) (Or.inl ⟨by rfl, ?hq6⟩) hHeld ?rq6
      case hq6 => (intro y hy; obtain ⟨z1, z2, _, _⟩ := hy; go_simp; with_reducible rfl)
      simp only [Act.put, List.setIfInBounds_toArray, List.set_cons_zero, List.set_cons_succ]
      refine wpAnyH_take (i := 7) (oi := { dst := some 41, op := Op.move (Operand.tmp 5), type := 3, pos := "ref.go:134", after := #[], guard := none }) (v := ?vq7) rfl (by kernel_rfl) (by kernel_rfl) (by kernel_rfl) (fun _ _ _ h => h) (Or.inl ⟨by rfl, ?hq7⟩) hHeld ?rq7
      case hq7 => (intro y hy; obtain ⟨z1, z2, _, _⟩ := hy; go_simp; with_reducible rfl)
      simp only [Act.put, List.setIfInBounds_toArray, List.set_cons_zero, List.set_cons_succ]
      refine wpAnyH_take (i := 8) (oi := { dst := some 42, op := Op.indexAddr 28 (Operand.tmp 40) (Operand.tmp 41), type := 0, pos := "ref.go:134", after := #[{ on := 6, ground := Ground.data }, { on := 7, ground := Ground.data }], guard := none }) (v := ?vq8) rfl (by kernel_rfl) (by kernel_rfl) (by kernel_rfl) (fun _ _ _ h => h) (Or.inl ⟨by rfl, ?hq8⟩) hHeld ?rq8
      case hq8 => (intro y hy; obtain ⟨z1, z2, _, _⟩ := hy; go_simp; with_reducible rfl)
      simp only [Act.put, List.setIfInBounds_toArray, List.set_cons_zero, List.set_cons_succ]
      refine wpAnyH_take (i := 9) (oi := { dst := some 43, op := Op.load 26 (Operand.tmp 42), type := 26, pos := "ref.go:134", after := #[{ on := 8, ground := Ground.data }], guard := none }) (v := _) rfl (by kernel_rfl) (by kernel_rfl) (by kernel_rfl) (fun _ _ _ h => h) (yieldsIf_load_mid (by rfl) _ _ rfl _ _ rfl Z2 _ (fun y hy => hy.2.2.2) hu rfl hLr2) hHeld ?_
      simp only [Act.put, List.setIfInBounds_toArray, List.set_cons_zero, List.set_cons_succ]
      refine wpAnyH_take (i := 10) (oi := { dst := some 44, op := Op.binOp BinOp.neq 26 (Operand.tmp 38) (Operand.tmp 43) 26, type := 4, pos := "ref.go:134", after := #[{ on := 4, ground := Ground.data }, { on := 9, ground := Ground.data }], guard := none }) (v := ?vq10) rfl (by kernel_rfl) (by kernel_rfl) (by kernel_rfl) (fun _ _ _ h => h) (Or.inl ⟨by rfl, ?hq10⟩) hHeld ?rq10
      case hq10 => (intro y hy; obtain ⟨z1, z2, _, _⟩ := hy; go_simp; with_reducible rfl)
      simp only [Act.put, List.setIfInBounds_toArray, List.set_cons_zero, List.set_cons_succ]
      refine wpAnyH_done (by kernel_rfl) ?_ _
      go_wp2_with fail
      go_roundw
      case rel => exact ⟨k + 1, by omega, by go_num, HB.out.drew⟩
      case measure => simp [intOf]; omega
    · have l1 : ¬ (k : Int) < (P.length : Int) := by omega
      clear hb HP HF
      go_wp2_with fail
      go_ret
      exact ⟨rfl, nextB HA.out HB.out⟩
end Go.Proofs.Ytfkibbpekngciaa
