/-
  told.
-/
import Derived.Test.YtfkibbpekngciaaQPrR10
import Derived.Test.YtfkibbpekngciaaJoinChk2xPr
namespace Go.Proofs.Ytfkibbpekngciaa
open Go.RowKit

def L3 : List Bys := [[1], [2], [3]]
/-- What is known of the program's sums and of the document's. -/
structure Env2 (F : Bys → Bys) : Prop extends Env F where
  xsum : ∀ (w : World) (v : Value) (l : Bys), Sl w v l → l.length ≤ 100000 → Calls Try.prog 22 #[v] w fun ev w' => ev = .returned (.agg (bys (F l)).toArray) ∧ Below w.heap.size w w'
  apart : F (lastT (texts F [2] 0 3 (path F L3 0))) ≠ root F L3
theorem half3 : half 3 = 2 := by decide
theorem half2 : half 2 = 1 := by decide
theorem downs32 : downs 2 0 3 = [(0, 2)] := by
  rw [downs_right 2 0 3 (by omega) (by simp [half3]), downs_end _ _ _ (by simp [half3])]; simp [half3]
theorem downs30 : downs 0 0 3 = [(2, 3), (1, 2)] := by
  rw [downs_left 0 0 3 (by omega) (by simp [half3])]
  simp only [Nat.sub_zero, half3, Nat.zero_add]
  rw [downs_left 0 0 2 (by omega) (by simp [half2]), downs_end _ _ _ (by simp [half2])]; simp [half2]
theorem path32 (F : Bys → Bys) : (path F L3 2).length = 1 := by
  have : (path F L3 2).length = (downs 2 0 3).length := by simp [path, L3]
  rw [this, downs32]; rfl
theorem path30 (F : Bys → Bys) : (path F L3 0).length = 2 := by
  have : (path F L3 0).length = (downs 0 0 3).length := by simp [path, L3]
  rw [this, downs30]; rfl
theorem short3 : Short L3 := fun b hb => by
  simp [L3] at hb
  rcases hb with rfl | rfl | rfl <;> simp
theorem ls3 (w : World) : Ls ((((w.alloc (.cells #[.int .u8 1] 5)).alloc (.cells #[.int .u8 2] 5)).alloc (.cells #[.int .u8 3] 5)).alloc (.cells #[.slice (some ⟨w.heap.size, 0, none⟩) 1 1, .slice (some ⟨w.heap.size + 1, 0, none⟩) 1 1, .slice (some ⟨w.heap.size + 1 + 1, 0, none⟩) 1 1] 39)) (.slice (some ⟨w.heap.size + 1 + 1 + 1, 0, none⟩) 3 3) L3 := by
  have b1 : ∀ (y : World) o, Below y.heap.size y (y.alloc o) := fun y o => (Below.refl _ _).alloc (Nat.le_refl _) _
  have s1 := (((Row.new w 5 (bys [1])).sl.below (b1 _ (.cells #[.int .u8 2] 5))).below (b1 _ (.cells #[.int .u8 3] 5))).below (b1 _ (.cells #[.slice (some ⟨w.heap.size, 0, none⟩) 1 1, .slice (some ⟨w.heap.size + 1, 0, none⟩) 1 1, .slice (some ⟨w.heap.size + 1 + 1, 0, none⟩) 1 1] 39))
  have s2 := ((Row.new (w.alloc (.cells #[.int .u8 1] 5)) 5 (bys [2])).sl.below (b1 _ (.cells #[.int .u8 3] 5))).below (b1 _ (.cells #[.slice (some ⟨w.heap.size, 0, none⟩) 1 1, .slice (some ⟨w.heap.size + 1, 0, none⟩) 1 1, .slice (some ⟨w.heap.size + 1 + 1, 0, none⟩) 1 1] 39))
  have s3 := (Row.new ((w.alloc (.cells #[.int .u8 1] 5)).alloc (.cells #[.int .u8 2] 5)) 5 (bys [3])).sl.below (b1 _ (.cells #[.slice (some ⟨w.heap.size, 0, none⟩) 1 1, .slice (some ⟨w.heap.size + 1, 0, none⟩) 1 1, .slice (some ⟨w.heap.size + 1 + 1, 0, none⟩) 1 1] 39))
  have r4 := Row.new (((w.alloc (.cells #[.int .u8 1] 5)).alloc (.cells #[.int .u8 2] 5)).alloc (.cells #[.int .u8 3] 5)) 39 [.slice (some ⟨w.heap.size, 0, none⟩) 1 1, .slice (some ⟨w.heap.size + 1, 0, none⟩) 1 1, .slice (some ⟨w.heap.size + 1 + 1, 0, none⟩) 1 1]
  have z2 : (w.alloc (.cells #[.int .u8 1] 5)).heap.size = w.heap.size + 1 := by simp
  have z3 : ((w.alloc (.cells #[.int .u8 1] 5)).alloc (.cells #[.int .u8 2] 5)).heap.size = w.heap.size + 1 + 1 := by simp
  have z4 : (((w.alloc (.cells #[.int .u8 1] 5)).alloc (.cells #[.int .u8 2] 5)).alloc (.cells #[.int .u8 3] 5)).heap.size = w.heap.size + 1 + 1 + 1 := by simp
  rw [z2] at s2
  rw [z3] at s3
  rw [z4] at r4
  refine ⟨.inr ⟨w.heap.size + 1 + 1 + 1, 0, 3, fun j => [.slice (some ⟨w.heap.size, 0, none⟩) 1 1, .slice (some ⟨w.heap.size + 1, 0, none⟩) 1 1, .slice (some ⟨w.heap.size + 1 + 1, 0, none⟩) 1 1].getD j undef, rfl, by decide, fun j hj => ?_⟩⟩
  have hj' : j < 3 := hj
  rw [Nat.zero_add]
  refine ⟨(r4.cell j).trans ?_, ?_⟩
  · rcases (by omega : j = 0 ∨ j = 1 ∨ j = 2) with rfl | rfl | rfl <;> rfl
  · rcases (by omega : j = 0 ∨ j = 1 ∨ j = 2) with rfl | rfl | rfl
    · exact s1
    · exact s2
    · exact s3
theorem form30 (F : Bys → Bys) : Form 0 3 (path F L3 0) := ⟨by omega, by omega, lefts_path F L3 0⟩
theorem chk31 (F : Bys → Bys) : chk F (root F L3) [1] 0 3 (path F L3 0) = true := by
  unfold chk
  have := check_own F L3 0 (by decide)
  have e : check F (root F L3) [1] (0 : Int).toNat (3 : Int).toNat (path F L3 0) = true := this
  rw [e, @decide_eq_true _ (decForm _ _ _) (form30 F)]; rfl
theorem chk32 (F : Bys → Bys) (h : F (lastT (texts F [2] 0 3 (path F L3 0))) ≠ root F L3) : chk F (root F L3) [2] 0 3 (path F L3 0) = false := by
  unfold chk
  have e : check F (root F L3) [2] (0 : Int).toNat (3 : Int).toNat (path F L3 0) = false := by
    unfold check
    simpa using h
  rw [e, Bool.and_false]
set_option maxHeartbeats 8000000 in
set_option maxRecDepth 20000 in
theorem told_any (F : Bys → Bys) (E : Env2 F) (w : World) : Calls Try.prog 10 #[] w fun ev w' => ev = .returned (.bool true) ∧ Below w.heap.size w w' := by
  obtain ⟨W, hW⟩ : ∃ W, W = (((w.alloc (.cells #[.int .u8 1] 5)).alloc (.cells #[.int .u8 2] 5)).alloc (.cells #[.int .u8 3] 5)).alloc (.cells #[.slice (some ⟨w.heap.size, 0, none⟩) 1 1, .slice (some ⟨w.heap.size + 1, 0, none⟩) 1 1, .slice (some ⟨w.heap.size + 1 + 1, 0, none⟩) 1 1] 39) := ⟨_, rfl⟩
  have hA : Below w.heap.size w W := by
    rw [hW]; exact ((((Below.refl w.heap.size w).alloc (Nat.le_refl _) _).alloc (by simp) _).alloc (by simp; omega) _).alloc (by simp; omega) _
  have hL : Ls W (.slice (some ⟨w.heap.size + 1 + 1 + 1, 0, none⟩) 3 3) L3 := by rw [hW]; exact ls3 w
  have AW : Aside (W = (((w.alloc (.cells #[.int .u8 1] 5)).alloc (.cells #[.int .u8 2] 5)).alloc (.cells #[.int .u8 3] 5)).alloc (.cells #[.slice (some ⟨w.heap.size, 0, none⟩) 1 1, .slice (some ⟨w.heap.size + 1, 0, none⟩) 1 1, .slice (some ⟨w.heap.size + 1 + 1, 0, none⟩) 1 1] 39)) := hW
  have P1 := prove_yes F E.toEnv W _ L3 hL short3 (by decide) 2 (by decide)
  have HL : Hid (Ls W (.slice (some ⟨w.heap.size + 1 + 1 + 1, 0, none⟩) 3 3) L3) := hL
  have HA : Hid (Below w.heap.size w W) := hA
  have HP2 : Hid (∀ y, Below W.heap.size W y → Calls Try.prog 13 #[.slice (some ⟨w.heap.size + 1 + 1 + 1, 0, none⟩) 3 3, .int .i64 0] y fun ev w' => ∃ ao cap, ev = .returned (.tuple #[.agg #[.int .i64 0, .int .i64 3, .slice ao 2 cap], .nilIface]) ∧ Hs w' (.slice ao 2 cap) (path F L3 0) ∧ Below y.heap.size y w') := fun y hy => by
    refine (prove_yes F E.toEnv y _ L3 (hL.below hy) short3 (by decide) 0 (by decide)).mono ?_
    rintro ev w' ⟨ao, cap, rfl, hH, _, hb⟩
    rw [path30] at hH ⊢
    exact ⟨ao, cap, rfl, hH, hb⟩
  have HP3 : Hid (∀ y, Calls Try.prog 13 #[.slice (some ⟨w.heap.size + 1 + 1 + 1, 0, none⟩) 3 3, .int .i64 3] y fun ev w' => ∃ b, ev = .returned (.tuple #[.agg #[.int .i64 0, .int .i64 0, .slice none 0 0], .iface 83 (.pointer (some ⟨b, 0, none⟩))]) ∧ Er w' (.iface 83 (.pointer (some ⟨b, 0, none⟩))) 2 0 ∧ Below y.heap.size y w') := fun y => prove_no y _ 3 3 3 (by omega)
  rw [path32] at P1
  clear hW hA hL
  go_enter Try.func10, Try.ntmps10
  go_wp2_with fail
  refine Calls_at_world AW.out ?_
  refine P1.mono ?_
  rintro ev w1 ⟨aa, ca, rfl, hH1, _, hb1⟩
  have b1 : ∀ (y : World) o, Below y.heap.size y (y.alloc o) := fun y o => (Below.refl _ _).alloc (Nat.le_refl _) _
  have N1 := Row.new w1 30 [.int .i64 0, .int .i64 0, .slice none 0 0]
  have A1 := b1 w1 (.cells #[.int .i64 0, .int .i64 0, .slice none 0 0] 30)
  have o1 := one3 2 3 aa 1 ca
  clear P1
  go_wp2_with (first | (refine store30 rfl _ _ rfl w1 w1.heap.size _ _ _ o1 rfl rfl _ _ _ N1 _ A1 (Nat.le_refl _) ?_; intro w2 R2 hb2 _))
  refine (HP2.out w2 (nextB hb1 hb2)).mono ?_
  rintro ev w3 ⟨ab, cb, rfl, hH3, hb3⟩
  have N3 := Row.new w3 30 [.int .i64 0, .int .i64 0, .slice none 0 0]
  have A3 := b1 w3 (.cells #[.int .i64 0, .int .i64 0, .slice none 0 0] 30)
  have o3 := one3 0 3 ab 2 cb
  clear HP2
  go_wp2_with (first | (refine store30 rfl _ _ rfl w3 w3.heap.size _ _ _ o3 rfl rfl _ _ _ N3 _ A3 (Nat.le_refl _) ?_; intro w4 R4 hb4 _))
  refine (HP3.out w4).mono ?_
  rintro ev w5 ⟨eb, rfl, hE5, hb5⟩
  have N5 := Row.new w5 30 [.int .i64 0, .int .i64 0, .slice none 0 0]
  have A5 := b1 w5 (.cells #[.int .i64 0, .int .i64 0, .slice none 0 0] 30)
  have o5 := one3 0 0 none 0 0
  clear HP3
  go_wp2_with (first | (refine store30 rfl _ _ rfl w5 w5.heap.size _ _ _ o5 rfl rfl _ _ _ N5 _ A5 (Nat.le_refl _) ?_; intro w6 R6 hb6 _))
  have hE6 := hE5.below hb6
  have h36 := nextB (nextB hb4 hb5) hb6
  have h26 := nextB hb3 h36
  have R2' := R2.below h26 R2.lt
  have R4' := (R4.below hb5 R4.lt).below hb6 (by have := R4.lt; have := hb5.size; omega)
  have hH6 := hH3.below h36
  have hW6 : Below W.heap.size W w6 := nextB (nextB hb1 hb2) h26
  have hL6 := HL.out.below hW6
  have hB6 : Below w.heap.size w w6 := nextB HA.out hW6
  have hr3 : (root F L3).length = 32 := E.len _
  have cA := R2'.cell 2
  simp only [List.getElem?_cons_zero, List.getElem?_cons_succ] at cA
  refine Code.wp_mono ?_ (reg10_any w6 (.slice (some ⟨w.heap.size + 1 + 1 + 1, 0, none⟩) 3 3) (.iface 83 (.pointer (some ⟨eb, 0, none⟩))) w1.heap.size w3.heap.size ca cb aa ab (bys (root F [])).toArray (bys (F [0, 120])).toArray (bys (root F L3)).toArray cA R4'
    (fun y => by rw [equ25 y (root F []) (root F []) (E.len _) (E.len _)]; simp) (fun y => by rw [equ25 y (F [0, 120]) (F [0, 120]) (E.len _) (E.len _)]; simp)
    (fun y _ => root_any F E.toEnv y _ [] ⟨.inl ⟨_, _, rfl, rfl⟩⟩ (fun b hb => by simp at hb) (by simp))
    (fun y g r _ => E.xsum y _ [2, 0, 0, 0, 0, 0, 0, 0, 0] r.sl (by simp))
    (fun y g r _ => leaf_any F E.toEnv y _ [120] r (by simp))
    (fun y g r _ => E.xsum y _ [0, 120] r.sl (by simp))
    (fun y hy => root_any F E.toEnv y _ L3 (hL6.below hy) short3 (by decide))
    (fun y g r hy => ?_) (fun y g r hy => ?_) (fun y hy => ?_) _ _ _ _ _ _ _ _ _ _ _ _ _ _ _ _ _ _ _ _ _ _ _ _ _ _ _ _ _ _ _ _ _ _ _ _ _ _ _ _ _ _ _ _ _ _ _ _ _ _ _ _ _ _ _ _ _ _ _ _ _ _ _ _ _ _ _ _ _ _ _ _)
  · rintro e a' w7 ⟨rfl, hd, h0, hb7⟩
    have HB : Hid (Below w.heap.size w w7) := nextB hB6 hb7
    have HD : Hid (a'.defers = []) := hd
    have H0 : Hid (a'.tmps.getD 0 undef = .bool true) := h0
    clear hd h0 hb7
    go_wp2_with fail
    refine bodyPost_ret (results_tmp Try.results10 _ _ _) HD.out ⟨?_, HB.out⟩
    rw [H0.out]
  · refine (check_any F E.toEnv y _ _ (root F L3) [1] 0 3 (path F L3 0) hr3 r.sl (by simp) (by omega) (hH6.below hy)).mono ?_
    rintro ev w' ⟨rfl, hb⟩
    exact ⟨by rw [chk31], hb⟩
  · refine (check_any F E.toEnv y _ _ (root F L3) [2] 0 3 (path F L3 0) hr3 r.sl (by simp) (by omega) (hH6.below hy)).mono ?_
    rintro ev w' ⟨rfl, hb⟩
    exact ⟨by rw [chk32 F E.apart], hb⟩
  · exact is_any y _ 2 0 2 0 (.inr (hE6.below hy)) rfl rfl
end Go.Proofs.Ytfkibbpekngciaa
