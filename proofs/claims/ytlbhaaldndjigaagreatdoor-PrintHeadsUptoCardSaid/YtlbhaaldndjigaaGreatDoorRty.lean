/-
  The document's Type.
-/
import Derived.Test.YtlbhaaldndjigaaGreatDoorJTo92
import Derived.Deep.RegionHeld3
namespace Go.Proofs.YtlbhaaldndjigaaGreatDoor
open Go.RowKit

def XTyT (m : Nat) : Prop := ∀ {K : Ctx} {w : World}, K.C ≤ w.heap.size → ∀ {t : Ty} {cs : List Value}, TyAt m K w cs t → (tyT t).length ≤ 140737488355328 →
    Calls Tryz.prog 12 #[.agg cs.toArray] w fun ev w' => ev = .returned (.string (str (tyT t))) ∧ Below w.heap.size w w'

set_option maxHeartbeats 8000000 in
set_option maxRecDepth 20000 in
theorem xtype_step {p : Nat} (ih : XTyT p) : XTyT (p + 1) := by
  intro K w hC t cs hx hlen
  obtain ⟨v2, v3, rfl, hn, h2, h3⟩ := hx
  obtain ⟨a2, n2, rfl, hc2, hb2, -⟩ := id h2.shape
  obtain ⟨a3, n3, rfl, hc3, hb3, hA3⟩ := id h3.shape
  obtain ⟨W, hW⟩ : ∃ W, W = w.alloc (.cells #[.int .i64 t.kind, .string (str t.name), .slice a2 t.lives.length n2, .slice a3 t.elem.length n3] 38) := ⟨_, rfl⟩
  have hA : Below w.heap.size w W := by rw [hW]; exact alloc_one w _
  have hKA := below_le hA hC
  have hsz : W.heap.size = w.heap.size + 1 := by rw [hW, size_alloc]
  have R1 : Row W w.heap.size 38 [.int .i64 t.kind, .string (str t.name), .slice a2 t.lives.length n2, .slice a3 t.elem.length n3] := by rw [hW]; exact Row.new w 38 [.int .i64 t.kind, .string (str t.name), .slice a2 t.lives.length n2, .slice a3 t.elem.length n3]
  have HB := hid0 hA
  have i2 : t.lives.length ≤ 9223372036854775807 := by omega
  have i3 : t.elem.length ≤ 9223372036854775807 := by omega
  by_cases k1 : t.kind = 1
  · have b1 : (t.kind == 1) = true := by rw [k1]; rfl
    rw [tyT_int k1]
    clear h2 h3 hA3 hlen hKA R1 k1 ih hA hsz
    generalize t.kind = kd at *
    generalize str t.name = X at *
    generalize t.lives.length = l1 at *
    generalize t.elem.length = l2 at *
    go_enter Tryz.func12, Tryz.ntmps12
    go_wp2_with fail
    rw [← hW]
    go_ret
    exact ⟨rfl, HB.out⟩
  have b1 : (t.kind == 1) = false := by simpa using k1
  by_cases k2 : t.kind = 2
  · have b2 : (t.kind == 2) = true := by rw [k2]; rfl
    rw [tyT_bool k2]
    clear h2 h3 hA3 hlen hKA R1 k1 k2 ih hA hsz
    generalize t.kind = kd at *
    generalize str t.name = X at *
    generalize t.lives.length = l1 at *
    generalize t.elem.length = l2 at *
    go_enter Tryz.func12, Tryz.ntmps12
    go_wp2_with fail
    rw [← hW]
    go_ret
    exact ⟨rfl, HB.out⟩
  have b2 : (t.kind == 2) = false := by simpa using k2
  by_cases k3 : t.kind = 3
  · have b3 : (t.kind == 3) = true := by rw [k3]; rfl
    rw [tyT_sct k3] at hlen ⊢
    rw [List.length_append] at hlen
    have HS : Hid (∀ y, (y = W ∨ y = W.drew) → y.cell? ⟨w.heap.size, 1, none⟩ = some (.string (str t.name)) ∧ y.cell? ⟨w.heap.size, 2, none⟩ = some (.slice a2 t.lives.length n2)) := by
      rintro y (rfl | rfl)
      · exact ⟨R1.cell 1, R1.cell 2⟩
      · exact ⟨R1.drew.cell 1, R1.drew.cell 2⟩
    have D : Hid (Calls Tryz.prog 26 #[.slice a2 t.lives.length n2] W.drew fun e w' => e = .returned (.string (str (markT t.lives))) ∧ w' = W.drew) := marks_any (K := K) (h2.below ⟨hKA.os, hKA.tape, hKA.output, hKA.size, hKA.block⟩) (by omega)
    have HE : Hid (Below w.heap.size w W.drew) := ⟨hA.os, hA.tape, hA.output, hA.size, hA.block⟩
    have s1 : str t.name ++ str (markT t.lives) = str (t.name ++ markT t.lives) := str_app _ _
    have n1 : ¬ 9223372036854775807 < (str t.name).size + (str (markT t.lives)).size := by rw [str_size, str_size]; omega
    have y0 : W.drew = W ∨ W.drew = W.drew := .inr rfl
    clear h2 h3 hA3 hlen hKA R1 k1 k2 k3 ih hA hsz HB
    generalize t.kind = kd at *
    generalize str (t.name ++ markT t.lives) = XY at *
    generalize str (markT t.lives) = Y at *
    generalize str t.name = X at *
    generalize t.lives.length = l1 at *
    generalize t.elem.length = l2 at *
    go_enter Tryz.func12, Tryz.ntmps12
    go_wp2_with fail
    rw [← hW]
    clear hW
    go_region_held3 (fun z => z.cell? ⟨w.heap.size, 1, none⟩ = some (.string X) ∧ z.cell? ⟨w.heap.size, 2, none⟩ = some (.slice a2 l1 n2)) (exact HS.out _ (.inr rfl)) (first | (go_at_call 26; refine D.out.mono ?_; rintro _ _ ⟨rfl, rfl⟩))
    go_wp2_with fail
    go_ret
    exact ⟨rfl, HE.out⟩
  have b3 : (t.kind == 3) = false := by simpa using k3
  by_cases k45 : t.kind = 4 ∨ t.kind = 5
  rotate_left
  · have b4 : (t.kind == 4) = false := by have : t.kind ≠ 4 := fun h => k45 (.inl h); simpa using this
    have b5 : (t.kind == 5) = false := by have : t.kind ≠ 5 := fun h => k45 (.inr h); simpa using this
    rw [tyT_else k1 k2 k3 (fun h => k45 (.inl h)) (fun h => k45 (.inr h))]
    clear h2 h3 hA3 hlen hKA R1 k1 k2 k3 k45 ih hA hsz
    generalize t.kind = kd at *
    generalize str t.name = X at *
    generalize t.lives.length = l1 at *
    generalize t.elem.length = l2 at *
    go_enter Tryz.func12, Tryz.ntmps12
    go_wp2_with fail
    rw [← hW]
    go_ret
    exact ⟨rfl, HB.out⟩
  by_cases he : 0 < t.elem.length
  rotate_left
  · rw [tyT_none k45 (by omega)]
    have e0 : t.elem.length = 0 := by omega
    rw [e0] at hW
    have b45 : (t.kind == 4) = true ∨ ((t.kind == 4) = false ∧ (t.kind == 5) = true) := by
      rcases k45 with h | h
      · left; rw [h]; rfl
      · right; exact ⟨by rw [h]; rfl, by rw [h]; rfl⟩
    rw [e0]
    clear h2 h3 hA3 hlen hKA R1 k1 k2 k3 k45 ih hA hsz he
    generalize t.kind = kd at *
    generalize str t.name = X at *
    generalize t.lives.length = l1 at *
    rcases b45 with b4 | ⟨b4, b5⟩
    · go_enter Tryz.func12, Tryz.ntmps12
      go_wp2_with fail
      rw [← hW]
      go_ret
      exact ⟨rfl, HB.out⟩
    · go_enter Tryz.func12, Tryz.ntmps12
      go_wp2_with fail
      rw [← hW]
      go_ret
      exact ⟨rfl, HB.out⟩
  have eT := tyT_ref k45 he
  rw [eT] at hlen ⊢
  simp only [List.length_append, List.length_cons, List.length_nil] at hlen
  obtain ⟨b', o', e, hbC, cs', hl', hcs, hx'⟩ := hA3 0 he
  subst e
  obtain ⟨c0, c1, c2, c3, rfl⟩ : ∃ c0 c1 c2 c3, cs' = [c0, c1, c2, c3] := by
    match cs', hl' with
    | [a, b, c, d], _ => exact ⟨a, b, c, d, rfl⟩
  have hcc : ∀ o j, j < 4 → (w.alloc o).cell? ⟨b', o' + j, none⟩ = [c0, c1, c2, c3][j]? := fun o j hj => by
    have h := ((below_le (alloc_one w o) hC).cell (p := ⟨b', o' + 0 * 4 + j, none⟩) hbC).trans (hcs j hj)
    simpa using h
  have x0 : ∀ o, (w.alloc o).cell? ⟨b', o', none⟩ = some c0 := fun o => hcc o 0 (by decide)
  have x1 : ∀ o, (w.alloc o).cell? ⟨b', o' + 1, none⟩ = some c1 := fun o => hcc o 1 (by decide)
  have x2 : ∀ o, (w.alloc o).cell? ⟨b', o' + 2, none⟩ = some c2 := fun o => hcc o 2 (by decide)
  have x3 : ∀ o, (w.alloc o).cell? ⟨b', o' + 3, none⟩ = some c3 := fun o => hcc o 3 (by decide)
  have D : Hid (Calls Tryz.prog 12 #[.agg #[c0, c1, c2, c3]] (w.alloc (.cells #[.int .i64 t.kind, .string (str t.name), .slice a2 t.lives.length n2, .slice (some ⟨b', o', none⟩) t.elem.length n3] 38)) fun ev w' => ev = .returned (.string (str (tyT t.elem[0]))) ∧ Below w.heap.size w w') := by
    rw [← hW]
    refine (ih (K := K) (by omega) (hx'.below hKA) (by omega)).mono ?_
    rintro _ _ ⟨rfl, h⟩
    exact ⟨rfl, hA.trans (below_le h (by omega))⟩
  clear hW R1 hA hKA HB hsz hcs hcc hx' hA3 h3 ih
  have b45 : ((t.kind == 4) = true ∧ (t.kind == 5) = false) ∨ ((t.kind == 4) = false ∧ (t.kind == 5) = true) := by
    rcases k45 with h | h
    · left; exact ⟨by rw [h]; rfl, by rw [h]; rfl⟩
    · right; exact ⟨by rw [h]; rfl, by rw [h]; rfl⟩
  have i4 : (t.elem.length : Int) ≠ 0 := by omega
  have i5 : ((t.elem.length : Int) == 0) = false := by simpa using i4
  have i6 : 0 < t.elem.length := he
  have k5 : (t.kind == 4) = true → t.kind ≠ 5 := by intro h h'; rw [h'] at h; cases h
  by_cases hl : 0 < t.lives.length
  · obtain ⟨ao, cap, ea, hc, hb, hA2⟩ := h2.at
    cases ea
    obtain ⟨bb, o, rfl, hbbC, hcell⟩ := hA2 0 hl
    have eL := liveT_ne hl
    rw [eL] at hlen ⊢
    have xl : ∀ q, (w.alloc q).cell? ⟨bb, o, none⟩ = some (.string (str t.lives[0])) := fun q => by
      have h := hcell (w.alloc q) (below_le (alloc_one w q) hC)
      simpa using h
    have j1 : (0 : Int) < (t.lives.length : Int) := by omega
    simp only [lifT, List.length_append, List.length_cons, List.length_nil] at hlen
    have s0 : (⟨#[38]⟩ : ByteArray) ++ ⟨#[39]⟩ = str [38, 39] := str_app [38] [39]
    have s1 : str [38, 39] ++ str t.lives[0] = str (([38, 39] : Bs) ++ t.lives[0]) := str_app [38, 39] _
    have s2 : str (([38, 39] : Bs) ++ t.lives[0]) ++ ⟨#[32]⟩ = str (([38, 39] : Bs) ++ t.lives[0] ++ [32]) := str_app _ [32]
    have n1 : ¬ 9223372036854775807 < (str [38, 39]).size + (str t.lives[0]).size := by rw [str_size, str_size]; simp only [List.length_cons, List.length_nil]; omega
    have n2' : ¬ 9223372036854775807 < (str (([38, 39] : Bs) ++ t.lives[0])).size + 1 := by rw [str_size, List.length_append]; simp only [List.length_cons, List.length_nil]; omega
    rcases b45 with ⟨b4, b5⟩ | ⟨b4, b5⟩
    · have h5 : t.kind ≠ 5 := by intro h; rw [h] at b5; cases b5
      rw [if_neg h5] at hlen ⊢
      have s4 : str (([38, 39] : Bs) ++ t.lives[0] ++ [32]) ++ str (tyT t.elem[0]) = str (([38] : Bs) ++ (lifT t.lives[0] ++ ([32] : Bs)) ++ ([] : Bs) ++ tyT t.elem[0]) := by rw [str_app]; simp [lifT]
      have n4 : ¬ 9223372036854775807 < (str (([38, 39] : Bs) ++ t.lives[0] ++ [32])).size + (str (tyT t.elem[0])).size := by rw [str_size, str_size]; simp only [List.length_append, List.length_cons, List.length_nil] at hlen ⊢; omega
      obtain ⟨R, hR⟩ : ∃ R, R = str (([38] : Bs) ++ (lifT t.lives[0] ++ ([32] : Bs)) ++ ([] : Bs) ++ tyT t.elem[0]) := ⟨_, rfl⟩
      rw [← hR] at s4 ⊢
      clear hR hlen hcell hA2 h2 eT k45 k1 k2 k3 hc hb eL hn h5 k5
      generalize tyT t.elem[0] = TE at *
      generalize str TE = XE at *
      generalize str (([38, 39] : Bs) ++ t.lives[0] ++ [32]) = X2 at *
      generalize str (([38, 39] : Bs) ++ t.lives[0]) = X1 at *
      generalize str t.lives[0] = XL at *
      generalize str [38, 39] = Xc at *
      generalize t.kind = kd at *
      generalize str t.name = X at *
      generalize t.lives.length = l1 at *
      generalize t.elem.length = l2 at *
      go_enter Tryz.func12, Tryz.ntmps12
      go_wp2_with fail
      refine D.out.mono ?_
      rintro ev w1 ⟨rfl, q1⟩
      go_wp2_with fail
      go_ret
      exact ⟨rfl, q1⟩
    · have h5 : t.kind = 5 := by simpa using b5
      rw [if_pos h5] at hlen ⊢
      have s3 : str (([38, 39] : Bs) ++ t.lives[0] ++ [32]) ++ ⟨#[109, 117, 116, 32]⟩ = str (([38, 39] : Bs) ++ t.lives[0] ++ [32] ++ [109, 117, 116, 32]) := str_app _ [109, 117, 116, 32]
      have n3' : ¬ 9223372036854775807 < (str (([38, 39] : Bs) ++ t.lives[0] ++ [32])).size + 4 := by rw [str_size]; simp only [List.length_append, List.length_cons, List.length_nil] at hlen ⊢; omega
      have s4 : str (([38, 39] : Bs) ++ t.lives[0] ++ [32] ++ [109, 117, 116, 32]) ++ str (tyT t.elem[0]) = str (([38] : Bs) ++ (lifT t.lives[0] ++ ([32] : Bs)) ++ ([109, 117, 116, 32] : Bs) ++ tyT t.elem[0]) := by rw [str_app]; simp [lifT]
      have n4 : ¬ 9223372036854775807 < (str (([38, 39] : Bs) ++ t.lives[0] ++ [32] ++ [109, 117, 116, 32])).size + (str (tyT t.elem[0])).size := by rw [str_size, str_size]; simp only [List.length_append, List.length_cons, List.length_nil] at hlen ⊢; omega
      obtain ⟨R, hR⟩ : ∃ R, R = str (([38] : Bs) ++ (lifT t.lives[0] ++ ([32] : Bs)) ++ ([109, 117, 116, 32] : Bs) ++ tyT t.elem[0]) := ⟨_, rfl⟩
      rw [← hR] at s4 ⊢
      clear hR hlen hcell hA2 h2 eT k45 k1 k2 k3 hc hb eL hn h5 k5
      generalize tyT t.elem[0] = TE at *
      generalize str TE = XE at *
      generalize str (([38, 39] : Bs) ++ t.lives[0] ++ [32] ++ [109, 117, 116, 32]) = X3 at *
      generalize str (([38, 39] : Bs) ++ t.lives[0] ++ [32]) = X2 at *
      generalize str (([38, 39] : Bs) ++ t.lives[0]) = X1 at *
      generalize str t.lives[0] = XL at *
      generalize str [38, 39] = Xc at *
      generalize t.kind = kd at *
      generalize str t.name = X at *
      generalize t.lives.length = l1 at *
      generalize t.elem.length = l2 at *
      go_enter Tryz.func12, Tryz.ntmps12
      go_wp2_with fail
      refine D.out.mono ?_
      rintro ev w1 ⟨rfl, q1⟩
      go_wp2_with fail
      go_ret
      exact ⟨rfl, q1⟩
  · have eL := liveT_no hl
    rw [eL] at hlen ⊢
    have j0 : t.lives.length = 0 := by omega
    rw [j0] at D ⊢
    rcases b45 with ⟨b4, b5⟩ | ⟨b4, b5⟩
    · have h5 : t.kind ≠ 5 := by intro h; rw [h] at b5; cases b5
      rw [if_neg h5] at hlen ⊢
      have s4 : (⟨#[38]⟩ : ByteArray) ++ str (tyT t.elem[0]) = str (([38] : Bs) ++ ([] : Bs) ++ ([] : Bs) ++ tyT t.elem[0]) := str_app [38] _
      have n4 : ¬ 9223372036854775807 < 1 + (str (tyT t.elem[0])).size := by rw [str_size]; simp only [List.length_nil] at hlen ⊢; omega
      obtain ⟨R, hR⟩ : ∃ R, R = str (([38] : Bs) ++ ([] : Bs) ++ ([] : Bs) ++ tyT t.elem[0]) := ⟨_, rfl⟩
      rw [← hR] at s4 ⊢
      clear hR hlen h2 eT k45 k1 k2 k3 hl eL hn h5 k5 j0
      generalize tyT t.elem[0] = TE at *
      generalize str TE = XE at *
      generalize t.kind = kd at *
      generalize str t.name = X at *
      generalize t.elem.length = l2 at *
      go_enter Tryz.func12, Tryz.ntmps12
      go_wp2_with fail
      refine D.out.mono ?_
      rintro ev w1 ⟨rfl, q1⟩
      go_wp2_with fail
      go_ret
      exact ⟨rfl, q1⟩
    · have h5 : t.kind = 5 := by simpa using b5
      rw [if_pos h5] at hlen ⊢
      have s3 : (⟨#[38]⟩ : ByteArray) ++ ⟨#[109, 117, 116, 32]⟩ = str [38, 109, 117, 116, 32] := str_app [38] [109, 117, 116, 32]
      have s4 : str [38, 109, 117, 116, 32] ++ str (tyT t.elem[0]) = str (([38] : Bs) ++ ([] : Bs) ++ ([109, 117, 116, 32] : Bs) ++ tyT t.elem[0]) := str_app [38, 109, 117, 116, 32] _
      have n4 : ¬ 9223372036854775807 < (str [38, 109, 117, 116, 32]).size + (str (tyT t.elem[0])).size := by rw [str_size, str_size]; simp only [List.length_nil, List.length_cons] at hlen ⊢; omega
      obtain ⟨R, hR⟩ : ∃ R, R = str (([38] : Bs) ++ ([] : Bs) ++ ([109, 117, 116, 32] : Bs) ++ tyT t.elem[0]) := ⟨_, rfl⟩
      rw [← hR] at s4 ⊢
      clear hR hlen h2 eT k45 k1 k2 k3 hl eL hn h5 k5 j0
      generalize tyT t.elem[0] = TE at *
      generalize str TE = XE at *
      generalize str [38, 109, 117, 116, 32] = Xc at *
      generalize t.kind = kd at *
      generalize str t.name = X at *
      generalize t.elem.length = l2 at *
      go_enter Tryz.func12, Tryz.ntmps12
      go_wp2_with fail
      refine D.out.mono ?_
      rintro ev w1 ⟨rfl, q1⟩
      go_wp2_with fail
      go_ret
      exact ⟨rfl, q1⟩
theorem xtype_any : ∀ m, XTyT m
  | 0 => fun _ _ _ hx => hx.elim
  | m + 1 => xtype_step (xtype_any m)
end Go.Proofs.YtlbhaaldndjigaaGreatDoor
