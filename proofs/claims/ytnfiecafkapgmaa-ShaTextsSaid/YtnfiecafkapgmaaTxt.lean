/-
  ShaTexts' walk.
-/
import Derived.Test.YtnfiecafkapgmaaBck
import Derived.Test.YtnfiecafkapgmaaXhx
import Derived.Test.YtnfiecafkapgmaaXps
namespace Go.Proofs.Ytnfiecafkapgmaa
open Go.RowKit

/-- The four texts that ShaTexts parses. -/
def fourTexts (A l : List UInt8) : List (List UInt8) := [l, hexF A, hexF A ++ l, (hexF A).take 63]
def strCells (L : List (List UInt8)) : List Value := L.map fun t => Value.string (str t)
theorem less_self (A : List UInt8) : less A A = false := by
  have := less_both A A
  simpa using this
theorem str_cut (l : List UInt8) (n : Nat) : (str l).extract 0 n = str (l.take n) := by
  apply ByteArray.ext
  simp [str]
theorem fourTexts_len (A l : List UInt8) (hA : A.length = 32) (hl : l.length ≤ 200) (k : Nat) : ((fourTexts A l).getD k []).length ≤ 1000 := by
  have h := hexF_len A
  unfold fourTexts
  match k with
  | 0 => simp [List.getD]; omega
  | 1 => simp [List.getD]; omega
  | 2 => simp [List.getD]; omega
  | 3 => simp [List.getD]; omega
  | k + 4 => simp [List.getD]

theorem er_past {w w' : World} {e : Value} {c p : Nat} (h : ErO w e c p) (hb : Below w.heap.size w w') : ErO w' e c p := by
  rcases h with h | ⟨h0, h⟩
  · exact .inl h
  · exact .inr ⟨h0, h.below hb⟩
theorem er_both {w : World} {e : Value} {c p : Nat} (h : ErO w e c p) : (c = 0 ∧ p = 0 ∧ e = .nilIface) ∨ Er w e c p := by
  rcases h with h | ⟨_, h⟩
  · exact .inl h
  · exact .inr h

attribute [local go_sem ↓] Go.wp_at_zero Go.wp_at_succ
set_option maxHeartbeats 8000000 in
set_option maxRecDepth 20000 in
theorem texts_walk (w : World) (A B l : List UInt8) (hA : A.length = 32) (hB : B.length = 32) (hl : l.length ≤ 9223372036854775807) :
    Calls Try.prog 4 #[.agg (bys A).toArray, .agg (bys B).toArray, .string (str l)] w fun ev w' => ev = .returned (.bool true) ∧ Below w.heap.size w w' := by
  obtain ⟨W, hW⟩ : ∃ W, W = (w.alloc (.cells (bys A).toArray 25)).alloc (.cells (bys B).toArray 25) := ⟨_, rfl⟩
  have r1 : Row W w.heap.size 25 (bys A) := by rw [hW]; exact (Row.new w 25 (bys A)).below ((Below.refl _ _).alloc (Nat.le_refl _) _) (by simp)
  have r2 : Row W (w.heap.size + 1) 25 (bys B) := by
    have := Row.new (w.alloc (.cells (bys A).toArray 25)) 25 (bys B)
    rw [hW]; simpa using this
  have hBW : Below w.heap.size w W := by rw [hW]; exact ((Below.refl w.heap.size w).alloc (Nat.le_refl _) _).alloc (by simp) _
  have HRG : Hid (∀ y, Below W.heap.size W y → y.rangeAt w.heap.size 0 (bys A) ∧ y.rangeAt (w.heap.size + 1) 0 (bys B)) := fun y hb => ⟨(r1.below hb r1.lt).range, (r2.below hb r2.lt).range⟩
  have AW : Aside (W = (w.alloc (.cells (bys A).toArray 25)).alloc (.cells (bys B).toArray 25)) := hW
  have HBW : Hid (Below w.heap.size w W) := hBW
  have hsz : (str l).size = l.length := str_size l
  clear hW r1 r2 hBW
  by_cases hbig : 200 < l.length
  · have C := told_any W
    have hbig' : (200 : Int) < (l.length : Int) := by omega
    generalize str l = SL at *
    clear HRG
    generalize (bys A).toArray = Y1 at *
    generalize (bys B).toArray = Y2 at *
    go_enter Try.func4, Try.ntmps4
    go_wp2_with fail
    rw [← AW.out]
    refine C.mono ?_
    rintro ev w1 ⟨rfl, hb⟩
    go_wp2_with fail
    go_ret
    exact ⟨rfl, HBW.out.trans (hb.mono HBW.out.size)⟩
  · have hl2 : l.length ≤ 200 := by omega
    clear hl
    have H10 : Hid (∀ y, (Below W.heap.size W y ∧ y.rangeAt w.heap.size 0 (bys A) ∧ y.rangeAt (w.heap.size + 1) 0 (bys B)) → Calls Try.prog 10 #[.agg (bys A).toArray] y fun ev y' => ev = .returned (.string (str (hexF A))) ∧ (Below W.heap.size W y' ∧ y'.rangeAt w.heap.size 0 (bys A) ∧ y'.rangeAt (w.heap.size + 1) 0 (bys B))) := by
      intro y hy
      refine (xhex_any y A hA).mono ?_
      rintro ev y' ⟨rfl, hb⟩
      have hb' := hy.1.trans (hb.mono hy.1.size)
      exact ⟨rfl, hb', HRG.out y' hb'⟩
    have H14 : Hid (∀ y, (Below W.heap.size W y ∧ y.rangeAt w.heap.size 0 (bys A) ∧ y.rangeAt (w.heap.size + 1) 0 (bys B)) → Calls Try.prog 14 #[.agg (bys A).toArray] y fun ev y' => ev = .returned (.string (str (hexF A))) ∧ (Below W.heap.size W y' ∧ y'.rangeAt w.heap.size 0 (bys A) ∧ y'.rangeAt (w.heap.size + 1) 0 (bys B))) := by
      intro y hy
      refine (hex_any y A hA).mono ?_
      rintro ev y' ⟨rfl, hb⟩
      have hb' := hy.1.trans (hb.mono hy.1.size)
      exact ⟨rfl, hb', HRG.out y' hb'⟩
    have H7 : Hid (∀ y, (Below W.heap.size W y ∧ y.rangeAt w.heap.size 0 (bys A) ∧ y.rangeAt (w.heap.size + 1) 0 (bys B)) → Calls Try.prog 7 #[] y fun ev y' => ev = .returned (.bool true) ∧ (Below W.heap.size W y' ∧ y'.rangeAt w.heap.size 0 (bys A) ∧ y'.rangeAt (w.heap.size + 1) 0 (bys B))) := by
      intro y hy
      refine (told_any y).mono ?_
      rintro ev y' ⟨rfl, hb⟩
      have hb' := hy.1.trans (hb.mono hy.1.size)
      exact ⟨rfl, hb', HRG.out y' hb'⟩
    have L1 : Hid (∀ y, (Below W.heap.size W y ∧ y.rangeAt w.heap.size 0 (bys A) ∧ y.rangeAt (w.heap.size + 1) 0 (bys B)) → Calls Try.prog 15 #[.agg (bys A).toArray, .agg (bys B).toArray] y fun ev y' => ev = .returned (.bool (less A B)) ∧ (Below W.heap.size W y' ∧ y'.rangeAt w.heap.size 0 (bys A) ∧ y'.rangeAt (w.heap.size + 1) 0 (bys B))) := by
      intro y hy
      refine (less_any y A B hA hB).mono ?_
      rintro ev y' ⟨rfl, hb⟩
      have hb' := hy.1.trans (hb.mono hy.1.size)
      exact ⟨rfl, hb', HRG.out y' hb'⟩
    have L2 : Hid (∀ y, (Below W.heap.size W y ∧ y.rangeAt w.heap.size 0 (bys A) ∧ y.rangeAt (w.heap.size + 1) 0 (bys B)) → Calls Try.prog 15 #[.agg (bys B).toArray, .agg (bys A).toArray] y fun ev y' => ev = .returned (.bool (less B A)) ∧ (Below W.heap.size W y' ∧ y'.rangeAt w.heap.size 0 (bys A) ∧ y'.rangeAt (w.heap.size + 1) 0 (bys B))) := by
      intro y hy
      refine (less_any y B A hB hA).mono ?_
      rintro ev y' ⟨rfl, hb⟩
      have hb' := hy.1.trans (hb.mono hy.1.size)
      exact ⟨rfl, hb', HRG.out y' hb'⟩
    have X1 : Hid (∀ y, (Below W.heap.size W y ∧ y.rangeAt w.heap.size 0 (bys A) ∧ y.rangeAt (w.heap.size + 1) 0 (bys B)) → Calls Try.prog 16 #[.agg (bys A).toArray, .agg (bys B).toArray] y fun ev y' => ev = .returned (.bool (less A B)) ∧ (Below W.heap.size W y' ∧ y'.rangeAt w.heap.size 0 (bys A) ∧ y'.rangeAt (w.heap.size + 1) 0 (bys B))) := by
      intro y hy
      refine (xless_any y A B hA hB).mono ?_
      rintro ev y' ⟨rfl, hb⟩
      have hb' := hy.1.trans (hb.mono hy.1.size)
      exact ⟨rfl, hb', HRG.out y' hb'⟩
    have X2 : Hid (∀ y, (Below W.heap.size W y ∧ y.rangeAt w.heap.size 0 (bys A) ∧ y.rangeAt (w.heap.size + 1) 0 (bys B)) → Calls Try.prog 16 #[.agg (bys B).toArray, .agg (bys A).toArray] y fun ev y' => ev = .returned (.bool (less B A)) ∧ (Below W.heap.size W y' ∧ y'.rangeAt w.heap.size 0 (bys A) ∧ y'.rangeAt (w.heap.size + 1) 0 (bys B))) := by
      intro y hy
      refine (xless_any y B A hB hA).mono ?_
      rintro ev y' ⟨rfl, hb⟩
      have hb' := hy.1.trans (hb.mono hy.1.size)
      exact ⟨rfl, hb', HRG.out y' hb'⟩
    have L3 : Hid (∀ y, (Below W.heap.size W y ∧ y.rangeAt w.heap.size 0 (bys A) ∧ y.rangeAt (w.heap.size + 1) 0 (bys B)) → Calls Try.prog 15 #[.agg (bys A).toArray, .agg (bys A).toArray] y fun ev y' => ev = .returned (.bool (less A A)) ∧ (Below W.heap.size W y' ∧ y'.rangeAt w.heap.size 0 (bys A) ∧ y'.rangeAt (w.heap.size + 1) 0 (bys B))) := by
      intro y hy
      refine (less_any y A A hA hA).mono ?_
      rintro ev y' ⟨rfl, hb⟩
      have hb' := hy.1.trans (hb.mono hy.1.size)
      exact ⟨rfl, hb', HRG.out y' hb'⟩
    rw [less_self A] at L3
    have HAL : Hid (∀ (y : World) (o : Obj), (Below W.heap.size W y ∧ y.rangeAt w.heap.size 0 (bys A) ∧ y.rangeAt (w.heap.size + 1) 0 (bys B)) → (Below W.heap.size W (y.alloc o) ∧ (y.alloc o).rangeAt w.heap.size 0 (bys A) ∧ (y.alloc o).rangeAt (w.heap.size + 1) 0 (bys B))) := fun y o hy => ⟨hy.1.alloc hy.1.size o, HRG.out _ (hy.1.alloc hy.1.size o)⟩
    have HBE : Hid (∀ y y' : World, (Below W.heap.size W y ∧ y.rangeAt w.heap.size 0 (bys A) ∧ y.rangeAt (w.heap.size + 1) 0 (bys B)) → Below y.heap.size y y' → (Below W.heap.size W y' ∧ y'.rangeAt w.heap.size 0 (bys A) ∧ y'.rangeAt (w.heap.size + 1) 0 (bys B))) := fun y y' hy hb => ⟨hy.1.trans (hb.mono hy.1.size), HRG.out _ (hy.1.trans (hb.mono hy.1.size))⟩
    have HDR : Hid (∀ y : World, (Below W.heap.size W y ∧ y.rangeAt w.heap.size 0 (bys A) ∧ y.rangeAt (w.heap.size + 1) 0 (bys B)) → (Below W.heap.size W y.drew ∧ y.drew.rangeAt w.heap.size 0 (bys A) ∧ y.drew.rangeAt (w.heap.size + 1) 0 (bys B))) := fun y hy => ⟨hy.1.drew, HRG.out _ hy.1.drew⟩
    have hS0 : Below W.heap.size W W.drew ∧ W.drew.rangeAt w.heap.size 0 (bys A) ∧ W.drew.rangeAt (w.heap.size + 1) 0 (bys B) := ⟨(Below.refl _ _).drew, HRG.out _ (Below.refl _ _).drew⟩
    have hlA : (Try.prog.info? 25).map (·.size) = some (bys A).length := by rw [bys_len, hA]; exact Try.info25
    have hlB : (Try.prog.info? 25).map (·.size) = some (bys B).length := by rw [bys_len, hB]; exact Try.info25
    have hsA : (str (hexF A)).size = 64 := by rw [str_size, hexF_len, hA]
    have HT : Hid (∀ (y : World), Row (y.alloc (.cells #[.string (str l), .string (str (hexF A)), .string (str (hexF A) ++ str l), .string ((str (hexF A)).extract 0 63)] 9)) y.heap.size 9 (strCells (fourTexts A l))) := by
      intro y
      have := Row.new y 9 (strCells (fourTexts A l))
      rw [str_app, str_cut]
      exact this
    have HT4 : Hid ((fourTexts A l).length = 4) := rfl
    have HTL : Hid (∀ k, ((fourTexts A l).getD k []).length ≤ 1000) := fourTexts_len A l hA hl2
    have hl200 : ¬ (200 : Int) < (l.length : Int) := by omega
    have hadd : 64 + l.length ≤ 9223372036854775807 := by omega
    clear HRG hA hB
    generalize hSA : str (hexF A) = SA at *
    generalize hSL : str l = SL at *
    generalize fourTexts A l = TT at *
    generalize bys A = YA at *
    generalize bys B = YB at *
    generalize less A B = p1 at *
    generalize less B A = p2 at *
    go_enter Try.func4, Try.ntmps4
    go_wp2_with fail
    refine wp_at AW.out ?_
    refine wp_region_held_drew (S := fun y => Below W.heap.size W y ∧ y.rangeAt w.heap.size 0 YA ∧ y.rangeAt (w.heap.size + 1) 0 YB) (by kernel_rfl) hS0 (fun hHeld => ?_)
    clear hS0
    refine take_at 0 (v := .string SL) rfl (some 18) rfl (by kernel_rfl) (by kernel_rfl) (by kernel_rfl) (fun _ _ _ h => h) (Or.inl ⟨by rfl, fun y hy => ?_⟩) (by assumption) ?_
    · go_simp
    simp only [Act.put, List.setIfInBounds_toArray, List.set_cons_zero, List.set_cons_succ]
    refine take_at 1 (v := .agg YA.toArray) rfl (some 19) rfl (by kernel_rfl) (by kernel_rfl) (by kernel_rfl) (fun _ _ _ h => h) (yieldsIf_load_mid (by rfl) 25 _ rfl w.heap.size 0 rfl YA _ (fun y hy => hy.2.1) Try.underlying25 rfl hlA) (by assumption) ?_
    simp only [Act.put, List.setIfInBounds_toArray, List.set_cons_zero, List.set_cons_succ]
    refine take_at 3 (v := .agg YA.toArray) rfl (some 21) rfl (by kernel_rfl) (by kernel_rfl) (by kernel_rfl) (fun _ _ _ h => h) (yieldsIf_load_mid (by rfl) 25 _ rfl w.heap.size 0 rfl YA _ (fun y hy => hy.2.1) Try.underlying25 rfl hlA) (by assumption) ?_
    simp only [Act.put, List.setIfInBounds_toArray, List.set_cons_zero, List.set_cons_succ]
    refine take_at 5 (v := .string SL) rfl (some 23) rfl (by kernel_rfl) (by kernel_rfl) (by kernel_rfl) (fun _ _ _ h => h) (Or.inl ⟨by rfl, fun y hy => ?_⟩) (by assumption) ?_
    · go_simp
    simp only [Act.put, List.setIfInBounds_toArray, List.set_cons_zero, List.set_cons_succ]
    refine take_at 7 (v := .agg YA.toArray) rfl (some 25) rfl (by kernel_rfl) (by kernel_rfl) (by kernel_rfl) (fun _ _ _ h => h) (yieldsIf_load_mid (by rfl) 25 _ rfl w.heap.size 0 rfl YA _ (fun y hy => hy.2.1) Try.underlying25 rfl hlA) (by assumption) ?_
    simp only [Act.put, List.setIfInBounds_toArray, List.set_cons_zero, List.set_cons_succ]
    refine take_at 12 (v := .int .i64 0) rfl (some 30) rfl (by kernel_rfl) (by kernel_rfl) (by kernel_rfl) (fun _ _ _ h => h) (Or.inl ⟨by rfl, fun y hy => ?_⟩) (by assumption) ?_
    · go_simp
    simp only [Act.put, List.setIfInBounds_toArray, List.set_cons_zero, List.set_cons_succ]
    refine wpAnyH_ready (rs := [2]) (by kernel_rfl) (by simp) ?_
    refine AllReadyH.cons rfl (fun K hK => ?_) AllReadyH.nil
    go_simp
    go_wp2_with (go_at_call 10; refine (H10.out _ (by assumption)).mono ?_; clear hHeld; rintro ev w2 ⟨rfl, hHeld⟩)
    refine hK.out _ _ (by assumption) (fun _ => ?_)
    clear hK K
    refine wpAnyH_ready (rs := [4]) (by kernel_rfl) (by simp) ?_
    refine AllReadyH.cons rfl (fun K hK => ?_) AllReadyH.nil
    go_simp
    go_wp2_with (go_at_call 10; refine (H10.out _ (by assumption)).mono ?_; clear hHeld; rintro ev w4 ⟨rfl, hHeld⟩)
    refine hK.out _ _ (by assumption) (fun _ => ?_)
    clear hK K
    refine take_at 6 (v := .string (SA ++ SL)) rfl (some 24) rfl (by kernel_rfl) (by kernel_rfl) (by kernel_rfl) (fun _ _ _ h => h) (Or.inl ⟨by rfl, fun y hy => ?_⟩) (by assumption) ?_
    · go_simp
    simp only [Act.put, List.setIfInBounds_toArray, List.set_cons_zero, List.set_cons_succ]
    refine wpAnyH_ready (rs := [8]) (by kernel_rfl) (by simp) ?_
    refine AllReadyH.cons rfl (fun K hK => ?_) AllReadyH.nil
    go_simp
    go_wp2_with (go_at_call 10; refine (H10.out _ (by assumption)).mono ?_; clear hHeld; rintro ev w8 ⟨rfl, hHeld⟩)
    refine hK.out _ _ (by assumption) (fun _ => ?_)
    clear hK K
    refine take_at 9 (v := .string (SA.extract 0 63)) rfl (some 27) rfl (by kernel_rfl) (by kernel_rfl) (by kernel_rfl) (fun _ _ _ h => h) (Or.inl ⟨by rfl, fun y hy => ?_⟩) (by assumption) ?_
    · go_simp
    simp only [Act.put, List.setIfInBounds_toArray, List.set_cons_zero, List.set_cons_succ]
    refine wpAnyH_ready (rs := [10]) (by kernel_rfl) (by simp) ?_
    refine AllReadyH.cons rfl (fun K hK => ?_) AllReadyH.nil
    go_simp
    refine hK.out _ _ (HAL.out _ _ hHeld) (fun hHeld10 => ?_)
    clear hK K
    refine take_at 11 (v := .int .i64 4) rfl (some 29) rfl (by kernel_rfl) (by kernel_rfl) (by kernel_rfl) (fun _ _ _ h => h) (Or.inl ⟨by rfl, fun y hy => ?_⟩) (by assumption) ?_
    · go_simp
    simp only [Act.put, List.setIfInBounds_toArray, List.set_cons_zero, List.set_cons_succ]
    refine wpAnyH_done (by kernel_rfl) ?_ _
    have HG : Hid (Row (w8.alloc (.cells #[.string SL, .string SA, .string (SA ++ SL), .string (SA.extract 0 63)] 9)) w8.heap.size 9 (strCells TT)) := HT.out w8
    have HH : Hid (Below W.heap.size W (w8.alloc (.cells #[.string SL, .string SA, .string (SA ++ SL), .string (SA.extract 0 63)] 9)) ∧ (w8.alloc (.cells #[.string SL, .string SA, .string (SA ++ SL), .string (SA.extract 0 63)] 9)).rangeAt w.heap.size 0 YA ∧ (w8.alloc (.cells #[.string SL, .string SA, .string (SA ++ SL), .string (SA.extract 0 63)] 9)).rangeAt (w.heap.size + 1) 0 YB) := hHeld10
    clear hHeld10 hHeld HAL HT hadd hl200
    go_wp2_with fail
    generalize w8.heap.size = gs at *
    have htt : TT.length = 4 := HT4.out
    go_loopw [30] (fun i wr => ∃ k : Nat, k ≤ 4 ∧ i = .int .i64 k ∧ Row wr gs 9 (strCells TT) ∧ (Below W.heap.size W wr ∧ wr.rangeAt w.heap.size 0 YA ∧ wr.rangeAt (w.heap.size + 1) 0 YB)) (fun i _ => 4 - (intOf i).toNat)
    case atStart => exact ⟨0, by omega, rfl, HG.out, HH.out⟩
    case round =>
      obtain ⟨k, hk, rfl, hRow, hS⟩ := hrel
      clear HG HH
      by_cases hk3 : k < 4
      · have q0 : wr.cell? ⟨gs, k, none⟩ = some (.string (str (TT.getD k []))) := by
          rw [hRow.cell k]
          simp [strCells, List.getD, List.getElem?_eq_getElem (show k < TT.length by omega)]
        have htl := HTL.out k
        generalize TT.getD k [] = T at *
        have C1 := parse_any wr T (by omega)
        have C2 : Hid (∀ y, Calls Try.prog 12 #[.string (str T)] y fun ev w' => ev = .returned (.tuple #[.agg (bys (parseF T).1).toArray, .int .i64 ((parseF T).2.1 : Int), .int .i64 ((parseF T).2.2 : Int)]) ∧ Below y.heap.size y w') := fun y => xparse_any y T (by omega)
        have hP32 := parseF_len T
        have hiP : (Try.prog.info? 25).map (·.size) = some (bys (parseF T).1).toArray.size := by rw [List.size_toArray, bys_len, hP32]; exact Try.info25
        have hzP : (bys (parseF T).1).toArray.size = 32 := by rw [List.size_toArray, bys_len, hP32]
        have honeP := all_one (bys_one (parseF T).1)
        have kq : ∀ w : World, (Op.equalIn 10000 25 (.agg (bys (parseF T).1).toArray) (.agg (bys (parseF T).1).toArray)).run Try.prog w = .ok true w := fun w => by rw [equ25 w _ _ hP32 hP32, beq_self_eq_true]
        clear hP32
        generalize str T = ST at *
        generalize (bys (parseF T).1).toArray = YP at *
        generalize (parseF T).2.1 = c at *
        generalize (parseF T).2.2 = pl at *
        have AR : Aside (Row wr gs 9 (strCells TT)) := hRow
        have AS : Aside (Below W.heap.size W wr ∧ wr.rangeAt w.heap.size 0 YA ∧ wr.rangeAt (w.heap.size + 1) 0 YB) := hS
        clear hRow hS
        have l1 : (k : Int) < 4 := by omega
        go_wp2_with fail
        refine C1.mono ?_
        rintro ev wA ⟨e, rfl, hE, hbA⟩
        have hEs : e = .nilIface ∨ ∃ b, e = .iface 62 (.pointer (some ⟨b, 0, none⟩)) := by
          rcases hE with ⟨_, _, h⟩ | ⟨_, h⟩
          · exact .inl h
          · obtain ⟨b, h, _⟩ := h.shape
            exact .inr ⟨b, h⟩
        have AE : Aside (ErO wA e c pl) := hE
        clear hE C1
        rcases hEs with rfl | ⟨be, rfl⟩
        all_goals
          go_wp2_with (refine store_box rfl 25 _ _ rfl wA.heap.size YP rfl rfl 25 _ (heap_alloc_new wA _) hiP (by rw [hzP]; rfl) honeP wA ((Below.refl _ wA).alloc (Nat.le_refl _) _) ?_; intro wB GB hbB)
          refine (C2.out wB).mono ?_
          rintro ev wC ⟨rfl, hbC⟩
          have GC : wC.heap[wA.heap.size]? = some (.cells YP 25 (0, 0)) := by rw [hbC.block wA.heap.size (Array.getElem?_eq_some_iff.1 GB).1]; exact GB
          have hbAC : Below wA.heap.size wA wC := hbB.trans (hbC.mono hbB.size)
          clear GB hbC hbB
          go_wp2_with (first | (refine store_box rfl 25 _ _ rfl wC.heap.size YP rfl rfl 25 _ (heap_alloc_new wC _) hiP (by rw [hzP]; rfl) honeP wC ((Below.refl _ wC).alloc (Nat.le_refl _) _) ?_; intro wD GD hbD; have GE : wD.heap[wA.heap.size]? = some (.cells YP 25 (0, 0)) := (by rw [hbD.block wA.heap.size (Array.getElem?_eq_some_iff.1 GC).1]; exact GC)) | (refine wpList_load_row rfl 25 _ rfl wA.heap.size rfl 25 YP (0, 0) _ GE Try.underlying25 rfl hiP ?_) | (refine wpList_load_row rfl 25 _ rfl wC.heap.size rfl 25 YP (0, 0) _ GD Try.underlying25 rfl hiP ?_))
          have hbAD : Below wA.heap.size wA wD := hbAC.trans (hbD.mono hbAC.size)
          have C3 := is_any wD _ c pl (c : Int) (pl : Int) (er_both (er_past AE.out hbAD)) rfl rfl
          have HF : Hid (Below wr.heap.size wr wD) := hbA.trans (hbAD.mono hbA.size)
          clear hbAC hbD hbAD hbA AE GC
          refine C3.mono ?_
          rintro ev wE ⟨rfl, hbE⟩
          have hbF := HF.out.trans (hbE.mono HF.out.size)
          have AN : Aside (Row wE gs 9 (strCells TT)) := AR.out.below hbF AR.out.lt
          have AM : Aside (Below W.heap.size W wE ∧ wE.rangeAt w.heap.size 0 YA ∧ wE.rangeAt (w.heap.size + 1) 0 YB) := HBE.out wr wE AS.out hbF
          clear hbE hbF HF C3
          go_wp2_with fail
          go_roundw
          case rel => exact ⟨k + 1, by omega, by go_num, AN.out, AM.out⟩
          case measure => simp [intOf]; omega
      · have hk4 : (k : Int) = 4 := by omega
        rw [hk4]
        have hS1 : Below W.heap.size W wr.drew ∧ wr.drew.rangeAt w.heap.size 0 YA ∧ wr.drew.rangeAt (w.heap.size + 1) 0 YB := HDR.out wr hS
        clear hk4 hk hk3 hRow hS HBE HDR HTL
        clear k
        go_wp2_with fail
        refine wp_region_held_drew (S := fun y => Below W.heap.size W y ∧ y.rangeAt w.heap.size 0 YA ∧ y.rangeAt (w.heap.size + 1) 0 YB) (by kernel_rfl) hS1 (fun hHeld => ?_)
        clear hS1
        refine wpAnyH_ready (rs := [0]) (by kernel_rfl) (by simp) ?_
        refine AllReadyH.cons rfl (fun K hK => ?_) AllReadyH.nil
        go_simp
        go_wp2_with (go_at_call 7; refine (H7.out _ (by assumption)).mono ?_; clear hHeld; rintro ev w0 ⟨rfl, hHeld⟩)
        refine hK.out _ _ (by assumption) (fun _ => ?_)
        clear hK K
        refine take_at 1 (v := .bool true) rfl (some 57) rfl (by kernel_rfl) (by kernel_rfl) (by kernel_rfl) (fun _ _ _ h => h) (Or.inl ⟨by rfl, fun y hy => ?_⟩) (by assumption) ?_
        · go_simp
        simp only [Act.put, List.setIfInBounds_toArray, List.set_cons_zero, List.set_cons_succ]
        refine take_at 2 (v := .agg YA.toArray) rfl (some 58) rfl (by kernel_rfl) (by kernel_rfl) (by kernel_rfl) (fun _ _ _ h => h) (yieldsIf_load_mid (by rfl) 25 _ rfl w.heap.size 0 rfl YA _ (fun y hy => hy.2.1) Try.underlying25 rfl hlA) (by assumption) ?_
        simp only [Act.put, List.setIfInBounds_toArray, List.set_cons_zero, List.set_cons_succ]
        refine take_at 4 (v := .agg YA.toArray) rfl (some 60) rfl (by kernel_rfl) (by kernel_rfl) (by kernel_rfl) (fun _ _ _ h => h) (yieldsIf_load_mid (by rfl) 25 _ rfl w.heap.size 0 rfl YA _ (fun y hy => hy.2.1) Try.underlying25 rfl hlA) (by assumption) ?_
        simp only [Act.put, List.setIfInBounds_toArray, List.set_cons_zero, List.set_cons_succ]
        refine wpAnyH_ready (rs := [3]) (by kernel_rfl) (by simp) ?_
        refine AllReadyH.cons rfl (fun K hK => ?_) AllReadyH.nil
        go_simp
        go_wp2_with (go_at_call 14; refine (H14.out _ (by assumption)).mono ?_; clear hHeld; rintro ev w3 ⟨rfl, hHeld⟩)
        refine hK.out _ _ (by assumption) (fun _ => ?_)
        clear hK K
        refine wpAnyH_ready (rs := [5]) (by kernel_rfl) (by simp) ?_
        refine AllReadyH.cons rfl (fun K hK => ?_) AllReadyH.nil
        go_simp
        go_wp2_with (go_at_call 10; refine (H10.out _ (by assumption)).mono ?_; clear hHeld; rintro ev w5 ⟨rfl, hHeld⟩)
        refine hK.out _ _ (by assumption) (fun _ => ?_)
        clear hK K
        refine take_at 6 (v := .bool true) rfl (some 62) rfl (by kernel_rfl) (by kernel_rfl) (by kernel_rfl) (fun _ _ _ h => h) (Or.inl ⟨by rfl, fun y hy => ?_⟩) (by assumption) ?_
        · go_simp
        simp only [Act.put, List.setIfInBounds_toArray, List.set_cons_zero, List.set_cons_succ]
        refine take_at 7 (v := .bool true) rfl (some 63) rfl (by kernel_rfl) (by kernel_rfl) (by kernel_rfl) (fun _ _ _ h => h) (Or.inl ⟨by rfl, fun y hy => ?_⟩) (by assumption) ?_
        · go_simp
        simp only [Act.put, List.setIfInBounds_toArray, List.set_cons_zero, List.set_cons_succ]
        refine take_at 8 (v := .bool true) rfl (some 64) rfl (by kernel_rfl) (by kernel_rfl) (by kernel_rfl) (fun _ _ _ h => h) (Or.inl ⟨by rfl, fun y hy => ?_⟩) (by assumption) ?_
        · go_simp
        simp only [Act.put, List.setIfInBounds_toArray, List.set_cons_zero, List.set_cons_succ]
        refine take_at 9 (v := .agg YA.toArray) rfl (some 65) rfl (by kernel_rfl) (by kernel_rfl) (by kernel_rfl) (fun _ _ _ h => h) (yieldsIf_load_mid (by rfl) 25 _ rfl w.heap.size 0 rfl YA _ (fun y hy => hy.2.1) Try.underlying25 rfl hlA) (by assumption) ?_
        simp only [Act.put, List.setIfInBounds_toArray, List.set_cons_zero, List.set_cons_succ]
        refine take_at 10 (v := .agg YB.toArray) rfl (some 66) rfl (by kernel_rfl) (by kernel_rfl) (by kernel_rfl) (fun _ _ _ h => h) (yieldsIf_load_mid (by rfl) 25 _ rfl (w.heap.size + 1) 0 rfl YB _ (fun y hy => hy.2.2) Try.underlying25 rfl hlB) (by assumption) ?_
        simp only [Act.put, List.setIfInBounds_toArray, List.set_cons_zero, List.set_cons_succ]
        refine take_at 12 (v := .agg YA.toArray) rfl (some 68) rfl (by kernel_rfl) (by kernel_rfl) (by kernel_rfl) (fun _ _ _ h => h) (yieldsIf_load_mid (by rfl) 25 _ rfl w.heap.size 0 rfl YA _ (fun y hy => hy.2.1) Try.underlying25 rfl hlA) (by assumption) ?_
        simp only [Act.put, List.setIfInBounds_toArray, List.set_cons_zero, List.set_cons_succ]
        refine take_at 13 (v := .agg YB.toArray) rfl (some 69) rfl (by kernel_rfl) (by kernel_rfl) (by kernel_rfl) (fun _ _ _ h => h) (yieldsIf_load_mid (by rfl) 25 _ rfl (w.heap.size + 1) 0 rfl YB _ (fun y hy => hy.2.2) Try.underlying25 rfl hlB) (by assumption) ?_
        simp only [Act.put, List.setIfInBounds_toArray, List.set_cons_zero, List.set_cons_succ]
        refine wpAnyH_ready (rs := [11]) (by kernel_rfl) (by simp) ?_
        refine AllReadyH.cons rfl (fun K hK => ?_) AllReadyH.nil
        go_simp
        go_wp2_with (go_at_call 15; refine (L1.out _ (by assumption)).mono ?_; clear hHeld; rintro ev w11 ⟨rfl, hHeld⟩)
        refine hK.out _ _ (by assumption) (fun _ => ?_)
        clear hK K
        refine wpAnyH_ready (rs := [14]) (by kernel_rfl) (by simp) ?_
        refine AllReadyH.cons rfl (fun K hK => ?_) AllReadyH.nil
        go_simp
        go_wp2_with (go_at_call 16; refine (X1.out _ (by assumption)).mono ?_; clear hHeld; rintro ev w14 ⟨rfl, hHeld⟩)
        refine hK.out _ _ (by assumption) (fun _ => ?_)
        clear hK K
        refine take_at 15 (v := .bool true) rfl (some 71) rfl (by kernel_rfl) (by kernel_rfl) (by kernel_rfl) (fun _ _ _ h => h) (Or.inl ⟨by rfl, fun y hy => ?_⟩) (by assumption) ?_
        · go_simp
        simp only [Act.put, List.setIfInBounds_toArray, List.set_cons_zero, List.set_cons_succ]
        refine take_at 16 (v := .bool true) rfl (some 72) rfl (by kernel_rfl) (by kernel_rfl) (by kernel_rfl) (fun _ _ _ h => h) (Or.inl ⟨by rfl, fun y hy => ?_⟩) (by assumption) ?_
        · go_simp
        simp only [Act.put, List.setIfInBounds_toArray, List.set_cons_zero, List.set_cons_succ]
        refine take_at 17 (v := .bool true) rfl (some 73) rfl (by kernel_rfl) (by kernel_rfl) (by kernel_rfl) (fun _ _ _ h => h) (Or.inl ⟨by rfl, fun y hy => ?_⟩) (by assumption) ?_
        · go_simp
        simp only [Act.put, List.setIfInBounds_toArray, List.set_cons_zero, List.set_cons_succ]
        refine take_at 18 (v := .agg YB.toArray) rfl (some 74) rfl (by kernel_rfl) (by kernel_rfl) (by kernel_rfl) (fun _ _ _ h => h) (yieldsIf_load_mid (by rfl) 25 _ rfl (w.heap.size + 1) 0 rfl YB _ (fun y hy => hy.2.2) Try.underlying25 rfl hlB) (by assumption) ?_
        simp only [Act.put, List.setIfInBounds_toArray, List.set_cons_zero, List.set_cons_succ]
        refine take_at 19 (v := .agg YA.toArray) rfl (some 75) rfl (by kernel_rfl) (by kernel_rfl) (by kernel_rfl) (fun _ _ _ h => h) (yieldsIf_load_mid (by rfl) 25 _ rfl w.heap.size 0 rfl YA _ (fun y hy => hy.2.1) Try.underlying25 rfl hlA) (by assumption) ?_
        simp only [Act.put, List.setIfInBounds_toArray, List.set_cons_zero, List.set_cons_succ]
        refine take_at 21 (v := .agg YB.toArray) rfl (some 77) rfl (by kernel_rfl) (by kernel_rfl) (by kernel_rfl) (fun _ _ _ h => h) (yieldsIf_load_mid (by rfl) 25 _ rfl (w.heap.size + 1) 0 rfl YB _ (fun y hy => hy.2.2) Try.underlying25 rfl hlB) (by assumption) ?_
        simp only [Act.put, List.setIfInBounds_toArray, List.set_cons_zero, List.set_cons_succ]
        refine take_at 22 (v := .agg YA.toArray) rfl (some 78) rfl (by kernel_rfl) (by kernel_rfl) (by kernel_rfl) (fun _ _ _ h => h) (yieldsIf_load_mid (by rfl) 25 _ rfl w.heap.size 0 rfl YA _ (fun y hy => hy.2.1) Try.underlying25 rfl hlA) (by assumption) ?_
        simp only [Act.put, List.setIfInBounds_toArray, List.set_cons_zero, List.set_cons_succ]
        refine wpAnyH_ready (rs := [20]) (by kernel_rfl) (by simp) ?_
        refine AllReadyH.cons rfl (fun K hK => ?_) AllReadyH.nil
        go_simp
        go_wp2_with (go_at_call 15; refine (L2.out _ (by assumption)).mono ?_; clear hHeld; rintro ev w20 ⟨rfl, hHeld⟩)
        refine hK.out _ _ (by assumption) (fun _ => ?_)
        clear hK K
        refine wpAnyH_ready (rs := [23]) (by kernel_rfl) (by simp) ?_
        refine AllReadyH.cons rfl (fun K hK => ?_) AllReadyH.nil
        go_simp
        go_wp2_with (go_at_call 16; refine (X2.out _ (by assumption)).mono ?_; clear hHeld; rintro ev w23 ⟨rfl, hHeld⟩)
        refine hK.out _ _ (by assumption) (fun _ => ?_)
        clear hK K
        refine take_at 24 (v := .bool true) rfl (some 80) rfl (by kernel_rfl) (by kernel_rfl) (by kernel_rfl) (fun _ _ _ h => h) (Or.inl ⟨by rfl, fun y hy => ?_⟩) (by assumption) ?_
        · go_simp
        simp only [Act.put, List.setIfInBounds_toArray, List.set_cons_zero, List.set_cons_succ]
        refine take_at 25 (v := .bool true) rfl (some 81) rfl (by kernel_rfl) (by kernel_rfl) (by kernel_rfl) (fun _ _ _ h => h) (Or.inl ⟨by rfl, fun y hy => ?_⟩) (by assumption) ?_
        · go_simp
        simp only [Act.put, List.setIfInBounds_toArray, List.set_cons_zero, List.set_cons_succ]
        refine take_at 26 (v := .bool true) rfl (some 82) rfl (by kernel_rfl) (by kernel_rfl) (by kernel_rfl) (fun _ _ _ h => h) (Or.inl ⟨by rfl, fun y hy => ?_⟩) (by assumption) ?_
        · go_simp
        simp only [Act.put, List.setIfInBounds_toArray, List.set_cons_zero, List.set_cons_succ]
        refine take_at 27 (v := .agg YA.toArray) rfl (some 83) rfl (by kernel_rfl) (by kernel_rfl) (by kernel_rfl) (fun _ _ _ h => h) (yieldsIf_load_mid (by rfl) 25 _ rfl w.heap.size 0 rfl YA _ (fun y hy => hy.2.1) Try.underlying25 rfl hlA) (by assumption) ?_
        simp only [Act.put, List.setIfInBounds_toArray, List.set_cons_zero, List.set_cons_succ]
        refine take_at 28 (v := .agg YA.toArray) rfl (some 84) rfl (by kernel_rfl) (by kernel_rfl) (by kernel_rfl) (fun _ _ _ h => h) (yieldsIf_load_mid (by rfl) 25 _ rfl w.heap.size 0 rfl YA _ (fun y hy => hy.2.1) Try.underlying25 rfl hlA) (by assumption) ?_
        simp only [Act.put, List.setIfInBounds_toArray, List.set_cons_zero, List.set_cons_succ]
        refine wpAnyH_ready (rs := [29]) (by kernel_rfl) (by simp) ?_
        refine AllReadyH.cons rfl (fun K hK => ?_) AllReadyH.nil
        go_simp
        go_wp2_with (go_at_call 15; refine (L3.out _ (by assumption)).mono ?_; clear hHeld; rintro ev w29 ⟨rfl, hHeld⟩)
        refine hK.out _ _ (by assumption) (fun _ => ?_)
        clear hK K
        refine take_at 30 (v := .bool true) rfl (some 86) rfl (by kernel_rfl) (by kernel_rfl) (by kernel_rfl) (fun _ _ _ h => h) (Or.inl ⟨by rfl, fun y hy => ?_⟩) (by assumption) ?_
        · go_simp
        simp only [Act.put, List.setIfInBounds_toArray, List.set_cons_zero, List.set_cons_succ]
        refine take_at 31 (v := .bool true) rfl (some 87) rfl (by kernel_rfl) (by kernel_rfl) (by kernel_rfl) (fun _ _ _ h => h) (Or.inl ⟨by rfl, fun y hy => ?_⟩) (by assumption) ?_
        · go_simp
        simp only [Act.put, List.setIfInBounds_toArray, List.set_cons_zero, List.set_cons_succ]
        refine take_at 32 (v := .bool true) rfl (some 6) rfl (by kernel_rfl) (by kernel_rfl) (by kernel_rfl) (fun _ _ _ h => h) (Or.inl ⟨by rfl, fun y hy => ?_⟩) (by assumption) ?_
        · go_simp
        simp only [Act.put, List.setIfInBounds_toArray, List.set_cons_zero, List.set_cons_succ]
        refine wpAnyH_done (by kernel_rfl) ?_ _
        have hBE := HBW.out.trans (hHeld.1.mono HBW.out.size)
        clear hHeld
        go_wp2_with fail
        go_ret
        exact ⟨rfl, hBE⟩
end Go.Proofs.Ytnfiecafkapgmaa
