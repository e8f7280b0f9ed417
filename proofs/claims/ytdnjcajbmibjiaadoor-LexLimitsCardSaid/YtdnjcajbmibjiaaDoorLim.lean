/-
  LexLimits.
-/
import Derived.Test.YtdnjcajbmibjiaaDoorTol
import Derived.Deep.OwnRows
namespace Go.Proofs.YtdnjcajbmibjiaaDoor
open Go.RowKit

theorem skp_blanks : ∀ n : Nat, skp false (List.replicate n 32) = n
  | 0 => rfl
  | n + 1 => by
    have := skp_blanks n
    simp only [List.replicate_succ, skp, isBl]
    simp [this]; omega
theorem lexF_blanks (n : Nat) : lexF (List.replicate n 32) = ([endTok n], none) := by
  rw [lexF_start, skp_blanks]
  simp [lxr]

/-- Where the loop stands that fills the row with blanks. -/
structure BRel (w : World) (n i : Nat) (wr : World) : Prop where
  row : ∃ L, Row wr w.heap.size 5 L ∧ L.length = n ∧ ∀ j, j < i → L[j]? = some (.int .u8 32)
  below : Below w.heap.size w wr
theorem BRel.next {w wr : World} {n i : Nat} (h : BRel w n i wr) (hi : i < n) : BRel w n (i + 1) (wr.setCell ⟨w.heap.size, i, none⟩ (.int .u8 32)) := by
  obtain ⟨L, hR, hl, hj⟩ := h.row
  refine ⟨⟨L.set i (.int .u8 32), hR.set i _, by simpa using hl, fun j hjj => ?_⟩, h.below.setCell (p := ⟨w.heap.size, i, none⟩) (Nat.le_refl _) _⟩
  rcases Nat.lt_or_ge j i with h' | h'
  · rw [List.getElem?_set_ne (by omega)]; exact hj j h'
  · obtain rfl : j = i := by omega
    rw [List.getElem?_set_self (by omega)]
theorem BRel.conv {w wr : World} {n : Nat} (h : BRel w n n wr) : (convert 39 9 (.slice (some ⟨w.heap.size, 0, none⟩) n n)).run Tryd.prog wr = .ok (.string (str (List.replicate n 32))) wr := by
  obtain ⟨L, hR, hl, hj⟩ := h.row
  have := run_convert_bytes_back (P := Tryd.prog) wr 39 9 5 ⟨w.heap.size, 0, none⟩ n (List.replicate n 32) Tryd.underlying39 Tryd.underlying5 Tryd.underlying9 (fun j hjj => by
    rw [addr_add, Nat.zero_add, hR.cell j, hj j (by simpa using hjj)]
    simp)
  rw [List.length_replicate] at this
  exact this
theorem BRel.cell {w wr : World} {n i : Nat} (h : BRel w n i wr) (hi : i < n) : ∃ v, wr.cell? ⟨w.heap.size, i, none⟩ = some v ∧ wr.frozen? ⟨w.heap.size, i, none⟩ = false := by
  obtain ⟨L, hR, hl, hj⟩ := h.row
  exact ⟨L[i]'(by omega), by rw [hR.cell i, List.getElem?_eq_getElem], hR.fz i⟩
theorem made_len (n : Nat) : (madeCells #[.int .u8 0] n).toList.length = n := by
  simp [madeCells]
theorem BRel.start (w : World) (n : Nat) : BRel w n 0 (w.alloc (.cells (madeCells #[.int .u8 0] n) 5)) :=
  ⟨⟨(madeCells #[.int .u8 0] n).toList, by simpa using Row.new w 5 (madeCells #[.int .u8 0] n).toList, made_len n, fun j h => by omega⟩, (Below.refl _ _).alloc (Nat.le_refl _) _⟩


set_option maxHeartbeats 8000000 in
set_option maxRecDepth 20000 in
theorem limits_just (w : World) (hg : Glob w) : Calls Tryd.prog 8 #[.bool false] w fun ev w' => ev = .returned (.bool true) ∧ Below w.heap.size w w' := by
  obtain ⟨i0, hi0, hz0, hz1, hz2⟩ := info_parts Tryd.info5
  have C1 : Hid (∀ y, Below w.heap.size w y → Calls Tryd.prog 10 #[.string (str (List.replicate 1048576 32))] y fun ev w' => ∃ b cap, ev = .returned (.tuple #[.slice (some ⟨b, 0, none⟩) 1 cap, .nilIface]) ∧ Below y.heap.size y w') := fun y hy => (lex_toks _ (by rw [List.length_replicate]; omega) _ (lexF_blanks 1048576) (by simp) y (hg.below hy)).mono fun ev w' ⟨b, cap, e, _, _, hb⟩ => ⟨b, cap, e, hb⟩
  have C2 : Hid (∀ y, Below w.heap.size w y → Calls Tryd.prog 10 #[.string ⟨#[97, 98, 99, 100, 101, 102, 103, 104, 105, 106, 107, 108, 109, 110, 111, 112, 113, 114, 115, 116, 117, 118, 119, 120, 121, 122, 95, 65, 66, 67, 68, 69]⟩] y fun ev w' => ∃ b cap, ev = .returned (.tuple #[.slice (some ⟨b, 0, none⟩) 2 cap, .nilIface]) ∧ Below y.heap.size y w') := fun y hy => (lex_toks [97, 98, 99, 100, 101, 102, 103, 104, 105, 106, 107, 108, 109, 110, 111, 112, 113, 114, 115, 116, 117, 118, 119, 120, 121, 122, 95, 65, 66, 67, 68, 69] (by decide) [⟨1, [97, 98, 99, 100, 101, 102, 103, 104, 105, 106, 107, 108, 109, 110, 111, 112, 113, 114, 115, 116, 117, 118, 119, 120, 121, 122, 95, 65, 66, 67, 68, 69], 0⟩, ⟨0, [], 32⟩] (by rfl) (by simp) y (hg.below hy)).mono fun ev w' ⟨b, cap, e, _, _, hb⟩ => ⟨b, cap, e, hb⟩
  have C3 : Hid (∀ y, Below w.heap.size w y → Calls Tryd.prog 10 #[.string ⟨#[39, 97, 98, 99, 100, 101, 102, 103, 104, 105, 106, 107, 108, 109, 110, 111, 112, 113, 114, 115, 116, 117, 118, 119, 120, 121, 122, 95, 65, 66, 67, 68, 69]⟩] y fun ev w' => ∃ b cap, ev = .returned (.tuple #[.slice (some ⟨b, 0, none⟩) 2 cap, .nilIface]) ∧ Below y.heap.size y w') := fun y hy => (lex_toks [39, 97, 98, 99, 100, 101, 102, 103, 104, 105, 106, 107, 108, 109, 110, 111, 112, 113, 114, 115, 116, 117, 118, 119, 120, 121, 122, 95, 65, 66, 67, 68, 69] (by decide) [⟨3, [97, 98, 99, 100, 101, 102, 103, 104, 105, 106, 107, 108, 109, 110, 111, 112, 113, 114, 115, 116, 117, 118, 119, 120, 121, 122, 95, 65, 66, 67, 68, 69], 0⟩, ⟨0, [], 33⟩] (by rfl) (by simp) y (hg.below hy)).mono fun ev w' ⟨b, cap, e, _, _, hb⟩ => ⟨b, cap, e, hb⟩
  have C4 : Hid (∀ y, Below w.heap.size w y → Calls Tryd.prog 10 #[.string ⟨#[50, 49, 52, 55, 52, 56, 51, 54, 52, 55]⟩] y fun ev w' => ∃ b cap, ev = .returned (.tuple #[.slice (some ⟨b, 0, none⟩) 2 cap, .nilIface]) ∧ Below y.heap.size y w') := fun y hy => (lex_toks [50, 49, 52, 55, 52, 56, 51, 54, 52, 55] (by decide) [⟨4, [50, 49, 52, 55, 52, 56, 51, 54, 52, 55], 0⟩, ⟨0, [], 10⟩] (by rfl) (by simp) y (hg.below hy)).mono fun ev w' ⟨b, cap, e, _, _, hb⟩ => ⟨b, cap, e, hb⟩
  have CT : Hid (∀ y, Below w.heap.size w y → Calls Tryd.prog 11 #[] y fun ev w' => ev = .returned (.bool true) ∧ Below y.heap.size y w') := fun y hy => told_any y (hg.below hy)
  have CN : Hid (∀ y, Calls Tryd.prog 13 #[.string ⟨#[97, 98, 99, 100, 101, 102, 103, 104, 105, 106, 107, 108, 109, 110, 111, 112, 113, 114, 115, 116, 117, 118, 119, 120, 121, 122, 95, 65, 66, 67, 68, 69]⟩] y fun ev w' => ev = .returned (.bool true) ∧ w' = y) := fun y => name_any [97, 98, 99, 100, 101, 102, 103, 104, 105, 106, 107, 108, 109, 110, 111, 112, 113, 114, 115, 116, 117, 118, 119, 120, 121, 122, 95, 65, 66, 67, 68, 69] (by decide) y
  have HS : Hid (BRel w 1048576 0 (w.alloc (.cells (madeCells #[.int .u8 0] 1048576) 5))) := BRel.start w 1048576
  obtain ⟨W, hW⟩ : ∃ W, W = w.alloc (.cells (madeCells #[.int .u8 0] 1048576) 5) := ⟨_, rfl⟩
  have AW : Aside (W = w.alloc (.cells (madeCells #[.int .u8 0] 1048576) 5)) := hW
  rw [← hW] at HS
  clear hW hg
  go_enter Tryd.func8, Tryd.ntmps8
  go_wp2_with (refine wpList_make_row _ rfl _ _ 39 rfl 5 i0 (.int .u8 0) Tryd.underlying39 hi0 hz0 hz1 rfl .i64 .i64 1048576 rfl rfl (by rw [hz2]; decide) (by decide) ?_; rw [← AW.out])
  go_loopw [7] (fun i wr => ∃ k : Nat, k ≤ 1048576 ∧ i = .int .i64 (k : Int) ∧ BRel w 1048576 k wr) (fun i _ => 1048576 - (intOf i).toNat)
  case atStart => exact ⟨0, by omega, rfl, HS.out⟩
  case round =>
    obtain ⟨k, hk, rfl, hB⟩ := hrel
    clear HS
    by_cases h3 : k < 1048576
    · have HN : Hid _ := hB.next h3
      obtain ⟨v0, q0, q1⟩ := hB.cell h3
      have l1 : (k : Int) < 1048576 := by omega
      clear hB C1 C2 C3 C4 CT CN
      go_wp2_with fail
      go_roundw
      case rel => exact ⟨k + 1, by omega, by go_num, HN.out⟩
      case measure => simp [intOf]; omega
    · obtain rfl : k = 1048576 := by omega
      have hc := hB.conv
      have HB0 : Hid (Below w.heap.size w wr) := hB.below
      clear hB AW
      generalize List.replicate 1048576 (32 : UInt8) = X at *
      generalize str X = SX at *
      go_wp2_with fail
      refine (C1.out _ HB0.out).mono ?_
      rintro ev w1 ⟨b1, cap1, rfl, hb1⟩
      have HB1 : Hid (Below w.heap.size w w1) := nextB HB0.out hb1
      clear hb1
      go_wp2_with fail
      refine (C2.out _ HB1.out).mono ?_
      rintro ev w2 ⟨b2, cap2, rfl, hb2⟩
      have HB2 : Hid (Below w.heap.size w w2) := nextB HB1.out hb2
      clear hb2
      go_wp2_with fail
      refine (C3.out _ HB2.out).mono ?_
      rintro ev w3 ⟨b3, cap3, rfl, hb3⟩
      have HB3 : Hid (Below w.heap.size w w3) := nextB HB2.out hb3
      clear hb3
      go_wp2_with fail
      refine (C4.out _ HB3.out).mono ?_
      rintro ev w4 ⟨b4, cap4, rfl, hb4⟩
      have HB4 : Hid (Below w.heap.size w w4) := nextB HB3.out hb4
      clear hb4
      go_wp2_with fail
      refine (CT.out _ HB4.out).mono ?_
      rintro ev w5 ⟨rfl, hb5⟩
      have HB5 : Hid (Below w.heap.size w w5) := nextB HB4.out hb5
      go_wp2_with fail
      refine (CN.out _).mono ?_
      rintro ev w10 ⟨rfl, hw⟩
      replace hw := hw.symm
      subst hw
      go_wp2_with fail
      go_ret
      exact ⟨rfl, HB5.out⟩

set_option maxHeartbeats 8000000 in
set_option maxRecDepth 20000 in
theorem limits_more (w : World) (hg : Glob w) : Calls Tryd.prog 8 #[.bool true] w fun ev w' => ev = .returned (.bool true) ∧ Below w.heap.size w w' := by
  obtain ⟨i0, hi0, hz0, hz1, hz2⟩ := info_parts Tryd.info5
  have C1 : Hid (∀ y, Below w.heap.size w y → Calls Tryd.prog 10 #[.string (str (List.replicate 1048577 32))] y fun ev w' => ∃ e, ev = .returned (.tuple #[.slice none 0 0, e]) ∧ Er w' e 5 0 ∧ Below y.heap.size y w') := fun y _ => lex_long _ (by rw [List.length_replicate]; omega) y
  have C2 : Hid (∀ y, Below w.heap.size w y → Calls Tryd.prog 10 #[.string ⟨#[97, 98, 99, 100, 101, 102, 103, 104, 105, 106, 107, 108, 109, 110, 111, 112, 113, 114, 115, 116, 117, 118, 119, 120, 121, 122, 95, 65, 66, 67, 68, 69, 70]⟩] y fun ev w' => ∃ e, ev = .returned (.tuple #[.slice none 0 0, e]) ∧ Er w' e 20 0 ∧ Below y.heap.size y w') := fun y hy => lex_bad [97, 98, 99, 100, 101, 102, 103, 104, 105, 106, 107, 108, 109, 110, 111, 112, 113, 114, 115, 116, 117, 118, 119, 120, 121, 122, 95, 65, 66, 67, 68, 69, 70] (by decide) 0 (by rfl) y (hg.below hy)
  have C3 : Hid (∀ y, Below w.heap.size w y → Calls Tryd.prog 10 #[.string ⟨#[39, 97, 98, 99, 100, 101, 102, 103, 104, 105, 106, 107, 108, 109, 110, 111, 112, 113, 114, 115, 116, 117, 118, 119, 120, 121, 122, 95, 65, 66, 67, 68, 69, 70]⟩] y fun ev w' => ∃ e, ev = .returned (.tuple #[.slice none 0 0, e]) ∧ Er w' e 20 0 ∧ Below y.heap.size y w') := fun y hy => lex_bad [39, 97, 98, 99, 100, 101, 102, 103, 104, 105, 106, 107, 108, 109, 110, 111, 112, 113, 114, 115, 116, 117, 118, 119, 120, 121, 122, 95, 65, 66, 67, 68, 69, 70] (by decide) 0 (by rfl) y (hg.below hy)
  have C4 : Hid (∀ y, Below w.heap.size w y → Calls Tryd.prog 10 #[.string ⟨#[50, 49, 52, 55, 52, 56, 51, 54, 52, 56]⟩] y fun ev w' => ∃ e, ev = .returned (.tuple #[.slice none 0 0, e]) ∧ Er w' e 20 0 ∧ Below y.heap.size y w') := fun y hy => lex_bad [50, 49, 52, 55, 52, 56, 51, 54, 52, 56] (by decide) 0 (by rfl) y (hg.below hy)
  have CT : Hid (∀ y, Below w.heap.size w y → Calls Tryd.prog 11 #[] y fun ev w' => ev = .returned (.bool true) ∧ Below y.heap.size y w') := fun y hy => told_any y (hg.below hy)
  have CN : Hid (∀ y, Calls Tryd.prog 13 #[.string ⟨#[97, 98, 99, 100, 101, 102, 103, 104, 105, 106, 107, 108, 109, 110, 111, 112, 113, 114, 115, 116, 117, 118, 119, 120, 121, 122, 95, 65, 66, 67, 68, 69, 70]⟩] y fun ev w' => ev = .returned (.bool false) ∧ w' = y) := fun y => name_any [97, 98, 99, 100, 101, 102, 103, 104, 105, 106, 107, 108, 109, 110, 111, 112, 113, 114, 115, 116, 117, 118, 119, 120, 121, 122, 95, 65, 66, 67, 68, 69, 70] (by decide) y
  have CI : Hid (∀ y e, Er y e 5 0 → Calls Tryd.prog 16 #[e, .int .i64 5, .int .i64 0] y fun ev w' => ev = .returned (.bool true) ∧ Below y.heap.size y w') := fun y e h => is_any y e 5 0 5 0 (.inr h) rfl rfl
  have CJ : Hid (∀ y e, Er y e 20 0 → Calls Tryd.prog 16 #[e, .int .i64 20, .int .i64 0] y fun ev w' => ev = .returned (.bool true) ∧ Below y.heap.size y w') := fun y e h => is_any y e 20 0 20 0 (.inr h) rfl rfl
  have HS : Hid (BRel w 1048577 0 (w.alloc (.cells (madeCells #[.int .u8 0] 1048577) 5))) := BRel.start w 1048577
  obtain ⟨W, hW⟩ : ∃ W, W = w.alloc (.cells (madeCells #[.int .u8 0] 1048577) 5) := ⟨_, rfl⟩
  have AW : Aside (W = w.alloc (.cells (madeCells #[.int .u8 0] 1048577) 5)) := hW
  rw [← hW] at HS
  clear hW hg
  go_enter Tryd.func8, Tryd.ntmps8
  go_wp2_with (refine wpList_make_row _ rfl _ _ 39 rfl 5 i0 (.int .u8 0) Tryd.underlying39 hi0 hz0 hz1 rfl .i64 .i64 1048577 rfl rfl (by rw [hz2]; decide) (by decide) ?_; rw [← AW.out])
  go_loopw [7] (fun i wr => ∃ k : Nat, k ≤ 1048577 ∧ i = .int .i64 (k : Int) ∧ BRel w 1048577 k wr) (fun i _ => 1048577 - (intOf i).toNat)
  case atStart => exact ⟨0, by omega, rfl, HS.out⟩
  case round =>
    obtain ⟨k, hk, rfl, hB⟩ := hrel
    clear HS
    by_cases h3 : k < 1048577
    · have HN : Hid _ := hB.next h3
      obtain ⟨v0, q0, q1⟩ := hB.cell h3
      have l1 : (k : Int) < 1048577 := by omega
      clear hB C1 C2 C3 C4 CT CN CI CJ
      go_wp2_with fail
      go_roundw
      case rel => exact ⟨k + 1, by omega, by go_num, HN.out⟩
      case measure => simp [intOf]; omega
    · obtain rfl : k = 1048577 := by omega
      have hc := hB.conv
      have HB0 : Hid (Below w.heap.size w wr) := hB.below
      clear hB AW
      generalize List.replicate 1048577 (32 : UInt8) = X at *
      generalize str X = SX at *
      go_wp2_with fail
      refine (C1.out _ HB0.out).mono ?_
      rintro ev w1 ⟨e1, rfl, E1, hb1⟩
      obtain ⟨b1, rfl, -⟩ := id E1.shape
      have HB1 : Hid (Below w.heap.size w w1) := nextB HB0.out hb1
      go_wp2_with fail
      refine (C2.out _ HB1.out).mono ?_
      rintro ev w2 ⟨e2, rfl, E2, hb2⟩
      obtain ⟨b2, rfl, -⟩ := id E2.shape
      have HB2 : Hid (Below w.heap.size w w2) := nextB HB1.out hb2
      go_wp2_with fail
      refine (C3.out _ HB2.out).mono ?_
      rintro ev w3 ⟨e3, rfl, E3, hb3⟩
      obtain ⟨b3, rfl, -⟩ := id E3.shape
      have HB3 : Hid (Below w.heap.size w w3) := nextB HB2.out hb3
      go_wp2_with fail
      refine (C4.out _ HB3.out).mono ?_
      rintro ev w4 ⟨e4, rfl, E4, hb4⟩
      obtain ⟨b4, rfl, -⟩ := id E4.shape
      have HB4 : Hid (Below w.heap.size w w4) := nextB HB3.out hb4
      go_wp2_with fail
      refine (CT.out _ HB4.out).mono ?_
      rintro ev w5 ⟨rfl, hb5⟩
      have HB5 : Hid (Below w.heap.size w w5) := nextB HB4.out hb5
      have E15 := (((E1.below hb2).below hb3).below hb4).below hb5
      have E25 := ((E2.below hb3).below hb4).below hb5
      have E35 := (E3.below hb4).below hb5
      have E45 := E4.below hb5
      clear E1 E2 E3 E4 hb1 hb2 hb3 hb4 hb5
      go_wp2_with fail
      refine (CI.out _ _ E15).mono ?_
      rintro ev w6 ⟨rfl, hb6⟩
      have HB6 : Hid (Below w.heap.size w w6) := nextB HB5.out hb6
      go_wp2_with fail
      refine (CJ.out _ _ (E25.below hb6)).mono ?_
      rintro ev w7 ⟨rfl, hb7⟩
      have HB7 : Hid (Below w.heap.size w w7) := nextB HB6.out hb7
      go_wp2_with fail
      refine (CJ.out _ _ ((E35.below hb6).below hb7)).mono ?_
      rintro ev w8 ⟨rfl, hb8⟩
      have HB8 : Hid (Below w.heap.size w w8) := nextB HB7.out hb8
      go_wp2_with fail
      refine (CJ.out _ _ (((E45.below hb6).below hb7).below hb8)).mono ?_
      rintro ev w9 ⟨rfl, hb9⟩
      have HB9 : Hid (Below w.heap.size w w9) := nextB HB8.out hb9
      go_wp2_with fail
      refine (CN.out _).mono ?_
      rintro ev w10 ⟨rfl, hw⟩
      replace hw := hw.symm
      subst hw
      go_wp2_with fail
      go_ret
      exact ⟨rfl, HB9.out⟩

theorem limits_walk (b : Bool) (w : World) (hg : Glob w) : Calls Tryd.prog 8 #[.bool b] w fun ev w' => ev = .returned (.bool true) ∧ Below w.heap.size w w' := by
  cases b
  · exact limits_just w hg
  · exact limits_more w hg
end Go.Proofs.YtdnjcajbmibjiaaDoor
