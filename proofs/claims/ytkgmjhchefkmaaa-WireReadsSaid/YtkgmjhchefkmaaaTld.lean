/-
  The errors' number and place as the statements ask for them: Told and Is.
-/
import Derived.Test.YtkgmjhchefkmaaaRds
namespace Go.Proofs.Ytkgmjhchefkmaaa
open Go.RowKit

theorem Try.is89 (p : Option Addr) (xT : TypeId) (w : World) : (Instr.typeAssert (.iface 89 (.pointer p)) xT 89 true).run Try.prog w = .ok (.tuple #[.pointer p, .bool true]) w := by kernel_rfl
theorem Try.not89_83 (n : Int) (w : World) : (Instr.typeAssert (.iface 83 (.int .i64 n)) 43 89 true).run Try.prog w = .ok (.tuple #[.pointer none, .bool false]) w := by kernel_rfl

theorem told_nil (w : World) :
    Calls Try.prog 44 #[.nilIface] w fun ev w' => ev = .returned (.tuple #[.int .i64 0, .int .i64 0]) ∧ w' = w := by
  go_enter Try.func44, Try.ntmps44
  go_wp2_with fail
  go_ret2
  exact ⟨rfl, rfl⟩

set_option maxHeartbeats 2000000 in
set_option maxRecDepth 20000 in
theorem told_er (w : World) (e : Value) (c p : Nat) (h : Er w e c p) :
    Calls Try.prog 44 #[e] w fun ev w' => ev = .returned (.tuple #[.int .i64 (c : Int), .int .i64 (p : Int)]) ∧ Below w.heap.size w w' := by
  obtain ⟨b, rfl, h0, h1, h2⟩ := h.shape
  clear h
  have k1 := Try.is89
  have k2 := Try.not89_83
  go_enter Try.func44, Try.ntmps44
  go_wp2_with fail
  go_quiet (fail)
  go_wp2_with fail
  refine wp_loop_rounds 1 ?_
  rw [rounds_succ]
  go_wp2_with fail
  go_ret2
  exact ⟨rfl, below_drewN (Below.refl _ _) _⟩

set_option maxHeartbeats 2000000 in
theorem is_any (w : World) (e : Value) (c p : Nat) (a b : Int) (h : (c = 0 ∧ p = 0 ∧ e = .nilIface) ∨ Er w e c p) (ha : a = (c : Int)) (hb : b = (p : Int)) :
    Calls Try.prog 17 #[e, .int .i64 a, .int .i64 b] w fun ev w' => ev = .returned (.bool true) ∧ Below w.heap.size w w' := by
  subst ha hb
  have C : Calls Try.prog 44 #[e] w fun ev w' => ev = .returned (.tuple #[.int .i64 (c : Int), .int .i64 (p : Int)]) ∧ Below w.heap.size w w' := by
    rcases h with ⟨rfl, rfl, rfl⟩ | h
    · refine (told_nil w).mono ?_
      rintro ev w' ⟨rfl, rfl⟩
      exact ⟨rfl, Below.refl _ _⟩
    · exact told_er w e c p h
  rcases h with ⟨hc0, hp0, rfl⟩ | h
  · clear hc0 hp0
    go_enter Try.func17, Try.ntmps17
    go_wp2_with fail
    refine C.mono ?_
    rintro ev w1 ⟨rfl, hb⟩
    go_wp2_with fail
    go_ret
    exact ⟨rfl, hb⟩
  · obtain ⟨b, rfl, -⟩ := h.shape
    clear h
    go_enter Try.func17, Try.ntmps17
    go_wp2_with fail
    refine C.mono ?_
    rintro ev w1 ⟨rfl, hb⟩
    go_wp2_with fail
    go_ret
    exact ⟨rfl, hb⟩

theorem enc300 : enc 300 = [172, 2] := by rw [enc_ge (by omega), enc_lt (by omega)]; rfl
theorem enc1 : enc (zig (-1)) = [1] := by rw [show zig (-1) = 1 from rfl, enc_lt (by omega)]; rfl
theorem enc2 : enc 2 = [2] := by rw [enc_lt (by omega)]; rfl

theorem cells_two (w : World) : Sl (w.alloc (.cells #[.int .u8 128, .int .u8 0] 5)) (.slice (some ⟨w.heap.size, 0, none⟩) 2 2) [128, 0] := by
  refine ⟨.inr ⟨w.heap.size, 0, 2, rfl, fun i hi => ?_⟩⟩
  rw [cell_of_row _ w.heap.size (0 + i) _ 5 (0, 0) (heap_alloc_new w _)]
  match i, hi with
  | 0, _ => rfl
  | 1, _ => rfl

set_option maxHeartbeats 4000000 in
set_option maxRecDepth 20000 in
theorem tell_any (w : World) : Calls Try.prog 11 #[] w fun ev w' => ev = .returned (.bool true) ∧ Below w.heap.size w w' := by
  go_enter Try.func11, Try.ntmps11
  go_wp2_with fail
  refine (newWriter_any w).mono ?_
  rintro ev w1 ⟨rfl, hW1, hb1⟩
  have C1 := wUint_any w.heap.size w.heap.size 300 _ [] w1 hW1 (by omega) (by simp)
  rw [enc300] at C1
  have A1 : Aside (Wr w.heap.size w1 w.heap.size (.slice none 0 0) []) := hW1
  clear hW1
  go_wp2_with fail
  refine C1.mono ?_
  rintro ev w2 ⟨rfl, v2, hW2, hm2⟩
  have hb2 := hm2.below A1.out
  clear hm2 A1
  have A2 : Aside (Wr w.heap.size w2 w.heap.size v2 _) := hW2
  have C2 := wInt_any w.heap.size w.heap.size (-1) v2 _ w2 hW2 (by omega) (by omega) (by simp)
  rw [enc1] at C2
  have hB2 := hb1.trans hb2
  clear hW2 C1 hb1 hb2
  go_wp2_with fail
  refine C2.mono ?_
  rintro ev w3 ⟨rfl, v3, hW3, hm3⟩
  have hb3 := hm3.below A2.out
  clear hm3 A2
  have A3 : Aside (Wr w.heap.size w3 w.heap.size v3 _) := hW3
  have C3 := wText_any w.heap.size w.heap.size ⟨#[97, 98]⟩ v3 _ w3 hW3 (by decide) (by simp)
  rw [show ByteArray.size ⟨#[97, 98]⟩ = 2 from rfl, enc2] at C3
  have hB3 := hB2.trans hb3
  clear hW3 C2 hB2 hb3
  go_wp2_with fail
  refine C3.mono ?_
  rintro ev w4 ⟨rfl, v4, hW4, hm4⟩
  have hb4 := hm4.below A3.out
  clear hm4 A3
  have hB4 := hB3.trans hb4
  clear hB3 hb4 C3
  have hs4 := hB4.size
  have HW4 : Aside (Wr w.heap.size w4 w.heap.size v4 [172, 2, 1, 2, 97, 98]) := hW4
  clear hW4
  have C4 := newReader_any _ _ _ (cells_two w4) (by intro cap e; cases e) (by simp)
  go_wp2_with fail
  refine C4.mono ?_
  rintro ev w5 ⟨rb, v5, rfl, hR5, hrb, hown5, hb5⟩
  have hB5 := (((Below.refl _ w4).alloc (Nat.le_refl _) _).trans (hb5.mono (by simp)))
  clear hb5 C4
  have C5 := rUint_any w5 rb v5 [128, 0] 0 hR5
  rw [show scan 0 0 (List.drop 0 [128, 0]) = (0, 0, 4) from rfl] at C5
  clear hR5
  go_wp2_with fail
  refine C5.mono ?_
  rintro ev w6 ⟨e, rfl, hO⟩
  clear C5
  have hE : Er w6 e 4 0 := (hO.err.resolve_left (by simp)).2
  have hR : Rd w6 rb v5 [128, 0] 0 := hO.rd
  have hB6 : Below w4.heap.size w4 w6 := hB5.trans (below_grown hO.grown (by have := hB5.size; omega) (fun k e => by cases e; simp at hrb; omega))
  have hW6 : Wr w.heap.size w6 w.heap.size v4 [172, 2, 1, 2, 97, 98] := HW4.out.past hB6
  have hBw6 : Below w.heap.size w w6 := hB4.trans (hB6.mono hs4)
  clear hO hB6 HW4 hB4 hB5 hown5 hrb
  have C6 := wBytes_any w.heap.size w.heap.size v4 _ w6 hW6 (by simp)
  obtain ⟨b0, rfl, -⟩ := hE.shape
  clear hW6
  go_wp2_with fail
  refine C6.mono ?_
  rintro ev w7 ⟨v7, rfl, hown7, hb7⟩
  obtain ⟨ao7, cap7, rfl⟩ := own_shape hown7
  have kc : (convert 32 9 (.slice ao7 6 cap7)).run Try.prog w7 = .ok (.string ⟨#[172, 2, 1, 2, 97, 98]⟩) w7 := conv_sl w7 _ [172, 2, 1, 2, 97, 98] (Sl.ofOwn hown7)
  have C7 := is_any w7 _ 4 0 4 0 (.inr (hE.below hb7)) rfl rfl
  have hR7 := hR.past hb7
  have hB7 := hBw6.trans (hb7.mono hBw6.size)
  clear hown7 C6 hE hR hb7 hBw6
  go_wp2_with fail
  refine C7.mono ?_
  rintro ev w8 ⟨rfl, hb8⟩
  have hR8 := hR7.past hb8
  have hB8 := hB7.trans (hb8.mono hB7.size)
  have C8 := end_any w8 rb v5 _ 0 hR8
  clear C7 hR7 hb8 hB7 hR8
  go_wp2_with fail
  refine C8.mono ?_
  rintro ev w9 ⟨e9, rfl, hE9, hb9⟩
  rw [if_pos (by simp)] at hE9
  have C9 := is_any w9 e9 4 0 4 0 (.inr hE9) rfl rfl
  have hB9 := hB8.trans (hb9.mono hB8.size)
  obtain ⟨b9, rfl, -⟩ := hE9.shape
  clear C8 hE9 hb9 hB8
  go_wp2_with fail
  refine C9.mono ?_
  rintro ev w10 ⟨rfl, hb10⟩
  have hB10 := hB9.trans (hb10.mono hB9.size)
  go_wp2_with fail
  go_ret
  exact ⟨rfl, hB10⟩
end Go.Proofs.Ytkgmjhchefkmaaa
