/-
  The texts Sn0, Sn1, Pls, joined.
-/
import Derived.Test.YtmopffaocamieaaGreatQapSrg
import Derived.Test.YtmopffaocamieaaGreatQapMfd
namespace Go.Proofs.YtmopffaocamieaaGreat
open Go.RowKit

set_option maxHeartbeats 2000000 in
theorem index80_nil (a : Option Addr) (c : Nat) (f : Value) (w : World) : Calls Tryz.prog 80 #[.slice a 0 c, f] w fun ev w' => ev = .returned (.int .i64 (-1)) ∧ w' = w := by
  go_enter Tryz.func80, Tryz.ntmps80
  go_wp2_with fail
  refine wp_loop_rounds 1 ?_
  rw [rounds_succ]
  go_wp2_with fail
  go_ret
  exact ⟨rfl, rfl⟩
set_option maxHeartbeats 2000000 in
theorem index81_nil (a : Option Addr) (c : Nat) (f : Value) (w : World) : Calls Tryz.prog 81 #[.slice a 0 c, f] w fun ev w' => ev = .returned (.int .i64 (-1)) ∧ w' = w := by
  go_enter Tryz.func81, Tryz.ntmps81
  go_wp2_with fail
  refine wp_loop_rounds 1 ?_
  rw [rounds_succ]
  go_wp2_with fail
  go_ret
  exact ⟨rfl, rfl⟩
theorem cont41_nil (a : Option Addr) (c : Nat) (f : Value) (w : World) : Calls Tryz.prog 41 #[.slice a 0 c, f] w fun ev w' => ev = .returned (.bool false) ∧ w' = w := by
  have C := index80_nil a c f w
  go_enter Tryz.func41, Tryz.ntmps41
  go_wp2_with fail
  refine C.mono ?_
  rintro _ _ ⟨rfl, rfl⟩
  go_wp2_with fail
  go_ret
  exact ⟨rfl, rfl⟩
theorem cont43_nil (a : Option Addr) (c : Nat) (f : Value) (w : World) : Calls Tryz.prog 43 #[.slice a 0 c, f] w fun ev w' => ev = .returned (.bool false) ∧ w' = w := by
  have C := index81_nil a c f w
  go_enter Tryz.func43, Tryz.ntmps43
  go_wp2_with fail
  refine C.mono ?_
  rintro _ _ ⟨rfl, rfl⟩
  go_wp2_with fail
  go_ret
  exact ⟨rfl, rfl⟩
set_option maxHeartbeats 2000000 in
theorem all82_nil (a : Option Addr) (c : Nat) (f : Value) (w : World) : Calls Tryz.prog 82 #[.slice a 0 c, f] w fun ev w' => ev = .returned (.bool true) ∧ w' = w := by
  go_enter Tryz.func82, Tryz.ntmps82
  go_wp2_with fail
  refine wp_loop_rounds 1 ?_
  rw [rounds_succ]
  go_wp2_with fail
  go_ret
  exact ⟨rfl, rfl⟩
set_option maxHeartbeats 2000000 in
theorem all84_nil (a : Option Addr) (c : Nat) (f : Value) (w : World) : Calls Tryz.prog 84 #[.slice a 0 c, f] w fun ev w' => ev = .returned (.bool true) ∧ w' = w := by
  go_enter Tryz.func84, Tryz.ntmps84
  go_wp2_with fail
  refine wp_loop_rounds 1 ?_
  rw [rounds_succ]
  go_wp2_with fail
  go_ret
  exact ⟨rfl, rfl⟩
set_option maxHeartbeats 2000000 in
theorem may_nil (a b : Option Addr) (c d : Nat) (w : World) : Calls Tryz.prog 45 #[.agg #[.slice a 0 c, .slice b 0 d]] w fun ev w' => ev = .returned (.bool true) ∧ Below w.heap.size w w' := by
  have C1 := fun f w => all82_nil a c f w
  have C2 := fun f w => all84_nil b d f w
  go_enter Tryz.func45, Tryz.ntmps45
  go_wp2_with fail
  refine (C1 _ _).mono ?_
  rintro _ _ ⟨rfl, rfl⟩
  go_wp2_with fail
  refine (C2 _ _).mono ?_
  rintro _ _ ⟨rfl, rfl⟩
  go_wp2_with fail
  go_ret
  exact ⟨rfl, alloc_one _ _⟩
set_option maxHeartbeats 4000000 in
theorem sigMay_nil (s : Bs) (hs : nameB s = true) (hl : s.length ≤ 1000) (a b : Option Addr) (c d : Nat) (w : World) : Calls Tryz.prog 18 #[.agg #[.string (str s), .slice a 0 c, .slice b 0 d]] w fun ev w' => ev = .returned (.bool true) ∧ Below w.heap.size w w' := by
  have N : Hid (∀ w, Calls Tryz.prog 40 #[.string (str s)] w fun ev w' => ev = .returned (.bool true) ∧ w' = w) := fun w => by
    have := name_any s (by omega) w
    rw [hs] at this; exact this
  have C1 : Hid (∀ f w, Calls Tryz.prog 41 #[.slice a 0 c, f] w fun ev w' => ev = .returned (.bool false) ∧ w' = w) := fun f w => cont41_nil a c f w
  have C2 : Hid (∀ f w, Calls Tryz.prog 43 #[.slice b 0 d, f] w fun ev w' => ev = .returned (.bool false) ∧ w' = w) := fun f w => cont43_nil b d f w
  have C3 : Hid (Calls Tryz.prog 45 #[.agg #[.slice a 0 c, .slice b 0 d]] (w.alloc (.cells #[.string (str s), .slice a 0 c, .slice b 0 d] 27)) fun ev w' => ev = .returned (.bool true) ∧ Below w.heap.size w w') :=
    (may_nil a b c d _).mono fun _ _ q => ⟨q.1, (alloc_one _ _).trans (q.2.mono (alloc_one _ _).size)⟩
  generalize str s = SS at *
  go_enter Tryz.func18, Tryz.ntmps18
  go_wp2_with fail
  refine (N.out _).mono ?_
  rintro _ _ ⟨rfl, rfl⟩
  go_wp2_with fail
  refine (C1.out _ _).mono ?_
  rintro _ _ ⟨rfl, rfl⟩
  go_wp2_with fail
  refine (C2.out _ _).mono ?_
  rintro _ _ ⟨rfl, rfl⟩
  go_wp2_with fail
  refine C3.out.mono ?_
  rintro _ _ ⟨rfl, hb⟩
  go_wp2_with fail
  go_ret
  exact ⟨rfl, hb⟩
end Go.Proofs.YtmopffaocamieaaGreat

namespace Go.Proofs.YtmopffaocamieaaGreat
open Go.RowKit

/-- The writer at block wb: since w0 only it and new memory have turned. -/
structure Ws (B : Nat) (w0 w : World) (wb : Nat) (v : Value) (l : List UInt8) : Prop where
  wr : Wr B w wb v l
  bel : Below B w0 w
theorem Ws.past {B : Nat} {w0 w w' : World} {wb : Nat} {v : Value} {l : List UInt8} (h : Ws B w0 w wb v l) (hb : Below w.heap.size w w') : Ws B w0 w' wb v l :=
  ⟨h.wr.past hb, h.bel.trans (hb.mono h.wr.lo)⟩
theorem Ws.mv {B : Nat} {w0 w w' : World} {wb : Nat} {v v' : Value} {l l' : List UInt8} (h : Ws B w0 w wb v l) (hw : Wr B w' wb v' l') (hm : Mv w w' wb v v') : Ws B w0 w' wb v' l' :=
  ⟨hw, h.bel.trans (hm.below h.wr)⟩

set_option maxHeartbeats 2000000 in
theorem putScts_nil (B wb : Nat) (v : Value) (l : List UInt8) (w : World) (h : Wr B w wb v l) (hl : l.length ≤ 1000000000) (a : Option Addr) (c : Nat) (f : Value) :
    Calls Tryz.prog 67 #[.agg #[.pointer (some ⟨wb, 0, none⟩)], .slice a 0 c, f] w fun ev w' => ev = .returned (.tuple #[]) ∧ ∃ v', Wr B w' wb v' (l ++ [0]) ∧ Mv w w' wb v v' := by
  have hA := alloc_one w (.cells #[.pointer (some ⟨wb, 0, none⟩)] 75)
  have C : Hid (Calls Tryz.prog 113 #[.pointer (some ⟨wb, 0, none⟩), .int .u64 0] (w.alloc (.cells #[.pointer (some ⟨wb, 0, none⟩)] 75)) fun ev w' => ev = .returned (.tuple #[]) ∧ ∃ v', Wr B w' wb v' (l ++ [0]) ∧ Mv w w' wb v v') := by
    refine (wUint_any B wb 0 v l _ (h.past hA) (by decide) (by omega)).mono ?_
    rintro _ w1 ⟨rfl, v', h1, h2⟩
    exact ⟨rfl, v', h1, (Mv.past hA _ _).trans h2⟩
  clear h hA
  go_enter Tryz.func67, Tryz.ntmps67
  go_wp2_with fail
  refine C.out.mono ?_
  rintro _ w1 ⟨rfl, hv⟩
  go_wp2_with fail
  refine wp_loop_rounds 1 ?_
  rw [rounds_succ]
  go_wp2_with fail
  go_end0
  exact ⟨rfl, hv⟩
set_option maxHeartbeats 2000000 in
theorem putFncs_nil (B wb : Nat) (v : Value) (l : List UInt8) (w : World) (h : Wr B w wb v l) (hl : l.length ≤ 1000000000) (a : Option Addr) (c : Nat) (f : Value) :
    Calls Tryz.prog 69 #[.agg #[.pointer (some ⟨wb, 0, none⟩)], .slice a 0 c, f] w fun ev w' => ev = .returned (.tuple #[]) ∧ ∃ v', Wr B w' wb v' (l ++ [0]) ∧ Mv w w' wb v v' := by
  have hA := alloc_one w (.cells #[.pointer (some ⟨wb, 0, none⟩)] 75)
  have C : Hid (Calls Tryz.prog 113 #[.pointer (some ⟨wb, 0, none⟩), .int .u64 0] (w.alloc (.cells #[.pointer (some ⟨wb, 0, none⟩)] 75)) fun ev w' => ev = .returned (.tuple #[]) ∧ ∃ v', Wr B w' wb v' (l ++ [0]) ∧ Mv w w' wb v v') := by
    refine (wUint_any B wb 0 v l _ (h.past hA) (by decide) (by omega)).mono ?_
    rintro _ w1 ⟨rfl, v', h1, h2⟩
    exact ⟨rfl, v', h1, (Mv.past hA _ _).trans h2⟩
  clear h hA
  go_enter Tryz.func69, Tryz.ntmps69
  go_wp2_with fail
  refine C.out.mono ?_
  rintro _ w1 ⟨rfl, hv⟩
  go_wp2_with fail
  refine wp_loop_rounds 1 ?_
  rw [rounds_succ]
  go_wp2_with fail
  go_end0
  exact ⟨rfl, hv⟩

set_option maxHeartbeats 4000000 in
theorem newSw_any (w : World) : Calls Tryz.prog 29 #[] w fun ev w' => ∃ wb, ev = .returned (.agg #[.pointer (some ⟨wb, 0, none⟩)]) ∧ Wr w.heap.size w' wb (.slice none 0 0) [] ∧ Below w.heap.size w w' := by
  have C : Hid (Calls Tryz.prog 65 #[] (w.alloc (.cells #[.pointer none] 75)) fun ev w' => ∃ wb, ev = .returned (.pointer (some ⟨wb, 0, none⟩)) ∧ wb ≠ w.heap.size ∧ Wr w.heap.size w' wb (.slice none 0 0) [] ∧ Below w.heap.size w w' ∧ Row w' w.heap.size 75 [.pointer none]) := by
    refine (newWriter_any _).mono ?_
    rintro _ w1 ⟨rfl, h1, h2⟩
    have hA := alloc_one w (.cells #[.pointer none] 75)
    have R := Row.new w 75 [.pointer none]
    exact ⟨_, rfl, by rw [size_alloc]; omega, h1.lower (by rw [size_alloc]; omega), hA.trans (h2.mono hA.size), R.below h2 R.lt⟩
  go_enter Tryz.func29, Tryz.ntmps29
  go_wp2_with fail
  refine C.out.mono ?_
  rintro _ w1 ⟨wb, rfl, hne, h1, h2, h3⟩
  have c0 := h3.cell 0
  have z0 := h3.fz 0
  simp only [List.getElem?_cons_zero] at c0
  have HF : Hid (Wr w.heap.size (w1.setCell ⟨w.heap.size, 0, none⟩ (.pointer (some ⟨wb, 0, none⟩))) wb (.slice none 0 0) [] ∧ Below w.heap.size w (w1.setCell ⟨w.heap.size, 0, none⟩ (.pointer (some ⟨wb, 0, none⟩))) ∧ Row (w1.setCell ⟨w.heap.size, 0, none⟩ (.pointer (some ⟨wb, 0, none⟩))) w.heap.size 75 [.pointer (some ⟨wb, 0, none⟩)]) := by
    refine ⟨h1.same (Below.heap_setCell _ _ _ _ hne) (fun k e => (by simp [Value.ownBlock] at e)), h2.setCell (Nat.le_refl _) _, ?_⟩
    exact h3.set 0 _
  clear C h1 h2 h3
  go_wp2_with fail
  exact bodyPost_ret (v := .agg #[.pointer (some ⟨wb, 0, none⟩)]) (results_cell_row Tryz.results29 _ _ w.heap.size 75 _ (0, 0) _ rfl HF.out.2.2.heap Tryz.underlying75 rfl (by kernel_rfl)) rfl ⟨wb, rfl, HF.out.1, HF.out.2.1⟩

/-- The writer, and two variables that stay. -/
structure Ps (B : Nat) (w W : World) (wb : Nat) (v : Value) (l : List UInt8) (g1 g2 : Nat) (L2 : List Value) (t2 : Nat) : Prop where
  wr : Wr B W wb v l
  bel : Below B w W
  r1 : Row W g1 75 [.pointer (some ⟨wb, 0, none⟩)]
  r2 : Row W g2 t2 L2
  n1 : g1 ≠ wb
  n2 : g2 ≠ wb
  o1 : v.ownBlock ≠ some g1
  o2 : v.ownBlock ≠ some g2
  all : ∃ v0, w.cell? ⟨wb, 0, none⟩ = some v0 ∧ Mv w W wb v0 v
theorem Ps.mv {B : Nat} {w W W' : World} {wb : Nat} {v v' : Value} {l l' : List UInt8} {g1 g2 : Nat} {L2 : List Value} {t2 : Nat} (h : Ps B w W wb v l g1 g2 L2 t2) (hw : Wr B W' wb v' l') (hm : Mv W W' wb v v') : Ps B w W' wb v' l' g1 g2 L2 t2 :=
  ⟨hw, h.bel.trans (hm.below h.wr), ⟨(hm.keep h.r1.lt h.n1 h.o1).trans h.r1.heap⟩, ⟨(hm.keep h.r2.lt h.n2 h.o2).trans h.r2.heap⟩, h.n1, h.n2, hm.off h.r1.lt h.o1, hm.off h.r2.lt h.o2, (by obtain ⟨v0, e, q⟩ := h.all; exact ⟨v0, e, q.trans hm⟩)⟩
theorem Ps.first {B : Nat} {w : World} {wb : Nat} {v : Value} {l : List UInt8} (h : Wr B w wb v l) (L2 : List Value) (t2 : Nat) : Ps B w ((w.alloc (.cells #[.pointer (some ⟨wb, 0, none⟩)] 75)).alloc (.cells L2.toArray t2)) wb v l w.heap.size (w.heap.size + 1) L2 t2 := by
  have hA := alloc_two w (.cells #[.pointer (some ⟨wb, 0, none⟩)] 75) (.cells L2.toArray t2)
  have hlt := h.lt
  have r2 := Row.new (w.alloc (.cells #[.pointer (some ⟨wb, 0, none⟩)] 75)) t2 L2
  rw [size_alloc] at r2
  exact ⟨h.past hA, hA.mono h.lo, (Row.new w 75 [.pointer (some ⟨wb, 0, none⟩)]).alloc _, r2, by omega, by omega, fun e => by have := (h.own.lt _ e).2; omega, fun e => by have := (h.own.lt _ e).2; omega, v, h.cell, Mv.past hA _ _⟩

set_option maxHeartbeats 4000000 in
theorem putSig_nil (B wb : Nat) (v : Value) (w : World) (h : Wr B w wb v []) (s : Bs) (hs : s.length ≤ 1000) (a b : Option Addr) (c d : Nat) :
    Calls Tryz.prog 30 #[.agg #[.pointer (some ⟨wb, 0, none⟩)], .agg #[.string (str s), .slice a 0 c, .slice b 0 d]] w fun ev w' => ev = .returned (.tuple #[]) ∧ ∃ v', Wr B w' wb v' ((([] ++ (enc (str [85, 83, 73, 71]).size ++ (str [85, 83, 73, 71]).data.toList)) ++ (enc (str s).size ++ (str s).data.toList)) ++ [0] ++ [0]) ∧ Mv w w' wb v v' := by
  have hc0 := hidS h.cell
  have P0 := Ps.first h [.string (str s), .slice a 0 c, .slice b 0 d] 27
  have es : (str s).size = s.length := str_size s
  have he := enc_len_10 (v := (str s).size) (by omega)
  have hd : (str s).data.toList.length = s.length := by simp [str]
  have hu : ((([] : List UInt8) ++ (enc (str [85, 83, 73, 71]).size ++ (str [85, 83, 73, 71]).data.toList))).length ≤ 20 := by
    have h1 := enc_len_10 (v := (str [85, 83, 73, 71]).size) (by rw [str_size]; decide)
    have h2 : (str [85, 83, 73, 71]).data.toList.length = 4 := by simp [str]
    simp only [List.nil_append, List.length_append]; omega
  have C1 : Hid (Calls Tryz.prog 66 #[.pointer (some ⟨wb, 0, none⟩), .string ⟨#[85, 83, 73, 71]⟩] ((w.alloc (.cells #[.pointer (some ⟨wb, 0, none⟩)] 75)).alloc (.cells #[.string (str s), .slice a 0 c, .slice b 0 d] 27)) fun ev w' => ev = .returned (.tuple #[]) ∧ ∃ v', Ps B w w' wb v' ([] ++ (enc (str [85, 83, 73, 71]).size ++ (str [85, 83, 73, 71]).data.toList)) w.heap.size (w.heap.size + 1) [.string (str s), .slice a 0 c, .slice b 0 d] 27) := by
    refine (wText_any B wb (str [85, 83, 73, 71]) v [] _ P0.wr (by rw [str_size]; decide) (by simp)).mono ?_
    rintro _ w1 ⟨rfl, v', h1, h2⟩
    exact ⟨rfl, v', P0.mv h1 h2⟩
  generalize ([] : List UInt8) ++ (enc (str [85, 83, 73, 71]).size ++ (str [85, 83, 73, 71]).data.toList) = U at *
  have C2 : Hid (∀ w1 v1, Ps B w w1 wb v1 U w.heap.size (w.heap.size + 1) [.string (str s), .slice a 0 c, .slice b 0 d] 27 → Calls Tryz.prog 66 #[.pointer (some ⟨wb, 0, none⟩), .string (str s)] w1 fun ev w' => ev = .returned (.tuple #[]) ∧ ∃ v', Ps B w w' wb v' (U ++ (enc (str s).size ++ (str s).data.toList)) w.heap.size (w.heap.size + 1) [.string (str s), .slice a 0 c, .slice b 0 d] 27) := by
    intro w1 v1 P1
    refine (wText_any B wb (str s) v1 U _ P1.wr (by omega) (by omega)).mono ?_
    rintro _ w2 ⟨rfl, v', h1, h2⟩
    exact ⟨rfl, v', P1.mv h1 h2⟩
  have hT : (U ++ (enc (str s).size ++ (str s).data.toList)).length ≤ 2000 := by simp only [List.length_append]; omega
  generalize U ++ (enc (str s).size ++ (str s).data.toList) = T at *
  have C3 : Hid (∀ w1 v1 f, Ps B w w1 wb v1 T w.heap.size (w.heap.size + 1) [.string (str s), .slice a 0 c, .slice b 0 d] 27 → Calls Tryz.prog 67 #[.agg #[.pointer (some ⟨wb, 0, none⟩)], .slice a 0 c, f] w1 fun ev w' => ev = .returned (.tuple #[]) ∧ ∃ v', Ps B w w' wb v' (T ++ [0]) w.heap.size (w.heap.size + 1) [.string (str s), .slice a 0 c, .slice b 0 d] 27) := by
    intro w1 v1 f P1
    refine (putScts_nil B wb v1 T _ P1.wr (by omega) a c f).mono ?_
    rintro _ w2 ⟨rfl, v', h1, h2⟩
    exact ⟨rfl, v', P1.mv h1 h2⟩
  have C4 : Hid (∀ w1 v1 f, Ps B w w1 wb v1 (T ++ [0]) w.heap.size (w.heap.size + 1) [.string (str s), .slice a 0 c, .slice b 0 d] 27 → Calls Tryz.prog 69 #[.agg #[.pointer (some ⟨wb, 0, none⟩)], .slice b 0 d, f] w1 fun ev w' => ev = .returned (.tuple #[]) ∧ ∃ v', Ps B w w' wb v' (T ++ [0] ++ [0]) w.heap.size (w.heap.size + 1) [.string (str s), .slice a 0 c, .slice b 0 d] 27) := by
    intro w1 v1 f P1
    refine (putFncs_nil B wb v1 (T ++ [0]) _ P1.wr (by simp; omega) b d f).mono ?_
    rintro _ w2 ⟨rfl, v', h1, h2⟩
    exact ⟨rfl, v', P1.mv h1 h2⟩
  clear h P0 hd he es
  generalize str s = SS at *
  go_enter Tryz.func30, Tryz.ntmps30
  go_wp2_with fail
  refine C1.out.mono ?_
  rintro _ w1 ⟨rfl, v1, P1⟩
  have a0 := P1.r1.cell 0
  have b0 := P1.r2.cell 0
  simp only [List.getElem?_cons_zero] at a0 b0
  have D2 := hidS (C2.out w1 v1 P1)
  clear C1 C2 P1
  go_wp2_with fail
  refine D2.out.mono ?_
  rintro _ w2 ⟨rfl, v2, P2⟩
  have a1 := P2.r1.cell 0
  have b1 := P2.r2.cell 1
  simp only [List.getElem?_cons_zero, List.getElem?_cons_succ] at a1 b1
  have D3 : Hid (∀ f, _) := fun f => C3.out w2 v2 f P2
  clear C3 D2 P2 a0 b0
  go_wp2_with fail
  refine (D3.out _).mono ?_
  rintro _ w3 ⟨rfl, v3, P3⟩
  have a2 := P3.r1.cell 0
  have b2 := P3.r2.cell 2
  simp only [List.getElem?_cons_zero, List.getElem?_cons_succ] at a2 b2
  have D4 : Hid (∀ f, _) := fun f => C4.out w3 v3 f P3
  clear C4 D3 P3 a1 b1
  go_wp2_with fail
  refine (D4.out _).mono ?_
  rintro _ w4 ⟨rfl, v4, P4⟩
  clear D4
  go_wp2_with fail
  go_end0
  obtain ⟨v0, e0, q⟩ := P4.all
  rw [hc0.out] at e0
  cases e0
  exact ⟨rfl, v4, P4.wr, q⟩

set_option maxHeartbeats 4000000 in
/-- A sig of nothing but its name. -/
theorem put_nil (s : Bs) (hs : nameB s = true) (hl : s.length ≤ 1000) (a b : Option Addr) (c d : Nat) (w : World) :
    Calls Tryz.prog 13 #[.agg #[.string (str s), .slice a 0 c, .slice b 0 d]] w fun ev w' => ∃ x, ev = .returned (.tuple #[x, .nilIface]) ∧ Sw w' x ([4, 85, 83, 73, 71] ++ (enc s.length ++ s) ++ [0, 0]) ∧ Below w.heap.size w w' := by
  have hA := alloc_one w (.cells #[.string (str s), .slice a 0 c, .slice b 0 d] 27)
  have C1 : Hid (Calls Tryz.prog 18 #[.agg #[.string (str s), .slice a 0 c, .slice b 0 d]] (w.alloc (.cells #[.string (str s), .slice a 0 c, .slice b 0 d] 27)) fun ev w' => ev = .returned (.bool true) ∧ Below w.heap.size w w' ∧ Row w' w.heap.size 27 [.string (str s), .slice a 0 c, .slice b 0 d]) := by
    refine (sigMay_nil s hs hl a b c d _).mono ?_
    rintro _ w1 ⟨rfl, h1⟩
    have R := Row.new w 27 [.string (str s), .slice a 0 c, .slice b 0 d]
    exact ⟨rfl, hA.trans (h1.mono hA.size), R.below h1 R.lt⟩
  have C2 : Hid (∀ w1, Below w.heap.size w w1 → Row w1 w.heap.size 27 [.string (str s), .slice a 0 c, .slice b 0 d] → Calls Tryz.prog 29 #[] w1 fun ev w' => ∃ wb, ev = .returned (.agg #[.pointer (some ⟨wb, 0, none⟩)]) ∧ Wr w1.heap.size w' wb (.slice none 0 0) [] ∧ Below w.heap.size w w' ∧ Row w' w.heap.size 27 [.string (str s), .slice a 0 c, .slice b 0 d] ∧ w.heap.size < w1.heap.size) := by
    intro w1 h1 r1
    refine (newSw_any w1).mono ?_
    rintro _ w2 ⟨wb, rfl, h2, h3⟩
    exact ⟨wb, rfl, h2, h1.trans (h3.mono h1.size), r1.below h3 r1.lt, r1.lt⟩
  have C3 : Hid (∀ (w1 w2 : World) wb, Wr w1.heap.size w2 wb (.slice none 0 0) [] → Below w.heap.size w w2 → w.heap.size < w1.heap.size → Calls Tryz.prog 30 #[.agg #[.pointer (some ⟨wb, 0, none⟩)], .agg #[.string (str s), .slice a 0 c, .slice b 0 d]] (w2.alloc (.cells #[.pointer (some ⟨wb, 0, none⟩)] 75)) fun ev w' => ev = .returned (.tuple #[]) ∧ ∃ v', Wr w1.heap.size w' wb v' ([4, 85, 83, 73, 71] ++ (enc s.length ++ s) ++ [0, 0]) ∧ Below w.heap.size w w' ∧ Row w' w2.heap.size 75 [.pointer (some ⟨wb, 0, none⟩)]) := by
    intro w1 w2 wb h1 h2 h3
    have hB := alloc_one w2 (.cells #[.pointer (some ⟨wb, 0, none⟩)] 75)
    have hlt := h1.lt
    refine (putSig_nil w1.heap.size wb (.slice none 0 0) _ (h1.past hB) s hl a b c d).mono ?_
    rintro _ w3 ⟨rfl, v', k1, k2⟩
    have R := Row.new w2 75 [.pointer (some ⟨wb, 0, none⟩)]
    have hz := h2.alloc h2.size (.cells #[.pointer (some ⟨wb, 0, none⟩)] 75)
    refine ⟨rfl, v', ?_, hz.trans ((k2.below (h1.past hB)).mono (by omega)), ⟨(k2.keep R.lt (by omega) (by simp [Value.ownBlock])).trans R.heap⟩⟩
    have e1 : enc (str [85, 83, 73, 71]).size = [4] := by rw [str_size]; rfl
    rw [e1, str_size] at k1
    have e2 : ([] ++ ([4] ++ (str [85, 83, 73, 71]).data.toList) ++ (enc s.length ++ (str s).data.toList) ++ [0] ++ [0] : List UInt8) = [4, 85, 83, 73, 71] ++ (enc s.length ++ s) ++ [0, 0] := by
      show ([] ++ ([4] ++ [85, 83, 73, 71]) ++ (enc s.length ++ s) ++ [0] ++ [0] : List UInt8) = _
      simp
    rw [e2] at k1
    exact k1
  have hx : (([4, 85, 83, 73, 71] ++ (enc s.length ++ s) ++ [0, 0] : List UInt8)).length ≤ 2000 := by
    have := enc_len_10 (v := s.length) (by omega)
    simp only [List.length_append, List.length_cons, List.length_nil]; omega
  generalize ([4, 85, 83, 73, 71] ++ (enc s.length ++ s) ++ [0, 0] : List UInt8) = X at *
  have C4 : Hid (∀ (w1 w3 : World) wb v', Wr w1.heap.size w3 wb v' X → Below w.heap.size w w3 → Calls Tryz.prog 31 #[.pointer (some ⟨wb, 0, none⟩)] w3 fun ev w' => ∃ ao k e, ev = .returned (.slice ao k e) ∧ Sw w' (.slice ao k e) X ∧ Below w.heap.size w w') := by
    intro w1 w3 wb v' h1 h2
    refine (wBytes_any _ wb v' X w3 h1 (by omega)).mono ?_
    rintro _ w4 ⟨y, rfl, ho, hb⟩
    obtain ⟨ao, e, rfl⟩ := own_shape ho
    exact ⟨ao, _, e, rfl, Sw.ofOwn ho, h2.trans (hb.mono h2.size)⟩
  clear hA hx
  generalize str s = SS at *
  go_enter Tryz.func13, Tryz.ntmps13
  go_wp2_with fail
  refine C1.out.mono ?_
  rintro _ w1 ⟨rfl, h1, r1⟩
  have D2 := hidS (C2.out w1 h1 r1)
  clear C1 C2 h1 r1
  go_wp2_with fail
  refine D2.out.mono ?_
  rintro _ w2 ⟨wb, rfl, h2, h3, r2, hlt⟩
  have D3 := hidS (C3.out w1 w2 wb h2 h3 hlt)
  have b0 : ∀ o, (w2.alloc o).cell? ⟨w.heap.size, 0, none⟩ = some (.string SS) := fun o => (r2.alloc o).cell 0
  have b1 : ∀ o, (w2.alloc o).cell? ⟨w.heap.size, 1, none⟩ = some (.slice a 0 c) := fun o => (r2.alloc o).cell 1
  have b2 : ∀ o, (w2.alloc o).cell? ⟨w.heap.size, 2, none⟩ = some (.slice b 0 d) := fun o => (r2.alloc o).cell 2
  clear C3 D2 h2 h3 r2
  go_wp2_with fail
  refine D3.out.mono ?_
  rintro _ w3 ⟨rfl, v3, k1, k2, k3⟩
  have c0 := k3.cell 0
  simp only [List.getElem?_cons_zero] at c0
  have D4 := hidS (C4.out w1 w3 wb v3 k1 k2)
  clear C4 D3 k1 k2 k3 b0 b1 b2
  go_wp2_with fail
  refine D4.out.mono ?_
  rintro _ w4 ⟨ao, k, e, rfl, g1, g2⟩
  clear D4
  go_wp2_with fail
  go_ret2
  exact ⟨_, rfl, g1, g2⟩
end Go.Proofs.YtmopffaocamieaaGreat

namespace Go.Proofs.YtmopffaocamieaaGreat
open Go.RowKit

def txB (s : Bs) : Bs := enc s.length ++ s
def lsB {α : Type} (f : α → Bs) (l : List α) : Bs := enc l.length ++ (l.map f).flatten
theorem flat_snoc {α : Type} (f : α → Bs) (l : List α) (k : Nat) (h : k < l.length) : ((l.take (k + 1)).map f).flatten = ((l.take k).map f).flatten ++ f l[k] := by
  rw [List.take_succ_eq_append_getElem h, List.map_append, List.flatten_append]; simp
theorem flat_le {α : Type} (f : α → Bs) (l : List α) (k : Nat) : ((l.take k).map f).flatten.length ≤ (l.map f).flatten.length := by
  conv => rhs; rw [← List.take_append_drop k l, List.map_append, List.flatten_append, List.length_append]
  omega
theorem flat_at_le {α : Type} (f : α → Bs) (l : List α) (k : Nat) (h : k < l.length) : ((l.take k).map f).flatten.length + (f l[k]).length ≤ (l.map f).flatten.length := by
  have := flat_le f l (k + 1)
  rw [flat_snoc f l k h, List.length_append] at this
  exact this
theorem wTx_any (B wb : Nat) (s : Bs) (v : Value) (l : Bs) (w : World) (h : Wr B w wb v l) (hl : l.length + (txB s).length ≤ 800000000) :
    Calls Tryz.prog 66 #[.pointer (some ⟨wb, 0, none⟩), .string (str s)] w fun ev w' => ev = .returned (.tuple #[]) ∧ ∃ v', Wr B w' wb v' (l ++ txB s) ∧ Mv w w' wb v v' := by
  have hs : s.length ≤ 800000000 := by unfold txB at hl; rw [List.length_append] at hl; omega
  have := wText_any B wb (str s) v l w h (by rw [str_size]; omega) (by omega)
  rw [str_size] at this
  exact this

set_option maxHeartbeats 4000000 in
theorem putStrs_any {K : Ctx} (B wb : Nat) (hKB : K.C ≤ B) {w : World} {u : Value} {l : List Bs} (hu : Strs K w u l) (v : Value) (a : Bs) (h : Wr B w wb v a) (hl : a.length + (lsB txB l).length ≤ 800000000) :
    Calls Tryz.prog 115 #[.agg #[.pointer (some ⟨wb, 0, none⟩)], u, .func (.func 66) #[.pointer (some ⟨wb, 0, none⟩)] #[]] w fun ev w' => ev = .returned (.tuple #[]) ∧ ∃ v', Wr B w' wb v' (a ++ lsB txB l) ∧ Mv w w' wb v v' := by
  obtain ⟨ao, cap, rfl, hc, hb, hA⟩ := Ar.shape hu
  have hn : l.length ≤ 9223372036854775807 := by omega
  have hL : (lsB txB l).length = (enc l.length).length + ((l.map txB).flatten).length := by unfold lsB; rw [List.length_append]
  have HA : Hid (∀ i (h : i < l.length) (y : World), Below B w y → ∃ b o, ao = some ⟨b, o, none⟩ ∧ y.cell? ⟨b, o + i, none⟩ = some (.string (str l[i]))) := by
    intro i h y hy
    obtain ⟨b, o, e, hbC, cs, hl, hcs, hx⟩ := hA i h
    refine ⟨b, o, e, ?_⟩
    have := hcs 0 (by decide)
    rw [hx.1, Nat.mul_one, Nat.add_zero] at this
    rw [hy.cell (p := ⟨b, o + i, none⟩) (Nat.lt_of_lt_of_le hbC hKB)]
    exact this
  have hW := alloc_one w (.cells #[.pointer (some ⟨wb, 0, none⟩)] 75)
  have C : Hid (Calls Tryz.prog 113 #[.pointer (some ⟨wb, 0, none⟩), .int .u64 (l.length : Int)] (w.alloc (.cells #[.pointer (some ⟨wb, 0, none⟩)] 75)) fun ev w' => ev = .returned (.tuple #[]) ∧ ∃ v', Wr B w' wb v' (a ++ enc l.length) ∧ Mv w w' wb v v') := by
    refine (wUint_any B wb l.length v a _ (h.past hW) (by omega) (by omega)).mono ?_
    rintro _ w1 ⟨rfl, v', h1, h2⟩
    exact ⟨rfl, v', h1, (Mv.past hW _ _).trans h2⟩
  have HW : Hid (Wr B w wb v a) := h
  have kc : IntKind.u64.wrap (l.length : Int) = (l.length : Int) := by rw [IntKind.wrap_u64]; omega
  clear hA hu hb hc h hW
  go_enter Tryz.func115, Tryz.ntmps115
  go_wp2_with fail
  refine C.out.mono ?_
  rintro _ w1 ⟨rfl, v1, h1, m1⟩
  have H1 := hidS h1
  have M1 := hidS m1
  clear C h1 m1
  go_wp2_with fail
  go_loopw [16] (fun i wr => ∃ (k : Nat) (v2 : Value), k ≤ l.length ∧ i = .int .i64 k ∧ Wr B wr wb v2 (a ++ enc l.length ++ ((l.take k).map txB).flatten) ∧ Mv w wr wb v v2) (fun i _ => l.length - (intOf i).toNat)
  case atStart => exact ⟨0, v1, by omega, rfl, by simpa using H1.out, M1.out⟩
  case round =>
    obtain ⟨k, v2, hk, rfl, h2, m2⟩ := hrel
    by_cases h3 : k < l.length
    · obtain ⟨b, o, e, hcell⟩ := HA.out k h3 wr (m2.below HW.out)
      subst e
      have i1 : (k : Int) < (l.length : Int) := by omega
      have D := hidS (wTx_any B wb l[k] v2 _ wr h2 (by
        have := flat_at_le txB l k h3
        simp only [List.length_append]; omega))
      have HL := hidS (flat_snoc txB l k h3)
      have M2 := hidS m2
      clear HA H1 M1 h2 m2
      generalize str l[k] = X at *
      go_wp2_with fail
      refine D.out.mono ?_
      rintro _ w3 ⟨rfl, v3, h4, m4⟩
      go_wp2_with fail
      go_roundw
      case rel => exact ⟨k + 1, v3, by omega, by go_num, by rw [HL.out, ← List.append_assoc]; exact h4, M2.out.trans m4⟩
      case measure => simp [intOf]; omega
    · have i1 : ¬ (k : Int) < (l.length : Int) := by omega
      obtain rfl : k = l.length := by omega
      rw [List.take_length] at h2
      clear HA H1 M1
      have H2 := hidS h2
      have M2 := hidS m2
      clear h2 m2
      go_wp2_with fail
      go_end0
      exact ⟨rfl, v2, by unfold lsB; rw [← List.append_assoc]; exact H2.out, M2.out⟩
end Go.Proofs.YtmopffaocamieaaGreat
