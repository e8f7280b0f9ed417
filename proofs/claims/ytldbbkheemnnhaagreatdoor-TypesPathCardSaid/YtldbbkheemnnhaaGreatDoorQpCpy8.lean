/-
  A crate of structs alone is copied, places and all.
-/
import Derived.Test.YtldbbkheemnnhaaGreatDoorJpLf82
namespace Go.Proofs.YtldbbkheemnnhaaGreatDoor
open Go.RowKit
theorem flat_set {z : Nat} {u : Value} : ∀ {css : List (List Value)}, (∀ c ∈ css, c.length = z) -> ∀ (i : Nat) (h : i < css.length) (j : Nat), j < z -> css.flatten.set (i * z + j) u = (css.set i (css[i].set j u)).flatten
 | [], _, _, h, _, _ => by cases h
 | c :: css, hz, 0, _, j, hj => by
  have h2 := hz c (List.mem_cons_self)
  simp only [List.flatten_cons, Nat.zero_mul, Nat.zero_add, List.getElem_cons_zero, List.set_cons_zero]
  rw [List.set_append_left _ _ (by omega)]
 | c :: css, hz, i + 1, h, j, hj => by
  have h2 := hz c (List.mem_cons_self)
  have h3 := flat_set (u := u) (css := css) (fun c hc => hz c (List.mem_cons_of_mem _ hc)) i (by simpa using h) j hj
  simp only [List.flatten_cons, List.getElem_cons_succ, List.set_cons_succ]
  rw [List.set_append_right _ _ (by rw [h2, Nat.succ_mul]; omega), ← h3]
  congr 2
  rw [h2, Nat.succ_mul]; omega
theorem ArR.poke {B : Nat} {w0 w : World} {v : Value} {A C : List Sct} {x : Sct} (h : ArR B w0 w v (A ++ x :: C)) : ∃ g1 cp, v = .slice (some ⟨g1, 0, none⟩) (A ++ x :: C).length cp /\ w.cell? ⟨g1, A.length * 5 + 4, none⟩ = some (.int .i64 x.pos) /\ w.frozen? ⟨g1, A.length * 5 + 4, none⟩ = false /\ w0.heap.size <= g1 /\ g1 < w.heap.size /\
  ∀ p, ArR B w0 (w.setCell ⟨g1, A.length * 5 + 4, none⟩ (.int .i64 p)) v (A ++ { x with pos := p } :: C) := by
 rcases h.shape with ⟨h, _⟩ | ⟨g1, cp, N, sp, dn, h1, h2, h3, h4, h5, h6, h7, h8, h9, h10⟩
 ·exact absurd h (by simp)
 have hk : A.length < (A ++ x :: C).length := by simp
 have hkd : A.length < dn.length := by omega
 have hxk : (A ++ x :: C)[A.length] = x := by simp
 have hq := h10 A.length hk hkd
 rw [hxk] at hq
 obtain ⟨v2, v3, e, hn, q2, q3⟩ := hq
 have hz := h9.lt
 refine ⟨g1, cp, h1, ?_, h9.fz _, h4, hz, fun p => ?_⟩
 ·have h11 : (A.length + 1) * 5 <= dn.length * 5 := Nat.mul_le_mul_right 5 hkd
  rw [h9.cell, List.getElem?_append_left (by rw [flat_len h8]; omega), flat_get h8 A.length hkd 4 (by decide), e]; rfl
 ·have hl : (A ++ { x with pos := p } :: C).length = (A ++ x :: C).length := by simp
  have h11 : (A.length + 1) * 5 <= dn.length * 5 := Nat.mul_le_mul_right 5 hkd
  have hr := h9.set (A.length * 5 + 4) (.int .i64 p)
  rw [List.set_append_left _ _ (by rw [flat_len h8]; omega), flat_set h8 A.length hkd 4 (by decide)] at hr
  have hS : Stay (fun k => k = g1) w (w.setCell ⟨g1, A.length * 5 + 4, none⟩ (.int .i64 p)) := Stay.set (X := fun k => k = g1) (Stay.refl _ _) (fun _ => rfl) _ _
  have hsz := hS.size
  have kp : Kp (fun b => N <= b /\ b < w.heap.size) (fun b => N <= b /\ b < (w.setCell ⟨g1, A.length * 5 + 4, none⟩ (.int .i64 p)).heap.size) w (w.setCell ⟨g1, A.length * 5 + 4, none⟩ (.int .i64 p)) := ⟨fun b hb => ⟨hb.1, Nat.lt_of_lt_of_le hb.2 hsz⟩, fun b hb => hS.block b hb.2 (fun e => by have := hb.1; omega)⟩
  refine ⟨.inr ⟨g1, cp, N, sp, dn.set A.length (dn[A.length].set 4 (.int .i64 p)), by rw [hl]; exact h1, by rw [hl]; exact h2, by rw [hl]; exact h3, h4, h5, Nat.le_trans h6 hsz, by rw [List.length_set, hl]; exact h7, ?_, hr, ?_⟩⟩
  ·intro c hc
   rcases List.mem_or_eq_of_mem_set hc with hc | rfl
   ·exact h8 c hc
   ·rw [List.length_set]; exact h8 _ (List.getElem_mem _)
  ·intro i hi hi'
   rw [List.length_set] at hi'
   rw [hl] at hi
   by_cases he : i = A.length
   ·subst he
    have e1 : (A ++ { x with pos := p } :: C)[A.length]'(by rw [hl]; exact hi) = { x with pos := p } := by simp
    rw [List.getElem_set_self, e1, e]
    exact ⟨v2, v3, rfl, hn, q2.mono kp, q3.mono kp fun _ _ _ h => h.mono kp⟩
   ·have e1 : (A ++ { x with pos := p } :: C)[i]'(by rw [hl]; exact hi) = (A ++ x :: C)[i] := by
     rcases Nat.lt_or_ge i A.length with h' | h'
     ·rw [List.getElem_append_left h', List.getElem_append_left h']
     ·rw [List.getElem_append_right h', List.getElem_append_right h']
      obtain ⟨m, hm⟩ : ∃ m, i - A.length = m + 1 := ⟨i - A.length - 1, by omega⟩
      simp only [hm, List.getElem_cons_succ]
    rw [List.getElem_set_ne (fun e => he e.symm), e1]
    exact (h10 i hi hi').mono kp
def cpyL (Ls : List Sct) (k : Nat) : List Sct := Ls.take k ++ (Ls.drop k).map bareSc
theorem cpy_zero (Ls : List Sct) : cpyL Ls 0 = Ls.map bareSc := by simp [cpyL]
theorem cpy_all (Ls : List Sct) : cpyL Ls Ls.length = Ls := by simp [cpyL]
theorem cpy_at {Ls : List Sct} {k : Nat} (h : k < Ls.length) : cpyL Ls k = Ls.take k ++ bareSc Ls[k] :: (Ls.drop (k + 1)).map bareSc := by
 unfold cpyL
 rw [List.drop_eq_getElem_cons h]; rfl
theorem cpy_next {Ls : List Sct} {k : Nat} (h : k < Ls.length) : cpyL Ls (k + 1) = Ls.take k ++ { bareSc Ls[k] with pos := Ls[k].pos } :: (Ls.drop (k + 1)).map bareSc := by
 unfold cpyL bareSc
 rw [List.take_add_one, List.getElem?_eq_getElem h]
 show (Ls.take k ++ [Ls[k]]) ++ _ = _
 rw [List.append_assoc]; rfl
set_option maxHeartbeats 16000000 in
set_option maxRecDepth 20000 in
theorem copyOf_any {K : Ctx} {w : World} (hC : K.C <= w.heap.size) {Ls : List Sct} {v0 : Value} {a1 : Option Addr} {p1 : Nat} (h0 : Ar 5 80 (SctAt K w) K w v0 Ls) :
  Calls Tryz.prog 64 #[.agg #[v0, .slice a1 0 p1]] w fun ev w' => ∃ u0, ev = .returned (.agg #[u0, .slice none 0 0]) /\ Below w.heap.size w w' /\ ArR K.B w w' u0 Ls := by
 have hbig : Ls.length <= 140737488355328 := by obtain ⟨_, _, _, _, h, _⟩ := h0.shape; omega
 have HG := hidP h0
 have HC := hidP hC
 obtain ⟨a0, c0, rfl⟩ := h0.form
 have hsz2 := hidP (size_two w (.cells #[.slice a0 Ls.length c0, .slice a1 0 p1] 69) (.cells #[.slice none 0 0, .slice none 0 0] 69))
 have hA : Below w.heap.size w ((w.alloc (.cells #[.slice a0 Ls.length c0, .slice a1 0 p1] 69)).alloc (.cells #[.slice none 0 0, .slice none 0 0] 69)) := alloc_two w _ _
 have R1 : Hid (Row ((w.alloc (.cells #[.slice a0 Ls.length c0, .slice a1 0 p1] 69)).alloc (.cells #[.slice none 0 0, .slice none 0 0] 69)) w.heap.size 69 [.slice a0 Ls.length c0, .slice a1 0 p1]) := (Row.new w 69 [.slice a0 Ls.length c0, .slice a1 0 p1]).alloc _
 have R2 : Hid (Row ((w.alloc (.cells #[.slice a0 Ls.length c0, .slice a1 0 p1] 69)).alloc (.cells #[.slice none 0 0, .slice none 0 0] 69)) (w.heap.size + 1) 69 [.slice none 0 0, .slice none 0 0]) := by
  have := Row.new (w.alloc (.cells #[.slice a0 Ls.length c0, .slice a1 0 p1] 69)) 69 [.slice none 0 0, .slice none 0 0]
  rw [size_alloc] at this; exact this
 have T0 := hidP (bareR_any (K := K) (a1 := a1) (p1 := p1) (Nat.le_trans hC hA.size) (h0.mono (below_le hA hC) fun _ _ _ h => h.below (below_le hA hC)))
 have HA := hidP hA
 clear h0 hA
 obtain ⟨n, hnl⟩ : ∃ n, n = Ls.length := ⟨_, rfl⟩
 rw [← hnl] at hsz2 R1 R2 T0 HA hbig ⊢
 have HNL := hidP hnl
 clear hnl
 generalize hW2 : (w.alloc (.cells #[.slice a0 n c0, .slice a1 0 p1] 69)).alloc (.cells #[.slice none 0 0, .slice none 0 0] 69) = W2 at *
 have HW2 := hidP hW2
 clear hW2
 go_enter Tryz.func64, Tryz.ntmps64
 go_wp2_with fail
 rw [HW2.out]
 clear HW2
 refine T0.out.mono ?_
 rintro _ w3 ⟨u0, rfl, hb3, q3⟩
 obtain ⟨b0, m0, rfl⟩ := q3.form
 rw [List.length_map]
 have e0 : Ls.length = n := HNL.out.symm
 rw [e0]
 rw [List.length_map, e0] at q3
 have hz2 := hsz2.out
 have hz3 := hb3.size
 have hb0 : ∀ g, b0 = some ⟨g, 0, none⟩ -> g < w3.heap.size := fun g e => by
  rcases q3.shape with ⟨h, h'⟩ | ⟨g1, cp, N, sp, dn, h1, _, _, _, h5, h6, _⟩
  ·cases h'; cases e
  ·cases h1; cases e; omega
 have R3 := hidP (R1.out.below hb3 R1.out.lt)
 have R4 := hidP (R2.out.below hb3 R2.out.lt)
 have HB3 := hidP (HA.out.trans (below_le hb3 HA.out.size))
 have RN : Hid (Row (w3.alloc (.cells #[.slice none 0 0, .slice none 0 0] 69)) w3.heap.size 69 [.slice none 0 0, .slice none 0 0]) := Row.new w3 69 _
 have HN := hidP (alloc_one w3 (.cells #[.slice none 0 0, .slice none 0 0] 69))
 have Q3 := hidP q3
 clear T0 hb3 q3 R1 R2 HA hsz2 e0
 go_wp2_with (first | (refine stR rfl 69 (.tmp 3) (.tmp 9) rfl (cs := [.slice b0 n m0, .slice none 0 0]) rfl rfl RN.out Tryz.sz69 rfl (by intro u hu; simp only [List.mem_cons, List.not_mem_nil, or_false] at hu; rcases hu with rfl | rfl <;> rfl) ?_; intro w4 R5 S4; apply shut))
 show wpList _ _ _ _ _ _
 have R6 := hidP (S4.row (R3.out.below HN.out R3.out.lt) (by omega))
 have R7 := hidP (S4.row (R4.out.below HN.out R4.out.lt) (by omega))
 have hS4 : Below w3.heap.size w3 w4 := HN.out.trans (S4.below (C := w3.heap.size) HN.out.size (fun q hq => by omega))
 have Q4 := hidP (Q3.out.past hS4)
 have HB4 := hidP (HB3.out.trans (below_le hS4 HB3.out.size))
 have hz4 := hS4.size
 have x0 := R6.out.cell 0
 simp only [List.getElem?_cons_zero] at x0
 replace R5 := hidP R5
 have hlt5 := hidP R5.out.lt
 clear RN HN R3 R4 HB3 S4 hS4 Q3
 go_wp2_with fail
 have HB0 := hidP hb0
 go_loopw [13] (fun i wr => ∃ (k : Nat), k <= n /\ i = .int .i64 k /\ Row wr w.heap.size 69 [.slice a0 n c0, .slice a1 0 p1] /\ Row wr (w.heap.size + 1) 69 [.slice none 0 0, .slice none 0 0] /\ Row wr w3.heap.size 69 [.slice b0 n m0, .slice none 0 0] /\ ArR K.B W2 wr (.slice b0 n m0) (cpyL Ls k) /\ Below w.heap.size w wr /\ w4.heap.size <= wr.heap.size) (fun i _ => n - (intOf i).toNat)
 case atStart => exact ⟨0, by omega, rfl, R6.out, R7.out, R5.out, by rw [cpy_zero]; exact Q4.out, HB4.out, Nat.le_refl _⟩
 case round =>
  clear R5 R6 R7 Q4 HB4 x0
  obtain ⟨k, hk, rfl, hr1, hr2, hr3, hQ, hb, hsz⟩ := hrel
  by_cases h3 : k < n
  ·have l1 : (k : Int) < (n : Int) := by omega
   have hk' : k < Ls.length := by have := HNL.out; omega
   obtain ⟨ao, cap, e, _, _, hall⟩ := HG.out.shape
   cases e
   obtain ⟨b', o, rfl, hbC, cs, hcl, hcs, hfa⟩ := hall k hk'
   have hCC := HC.out
   have hszw := hb.size
   have hrg : wr.rangeAt b' (o + k * 5) cs := fun j u hj => by
    have hj2 : j < 5 := by
     rcases Nat.lt_or_ge j 5 with h' | h'
     ·exact h'
     ·rw [List.getElem?_eq_none (by omega)] at hj; cases hj
    rw [hb.cell (p := ⟨b', o + k * 5 + j, none⟩) (show b' < w.heap.size by omega), hcs j hj2]; exact hj
   have hone := hfa.one
   obtain ⟨v2, v3, rfl, hnB, q2, q3⟩ := hfa
   have HRG := hidP hrg
   have hone := hidP hone
   rw [cpy_at hk'] at hQ
   have CN := hidP (cpy_next hk')
   have hlt : (Ls.take k).length = k := by rw [List.length_take]; omega
   have HLT := hidP hlt
   have RN : Hid (Row (wr.alloc (.cells z84.toArray 84)) wr.heap.size 84 z84) := Row.new wr 84 z84
   have HA := hidP (alloc_one wr (.cells z84.toArray 84))
   have H1 := hidP hr1
   have H2 := hidP hr2
   have H3 := hidP hr3
   have HQ := hidP hQ
   have HB := hidP hb
   have HSZ := hidP hsz
   clear hall hcs hcl hbC hnB q2 q3 hrg hQ hlt hr1 hr2 hr3 hb hsz
   generalize hX : Ls[k] = X at *
   clear hX
   generalize hA' : Ls.take k = A at *
   generalize (Ls.drop (k + 1)).map bareSc = C at *
   clear hA'
   generalize str X.name = SX at *
   unfold z84 at *
   go_wp2_with (first | (refine wpList_load_mid rfl 84 (.tmp 16) rfl b' (o + k * 5) rfl [.bool X.pub, .string SX, v2, v3, .int .i64 X.pos] _ HRG.out Tryz.underlying84 rfl Tryz.sz84 ?_; apply shut))
   show wpList _ _ _ _ _ _
   go_wp2_with (first | (refine stR rfl 84 (.tmp 5) (.tmp 17) rfl (cs := [.bool X.pub, .string SX, v2, v3, .int .i64 X.pos]) rfl rfl RN.out Tryz.sz84 rfl hone.out ?_; intro w6 R8 S6; apply shut))
   show wpList _ _ _ _ _ _
   have hs4 := HSZ.out
   have hBb : Below wr.heap.size wr w6 := HA.out.trans (S6.below (C := wr.heap.size) HA.out.size (fun q hq => by omega))
   have hz6 := hBb.size
   have HQ6 := HQ.out.past hBb
   obtain ⟨g1, cp, e1, ec, ef, hg0, hg1, hpk⟩ := HQ6.poke
   rw [HLT.out] at ec ef
   rw [HLT.out] at hpk
   obtain ⟨rfl, rfl⟩ : b0 = some ⟨g1, 0, none⟩ /\ m0 = cp := by injection e1 with e2 e3 e4; exact ⟨e2, e4⟩
   have hg3 := HB0.out g1 rfl
   have y0 := (H3.out.below hBb H3.out.lt).cell 0
   have y4 := R8.cell 4
   simp only [List.getElem?_cons_zero, List.getElem?_cons_succ] at y0 y4
   have hp := hpk X.pos
   have HS : Hid (Stay (fun k => k = g1) w6 (w6.setCell ⟨g1, k * 5 + 4, none⟩ (.int .i64 X.pos))) := Stay.set (X := fun k => k = g1) (Stay.refl _ _) (fun _ => rfl) _ _
   have K1 := hidP (HS.out.row (H1.out.below hBb H1.out.lt) (by omega))
   have K2 := hidP (HS.out.row (H2.out.below hBb H2.out.lt) (by omega))
   have K3 := hidP (HS.out.row (H3.out.below hBb H3.out.lt) (by omega))
   have K4 : Hid (ArR K.B W2 (w6.setCell ⟨g1, k * 5 + 4, none⟩ (.int .i64 X.pos)) (.slice (some ⟨g1, 0, none⟩) n m0) (cpyL Ls (k + 1))) := by rw [CN.out]; exact hp
   have K5 := hidP (HB.out.trans ((below_le hBb hszw).trans (HS.out.below (C := w.heap.size) (by omega) (fun q hq => by omega))))
   have K6 := hidP (Nat.le_trans (Nat.le_trans hs4 hz6) HS.out.size)
   have i1 : (k : Int) < (n : Int) := by omega
   clear hpk hp HQ6 HQ H1 H2 H3 RN HA HRG S6 hBb R8 HB HS CN e1
   go_wp2_with fail
   go_roundw
   case rel => exact ⟨k + 1, by omega, by go_num, K1.out, K2.out, K3.out, K4.out, K5.out, K6.out⟩
   case measure => simp [intOf]; omega
  ·obtain rfl : k = n := by omega
   have y1 := hr1.cell 1
   simp only [List.getElem?_cons_zero, List.getElem?_cons_succ] at y1
   rw [HNL.out, cpy_all, ← HNL.out] at hQ
   have HQ7 : Hid (∀ y, Stay (fun k => k = w.heap.size + 1) wr y -> ArR K.B w y (.slice b0 k m0) Ls) := fun y hy => (hQ.stay hy (fun k e => by omega)).from' (by omega)
   have H2 := hidP hr2
   have H3 := hidP hr3
   have HB := hidP hb
   have hs4 := hidP hsz
   clear hr1 hr2 hr3 hQ hb hsz
   go_wp2_with fail
   refine wp_loop_rounds 1 ?_
   rw [rounds_succ]
   go_wp2_with (first | (refine ldR rfl 69 (.tmp 3) rfl rfl H3.out Tryz.underlying69 rfl Tryz.sz69 ?_; apply shut))
   show wpList _ _ _ _ _ _
   refine stR rfl 69 (.tmp 2) (.tmp 51) rfl (cs := [.slice b0 k m0, .slice none 0 0]) rfl rfl H2.out Tryz.sz69 rfl (by intro u hu; simp only [List.mem_cons, List.not_mem_nil, or_false] at hu; rcases hu with rfl | rfl <;> rfl) ?_
   intro w7 R9 S9
   have hz9 := hs4.out
   have KB := hidP (HB.out.trans (S9.below (C := w.heap.size) HB.out.size (fun q hq => by omega)))
   have KQ : Hid (ArR K.B w w7 (.slice b0 k m0) Ls) := HQ7.out w7 S9
   replace R9 := hidP R9
   clear HQ7 H2 H3 HB S9
   go_wp2_with fail
   exact bodyPost_ret (v := .agg #[.slice b0 k m0, .slice none 0 0]) (results_cell_row Tryz.results64 _ _ (w.heap.size + 1) 69 _ (0, 0) _ rfl R9.out.heap Tryz.underlying69 rfl (by kernel_rfl)) rfl ⟨_, rfl, KB.out, KQ.out⟩
end Go.Proofs.YtldbbkheemnnhaaGreatDoor
