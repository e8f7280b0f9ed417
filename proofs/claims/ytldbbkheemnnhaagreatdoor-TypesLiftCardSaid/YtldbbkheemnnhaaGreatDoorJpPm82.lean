/-
  The texts Pm8, Pi8, joined.
-/
import Derived.Test.YtldbbkheemnnhaaGreatDoorJpPq82
import Derived.Test.YtldbbkheemnnhaaGreatDoorJpOwb8
namespace Go.Proofs.YtldbbkheemnnhaaGreatDoor
open Go.RowKit
structure TokOk (T : List Tok) : Prop where
 size : T.length <= 1048577
 last : ∀ i, i < T.length -> ((tk T i).kind = 0 ↔ i + 1 = T.length)
 kind : ∀ i, (tk T i).kind <= 5
 text : ∀ i, (tk T i).text.length <= 40
 place : ∀ i, (tk T i).place <= 1048576
 num : ∀ i, (tk T i).kind = 4 -> isNum (tk T i).text = true
structure PAt (T : List Tok) (tb cap g : Nat) (w : World) (s : Ps) : Prop where
 row : Row w g 104 [.slice (some ⟨tb, 0, none⟩) T.length cap, .int .i64 (s.i : Int), .int .i64 (s.code : Int), .int .i64 (s.pos : Int), .int .i64 s.item, .int .i64 (s.st : Int)]
 toks : w.rangeAt tb 0 (tvs T)
 ne : tb ≠ g
 lt : s.i < T.length
 ok : TokOk T
 cs : s.code <= 100
 ss : s.st <= 3000
theorem tk_at {T : List Tok} {i : Nat} (h : i < T.length) : T[i]? = some (tk T i) := by
 rw [List.getElem?_eq_getElem h]
 unfold tk
 rw [List.getD_eq_getElem?_getD, List.getElem?_eq_getElem h]
 rfl
section
variable {T : List Tok} {tb cap g : Nat} {w w' : World} {s : Ps}
theorem PAt.tlt (h : PAt T tb cap g w s) : tb < w.heap.size := by
 have h0 := h.lt
 have := h.toks 0 (.int .i64 ((tk T 0).kind : Int)) (by
  have := tvs_get T 0 0 (by decide)
  rw [Nat.zero_mul, Nat.zero_add, tk_at (by omega)] at this
  rw [this]; rfl)
 exact World.block_lt_of_cell? w _ this
theorem PAt.tok (h : PAt T tb cap g w s) : w.cell? ⟨tb, s.i * 3, none⟩ = some (.int .i64 ((tk T s.i).kind : Int)) /\ w.cell? ⟨tb, s.i * 3 + 1, none⟩ = some (.string (str (tk T s.i).text)) /\ w.cell? ⟨tb, s.i * 3 + 2, none⟩ = some (.int .i64 ((tk T s.i).place : Int)) := by
 have key : ∀ c u, c < 3 -> (tk T s.i).cells[c]? = some u -> w.cell? ⟨tb, s.i * 3 + c, none⟩ = some u := by
  intro c u hc hu
  have := h.toks (s.i * 3 + c) u (by rw [tvs_get T s.i c hc, tk_at h.lt]; exact hu)
  rw [Nat.zero_add] at this
  exact this
 exact ⟨key 0 _ (by decide) rfl, key 1 _ (by decide) rfl, key 2 _ (by decide) rfl⟩
theorem PAt.past (h : PAt T tb cap g w s) (hb : Below w.heap.size w w') : PAt T tb cap g w' s :=
 ⟨h.row.below hb h.row.lt, range_below h.toks hb, h.ne, h.lt, h.ok, h.cs, h.ss⟩
theorem PAt.stay {X : Nat -> Prop} (h : PAt T tb cap g w s) (hs : Stay X w w') (h1 : ¬ X g) (h2 : ¬ X tb) : PAt T tb cap g w' s :=
 ⟨hs.row h.row h1, fun j u hj => by
  have := h.toks j u hj
  rw [World.cell?_of_block (a := ⟨tb, 0 + j, none⟩) (hs.block tb h.tlt h2)]; exact this, h.ne, h.lt, h.ok, h.cs, h.ss⟩
theorem PAt.set (h : PAt T tb cap g w s) (j : Nat) (v : Value) {s' : Ps} (hrow : ([.slice (some ⟨tb, 0, none⟩) T.length cap, .int .i64 (s.i : Int), .int .i64 (s.code : Int), .int .i64 (s.pos : Int), .int .i64 s.item, .int .i64 (s.st : Int)] : List Value).set j v = [.slice (some ⟨tb, 0, none⟩) T.length cap, .int .i64 (s'.i : Int), .int .i64 (s'.code : Int), .int .i64 (s'.pos : Int), .int .i64 s'.item, .int .i64 (s'.st : Int)])
  (hl : s'.i < T.length) (hc : s'.code <= 100) (hst : s'.st <= 3000) : PAt T tb cap g (w.setCell ⟨g, j, none⟩ v) s' := by
 have hr := h.row.set j v
 rw [hrow] at hr
 refine ⟨hr, fun k u hk => ?_, h.ne, hl, h.ok, hc, hst⟩
 have := h.toks k u hk
 rw [World.cell?_of_block (a := ⟨tb, 0 + k, none⟩) (heap_setCell_other w ⟨g, j, none⟩ tb v h.ne)]
 exact this
end
def PSt (T : List Tok) (tb cap g : Nat) (w w' : World) (s : Ps) : Prop := PAt T tb cap g w' s /\ Stay (fun k => k = g) w w'
theorem below_drewN (w : World) (n : Nat) : Below w.heap.size w (w.drewN n) := ((Stay.refl (fun _ => False) w).drewN n).below (Nat.le_refl _) (fun _ h => h.elim)
theorem hidP {p : Prop} (h : p) : Hid p := h
set_option maxHeartbeats 4000000 in
theorem kind_any {T : List Tok} {tb cap g : Nat} {w : World} {s : Ps} (h : PAt T tb cap g w s) (k : Nat) :
  Calls Tryz.prog 56 #[.pointer (some ⟨g, 0, none⟩), .int .i64 (k : Int)] w fun ev w' => ev = .returned (.bool (kindF T k s)) /\ Below w.heap.size w w' := by
 have x0 := h.row.cell 0
 have x1 := h.row.cell 1
 simp only [List.getElem?_cons_zero, List.getElem?_cons_succ] at x0 x1
 obtain ⟨y0, -, -⟩ := h.tok
 have hlt := h.lt
 have i1 : (s.i : Int) < (T.length : Int) := by omega
 have hF : (((tk T s.i).kind : Int) == (k : Int)) = kindF T k s := by
  unfold kindF
  cases hk : decide ((tk T s.i).kind = k) with
  | true => simp at hk; simp [hk]
  | false => simp at hk; simp; omega
 generalize kindF T k s = B at *
 generalize (tk T s.i).kind = q at *
 generalize T.length = n at *
 generalize s.i = i at *
 clear h
 go_enter Tryz.func56, Tryz.ntmps56
 go_wp2_with fail
 go_quiet (fail)
 go_wp2_with fail
 go_ret
 exact ⟨by simp_all, below_drewN _ _⟩
set_option maxHeartbeats 4000000 in
set_option maxRecDepth 20000 in
theorem fail_any {T : List Tok} {tb cap g : Nat} {w : World} {s : Ps} (h : PAt T tb cap g w s) (c : Nat) (hc : c <= 100) :
  Calls Tryz.prog 57 #[.pointer (some ⟨g, 0, none⟩), .int .i64 (c : Int)] w fun ev w' => ev = .returned (.tuple #[]) /\ PSt T tb cap g w w' (failF T c s) := by
 have x0 := h.row.cell 0
 have x1 := h.row.cell 1
 have x2 := h.row.cell 2
 simp only [List.getElem?_cons_zero, List.getElem?_cons_succ] at x0 x1 x2
 by_cases h0 : s.code = 0
 ·have hF : failF T c s = { s with code := c, pos := (tk T s.i).place } := if_pos h0
  have HF : Hid (PSt T tb cap g w ((w.setCell ⟨g, 2, none⟩ (.int .i64 (c : Int))).setCell ⟨g, 3, none⟩ (.int .i64 ((tk T s.i).place : Int))).drew (failF T c s)) := by
   have h1 := h.set 2 (.int .i64 (c : Int)) (s' := { s with code := c }) rfl h.lt hc h.ss
   have h2 := h1.set 3 (.int .i64 ((tk T s.i).place : Int)) (s' := { s with code := c, pos := (tk T s.i).place }) rfl h.lt hc h.ss
   rw [hF]
   exact ⟨h2.past ((Below.refl _ _).drew), (((Stay.refl (fun k => k = g) w).set (fun _ => rfl) 2 _).set (fun _ => rfl) 3 _).drew⟩
  have HP := hidP h
  obtain ⟨-, -, y2⟩ := h.tok
  have hlt := h.lt
  have i1 : (s.i : Int) < (T.length : Int) := by omega
  have hq : ((s.code : Int) == 0) = true := by rw [h0]; rfl
  have HS : Hid (∀ (y : World), y.cell? ⟨g, 0, none⟩ = some (.slice (some ⟨tb, 0, none⟩) T.length cap) -> y.cell? ⟨g, 1, none⟩ = some (.int .i64 (s.i : Int)) -> y.cell? ⟨tb, s.i * 3 + 2, none⟩ = some (.int .i64 ((tk T s.i).place : Int)) -> ∀ u, (y.setCell ⟨g, 2, none⟩ u).cell? ⟨g, 0, none⟩ = some (.slice (some ⟨tb, 0, none⟩) T.length cap) /\ (y.setCell ⟨g, 2, none⟩ u).cell? ⟨g, 1, none⟩ = some (.int .i64 (s.i : Int)) /\ (y.setCell ⟨g, 2, none⟩ u).cell? ⟨tb, s.i * 3 + 2, none⟩ = some (.int .i64 ((tk T s.i).place : Int))) := by
   intro y a b c u
   refine ⟨?_, ?_, ?_⟩
   ·rw [World.cell?_setCell_other y _ _ _ (by simp)]; exact a
   ·rw [World.cell?_setCell_other y _ _ _ (by simp)]; exact b
   ·rw [World.cell?_setCell_other y _ _ _ (fun e => HP.out.ne (congrArg Addr.block e).symm)]; exact c
  have x3 := h.row.cell 3
  have f2 := h.row.fz 2
  have f3 := h.row.fz 3
  simp only [List.getElem?_cons_zero, List.getElem?_cons_succ] at x3
  have hS0 : (w.drew).cell? ⟨g, 0, none⟩ = some (.slice (some ⟨tb, 0, none⟩) T.length cap) /\ (w.drew).cell? ⟨g, 1, none⟩ = some (.int .i64 (s.i : Int)) /\ (w.drew).cell? ⟨tb, s.i * 3 + 2, none⟩ = some (.int .i64 ((tk T s.i).place : Int)) := ⟨x0, x1, y2⟩
  clear HP h hF
  generalize failF T c s = S' at *
  generalize (tk T s.i).place = q at *
  generalize T.length = n at *
  generalize hco : s.code = co at *
  generalize s.pos = po at *
  generalize s.i = i at *
  clear hco h0
  go_enter Tryz.func57, Tryz.ntmps57
  go_wp2_with fail
  refine beginL (fun y => y.cell? ⟨g, 0, none⟩ = some (.slice (some ⟨tb, 0, none⟩) n cap) /\ y.cell? ⟨g, 1, none⟩ = some (.int .i64 (i : Int)) /\ y.cell? ⟨tb, i * 3 + 2, none⟩ = some (.int .i64 (q : Int))) 19 (by kernel_rfl) hS0 (fun hSS => ?_)
  refine takeL 0 (v := ?v0) rfl (some 9) rfl (by decide) (by kernel_rfl) (by kernel_rfl) (by kernel_rfl) (by kernel_rfl) (fun _ _ _ h => h) (Or.inl ⟨by rfl, ?h0⟩) hSS ?r0
  case h0 => (intro y hy; have c0 := hy.1; have c1 := hy.2.1; have c2 := hy.2.2; go_simp; with_reducible rfl)
  try simp only [Act.put]
  try simp only [List.setIfInBounds_toArray]
  try simp only [List.set_cons_succ]
  try simp only [List.set_cons_zero]
  refine takeL 1 (v := ?v1) rfl (some 10) rfl (by decide) (by kernel_rfl) (by kernel_rfl) (by kernel_rfl) (by kernel_rfl) (fun _ _ _ h => h) (Or.inl ⟨by rfl, ?h1⟩) hSS ?r1
  case h1 => (intro y hy; have c0 := hy.1; have c1 := hy.2.1; have c2 := hy.2.2; go_simp; with_reducible rfl)
  try simp only [Act.put]
  try simp only [List.setIfInBounds_toArray]
  try simp only [List.set_cons_succ]
  try simp only [List.set_cons_zero]
  refine takeL 2 (v := ?v2) rfl (some 11) rfl (by decide) (by kernel_rfl) (by kernel_rfl) (by kernel_rfl) (by kernel_rfl) (fun _ _ _ h => h) (Or.inl ⟨by rfl, ?h2⟩) hSS ?r2
  case h2 => (intro y hy; have c0 := hy.1; have c1 := hy.2.1; have c2 := hy.2.2; go_simp; with_reducible rfl)
  try simp only [Act.put]
  try simp only [List.setIfInBounds_toArray]
  try simp only [List.set_cons_succ]
  try simp only [List.set_cons_zero]
  refine takeL 3 (v := ?v3) rfl (some 12) rfl (by decide) (by kernel_rfl) (by kernel_rfl) (by kernel_rfl) (by kernel_rfl) (fun _ _ _ h => h) (Or.inl ⟨by rfl, ?h3⟩) hSS ?r3
  case h3 => (intro y hy; have c0 := hy.1; have c1 := hy.2.1; have c2 := hy.2.2; go_simp; with_reducible rfl)
  try simp only [Act.put]
  try simp only [List.setIfInBounds_toArray]
  try simp only [List.set_cons_succ]
  try simp only [List.set_cons_zero]
  refine takeL 4 (v := ?v4) rfl (some 13) rfl (by decide) (by kernel_rfl) (by kernel_rfl) (by kernel_rfl) (by kernel_rfl) (fun _ _ _ h => h) (Or.inl ⟨by rfl, ?h4⟩) hSS ?r4
  case h4 => (intro y hy; have c0 := hy.1; have c1 := hy.2.1; have c2 := hy.2.2; go_simp; with_reducible rfl)
  try simp only [Act.put]
  try simp only [List.setIfInBounds_toArray]
  try simp only [List.set_cons_succ]
  try simp only [List.set_cons_zero]
  refine takeL 5 (v := ?v5) rfl (some 14) rfl (by decide) (by kernel_rfl) (by kernel_rfl) (by kernel_rfl) (by kernel_rfl) (fun _ _ _ h => h) (Or.inl ⟨by rfl, ?h5⟩) hSS ?r5
  case h5 => (intro y hy; have c0 := hy.1; have c1 := hy.2.1; have c2 := hy.2.2; go_simp; with_reducible rfl)
  try simp only [Act.put]
  try simp only [List.setIfInBounds_toArray]
  try simp only [List.set_cons_succ]
  try simp only [List.set_cons_zero]
  refine takeL 6 (v := ?v6) rfl (some 15) rfl (by decide) (by kernel_rfl) (by kernel_rfl) (by kernel_rfl) (by kernel_rfl) (fun _ _ _ h => h) (Or.inl ⟨by rfl, ?h6⟩) hSS ?r6
  case h6 => (intro y hy; have c0 := hy.1; have c1 := hy.2.1; have c2 := hy.2.2; go_simp; with_reducible rfl)
  try simp only [Act.put]
  try simp only [List.setIfInBounds_toArray]
  try simp only [List.set_cons_succ]
  try simp only [List.set_cons_zero]
  refine takeL 7 (v := ?v7) rfl (some 16) rfl (by decide) (by kernel_rfl) (by kernel_rfl) (by kernel_rfl) (by kernel_rfl) (fun _ _ _ h => h) (Or.inl ⟨by rfl, ?h7⟩) hSS ?r7
  case h7 => (intro y hy; have c0 := hy.1; have c1 := hy.2.1; have c2 := hy.2.2; go_simp; with_reducible rfl)
  try simp only [Act.put]
  try simp only [List.setIfInBounds_toArray]
  try simp only [List.set_cons_succ]
  try simp only [List.set_cons_zero]
  refine takeL 8 (v := ?v8) rfl (some 17) rfl (by decide) (by kernel_rfl) (by kernel_rfl) (by kernel_rfl) (by kernel_rfl) (fun _ _ _ h => h) (Or.inl ⟨by rfl, ?h8⟩) hSS ?r8
  case h8 => (intro y hy; have c0 := hy.1; have c1 := hy.2.1; have c2 := hy.2.2; go_simp; with_reducible rfl)
  try simp only [Act.put]
  try simp only [List.setIfInBounds_toArray]
  try simp only [List.set_cons_succ]
  try simp only [List.set_cons_zero]
  refine takeL 9 (v := ?v9) rfl (some 18) rfl (by decide) (by kernel_rfl) (by kernel_rfl) (by kernel_rfl) (by kernel_rfl) (fun _ _ _ h => h) (Or.inl ⟨by rfl, ?h9⟩) hSS ?r9
  case h9 => (intro y hy; have c0 := hy.1; have c1 := hy.2.1; have c2 := hy.2.2; go_simp; with_reducible rfl)
  try simp only [Act.put]
  try simp only [List.setIfInBounds_toArray]
  try simp only [List.set_cons_succ]
  try simp only [List.set_cons_zero]
  refine takeL 10 (v := ?v10) rfl (some 19) rfl (by decide) (by kernel_rfl) (by kernel_rfl) (by kernel_rfl) (by kernel_rfl) (fun _ _ _ h => h) (Or.inl ⟨by rfl, ?h10⟩) hSS ?r10
  case h10 => (intro y hy; have c0 := hy.1; have c1 := hy.2.1; have c2 := hy.2.2; go_simp; with_reducible rfl)
  try simp only [Act.put]
  try simp only [List.setIfInBounds_toArray]
  try simp only [List.set_cons_succ]
  try simp only [List.set_cons_zero]
  refine takeL 11 (v := ?v11) rfl (some 20) rfl (by decide) (by kernel_rfl) (by kernel_rfl) (by kernel_rfl) (by kernel_rfl) (fun _ _ _ h => h) (Or.inl ⟨by rfl, ?h11⟩) hSS ?r11
  case h11 => (intro y hy; have c0 := hy.1; have c1 := hy.2.1; have c2 := hy.2.2; go_simp; with_reducible rfl)
  try simp only [Act.put]
  try simp only [List.setIfInBounds_toArray]
  try simp only [List.set_cons_succ]
  try simp only [List.set_cons_zero]
  refine takeL 12 (v := ?v12) rfl (some 21) rfl (by decide) (by kernel_rfl) (by kernel_rfl) (by kernel_rfl) (by kernel_rfl) (fun _ _ _ h => h) (Or.inl ⟨by rfl, ?h12⟩) hSS ?r12
  case h12 => (intro y hy; have c0 := hy.1; have c1 := hy.2.1; have c2 := hy.2.2; go_simp; with_reducible rfl)
  try simp only [Act.put]
  try simp only [List.setIfInBounds_toArray]
  try simp only [List.set_cons_succ]
  try simp only [List.set_cons_zero]
  refine takeL 13 (v := ?v13) rfl (some 22) rfl (by decide) (by kernel_rfl) (by kernel_rfl) (by kernel_rfl) (by kernel_rfl) (fun _ _ _ h => h) (Or.inl ⟨by rfl, ?h13⟩) hSS ?r13
  case h13 => (intro y hy; have c0 := hy.1; have c1 := hy.2.1; have c2 := hy.2.2; go_simp; with_reducible rfl)
  try simp only [Act.put]
  try simp only [List.setIfInBounds_toArray]
  try simp only [List.set_cons_succ]
  try simp only [List.set_cons_zero]
  refine takeL 14 (v := ?v14) rfl (some 23) rfl (by decide) (by kernel_rfl) (by kernel_rfl) (by kernel_rfl) (by kernel_rfl) (fun _ _ _ h => h) (Or.inl ⟨by rfl, ?h14⟩) hSS ?r14
  case h14 => (intro y hy; have c0 := hy.1; have c1 := hy.2.1; have c2 := hy.2.2; go_simp; with_reducible rfl)
  try simp only [Act.put]
  try simp only [List.setIfInBounds_toArray]
  try simp only [List.set_cons_succ]
  try simp only [List.set_cons_zero]
  refine takeL 15 (v := ?v15) rfl (some 24) rfl (by decide) (by kernel_rfl) (by kernel_rfl) (by kernel_rfl) (by kernel_rfl) (fun _ _ _ h => h) (Or.inl ⟨by rfl, ?h15⟩) hSS ?r15
  case h15 => (intro y hy; have c0 := hy.1; have c1 := hy.2.1; have c2 := hy.2.2; go_simp; with_reducible rfl)
  try simp only [Act.put]
  try simp only [List.setIfInBounds_toArray]
  try simp only [List.set_cons_succ]
  try simp only [List.set_cons_zero]
  refine readyL (rs := [16]) (by kernel_rfl) (by simp) ?_
  refine ReadyL.cons rfl (fun KK hK => ?_) ReadyL.nil
  refine wantR (by rfl) ?_
  go_simp
  refine hK.out _ _ (fun _ => HS.out _ hSS.1 hSS.2.1 hSS.2.2 _) (fun _ => ?_)
  clear hK KK
  replace hSS := HS.out _ hSS.1 hSS.2.1 hSS.2.2 (.int .i64 (c : Int))
  try simp only [Act.put]
  try simp only [List.setIfInBounds_toArray]
  try simp only [List.set_cons_succ]
  try simp only [List.set_cons_zero]
  refine readyL (rs := [17]) (by kernel_rfl) (by simp) ?_
  refine ReadyL.cons rfl (fun KK hK => ?_) ReadyL.nil
  refine wantR (by rfl) ?_
  have c0 := hSS.1; have c1 := hSS.2.1; have c2 := hSS.2.2; go_simp
  refine hK.out _ _ (fun _ => hSS) (fun _ => ?_)
  clear hK KK
  try simp only [Act.put]
  try simp only [List.setIfInBounds_toArray]
  try simp only [List.set_cons_succ]
  try simp only [List.set_cons_zero]
  refine takeL 18 (v := ?v18) rfl (some 26) rfl (by decide) (by kernel_rfl) (by kernel_rfl) (by kernel_rfl) (by kernel_rfl) (fun _ _ _ h => h) (Or.inl ⟨by rfl, ?h18⟩) hSS ?r18
  case h18 => (intro y hy; have c0 := hy.1; have c1 := hy.2.1; have c2 := hy.2.2; go_simp; with_reducible rfl)
  try simp only [Act.put]
  try simp only [List.setIfInBounds_toArray]
  try simp only [List.set_cons_succ]
  try simp only [List.set_cons_zero]
  refine readyL (rs := [19]) (by kernel_rfl) (by simp) ?_
  refine ReadyL.cons rfl (fun KK hK => ?_) ReadyL.nil
  refine wantR (by rfl) ?_
  go_simp
  refine hK.out _ _ (fun h => absurd rfl h) (fun _ => ?_)
  clear hK KK
  refine doneL (by kernel_rfl) ?_ _
  go_wp2_with fail
  go_end0
  exact ⟨rfl, HF.out⟩
 ·have hF : failF T c s = s := if_neg h0
  have HF : Hid (PSt T tb cap g w w (failF T c s)) := by rw [hF]; exact ⟨h, Stay.refl _ _⟩
  have hq : ((s.code : Int) == 0) = false := by simp; omega
  clear h hF
  generalize failF T c s = S' at *
  generalize hco : s.code = co at *
  clear hco h0
  go_enter Tryz.func57, Tryz.ntmps57
  go_wp2_with fail
  go_end0
  exact ⟨rfl, HF.out⟩
end Go.Proofs.YtldbbkheemnnhaaGreatDoor

namespace Go.Proofs.YtldbbkheemnnhaaGreatDoor
open Go.RowKit
theorem cell_alloc {y : World} {p : Addr} {v : Value} (h : y.cell? p = some v) (o : Obj) : (y.alloc o).cell? p = some v := ((alloc_one y o).cell (World.block_lt_of_cell? y _ h)).trans h
set_option maxHeartbeats 4000000 in
set_option maxRecDepth 20000 in
theorem is_any {T : List Tok} {tb cap g : Nat} {w : World} {s : Ps} (h : PAt T tb cap g w s) (m : Bs) :
  Calls Tryz.prog 87 #[.pointer (some ⟨g, 0, none⟩), .string (str m)] w fun ev w' => ev = .returned (.bool (isF T m s)) /\ Below w.heap.size w w' := by
 have x0 := h.row.cell 0
 have x1 := h.row.cell 1
 simp only [List.getElem?_cons_zero, List.getElem?_cons_succ] at x0 x1
 obtain ⟨y0, y1, y2⟩ := h.tok
 have hlt := h.lt
 have i1 : (s.i : Int) < (T.length : Int) := by omega
 have hk5 := h.ok.kind s.i
 have he := str_beq (tk T s.i).text m
 have hF : isF T m s = ((decide ((tk T s.i).kind = 2) || decide ((tk T s.i).kind = 5)) && decide ((tk T s.i).text = m)) := rfl
 have hS0 : w.drew.cell? ⟨g, 0, none⟩ = some (.slice (some ⟨tb, 0, none⟩) T.length cap) /\ w.drew.cell? ⟨g, 1, none⟩ = some (.int .i64 (s.i : Int)) /\ w.drew.cell? ⟨tb, s.i * 3, none⟩ = some (.int .i64 ((tk T s.i).kind : Int)) /\ w.drew.cell? ⟨tb, s.i * 3 + 1, none⟩ = some (.string (str (tk T s.i).text)) /\ w.drew.cell? ⟨tb, s.i * 3 + 2, none⟩ = some (.int .i64 ((tk T s.i).place : Int)) := ⟨x0, x1, y0, y1, y2⟩
 have hw1 : Below w.heap.size w (w.alloc (.cells #[.int .i64 ((tk T s.i).kind : Int), .string (str (tk T s.i).text), .int .i64 ((tk T s.i).place : Int)] 109)).drew := (alloc_one w _).trans (below_le ((Below.refl _ _).drew) (Nat.le_refl _))
 have HW := hidP hw1
 rw [hF]
 clear hF h hw1
 generalize decide ((tk T s.i).text = m) = D at *
 generalize (tk T s.i).place = q at *
 generalize str (tk T s.i).text = tx at *
 generalize str m = mx at *
 generalize (tk T s.i).kind = k at *
 generalize T.length = n at *
 generalize s.i = i at *
 have hk : (((k : Int) == 2) = true /\ (decide (k = 2) || decide (k = 5)) = true) ∨ (((k : Int) == 2) = false /\ ((k : Int) == 5) = true /\ (decide (k = 2) || decide (k = 5)) = true) ∨ (((k : Int) == 2) = false /\ ((k : Int) == 5) = false /\ (decide (k = 2) || decide (k = 5)) = false) := by
  have hkk : k = 0 ∨ k = 1 ∨ k = 2 ∨ k = 3 ∨ k = 4 ∨ k = 5 := by omega
  rcases hkk with rfl | rfl | rfl | rfl | rfl | rfl <;> decide
 rcases hk with ⟨k1, k3⟩ | ⟨k1, k2, k3⟩ | ⟨k1, k2, k3⟩
 all_goals (rw [k3]; clear k3 hk5; cases D)
 all_goals (
  go_enter Tryz.func87, Tryz.ntmps87
  go_wp2_with fail
  refine beginL (fun y => y.cell? ⟨g, 0, none⟩ = some (.slice (some ⟨tb, 0, none⟩) n cap) /\ y.cell? ⟨g, 1, none⟩ = some (.int .i64 (i : Int)) /\ y.cell? ⟨tb, i * 3, none⟩ = some (.int .i64 (k : Int)) /\ y.cell? ⟨tb, i * 3 + 1, none⟩ = some (.string tx) /\ y.cell? ⟨tb, i * 3 + 2, none⟩ = some (.int .i64 (q : Int))) 11 (by kernel_rfl) hS0 (fun hSS => ?_)
  refine takeL 0 (v := ?_) rfl (some 6) rfl (by decide) (by kernel_rfl) (by kernel_rfl) (by kernel_rfl) (by kernel_rfl) (fun _ _ _ h => h) (Or.inl ⟨by rfl, ?_⟩) hSS ?_
  rotate_left
  ·(intro y hy; obtain ⟨c0, c1, c2, c3, c4⟩ := hy; go_simp; with_reducible rfl)
  try simp only [Act.put]
  try simp only [List.setIfInBounds_toArray]
  try simp only [List.set_cons_succ]
  try simp only [List.set_cons_zero]
  refine takeL 1 (v := ?_) rfl (some 7) rfl (by decide) (by kernel_rfl) (by kernel_rfl) (by kernel_rfl) (by kernel_rfl) (fun _ _ _ h => h) (Or.inl ⟨by rfl, ?_⟩) hSS ?_
  rotate_left
  ·(intro y hy; obtain ⟨c0, c1, c2, c3, c4⟩ := hy; go_simp; with_reducible rfl)
  try simp only [Act.put]
  try simp only [List.setIfInBounds_toArray]
  try simp only [List.set_cons_succ]
  try simp only [List.set_cons_zero]
  refine takeL 2 (v := ?_) rfl (some 8) rfl (by decide) (by kernel_rfl) (by kernel_rfl) (by kernel_rfl) (by kernel_rfl) (fun _ _ _ h => h) (Or.inl ⟨by rfl, ?_⟩) hSS ?_
  rotate_left
  ·(intro y hy; obtain ⟨c0, c1, c2, c3, c4⟩ := hy; go_simp; with_reducible rfl)
  try simp only [Act.put]
  try simp only [List.setIfInBounds_toArray]
  try simp only [List.set_cons_succ]
  try simp only [List.set_cons_zero]
  refine takeL 3 (v := ?_) rfl (some 9) rfl (by decide) (by kernel_rfl) (by kernel_rfl) (by kernel_rfl) (by kernel_rfl) (fun _ _ _ h => h) (Or.inl ⟨by rfl, ?_⟩) hSS ?_
  rotate_left
  ·(intro y hy; obtain ⟨c0, c1, c2, c3, c4⟩ := hy; go_simp; with_reducible rfl)
  try simp only [Act.put]
  try simp only [List.setIfInBounds_toArray]
  try simp only [List.set_cons_succ]
  try simp only [List.set_cons_zero]
  refine takeL 4 (v := ?_) rfl (some 10) rfl (by decide) (by kernel_rfl) (by kernel_rfl) (by kernel_rfl) (by kernel_rfl) (fun _ _ _ h => h) (Or.inl ⟨by rfl, ?_⟩) hSS ?_
  rotate_left
  ·(intro y hy; obtain ⟨c0, c1, c2, c3, c4⟩ := hy; go_simp; with_reducible rfl)
  try simp only [Act.put]
  try simp only [List.setIfInBounds_toArray]
  try simp only [List.set_cons_succ]
  try simp only [List.set_cons_zero]
  refine takeL 5 (v := ?_) rfl (some 11) rfl (by decide) (by kernel_rfl) (by kernel_rfl) (by kernel_rfl) (by kernel_rfl) (fun _ _ _ h => h) (Or.inl ⟨by rfl, ?_⟩) hSS ?_
  rotate_left
  ·(intro y hy; obtain ⟨c0, c1, c2, c3, c4⟩ := hy; go_simp; with_reducible rfl)
  try simp only [Act.put]
  try simp only [List.setIfInBounds_toArray]
  try simp only [List.set_cons_succ]
  try simp only [List.set_cons_zero]
  refine takeL 6 (v := ?_) rfl (some 12) rfl (by decide) (by kernel_rfl) (by kernel_rfl) (by kernel_rfl) (by kernel_rfl) (fun _ _ _ h => h) (Or.inl ⟨by rfl, ?_⟩) hSS ?_
  rotate_left
  ·(intro y hy; obtain ⟨c0, c1, c2, c3, c4⟩ := hy; go_simp; with_reducible rfl)
  try simp only [Act.put]
  try simp only [List.setIfInBounds_toArray]
  try simp only [List.set_cons_succ]
  try simp only [List.set_cons_zero]
  refine takeL 7 (v := ?_) rfl (some 13) rfl (by decide) (by kernel_rfl) (by kernel_rfl) (by kernel_rfl) (by kernel_rfl) (fun _ _ _ h => h) (Or.inl ⟨by rfl, ?_⟩) hSS ?_
  rotate_left
  ·(intro y hy; obtain ⟨c0, c1, c2, c3, c4⟩ := hy; go_simp; with_reducible rfl)
  try simp only [Act.put]
  try simp only [List.setIfInBounds_toArray]
  try simp only [List.set_cons_succ]
  try simp only [List.set_cons_zero]
  refine takeL 8 (v := ?_) rfl (some 14) rfl (by decide) (by kernel_rfl) (by kernel_rfl) (by kernel_rfl) (by kernel_rfl) (fun _ _ _ h => h) (Or.inl ⟨by rfl, ?_⟩) hSS ?_
  rotate_left
  ·(intro y hy; obtain ⟨c0, c1, c2, c3, c4⟩ := hy; go_simp; with_reducible rfl)
  try simp only [Act.put]
  try simp only [List.setIfInBounds_toArray]
  try simp only [List.set_cons_succ]
  try simp only [List.set_cons_zero]
  refine takeL 9 (v := ?_) rfl (some 15) rfl (by decide) (by kernel_rfl) (by kernel_rfl) (by kernel_rfl) (by kernel_rfl) (fun _ _ _ h => h) (Or.inl ⟨by rfl, ?_⟩) hSS ?_
  rotate_left
  ·(intro y hy; obtain ⟨c0, c1, c2, c3, c4⟩ := hy; go_simp; with_reducible rfl)
  try simp only [Act.put]
  try simp only [List.setIfInBounds_toArray]
  try simp only [List.set_cons_succ]
  try simp only [List.set_cons_zero]
  refine readyL (rs := [10]) (by kernel_rfl) (by simp) ?_
  refine ReadyL.cons rfl (fun KK hK => ?_) ReadyL.nil
  refine wantR (by rfl) ?_
  go_simp
  refine hK.out _ _ (fun _ => ⟨cell_alloc hSS.1 _, cell_alloc hSS.2.1 _, cell_alloc hSS.2.2.1 _, cell_alloc hSS.2.2.2.1 _, cell_alloc hSS.2.2.2.2 _⟩) (fun _ => ?_)
  clear hK KK
  try simp only [Act.put]
  try simp only [List.setIfInBounds_toArray]
  try simp only [List.set_cons_succ]
  try simp only [List.set_cons_zero]
  refine readyL (rs := [11]) (by kernel_rfl) (by simp) ?_
  refine ReadyL.cons rfl (fun KK hK => ?_) ReadyL.nil
  refine wantR (by rfl) ?_
  go_simp
  refine hK.out _ _ (fun h => absurd rfl h) (fun _ => ?_)
  clear hK KK
  refine doneL (by kernel_rfl) ?_ _
  go_wp2_with fail
  go_ret
  exact ⟨rfl, HW.out⟩)
end Go.Proofs.YtldbbkheemnnhaaGreatDoor
