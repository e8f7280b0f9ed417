/-
  The document's parser: opt, take, text, long, deep, name.
-/
import Derived.Test.YtldbbkheemnnhaaGreatDoorJpPm82
namespace Go.Proofs.YtldbbkheemnnhaaGreatDoor
open Go.RowKit
theorem PAt.lt1 {T : List Tok} {tb cap g : Nat} {w : World} {s : Ps} (h : PAt T tb cap g w s) (hk : (tk T s.i).kind ≠ 0) : s.i + 1 < T.length := by
 have h1 := h.lt
 have h2 := h.ok.last s.i h.lt
 rcases Nat.lt_or_ge (s.i + 1) T.length with h3 | h3
 ·exact h3
 ·exact absurd (h2.2 (by omega)) hk
theorem is_kind {T : List Tok} {m : Bs} {s : Ps} (h : isF T m s = true) : (tk T s.i).kind ≠ 0 := by
 unfold isF at h
 intro e
 rw [e] at h
 simp at h
theorem PAt.step {T : List Tok} {tb cap g : Nat} {w w' : World} {s : Ps} (h : PAt T tb cap g w s) (hb : Below w.heap.size w w') (hk : (tk T s.i).kind ≠ 0) : PSt T tb cap g w (w'.setCell ⟨g, 1, none⟩ (.int .i64 ((s.i + 1 : Nat) : Int))) (stepF s) :=
 ⟨(h.past hb).set 1 _ (s' := stepF s) rfl (h.lt1 hk) h.cs h.ss, (Stay.of_below hb).set (X := fun k => k = g) (fun _ => rfl) 1 _⟩
theorem PSt.refl {T : List Tok} {tb cap g : Nat} {w w' : World} {s : Ps} (h : PAt T tb cap g w s) (hb : Below w.heap.size w w') : PSt T tb cap g w w' s := ⟨h.past hb, Stay.of_below hb⟩
theorem PSt.trans {T : List Tok} {tb cap g : Nat} {w w1 w2 : World} {s s' : Ps} (h : PSt T tb cap g w w1 s) (k : PSt T tb cap g w1 w2 s') : PSt T tb cap g w w2 s' := ⟨k.1, h.2.trans k.2⟩
set_option maxHeartbeats 4000000 in
set_option maxRecDepth 20000 in
theorem opt_any {T : List Tok} {tb cap g : Nat} {w : World} {s : Ps} (h : PAt T tb cap g w s) (m : Bs) :
  Calls Tryz.prog 58 #[.pointer (some ⟨g, 0, none⟩), .string (str m)] w fun ev w' => ev = .returned (.bool (optF T m s).1) /\ PSt T tb cap g w w' (optF T m s).2 := by
 have x2 := h.row.cell 2
 simp only [List.getElem?_cons_zero, List.getElem?_cons_succ] at x2
 have HP := hidP h
 by_cases h0 : s.code = 0
 ·have q0 : ((s.code : Int) == 0) = true := by rw [h0]; rfl
  have C := hidP (is_any h m)
  cases hi : isF T m s with
  | true =>
   have hF : optF T m s = (true, stepF s) := if_pos ⟨h0, hi⟩
   rw [hi] at C
   rw [hF]
   have hk := is_kind hi
   have HZ : Hid (∀ w1, Below w.heap.size w w1 -> w1.cell? ⟨g, 1, none⟩ = some (.int .i64 (s.i : Int)) /\ w1.frozen? ⟨g, 1, none⟩ = false /\ PSt T tb cap g w (w1.setCell ⟨g, 1, none⟩ (.int .i64 ((s.i + 1 : Nat) : Int))) (stepF s)) := fun w1 hb => ⟨(HP.out.past hb).row.cell 1, (HP.out.past hb).row.fz 1, HP.out.step hb hk⟩
   have e1 : IntKind.i64.wrap ((s.i : Int) + 1) = ((s.i + 1 : Nat) : Int) := by
    have := h.lt; have := h.ok.size
    rw [IntKind.wrap_i64]; omega
   clear hF hi h HP hk h0
   generalize s.code = co at *
   generalize stepF s = S' at *
   generalize s.i = i at *
   go_enter Tryz.func58, Tryz.ntmps58
   go_wp2_with fail
   refine C.out.mono ?_
   rintro _ w1 ⟨rfl, hb⟩
   obtain ⟨z1, z2, z3⟩ := HZ.out w1 hb
   replace z3 := hidP z3
   clear C HZ hb x2
   go_wp2_with fail
   go_ret
   exact ⟨rfl, by first | exact z3.out | (have := z3.out; simpa using this)⟩
  | false =>
   have hF : optF T m s = (false, s) := if_neg (fun e => by rw [hi] at e; cases e.2)
   rw [hi] at C
   rw [hF]
   clear hF hi h h0
   generalize s.code = co at *
   go_enter Tryz.func58, Tryz.ntmps58
   go_wp2_with fail
   refine C.out.mono ?_
   rintro _ w1 ⟨rfl, hb⟩
   have Z := hidP (PSt.refl HP.out hb)
   clear C hb x2
   go_wp2_with fail
   go_ret
   exact ⟨rfl, Z.out⟩
 ·have q0 : ((s.code : Int) == 0) = false := by simp; omega
  have hF : optF T m s = (false, s) := if_neg (fun e => h0 e.1)
  rw [hF]
  have Z := hidP (PSt.refl HP.out (Below.refl _ _))
  clear hF h h0 HP
  generalize s.code = co at *
  go_enter Tryz.func58, Tryz.ntmps58
  go_wp2_with fail
  go_ret
  exact ⟨rfl, Z.out⟩
set_option maxHeartbeats 4000000 in
set_option maxRecDepth 20000 in
theorem take_any {T : List Tok} {tb cap g : Nat} {w : World} {s : Ps} (h : PAt T tb cap g w s) (m : Bs) :
  Calls Tryz.prog 90 #[.pointer (some ⟨g, 0, none⟩), .string (str m)] w fun ev w' => ev = .returned (.tuple #[]) /\ PSt T tb cap g w w' (takeF T m s) := by
 have x2 := h.row.cell 2
 simp only [List.getElem?_cons_zero, List.getElem?_cons_succ] at x2
 have HP := hidP h
 by_cases h0 : s.code = 0
 ·have q0 : ((s.code : Int) == 0) = true := by rw [h0]; rfl
  have C := hidP (is_any h m)
  cases hi : isF T m s with
  | true =>
   have hF : takeF T m s = stepF s := by unfold takeF; rw [if_pos h0, if_pos hi]
   rw [hi] at C
   rw [hF]
   have hk := is_kind hi
   have HZ : Hid (∀ w1, Below w.heap.size w w1 -> w1.cell? ⟨g, 1, none⟩ = some (.int .i64 (s.i : Int)) /\ w1.cell? ⟨g, 2, none⟩ = some (.int .i64 (s.code : Int)) /\ w1.frozen? ⟨g, 1, none⟩ = false /\ PSt T tb cap g w (w1.setCell ⟨g, 1, none⟩ (.int .i64 ((s.i + 1 : Nat) : Int))) (stepF s)) := fun w1 hb => ⟨(HP.out.past hb).row.cell 1, (HP.out.past hb).row.cell 2, (HP.out.past hb).row.fz 1, HP.out.step hb hk⟩
   have e1 : IntKind.i64.wrap ((s.i : Int) + 1) = ((s.i + 1 : Nat) : Int) := by
    have := h.lt; have := h.ok.size
    rw [IntKind.wrap_i64]; omega
   clear hF hi h HP hk h0
   generalize s.code = co at *
   generalize stepF s = S' at *
   generalize s.i = i at *
   go_enter Tryz.func90, Tryz.ntmps90
   go_wp2_with fail
   refine C.out.mono ?_
   rintro _ w1 ⟨rfl, hb⟩
   obtain ⟨z1, z0, z2, z3⟩ := HZ.out w1 hb
   replace z3 := hidP z3
   clear C HZ hb x2
   go_wp2_with fail
   go_end0
   exact ⟨rfl, by first | exact z3.out | (have := z3.out; simpa using this)⟩
  | false =>
   have hF : takeF T m s = failF T 21 s := by unfold takeF; rw [if_pos h0, if_neg (by rw [hi]; simp)]
   have hc : (failF T 21 s).code = 21 := by unfold failF; rw [if_pos h0]
   rw [hi] at C
   rw [hF]
   have D : Hid (∀ w1, Below w.heap.size w w1 -> Calls Tryz.prog 57 #[.pointer (some ⟨g, 0, none⟩), .int .i64 (21 : Int)] w1 fun ev w' => ev = .returned (.tuple #[]) /\ PSt T tb cap g w w' (failF T 21 s) /\ w'.cell? ⟨g, 2, none⟩ = some (.int .i64 21)) := fun w1 hb => (fail_any (HP.out.past hb) 21 (by decide)).mono fun _ _ q => ⟨q.1, (PSt.refl HP.out hb).trans q.2, by have := q.2.1.row.cell 2; rw [hc] at this; exact this⟩
   clear hF hi h h0 hc HP
   generalize s.code = co at *
   generalize failF T 21 s = S' at *
   go_enter Tryz.func90, Tryz.ntmps90
   go_wp2_with fail
   refine C.out.mono ?_
   rintro _ w1 ⟨rfl, hb⟩
   have D1 := hidP (D.out w1 hb)
   clear C hb x2 D
   go_wp2_with fail
   refine D1.out.mono ?_
   rintro _ w2 ⟨rfl, z3, z2⟩
   replace z3 := hidP z3
   clear D1
   go_wp2_with fail
   go_end0
   exact ⟨rfl, z3.out⟩
 ·have q0 : ((s.code : Int) == 0) = false := by simp; omega
  have hF : takeF T m s = s := if_neg h0
  rw [hF]
  have Z := hidP (PSt.refl HP.out (Below.refl _ _))
  clear hF h h0 HP
  generalize s.code = co at *
  go_enter Tryz.func90, Tryz.ntmps90
  go_wp2_with fail
  go_end0
  exact ⟨rfl, Z.out⟩
set_option maxHeartbeats 4000000 in
set_option maxRecDepth 20000 in
theorem text_any {T : List Tok} {tb cap g : Nat} {w : World} {s : Ps} (h : PAt T tb cap g w s) (k : Nat) (hk0 : k ≠ 0) :
  Calls Tryz.prog 88 #[.pointer (some ⟨g, 0, none⟩), .int .i64 (k : Int)] w fun ev w' => ev = .returned (.string (str (textF T k s).1)) /\ PSt T tb cap g w w' (textF T k s).2 := by
 have x2 := h.row.cell 2
 simp only [List.getElem?_cons_zero, List.getElem?_cons_succ] at x2
 have HP := hidP h
 by_cases h0 : s.code = 0
 ·have q0 : ((s.code : Int) == 0) = true := by rw [h0]; rfl
  have C := hidP (kind_any h k)
  cases hi : kindF T k s with
  | true =>
   have hF : textF T k s = ((tk T s.i).text, stepF s) := by unfold textF; rw [if_pos h0, if_pos hi]
   rw [hi] at C
   rw [hF]
   have hk : (tk T s.i).kind ≠ 0 := by have := of_decide_eq_true hi; omega
   have HZ : Hid (∀ w1, Below w.heap.size w w1 -> w1.cell? ⟨g, 1, none⟩ = some (.int .i64 (s.i : Int)) /\ w1.cell? ⟨g, 2, none⟩ = some (.int .i64 (s.code : Int)) /\ w1.frozen? ⟨g, 1, none⟩ = false /\ PSt T tb cap g w (w1.setCell ⟨g, 1, none⟩ (.int .i64 ((s.i + 1 : Nat) : Int))) (stepF s) /\ (w1.setCell ⟨g, 1, none⟩ (.int .i64 ((s.i + 1 : Nat) : Int))).cell? ⟨g, 0, none⟩ = some (.slice (some ⟨tb, 0, none⟩) T.length cap) /\ (w1.setCell ⟨g, 1, none⟩ (.int .i64 ((s.i + 1 : Nat) : Int))).cell? ⟨g, 1, none⟩ = some (.int .i64 ((s.i + 1 : Nat) : Int)) /\ (w1.setCell ⟨g, 1, none⟩ (.int .i64 ((s.i + 1 : Nat) : Int))).cell? ⟨tb, s.i * 3 + 1, none⟩ = some (.string (str (tk T s.i).text))) := fun w1 hb => by
    have hs := HP.out.step hb hk
    refine ⟨(HP.out.past hb).row.cell 1, (HP.out.past hb).row.cell 2, (HP.out.past hb).row.fz 1, hs, hs.1.row.cell 0, hs.1.row.cell 1, ?_⟩
    rw [World.cell?_setCell_other _ _ _ _ (fun e => HP.out.ne (congrArg Addr.block e).symm)]
    exact (HP.out.past hb).tok.2.1
   have e1 : IntKind.i64.wrap ((s.i : Int) + 1) = ((s.i + 1 : Nat) : Int) := by
    have := h.lt; have := h.ok.size
    rw [IntKind.wrap_i64]; omega
   have e2 : IntKind.i64.wrap (((s.i + 1 : Nat) : Int) - 1) = (s.i : Int) := by
    have := h.lt; have := h.ok.size
    rw [IntKind.wrap_i64]; omega
   have hlt := h.lt
   have i1 : (s.i : Int) < (T.length : Int) := by omega
   clear hF hi h HP hk h0
   generalize s.code = co at *
   generalize stepF s = S' at *
   generalize str (tk T s.i).text = tx at *
   generalize s.i = i at *
   generalize T.length = n at *
   obtain ⟨j, hj⟩ : ∃ j, j = i + 1 := ⟨_, rfl⟩
   rw [← hj] at HZ e1 e2
   clear hj
   go_enter Tryz.func88, Tryz.ntmps88
   go_wp2_with fail
   refine C.out.mono ?_
   rintro _ w1 ⟨rfl, hb⟩
   obtain ⟨z1, z0, z2, z3, z4, z5, z6⟩ := HZ.out w1 hb
   replace z3 := hidP z3
   generalize hw2 : w1.setCell ⟨g, 1, none⟩ (.int .i64 (j : Int)) = w2 at z3 z4 z5 z6
   clear C HZ hb x2
   go_wp2_with fail
   clear hw2 z1 z0 z2 e1
   go_quiet (fail)
   go_wp2_with fail
   go_ret
   exact ⟨rfl, z3.out.1.past (below_drewN _ _), z3.out.2.drewN _⟩
  | false =>
   have hF : textF T k s = ([], failF T 21 s) := by unfold textF; rw [if_pos h0, if_neg (by rw [hi]; simp)]
   have hc : (failF T 21 s).code = 21 := by unfold failF; rw [if_pos h0]
   rw [hi] at C
   rw [hF]
   have D : Hid (∀ w1, Below w.heap.size w w1 -> Calls Tryz.prog 57 #[.pointer (some ⟨g, 0, none⟩), .int .i64 (21 : Int)] w1 fun ev w' => ev = .returned (.tuple #[]) /\ PSt T tb cap g w w' (failF T 21 s) /\ w'.cell? ⟨g, 2, none⟩ = some (.int .i64 21)) := fun w1 hb => (fail_any (HP.out.past hb) 21 (by decide)).mono fun _ _ q => ⟨q.1, (PSt.refl HP.out hb).trans q.2, by have := q.2.1.row.cell 2; rw [hc] at this; exact this⟩
   clear hF hi h h0 hc HP
   generalize s.code = co at *
   generalize failF T 21 s = S' at *
   go_enter Tryz.func88, Tryz.ntmps88
   go_wp2_with fail
   refine C.out.mono ?_
   rintro _ w1 ⟨rfl, hb⟩
   have D1 := hidP (D.out w1 hb)
   clear C hb x2 D
   go_wp2_with fail
   refine D1.out.mono ?_
   rintro _ w2 ⟨rfl, z3, z2⟩
   replace z3 := hidP z3
   clear D1
   go_wp2_with fail
   go_ret
   exact ⟨rfl, z3.out⟩
 ·have q0 : ((s.code : Int) == 0) = false := by simp; omega
  have q1 : ((s.code : Int) != 0) = true := by simp; omega
  have hF : textF T k s = ([], s) := if_neg h0
  rw [hF]
  have Z := hidP (PSt.refl HP.out (Below.refl _ _))
  clear hF h h0 HP
  generalize s.code = co at *
  go_enter Tryz.func88, Tryz.ntmps88
  go_wp2_with fail
  go_ret
  exact ⟨rfl, Z.out⟩
set_option maxHeartbeats 4000000 in
set_option maxRecDepth 20000 in
theorem long_any {T : List Tok} {tb cap g : Nat} {w : World} {s : Ps} (h : PAt T tb cap g w s) (k : Nat) :
  Calls Tryz.prog 91 #[.pointer (some ⟨g, 0, none⟩), .int .i64 (k : Int)] w fun ev w' => ev = .returned (.tuple #[]) /\ PSt T tb cap g w w' (longF T k s) := by
 have x2 := h.row.cell 2
 simp only [List.getElem?_cons_zero, List.getElem?_cons_succ] at x2
 by_cases h0 : s.code = 0
 ·have q0 : ((s.code : Int) == 0) = true := by rw [h0]; rfl
  by_cases hk : 64 <= k
  ·have hF : longF T k s = failF T 5 s := if_pos ⟨h0, hk⟩
   rw [hF]
   have D := hidP (fail_any h 5 (by decide))
   have i1 : (64 : Int) <= (k : Int) := by omega
   clear hF h h0
   generalize s.code = co at *
   go_enter Tryz.func91, Tryz.ntmps91
   go_wp2_with fail
   refine D.out.mono ?_
   rintro _ w1 ⟨rfl, z⟩
   replace z := hidP z
   go_wp2_with fail
   go_end0
   exact ⟨rfl, z.out⟩
  ·have hF : longF T k s = s := if_neg (fun e => hk e.2)
   rw [hF]
   have Z := hidP (PSt.refl h (Below.refl _ _))
   have i1 : ¬ (64 : Int) <= (k : Int) := by omega
   clear hF h h0
   generalize s.code = co at *
   go_enter Tryz.func91, Tryz.ntmps91
   go_wp2_with fail
   go_end0
   exact ⟨rfl, Z.out⟩
 ·have q0 : ((s.code : Int) == 0) = false := by simp; omega
  have hF : longF T k s = s := if_neg (fun e => h0 e.1)
  rw [hF]
  have Z := hidP (PSt.refl h (Below.refl _ _))
  clear hF h h0
  generalize s.code = co at *
  go_enter Tryz.func91, Tryz.ntmps91
  go_wp2_with fail
  go_end0
  exact ⟨rfl, Z.out⟩
set_option maxHeartbeats 4000000 in
set_option maxRecDepth 20000 in
theorem deep_any {T : List Tok} {tb cap g : Nat} {w : World} {s : Ps} (h : PAt T tb cap g w s) (k : Nat) :
  Calls Tryz.prog 117 #[.pointer (some ⟨g, 0, none⟩), .int .i64 (k : Int)] w fun ev w' => ev = .returned (.tuple #[]) /\ PSt T tb cap g w w' (deepF T k s) := by
 have x2 := h.row.cell 2
 simp only [List.getElem?_cons_zero, List.getElem?_cons_succ] at x2
 by_cases h0 : s.code = 0
 ·have q0 : ((s.code : Int) == 0) = true := by rw [h0]; rfl
  by_cases hk : 64 < k
  ·have hF : deepF T k s = failF T 6 s := if_pos ⟨h0, hk⟩
   rw [hF]
   have D := hidP (fail_any h 6 (by decide))
   have i1 : (64 : Int) < (k : Int) := by omega
   clear hF h h0
   generalize s.code = co at *
   go_enter Tryz.func117, Tryz.ntmps117
   go_wp2_with fail
   refine D.out.mono ?_
   rintro _ w1 ⟨rfl, z⟩
   replace z := hidP z
   go_wp2_with fail
   go_end0
   exact ⟨rfl, z.out⟩
  ·have hF : deepF T k s = s := if_neg (fun e => hk e.2)
   rw [hF]
   have Z := hidP (PSt.refl h (Below.refl _ _))
   have i1 : ¬ (64 : Int) < (k : Int) := by omega
   clear hF h h0
   generalize s.code = co at *
   go_enter Tryz.func117, Tryz.ntmps117
   go_wp2_with fail
   go_end0
   exact ⟨rfl, Z.out⟩
 ·have q0 : ((s.code : Int) == 0) = false := by simp; omega
  have hF : deepF T k s = s := if_neg (fun e => h0 e.1)
  rw [hF]
  have Z := hidP (PSt.refl h (Below.refl _ _))
  clear hF h h0
  generalize s.code = co at *
  go_enter Tryz.func117, Tryz.ntmps117
  go_wp2_with fail
  go_end0
  exact ⟨rfl, Z.out⟩
theorem str_app (a b : Bs) : str a ++ str b = str (a ++ b) := by
 unfold str
 apply ByteArray.ext
 simp
theorem no_over {a b : Bs} (h : a.length + b.length <= 281474976710656) : ¬ 9223372036854775807 < (str a).size + (str b).size := by rw [str_size, str_size]; omega
theorem no_overC {a : Bs} {n : Nat} (h : a.length + n <= 281474976710656) : ¬ 9223372036854775807 < (str a).size + n := by rw [str_size]; omega
theorem text_len {T : List Tok} (h : TokOk T) (k : Nat) (s : Ps) : (textF T k s).1.length <= 40 := by
 unfold textF
 split
 ·split
  ·exact h.text _
  ·simp
 ·simp
set_option maxHeartbeats 4000000 in
set_option maxRecDepth 20000 in
theorem farP_any {T : List Tok} {tb cap g : Nat} {w : World} {s : Ps} (h : PAt T tb cap g w s) :
  Calls Tryz.prog 118 #[.pointer (some ⟨g, 0, none⟩)] w fun ev w' => ev = .returned (.string (str (farF T s).1)) /\ PSt T tb cap g w w' (farF T s).2 := by
 have C := hidP (text_any h 1 (by decide))
 have L1 := text_len h.ok 1 s
 have D : Hid (∀ w1, PSt T tb cap g w w1 (textF T 1 s).2 -> Calls Tryz.prog 58 #[.pointer (some ⟨g, 0, none⟩), .string ⟨#[58, 58]⟩] w1 fun ev w' => ev = .returned (.bool (optF T [58, 58] (textF T 1 s).2).1) /\ PSt T tb cap g w w' (optF T [58, 58] (textF T 1 s).2).2) := fun w1 p => (opt_any p.1 [58, 58]).mono fun _ _ q => ⟨q.1, p.trans q.2⟩
 have E : Hid (∀ w1, PSt T tb cap g w w1 (optF T [58, 58] (textF T 1 s).2).2 -> Calls Tryz.prog 88 #[.pointer (some ⟨g, 0, none⟩), .int .i64 1] w1 fun ev w' => ev = .returned (.string (str (textF T 1 (optF T [58, 58] (textF T 1 s).2).2).1)) /\ PSt T tb cap g w w' (textF T 1 (optF T [58, 58] (textF T 1 s).2).2).2) := fun w1 p => (text_any p.1 1 (by decide)).mono fun _ _ q => ⟨q.1, p.trans q.2⟩
 have L2 := text_len h.ok 1 (optF T [58, 58] (textF T 1 s).2).2
 have hF : farF T s = if (optF T [58, 58] (textF T 1 s).2).1 = true then ((textF T 1 s).1 ++ [58, 58] ++ (textF T 1 (optF T [58, 58] (textF T 1 s).2).2).1, (textF T 1 (optF T [58, 58] (textF T 1 s).2).2).2) else ((textF T 1 s).1, (optF T [58, 58] (textF T 1 s).2).2) := rfl
 obtain ⟨R, hR⟩ : ∃ R, R = farF T s := ⟨_, rfl⟩
 rw [← hR] at hF ⊢
 clear hR h
 generalize textF T 1 (optF T [58, 58] (textF T 1 s).2).2 = c at *
 generalize optF T [58, 58] (textF T 1 s).2 = b at *
 generalize textF T 1 s = a at *
 obtain ⟨b1, b2⟩ := b
 obtain ⟨a1, a2⟩ := a
 obtain ⟨c1, c2⟩ := c
 simp only at C D E L1 L2 hF
 have ES : Hid (str R.1 = (if b1 = true then str (a1 ++ [58, 58] ++ c1) else str a1) /\ R.2 = (if b1 = true then c2 else b2)) := by
  rw [hF]; cases b1 <;> exact ⟨rfl, rfl⟩
 clear hF
 have q1 : ¬ 9223372036854775807 < (str a1).size + 2 := no_overC (by omega)
 have q2 : ¬ 9223372036854775807 < (str (a1 ++ [58, 58])).size + (str c1).size := no_over (by simp; omega)
 have s1 : str a1 ++ ⟨#[58, 58]⟩ = str (a1 ++ [58, 58]) := str_app a1 [58, 58]
 have s2 : str (a1 ++ [58, 58]) ++ str c1 = str (a1 ++ [58, 58] ++ c1) := str_app _ _
 generalize str (a1 ++ [58, 58] ++ c1) = S3 at *
 generalize str (a1 ++ [58, 58]) = S2 at *
 generalize str a1 = S1 at *
 generalize str c1 = S4 at *
 clear L1 L2
 cases b1 with
 | true =>
  go_enter Tryz.func118, Tryz.ntmps118
  go_wp2_with fail
  refine C.out.mono ?_
  rintro _ w1 ⟨rfl, z⟩
  have D1 := hidP (D.out w1 z)
  clear C D z
  go_wp2_with fail
  refine D1.out.mono ?_
  rintro _ w2 ⟨rfl, z⟩
  have E1 := hidP (E.out w2 z)
  clear D1 E z
  go_wp2_with fail
  refine E1.out.mono ?_
  rintro _ w3 ⟨rfl, z⟩
  replace z := hidP z
  clear E1
  go_wp2_with fail
  go_ret
  rw [ES.out.1, ES.out.2]
  exact ⟨rfl, z.out⟩
 | false =>
  clear E
  go_enter Tryz.func118, Tryz.ntmps118
  go_wp2_with fail
  refine C.out.mono ?_
  rintro _ w1 ⟨rfl, z⟩
  have D1 := hidP (D.out w1 z)
  clear C D z
  go_wp2_with fail
  refine D1.out.mono ?_
  rintro _ w2 ⟨rfl, z⟩
  replace z := hidP z
  clear D1
  go_wp2_with fail
  go_ret
  rw [ES.out.1, ES.out.2]
  exact ⟨rfl, z.out⟩
end Go.Proofs.YtldbbkheemnnhaaGreatDoor
