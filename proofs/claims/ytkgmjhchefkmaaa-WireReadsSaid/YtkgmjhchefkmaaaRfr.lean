/-
  The document's own Reader in memory; how it fails, how it reads a number of groups, an int, a small one; its end.
-/
import Derived.Test.YtkgmjhchefkmaaaLok
import Derived.Test.YtkgmjhchefkmaaaTld
import Derived.Deep.RegionHeld
import Derived.Deep.DrawnRows
namespace Go.Proofs.Ytkgmjhchefkmaaa
open Go.RowKit

/-- The document's Reader at block xb: the bytes l, where it stands, its error and that one's place. -/
structure Rf (w : World) (xb : Nat) (l : List UInt8) (p c a : Nat) : Prop where
  c0 : w.cell? ⟨xb, 0, none⟩ = some (.string (str l))
  c1 : w.cell? ⟨xb, 1, none⟩ = some (.int .i64 (p : Int))
  c2 : w.cell? ⟨xb, 2, none⟩ = some (.int .i64 (c : Int))
  c3 : w.cell? ⟨xb, 3, none⟩ = some (.int .i64 (a : Int))
  fz : ∀ j, w.frozen? ⟨xb, j, none⟩ = false
  le : p ≤ l.length
  max : l.length ≤ 1000000

theorem Rf.lt {w : World} {xb p c a : Nat} {l : List UInt8} (h : Rf w xb l p c a) : xb < w.heap.size := World.block_lt_of_cell? w _ h.c0
theorem Rf.same {w w' : World} {xb p c a : Nat} {l : List UInt8} (h : Rf w xb l p c a) (e : w'.heap[xb]? = w.heap[xb]?) : Rf w' xb l p c a :=
  ⟨(World.cell?_of_block (a := ⟨xb, 0, none⟩) e).trans h.c0, (World.cell?_of_block (a := ⟨xb, 1, none⟩) e).trans h.c1, (World.cell?_of_block (a := ⟨xb, 2, none⟩) e).trans h.c2, (World.cell?_of_block (a := ⟨xb, 3, none⟩) e).trans h.c3,
   fun j => (World.frozen?_of_block (a := ⟨xb, j, none⟩) e).trans (h.fz j), h.le, h.max⟩
theorem Rf.past {w w' : World} {xb p c a : Nat} {l : List UInt8} (h : Rf w xb l p c a) (hb : Below w.heap.size w w') : Rf w' xb l p c a := h.same (hb.block xb h.lt)

theorem grown_set (w : World) (xb j : Nat) (v : Value) : w.grownBy (w.setCell ⟨xb, j, none⟩ v) (some xb) :=
  ⟨rfl, rfl, rfl, ((Below.refl xb w).setCell (p := ⟨xb, j, none⟩) (Nat.le_refl _) _).size, fun k _ hne => Below.heap_setCell _ _ _ _ (fun e => hne (by rw [e]))⟩
theorem Rf.atP {w : World} {xb p c a : Nat} {l : List UInt8} (h : Rf w xb l p c a) (q : Nat) (hq : q ≤ l.length) : Rf (w.setCell ⟨xb, 1, none⟩ (.int .i64 (q : Int))) xb l q c a :=
  ⟨(World.cell?_setCell_other (w := w) (a := ⟨xb, 1, none⟩) (b := ⟨xb, 0, none⟩) (v := .int .i64 (q : Int)) (by simp)).trans h.c0, World.cell?_setCell_same w _ _ h.c1,
   (World.cell?_setCell_other (w := w) (a := ⟨xb, 1, none⟩) (b := ⟨xb, 2, none⟩) (v := .int .i64 (q : Int)) (by simp)).trans h.c2, (World.cell?_setCell_other (w := w) (a := ⟨xb, 1, none⟩) (b := ⟨xb, 3, none⟩) (v := .int .i64 (q : Int)) (by simp)).trans h.c3,
   fun j => by simpa using h.fz j, hq, h.max⟩
theorem Rf.atC {w : World} {xb p c a : Nat} {l : List UInt8} (h : Rf w xb l p c a) (q : Nat) : Rf (w.setCell ⟨xb, 2, none⟩ (.int .i64 (q : Int))) xb l p q a :=
  ⟨(World.cell?_setCell_other (w := w) (a := ⟨xb, 2, none⟩) (b := ⟨xb, 0, none⟩) (v := .int .i64 (q : Int)) (by simp)).trans h.c0, (World.cell?_setCell_other (w := w) (a := ⟨xb, 2, none⟩) (b := ⟨xb, 1, none⟩) (v := .int .i64 (q : Int)) (by simp)).trans h.c1,
   World.cell?_setCell_same w _ _ h.c2, (World.cell?_setCell_other (w := w) (a := ⟨xb, 2, none⟩) (b := ⟨xb, 3, none⟩) (v := .int .i64 (q : Int)) (by simp)).trans h.c3,
   fun j => by simpa using h.fz j, h.le, h.max⟩
theorem Rf.atA {w : World} {xb p c a : Nat} {l : List UInt8} (h : Rf w xb l p c a) (q : Nat) : Rf (w.setCell ⟨xb, 3, none⟩ (.int .i64 (q : Int))) xb l p c q :=
  ⟨(World.cell?_setCell_other (w := w) (a := ⟨xb, 3, none⟩) (b := ⟨xb, 0, none⟩) (v := .int .i64 (q : Int)) (by simp)).trans h.c0, (World.cell?_setCell_other (w := w) (a := ⟨xb, 3, none⟩) (b := ⟨xb, 1, none⟩) (v := .int .i64 (q : Int)) (by simp)).trans h.c1,
   (World.cell?_setCell_other (w := w) (a := ⟨xb, 3, none⟩) (b := ⟨xb, 2, none⟩) (v := .int .i64 (q : Int)) (by simp)).trans h.c2, World.cell?_setCell_same w _ _ h.c3,
   fun j => by simpa using h.fz j, h.le, h.max⟩

/-- What a reading by the document leaves. -/
structure Ox (w w' : World) (xb : Nat) (l : List UInt8) (p q c : Nat) : Prop where
  rf : Rf w' xb l q c (if c = 0 then 0 else p)
  grown : w.grownBy w' (some xb)

theorem fail_any (w : World) (xb : Nat) (l : List UInt8) (p a code at_ : Nat) (h : Rf w xb l p 0 a) :
    Calls Try.prog 43 #[.pointer (some ⟨xb, 0, none⟩), .int .i64 (code : Int), .int .i64 (at_ : Int)] w fun ev w' => ev = .returned (.tuple #[]) ∧ Rf w' xb l p code at_ ∧ w.grownBy w' (some xb) := by
  have c2 : w.cell? ⟨xb, 2, none⟩ = some (.int .i64 0) := h.c2
  have c3 := h.c3
  have c3' := (h.atC code).c3
  have f2 := h.fz 2
  have f3 := h.fz 3
  have A : Aside (Rf w xb l p 0 a) := h
  clear h
  go_enter Try.func43, Try.ntmps43
  go_wp2_with fail
  go_end0
  exact ⟨rfl, (A.out.atC code).atA at_, (grown_set w xb 2 _).trans (grown_set _ xb 3 _)⟩

theorem Rf.drew {w : World} {xb p c a : Nat} {l : List UInt8} (h : Rf w xb l p c a) : Rf w.drew xb l p c a := h.same rfl
theorem grown_drew (w : World) (row : Option Nat) : w.grownBy w.drew row := ⟨rfl, rfl, rfl, Nat.le_refl _, fun _ _ _ => rfl⟩

attribute [local go_sem ↓] Go.wp_at_zero Go.wp_at_succ
set_option maxHeartbeats 1000000 in
theorem xUint_any (w : World) (xb : Nat) (l : List UInt8) (p : Nat) (h : Rf w xb l p 0 0) :
    Calls Try.prog 37 #[.pointer (some ⟨xb, 0, none⟩)] w fun ev w' => ev = .returned (.int .u64 ((scan 0 0 (l.drop p)).1 : Int)) ∧ Ox w w' xb l p (p + (scan 0 0 (l.drop p)).2.1) (scan 0 0 (l.drop p)).2.2 := by
  have c2 : w.cell? ⟨xb, 2, none⟩ = some (.int .i64 0) := h.c2
  have f1 : w.drew.frozen? ⟨xb, 1, none⟩ = false := h.drew.fz 1
  have hle := h.le
  have hmax := h.max
  obtain ⟨V, n, c, hS⟩ : ∃ V n c, scan 0 0 (l.drop p) = (V, n, c) := ⟨_, _, _, rfl⟩
  have hb := scan_lt hS
  rw [List.length_drop] at hb
  have C : Hid (∀ x, x = w.drew → Calls Try.prog 50 #[.string (str l), .int .i64 (p : Int)] x fun ev w' => ev = .returned (.tuple #[.int .u64 ((lk (V, n, c) p).1 : Int), .int .i64 ((lk (V, n, c) p).2.1 : Int), .int .i64 ((lk (V, n, c) p).2.2 : Int)]) ∧ w' = x) := by
    intro x _
    have := look_any x (str l) p (by rw [str_size]; omega) (by rw [str_size]; omega)
    rwa [str_list, hS] at this
  have d0 : w.drew.cell? ⟨xb, 0, none⟩ = some (.string (str l)) := h.c0
  have d1 : w.drew.cell? ⟨xb, 1, none⟩ = some (.int .i64 (p : Int)) := h.c1
  have A : Aside (Rf w.drew xb l p 0 0) := h.drew
  have HD : Hid (∀ c : Nat, Calls Try.prog 43 #[.pointer (some ⟨xb, 0, none⟩), .int .i64 (c : Int), .int .i64 (p : Int)] w.drew fun ev w' => ev = .returned (.tuple #[]) ∧ Rf w' xb l p c p ∧ w.drew.grownBy w' (some xb)) := fun c => fail_any w.drew xb l p 0 c p h.drew
  rw [hS]
  clear h hS
  generalize str l = S at *
  by_cases hc : c = 0
  · subst hc
    rw [show lk (V, n, 0) p = (V, p + n, 0) from rfl] at C
    go_enter Try.func37, Try.ntmps37
    go_wp2_with fail
    go_region_held (fun x => x = w.drew) (first | assumption | rfl) (first | (go_at_call 50; refine (C.out _ (by assumption)).mono ?_; rintro ev w6 ⟨rfl, rfl⟩))
    go_wp2_with fail
    go_ret
    exact ⟨rfl, A.out.atP _ (by omega), (grown_drew w _).trans (grown_set _ xb 1 _)⟩
  · obtain ⟨rfl, rfl, -⟩ : V = 0 ∧ n = 0 ∧ (c = 3 ∨ c = 4) := hb.2.2.resolve_left hc
    rw [show lk (0, 0, c) p = (0, 0, c) by unfold lk; rw [if_neg hc]] at C
    have D := HD.out c
    go_enter Try.func37, Try.ntmps37
    go_wp2_with fail
    go_region_held (fun x => x = w.drew) (first | assumption | rfl) (first | (go_at_call 50; refine (C.out _ (by assumption)).mono ?_; rintro ev w6 ⟨rfl, rfl⟩))
    go_wp2_with fail
    refine D.mono ?_
    rintro ev w7 ⟨rfl, hR, hg⟩
    go_wp2_with fail
    go_ret
    refine ⟨rfl, ?_, (grown_drew w _).trans hg⟩
    rw [if_neg hc]
    exact hR

theorem zag_odd' {V : Nat} (h : V % 2 = 1) : zag V = -1 - (V : Int) / 2 := by unfold zag; rw [if_pos h]; omega

set_option maxHeartbeats 1000000 in
theorem xInt_any (w : World) (xb : Nat) (l : List UInt8) (p : Nat) (h : Rf w xb l p 0 0) :
    Calls Try.prog 38 #[.pointer (some ⟨xb, 0, none⟩)] w fun ev w' => ev = .returned (.int .i64 (zag (scan 0 0 (l.drop p)).1)) ∧ Ox w w' xb l p (p + (scan 0 0 (l.drop p)).2.1) (scan 0 0 (l.drop p)).2.2 := by
  have C := xUint_any w xb l p h
  obtain ⟨V, n, c, hS⟩ : ∃ V n c, scan 0 0 (l.drop p) = (V, n, c) := ⟨_, _, _, rfl⟩
  have hb := (scan_lt hS).1
  rw [hS] at C ⊢
  clear hS h
  by_cases h2 : V % 2 = 1
  · have HZ : Hid (zag V = -1 - (V : Int) / 2) := zag_odd' h2
    have h7 : bits .and .u64 (V : Int) 1 = 1 := by rw [show (1 : Int) = ((1 : Nat) : Int) from rfl, bits_and_u64_nat V 1 hb (by omega), Nat.and_one_is_mod, h2]
    clear h2
    go_enter Try.func38, Try.ntmps38
    go_wp2_with fail
    refine C.mono ?_
    rintro ev w1 ⟨rfl, hO⟩
    clear C
    go_wp2_with fail
    go_ret
    exact ⟨by rw [HZ.out]; rfl, hO⟩
  · have HZ : Hid (zag V = (V : Int) / 2) := zag_even h2
    have h7 : bits .and .u64 (V : Int) 1 = 0 := by rw [show (1 : Int) = ((1 : Nat) : Int) from rfl, bits_and_u64_nat V 1 hb (by omega), Nat.and_one_is_mod, show V % 2 = 0 by omega]; rfl
    clear h2
    go_enter Try.func38, Try.ntmps38
    go_wp2_with fail
    refine C.mono ?_
    rintro ev w1 ⟨rfl, hO⟩
    clear C
    go_wp2_with fail
    go_ret
    exact ⟨by rw [HZ.out]; rfl, hO⟩

theorem Rf.drewN {w : World} {xb p c a : Nat} {l : List UInt8} (h : Rf w xb l p c a) (n : Nat) : Rf (w.drewN n) xb l p c a := h.same rfl
theorem grown_drewN (w : World) (n : Nat) (row : Option Nat) : w.grownBy (w.drewN n) row := ⟨rfl, rfl, rfl, Nat.le_refl _, fun _ _ _ => rfl⟩

theorem xEnd_any (w : World) (xb : Nat) (l : List UInt8) (p : Nat) (h : Rf w xb l p 0 0) :
    Calls Try.prog 16 #[.pointer (some ⟨xb, 0, none⟩)] w fun ev w' => ev = .returned (.tuple #[]) ∧ Ox w w' xb l p p (if p < l.length then 4 else 0) := by
  have c0 := h.c0
  have c1 := h.c1
  have c2 : w.cell? ⟨xb, 2, none⟩ = some (.int .i64 0) := h.c2
  have hz := str_size l
  have D := fun n => fail_any (w.drewN n) xb l p 0 4 p (h.drewN n)
  have hmax := h.max
  have A : Aside (Rf w xb l p 0 0) := h
  clear h
  generalize str l = S at *
  by_cases hp : p < l.length
  · rw [if_pos hp]
    have hp' : p < S.size := by omega
    clear hp
    go_enter Try.func16, Try.ntmps16
    go_wp2_with fail
    go_quiet (fail)
    go_wp2_with fail
    refine (D _).mono ?_
    rintro ev w7 ⟨rfl, hR, hg⟩
    go_wp2_with fail
    go_end0
    exact ⟨rfl, hR, (grown_drewN w _ _).trans hg⟩
  · rw [if_neg hp]
    have hp' : ¬ p < S.size := by omega
    clear hp
    go_enter Try.func16, Try.ntmps16
    go_wp2_with fail
    go_quiet (fail)
    go_wp2_with fail
    go_end0
    exact ⟨rfl, A.out.drewN _, grown_drewN w _ _⟩

set_option maxHeartbeats 1000000 in
theorem xSmall_any (w : World) (xb : Nat) (l : List UInt8) (p : Nat) (most : Int) (h : Rf w xb l p 0 0) (h1 : -9223372036854775808 ≤ most) (h2 : most ≤ 9223372036854775807) :
    Calls Try.prog 39 #[.pointer (some ⟨xb, 0, none⟩), .int .i64 most] w fun ev w' => ev = .returned (.int .i64 ((small l p most).1 : Int)) ∧ Ox w w' xb l p (small l p most).2.1 (small l p most).2.2 := by
  have C := xUint_any w xb l p h
  have c1 := h.c1
  have hle := h.le
  obtain ⟨V, n, c, hS⟩ : ∃ V n c, scan 0 0 (l.drop p) = (V, n, c) := ⟨_, _, _, rfl⟩
  have hb := scan_lt hS
  have hQ : small l p most = if c ≠ 0 then (0, p, c) else if over V most then (0, p, 2) else (V, p + n, 0) := by unfold small; rw [hS]
  rw [hS] at C
  clear hS h
  generalize small l p most = R at *
  have HD : Hid (∀ w1, Rf w1 xb l p 0 0 → Calls Try.prog 43 #[.pointer (some ⟨xb, 0, none⟩), .int .i64 2, .int .i64 (p : Int)] w1 fun ev w' => ev = .returned (.tuple #[]) ∧ Rf w' xb l p 2 p ∧ w1.grownBy w' (some xb)) := fun w1 h => fail_any w1 xb l p 0 2 p h
  go_enter Try.func39, Try.ntmps39
  go_wp2_with fail
  refine C.mono ?_
  rintro ev w1 ⟨rfl, hO⟩
  have A : Aside (Ox w w1 xb l p (p + n) c) := hO
  clear hO C
  have c2 : w1.cell? ⟨xb, 2, none⟩ = some (.int .i64 (c : Int)) := A.out.rf.c2
  have k1 := A.out.rf.c1
  have f1 := A.out.rf.fz 1
  by_cases hc : c = 0
  · subst hc
    rw [if_neg (by simp)] at hQ
    have c2' : w1.cell? ⟨xb, 2, none⟩ = some (.int .i64 0) := c2
    clear c2
    by_cases hm0 : most < 0
    · have HQ2 : Hid (R = (0, p, 2)) := by show _ = _; rw [hQ, if_pos (by simp [over, hm0])]
      have D := HD.out _ (A.out.rf.atP p hle)
      clear hQ HD
      go_wp2_with fail
      refine D.mono ?_
      rintro ev w7 ⟨rfl, hR, hg⟩
      go_wp2_with fail
      go_ret
      refine ⟨by rw [HQ2.out]; rfl, ?_⟩
      rw [HQ2.out]
      exact ⟨hR, (A.out.grown.trans (grown_set _ xb 1 _)).trans hg⟩
    · have e0 : IntKind.u64.wrap most = most := by rw [IntKind.wrap_u64]; omega
      by_cases hmv : most < (V : Int)
      · have HQ2 : Hid (R = (0, p, 2)) := by show _ = _; rw [hQ, if_pos (by simp [over, hmv])]
        have D := HD.out _ (A.out.rf.atP p hle)
        clear hQ HD
        go_wp2_with fail
        refine D.mono ?_
        rintro ev w7 ⟨rfl, hR, hg⟩
        go_wp2_with fail
        go_ret
        refine ⟨by rw [HQ2.out]; rfl, ?_⟩
        rw [HQ2.out]
        exact ⟨hR, (A.out.grown.trans (grown_set _ xb 1 _)).trans hg⟩
      · have HQ2 : Hid (R = (V, p + n, 0)) := by show _ = _; rw [hQ, if_neg (by simp [over]; omega)]
        clear hQ HD
        go_wp2_with fail
        go_ret
        refine ⟨by rw [HQ2.out]; rfl, ?_⟩
        rw [HQ2.out]
        exact A.out
  · obtain ⟨rfl, rfl, -⟩ : V = 0 ∧ n = 0 ∧ (c = 3 ∨ c = 4) := hb.2.2.resolve_left hc
    have HQ2 : Hid (R = (0, p, c)) := by show _ = _; rw [hQ, if_pos hc]
    clear hQ HD
    go_wp2_with fail
    go_ret
    refine ⟨by rw [HQ2.out]; rfl, ?_⟩
    rw [HQ2.out]
    exact A.out
end Go.Proofs.Ytkgmjhchefkmaaa
