/-
  The document's own Reader, gone on with: Bool and Text.
-/
import Derived.Test.YtkgmjhchefkmaaaRfr
import Derived.Test.YtkgmjhchefkmaaaRdh
namespace Go.Proofs.Ytkgmjhchefkmaaa
open Go.RowKit

theorem ret_b (x : Nat) : Ending.returned (.bool ((x : Int) == 1)) = .returned (.bool (decide (x = 1))) := by
  rw [show ((x : Int) == 1) = decide (x = 1) by rw [Bool.eq_iff_iff]; simp; omega]

attribute [local go_sem ↓] Go.wp_at_zero Go.wp_at_succ
set_option maxHeartbeats 1000000 in
theorem xBool_any (w : World) (xb : Nat) (l : List UInt8) (p : Nat) (h : Rf w xb l p 0 0) :
    Calls Try.prog 40 #[.pointer (some ⟨xb, 0, none⟩)] w fun ev w' => ev = .returned (.bool (rbool l p).1) ∧ Ox w w' xb l p (rbool l p).2.1 (rbool l p).2.2 := by
  have c0 := h.c0
  have c1 := h.c1
  have c2 : w.cell? ⟨xb, 2, none⟩ = some (.int .i64 0) := h.c2
  have f1 := h.fz 1
  have hmax := h.max
  have hz := str_size l
  have A : Aside (Rf w xb l p 0 0) := h
  have HD : Hid (∀ (c n : Nat), Calls Try.prog 43 #[.pointer (some ⟨xb, 0, none⟩), .int .i64 (c : Int), .int .i64 (p : Int)] (w.drewN n) fun ev w' => ev = .returned (.tuple #[]) ∧ Rf w' xb l p c p ∧ (w.drewN n).grownBy w' (some xb)) := fun c n => fail_any _ xb l p 0 c p (h.drewN n)
  clear h
  have HQ : Hid (rbool l p = if l.length ≤ p then (false, p, 3) else if 1 < (l.getD p 0).toNat then (false, p, 4) else (decide ((l.getD p 0).toNat = 1), p + 1, 0)) := rfl
  generalize rbool l p = R at HQ ⊢
  by_cases h0 : l.length ≤ p
  · have HQ2 : Hid (R = (false, p, 3)) := by show _ = _; rw [HQ.out, if_pos h0]
    have D := HD.out 3
    generalize str l = S at *
    have h0' : S.size ≤ p := by omega
    clear HQ HD h0
    go_enter Try.func40, Try.ntmps40
    go_wp2_with fail
    go_quiet (fail)
    go_wp2_with fail
    refine (D _).mono ?_
    rintro ev w2 ⟨rfl, hR, hg⟩
    go_wp2_with fail
    go_ret
    refine ⟨by rw [HQ2.out]; rfl, ?_⟩
    rw [HQ2.out]
    exact ⟨hR, (grown_drewN w _ _).trans hg⟩
  · obtain ⟨S, HS, k0, hz', hp, hx⟩ : ∃ S : ByteArray, Hid (str l = S) ∧ w.cell? ⟨xb, 0, none⟩ = some (.string S) ∧ S.size = l.length ∧ ∃ hp : p < S.size, (S[p]).toNat = (l.getD p 0).toNat :=
      ⟨str l, rfl, c0, hz, by omega, by simp [List.getD, List.getElem?_eq_getElem (show p < l.length by omega)]; rfl⟩
    clear c0 hz
    have hu := (l.getD p 0).toNat_lt
    rw [if_neg h0] at HQ
    generalize (l.getD p 0).toNat = x at *
    by_cases h1 : 1 < x
    · have HQ2 : Hid (R = (false, p, 4)) := by show _ = _; rw [HQ.out, if_pos h1]
      have D := HD.out 4
      clear HQ HD h0
      go_enter Try.func40, Try.ntmps40
      go_wp2_with fail
      go_quiet (fail)
      go_wp2_with fail
      go_quiet (fail)
      go_wp2_with fail
      refine (D _).mono ?_
      rintro ev w2 ⟨rfl, hR, hg⟩
      go_wp2_with fail
      go_ret
      refine ⟨by rw [HQ2.out]; rfl, ?_⟩
      rw [HQ2.out]
      exact ⟨hR, (grown_drewN w _ _).trans hg⟩
    · have HQ2 : Hid (R = (decide (x = 1), p + 1, 0)) := by show _ = _; rw [HQ.out, if_neg h1]
      have HW : Hid (∀ n w5, (w.drewN n).setCell ⟨xb, 1, none⟩ (.int .i64 ((p : Int) + 1)) = w5 → Rf w5 xb l (p + 1) 0 0 ∧ w.grownBy w5 (some xb)) := by
        rintro n w5 rfl
        exact ⟨(A.out.drewN n).atP (p + 1) (by omega), (grown_drewN w n _).trans (grown_set _ xb 1 _)⟩
      clear HQ HD h0
      go_enter Try.func40, Try.ntmps40
      go_wp2_with fail
      go_quiet (fail)
      go_wp2_with fail
      go_quiet (fail)
      go_wp2_with fail
      generalize e5 : (World.drewN w _).setCell _ _ = w5
      obtain ⟨hR5, hg5⟩ := HW.out _ _ e5
      have d0 := hR5.c0
      rw [HS.out] at d0
      have d1 : w5.cell? ⟨xb, 1, none⟩ = some (.int .i64 ((p : Int) + 1)) := hR5.c1
      have AR : Aside (∀ n, Ox w (w5.drewN n) xb l p (p + 1) 0) := fun n => ⟨hR5.drewN n, hg5.trans (grown_drewN _ _ _)⟩
      clear e5 hR5 hg5
      go_quiet (fail)
      go_wp2_with fail
      go_ret
      refine ⟨by rw [HQ2.out]; exact ret_b x, ?_⟩
      rw [HQ2.out]
      exact AR.out _

theorem cut_str (l : List UInt8) (a b : Nat) : (str l).extract a (a + b) = str ((l.drop a).take b) := by
  apply ByteArray.ext
  rw [ByteArray.data_extract]
  simp [str]

set_option maxHeartbeats 1000000 in
theorem xText_any (w : World) (xb : Nat) (l : List UInt8) (p : Nat) (most : Int) (h : Rf w xb l p 0 0) (h1 : -9223372036854775808 ≤ most) (h2 : most ≤ 9223372036854775807) :
    Calls Try.prog 41 #[.pointer (some ⟨xb, 0, none⟩), .int .i64 most] w fun ev w' => ev = .returned (.string (str (rtext l p most).1)) ∧ Ox w w' xb l p (rtext l p most).2.1 (rtext l p most).2.2 := by
  have C := xUint_any w xb l p h
  have c1 := h.c1
  have hle := h.le
  have hmax := h.max
  obtain ⟨V, n, c, hS⟩ : ∃ V n c, scan 0 0 (l.drop p) = (V, n, c) := ⟨_, _, _, rfl⟩
  have hb := scan_lt hS
  rw [List.length_drop] at hb
  have hQ : rtext l p most = if c ≠ 0 then ([], p, c) else if over V most then ([], p, 5) else if l.length - p - n < V then ([], p, 3) else ((l.drop (p + n)).take V, p + (n + V), 0) := by unfold rtext; rw [hS]
  rw [hS] at C
  clear hS h
  generalize rtext l p most = R at *
  have HD : Hid (∀ w1 (c : Nat), Rf w1 xb l p 0 0 → Calls Try.prog 43 #[.pointer (some ⟨xb, 0, none⟩), .int .i64 (c : Int), .int .i64 (p : Int)] w1 fun ev w' => ev = .returned (.tuple #[]) ∧ Rf w' xb l p c p ∧ w1.grownBy w' (some xb)) := fun w1 c h => fail_any w1 xb l p 0 c p h
  go_enter Try.func41, Try.ntmps41
  go_wp2_with fail
  refine C.mono ?_
  rintro ev w1 ⟨rfl, hO⟩
  have A : Aside (Ox w w1 xb l p (p + n) c) := hO
  clear hO C
  have c2 : w1.cell? ⟨xb, 2, none⟩ = some (.int .i64 (c : Int)) := A.out.rf.c2
  have k1 : w1.cell? ⟨xb, 1, none⟩ = some (.int .i64 ((p : Int) + (n : Int))) := by rw [A.out.rf.c1]; simp
  have f1 := A.out.rf.fz 1
  by_cases hc : c = 0
  · subst hc
    rw [if_neg (by simp)] at hQ
    have c2' : w1.cell? ⟨xb, 2, none⟩ = some (.int .i64 0) := c2
    clear c2
    by_cases hm0 : most < 0
    · have HQ2 : Hid (R = ([], p, 5)) := by show _ = _; rw [hQ, if_pos (by simp [over, hm0])]
      have D := HD.out _ 5 (A.out.rf.atP p hle)
      clear hQ HD
      go_wp2_with fail
      refine D.mono ?_
      rintro ev w7 ⟨rfl, hR, hg⟩
      go_wp2_with fail
      go_ret
      refine ⟨by rw [HQ2.out]; rfl, ?_⟩
      rw [HQ2.out]
      exact ⟨hR, (A.out.grown.trans (grown_set _ xb 1 _)).trans hg⟩
    · have e0 : IntKind.u64.wrap most = most := by rw [IntKind.wrap_u64]; omega
      by_cases hmv : most < (V : Int)
      · have HQ2 : Hid (R = ([], p, 5)) := by show _ = _; rw [hQ, if_pos (by simp [over, hmv])]
        have D := HD.out _ 5 (A.out.rf.atP p hle)
        clear hQ HD
        go_wp2_with fail
        refine D.mono ?_
        rintro ev w7 ⟨rfl, hR, hg⟩
        go_wp2_with fail
        go_ret
        refine ⟨by rw [HQ2.out]; rfl, ?_⟩
        rw [HQ2.out]
        exact ⟨hR, (A.out.grown.trans (grown_set _ xb 1 _)).trans hg⟩
      · rw [if_neg (by simp [over]; omega)] at hQ
        have c0 := A.out.rf.c0
        have hz := str_size l
        have HX := cut_str l (p + n) V
        generalize str l = S at *
        by_cases hV : l.length - p - n < V
        · have HQ2 : Hid (R = ([], p, 3)) := by show _ = _; rw [hQ, if_pos hV]
          have D := fun k => HD.out _ 3 ((A.out.rf.drewN k).atP p hle)
          clear hQ HD
          go_wp2_with fail
          go_quiet (fail)
          go_wp2_with fail
          refine (D _).mono ?_
          rintro ev w7 ⟨rfl, hR, hg⟩
          go_wp2_with fail
          go_ret
          refine ⟨by rw [HQ2.out]; rfl, ?_⟩
          rw [HQ2.out]
          exact ⟨hR, ((A.out.grown.trans (grown_drewN _ _ _)).trans (grown_set _ xb 1 _)).trans hg⟩
        · have HQ2 : Hid (R = ((l.drop (p + n)).take V, p + (n + V), 0)) := by show _ = _; rw [hQ, if_neg hV]
          clear hQ HD
          go_wp2_with fail
          go_quiet (fail)
          go_wp2_with fail
          go_quiet (fail)
          go_wp2_with fail
          have ew : (p : Int) + (n : Int) + (V : Int) = ((p + (n + V) : Nat) : Int) := by omega
          rw [ew]
          go_ret
          refine ⟨by rw [HQ2.out]; show Ending.returned (.string (S.extract (p + n) (p + n + V))) = _; rw [HX], ?_⟩
          rw [HQ2.out]
          exact ⟨(A.out.rf.drewN _).atP _ (by show p + (n + V) ≤ _; omega), (A.out.grown.trans (grown_drewN _ _ _)).trans (grown_set _ xb 1 _)⟩
  · obtain ⟨rfl, rfl, -⟩ : V = 0 ∧ n = 0 ∧ (c = 3 ∨ c = 4) := hb.2.2.resolve_left hc
    have HQ2 : Hid (R = ([], p, c)) := by show _ = _; rw [hQ, if_pos hc]
    clear hQ HD
    go_wp2_with fail
    go_ret
    refine ⟨by rw [HQ2.out]; rfl, ?_⟩
    rw [HQ2.out]
    exact A.out
end Go.Proofs.Ytkgmjhchefkmaaa
