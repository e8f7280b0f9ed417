/-
  The Reader's readings: Uint, Int, Small, Bool.
-/
import Derived.Test.YtkgmjhchefkmaaaNmb
namespace Go.Proofs.Ytkgmjhchefkmaaa
open Go.RowKit

/-- What a reading leaves: the error of this number at p, or none; the Reader at q. -/
structure Out (w w' : World) (rb : Nat) (v : Value) (l : List UInt8) (p q code : Nat) (e : Value) : Prop where
  err : (code = 0 ∧ e = .nilIface) ∨ (code ≠ 0 ∧ Er w' e code p)
  rd : Rd w' rb v l q
  grown : w.grownBy w' (some rb)

theorem Out.refused {w w1 w2 : World} {rb : Nat} {v : Value} {l : List UInt8} {p code : Nat} {e : Value} (h : Rd w rb v l p) (hb : Below w.heap.size w w1) (hb2 : Below w1.heap.size w1 w2) (hc : code ≠ 0) (hE : Er w2 e code p) : Out w w2 rb v l p p code e :=
  have hB := hb.trans (hb2.mono hb.size)
  ⟨.inr ⟨hc, hE⟩, h.past hB, grown_below hB _⟩
theorem Out.taken {w w1 : World} {rb : Nat} {v : Value} {l : List UInt8} {p q : Nat} (h : Rd w rb v l p) (hb : Below w.heap.size w w1) (hq : q ≤ l.length) : Out w (w1.setCell ⟨rb, 1, none⟩ (.int .i64 (q : Int))) rb v l p q 0 .nilIface :=
  ⟨.inl ⟨rfl, rfl⟩, ((h.past hb).step hq).1, (grown_below hb _).trans ((h.past hb).step hq).2⟩

set_option maxHeartbeats 2000000 in
theorem rUint_any (w : World) (rb : Nat) (v : Value) (l : List UInt8) (p : Nat) (h : Rd w rb v l p) :
    Calls Try.prog 19 #[.pointer (some ⟨rb, 0, none⟩)] w fun ev w' => ∃ e, ev = .returned (.tuple #[.int .u64 ((scan 0 0 (l.drop p)).1 : Int), e]) ∧ Out w w' rb v l p (p + (scan 0 0 (l.drop p)).2.1) (scan 0 0 (l.drop p)).2.2 e := by
  have C := left_any w rb v l p h
  have hle := h.le
  have hmax := h.max
  obtain ⟨V, n, c, hS⟩ : ∃ V n c, scan 0 0 (l.drop p) = (V, n, c) := ⟨_, _, _, rfl⟩
  have hb := scan_lt hS
  rw [List.length_drop] at hb
  rw [hS]
  have HN : Hid (∀ w1 v1, Sl w1 v1 (l.drop p) → Calls Try.prog 47 #[v1] w1 fun ev w' => ev = .returned (.tuple #[.int .u64 (V : Int), .int .i64 (n : Int), .int .i64 (c : Int)]) ∧ w' = w1) := fun w1 v1 hs => by
    have := number_any w1 v1 (l.drop p) hs (by rw [List.length_drop]; omega)
    rw [hS] at this; exact this
  have HR : Hid (∀ w1, Below w.heap.size w w1 → c ≠ 0 → Calls Try.prog 46 #[.pointer (some ⟨rb, 0, none⟩), .int .i64 (c : Int)] w1 fun ev w' => ∃ e, ev = .returned e ∧ Er w' e c p ∧ Below w1.heap.size w1 w') := fun w1 hB hc => refuse_any w1 rb v l p c (h.past hB) hc
  have HC : Hid (∀ w1, Below w.heap.size w w1 → w1.cell? ⟨rb, 1, none⟩ = some (.int .i64 (p : Int)) ∧ w1.frozen? ⟨rb, 1, none⟩ = false) := fun w1 hB => ⟨(h.past hB).cell1, (h.past hB).fz⟩
  have A : Aside (Rd w rb v l p) := h
  clear h hS
  go_enter Try.func19, Try.ntmps19
  go_wp2_with fail
  refine C.mono ?_
  rintro ev w1 ⟨v1, rfl, hS, hb1⟩
  have D := HN.out w1 v1 hS
  clear HN C
  obtain ⟨ao, n1, cap1, rfl⟩ : ∃ ao n cap, v1 = .slice ao n cap := by
    rcases hS.shape with ⟨cap, rfl, _⟩ | ⟨b, o, cap, rfl, _⟩
    · exact ⟨_, _, _, rfl⟩
    · exact ⟨_, _, _, rfl⟩
  clear hS
  go_wp2_with fail
  refine D.mono ?_
  rintro ev w2 ⟨rfl, rfl⟩
  clear D
  by_cases hc : c = 0
  · subst hc
    obtain ⟨c1, cf⟩ := HC.out w2 hb1
    go_wp2_with fail
    go_ret2
    exact ⟨_, rfl, Out.taken A.out hb1 (by omega)⟩
  · have D := HR.out w2 hb1 hc
    go_wp2_with fail
    refine D.mono ?_
    rintro ev w3 ⟨e, rfl, hE, hb3⟩
    obtain ⟨b, rfl, -⟩ := hE.shape
    obtain ⟨rfl, rfl, -⟩ : V = 0 ∧ n = 0 ∧ (c = 3 ∨ c = 4) := hb.2.2.resolve_left hc
    go_wp2_with fail
    go_ret2
    exact ⟨_, rfl, Out.refused A.out hb1 hb3 hc hE⟩

theorem zag_odd {V : Nat} (h : V % 2 = 1) : zag V = -((V : Int) / 2) - 1 := by unfold zag; rw [if_pos h]; omega
theorem zag_even {V : Nat} (h : ¬ V % 2 = 1) : zag V = (V : Int) / 2 := by unfold zag; rw [if_neg h]; omega

set_option maxHeartbeats 2000000 in
theorem rInt_any (w : World) (rb : Nat) (v : Value) (l : List UInt8) (p : Nat) (h : Rd w rb v l p) :
    Calls Try.prog 20 #[.pointer (some ⟨rb, 0, none⟩)] w fun ev w' => ∃ e, ev = .returned (.tuple #[.int .i64 (zag (scan 0 0 (l.drop p)).1), e]) ∧ Out w w' rb v l p (p + (scan 0 0 (l.drop p)).2.1) (scan 0 0 (l.drop p)).2.2 e := by
  have C := rUint_any w rb v l p h
  obtain ⟨V, n, c, hS⟩ : ∃ V n c, scan 0 0 (l.drop p) = (V, n, c) := ⟨_, _, _, rfl⟩
  have hb := scan_lt hS
  rw [hS] at C ⊢
  clear hS h
  go_enter Try.func20, Try.ntmps20
  go_wp2_with fail
  refine C.mono ?_
  rintro ev w1 ⟨e, rfl, hO⟩
  clear C
  have A : Aside (Out w w1 rb v l p (p + (V, n, c).2.1) (V, n, c).2.2 e) := hO
  rcases hO.err with ⟨hc, rfl⟩ | ⟨hc, hE⟩
  · clear hO
    have hc' : c = 0 := hc
    subst hc'
    clear hc
    have hV := hb.1
    by_cases h2 : V % 2 = 1
    · have HZ : Hid (zag V = -((V : Int) / 2) - 1) := zag_odd h2
      have e1 := not64 (x := (V : Int) / 2) (by omega) (by omega)
      have h2' : (V : Int) % 2 = 1 := by omega
      clear h2
      go_wp2_with fail
      go_ret2
      exact ⟨_, by rw [HZ.out]; rfl, A.out⟩
    · have HZ : Hid (zag V = (V : Int) / 2) := zag_even h2
      have h2' : (V : Int) % 2 ≠ 1 := by omega
      clear h2
      go_wp2_with fail
      go_ret2
      exact ⟨_, by rw [HZ.out]; rfl, A.out⟩
  · obtain ⟨b, rfl, -⟩ := hE.shape
    obtain ⟨rfl, rfl, -⟩ : V = 0 ∧ n = 0 ∧ (c = 3 ∨ c = 4) := hb.2.2.resolve_left hc
    clear hO hE
    go_wp2_with fail
    go_ret2
    exact ⟨_, rfl, A.out⟩

/-- Small's answer: the number, the place, the error. -/
def small (l : List UInt8) (p : Nat) (most : Int) : Nat × Nat × Nat :=
  if (scan 0 0 (l.drop p)).2.2 ≠ 0 then (0, p, (scan 0 0 (l.drop p)).2.2) else if over (scan 0 0 (l.drop p)).1 most then (0, p, 2) else ((scan 0 0 (l.drop p)).1, p + (scan 0 0 (l.drop p)).2.1, 0)

set_option maxHeartbeats 2000000 in
set_option maxRecDepth 5000 in
theorem rSmall_any (w : World) (rb : Nat) (v : Value) (l : List UInt8) (p : Nat) (most : Int) (h : Rd w rb v l p) (h1 : -9223372036854775808 ≤ most) (h2 : most ≤ 9223372036854775807) :
    Calls Try.prog 31 #[.pointer (some ⟨rb, 0, none⟩), .int .i64 most] w fun ev w' => ∃ e, ev = .returned (.tuple #[.int .i64 ((small l p most).1 : Int), e]) ∧ Out w w' rb v l p (small l p most).2.1 (small l p most).2.2 e := by
  have C := left_any w rb v l p h
  have hle := h.le
  have hmax := h.max
  obtain ⟨V, n, c, hS⟩ : ∃ V n c, scan 0 0 (l.drop p) = (V, n, c) := ⟨_, _, _, rfl⟩
  have hb := scan_lt hS
  rw [List.length_drop] at hb
  have HN : Hid (∀ w1 v1, Sl w1 v1 (l.drop p) → Calls Try.prog 47 #[v1] w1 fun ev w' => ev = .returned (.tuple #[.int .u64 (V : Int), .int .i64 (n : Int), .int .i64 (c : Int)]) ∧ w' = w1) := fun w1 v1 hs => by
    have := number_any w1 v1 (l.drop p) hs (by rw [List.length_drop]; omega)
    rw [hS] at this; exact this
  have HR : Hid (∀ w1 (c : Nat), Below w.heap.size w w1 → c ≠ 0 → Calls Try.prog 46 #[.pointer (some ⟨rb, 0, none⟩), .int .i64 (c : Int)] w1 fun ev w' => ∃ e, ev = .returned e ∧ Er w' e c p ∧ Below w1.heap.size w1 w') := fun w1 c hB hc => refuse_any w1 rb v l p c (h.past hB) hc
  have HC : Hid (∀ w1, Below w.heap.size w w1 → w1.cell? ⟨rb, 1, none⟩ = some (.int .i64 (p : Int)) ∧ w1.frozen? ⟨rb, 1, none⟩ = false) := fun w1 hB => ⟨(h.past hB).cell1, (h.past hB).fz⟩
  have hQ : small l p most = if c ≠ 0 then (0, p, c) else if over V most then (0, p, 2) else (V, p + n, 0) := by unfold small; rw [hS]
  have A : Aside (Rd w rb v l p) := h
  have F := fun w => above_any w V most h1 h2
  obtain ⟨R, hR⟩ : ∃ R, small l p most = R := ⟨_, rfl⟩
  rw [hR] at hQ ⊢
  have HQ : Hid (R = if c ≠ 0 then (0, p, c) else if over V most then (0, p, 2) else (V, p + n, 0)) := hQ
  have HO : Hid (over V most = false → (V : Int) ≤ most) := fun h => by simp [over] at h; omega
  clear h hS hQ hR
  go_enter Try.func31, Try.ntmps31
  go_wp2_with fail
  refine C.mono ?_
  rintro ev w1 ⟨v1, rfl, hS, hb1⟩
  have D := HN.out w1 v1 hS
  clear HN C
  obtain ⟨ao, n1, cap1, rfl⟩ : ∃ ao n cap, v1 = .slice ao n cap := by
    rcases hS.shape with ⟨cap, rfl, _⟩ | ⟨b, o, cap, rfl, _⟩
    · exact ⟨_, _, _, rfl⟩
    · exact ⟨_, _, _, rfl⟩
  clear hS
  go_wp2_with fail
  refine D.mono ?_
  rintro ev w2 ⟨rfl, rfl⟩
  clear D
  by_cases hc : c = 0
  · subst hc
    go_wp2_with fail
    refine (F _).mono ?_
    rintro ev w3 ⟨rfl, rfl⟩
    clear F
    rcases hov : over V most with _ | _
    · have hVm := HO.out hov
      have HQ2 : Hid (R = (V, p + n, 0)) := by show _ = _; rw [HQ.out]; simp [hov]
      obtain ⟨c1, cf⟩ := HC.out w3 hb1
      clear HQ HO hov
      go_wp2_with fail
      go_ret2
      refine ⟨_, by rw [HQ2.out]; rfl, ?_⟩
      rw [HQ2.out]
      exact Out.taken A.out hb1 (by show p + n ≤ _; omega)
    · have HQ2 : Hid (R = (0, p, 2)) := by show _ = _; rw [HQ.out]; simp [hov]
      have D := HR.out w3 2 hb1 (by decide)
      clear HQ HO hov HR
      go_wp2_with fail
      refine D.mono ?_
      rintro ev w4 ⟨e, rfl, hE, hb3⟩
      obtain ⟨b, rfl, -⟩ := hE.shape
      go_wp2_with fail
      go_ret2
      refine ⟨_, by rw [HQ2.out]; rfl, ?_⟩
      rw [HQ2.out]
      exact Out.refused A.out hb1 hb3 (show 2 ≠ 0 by decide) hE
  · have HQ2 : Hid (R = (0, p, c)) := by show _ = _; rw [HQ.out]; simp [hc]
    have D := HR.out w2 c hb1 hc
    clear HQ HO HR
    go_wp2_with fail
    refine D.mono ?_
    rintro ev w3 ⟨e, rfl, hE, hb3⟩
    obtain ⟨b, rfl, -⟩ := hE.shape
    go_wp2_with fail
    go_ret2
    refine ⟨_, by rw [HQ2.out]; rfl, ?_⟩
    rw [HQ2.out]
    exact Out.refused A.out hb1 hb3 hc hE

end Go.Proofs.Ytkgmjhchefkmaaa
