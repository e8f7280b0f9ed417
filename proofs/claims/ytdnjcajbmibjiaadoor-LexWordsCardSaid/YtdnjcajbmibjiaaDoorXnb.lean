/-
  Numbers: the document's.
-/
import Derived.Test.YtdnjcajbmibjiaaDoorXwd
namespace Go.Proofs.YtdnjcajbmibjiaaDoor
open Go.RowKit

theorem numA_snoc (a : Nat) (l : List UInt8) (c : UInt8) : numA a (l ++ [c]) = numA a l * 10 + (c.toNat - 48) := by
  simp [numA, List.foldl_append]
theorem take_snoc (l : List UInt8) (k : Nat) (h : k < l.length) : l.take (k + 1) = l.take k ++ [l.getD k 0] := by
  rw [List.take_add_one]
  simp [List.getD, List.getElem?_eq_getElem h]
theorem numA_lt : ∀ (l : List UInt8), l.all isDg = true → numA 0 l < 10 ^ l.length := by
  intro l
  have key : ∀ (l : List UInt8) (a : Nat), l.all isDg = true → numA a l < (a + 1) * 10 ^ l.length := by
    intro l
    induction l with
    | nil => intro a _; simp [numA]
    | cons c t ih =>
      intro a h
      simp only [List.all_cons, Bool.and_eq_true] at h
      have hd := h.1
      simp only [isDg, Bool.and_eq_true, decide_eq_true_eq] at hd
      have h1 := ih (a * 10 + (c.toNat - 48)) h.2
      have h2 : (a * 10 + (c.toNat - 48) + 1) * 10 ^ t.length ≤ (a + 1) * 10 * 10 ^ t.length := Nat.mul_le_mul_right _ (by omega)
      have e : (a + 1) * 10 ^ (c :: t).length = (a + 1) * 10 * 10 ^ t.length := by rw [List.length_cons, Nat.pow_succ, Nat.mul_assoc, Nat.mul_comm 10]
      rw [e]
      exact Nat.lt_of_lt_of_le h1 h2
  intro h
  have := key l 0 h
  simpa using this
theorem num_bound (l : List UInt8) (h : l.all isDg = true) (hl : l.length ≤ 10) : numA 0 l < 10000000000 := by
  have h1 := numA_lt l h
  have h2 : 10 ^ l.length ≤ 10 ^ 10 := Nat.pow_le_pow_right (by omega) hl
  have e : (10 : Nat) ^ 10 = 10000000000 := by decide
  omega

set_option maxHeartbeats 4000000 in
set_option maxRecDepth 20000 in
theorem xnumber_any (l : List UInt8) (hl : l.length ≤ 9223372036854775807) (w : World) : Calls Tryd.prog 29 #[.string (str l)] w fun ev w' => ev = .returned (.bool (isNum l)) ∧ w' = w := by
  have HD : Hid (∀ k, k < l.length → ∀ y, Calls Tryd.prog 28 #[.int .u8 ((l.getD k 0).toNat : Int)] y fun ev w' => ev = .returned (.bool (isDg (l.getD k 0))) ∧ w' = y) := fun k _ y => xdigit_any _ y
  obtain ⟨B, hB⟩ : ∃ B, isNum l = B := ⟨_, rfl⟩
  rw [hB]
  have HB : Hid (isNum l = B) := hB
  clear hB
  obtain ⟨S, hS⟩ : ∃ S, S = str l := ⟨_, rfl⟩
  have hSs : S.size = l.length := by rw [hS, str_size]
  have HX : Hid (∀ k (h : k < S.size), (S[k]'h).toNat = (l.getD k 0).toNat) := by
    intro k h
    subst hS
    rw [str_at]
  rw [← hS]
  clear hS
  by_cases h1 : l.length = 0
  · have hP : B = false := by rw [← HB.out]; simp [isNum, h1]
    subst hP
    have i1 : (l.length : Int) = 0 := by omega
    rw [h1] at hSs
    clear HX HB HD h1 i1
    go_enter Tryd.func29, Tryd.ntmps29
    go_wp2_with fail
    go_ret
    exact ⟨rfl, rfl⟩
  · have i1 : (l.length : Int) ≠ 0 := by omega
    have j1 : ((l.length : Int) == 0) = false := by rw [beq_eq_false_iff_ne]; exact i1
    by_cases h2 : 10 < l.length
    · have hP : B = false := by rw [← HB.out]; unfold isNum; rw [decide_eq_false (by omega : ¬ l.length ≤ 10)]; simp
      subst hP
      have i2 : (10 : Int) < (l.length : Int) := by omega
      clear HX HB HD h1 h2
      generalize l.length = n at *
      go_enter Tryd.func29, Tryd.ntmps29
      go_wp2_with fail
      go_ret
      exact ⟨rfl, rfl⟩
    · have i2 : ¬ (10 : Int) < (l.length : Int) := by omega
      have j2 : decide ((10 : Int) < (l.length : Int)) = false := decide_eq_false i2
      by_cases h3 : 1 < l.length ∧ l.getD 0 0 = 48
      · have hP : B = false := by
          rw [← HB.out]
          cases l with
          | nil => simp at h1
          | cons c t =>
            have hc : c = 48 := h3.2
            subst hc
            unfold isNum
            rw [decide_eq_false (by omega : ¬ (48 :: t).length ≤ 1)]
            simp
        subst hP
        have hz : 0 < S.size := by omega
        have hx := HX.out 0 hz
        rw [h3.2] at hx
        replace hx : (S[0]'hz).toNat = 48 := hx
        have i3 : (1 : Int) < (l.length : Int) := by omega
        clear HX HB HD h1 h2 h3
        generalize l.length = n at *
        go_enter Tryd.func29, Tryd.ntmps29
        go_wp2_with fail
        go_ret
        exact ⟨rfl, rfl⟩
      · have hz : 0 < S.size := by omega
        have hx := HX.out 0 hz
        have HQ : Hid ((decide (l.length ≤ 1) || !(l.head? == some 48)) = true) := by
          show _ = true
          by_cases h4 : l.length ≤ 1
          · simp [h4]
          · have h5 : l.getD 0 0 ≠ 48 := fun e => h3 ⟨by omega, e⟩
            cases l with
            | nil => simp at h1
            | cons c t =>
              have hc : c ≠ 48 := h5
              simp [hc]
        have HE : Hid (∀ k, k ≤ l.length → (l.take k).all isDg = true → numA 0 (l.take k) < 10000000000) := fun k hk h => num_bound _ h (by rw [List.length_take]; omega)
        have HS : Hid (∀ k, k < l.length → l.take (k + 1) = l.take k ++ [l.getD k 0]) := fun k h => take_snoc l k h
        have HZ : Hid (∀ y : Nat, l.length ≤ 1 ∨ y = y) := fun y => .inr rfl
        clear HZ
        have key : ∀ i3 : (l.length ≤ 1 ∨ (1 < l.length ∧ l.getD 0 0 ≠ 48)), Calls Tryd.prog 29 #[.string S] w fun ev w' => ev = .returned (.bool B) ∧ w' = w := by
          intro i3
          have c3 : (¬ (1 : Int) < (l.length : Int) ∧ decide ((1 : Int) < (l.length : Int)) = false) ∨ ((1 : Int) < (l.length : Int) ∧ ((l.getD 0 0).toNat : Int) ≠ 48 ∧ (((l.getD 0 0).toNat : Int) == 48) = false) := by
            rcases i3 with h | ⟨h, h'⟩
            · left; exact ⟨by omega, by rw [decide_eq_false_iff_not]; omega⟩
            · right
              have : ((l.getD 0 0).toNat : Int) ≠ 48 := fun e => h' (UInt8.toNat_inj.1 (show (l.getD 0 0).toNat = 48 by omega))
              exact ⟨by omega, this, by rw [beq_eq_false_iff_ne]; exact this⟩
          clear i3 h3
          generalize (l.getD 0 0).toNat = x0 at *
          rcases c3 with ⟨c1, c2⟩ | ⟨c1, c2, c4⟩
          all_goals
            go_enter Tryd.func29, Tryd.ntmps29
            go_wp2_with fail
            go_loopw [3, 4] (fun n i wr => ∃ k : Nat, k ≤ l.length ∧ (l.take k).all isDg = true ∧ n = .int .i64 (numA 0 (l.take k) : Int) ∧ i = .int .i64 k ∧ wr = w) (fun _ i _ => l.length - (intOf i).toNat)
            case atStart => exact ⟨0, by omega, rfl, rfl, rfl, rfl⟩
            case round =>
              obtain ⟨k, hk, hd, rfl, rfl, rfl⟩ := hrel
              have hnb := HE.out k hk hd
              clear hx
              by_cases h5 : k < l.length
              · have hkS : k < S.size := by omega
                have hy := HX.out k hkS
                have D := HD.out k h5 wr
                cases hg : isDg (l.getD k 0)
                · have HP : Hid (B = false) := by
                    show B = false
                    rw [← HB.out]
                    cases hh : isNum l
                    · rfl
                    · simp only [isNum, Bool.and_eq_true] at hh
                      have := List.all_eq_true.1 hh.1.2 (l.getD k 0) (by rw [List.getD, List.getElem?_eq_getElem h5]; exact List.getElem_mem h5)
                      rw [hg] at this; cases this
                  rw [hg] at D
                  clear HX HB HD HE HS HQ hd hg
                  generalize (l.getD k 0).toNat = x at *
                  generalize numA 0 (l.take k) = m at *
                  go_wp2_with fail
                  refine D.mono ?_
                  rintro ev w2 ⟨rfl, rfl⟩
                  go_wp2_with fail
                  go_ret
                  refine ⟨by rw [HP.out]; rfl, ?_⟩
                  trivial
                · have e1 := HS.out k h5
                  have HN : Hid ((l.take (k + 1)).all isDg = true) := by
                    show _ = true
                    rw [e1, List.all_append, hd]
                    simp only [List.all_cons, hg, List.all_nil]
                    rfl
                  have hg' := hg
                  simp only [isDg, Bool.and_eq_true, decide_eq_true_eq] at hg'
                  have HM : Hid ((numA 0 (l.take (k + 1)) : Int) = (numA 0 (l.take k) : Int) * 10 + (((l.getD k 0).toNat : Int) - 48)) := by
                    show _ = _
                    rw [e1, numA_snoc]
                    omega
                  rw [hg] at D
                  obtain ⟨g1, g2⟩ := hg'
                  clear HX HB HD HE HS HQ hd hg e1
                  generalize (l.getD k 0).toNat = x at *
                  generalize numA 0 (l.take k) = m at *
                  go_wp2_with fail
                  refine D.mono ?_
                  rintro ev w2 ⟨rfl, rfl⟩
                  go_wp2_with fail
                  go_roundw
                  case rel => exact ⟨k + 1, by omega, HN.out, by rw [HM.out], by go_num, by trivial⟩
                  case measure => simp [intOf]; omega
              · obtain rfl : k = l.length := by omega
                rw [List.take_length] at hd hnb ⊢
                have HP : Hid (B = decide ((numA 0 l : Int) ≤ 2147483647)) := by
                  show B = _
                  rw [← HB.out]
                  unfold isNum
                  rw [HQ.out, hd, decide_eq_true (by omega : 1 ≤ l.length), decide_eq_true (by omega : l.length ≤ 10)]
                  have : numV l = numA 0 l := rfl
                  rw [this]
                  by_cases h9 : numA 0 l ≤ 2147483647
                  · rw [decide_eq_true h9, decide_eq_true (by omega)]; rfl
                  · rw [decide_eq_false h9, decide_eq_false (by omega)]; rfl
                clear HX HB HD HE HS HQ hd
                generalize numA 0 l = m at *
                go_wp2_with fail
                go_ret
                refine ⟨by rw [HP.out]; rfl, ?_⟩
                trivial
        refine key ?_
        by_cases h9 : l.length ≤ 1
        · exact .inl h9
        · exact .inr ⟨by omega, fun e => h3 ⟨by omega, e⟩⟩
end Go.Proofs.YtdnjcajbmibjiaaDoor
