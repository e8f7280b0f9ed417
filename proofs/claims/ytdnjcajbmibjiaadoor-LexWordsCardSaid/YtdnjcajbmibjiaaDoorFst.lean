/-
  The first token of a text: the program's.
-/
import Derived.Test.YtdnjcajbmibjiaaDoorNmb
import Derived.Test.YtdnjcajbmibjiaaDoorSgn
namespace Go.Proofs.YtdnjcajbmibjiaaDoor
open Go.RowKit

/-- What first tells: a token, or none of size nought. -/
def Fst (l : List UInt8) (k n : Nat) : Prop := tokF l = some (k, n) ∨ (tokF l = none ∧ n = 0)

theorem lt_not_dg {c : UInt8} (h : isLt c = true) : isDg c = false := by
  simp only [isLt, Bool.or_eq_true, Bool.and_eq_true, decide_eq_true_eq] at h
  simp only [isDg, Bool.and_eq_false_imp, decide_eq_true_eq, decide_eq_false_iff_not]
  omega
theorem nameF_lt {c : UInt8} {t : List UInt8} (h : isLt c = true) : nameF (c :: t) = if 32 < runL (c :: t) then 0 else runL (c :: t) := by
  have h1 : runL (c :: t) = runL t + 1 := by simp [runL, isNm, h]
  have h2 : isDg ((c :: t).getD 0 0) = false := lt_not_dg h
  unfold nameF
  rw [h2]
  by_cases h3 : 32 < runL (c :: t)
  · rw [if_pos (.inr (.inl h3)), if_pos h3]
  · rw [if_neg (fun h => by rcases h with h | h | h; omega; exact h3 h; cases h), if_neg h3]
theorem word_take {l : List UInt8} {n : Nat} (h : isWord (l.take n) = true) (hn : n ≤ l.length) : n ≤ 8 ∧ 1 ≤ n := by
  have := word_len h
  rw [List.length_take] at this
  omega
/-- A word. -/
theorem fst_word {c : UInt8} {t : List UInt8} (h : isLt c = true) (hw : isWord ((c :: t).take (nameF (c :: t))) = true) : Fst (c :: t) 2 (nameF (c :: t)) := by
  have hn := word_take hw (nameF_le _).1
  have e := nameF_lt (t := t) h
  by_cases h3 : 32 < runL (c :: t)
  · rw [if_pos h3] at e; omega
  · rw [if_neg h3] at e
    rw [e] at hw ⊢
    left
    simp only [tokF, h, if_true, hw]
/-- A name. -/
theorem fst_name {c : UInt8} {t : List UInt8} (h : isLt c = true) (hw : isWord ((c :: t).take (nameF (c :: t))) = false) : Fst (c :: t) 1 (nameF (c :: t)) := by
  have e := nameF_lt (t := t) h
  have hle := runL_le (c :: t)
  by_cases h3 : 32 < runL (c :: t)
  · rw [if_pos h3] at e
    have hw2 : isWord ((c :: t).take (runL (c :: t))) = false := by
      cases hh : isWord ((c :: t).take (runL (c :: t)))
      · rfl
      · have := word_take hh hle; omega
    right
    refine ⟨?_, e⟩
    simp only [tokF, h, if_true, hw2, Bool.false_eq_true, if_false]
    rw [if_neg (by omega)]
  · rw [if_neg h3] at e
    rw [e] at hw ⊢
    left
    simp only [tokF, h, if_true, hw, Bool.false_eq_true, if_false]
    rw [if_pos (by omega)]
theorem word_head {c : UInt8} {t : List UInt8} (h : isWord (c :: t) = true) : 97 ≤ c.toNat ∧ c.toNat ≤ 122 := by
  rcases word_cases h with h | h | h | h | h | h | h | h | h | h | h | h | h | h | h | h | h <;> (injection h with h1 h2; subst h1; decide)
/-- An upper letter opens no word. -/
theorem upper_word {c : UInt8} {t : List UInt8} (h : ¬ (97 ≤ c.toNat ∧ c.toNat ≤ 122)) (n : Nat) : isWord ((c :: t).take n) = false := by
  cases hh : isWord ((c :: t).take n)
  · rfl
  · cases n with
    | zero => cases hh
    | succ n => exact absurd (word_head hh) h
theorem fst_num {c : UInt8} {t : List UInt8} (h : isDg c = true) : Fst (c :: t) 4 (if isNum ((c :: t).take (runL (c :: t))) then runL (c :: t) else 0) := by
  have h1 : isLt c = false := by
    cases hh : isLt c
    · rfl
    · rw [lt_not_dg hh] at h; cases h
  have h2 : ¬ c.toNat = 39 := by simp only [isDg, Bool.and_eq_true, decide_eq_true_eq] at h; omega
  unfold Fst
  simp only [tokF, h1, h, if_true, if_neg h2, Bool.false_eq_true, if_false]
  cases hh : isNum ((c :: t).take (runL (c :: t))) <;> simp
theorem fst_nought {t : List UInt8} (h : 1 < runL (48 :: t)) : Fst (48 :: t) 4 0 := by
  have h1 : isNum ((48 :: t).take (runL (48 :: t))) = false := by
    have hle := runL_le (48 :: t)
    obtain ⟨n, hn⟩ : ∃ n, runL (48 :: t) = n + 1 := ⟨runL (48 :: t) - 1, by omega⟩
    rw [hn] at hle ⊢
    have hlen : ¬ (List.take (n + 1) (48 :: t)).length ≤ 1 := by rw [List.length_take]; omega
    simp only [isNum]
    rw [decide_eq_false hlen]
    simp
  have := fst_num (c := 48) (t := t) rfl
  rw [h1] at this
  exact this
theorem fst_life {t : List UInt8} : Fst (39 :: t) 3 (lifeF (39 :: t)) := by
  have e : lifeF (39 :: t) = if nameF t = 0 then 0 else nameF t + 1 := rfl
  have hle := runL_le t
  have key : nameF t = if isLife (t.take (runL t)) then runL t else 0 := by
    unfold nameF
    cases t with
    | nil => rfl
    | cons d u =>
      by_cases hd : isNm d = true
      · have hr : runL (d :: u) = runL u + 1 := by simp [runL, hd]
        have ht : (d :: u).take (runL (d :: u)) = d :: u.take (runL u) := by rw [hr]; rfl
        have hlen : (d :: u.take (runL u)).length = runL (d :: u) := by rw [← ht, List.length_take]; omega
        rw [ht]
        unfold isLife
        rw [hlen]
        have hg : (d :: u).getD 0 0 = d := rfl
        rw [hg]
        cases hl : isLt d
        · have hdg : isDg d = true := by simpa [isNm, hl] using hd
          rw [if_pos (.inr (.inr hdg))]; simp [hl]
        · rw [lt_not_dg hl]
          by_cases h3 : 32 < runL (d :: u)
          · rw [if_pos (.inr (.inl h3)), decide_eq_false (by omega)]; simp
          · rw [if_neg (fun h => by rcases h with h | h | h; omega; exact h3 h; cases h), decide_eq_true (by omega)]; simp [hl]
      · have hr : runL (d :: u) = 0 := by simp [runL, hd]
        rw [if_pos (.inl hr), hr]; rfl
  have t0 : tokF (39 :: t) = if isLife (t.take (runL t)) then some (3, runL t + 1) else none := rfl
  unfold Fst
  rw [t0, e, key]
  cases hh : isLife (t.take (runL t))
  · right; exact ⟨rfl, rfl⟩
  · left
    have : 1 ≤ runL t := by
      rcases Nat.eq_zero_or_pos (runL t) with h0 | h0
      · rw [h0] at hh; cases hh
      · exact h0
    simp only [if_true]
    rw [if_neg (by omega)]
theorem fst_sign {c : UInt8} {t : List UInt8} (h1 : isLt c = false) (h2 : ¬ c.toNat = 39) (h3 : isDg c = false) : Fst (c :: t) 5 (signF (c :: t)) := by
  unfold Fst
  simp only [tokF, h1, h3, if_neg h2, Bool.false_eq_true, if_false]
  by_cases h : signF (c :: t) = 0
  · rw [if_pos h]; exact .inr ⟨rfl, h⟩
  · rw [if_neg h]; exact .inl rfl
theorem prefix_life (c : UInt8) (t : List UInt8) : Lib.hasPrefix (c :: t) [39] = decide (c.toNat = 39) := by
  show ((39 == c) && List.isPrefixOf [] t) = _
  have : (39 == c) = decide (c.toNat = 39) := by
    by_cases h : c = 39
    · subst h; rfl
    · have h' : ¬ c.toNat = 39 := fun e => h (UInt8.toNat_inj.1 (by simpa using e))
      rw [decide_eq_false h']
      simpa using fun e => h e.symm
  rw [this]; simp

set_option maxHeartbeats 4000000 in
set_option maxRecDepth 20000 in
theorem first_any (c : UInt8) (t : List UInt8) (hl : (c :: t).length ≤ 140737488355328) (w : World) (hg : Glob w) :
    Calls Tryd.prog 21 #[.string (str (c :: t))] w fun ev w' => ∃ k n : Nat, ev = .returned (.tuple #[.int .i64 (k : Int), .int .i64 (n : Int)]) ∧ Fst (c :: t) k n ∧ Below w.heap.size w w' := by
  have hz : 0 < (str (c :: t)).size := by rw [str_size]; simp
  have hx : ((str (c :: t))[0]'hz).toNat = c.toNat := by rw [str_at]; rfl
  have hsz := str_size (c :: t)
  have NS := nameSize_any (c :: t) (by omega) w
  have hnl := (nameF_le (c :: t)).1
  have hE : (str (c :: t)).extract 0 (nameF (c :: t)) = str ((c :: t).take (nameF (c :: t))) := str_to _ _
  by_cases hA : 97 ≤ c.toNat ∧ c.toNat ≤ 122
  · have hlt : isLt c = true := by simp [isLt, hA]
    obtain ⟨ha1, ha2⟩ := hA
    have W := word_any ((c :: t).take (nameF (c :: t))) w
    obtain ⟨S, hS⟩ : ∃ S, S = str (c :: t) := ⟨_, rfl⟩
    obtain ⟨hz', hx'⟩ : ∃ hz' : 0 < S.size, (S[0]'hz').toNat = c.toNat := by rw [hS]; exact ⟨hz, hx⟩
    rw [← hS] at hE hsz NS ⊢
    clear hS hx hz
    cases hw : isWord ((c :: t).take (nameF (c :: t)))
    · have HF : Hid _ := fst_name hlt hw
      rw [hw] at W
      clear hw hlt
      generalize str ((c :: t).take (nameF (c :: t))) = S1 at *
      generalize (c :: t).length = n at *
      generalize nameF (c :: t) = f at *
      generalize c.toNat = x at *
      go_enter Tryd.func21, Tryd.ntmps21
      go_wp2_with fail
      refine NS.mono ?_
      rintro ev w2 ⟨rfl, hw2⟩
      replace hw2 := hw2.symm
      subst hw2
      go_wp2_with fail
      refine W.mono ?_
      rintro ev w2 ⟨rfl, hw2⟩
      replace hw2 := hw2.symm
      subst hw2
      go_wp2_with fail
      refine NS.mono ?_
      rintro ev w2 ⟨rfl, hw2⟩
      replace hw2 := hw2.symm
      subst hw2
      go_wp2_with fail
      go_ret2
      exact ⟨1, f, rfl, HF.out, Below.refl _ _⟩
    · have HF : Hid _ := fst_word hlt hw
      rw [hw] at W
      clear hw hlt
      generalize str ((c :: t).take (nameF (c :: t))) = S1 at *
      generalize (c :: t).length = n at *
      generalize nameF (c :: t) = f at *
      generalize c.toNat = x at *
      go_enter Tryd.func21, Tryd.ntmps21
      go_wp2_with fail
      refine NS.mono ?_
      rintro ev w2 ⟨rfl, hw2⟩
      replace hw2 := hw2.symm
      subst hw2
      go_wp2_with fail
      refine W.mono ?_
      rintro ev w2 ⟨rfl, hw2⟩
      replace hw2 := hw2.symm
      subst hw2
      go_wp2_with fail
      go_ret2
      exact ⟨2, f, rfl, HF.out, Below.refl _ _⟩
  · have bA : (decide ((97 : Int) ≤ (c.toNat : Int)) && decide ((c.toNat : Int) ≤ 122)) = false := by
      cases h : (decide ((97 : Int) ≤ (c.toNat : Int)) && decide ((c.toNat : Int) ≤ 122))
      · rfl
      · simp only [Bool.and_eq_true, decide_eq_true_eq] at h; omega
    by_cases hB : (65 ≤ c.toNat ∧ c.toNat ≤ 90) ∨ c.toNat = 95
    · have hlt : isLt c = true := by simp only [isLt, Bool.or_eq_true, Bool.and_eq_true, decide_eq_true_eq]; omega
      have HF : Hid _ := fst_name hlt (upper_word hA (nameF (c :: t)))
      obtain ⟨S, hS⟩ : ∃ S, S = str (c :: t) := ⟨_, rfl⟩
      obtain ⟨hz', hx'⟩ : ∃ hz' : 0 < S.size, (S[0]'hz').toNat = c.toNat := by rw [hS]; exact ⟨hz, hx⟩
      rw [← hS] at hsz NS ⊢
      clear hS hx hz hE hlt
      generalize (c :: t).length = n at *
      generalize nameF (c :: t) = f at *
      generalize c.toNat = x at *
      have hx3 : (65 ≤ x ∧ x ≤ 90 ∧ ¬ 97 ≤ x) ∨ (x = 95) := by omega
      clear hA hB
      rcases hx3 with ⟨k1, k2, k3⟩ | rfl
      · go_enter Tryd.func21, Tryd.ntmps21
        go_wp2_with fail
        refine NS.mono ?_
        rintro ev w2 ⟨rfl, hw2⟩
        replace hw2 := hw2.symm
        subst hw2
        go_wp2_with fail
        go_ret2
        exact ⟨1, f, rfl, HF.out, Below.refl _ _⟩
      · go_enter Tryd.func21, Tryd.ntmps21
        go_wp2_with fail
        refine NS.mono ?_
        rintro ev w2 ⟨rfl, hw2⟩
        replace hw2 := hw2.symm
        subst hw2
        go_wp2_with fail
        go_ret2
        exact ⟨1, f, rfl, HF.out, Below.refl _ _⟩
    · have hlt : isLt c = false := by
        cases h : isLt c
        · rfl
        · simp only [isLt, Bool.or_eq_true, Bool.and_eq_true, decide_eq_true_eq] at h; omega
      by_cases hC : c.toNat = 48
      · obtain rfl : c = 48 := UInt8.toNat_inj.1 (by simpa using hC)
        have RS := runSize_any (48 :: t) (by omega) w
        have hrl := runL_le (48 :: t)
        replace hx : ((str (48 :: t))[0]'hz).toNat = 48 := hx
        obtain ⟨S, hS⟩ : ∃ S, S = str (48 :: t) := ⟨_, rfl⟩
        obtain ⟨hz', hx'⟩ : ∃ hz' : 0 < S.size, (S[0]'hz').toNat = 48 := by rw [hS]; exact ⟨hz, hx⟩
        by_cases h1 : 1 < runL (48 :: t)
        · have HF : Hid (∀ z : Nat, z = 0 → Fst (48 :: t) 4 z) := fun z e => by subst e; exact fst_nought h1
          have h1' : (1 : Int) < (runL (48 :: t) : Int) := by omega
          rw [← hS] at hsz RS ⊢
          clear hS hx hz hE hlt hA hB bA hC NS h1 hnl
          generalize (48 :: t).length = n at *
          generalize runL (48 :: t) = r at *
          go_enter Tryd.func21, Tryd.ntmps21
          go_wp2_with fail
          refine RS.mono ?_
          rintro ev w2 ⟨rfl, hw2⟩
          replace hw2 := hw2.symm
          subst hw2
          go_wp2_with fail
          go_ret2
          exact ⟨4, 0, rfl, HF.out 0 rfl, Below.refl _ _⟩
        · have HF : Hid _ := fst_num (c := 48) (t := t) rfl
          have NB := numberSize_any 48 t rfl (.inl (by omega)) hl w hg
          have h1' : ¬ (1 : Int) < (runL (48 :: t) : Int) := by omega
          rw [← hS] at hsz RS NB ⊢
          clear hS hx hz hE hlt hA hB bA hC NS h1 hnl
          generalize (if isNum ((48 :: t).take (runL (48 :: t))) = true then runL (48 :: t) else 0) = m at *
          generalize (48 :: t).length = n at *
          generalize runL (48 :: t) = r at *
          go_enter Tryd.func21, Tryd.ntmps21
          go_wp2_with fail
          refine RS.mono ?_
          rintro ev w2 ⟨rfl, hw2⟩
          replace hw2 := hw2.symm
          subst hw2
          go_wp2_with fail
          refine NB.mono ?_
          rintro ev w2 ⟨rfl, hb⟩
          clear NB RS
          go_wp2_with fail
          go_ret2
          exact ⟨4, m, rfl, HF.out, hb⟩
      · by_cases hD : 49 ≤ c.toNat ∧ c.toNat ≤ 57
        · have hdg : isDg c = true := by simp only [isDg, Bool.and_eq_true, decide_eq_true_eq]; omega
          have HF : Hid _ := fst_num (c := c) (t := t) hdg
          have NB := numberSize_any c t hdg (.inr (fun e => hC (by rw [e]; rfl))) hl w hg
          obtain ⟨S, hS⟩ : ∃ S, S = str (c :: t) := ⟨_, rfl⟩
          obtain ⟨hz', hx'⟩ : ∃ hz' : 0 < S.size, (S[0]'hz').toNat = c.toNat := by rw [hS]; exact ⟨hz, hx⟩
          rw [← hS] at hsz NB ⊢
          clear hS hx hz hE hlt NS hnl
          generalize (if isNum ((c :: t).take (runL (c :: t))) = true then runL (c :: t) else 0) = m at *
          generalize (c :: t).length = n at *
          generalize c.toNat = x at *
          obtain ⟨d1, d2⟩ := hD
          have k1 : ¬ 97 ≤ x := by omega
          have k2 : ¬ 65 ≤ x := by omega
          have k3 : (x : Int) ≠ 95 := by omega
          have k4 : (x : Int) ≠ 48 := by omega
          clear hA hB bA hC
          go_enter Tryd.func21, Tryd.ntmps21
          go_wp2_with fail
          refine NB.mono ?_
          rintro ev w2 ⟨rfl, hb⟩
          clear NB
          go_wp2_with fail
          go_ret2
          exact ⟨4, m, rfl, HF.out, hb⟩
        · have hdg : isDg c = false := by
            cases h : isDg c
            · rfl
            · simp only [isDg, Bool.and_eq_true, decide_eq_true_eq] at h; omega
          have HP := Tryd.strings_HasPrefix (str (c :: t)) ⟨#[39]⟩ w
          have ed : (str (c :: t)).data.toList = c :: t := by simp [str]
          rw [ed, show (ByteArray.mk #[39]).data.toList = [39] from rfl, prefix_life] at HP
          have bB : (decide ((65 : Int) ≤ (c.toNat : Int)) && decide ((c.toNat : Int) ≤ 90)) = false := by
            cases h : (decide ((65 : Int) ≤ (c.toNat : Int)) && decide ((c.toNat : Int) ≤ 90))
            · rfl
            · simp only [Bool.and_eq_true, decide_eq_true_eq] at h; omega
          have bD : (decide ((49 : Int) ≤ (c.toNat : Int)) && decide ((c.toNat : Int) ≤ 57)) = false := by
            cases h : (decide ((49 : Int) ≤ (c.toNat : Int)) && decide ((c.toNat : Int) ≤ 57))
            · rfl
            · simp only [Bool.and_eq_true, decide_eq_true_eq] at h; omega
          have k3 : (c.toNat : Int) ≠ 95 := by omega
          have k4 : (c.toNat : Int) ≠ 48 := by omega
          by_cases hL : c.toNat = 39
          · obtain rfl : c = 39 := UInt8.toNat_inj.1 (by simpa using hL)
            have LS := lifeSize_any (39 :: t) (by simp) (by omega) w
            have HF : Hid _ := fst_life (t := t)
            rw [decide_eq_true hL] at HP
            replace hx : ((str (39 :: t))[0]'hz).toNat = 39 := hx
            obtain ⟨S, hS⟩ : ∃ S, S = str (39 :: t) := ⟨_, rfl⟩
            obtain ⟨hz', hx'⟩ : ∃ hz' : 0 < S.size, (S[0]'hz').toNat = 39 := by rw [hS]; exact ⟨hz, hx⟩
            rw [← hS] at hsz LS HP ⊢
            clear hS hx hz hE hlt NS hnl hA hB hC hD bA bB bD k3 k4 hL hdg ed
            generalize (39 :: t).length = n at *
            generalize lifeF (39 :: t) = m at *
            go_enter Tryd.func21, Tryd.ntmps21
            go_wp2_with fail
            refine HP.mono ?_
            rintro ev w2 ⟨rfl, hw2⟩
            replace hw2 := hw2.symm
            subst hw2
            go_wp2_with fail
            refine LS.mono ?_
            rintro ev w2 ⟨rfl, hw2⟩
            replace hw2 := hw2.symm
            subst hw2
            go_wp2_with fail
            go_ret2
            exact ⟨3, m, rfl, HF.out, Below.refl _ _⟩
          · have SS := signSize_any c t (by omega) w
            have HF : Hid _ := fst_sign (t := t) hlt hL hdg
            rw [decide_eq_false hL] at HP
            obtain ⟨S, hS⟩ : ∃ S, S = str (c :: t) := ⟨_, rfl⟩
            obtain ⟨hz', hx'⟩ : ∃ hz' : 0 < S.size, (S[0]'hz').toNat = c.toNat := by rw [hS]; exact ⟨hz, hx⟩
            rw [← hS] at hsz SS HP ⊢
            clear hS hx hz hE hlt NS hnl hdg ed
            generalize (c :: t).length = n at *
            generalize signF (c :: t) = m at *
            generalize c.toNat = x at *
            have q1 : ¬ 97 ≤ x ∨ (97 ≤ x ∧ ¬ x ≤ 122) := by omega
            have q2 : ¬ 65 ≤ x ∨ (65 ≤ x ∧ ¬ x ≤ 90) := by omega
            have q3 : ¬ 49 ≤ x ∨ (49 ≤ x ∧ ¬ x ≤ 57) := by omega
            clear hA hB hC hD bA bB bD hL
            rcases q1 with q1 | ⟨q1, q1'⟩ <;> rcases q2 with q2 | ⟨q2, q2'⟩ <;> rcases q3 with q3 | ⟨q3, q3'⟩ <;> (try omega) <;>
              (go_enter Tryd.func21, Tryd.ntmps21
               go_wp2_with fail
               refine HP.mono ?_
               rintro ev w2 ⟨rfl, hw2⟩
               replace hw2 := hw2.symm
               subst hw2
               go_wp2_with fail
               refine SS.mono ?_
               rintro ev w2 ⟨rfl, hw2⟩
               replace hw2 := hw2.symm
               subst hw2
               go_wp2_with fail
               go_ret2
               exact ⟨5, m, rfl, HF.out, Below.refl _ _⟩)
end Go.Proofs.YtdnjcajbmibjiaaDoor
