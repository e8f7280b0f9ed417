/-
  Signs: the program's.
-/
import Derived.Test.YtdnjcajbmibjiaaDoorSiz
namespace Go.Proofs.YtdnjcajbmibjiaaDoor
open Go.RowKit

theorem sign_cases {c : UInt8} (h : signs1.contains c = true) : (c = 58 ∨ c = 45 ∨ c = 61) ∨ c = 40 ∨ c = 41 ∨ c = 123 ∨ c = 125 ∨ c = 60 ∨ c = 62 ∨ c = 44 ∨ c = 59 ∨ c = 46 ∨ c = 42 ∨ c = 38 ∨ c = 43 ∨ c = 33 := by
  simp only [signs1, List.contains_eq_mem, List.mem_cons, List.not_mem_nil, decide_eq_true_eq, or_false] at h
  rcases h with h | h | h | h | h | h | h | h | h | h | h | h | h | h | h | h <;> simp [h]
theorem pair_head {c : UInt8} {t : List UInt8} (h : signs2.contains ((c :: t).take 2) = true) : c = 58 ∨ c = 45 ∨ c = 61 := by
  rcases pair_cases h with h | h | h
  · left; cases t <;> simp at h; exact h.1
  · right; left; cases t <;> simp at h; exact h.1
  · right; right; cases t <;> simp at h; exact h.1
theorem signF_one {c : UInt8} {t : List UInt8} (h : signs2.contains ((c :: t).take 2) = false) (h1 : signs1.contains c = true) : signF (c :: t) = 1 := by
  simp only [signF, h, h1]; rfl
theorem signF_two {l : List UInt8} (h : signs2.contains (l.take 2) = true) : signF l = 2 := by
  simp only [signF, h]; rfl
theorem signF_no {c : UInt8} {t : List UInt8} (h1 : signs1.contains c = false) : signF (c :: t) = 0 := by
  have h : signs2.contains ((c :: t).take 2) = false := by
    cases h : signs2.contains ((c :: t).take 2)
    · rfl
    · rcases pair_head h with rfl | rfl | rfl <;> cases h1
  simp only [signF, h, h1]; rfl
theorem ne_sign {c x : UInt8} (h : signs1.contains c = false) (hx : signs1.contains x = true) : (c.toNat : Int) ≠ (x.toNat : Int) := fun e => by
  have : c = x := UInt8.toNat_inj.1 (by omega)
  rw [this, hx] at h; cases h

set_option maxHeartbeats 4000000 in
set_option maxRecDepth 20000 in
theorem signSize_any (c : UInt8) (t : List UInt8) (hl : (c :: t).length ≤ 9223372036854775807) (w : World) : Calls Tryd.prog 38 #[.string (str (c :: t))] w fun ev w' => ev = .returned (.int .i64 (signF (c :: t) : Int)) ∧ w' = w := by
  have P := isPair_any ((c :: t).take 2) w
  have hn1 : 1 ≤ (c :: t).length := by simp
  have hE : (str (c :: t)).extract 0 (min 2 (c :: t).length) = str ((c :: t).take 2) := by
    rw [str_to]
    congr 1
    rcases Nat.lt_or_ge (c :: t).length 2 with h | h
    · rw [Nat.min_eq_right (by omega), List.take_of_length_le (Nat.le_refl _), List.take_of_length_le (by omega)]
    · rw [Nat.min_eq_left h]
  have hz : 0 < (str (c :: t)).size := by rw [str_size]; simp
  have hx : ((str (c :: t))[0]'hz).toNat = c.toNat := by rw [str_at]; rfl
  have hsz := str_size (c :: t)
  obtain ⟨R, hR⟩ : ∃ R, signF (c :: t) = R := ⟨_, rfl⟩
  rw [hR]
  obtain ⟨S, hS⟩ : ∃ S, S = str (c :: t) := ⟨_, rfl⟩
  obtain ⟨hz', hx'⟩ : ∃ hz' : 0 < S.size, (S[0]'hz').toNat = c.toNat := by rw [hS]; exact ⟨hz, hx⟩
  rw [← hS] at hE hsz ⊢
  clear hS hx hz
  cases h1 : signs1.contains c
  · rw [signF_no h1] at hR
    subst hR
    have n1 := ne_sign h1 (x := 58) rfl
    have n2 := ne_sign h1 (x := 45) rfl
    have n3 := ne_sign h1 (x := 61) rfl
    have n4 := ne_sign h1 (x := 40) rfl
    have n5 := ne_sign h1 (x := 41) rfl
    have n6 := ne_sign h1 (x := 123) rfl
    have n7 := ne_sign h1 (x := 125) rfl
    have n8 := ne_sign h1 (x := 60) rfl
    have n9 := ne_sign h1 (x := 62) rfl
    have n10 := ne_sign h1 (x := 44) rfl
    have n11 := ne_sign h1 (x := 59) rfl
    have n12 := ne_sign h1 (x := 46) rfl
    have n13 := ne_sign h1 (x := 42) rfl
    have n14 := ne_sign h1 (x := 38) rfl
    have n15 := ne_sign h1 (x := 43) rfl
    have n16 := ne_sign h1 (x := 33) rfl
    simp only [show (58 : UInt8).toNat = 58 from rfl, show (45 : UInt8).toNat = 45 from rfl, show (61 : UInt8).toNat = 61 from rfl, show (40 : UInt8).toNat = 40 from rfl, show (41 : UInt8).toNat = 41 from rfl, show (123 : UInt8).toNat = 123 from rfl, show (125 : UInt8).toNat = 125 from rfl, show (60 : UInt8).toNat = 60 from rfl, show (62 : UInt8).toNat = 62 from rfl, show (44 : UInt8).toNat = 44 from rfl, show (59 : UInt8).toNat = 59 from rfl, show (46 : UInt8).toNat = 46 from rfl, show (42 : UInt8).toNat = 42 from rfl, show (38 : UInt8).toNat = 38 from rfl, show (43 : UInt8).toNat = 43 from rfl, show (33 : UInt8).toNat = 33 from rfl] at n1 n2 n3 n4 n5 n6 n7 n8 n9 n10 n11 n12 n13 n14 n15 n16
    clear h1 P hE
    generalize c.toNat = x at *
    go_enter Tryd.func38, Tryd.ntmps38
    go_wp2_with fail
    go_ret
    exact ⟨rfl, rfl⟩
  · rcases sign_cases h1 with hc | hc
    · cases h2 : signs2.contains ((c :: t).take 2)
      · skip
        rw [signF_one h2 h1] at hR
        subst hR
        rw [h2] at P
        clear h1 h2
        generalize str ((c :: t).take 2) = S1 at *
        generalize (c :: t).length = n at *
        rcases Nat.lt_or_ge n 2 with hn | hn
        · rw [Nat.min_eq_right (by omega)] at hE
          have hn' : (n : Int) < 2 := by omega
          rcases hc with rfl | rfl | rfl
          · replace hx' : (S[0]'hz').toNat = 58 := hx'
            go_enter Tryd.func38, Tryd.ntmps38
            go_wp2_with fail
            refine P.mono ?_
            rintro ev w2 ⟨rfl, rfl⟩
            go_wp2_with fail
            go_ret
            exact ⟨rfl, rfl⟩
          · replace hx' : (S[0]'hz').toNat = 45 := hx'
            go_enter Tryd.func38, Tryd.ntmps38
            go_wp2_with fail
            refine P.mono ?_
            rintro ev w2 ⟨rfl, rfl⟩
            go_wp2_with fail
            go_ret
            exact ⟨rfl, rfl⟩
          · replace hx' : (S[0]'hz').toNat = 61 := hx'
            go_enter Tryd.func38, Tryd.ntmps38
            go_wp2_with fail
            refine P.mono ?_
            rintro ev w2 ⟨rfl, rfl⟩
            go_wp2_with fail
            go_ret
            exact ⟨rfl, rfl⟩
        · rw [Nat.min_eq_left hn] at hE
          have hn' : (2 : Int) ≤ (n : Int) := by omega
          rcases hc with rfl | rfl | rfl
          · replace hx' : (S[0]'hz').toNat = 58 := hx'
            go_enter Tryd.func38, Tryd.ntmps38
            go_wp2_with fail
            refine P.mono ?_
            rintro ev w2 ⟨rfl, rfl⟩
            go_wp2_with fail
            go_ret
            exact ⟨rfl, rfl⟩
          · replace hx' : (S[0]'hz').toNat = 45 := hx'
            go_enter Tryd.func38, Tryd.ntmps38
            go_wp2_with fail
            refine P.mono ?_
            rintro ev w2 ⟨rfl, rfl⟩
            go_wp2_with fail
            go_ret
            exact ⟨rfl, rfl⟩
          · replace hx' : (S[0]'hz').toNat = 61 := hx'
            go_enter Tryd.func38, Tryd.ntmps38
            go_wp2_with fail
            refine P.mono ?_
            rintro ev w2 ⟨rfl, rfl⟩
            go_wp2_with fail
            go_ret
            exact ⟨rfl, rfl⟩
      · skip
        rw [signF_two h2] at hR
        subst hR
        rw [h2] at P
        clear h1 h2
        generalize str ((c :: t).take 2) = S1 at *
        generalize (c :: t).length = n at *
        rcases Nat.lt_or_ge n 2 with hn | hn
        · rw [Nat.min_eq_right (by omega)] at hE
          have hn' : (n : Int) < 2 := by omega
          rcases hc with rfl | rfl | rfl
          · replace hx' : (S[0]'hz').toNat = 58 := hx'
            go_enter Tryd.func38, Tryd.ntmps38
            go_wp2_with fail
            refine P.mono ?_
            rintro ev w2 ⟨rfl, rfl⟩
            go_wp2_with fail
            go_ret
            exact ⟨rfl, rfl⟩
          · replace hx' : (S[0]'hz').toNat = 45 := hx'
            go_enter Tryd.func38, Tryd.ntmps38
            go_wp2_with fail
            refine P.mono ?_
            rintro ev w2 ⟨rfl, rfl⟩
            go_wp2_with fail
            go_ret
            exact ⟨rfl, rfl⟩
          · replace hx' : (S[0]'hz').toNat = 61 := hx'
            go_enter Tryd.func38, Tryd.ntmps38
            go_wp2_with fail
            refine P.mono ?_
            rintro ev w2 ⟨rfl, rfl⟩
            go_wp2_with fail
            go_ret
            exact ⟨rfl, rfl⟩
        · rw [Nat.min_eq_left hn] at hE
          have hn' : (2 : Int) ≤ (n : Int) := by omega
          rcases hc with rfl | rfl | rfl
          · replace hx' : (S[0]'hz').toNat = 58 := hx'
            go_enter Tryd.func38, Tryd.ntmps38
            go_wp2_with fail
            refine P.mono ?_
            rintro ev w2 ⟨rfl, rfl⟩
            go_wp2_with fail
            go_ret
            exact ⟨rfl, rfl⟩
          · replace hx' : (S[0]'hz').toNat = 45 := hx'
            go_enter Tryd.func38, Tryd.ntmps38
            go_wp2_with fail
            refine P.mono ?_
            rintro ev w2 ⟨rfl, rfl⟩
            go_wp2_with fail
            go_ret
            exact ⟨rfl, rfl⟩
          · replace hx' : (S[0]'hz').toNat = 61 := hx'
            go_enter Tryd.func38, Tryd.ntmps38
            go_wp2_with fail
            refine P.mono ?_
            rintro ev w2 ⟨rfl, rfl⟩
            go_wp2_with fail
            go_ret
            exact ⟨rfl, rfl⟩
    · have h2 : signs2.contains ((c :: t).take 2) = false := by
        cases h : signs2.contains ((c :: t).take 2)
        · rfl
        · rcases pair_head h with rfl | rfl | rfl <;> simp at hc
      rw [signF_one h2 h1] at hR
      subst hR
      clear P hE h1 h2
      generalize (c :: t).length = n at *
      rcases hc with rfl | rfl | rfl | rfl | rfl | rfl | rfl | rfl | rfl | rfl | rfl | rfl | rfl
      · replace hx' : (S[0]'hz').toNat = 40 := hx'
        go_enter Tryd.func38, Tryd.ntmps38
        go_wp2_with fail
        go_ret
        exact ⟨rfl, rfl⟩
      · replace hx' : (S[0]'hz').toNat = 41 := hx'
        go_enter Tryd.func38, Tryd.ntmps38
        go_wp2_with fail
        go_ret
        exact ⟨rfl, rfl⟩
      · replace hx' : (S[0]'hz').toNat = 123 := hx'
        go_enter Tryd.func38, Tryd.ntmps38
        go_wp2_with fail
        go_ret
        exact ⟨rfl, rfl⟩
      · replace hx' : (S[0]'hz').toNat = 125 := hx'
        go_enter Tryd.func38, Tryd.ntmps38
        go_wp2_with fail
        go_ret
        exact ⟨rfl, rfl⟩
      · replace hx' : (S[0]'hz').toNat = 60 := hx'
        go_enter Tryd.func38, Tryd.ntmps38
        go_wp2_with fail
        go_ret
        exact ⟨rfl, rfl⟩
      · replace hx' : (S[0]'hz').toNat = 62 := hx'
        go_enter Tryd.func38, Tryd.ntmps38
        go_wp2_with fail
        go_ret
        exact ⟨rfl, rfl⟩
      · replace hx' : (S[0]'hz').toNat = 44 := hx'
        go_enter Tryd.func38, Tryd.ntmps38
        go_wp2_with fail
        go_ret
        exact ⟨rfl, rfl⟩
      · replace hx' : (S[0]'hz').toNat = 59 := hx'
        go_enter Tryd.func38, Tryd.ntmps38
        go_wp2_with fail
        go_ret
        exact ⟨rfl, rfl⟩
      · replace hx' : (S[0]'hz').toNat = 46 := hx'
        go_enter Tryd.func38, Tryd.ntmps38
        go_wp2_with fail
        go_ret
        exact ⟨rfl, rfl⟩
      · replace hx' : (S[0]'hz').toNat = 42 := hx'
        go_enter Tryd.func38, Tryd.ntmps38
        go_wp2_with fail
        go_ret
        exact ⟨rfl, rfl⟩
      · replace hx' : (S[0]'hz').toNat = 38 := hx'
        go_enter Tryd.func38, Tryd.ntmps38
        go_wp2_with fail
        go_ret
        exact ⟨rfl, rfl⟩
      · replace hx' : (S[0]'hz').toNat = 43 := hx'
        go_enter Tryd.func38, Tryd.ntmps38
        go_wp2_with fail
        go_ret
        exact ⟨rfl, rfl⟩
      · replace hx' : (S[0]'hz').toNat = 33 := hx'
        go_enter Tryd.func38, Tryd.ntmps38
        go_wp2_with fail
        go_ret
        exact ⟨rfl, rfl⟩
end Go.Proofs.YtdnjcajbmibjiaaDoor
