/-
  The texts Lsk, Lnb, Lsg, joined.
-/
import Derived.Test.YtldbbkheemnnhaaGreatDoorJpSpa3
namespace Go.Proofs.YtldbbkheemnnhaaGreatDoor
open Go.RowKit
theorem slash_two (l : List UInt8) (k : Nat) (h : k < l.length) : ((str ((l.drop k).take 2)).toList == [47, 47]) = (decide ((l.getD k 0).toNat = 47) && ((l.drop (k + 1)).head? == some 47)) := by
 have e : ((str ((l.drop k).take 2)).toList == [47, 47]) = decide ((l.drop k).take 2 = [47, 47]) := by
  have := str_beq ((l.drop k).take 2) [47, 47]
  rw [← this]
  congr 1
  unfold str
  rw [ByteArray.toList_mk]
 rw [e, drop_cons l k h]
 have hc : ∀ c : UInt8, decide (c.toNat = 47) = decide (c = 47) := fun c => by
  by_cases h : c = 47
  ·subst h; rfl
  ·have h' : ¬ c.toNat = 47 := fun e => h (UInt8.toNat_inj.1 (by simpa using e))
   rw [decide_eq_false h, decide_eq_false h']
 rw [hc]
 cases hd : l.drop (k + 1) with
 | nil => simp
 | cons d u =>
  simp only [List.take_succ_cons, List.take_zero, List.head?_cons]
  generalize l.getD k 0 = c
  by_cases h1 : c = 47 <;> by_cases h2 : d = 47 <;> simp [h1, h2]
theorem rem_at (l : List UInt8) (k : Nat) (h : k < l.length) : remF (l.drop k) = if l.getD k 0 = 10 then 0 else remF (l.drop (k + 1)) + 1 := by
 rw [drop_cons l k h]; rfl
set_option maxHeartbeats 4000000 in
set_option maxRecDepth 20000 in
theorem xskip_any (l : List UInt8) (p : Nat) (hp : p <= l.length) (hl : l.length <= 9223372036854775807) (w : World) : Calls Tryz.prog 79 #[.string (str l), .int .i64 (p : Int)] w fun ev w' => ev = .returned (.int .i64 ((p + skp false (l.drop p) : Nat) : Int)) /\ w' = w := by
 have HM : Hid (∀ a : Nat, (str l).extract a (a + 2) = str ((l.drop a).take 2)) := fun a => by rw [str_mid]; congr 3; omega
 obtain ⟨S, hS⟩ : ∃ S, S = str l := ⟨_, rfl⟩
 have hSs : S.size = l.length := by rw [hS, str_size]
 have HX : Hid (∀ k (h : k < S.size), (S[k]'h).toNat = (l.getD k 0).toNat) := by
  intro k h
  subst hS
  rw [str_at]
 rw [← hS] at HM ⊢
 clear hS
 obtain ⟨R, hR⟩ : ∃ R, p + skp false (l.drop p) = R := ⟨_, rfl⟩
 have HR : Hid (p + skp false (l.drop p) = R) := hR
 rw [hR]
 clear hR
 go_enter Tryz.func79, Tryz.ntmps79
 go_wp2_with fail
 go_loopw [1] (fun i wr => ∃ k : Nat, k <= l.length /\ k + skp false (l.drop k) = R /\ i = .int .i64 k /\ wr = w) (fun i _ => l.length - (intOf i).toNat)
 case atStart => exact ⟨p, hp, HR.out, rfl, rfl⟩
 case round =>
  obtain ⟨k, hkl, hk, rfl, rfl⟩ := hrel
  clear HR
  by_cases h3 : k < l.length
  ·have hkS : k < S.size := by omega
   have hx := HX.out k hkS
   have hrem := remF_le (l.drop k)
   rw [List.length_drop] at hrem
   have hs := drop_cons l k h3
   rw [hs] at hk
   simp only [skp] at hk
   have hblk : isBl (l.getD k 0) = (decide ((l.getD k 0).toNat = 32) || decide ((l.getD k 0).toNat = 9) || decide ((l.getD k 0).toNat = 10)) := rfl
   by_cases hb : (l.getD k 0).toNat = 32 ∨ (l.getD k 0).toNat = 9 ∨ (l.getD k 0).toNat = 10
   ·have h1 : isBl (l.getD k 0) = true := by
     rw [hblk]
     simp only [Bool.or_eq_true, decide_eq_true_eq]
     omega
    rw [h1] at hk
    have HP : Hid (k + 1 + skp false (l.drop (k + 1)) = R) := by show _ = R; simp at hk; omega
    clear hk h1 hs hrem hblk HM HX
    generalize (l.getD k 0).toNat = x at *
    rcases hb with rfl | rfl | rfl
    ·go_wp2_with fail
     go_roundw
     case rel => exact ⟨k + 1, by omega, HP.out, by go_num, by trivial⟩
     case measure => simp [intOf]; omega
    ·go_wp2_with fail
     go_roundw
     case rel => exact ⟨k + 1, by omega, HP.out, by go_num, by trivial⟩
     case measure => simp [intOf]; omega
    ·go_wp2_with fail
     go_roundw
     case rel => exact ⟨k + 1, by omega, HP.out, by go_num, by trivial⟩
     case measure => simp [intOf]; omega
   ·have h1 : isBl (l.getD k 0) = false := by
     rw [hblk]
     cases hh : (decide ((l.getD k 0).toNat = 32) || decide ((l.getD k 0).toNat = 9) || decide ((l.getD k 0).toNat = 10))
     ·rfl
     ·simp only [Bool.or_eq_true, decide_eq_true_eq] at hh; omega
    have n1 : ((l.getD k 0).toNat : Int) ≠ 32 := by omega
    have n2 : ((l.getD k 0).toNat : Int) ≠ 9 := by omega
    have n3 : ((l.getD k 0).toNat : Int) ≠ 10 := by omega
    have m1 : (((l.getD k 0).toNat : Int) == 32) = false := by rw [beq_eq_false_iff_ne]; exact n1
    have m2 : (((l.getD k 0).toNat : Int) == 9) = false := by rw [beq_eq_false_iff_ne]; exact n2
    have m3 : (((l.getD k 0).toNat : Int) == 10) = false := by rw [beq_eq_false_iff_ne]; exact n3
    have hE := HM.out k
    have hsl := slash_two l k h3
    rw [h1] at hk
    cases h2 : (decide ((l.getD k 0).toNat = 47) && ((l.drop (k + 1)).head? == some 47))
    ·rw [h2] at hk hsl
     have HP : Hid (R = k) := by show R = k; simpa using hk.symm
     clear hk h1 h2 hs hrem hblk HM HX hb
     generalize (l.getD k 0).toNat = x at *
     generalize str ((l.drop k).take 2) = S1 at *
     by_cases h4 : 2 <= l.length - k
     ·have i4 : (2 : Int) <= (l.length : Int) - (k : Int) := by omega
      go_wp2_with fail
      go_ret
      refine ⟨by rw [HP.out]; rfl, ?_⟩
      trivial
     ·have i4 : ¬ (2 : Int) <= (l.length : Int) - (k : Int) := by omega
      go_wp2_with fail
      go_ret
      refine ⟨by rw [HP.out]; rfl, ?_⟩
      trivial
    ·have hne : remF (l.drop k) = 1 + remF (l.drop (k + 1)) := by
      rw [hs]
      simp only [remF]
      have : ¬ l.getD k 0 = 10 := fun e => by rw [e] at h1; simp [isBl] at h1
      rw [if_neg this]; omega
     have h4 : 2 <= l.length - k := by
      simp only [Bool.and_eq_true] at h2
      cases hd : l.drop (k + 1) with
      | nil => rw [hd] at h2; simp at h2
      | cons d u =>
       have := congrArg List.length hd
       simp at this
       omega
     have i4 : (2 : Int) <= (l.length : Int) - (k : Int) := by omega
     rw [h2] at hk hsl
     have HP : Hid (k + remF (l.drop k) + skp false (l.drop (k + remF (l.drop k))) = R) := by
      show _ = R
      simp only [Bool.false_eq_true, if_false, if_true] at hk
      rw [skp_rem, List.drop_drop] at hk
      rw [hne, show k + (1 + remF (l.drop (k + 1))) = k + 1 + remF (l.drop (k + 1)) by omega]
      omega
     have hr1 : 1 <= remF (l.drop k) := by omega
     obtain ⟨E, hE'⟩ : ∃ E, k + remF (l.drop k) = E := ⟨_, rfl⟩
     have HE : Hid (k + remF (l.drop k) = E) := hE'
     rw [hE'] at HP
     have hkE : k < E := by omega
     have hEl : E <= l.length := by omega
     clear hk h1 h2 hs hne hblk HM hb hE' hrem hr1
     generalize (l.getD k 0).toNat = x at *
     generalize str ((l.drop k).take 2) = S1 at *
     go_wp2_with fail
     rename World => wA
     go_loopw [1] (fun i wr => ∃ j : Nat, k <= j /\ j + remF (l.drop j) = E /\ i = .int .i64 j /\ wr = wA) (fun i _ => l.length - (intOf i).toNat)
     case atStart => exact ⟨k, by omega, HE.out, rfl, rfl⟩
     case round =>
      obtain ⟨j, hkj, hj, rfl, rfl⟩ := hrel
      clear HE hx hE hsl n1 n2 n3 m1 m2 m3
      have hrl := remF_le (l.drop j)
      rw [List.length_drop] at hrl
      by_cases h5 : j < l.length
      ·have hjS : j < S.size := by omega
       have hy := HX.out j hjS
       rw [rem_at l j h5] at hj
       by_cases h6 : l.getD j 0 = 10
       ·rw [if_pos h6] at hj
        rw [h6] at hy
        replace hy : (S[j]'hjS).toNat = 10 := hy
        obtain rfl : j = E := by omega
        clear h6 HX
        go_wp2_with fail
        go_roundw
        case rel => exact ⟨j, by omega, HP.out, rfl, by trivial⟩
        case measure => simp [intOf]; omega
       ·rw [if_neg h6] at hj
        have HJ : Hid (j + 1 + remF (l.drop (j + 1)) = E) := by show _ = E; omega
        have n10 : ((l.getD j 0).toNat : Int) ≠ 10 := fun e => h6 (UInt8.toNat_inj.1 (show (l.getD j 0).toNat = 10 by omega))
        have m10 : (((l.getD j 0).toNat : Int) == 10) = false := by rw [beq_eq_false_iff_ne]; exact n10
        clear h6 HX hj
        generalize (l.getD j 0).toNat = z at *
        go_wp2_with fail
        go_roundw
        case rel => exact ⟨j + 1, by omega, HJ.out, by go_num, by trivial⟩
        case measure => simp [intOf]; omega
      ·have hj0 : remF (l.drop j) = 0 := by rw [List.drop_of_length_le (by omega)]; rfl
       obtain rfl : j = E := by omega
       have h7 : j = l.length := by omega
       have h7' : ¬ (j : Int) < (l.length : Int) := by omega
       clear HX hj hj0 h7
       go_wp2_with fail
       go_roundw
       case rel => exact ⟨j, by omega, HP.out, rfl, by trivial⟩
       case measure => simp [intOf]; omega
  ·obtain rfl : k = l.length := by omega
   have HP : Hid (R = l.length) := by show R = l.length; simpa [skp] using hk.symm
   clear HX HM hk
   go_wp2_with fail
   go_ret
   refine ⟨by rw [HP.out]; rfl, ?_⟩
   trivial
end Go.Proofs.YtldbbkheemnnhaaGreatDoor

namespace Go.Proofs.YtldbbkheemnnhaaGreatDoor
open Go.RowKit
theorem numA_snoc (a : Nat) (l : List UInt8) (c : UInt8) : numA a (l ++ [c]) = numA a l * 10 + (c.toNat - 48) := by
 simp [numA, List.foldl_append]
theorem take_snoc (l : List UInt8) (k : Nat) (h : k < l.length) : l.take (k + 1) = l.take k ++ [l.getD k 0] := by
 rw [List.take_add_one]
 simp [List.getD, List.getElem?_eq_getElem h]
theorem numA_lt : ∀ (l : List UInt8), l.all isDg = true -> numA 0 l < 10 ^ l.length := by
 intro l
 have key : ∀ (l : List UInt8) (a : Nat), l.all isDg = true -> numA a l < (a + 1) * 10 ^ l.length := by
  intro l
  induction l with
  | nil => intro a _; simp [numA]
  | cons c t ih =>
   intro a h
   simp only [List.all_cons, Bool.and_eq_true] at h
   have hd := h.1
   simp only [isDg, Bool.and_eq_true, decide_eq_true_eq] at hd
   have h1 := ih (a * 10 + (c.toNat - 48)) h.2
   have h2 : (a * 10 + (c.toNat - 48) + 1) * 10 ^ t.length <= (a + 1) * 10 * 10 ^ t.length := Nat.mul_le_mul_right _ (by omega)
   have e : (a + 1) * 10 ^ (c :: t).length = (a + 1) * 10 * 10 ^ t.length := by rw [List.length_cons, Nat.pow_succ, Nat.mul_assoc, Nat.mul_comm 10]
   rw [e]
   exact Nat.lt_of_lt_of_le h1 h2
 intro h
 have := key l 0 h
 simpa using this
theorem num_bound (l : List UInt8) (h : l.all isDg = true) (hl : l.length <= 10) : numA 0 l < 10000000000 := by
 have h1 := numA_lt l h
 have h2 : 10 ^ l.length <= 10 ^ 10 := Nat.pow_le_pow_right (by omega) hl
 have e : (10 : Nat) ^ 10 = 10000000000 := by decide
 omega
set_option maxHeartbeats 4000000 in
set_option maxRecDepth 20000 in
theorem xnumber_any (l : List UInt8) (hl : l.length <= 9223372036854775807) (w : World) : Calls Tryz.prog 85 #[.string (str l)] w fun ev w' => ev = .returned (.bool (isNum l)) /\ w' = w := by
 have HD : Hid (∀ k, k < l.length -> ∀ y, Calls Tryz.prog 84 #[.int .u8 ((l.getD k 0).toNat : Int)] y fun ev w' => ev = .returned (.bool (isDg (l.getD k 0))) /\ w' = y) := fun k _ y => xdigit_any _ y
 obtain ⟨B, hB⟩ : ∃ B, isNum l = B := ⟨_, rfl⟩
 rw [hB]
 have HB : Hid (isNum l = B) := hB
 clear hB
 obtain ⟨S, hS⟩ : ∃ S, S = str l := ⟨_, rfl⟩
 have hSs : S.size = l.length := by rw [hS, str_size]
 have HX : Hid (∀ k (h : k < S.size), (S[k]'h).toNat = (l.getD k 0).toNat) := by
  intro k h
  subst hS
  rw [str_at]
 rw [← hS]
 clear hS
 by_cases h1 : l.length = 0
 ·have hP : B = false := by rw [← HB.out]; simp [isNum, h1]
  subst hP
  have i1 : (l.length : Int) = 0 := by omega
  rw [h1] at hSs
  clear HX HB HD h1 i1
  go_enter Tryz.func85, Tryz.ntmps85
  go_wp2_with fail
  go_ret
  exact ⟨rfl, rfl⟩
 ·have i1 : (l.length : Int) ≠ 0 := by omega
  have j1 : ((l.length : Int) == 0) = false := by rw [beq_eq_false_iff_ne]; exact i1
  by_cases h2 : 10 < l.length
  ·have hP : B = false := by rw [← HB.out]; unfold isNum; rw [decide_eq_false (by omega : ¬ l.length <= 10)]; simp
   subst hP
   have i2 : (10 : Int) < (l.length : Int) := by omega
   clear HX HB HD h1 h2
   generalize l.length = n at *
   go_enter Tryz.func85, Tryz.ntmps85
   go_wp2_with fail
   go_ret
   exact ⟨rfl, rfl⟩
  ·have i2 : ¬ (10 : Int) < (l.length : Int) := by omega
   have j2 : decide ((10 : Int) < (l.length : Int)) = false := decide_eq_false i2
   by_cases h3 : 1 < l.length /\ l.getD 0 0 = 48
   ·have hP : B = false := by
     rw [← HB.out]
     cases l with
     | nil => simp at h1
     | cons c t =>
      have hc : c = 48 := h3.2
      subst hc
      unfold isNum
      rw [decide_eq_false (by omega : ¬ (48 :: t).length <= 1)]
      simp
    subst hP
    have hz : 0 < S.size := by omega
    have hx := HX.out 0 hz
    rw [h3.2] at hx
    replace hx : (S[0]'hz).toNat = 48 := hx
    have i3 : (1 : Int) < (l.length : Int) := by omega
    clear HX HB HD h1 h2 h3
    generalize l.length = n at *
    go_enter Tryz.func85, Tryz.ntmps85
    go_wp2_with fail
    go_ret
    exact ⟨rfl, rfl⟩
   ·have hz : 0 < S.size := by omega
    have hx := HX.out 0 hz
    have HQ : Hid ((decide (l.length <= 1) || !(l.head? == some 48)) = true) := by
     show _ = true
     by_cases h4 : l.length <= 1
     ·simp [h4]
     ·have h5 : l.getD 0 0 ≠ 48 := fun e => h3 ⟨by omega, e⟩
      cases l with
      | nil => simp at h1
      | cons c t =>
       have hc : c ≠ 48 := h5
       simp [hc]
    have HE : Hid (∀ k, k <= l.length -> (l.take k).all isDg = true -> numA 0 (l.take k) < 10000000000) := fun k hk h => num_bound _ h (by rw [List.length_take]; omega)
    have HS : Hid (∀ k, k < l.length -> l.take (k + 1) = l.take k ++ [l.getD k 0]) := fun k h => take_snoc l k h
    have HZ : Hid (∀ y : Nat, l.length <= 1 ∨ y = y) := fun y => .inr rfl
    clear HZ
    have key : ∀ i3 : (l.length <= 1 ∨ (1 < l.length /\ l.getD 0 0 ≠ 48)), Calls Tryz.prog 85 #[.string S] w fun ev w' => ev = .returned (.bool B) /\ w' = w := by
     intro i3
     have c3 : (¬ (1 : Int) < (l.length : Int) /\ decide ((1 : Int) < (l.length : Int)) = false) ∨ ((1 : Int) < (l.length : Int) /\ ((l.getD 0 0).toNat : Int) ≠ 48 /\ (((l.getD 0 0).toNat : Int) == 48) = false) := by
      rcases i3 with h | ⟨h, h'⟩
      ·left; exact ⟨by omega, by rw [decide_eq_false_iff_not]; omega⟩
      ·right
       have : ((l.getD 0 0).toNat : Int) ≠ 48 := fun e => h' (UInt8.toNat_inj.1 (show (l.getD 0 0).toNat = 48 by omega))
       exact ⟨by omega, this, by rw [beq_eq_false_iff_ne]; exact this⟩
     clear i3 h3
     generalize (l.getD 0 0).toNat = x0 at *
     rcases c3 with ⟨c1, c2⟩ | ⟨c1, c2, c4⟩
     all_goals
      go_enter Tryz.func85, Tryz.ntmps85
      go_wp2_with fail
      go_loopw [3, 4] (fun n i wr => ∃ k : Nat, k <= l.length /\ (l.take k).all isDg = true /\ n = .int .i64 (numA 0 (l.take k) : Int) /\ i = .int .i64 k /\ wr = w) (fun _ i _ => l.length - (intOf i).toNat)
      case atStart => exact ⟨0, by omega, rfl, rfl, rfl, rfl⟩
      case round =>
       obtain ⟨k, hk, hd, rfl, rfl, rfl⟩ := hrel
       have hnb := HE.out k hk hd
       clear hx
       by_cases h5 : k < l.length
       ·have hkS : k < S.size := by omega
        have hy := HX.out k hkS
        have D := HD.out k h5 wr
        cases hg : isDg (l.getD k 0)
        ·have HP : Hid (B = false) := by
          show B = false
          rw [← HB.out]
          cases hh : isNum l
          ·rfl
          ·simp only [isNum, Bool.and_eq_true] at hh
           have := List.all_eq_true.1 hh.1.2 (l.getD k 0) (by rw [List.getD, List.getElem?_eq_getElem h5]; exact List.getElem_mem h5)
           rw [hg] at this; cases this
         rw [hg] at D
         clear HX HB HD HE HS HQ hd hg
         generalize (l.getD k 0).toNat = x at *
         generalize numA 0 (l.take k) = m at *
         go_wp2_with fail
         refine D.mono ?_
         rintro ev w2 ⟨rfl, rfl⟩
         go_wp2_with fail
         go_ret
         refine ⟨by rw [HP.out]; rfl, ?_⟩
         trivial
        ·have e1 := HS.out k h5
         have HN : Hid ((l.take (k + 1)).all isDg = true) := by
          show _ = true
          rw [e1, List.all_append, hd]
          simp only [List.all_cons, hg, List.all_nil]
          rfl
         have hg' := hg
         simp only [isDg, Bool.and_eq_true, decide_eq_true_eq] at hg'
         have HM : Hid ((numA 0 (l.take (k + 1)) : Int) = (numA 0 (l.take k) : Int) * 10 + (((l.getD k 0).toNat : Int) - 48)) := by
          show _ = _
          rw [e1, numA_snoc]
          omega
         rw [hg] at D
         obtain ⟨g1, g2⟩ := hg'
         clear HX HB HD HE HS HQ hd hg e1
         generalize (l.getD k 0).toNat = x at *
         generalize numA 0 (l.take k) = m at *
         go_wp2_with fail
         refine D.mono ?_
         rintro ev w2 ⟨rfl, rfl⟩
         go_wp2_with fail
         go_roundw
         case rel => exact ⟨k + 1, by omega, HN.out, by rw [HM.out], by go_num, by trivial⟩
         case measure => simp [intOf]; omega
       ·obtain rfl : k = l.length := by omega
        rw [List.take_length] at hd hnb ⊢
        have HP : Hid (B = decide ((numA 0 l : Int) <= 2147483647)) := by
         show B = _
         rw [← HB.out]
         unfold isNum
         rw [HQ.out, hd, decide_eq_true (by omega : 1 <= l.length), decide_eq_true (by omega : l.length <= 10)]
         have : numV l = numA 0 l := rfl
         rw [this]
         by_cases h9 : numA 0 l <= 2147483647
         ·rw [decide_eq_true h9, decide_eq_true (by omega)]; rfl
         ·rw [decide_eq_false h9, decide_eq_false (by omega)]; rfl
        clear HX HB HD HE HS HQ hd
        generalize numA 0 l = m at *
        go_wp2_with fail
        go_ret
        refine ⟨by rw [HP.out]; rfl, ?_⟩
        trivial
    refine key ?_
    by_cases h9 : l.length <= 1
    ·exact .inl h9
    ·exact .inr ⟨by omega, fun e => h3 ⟨by omega, e⟩⟩
end Go.Proofs.YtldbbkheemnnhaaGreatDoor

namespace Go.Proofs.YtldbbkheemnnhaaGreatDoor
open Go.RowKit
theorem two_row (w : World) : Row (w.alloc (.cells #[.string ⟨#[58, 58]⟩, .string ⟨#[45, 62]⟩, .string ⟨#[61, 61]⟩] 9)) w.heap.size 9 (signs2.map fun x => .string (str x)) := Row.new w 9 _
theorem two_at (k : Nat) (h : k < 3) : (signs2.map fun x => Value.string (str x))[k]? = some (.string (str (signs2.getD k []))) := by
 have : k < signs2.length := h
 simp [List.getD, List.getElem?_eq_getElem this]
theorem two_len (k : Nat) (h : k < 3) : (signs2.getD k []).length = 2 := by
 have : k = 0 ∨ k = 1 ∨ k = 2 := by omega
 rcases this with rfl | rfl | rfl <;> rfl
def oneS : ByteArray := ⟨#[40, 41, 123, 125, 60, 62, 44, 59, 58, 46, 42, 38, 43, 45, 61, 33]⟩
theorem oneS_at (k : Nat) (h : k < oneS.size) : (oneS[k]'h).toNat = (signs1.getD k 0).toNat := by
 have : oneS = str signs1 := rfl
 have h' : k < (str signs1).size := h
 exact congrArg UInt8.toNat (str_at signs1 k h')
theorem oneS_run (k : Nat) (h : k < 16) (y : World) : (Instr.index 9 (.string oneS) (.int .i64 (k : Int))).run Tryz.prog y = .ok (.int .u8 ((signs1.getD k 0).toNat : Int)) y := by
 rw [run_index_string y 9 oneS .i64 k Tryz.underlying9]
 have hk : k < oneS.size := h
 have h0 : (0 : Int) <= (k : Int) /\ (k : Int) < (oneS.size : Int) := ⟨by omega, by omega⟩
 rw [dif_pos h0]
 have e := oneS_at k hk
 rw [← e]
 rfl
set_option maxHeartbeats 4000000 in
set_option maxRecDepth 20000 in
theorem xsign_any (l : List UInt8) (p : Nat) (hp : p < l.length) (hl : l.length <= 9223372036854775807) (w : World) : Calls Tryz.prog 86 #[.string (str l), .int .i64 (p : Int)] w fun ev w' => ev = .returned (.int .i64 (signF (l.drop p) : Int)) /\ Below w.heap.size w w' := by
 have hM : (str l).extract p (p + 2) = str ((l.drop p).take 2) := by rw [str_mid]; congr 3; omega
 have HF : Hid (l.drop p = l.getD p 0 :: l.drop (p + 1)) := drop_cons l p hp
 obtain ⟨R, hR⟩ : ∃ R, signF (l.drop p) = R := ⟨_, rfl⟩
 have HR : Hid (signF (l.drop p) = R) := hR
 rw [hR]
 clear hR
 obtain ⟨W, hW⟩ : ∃ W, W = w.alloc (.cells #[.string ⟨#[58, 58]⟩, .string ⟨#[45, 62]⟩, .string ⟨#[61, 61]⟩] 9) := ⟨_, rfl⟩
 have HC : Hid (∀ k, k < 3 -> ∀ m, (W.drewN m).cell? ⟨w.heap.size, k, none⟩ = some (.string (str (signs2.getD k [])))) := by
  intro k hk m
  rw [hW]
  exact ((two_row w).cell k).trans (two_at k hk)
 have HB : Hid (Below w.heap.size w W) := by
  rw [hW]
  exact (Below.refl _ _).alloc (Nat.le_refl _) _
 have HQ : Hid (∀ k, k < 3 -> ((str ((l.drop p).take 2)).toList == (str (signs2.getD k [])).toList) = decide ((l.drop p).take 2 = signs2.getD k [])) := fun k _ => str_beq _ _
 have HL : Hid (((l.drop p).take 2).length = min 2 (l.length - p)) := by show _ = _; rw [List.length_take, List.length_drop]
 have AW : Aside (W = w.alloc (.cells #[.string ⟨#[58, 58]⟩, .string ⟨#[45, 62]⟩, .string ⟨#[61, 61]⟩] 9)) := hW
 clear hW
 obtain ⟨S, hS⟩ : ∃ S, S = str l := ⟨_, rfl⟩
 have hSs : S.size = l.length := by rw [hS, str_size]
 obtain ⟨hpS, hx⟩ : ∃ h : p < S.size, (S[p]'h).toNat = (l.getD p 0).toNat := by
  subst hS
  exact ⟨by rw [str_size]; exact hp, by rw [str_at]⟩
 rw [← hS] at hM ⊢
 clear hS
 obtain ⟨g, hg⟩ : ∃ g, g = w.heap.size := ⟨_, rfl⟩
 rw [← hg] at HC
 have AG : Aside (g = w.heap.size) := hg
 clear hg
 go_enter Tryz.func86, Tryz.ntmps86
 go_wp2_with fail
 refine wp_at_world AW.out ?_
 rw [← AG.out]
 go_loopw [6] (fun i wr => ∃ k : Nat, ∃ m : Nat, k <= 3 /\ i = .int .i64 k /\ (∀ j, j < k -> (l.drop p).take 2 ≠ signs2.getD j []) /\ wr = W.drewN m) (fun i _ => 3 - (intOf i).toNat)
 case atStart => exact ⟨0, 0, by omega, rfl, fun j h => by omega, rfl⟩
 case round =>
  obtain ⟨k, m, hk, rfl, hj, rfl⟩ := hrel
  have HJ : Hid (∀ j, j < k -> (l.drop p).take 2 ≠ signs2.getD j []) := hj
  clear hj
  by_cases h3 : k < 3
  ·have q := HC.out k h3
   have hb := HQ.out k h3
   have l1 : (k : Int) < 3 := by omega
   by_cases he : (l.drop p).take 2 = signs2.getD k []
   ·have HP : Hid (R = 2) := by
     show R = 2
     rw [← HR.out]
     refine signF_two ?_
     rw [he]
     have : k = 0 ∨ k = 1 ∨ k = 2 := by omega
     rcases this with rfl | rfl | rfl <;> rfl
    have h4 : 2 <= l.length - p := by
     have h5 := HL.out
     rw [he, two_len k h3] at h5
     omega
    have i4 : (2 : Int) <= (l.length : Int) - (p : Int) := by omega
    rw [decide_eq_true he] at hb
    clear he HC HQ
    generalize str (signs2.getD k []) = S1 at *
    generalize str ((l.drop p).take 2) = S2 at *
    generalize (l.getD p 0).toNat = x at *
    go_wp2_with fail
    go_quiet (fail)
    go_wp2_with fail
    go_ret
    exact ⟨by rw [HP.out]; rfl, below_drewN (below_drewN HB.out _) _⟩
   ·have HP : Hid (∀ j, j < k + 1 -> (l.drop p).take 2 ≠ signs2.getD j []) := by
     intro j hj
     rcases Nat.lt_or_ge j k with h | h
     ·exact HJ.out j h
     ·obtain rfl : j = k := by omega
      exact he
    rw [decide_eq_false he] at hb
    clear he HC HQ
    generalize str (signs2.getD k []) = S1 at *
    generalize str ((l.drop p).take 2) = S2 at *
    generalize (l.getD p 0).toNat = x at *
    by_cases h4 : 2 <= l.length - p
    ·have i4 : (2 : Int) <= (l.length : Int) - (p : Int) := by omega
     go_wp2_with fail
     go_quiet (fail)
     go_wp2_with fail
     go_roundw
     case rel => exact ⟨k + 1, _, by omega, by go_num, HP.out, rfl⟩
     case measure => simp [intOf]; omega
    ·have i4 : ¬ (2 : Int) <= (l.length : Int) - (p : Int) := by omega
     have d4 : decide ((2 : Int) <= (l.length : Int) - (p : Int)) = false := decide_eq_false i4
     go_wp2_with fail
     go_quiet (fail)
     go_wp2_with fail
     go_roundw
     case rel => exact ⟨k + 1, _, by omega, by go_num, HP.out, rfl⟩
     case measure => simp [intOf]; omega
  ·obtain rfl : k = 3 := by omega
   have HP : Hid (signs2.contains ((l.drop p).take 2) = false) := by
    show _ = false
    cases hh : signs2.contains ((l.drop p).take 2)
    ·rfl
    ·exfalso
     simp only [List.contains_eq_mem, decide_eq_true_eq] at hh
     obtain ⟨j, hj, e⟩ := List.getElem_of_mem hh
     exact HJ.out j hj (by rw [List.getD, List.getElem?_eq_getElem hj]; exact e.symm)
   have HXs : Hid (∀ k : Nat, k < 16 -> ∀ y, (Instr.index 9 (.string oneS) (.int .i64 (k : Int))).run Tryz.prog y = .ok (.int .u8 ((signs1.getD k 0).toNat : Int)) y) := oneS_run
   unfold oneS at HXs
   clear HJ HQ HC HL hM AW AG
   go_wp2_with fail
   go_loopw [8] (fun i wr => ∃ k : Nat, ∃ m : Nat, k <= 16 /\ i = .int .i64 k /\ (∀ j, j < k -> signs1.getD j 0 ≠ l.getD p 0) /\ wr = W.drewN m) (fun i _ => 16 - (intOf i).toNat)
   case atStart => exact ⟨0, _, by omega, rfl, fun j h => by omega, rfl⟩
   case round =>
    obtain ⟨k, m, hk, rfl, hj, rfl⟩ := hrel
    have HJ : Hid (∀ j, j < k -> signs1.getD j 0 ≠ l.getD p 0) := hj
    clear hj
    by_cases h3 : k < 16
    ·have q := HXs.out k h3
     have l1 : (k : Int) < 16 := by omega
     by_cases he : signs1.getD k 0 = l.getD p 0
     ·have HP2 : Hid (R = 1) := by
       show R = 1
       rw [← HR.out]
       have hf := HF.out
       have hp' := HP.out
       rw [hf] at hp' ⊢
       refine signF_one hp' ?_
       rw [← he]
       have h16 : k < signs1.length := h3
       simp only [List.contains_eq_mem, decide_eq_true_eq]
       rw [List.getD, List.getElem?_eq_getElem h16]
       exact List.getElem_mem h16
      rw [he] at q
      clear he HXs
      generalize (l.getD p 0).toNat = x at *
      go_wp2_with fail
      go_quiet (fail)
      go_wp2_with fail
      go_ret
      exact ⟨by rw [HP2.out]; rfl, below_drewN (below_drewN HB.out _) _⟩
     ·have HP2 : Hid (∀ j, j < k + 1 -> signs1.getD j 0 ≠ l.getD p 0) := by
       intro j hj
       rcases Nat.lt_or_ge j k with h | h
       ·exact HJ.out j h
       ·obtain rfl : j = k := by omega
        exact he
      have n1 : ((signs1.getD k 0).toNat : Int) ≠ ((l.getD p 0).toNat : Int) := fun e => he (UInt8.toNat_inj.1 (by omega))
      have m1 : (((signs1.getD k 0).toNat : Int) == ((l.getD p 0).toNat : Int)) = false := by rw [beq_eq_false_iff_ne]; exact n1
      clear he HXs
      generalize (signs1.getD k 0).toNat = z at *
      generalize (l.getD p 0).toNat = x at *
      go_wp2_with fail
      go_quiet (fail)
      go_wp2_with fail
      go_roundw
      case rel => exact ⟨k + 1, _, by omega, by go_num, HP2.out, rfl⟩
      case measure => simp [intOf]; omega
    ·obtain rfl : k = 16 := by omega
     have HP2 : Hid (R = 0) := by
      show R = 0
      rw [← HR.out, HF.out]
      refine signF_no ?_
      cases hh : signs1.contains (l.getD p 0)
      ·rfl
      ·exfalso
       simp only [List.contains_eq_mem, decide_eq_true_eq] at hh
       obtain ⟨j, hj, e⟩ := List.getElem_of_mem hh
       exact HJ.out j hj (by rw [List.getD, List.getElem?_eq_getElem hj]; exact e)
     clear HXs HJ
     go_wp2_with fail
     go_ret
     exact ⟨by rw [HP2.out]; rfl, below_drewN HB.out _⟩
end Go.Proofs.YtldbbkheemnnhaaGreatDoor
