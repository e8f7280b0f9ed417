/-
  Blanks and remarks: the document's.
-/
import Derived.Test.YtdnjcajbmibjiaaDoorXwd
namespace Go.Proofs.YtdnjcajbmibjiaaDoor
open Go.RowKit

theorem slash_two (l : List UInt8) (k : Nat) (h : k < l.length) : ((str ((l.drop k).take 2)).toList == [47, 47]) = (decide ((l.getD k 0).toNat = 47) && ((l.drop (k + 1)).head? == some 47)) := by
  have e : ((str ((l.drop k).take 2)).toList == [47, 47]) = decide ((l.drop k).take 2 = [47, 47]) := by
    have := str_beq ((l.drop k).take 2) [47, 47]
    rw [← this]
    congr 1
    unfold str
    rw [ByteArray.toList_mk]
  rw [e, drop_cons l k h]
  have hc : ∀ c : UInt8, decide (c.toNat = 47) = decide (c = 47) := fun c => by
    by_cases h : c = 47
    · subst h; rfl
    · have h' : ¬ c.toNat = 47 := fun e => h (UInt8.toNat_inj.1 (by simpa using e))
      rw [decide_eq_false h, decide_eq_false h']
  rw [hc]
  cases hd : l.drop (k + 1) with
  | nil => simp
  | cons d u =>
    simp only [List.take_succ_cons, List.take_zero, List.head?_cons]
    generalize l.getD k 0 = c
    by_cases h1 : c = 47 <;> by_cases h2 : d = 47 <;> simp [h1, h2]
theorem rem_at (l : List UInt8) (k : Nat) (h : k < l.length) : remF (l.drop k) = if l.getD k 0 = 10 then 0 else remF (l.drop (k + 1)) + 1 := by
  rw [drop_cons l k h]; rfl

set_option maxHeartbeats 4000000 in
set_option maxRecDepth 20000 in
theorem xskip_any (l : List UInt8) (p : Nat) (hp : p ≤ l.length) (hl : l.length ≤ 9223372036854775807) (w : World) : Calls Tryd.prog 24 #[.string (str l), .int .i64 (p : Int)] w fun ev w' => ev = .returned (.int .i64 ((p + skp false (l.drop p) : Nat) : Int)) ∧ w' = w := by
  have HM : Hid (∀ a : Nat, (str l).extract a (a + 2) = str ((l.drop a).take 2)) := fun a => by rw [str_mid]; congr 3; omega
  obtain ⟨S, hS⟩ : ∃ S, S = str l := ⟨_, rfl⟩
  have hSs : S.size = l.length := by rw [hS, str_size]
  have HX : Hid (∀ k (h : k < S.size), (S[k]'h).toNat = (l.getD k 0).toNat) := by
    intro k h
    subst hS
    rw [str_at]
  rw [← hS] at HM ⊢
  clear hS
  obtain ⟨R, hR⟩ : ∃ R, p + skp false (l.drop p) = R := ⟨_, rfl⟩
  have HR : Hid (p + skp false (l.drop p) = R) := hR
  rw [hR]
  clear hR
  go_enter Tryd.func24, Tryd.ntmps24
  go_wp2_with fail
  go_loopw [1] (fun i wr => ∃ k : Nat, k ≤ l.length ∧ k + skp false (l.drop k) = R ∧ i = .int .i64 k ∧ wr = w) (fun i _ => l.length - (intOf i).toNat)
  case atStart => exact ⟨p, hp, HR.out, rfl, rfl⟩
  case round =>
    obtain ⟨k, hkl, hk, rfl, rfl⟩ := hrel
    clear HR
    by_cases h3 : k < l.length
    · have hkS : k < S.size := by omega
      have hx := HX.out k hkS
      have hrem := remF_le (l.drop k)
      rw [List.length_drop] at hrem
      have hs := drop_cons l k h3
      rw [hs] at hk
      simp only [skp] at hk
      have hblk : isBl (l.getD k 0) = (decide ((l.getD k 0).toNat = 32) || decide ((l.getD k 0).toNat = 9) || decide ((l.getD k 0).toNat = 10)) := rfl
      by_cases hb : (l.getD k 0).toNat = 32 ∨ (l.getD k 0).toNat = 9 ∨ (l.getD k 0).toNat = 10
      · have h1 : isBl (l.getD k 0) = true := by
          rw [hblk]
          simp only [Bool.or_eq_true, decide_eq_true_eq]
          omega
        rw [h1] at hk
        have HP : Hid (k + 1 + skp false (l.drop (k + 1)) = R) := by show _ = R; simp at hk; omega
        clear hk h1 hs hrem hblk HM HX
        generalize (l.getD k 0).toNat = x at *
        rcases hb with rfl | rfl | rfl
        · go_wp2_with fail
          go_roundw
          case rel => exact ⟨k + 1, by omega, HP.out, by go_num, by trivial⟩
          case measure => simp [intOf]; omega
        · go_wp2_with fail
          go_roundw
          case rel => exact ⟨k + 1, by omega, HP.out, by go_num, by trivial⟩
          case measure => simp [intOf]; omega
        · go_wp2_with fail
          go_roundw
          case rel => exact ⟨k + 1, by omega, HP.out, by go_num, by trivial⟩
          case measure => simp [intOf]; omega
      · have h1 : isBl (l.getD k 0) = false := by
          rw [hblk]
          cases hh : (decide ((l.getD k 0).toNat = 32) || decide ((l.getD k 0).toNat = 9) || decide ((l.getD k 0).toNat = 10))
          · rfl
          · simp only [Bool.or_eq_true, decide_eq_true_eq] at hh; omega
        have n1 : ((l.getD k 0).toNat : Int) ≠ 32 := by omega
        have n2 : ((l.getD k 0).toNat : Int) ≠ 9 := by omega
        have n3 : ((l.getD k 0).toNat : Int) ≠ 10 := by omega
        have m1 : (((l.getD k 0).toNat : Int) == 32) = false := by rw [beq_eq_false_iff_ne]; exact n1
        have m2 : (((l.getD k 0).toNat : Int) == 9) = false := by rw [beq_eq_false_iff_ne]; exact n2
        have m3 : (((l.getD k 0).toNat : Int) == 10) = false := by rw [beq_eq_false_iff_ne]; exact n3
        have hE := HM.out k
        have hsl := slash_two l k h3
        rw [h1] at hk
        cases h2 : (decide ((l.getD k 0).toNat = 47) && ((l.drop (k + 1)).head? == some 47))
        · rw [h2] at hk hsl
          have HP : Hid (R = k) := by show R = k; simpa using hk.symm
          clear hk h1 h2 hs hrem hblk HM HX hb
          generalize (l.getD k 0).toNat = x at *
          generalize str ((l.drop k).take 2) = S1 at *
          by_cases h4 : 2 ≤ l.length - k
          · have i4 : (2 : Int) ≤ (l.length : Int) - (k : Int) := by omega
            go_wp2_with fail
            go_ret
            refine ⟨by rw [HP.out]; rfl, ?_⟩
            trivial
          · have i4 : ¬ (2 : Int) ≤ (l.length : Int) - (k : Int) := by omega
            go_wp2_with fail
            go_ret
            refine ⟨by rw [HP.out]; rfl, ?_⟩
            trivial
        · have hne : remF (l.drop k) = 1 + remF (l.drop (k + 1)) := by
            rw [hs]
            simp only [remF]
            have : ¬ l.getD k 0 = 10 := fun e => by rw [e] at h1; simp [isBl] at h1
            rw [if_neg this]; omega
          have h4 : 2 ≤ l.length - k := by
            simp only [Bool.and_eq_true] at h2
            cases hd : l.drop (k + 1) with
            | nil => rw [hd] at h2; simp at h2
            | cons d u =>
              have := congrArg List.length hd
              simp at this
              omega
          have i4 : (2 : Int) ≤ (l.length : Int) - (k : Int) := by omega
          rw [h2] at hk hsl
          have HP : Hid (k + remF (l.drop k) + skp false (l.drop (k + remF (l.drop k))) = R) := by
            show _ = R
            simp only [Bool.false_eq_true, if_false, if_true] at hk
            rw [skp_rem, List.drop_drop] at hk
            rw [hne, show k + (1 + remF (l.drop (k + 1))) = k + 1 + remF (l.drop (k + 1)) by omega]
            omega
          have hr1 : 1 ≤ remF (l.drop k) := by omega
          obtain ⟨E, hE'⟩ : ∃ E, k + remF (l.drop k) = E := ⟨_, rfl⟩
          have HE : Hid (k + remF (l.drop k) = E) := hE'
          rw [hE'] at HP
          have hkE : k < E := by omega
          have hEl : E ≤ l.length := by omega
          clear hk h1 h2 hs hne hblk HM hb hE' hrem hr1
          generalize (l.getD k 0).toNat = x at *
          generalize str ((l.drop k).take 2) = S1 at *
          go_wp2_with fail
          rename World => wA
          go_loopw [1] (fun i wr => ∃ j : Nat, k ≤ j ∧ j + remF (l.drop j) = E ∧ i = .int .i64 j ∧ wr = wA) (fun i _ => l.length - (intOf i).toNat)
          case atStart => exact ⟨k, by omega, HE.out, rfl, rfl⟩
          case round =>
            obtain ⟨j, hkj, hj, rfl, rfl⟩ := hrel
            clear HE hx hE hsl n1 n2 n3 m1 m2 m3
            have hrl := remF_le (l.drop j)
            rw [List.length_drop] at hrl
            by_cases h5 : j < l.length
            · have hjS : j < S.size := by omega
              have hy := HX.out j hjS
              rw [rem_at l j h5] at hj
              by_cases h6 : l.getD j 0 = 10
              · rw [if_pos h6] at hj
                rw [h6] at hy
                replace hy : (S[j]'hjS).toNat = 10 := hy
                obtain rfl : j = E := by omega
                clear h6 HX
                go_wp2_with fail
                go_roundw
                case rel => exact ⟨j, by omega, HP.out, rfl, by trivial⟩
                case measure => simp [intOf]; omega
              · rw [if_neg h6] at hj
                have HJ : Hid (j + 1 + remF (l.drop (j + 1)) = E) := by show _ = E; omega
                have n10 : ((l.getD j 0).toNat : Int) ≠ 10 := fun e => h6 (UInt8.toNat_inj.1 (show (l.getD j 0).toNat = 10 by omega))
                have m10 : (((l.getD j 0).toNat : Int) == 10) = false := by rw [beq_eq_false_iff_ne]; exact n10
                clear h6 HX hj
                generalize (l.getD j 0).toNat = z at *
                go_wp2_with fail
                go_roundw
                case rel => exact ⟨j + 1, by omega, HJ.out, by go_num, by trivial⟩
                case measure => simp [intOf]; omega
            · have hj0 : remF (l.drop j) = 0 := by rw [List.drop_of_length_le (by omega)]; rfl
              obtain rfl : j = E := by omega
              have h7 : j = l.length := by omega
              have h7' : ¬ (j : Int) < (l.length : Int) := by omega
              clear HX hj hj0 h7
              go_wp2_with fail
              go_roundw
              case rel => exact ⟨j, by omega, HP.out, rfl, by trivial⟩
              case measure => simp [intOf]; omega
    · obtain rfl : k = l.length := by omega
      have HP : Hid (R = l.length) := by show R = l.length; simpa [skp] using hk.symm
      clear HX HM hk
      go_wp2_with fail
      go_ret
      refine ⟨by rw [HP.out]; rfl, ?_⟩
      trivial
end Go.Proofs.YtdnjcajbmibjiaaDoor
