/-
  Blanks and remarks: the program's.
-/
import Derived.Test.YtdnjcajbmibjiaaDoorSiz
import Derived.Test.YtdnjcajbmibjiaaDoorShf
namespace Go.Proofs.YtdnjcajbmibjiaaDoor
open Go.RowKit

/-- How many bytes there are ahead of the first byte 10, or in all. -/
def remF : List UInt8 → Nat
  | [] => 0
  | c :: t => if c = 10 then 0 else remF t + 1
theorem remF_le : ∀ l : List UInt8, remF l ≤ l.length
  | [] => by simp [remF]
  | c :: t => by have := remF_le t; simp only [remF, List.length_cons]; split <;> omega
theorem index_rem : ∀ l : List UInt8, (Lib.indexByte l 10 = -1 ∧ remF l = l.length) ∨ Lib.indexByte l 10 = (remF l : Int)
  | [] => .inl ⟨rfl, rfl⟩
  | c :: t => by
    have ih := index_rem t
    simp only [Lib.indexByte, remF, List.length_cons]
    by_cases h : c = 10
    · subst h; right; simp
    · have hb : (c == 10) = false := by simpa using h
      rw [hb, if_neg h]
      rcases ih with ⟨h1, h2⟩ | h1
      · left; rw [h1, h2]; simp
      · right
        rw [h1]
        have : ((remF t : Int) == -1) = false := by simp
        rw [this]; simp
/-- Within a remark the blanks begin again behind it. -/
theorem skp_rem : ∀ l : List UInt8, skp true l = remF l + skp false (l.drop (remF l))
  | [] => rfl
  | c :: t => by
    have ih := skp_rem t
    simp only [skp, remF]
    by_cases h : c = 10
    · subst h
      simp [skp, isBl]
    · have h' : ¬ c.toNat = 10 := fun e => h (UInt8.toNat_inj.1 (by simpa using e))
      rw [if_neg h, decide_eq_false h']
      simp only [Bool.not_false, ih, List.drop_succ_cons]
      omega

set_option maxHeartbeats 4000000 in
theorem remarkSize_any (l : List UInt8) (w : World) : Calls Tryd.prog 34 #[.string (str l)] w fun ev w' => ev = .returned (.int .i64 (remF l : Int)) ∧ w' = w := by
  have I := Tryd.strings_IndexByte (str l) 10 w
  have e10 : (10 : Int).toNat.toUInt8 = 10 := rfl
  have ed : (str l).data.toList = l := by simp [str]
  rw [ed, e10] at I
  have hsz := str_size l
  rcases index_rem l with ⟨h1, h2⟩ | h1
  · rw [h1] at I
    rw [h2]
    clear h1 h2 ed
    generalize str l = S at *
    generalize l.length = n at *
    go_enter Tryd.func34, Tryd.ntmps34
    go_wp2_with fail
    refine I.mono ?_
    rintro ev w2 ⟨rfl, rfl⟩
    go_wp2_with fail
    go_ret
    exact ⟨rfl, rfl⟩
  · rw [h1] at I
    clear h1 ed
    generalize str l = S at *
    generalize remF l = r at *
    have b0 : (0 : Int) ≤ (r : Int) := by omega
    go_enter Tryd.func34, Tryd.ntmps34
    go_wp2_with fail
    refine I.mono ?_
    rintro ev w2 ⟨rfl, rfl⟩
    go_wp2_with fail
    go_ret
    exact ⟨rfl, rfl⟩

theorem prefix_slash (c : UInt8) (t : List UInt8) : Lib.hasPrefix (c :: t) [47, 47] = (decide (c.toNat = 47) && (t.head? == some 47)) := by
  unfold Lib.hasPrefix
  cases t with
  | nil =>
    show ((47 == c) && false) = _
    simp
  | cons d u =>
    show ((47 == c) && ((47 == d) && true)) = _
    have : (47 == c) = decide (c.toNat = 47) := by
      by_cases h : c = 47
      · subst h; rfl
      · have h' : ¬ c.toNat = 47 := fun e => h (UInt8.toNat_inj.1 (by simpa using e))
        rw [decide_eq_false h']
        simpa using fun e => h e.symm
    rw [this]
    congr 1
    simp [Bool.beq_comm]

set_option maxHeartbeats 4000000 in
set_option maxRecDepth 20000 in
theorem behind_any (l : List UInt8) (p : Nat) (hp : p ≤ l.length) (hl : l.length ≤ 9223372036854775807) (w : World) : Calls Tryd.prog 20 #[.string (str l), .int .i64 (p : Int)] w fun ev w' => ev = .returned (.int .i64 ((p + skp false (l.drop p) : Nat) : Int)) ∧ w' = w := by
  have HB : Hid (∀ k, k < l.length → ∀ y, Calls Tryd.prog 32 #[.int .u8 ((l.getD k 0).toNat : Int)] y fun ev w' => ev = .returned (.bool (isBl (l.getD k 0))) ∧ w' = y) := fun k _ y => isBlank_any _ y
  have HH : Hid (∀ k, k < l.length → ∀ y, Calls Tryd.prog 33 #[.string (str (l.drop k)), .string ⟨#[47, 47]⟩] y fun ev w' => ev = .returned (.bool (decide ((l.getD k 0).toNat = 47) && ((l.drop (k + 1)).head? == some 47))) ∧ w' = y) := by
    intro k hk y
    have := Tryd.strings_HasPrefix (str (l.drop k)) ⟨#[47, 47]⟩ y
    have ed : (str (l.drop k)).data.toList = l.drop k := by simp [str]
    rw [ed, drop_cons l k hk] at this
    rw [drop_cons l k hk]
    rw [show (ByteArray.mk #[47, 47]).data.toList = [47, 47] from rfl, prefix_slash] at this
    exact this
  have HM : Hid (∀ k, ∀ y, Calls Tryd.prog 34 #[.string (str (l.drop k))] y fun ev w' => ev = .returned (.int .i64 (remF (l.drop k) : Int)) ∧ w' = y) := fun k y => remarkSize_any _ y
  have HE : Hid (∀ k : Nat, (str l).extract k l.length = str (l.drop k)) := fun k => str_from l k
  obtain ⟨S, hS⟩ : ∃ S, S = str l := ⟨_, rfl⟩
  have hSs : S.size = l.length := by rw [hS, str_size]
  have HX : Hid (∀ k (h : k < S.size), (S[k]'h).toNat = (l.getD k 0).toNat) := by
    intro k h
    subst hS
    rw [str_at]
  rw [← hS] at HE ⊢
  clear hS
  obtain ⟨R, hR⟩ : ∃ R, p + skp false (l.drop p) = R := ⟨_, rfl⟩
  have HR : Hid (p + skp false (l.drop p) = R) := hR
  rw [hR]
  clear hR
  go_enter Tryd.func20, Tryd.ntmps20
  go_wp2_with fail
  go_loopw [1] (fun i wr => ∃ k : Nat, k ≤ l.length ∧ k + skp false (l.drop k) = R ∧ i = .int .i64 k ∧ wr = w) (fun i _ => l.length - (intOf i).toNat)
  case atStart => exact ⟨p, hp, HR.out, rfl, rfl⟩
  case round =>
    obtain ⟨k, hkl, hk, rfl, rfl⟩ := hrel
    clear HR
    by_cases h3 : k < l.length
    · have hkS : k < S.size := by omega
      have hx := HX.out k hkS
      have D := HB.out k h3 wr
      have H := HH.out k h3 wr
      have M := HM.out k wr
      have hE := HE.out k
      have hrem := remF_le (l.drop k)
      rw [List.length_drop] at hrem
      have hs := drop_cons l k h3
      rw [hs] at hk
      simp only [skp] at hk
      clear HX HB HH HM HE
      cases h1 : isBl (l.getD k 0)
      · rw [h1] at D hk
        cases h2 : (decide ((l.getD k 0).toNat = 47) && ((l.drop (k + 1)).head? == some 47))
        · rw [h2] at H hk
          have HP : Hid (R = k) := by show R = k; simpa using hk.symm
          clear hk h1 h2 M hs hrem
          generalize (l.getD k 0).toNat = x at *
          generalize str (l.drop k) = S1 at *
          go_wp2_with fail
          refine D.mono ?_
          rintro ev w2 ⟨rfl, rfl⟩
          go_wp2_with fail
          refine H.mono ?_
          rintro ev w2 ⟨rfl, rfl⟩
          go_wp2_with fail
          go_ret
          refine ⟨by rw [HP.out]; rfl, ?_⟩
          trivial
        · have hne : remF (l.drop k) = 1 + remF (l.drop (k + 1)) := by
            rw [hs]
            simp only [remF]
            have : ¬ l.getD k 0 = 10 := fun e => by rw [e] at h1; simp [isBl] at h1
            rw [if_neg this]; omega
          rw [h2] at H hk
          have HP : Hid (k + remF (l.drop k) + skp false (l.drop (k + remF (l.drop k))) = R) := by
            show _ = R
            simp only [Bool.false_eq_true, if_false, if_true] at hk
            rw [skp_rem, List.drop_drop] at hk
            rw [hne, show k + (1 + remF (l.drop (k + 1))) = k + 1 + remF (l.drop (k + 1)) by omega]
            omega
          have hr1 : 1 ≤ remF (l.drop k) := by omega
          clear hk h1 h2 hs hne
          generalize (l.getD k 0).toNat = x at *
          generalize str (l.drop k) = S1 at *
          generalize remF (l.drop k) = r at *
          go_wp2_with fail
          refine D.mono ?_
          rintro ev w2 ⟨rfl, rfl⟩
          go_wp2_with fail
          refine H.mono ?_
          rintro ev w2 ⟨rfl, rfl⟩
          go_wp2_with fail
          refine M.mono ?_
          rintro ev w2 ⟨rfl, rfl⟩
          go_wp2_with fail
          go_roundw
          case rel => exact ⟨k + r, by omega, HP.out, by go_num, by trivial⟩
          case measure => simp [intOf]; omega
      · rw [h1] at D hk
        have HP : Hid (k + 1 + skp false (l.drop (k + 1)) = R) := by show _ = R; simp at hk; omega
        clear hk h1 H M hs hrem hE
        generalize (l.getD k 0).toNat = x at *
        go_wp2_with fail
        refine D.mono ?_
        rintro ev w2 ⟨rfl, rfl⟩
        go_wp2_with fail
        go_roundw
        case rel => exact ⟨k + 1, by omega, HP.out, by go_num, by trivial⟩
        case measure => simp [intOf]; omega
    · obtain rfl : k = l.length := by omega
      have HP : Hid (R = l.length) := by show R = l.length; simpa [skp] using hk.symm
      clear HX HB HH HM HE hk
      go_wp2_with fail
      go_ret
      refine ⟨by rw [HP.out]; rfl, ?_⟩
      trivial
end Go.Proofs.YtdnjcajbmibjiaaDoor
