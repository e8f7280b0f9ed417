/-
  Signs: the document's.
-/
import Derived.Test.YtdnjcajbmibjiaaDoorXwd
namespace Go.Proofs.YtdnjcajbmibjiaaDoor
open Go.RowKit

theorem two_row (w : World) : Row (w.alloc (.cells #[.string ⟨#[58, 58]⟩, .string ⟨#[45, 62]⟩, .string ⟨#[61, 61]⟩] 9)) w.heap.size 9 (signs2.map fun x => .string (str x)) := Row.new w 9 _
theorem two_at (k : Nat) (h : k < 3) : (signs2.map fun x => Value.string (str x))[k]? = some (.string (str (signs2.getD k []))) := by
  have : k < signs2.length := h
  simp [List.getD, List.getElem?_eq_getElem this]
theorem two_len (k : Nat) (h : k < 3) : (signs2.getD k []).length = 2 := by
  have : k = 0 ∨ k = 1 ∨ k = 2 := by omega
  rcases this with rfl | rfl | rfl <;> rfl
def oneS : ByteArray := ⟨#[40, 41, 123, 125, 60, 62, 44, 59, 58, 46, 42, 38, 43, 45, 61, 33]⟩
theorem oneS_size : oneS.size = 16 := rfl
theorem oneS_at (k : Nat) (h : k < oneS.size) : (oneS[k]'h).toNat = (signs1.getD k 0).toNat := by
  have : oneS = str signs1 := rfl
  have h' : k < (str signs1).size := h
  exact congrArg UInt8.toNat (str_at signs1 k h')

theorem oneS_run (k : Nat) (h : k < 16) (y : World) : (Instr.index 9 (.string oneS) (.int .i64 (k : Int))).run Tryd.prog y = .ok (.int .u8 ((signs1.getD k 0).toNat : Int)) y := by
  rw [run_index_string y 9 oneS .i64 k Tryd.underlying9]
  have hk : k < oneS.size := h
  have h0 : (0 : Int) ≤ (k : Int) ∧ (k : Int) < (oneS.size : Int) := ⟨by omega, by omega⟩
  rw [dif_pos h0]
  have e := oneS_at k hk
  rw [← e]
  rfl
set_option maxHeartbeats 4000000 in
set_option maxRecDepth 20000 in
theorem xsign_any (l : List UInt8) (p : Nat) (hp : p < l.length) (hl : l.length ≤ 9223372036854775807) (w : World) : Calls Tryd.prog 30 #[.string (str l), .int .i64 (p : Int)] w fun ev w' => ev = .returned (.int .i64 (signF (l.drop p) : Int)) ∧ Below w.heap.size w w' := by
  have hM : (str l).extract p (p + 2) = str ((l.drop p).take 2) := by rw [str_mid]; congr 3; omega
  have HF : Hid (l.drop p = l.getD p 0 :: l.drop (p + 1)) := drop_cons l p hp
  obtain ⟨R, hR⟩ : ∃ R, signF (l.drop p) = R := ⟨_, rfl⟩
  have HR : Hid (signF (l.drop p) = R) := hR
  rw [hR]
  clear hR
  obtain ⟨W, hW⟩ : ∃ W, W = w.alloc (.cells #[.string ⟨#[58, 58]⟩, .string ⟨#[45, 62]⟩, .string ⟨#[61, 61]⟩] 9) := ⟨_, rfl⟩
  have HC : Hid (∀ k, k < 3 → ∀ m, (W.drewN m).cell? ⟨w.heap.size, k, none⟩ = some (.string (str (signs2.getD k [])))) := by
    intro k hk m
    rw [hW]
    exact ((two_row w).cell k).trans (two_at k hk)
  have HB : Hid (Below w.heap.size w W) := by
    rw [hW]
    exact (Below.refl _ _).alloc (Nat.le_refl _) _
  have HQ : Hid (∀ k, k < 3 → ((str ((l.drop p).take 2)).toList == (str (signs2.getD k [])).toList) = decide ((l.drop p).take 2 = signs2.getD k [])) := fun k _ => str_beq _ _
  have HL : Hid (((l.drop p).take 2).length = min 2 (l.length - p)) := by show _ = _; rw [List.length_take, List.length_drop]
  have AW : Aside (W = w.alloc (.cells #[.string ⟨#[58, 58]⟩, .string ⟨#[45, 62]⟩, .string ⟨#[61, 61]⟩] 9)) := hW
  clear hW
  obtain ⟨S, hS⟩ : ∃ S, S = str l := ⟨_, rfl⟩
  have hSs : S.size = l.length := by rw [hS, str_size]
  obtain ⟨hpS, hx⟩ : ∃ h : p < S.size, (S[p]'h).toNat = (l.getD p 0).toNat := by
    subst hS
    exact ⟨by rw [str_size]; exact hp, by rw [str_at]⟩
  rw [← hS] at hM ⊢
  clear hS
  obtain ⟨g, hg⟩ : ∃ g, g = w.heap.size := ⟨_, rfl⟩
  rw [← hg] at HC
  have AG : Aside (g = w.heap.size) := hg
  clear hg
  go_enter Tryd.func30, Tryd.ntmps30
  go_wp2_with fail
  refine wp_at_world AW.out ?_
  rw [← AG.out]
  go_loopw [6] (fun i wr => ∃ k : Nat, ∃ m : Nat, k ≤ 3 ∧ i = .int .i64 k ∧ (∀ j, j < k → (l.drop p).take 2 ≠ signs2.getD j []) ∧ wr = W.drewN m) (fun i _ => 3 - (intOf i).toNat)
  case atStart => exact ⟨0, 0, by omega, rfl, fun j h => by omega, rfl⟩
  case round =>
    obtain ⟨k, m, hk, rfl, hj, rfl⟩ := hrel
    have HJ : Hid (∀ j, j < k → (l.drop p).take 2 ≠ signs2.getD j []) := hj
    clear hj
    by_cases h3 : k < 3
    · have q := HC.out k h3
      have hb := HQ.out k h3
      have l1 : (k : Int) < 3 := by omega
      by_cases he : (l.drop p).take 2 = signs2.getD k []
      · have HP : Hid (R = 2) := by
          show R = 2
          rw [← HR.out]
          refine signF_two ?_
          rw [he]
          have : k = 0 ∨ k = 1 ∨ k = 2 := by omega
          rcases this with rfl | rfl | rfl <;> rfl
        have h4 : 2 ≤ l.length - p := by
          have h5 := HL.out
          rw [he, two_len k h3] at h5
          omega
        have i4 : (2 : Int) ≤ (l.length : Int) - (p : Int) := by omega
        rw [decide_eq_true he] at hb
        clear he HC HQ
        generalize str (signs2.getD k []) = S1 at *
        generalize str ((l.drop p).take 2) = S2 at *
        generalize (l.getD p 0).toNat = x at *
        go_wp2_with fail
        go_quiet (fail)
        go_wp2_with fail
        go_ret
        exact ⟨by rw [HP.out]; rfl, below_drewN (below_drewN HB.out _) _⟩
      · have HP : Hid (∀ j, j < k + 1 → (l.drop p).take 2 ≠ signs2.getD j []) := by
          intro j hj
          rcases Nat.lt_or_ge j k with h | h
          · exact HJ.out j h
          · obtain rfl : j = k := by omega
            exact he
        rw [decide_eq_false he] at hb
        clear he HC HQ
        generalize str (signs2.getD k []) = S1 at *
        generalize str ((l.drop p).take 2) = S2 at *
        generalize (l.getD p 0).toNat = x at *
        by_cases h4 : 2 ≤ l.length - p
        · have i4 : (2 : Int) ≤ (l.length : Int) - (p : Int) := by omega
          go_wp2_with fail
          go_quiet (fail)
          go_wp2_with fail
          go_roundw
          case rel => exact ⟨k + 1, _, by omega, by go_num, HP.out, rfl⟩
          case measure => simp [intOf]; omega
        · have i4 : ¬ (2 : Int) ≤ (l.length : Int) - (p : Int) := by omega
          have d4 : decide ((2 : Int) ≤ (l.length : Int) - (p : Int)) = false := decide_eq_false i4
          go_wp2_with fail
          go_quiet (fail)
          go_wp2_with fail
          go_roundw
          case rel => exact ⟨k + 1, _, by omega, by go_num, HP.out, rfl⟩
          case measure => simp [intOf]; omega
    · obtain rfl : k = 3 := by omega
      have HP : Hid (signs2.contains ((l.drop p).take 2) = false) := by
        show _ = false
        cases hh : signs2.contains ((l.drop p).take 2)
        · rfl
        · exfalso
          simp only [List.contains_eq_mem, decide_eq_true_eq] at hh
          obtain ⟨j, hj, e⟩ := List.getElem_of_mem hh
          exact HJ.out j hj (by rw [List.getD, List.getElem?_eq_getElem hj]; exact e.symm)
      have HXs : Hid (∀ k : Nat, k < 16 → ∀ y, (Instr.index 9 (.string oneS) (.int .i64 (k : Int))).run Tryd.prog y = .ok (.int .u8 ((signs1.getD k 0).toNat : Int)) y) := oneS_run
      unfold oneS at HXs
      clear HJ HQ HC HL hM AW AG
      go_wp2_with fail
      go_loopw [8] (fun i wr => ∃ k : Nat, ∃ m : Nat, k ≤ 16 ∧ i = .int .i64 k ∧ (∀ j, j < k → signs1.getD j 0 ≠ l.getD p 0) ∧ wr = W.drewN m) (fun i _ => 16 - (intOf i).toNat)
      case atStart => exact ⟨0, _, by omega, rfl, fun j h => by omega, rfl⟩
      case round =>
        obtain ⟨k, m, hk, rfl, hj, rfl⟩ := hrel
        have HJ : Hid (∀ j, j < k → signs1.getD j 0 ≠ l.getD p 0) := hj
        clear hj
        by_cases h3 : k < 16
        · have q := HXs.out k h3
          have l1 : (k : Int) < 16 := by omega
          by_cases he : signs1.getD k 0 = l.getD p 0
          · have HP2 : Hid (R = 1) := by
              show R = 1
              rw [← HR.out]
              have hf := HF.out
              have hp' := HP.out
              rw [hf] at hp' ⊢
              refine signF_one hp' ?_
              rw [← he]
              have h16 : k < signs1.length := h3
              simp only [List.contains_eq_mem, decide_eq_true_eq]
              rw [List.getD, List.getElem?_eq_getElem h16]
              exact List.getElem_mem h16
            rw [he] at q
            clear he HXs
            generalize (l.getD p 0).toNat = x at *
            go_wp2_with fail
            go_quiet (fail)
            go_wp2_with fail
            go_ret
            exact ⟨by rw [HP2.out]; rfl, below_drewN (below_drewN HB.out _) _⟩
          · have HP2 : Hid (∀ j, j < k + 1 → signs1.getD j 0 ≠ l.getD p 0) := by
              intro j hj
              rcases Nat.lt_or_ge j k with h | h
              · exact HJ.out j h
              · obtain rfl : j = k := by omega
                exact he
            have n1 : ((signs1.getD k 0).toNat : Int) ≠ ((l.getD p 0).toNat : Int) := fun e => he (UInt8.toNat_inj.1 (by omega))
            have m1 : (((signs1.getD k 0).toNat : Int) == ((l.getD p 0).toNat : Int)) = false := by rw [beq_eq_false_iff_ne]; exact n1
            clear he HXs
            generalize (signs1.getD k 0).toNat = z at *
            generalize (l.getD p 0).toNat = x at *
            go_wp2_with fail
            go_quiet (fail)
            go_wp2_with fail
            go_roundw
            case rel => exact ⟨k + 1, _, by omega, by go_num, HP2.out, rfl⟩
            case measure => simp [intOf]; omega
        · obtain rfl : k = 16 := by omega
          have HP2 : Hid (R = 0) := by
            show R = 0
            rw [← HR.out, HF.out]
            refine signF_no ?_
            cases hh : signs1.contains (l.getD p 0)
            · rfl
            · exfalso
              simp only [List.contains_eq_mem, decide_eq_true_eq] at hh
              obtain ⟨j, hj, e⟩ := List.getElem_of_mem hh
              exact HJ.out j hj (by rw [List.getD, List.getElem?_eq_getElem hj]; exact e)
          clear HXs HJ
          go_wp2_with fail
          go_ret
          exact ⟨by rw [HP2.out]; rfl, below_drewN HB.out _⟩
end Go.Proofs.YtdnjcajbmibjiaaDoor
