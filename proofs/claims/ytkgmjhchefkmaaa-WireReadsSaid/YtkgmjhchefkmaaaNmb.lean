/-
  The program's number: how it goes through the groups of seven bits; and what is above a bound.
-/
import Derived.Test.YtkgmjhchefkmaaaRdr
namespace Go.Proofs.Ytkgmjhchefkmaaa
open Go.RowKit

/-- A group is laid above what was gathered. -/
theorem or_group (acc x i : Nat) (ha : acc < 2 ^ (7 * i)) (hi : i ≤ 9) (hx : x < 128) (h9 : i = 9 → x ≤ 1) :
    bits .or .u64 (acc : Int) (IntKind.u64.wrap ((x : Int) * 2 ^ (7 * i))) = ((acc + x * 2 ^ (7 * i) : Nat) : Int) ∧ acc + x * 2 ^ (7 * i) < 18446744073709551616 ∧ (i < 9 → acc + x * 2 ^ (7 * i) < 2 ^ (7 * (i + 1))) := by
  have hb : x * 2 ^ (7 * i) < 18446744073709551616 := by
    by_cases e : i = 9
    · subst e
      have h1 := h9 rfl
      have : x * 2 ^ (7 * 9) ≤ 1 * 2 ^ (7 * 9) := Nat.mul_le_mul_right _ h1
      omega
    · have : 2 ^ (7 * i) ≤ 2 ^ 56 := Nat.pow_le_pow_right (by omega) (by omega)
      have : x * 2 ^ (7 * i) ≤ 127 * 2 ^ 56 := Nat.mul_le_mul (by omega) this
      omega
  have hA : acc < 18446744073709551616 := by
    have : 2 ^ (7 * i) ≤ 2 ^ 63 := Nat.pow_le_pow_right (by omega) (by omega)
    omega
  have hw : IntKind.u64.wrap ((x : Int) * 2 ^ (7 * i)) = ((x * 2 ^ (7 * i) : Nat) : Int) := by
    rw [IntKind.wrap_u64]
    have : ((x * 2 ^ (7 * i) : Nat) : Int) = (x : Int) * 2 ^ (7 * i) := by simp
    rw [← this]; omega
  have hor : acc ||| (x * 2 ^ (7 * i)) = acc + x * 2 ^ (7 * i) := by
    rw [Nat.or_comm, Nat.mul_comm, Nat.add_comm]
    exact (Nat.two_pow_add_eq_or_of_lt ha x).symm
  have hlt : acc + x * 2 ^ (7 * i) < 18446744073709551616 := by
    rw [← hor]
    exact Nat.or_lt_two_pow (n := 64) hA hb
  refine ⟨?_, hlt, fun h => ?_⟩
  · rw [hw, bits_or_u64_nat acc _ hA hb, hor]
  · rw [pow_step]
    have : x * 2 ^ (7 * i) ≤ 127 * 2 ^ (7 * i) := Nat.mul_le_mul_right _ (by omega)
    omega

theorem scan_cons (i acc : Nat) (l : List UInt8) (k : Nat) (h : k < l.length) : scan i acc (l.drop k) = 
    if i = 9 ∧ 1 < (l.getD k 0).toNat then (0, 0, 4) else if 0 < i ∧ (l.getD k 0).toNat = 0 then (0, 0, 4) else
      if (l.getD k 0).toNat < 128 then (acc + (l.getD k 0).toNat * 2 ^ (7 * i), i + 1, 0) else scan (i + 1) (acc + ((l.getD k 0).toNat - 128) * 2 ^ (7 * i)) (l.drop (k + 1)) := by
  rw [List.drop_eq_getElem_cons h]
  simp [scan, List.getD, List.getElem?_eq_getElem h]

theorem ret3 {a b c d e : Int} (h : a = b) (h' : c = d) : Ending.returned (.tuple #[.int .u64 a, .int .i64 c, .int .i64 e]) = .returned (.tuple #[.int .u64 b, .int .i64 d, .int .i64 e]) := by rw [h, h']

set_option maxHeartbeats 2000000 in
set_option maxRecDepth 20000 in
theorem number_some (w : World) (b o cap : Nat) (l : List UInt8) (hl : l.length ≤ 1099511627776) (hc : ∀ i, i < l.length → w.cell? ⟨b, o + i, none⟩ = some (.int .u8 ((l.getD i 0).toNat : Int))) :
    Calls Try.prog 47 #[.slice (some ⟨b, o, none⟩) l.length cap] w fun ev w' => ev = .returned (.tuple #[.int .u64 ((scan 0 0 l).1 : Int), .int .i64 ((scan 0 0 l).2.1 : Int), .int .i64 ((scan 0 0 l).2.2 : Int)]) ∧ w' = w := by
  go_enter Try.func47, Try.ntmps47
  go_wp2_with fail
  go_loop [2, 9] (fun x i => ∃ (k acc : Nat), k ≤ l.length ∧ k ≤ 9 ∧ i = .int .i64 k ∧ x = .int .u64 acc ∧ acc < 2 ^ (7 * k) ∧ scan 0 0 l = scan k acc (l.drop k)) (fun _ i => l.length - (intOf i).toNat)
  case atStart => exact ⟨0, 0, by omega, by omega, rfl, rfl, by decide, rfl⟩
  case round =>
    obtain ⟨k, acc, hk, hk9, rfl, rfl, hacc, hd⟩ := hrel
    have HD : Hid (scan 0 0 l = scan k acc (l.drop k)) := hd
    have HA : Hid (acc < 2 ^ (7 * k)) := hacc
    clear hd hacc
    by_cases hlt : k < l.length
    · have q1 := hc k hlt
      have hu := (l.getD k 0).toNat_lt
      have HC : Hid (scan k acc (l.drop k) = _) := scan_cons k acc l k hlt
      clear hc
      generalize (l.getD k 0).toNat = x at q1 hu HC
      by_cases c1 : k = 9 ∧ 1 < x
      · obtain ⟨rfl, hx⟩ := c1
        have HR : Hid (scan 0 0 l = (0, 0, 4)) := by show _ = _; rw [HD.out, HC.out, if_pos ⟨rfl, hx⟩]
        clear HD HC
        go_wp2_with fail
        go_ret3
        exact ⟨by rw [HR.out]; rfl, rfl⟩
      · rw [if_neg c1] at HC
        by_cases c2 : 0 < k ∧ x = 0
        · rw [if_pos c2] at HC
          have HR : Hid (scan 0 0 l = (0, 0, 4)) := by show _ = _; rw [HD.out, HC.out]
          obtain ⟨hk0, rfl⟩ := c2
          clear HD HC c1
          by_cases e9 : k = 9
          · subst e9
            go_wp2_with fail
            go_ret3
            exact ⟨by rw [HR.out]; rfl, rfl⟩
          · go_wp2_with fail
            go_ret3
            exact ⟨by rw [HR.out]; rfl, rfl⟩
        · rw [if_neg c2] at HC
          by_cases c3 : x < 128
          · rw [if_pos c3] at HC
            have G := or_group acc x k HA.out hk9 c3 (by omega)
            have HR : Hid (scan 0 0 l = (acc + x * 2 ^ (7 * k), k + 1, 0)) := by show _ = _; rw [HD.out, HC.out]
            have HG : Hid (bits .or .u64 (acc : Int) (IntKind.u64.wrap ((x : Int) * 2 ^ (7 * k))) = ((acc + x * 2 ^ (7 * k) : Nat) : Int)) := G.1
            clear HD HC HA G
            by_cases e9 : 9 ≤ k
            · have hx1 : x ≤ 1 := by omega
              have hx0 : 0 < x := by omega
              clear c1 c2
              obtain rfl : k = 9 := by omega
              have hw : IntKind.u64.wrap ((x : Int) * 2 ^ (7 * 9)) = (x : Int) * 9223372036854775808 := by rw [IntKind.wrap_u64]; omega
              rw [hw] at HG
              clear hw
              go_wp2_with fail
              go_ret3
              exact ⟨by rw [HR.out]; exact ret3 HG.out rfl, rfl⟩
            · by_cases e0 : k ≤ 0
              · clear c1 c2
                go_wp2_with fail
                go_ret3
                exact ⟨by rw [HR.out]; exact ret3 HG.out (by simp), rfl⟩
              · have hx0 : 0 < x := by omega
                clear c1 c2
                go_wp2_with fail
                go_ret3
                exact ⟨by rw [HR.out]; exact ret3 HG.out (by simp), rfl⟩
          · rw [if_neg c3] at HC
            have hx9 : k < 9 := by omega
            have G := or_group acc (x - 128) k HA.out hk9 (by omega) (by omega)
            have HR : Hid (scan 0 0 l = scan (k + 1) (acc + (x - 128) * 2 ^ (7 * k)) (l.drop (k + 1))) := by show _ = _; rw [HD.out, HC.out]
            clear HD HC HA c1 c2
            have GG : Aside _ := G
            clear G
            have e128 : ((x - 128 : Nat) : Int) = (x : Int) - 128 := by omega
            rw [e128] at GG
            clear e128
            by_cases e0 : k ≤ 0
            · go_wp2_with fail
              go_round
              case rel => exact ⟨k + 1, _, by omega, by omega, by go_num, by rw [GG.out.1], GG.out.2.2 hx9, HR.out⟩
              case measure => simp [intOf]; omega
            · go_wp2_with fail
              go_round
              case rel => exact ⟨k + 1, _, by omega, by omega, by go_num, by rw [GG.out.1], GG.out.2.2 hx9, HR.out⟩
              case measure => simp [intOf]; omega
    · have HR : Hid (scan 0 0 l = (0, 0, 3)) := by show _ = _; rw [HD.out, List.drop_eq_nil_of_le (by omega)]; rfl
      clear hc HD HA
      go_wp2_with fail
      go_ret3
      exact ⟨by rw [HR.out]; rfl, rfl⟩

theorem number_none (w : World) (cap : Nat) :
    Calls Try.prog 47 #[.slice none 0 cap] w fun ev w' => ev = .returned (.tuple #[.int .u64 0, .int .i64 0, .int .i64 3]) ∧ w' = w := by
  go_enter Try.func47, Try.ntmps47
  go_wp2_with fail
  refine wp_loop_rounds 1 ?_
  rw [rounds_succ]
  go_wp2_with fail
  go_ret3
  exact ⟨rfl, rfl⟩

theorem number_any (w : World) (v : Value) (l : List UInt8) (h : Sl w v l) (hl : l.length ≤ 1099511627776) :
    Calls Try.prog 47 #[v] w fun ev w' => ev = .returned (.tuple #[.int .u64 ((scan 0 0 l).1 : Int), .int .i64 ((scan 0 0 l).2.1 : Int), .int .i64 ((scan 0 0 l).2.2 : Int)]) ∧ w' = w := by
  rcases h.shape with ⟨cap, rfl, rfl⟩ | ⟨b, o, cap, rfl, hc⟩
  · exact number_none w cap
  · exact number_some w b o cap l hl hc

/-- What is above a bound. -/
def over (v : Nat) (most : Int) : Bool := decide (most < 0 ∨ most < (v : Int))
theorem above_any (w : World) (v : Nat) (most : Int) (h1 : -9223372036854775808 ≤ most) (h2 : most ≤ 9223372036854775807) :
    Calls Try.prog 48 #[.int .u64 (v : Int), .int .i64 most] w fun ev w' => ev = .returned (.bool (over v most)) ∧ w' = w := by
  by_cases h : most < 0
  · have HO : Hid (over v most = true) := by show _ = _; simp [over, h]
    go_enter Try.func48, Try.ntmps48
    go_wp2_with fail
    go_ret
    exact ⟨by rw [HO.out]; rfl, rfl⟩
  · have HO : Hid (over v most = decide (most < (v : Int))) := by show _ = _; simp [over, h]
    have hd : decide (most < 0) = false := by simpa using h
    go_enter Try.func48, Try.ntmps48
    go_wp2_with fail
    go_ret
    exact ⟨by rw [HO.out]; rfl, rfl⟩
end Go.Proofs.Ytkgmjhchefkmaaa
