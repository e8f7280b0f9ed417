/-
  The document's own reading of a number of groups.
-/
import Derived.Test.YtkgmjhchefkmaaaNmb
namespace Go.Proofs.Ytkgmjhchefkmaaa
open Go.RowKit

theorem low7 (x : Nat) (h : x < 256) : bits .and .u8 (x : Int) 127 = ((x % 128 : Nat) : Int) := by
  refine (u8_and_nat x 127 h (by omega)).trans ?_
  rw [show x &&& 127 = x % 128 from Nat.and_two_pow_sub_one_eq_mod x 7]

/-- What look tells: the number, the place behind it, the error. -/
def lk (R : Nat × Nat × Nat) (p : Nat) : Nat × Nat × Nat := if R.2.2 = 0 then (R.1, p + R.2.1, 0) else (0, 0, R.2.2)

set_option maxHeartbeats 2000000 in
set_option maxRecDepth 20000 in
theorem look_any (w : World) (S : ByteArray) (p : Nat) (hS : S.size ≤ 1099511627776) (hp : p ≤ S.size) :
    Calls Try.prog 50 #[.string S, .int .i64 (p : Int)] w fun ev w' => ev = .returned (.tuple #[.int .u64 ((lk (scan 0 0 (S.data.toList.drop p)) p).1 : Int), .int .i64 ((lk (scan 0 0 (S.data.toList.drop p)) p).2.1 : Int), .int .i64 ((lk (scan 0 0 (S.data.toList.drop p)) p).2.2 : Int)]) ∧ w' = w := by
  obtain ⟨R, hR⟩ : ∃ R, R = scan 0 0 (S.data.toList.drop p) := ⟨_, rfl⟩
  rw [← hR]
  obtain ⟨Q, hQ⟩ : ∃ Q, Q = lk R p := ⟨_, rfl⟩
  rw [← hQ]
  have HQ : Hid (Q = lk R p) := hQ
  clear hQ
  go_enter Try.func50, Try.ntmps50
  go_wp2_with fail
  go_loop [7, 8] (fun x i => ∃ (k acc : Nat), p + k ≤ S.size ∧ k ≤ 9 ∧ i = .int .i64 k ∧ x = .int .u64 acc ∧ acc < 2 ^ (7 * k) ∧ R = scan k acc (S.data.toList.drop (p + k))) (fun _ i => S.size - (intOf i).toNat)
  case atStart => exact ⟨0, 0, by omega, by omega, rfl, rfl, by decide, hR⟩
  case round =>
    obtain ⟨k, acc, hk, hk9, rfl, rfl, hacc, hd⟩ := hrel
    have HD : Hid (R = scan k acc (S.data.toList.drop (p + k))) := hd
    have HA : Hid (acc < 2 ^ (7 * k)) := hacc
    clear hd hacc hR
    have hsz : S.data.toList.length = S.size := by simp
    by_cases hlt : p + k < S.size
    · have HC : Hid (scan k acc (S.data.toList.drop (p + k)) = _) := scan_cons k acc S.data.toList (p + k) (by omega)
      have hx : S.data.toList.getD (p + k) 0 = S[p + k] := by
        rw [List.getD, List.getElem?_eq_getElem (by omega)]; rfl
      rw [hx] at HC
      clear hx hsz
      have hu := (S[p + k]).toNat_lt
      have h7 := low7 (S[p + k]).toNat hu
      obtain ⟨x, hx⟩ : ∃ x, x = (S[p + k]).toNat := ⟨_, rfl⟩
      have hx' := hx.symm
      rw [← hx] at HC h7 hu
      clear hx
      by_cases c1 : k = 9 ∧ 1 < x
      · obtain ⟨rfl, hx1⟩ := c1
        have HR : Hid (Q = (0, 0, 4)) := by show _ = _; rw [HQ.out, HD.out, HC.out, if_pos ⟨rfl, hx1⟩]; rfl
        clear HD HC HQ HA h7
        go_wp2_with fail
        go_ret3
        exact ⟨by rw [HR.out]; rfl, rfl⟩
      · rw [if_neg c1] at HC
        by_cases c2 : 0 < k ∧ x = 0
        · rw [if_pos c2] at HC
          have HR : Hid (Q = (0, 0, 4)) := by show _ = _; rw [HQ.out, HD.out, HC.out]; rfl
          obtain ⟨hk0, rfl⟩ := c2
          clear HD HC c1 HQ HA
          by_cases e9 : k = 9
          · subst e9
            go_wp2_with fail
            go_ret3
            exact ⟨by rw [HR.out]; rfl, rfl⟩
          · go_wp2_with fail
            go_ret3
            exact ⟨by rw [HR.out]; rfl, rfl⟩
        · rw [if_neg c2] at HC
          by_cases c3 : x < 128
          · rw [if_pos c3] at HC
            have G := or_group acc x k HA.out hk9 c3 (by omega)
            have HR : Hid (Q = (acc + x * 2 ^ (7 * k), p + (k + 1), 0)) := by show _ = _; rw [HQ.out, HD.out, HC.out]; rfl
            have HG : Hid (bits .or .u64 (acc : Int) (IntKind.u64.wrap ((x : Int) * 2 ^ (7 * k))) = ((acc + x * 2 ^ (7 * k) : Nat) : Int)) := G.1
            rw [Nat.mod_eq_of_lt c3] at h7
            clear HD HC HA G HQ
            by_cases e9 : 9 ≤ k
            · have hx1 : x ≤ 1 := by omega
              have hx0 : 0 < x := by omega
              clear c1 c2
              obtain rfl : k = 9 := by omega
              have hw : IntKind.u64.wrap ((x : Int) * 2 ^ (7 * 9)) = (x : Int) * 9223372036854775808 := by rw [IntKind.wrap_u64]; omega
              rw [hw] at HG
              clear hw
              go_wp2_with fail
              go_ret3
              exact ⟨by rw [HR.out]; exact ret3 HG.out (by show _ = ((p + (_ + 1) : Nat) : Int); omega), rfl⟩
            · by_cases e0 : k ≤ 0
              · clear c1 c2
                by_cases ex : x = 0
                · subst ex
                  have HG0 : Hid (bits .or .u64 (acc : Int) (IntKind.u64.wrap 0) = ((acc + 0 * 2 ^ (7 * k) : Nat) : Int)) := by show _ = _; simpa using HG.out
                  have h70 : bits .and .u8 0 127 = 0 := h7
                  clear HG h7
                  go_wp2_with fail
                  go_ret3
                  exact ⟨by rw [HR.out]; exact ret3 HG0.out (by show _ = ((p + (_ + 1) : Nat) : Int); omega), rfl⟩
                · go_wp2_with fail
                  go_ret3
                  exact ⟨by rw [HR.out]; exact ret3 HG.out (by show _ = ((p + (_ + 1) : Nat) : Int); omega), rfl⟩
              · have hx0 : 0 < x := by omega
                clear c1 c2
                go_wp2_with fail
                go_ret3
                exact ⟨by rw [HR.out]; exact ret3 HG.out (by show _ = ((p + (_ + 1) : Nat) : Int); omega), rfl⟩
          · rw [if_neg c3] at HC
            have hx9 : k < 9 := by omega
            have G := or_group acc (x - 128) k HA.out hk9 (by omega) (by omega)
            have HR : Hid (R = scan (k + 1) (acc + (x - 128) * 2 ^ (7 * k)) (S.data.toList.drop (p + (k + 1)))) := by show _ = _; rw [HD.out, HC.out]; rfl
            rw [show x % 128 = x - 128 by omega] at h7
            clear HD HC HA c1 c2
            have GG : Aside _ := G
            clear G
            have e128 : ((x - 128 : Nat) : Int) = (x : Int) - 128 := by omega
            rw [e128] at GG h7
            clear e128
            by_cases e0 : k ≤ 0
            · go_wp2_with fail
              go_round
              case rel => exact ⟨k + 1, _, by omega, by omega, by go_num, by rw [GG.out.1], GG.out.2.2 hx9, HR.out⟩
              case measure => simp [intOf]; omega
            · go_wp2_with fail
              go_round
              case rel => exact ⟨k + 1, _, by omega, by omega, by go_num, by rw [GG.out.1], GG.out.2.2 hx9, HR.out⟩
              case measure => simp [intOf]; omega
    · have HR : Hid (Q = (0, 0, 3)) := by show _ = _; rw [HQ.out, HD.out, List.drop_eq_nil_of_le (by omega)]; rfl
      clear HD HA hsz HQ
      go_wp2_with fail
      go_ret3
      exact ⟨by rw [HR.out]; rfl, rfl⟩
end Go.Proofs.Ytkgmjhchefkmaaa
