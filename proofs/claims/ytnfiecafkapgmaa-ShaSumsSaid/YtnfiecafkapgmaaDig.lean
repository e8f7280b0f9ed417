/-
  Plain mathematics of the digits: there and back, and their order.
-/
import Derived.Test.YtnfiecafkapgmaaPrs
import Derived.Test.YtnfiecafkapgmaaLes
namespace Go.Proofs.Ytnfiecafkapgmaa
open Go.RowKit

theorem dig_nat (n : Nat) (h : n < 16) : (dig n).toNat = if n < 10 then 48 + n else 87 + n := by
  unfold dig; split <;> simp <;> omega
theorem isDig_dig (n : Nat) (h : n < 16) : isDig (dig n) = true := by
  unfold isDig
  rw [dig_nat n h]
  split <;> simp <;> omega
theorem dv_dig (n : Nat) (h : n < 16) : dv (dig n) = n := by
  unfold dv
  rw [dig_nat n h]
  split <;> split <;> (try split) <;> omega
theorem dig_dv (c : UInt8) (h : isDig c = true) : dig (dv c) = c := by
  have e : (dig (dv c)).toNat = c.toNat := by
    rw [dig_nat _ (dv_lt c)]
    unfold isDig at h
    simp at h
    unfold dv
    split <;> split <;> (try split at *) <;> omega
  exact UInt8.toNat_inj.1 e
theorem orB_zero (v : Nat) : orB 0 v = UInt8.ofNat v := by unfold orB; simp
theorem orB_two (u v : Nat) (hu : u < 16) (hv : v < 16) : orB (UInt8.ofNat u) v = UInt8.ofNat (u * 16 + v) := by
  unfold orB
  have e : (UInt8.ofNat u).toNat = u := by simp; omega
  rw [e]
  congr 1
  have : u * 16 % 256 = u * 16 := by omega
  rw [this]
  have := Nat.two_pow_add_eq_or_of_lt (i := 4) (show v < 2 ^ 4 by omega) u
  rw [show u * 16 = 2 ^ 4 * u by omega, ← this]
/-- The bytes that the first digits make. -/
def pairs (l : List UInt8) : Nat → List UInt8
  | 0 => []
  | j + 1 => pairs l j ++ [UInt8.ofNat (dv (l.getD (2 * j) 0) * 16 + dv (l.getD (2 * j + 1) 0))]
theorem pairs_len (l : List UInt8) (j : Nat) : (pairs l j).length = j := by
  induction j with
  | zero => rfl
  | succ n ih => simp [pairs, ih]
theorem nib_pairs (l : List UInt8) (j : Nat) (h : j ≤ 32) : nib l (2 * j) = pairs l j ++ List.replicate (32 - j) 0 := by
  induction j with
  | zero => rfl
  | succ n ih =>
    have ih := ih (by omega)
    have hp := pairs_len l n
    obtain ⟨m, hm⟩ : ∃ m, 32 - n = m + 1 := ⟨31 - n, by omega⟩
    have h1 : nib l (2 * n + 1) = pairs l n ++ (UInt8.ofNat (dv (l.getD (2 * n) 0)) :: List.replicate m 0) := by
      have e : nib l (2 * n + 1) = (nib l (2 * n)).set (2 * n / 2) (orB ((nib l (2 * n)).getD (2 * n / 2) 0) (dv (l.getD (2 * n) 0))) := rfl
      rw [e, show 2 * n / 2 = n by omega, ih, hm, List.replicate_succ]
      have g : (pairs l n ++ (0 : UInt8) :: List.replicate m 0).getD n 0 = 0 := by
        simp [List.getD, hp]
      rw [g, orB_zero, List.set_append_right _ _ (by omega), hp, Nat.sub_self, List.set_cons_zero]
    have e2 : nib l (2 * (n + 1)) = (nib l (2 * n + 1)).set ((2 * n + 1) / 2) (orB ((nib l (2 * n + 1)).getD ((2 * n + 1) / 2) 0) (dv (l.getD (2 * n + 1) 0))) := rfl
    rw [e2, show (2 * n + 1) / 2 = n by omega, h1]
    have g : (pairs l n ++ UInt8.ofNat (dv (l.getD (2 * n) 0)) :: List.replicate m 0).getD n 0 = UInt8.ofNat (dv (l.getD (2 * n) 0)) := by
      simp [List.getD, hp]
    rw [g, orB_two _ _ (dv_lt _) (dv_lt _), List.set_append_right _ _ (by omega), hp, Nat.sub_self, List.set_cons_zero, pairs, List.append_assoc, List.singleton_append]
    congr 3
    omega
theorem hexF_even : ∀ (h : List UInt8) (i : Nat), i < h.length → (hexF h).getD (2 * i) 0 = dig ((h.getD i 0).toNat / 16) ∧ (hexF h).getD (2 * i + 1) 0 = dig ((h.getD i 0).toNat % 16)
  | [], i, hi => by simp at hi
  | x :: t, 0, _ => ⟨rfl, rfl⟩
  | x :: t, i + 1, hi => by
    have := hexF_even t i (by simpa using hi)
    have e : hexF (x :: t) = dig (x.toNat / 16) :: dig (x.toNat % 16) :: hexF t := rfl
    rw [e, show 2 * (i + 1) = 2 * i + 1 + 1 by omega]
    exact this
theorem ext_getD {a b : List UInt8} (h : a.length = b.length) (g : ∀ i, i < a.length → a.getD i 0 = b.getD i 0) : a = b := by
  refine List.ext_getElem h fun i h1 h2 => ?_
  have := g i h1
  simpa [List.getD, List.getElem?_eq_getElem h1, List.getElem?_eq_getElem h2] using this
theorem pairs_get (l : List UInt8) (j i : Nat) (h : i < j) : (pairs l j).getD i 0 = UInt8.ofNat (dv (l.getD (2 * i) 0) * 16 + dv (l.getD (2 * i + 1) 0)) := by
  induction j with
  | zero => omega
  | succ n ih =>
    have hp := pairs_len l n
    rcases Nat.lt_or_ge i n with hi | hi
    · rw [← ih hi]
      simp [pairs, List.getD, List.getElem?_append_left (show i < (pairs l n).length by omega)]
    · obtain rfl : i = n := by omega
      simp [pairs, List.getD, hp]
theorem nib_hex (a : List UInt8) (h : a.length = 32) : nib (hexF a) 64 = a := by
  have := nib_pairs (hexF a) 32 (by omega)
  rw [show 2 * 32 = 64 from rfl] at this
  rw [this]
  simp only [Nat.sub_self, List.replicate_zero, List.append_nil]
  refine ext_getD (by rw [pairs_len, h]) fun i hi => ?_
  rw [pairs_len] at hi
  rw [pairs_get _ _ _ hi, (hexF_even a i (by omega)).1, (hexF_even a i (by omega)).2, dv_dig _ (by have := (a.getD i 0).toNat_lt; omega), dv_dig _ (by omega)]
  have : (a.getD i 0).toNat / 16 * 16 + (a.getD i 0).toNat % 16 = (a.getD i 0).toNat := by omega
  rw [this]; simp
theorem good_all : ∀ (n : Nat) (l : List UInt8), n ≤ l.length → (∀ i, i < n → isDig (l.getD i 0) = true) → good n l = n
  | 0, _, _, _ => by simp [good]
  | n + 1, [], h, _ => by simp at h
  | n + 1, c :: t, h, g => by
    have h0 : isDig c = true := g 0 (by omega)
    have := good_all n t (by simpa using h) (fun i hi => g (i + 1) (by omega))
    simp [good, h0, this]
theorem good_each : ∀ (n : Nat) (l : List UInt8) (i : Nat), i < good n l → isDig (l.getD i 0) = true
  | 0, _, i, h => by simp [good] at h
  | _ + 1, [], i, h => by simp [good] at h
  | n + 1, c :: t, i, h => by
    unfold good at h
    split at h
    · rename_i hc
      cases i with
      | zero => exact hc
      | succ j => exact good_each n t j (by omega)
    · omega
theorem parse_hex (a : List UInt8) (h : a.length = 32) : parseF (hexF a) = (a, 0, 0) := by
  have hl : (hexF a).length = 64 := by rw [hexF_len, h]
  have hg : good 64 (hexF a) = 64 := good_all 64 _ (by omega) (fun i hi => by
    have ht := (a.getD (i / 2) 0).toNat_lt
    rcases Nat.mod_two_eq_zero_or_one i with e | e
    · have := (hexF_even a (i / 2) (by omega)).1
      rw [show 2 * (i / 2) = i by omega] at this
      rw [this]; exact isDig_dig _ (by omega)
    · have := (hexF_even a (i / 2) (by omega)).2
      rw [show 2 * (i / 2) + 1 = i by omega] at this
      rw [this]; exact isDig_dig _ (by omega))
  rw [parseF, if_neg (by omega), if_neg (by omega), nib_hex a h]
theorem hex_parse (l : List UInt8) (h : (parseF l).2.1 = 0) : hexF (parseF l).1 = l := by
  have hgl := good_le 64 l
  have key : ¬ good 64 l < 64 ∧ ¬ 64 < l.length := by
    unfold parseF at h
    split at h
    · simp at h
    · rename_i h1
      split at h
      · simp at h
      · rename_i h2
        exact ⟨h1, h2⟩
  have hn := nib_pairs l 32 (by omega)
  have h64 : 2 * 32 = 64 := rfl
  rw [h64, Nat.sub_self, List.replicate_zero, List.append_nil] at hn
  have e : parseF l = (pairs l 32, 0, 0) := by rw [parseF, if_neg key.1, if_neg key.2, hn]
  rw [e]
  have e1 : ((pairs l 32, 0, 0) : List UInt8 × Nat × Nat).1 = pairs l 32 := by generalize pairs l 32 = P; rfl
  rw [e1]
  clear e e1 hn
  have hl : (hexF (pairs l 32)).length = 64 := by rw [hexF_len, pairs_len]
  refine ext_getD (by omega) fun i hi => ?_
  have hd := fun k (hk : k < 64) => dig_dv _ (good_each 64 l k (by omega))
  have hv := fun k => dv_lt (l.getD k 0)
  have hb : (UInt8.ofNat (dv (l.getD (2 * (i / 2)) 0) * 16 + dv (l.getD (2 * (i / 2) + 1) 0))).toNat = dv (l.getD (2 * (i / 2)) 0) * 16 + dv (l.getD (2 * (i / 2) + 1) 0) := by
    have h1 := hv (2 * (i / 2))
    have h2 := hv (2 * (i / 2) + 1)
    generalize dv (l.getD (2 * (i / 2)) 0) = u at *
    generalize dv (l.getD (2 * (i / 2) + 1) 0) = v at *
    simp; omega
  have h1 := hv (2 * (i / 2))
  have h2 := hv (2 * (i / 2) + 1)
  have he := hexF_even (pairs l 32) (i / 2) (by rw [pairs_len]; omega)
  rw [pairs_get _ _ _ (by omega), hb] at he
  rcases Nat.mod_two_eq_zero_or_one i with e | e
  · have := he.1
    rw [show (dv (l.getD (2 * (i / 2)) 0) * 16 + dv (l.getD (2 * (i / 2) + 1) 0)) / 16 = dv (l.getD (2 * (i / 2)) 0) by omega, hd _ (by omega), show 2 * (i / 2) = i by omega] at this
    exact this
  · have := he.2
    rw [show (dv (l.getD (2 * (i / 2)) 0) * 16 + dv (l.getD (2 * (i / 2) + 1) 0)) % 16 = dv (l.getD (2 * (i / 2) + 1) 0) by omega, hd _ (by omega), show 2 * (i / 2) + 1 = i by omega] at this
    exact this
theorem parse_bad (l : List UInt8) (h : (parseF l).2.1 ≠ 0) : (parseF l).1 = zs := by
  unfold parseF at h ⊢
  generalize nib l 64 = n at *
  split
  · rfl
  · rename_i h1
    rw [if_neg h1] at h
    split
    · rfl
    · rename_i h2
      rw [if_neg h2] at h
      exact absurd rfl h

theorem cmp_neg : ∀ (a b : List UInt8), Lib.compareBytes b a = - Lib.compareBytes a b
  | [], [] => rfl
  | [], _ :: _ => rfl
  | _ :: _, [] => rfl
  | x :: a, y :: b => by
    have ih := cmp_neg a b
    unfold Lib.compareBytes
    by_cases h : x < y
    · have h' : ¬ y < x := fun g => UInt8.lt_irrefl x (UInt8.lt_trans h g)
      simp [h, h']
    · by_cases g : y < x
      · simp [h, g]
      · simp [h, g, ih]
theorem cmp_zero : ∀ (a b : List UInt8), a.length = b.length → (Lib.compareBytes a b = 0 ↔ a = b)
  | [], [], _ => by simp [Lib.compareBytes]
  | [], _ :: _, h => by simp at h
  | _ :: _, [], h => by simp at h
  | x :: a, y :: b, h => by
    have ih := cmp_zero a b (by simpa using h)
    unfold Lib.compareBytes
    by_cases h1 : x < y
    · have : x ≠ y := fun e => UInt8.lt_irrefl x (by rw [e] at h1 ⊢; exact h1)
      simp [h1, this]
    · by_cases g : y < x
      · have : x ≠ y := fun e => UInt8.lt_irrefl x (by rw [e] at g ⊢; exact g)
        simp [h1, g, this]
      · have e : x = y := UInt8.le_antisymm (UInt8.not_lt.1 g) (UInt8.not_lt.1 h1)
        simp [ih, e]
theorem less_one (a b : List UInt8) (h : a.length = b.length) : (less a b || less b a) = decide (a ≠ b) := by
  have h1 := cmp_neg a b
  have h2 := cmp_zero a b h
  unfold less
  rw [h1]
  generalize Lib.compareBytes a b = c at *
  by_cases e : a = b
  · have := h2.2 e
    simp [e]; omega
  · have : c ≠ 0 := fun g => e (h2.1 g)
    simp [e]; omega
theorem less_both (a b : List UInt8) : (less a b && less b a) = false := by
  have h1 := cmp_neg a b
  unfold less
  rw [h1]
  generalize Lib.compareBytes a b = c at *
  simp; omega
theorem dig_lt (m n : Nat) (hm : m < 16) (hn : n < 16) : dig m < dig n ↔ m < n := by
  rw [UInt8.lt_iff_toNat_lt, dig_nat m hm, dig_nat n hn]
  split <;> split <;> omega
theorem dig_inj (m n : Nat) (hm : m < 16) (hn : n < 16) : dig m = dig n ↔ m = n := by
  rw [← UInt8.toNat_inj, dig_nat m hm, dig_nat n hn]
  split <;> split <;> omega
theorem less_hex : ∀ (a b : List UInt8), a.length = b.length → Op.bytesLess (hexF a) (hexF b) = less a b
  | [], [], _ => rfl
  | [], _ :: _, h => by simp at h
  | _ :: _, [], h => by simp at h
  | x :: a, y :: b, h => by
    have ih := less_hex a b (by simpa using h)
    have e1 : hexF (x :: a) = dig (x.toNat / 16) :: dig (x.toNat % 16) :: hexF a := rfl
    have e2 : hexF (y :: b) = dig (y.toNat / 16) :: dig (y.toNat % 16) :: hexF b := rfl
    have hx := x.toNat_lt
    have hy := y.toNat_lt
    rw [e1, e2, Op.bytesLess, Op.bytesLess, ih]
    have l1 := dig_lt (x.toNat / 16) (y.toNat / 16) (by omega) (by omega)
    have l2 := dig_lt (x.toNat % 16) (y.toNat % 16) (by omega) (by omega)
    have q1 := dig_inj (x.toNat / 16) (y.toNat / 16) (by omega) (by omega)
    have q2 := dig_inj (x.toNat % 16) (y.toNat % 16) (by omega) (by omega)
    have c0 : less (x :: a) (y :: b) = if x < y then true else if y < x then false else less a b := by
      unfold less
      rw [Lib.compareBytes]
      split
      · rfl
      · split <;> rfl
    rw [c0]
    generalize less a b = r at *
    have t1 : x < y ↔ x.toNat < y.toNat := UInt8.lt_iff_toNat_lt
    have t2 : y < x ↔ y.toNat < x.toNat := UInt8.lt_iff_toNat_lt
    rw [Bool.eq_iff_iff]
    simp only [Bool.or_eq_true, decide_eq_true_eq, beq_iff_eq, Bool.and_eq_true, l1, l2, q1, q2, t1, t2]
    clear l1 l2 q1 q2 t1 t2 c0 ih e1 e2 h
    generalize x.toNat = m at *
    generalize y.toNat = n at *
    rcases Nat.lt_trichotomy m n with hl | hl | hl
    · rw [if_pos hl]
      refine ⟨fun _ => rfl, fun _ => ?_⟩
      by_cases g1 : m / 16 < n / 16
      · exact .inl g1
      · exact .inr ⟨by omega, .inl (by omega)⟩
    · subst hl
      rw [if_neg (by omega), if_neg (by omega)]
      refine ⟨fun g => ?_, fun g => .inr ⟨rfl, .inr ⟨rfl, g⟩⟩⟩
      rcases g with g | ⟨_, g | ⟨_, g⟩⟩
      · omega
      · omega
      · exact g
    · rw [if_neg (by omega), if_pos hl]
      refine ⟨fun g => ?_, fun g => by cases g⟩
      rcases g with g | ⟨_, g | ⟨_, g⟩⟩ <;> omega
end Go.Proofs.Ytnfiecafkapgmaa
