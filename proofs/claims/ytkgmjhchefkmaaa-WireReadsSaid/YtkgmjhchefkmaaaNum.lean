/-
  Plain mathematics of the groups of seven bits: how a number is written, how bytes are gone through, and that the two fit.
-/
import Derived.Laws.Bits64b
import Derived.Laws.BitsAllLaws
namespace Go.Proofs.Ytkgmjhchefkmaaa

/-- The bytes of a number, at most so many. -/
def encN : Nat → Nat → List UInt8
  | 0, v => [UInt8.ofNat v]
  | f + 1, v => if v < 128 then [UInt8.ofNat v] else UInt8.ofNat (v % 128 + 128) :: encN f (v / 128)
theorem encN_same : ∀ (f g v : Nat), v ≤ f → v ≤ g → encN f v = encN g v
  | 0, 0, _, _, _ => rfl
  | 0, g + 1, v, h, _ => by simp only [encN]; rw [if_pos (by omega)]
  | f + 1, 0, v, _, h => by simp only [encN]; rw [if_pos (by omega)]
  | f + 1, g + 1, v, h1, h2 => by
    simp only [encN]
    by_cases h : v < 128
    · rw [if_pos h, if_pos h]
    · rw [if_neg h, if_neg h, encN_same f g (v / 128) (by omega) (by omega)]
/-- The bytes of a number: groups of seven bits, the lowest first. -/
def enc (v : Nat) : List UInt8 := encN v v
theorem enc_unf (v : Nat) : enc v = if v < 128 then [UInt8.ofNat v] else UInt8.ofNat (v % 128 + 128) :: enc (v / 128) := by
  unfold enc
  rw [encN_same v (v + 1) v (Nat.le_refl _) (by omega)]
  simp only [encN]
  by_cases h : v < 128
  · rw [if_pos h, if_pos h]
  · rw [if_neg h, if_neg h, encN_same v _ (v / 128) (by omega) (Nat.le_refl _)]
theorem enc_lt {v : Nat} (h : v < 128) : enc v = [UInt8.ofNat v] := by rw [enc_unf, if_pos h]
theorem enc_ge {v : Nat} (h : ¬ v < 128) : enc v = UInt8.ofNat (v % 128 + 128) :: enc (v / 128) := by rw [enc_unf, if_neg h]
theorem enc_pos (v : Nat) : 0 < (enc v).length := by
  by_cases h : v < 128
  · rw [enc_lt h]; simp
  · rw [enc_ge h]; simp

/-- How bytes are gone through from group i on: the number, how many groups, the error. -/
def scan (i acc : Nat) : List UInt8 → Nat × Nat × Nat
  | [] => (0, 0, 3)
  | x :: r => if i = 9 ∧ 1 < x.toNat then (0, 0, 4) else if 0 < i ∧ x.toNat = 0 then (0, 0, 4) else
      if x.toNat < 128 then (acc + x.toNat * 2 ^ (7 * i), i + 1, 0) else scan (i + 1) (acc + (x.toNat - 128) * 2 ^ (7 * i)) r

theorem pow_step (i : Nat) : 2 ^ (7 * (i + 1)) = 128 * 2 ^ (7 * i) := by
  rw [Nat.mul_add, Nat.pow_add]; omega
theorem nine {v i : Nat} (h : v * 2 ^ (7 * i) < 18446744073709551616) (hi : i = 9) : v ≤ 1 := by
  subst hi; omega

theorem scan_enc (t : List UInt8) : ∀ (v i acc : Nat), i ≤ 9 → (i = 0 ∨ 0 < v) → v * 2 ^ (7 * i) < 18446744073709551616 →
    scan i acc (enc v ++ t) = (acc + v * 2 ^ (7 * i), i + (enc v).length, 0) := by
  intro v
  induction v using Nat.strongRecOn with
  | _ v ih =>
    intro i acc hi h0 hb
    by_cases h : v < 128
    · rw [enc_lt h]
      have e : (UInt8.ofNat v).toNat = v := by simp; omega
      have h9 : ¬ (i = 9 ∧ 1 < v) := fun ⟨a, b⟩ => by have := nine hb a; omega
      have hz : ¬ (0 < i ∧ v = 0) := fun ⟨a, b⟩ => by omega
      simp only [List.cons_append, List.nil_append, scan, e, h9, hz, h, if_true, if_false, List.length_singleton]
    · rw [enc_ge h]
      have e : (UInt8.ofNat (v % 128 + 128)).toNat = v % 128 + 128 := by simp; omega
      have h9 : i ≠ 9 := fun a => by have := nine hb a; omega
      have h9' : ¬ (i = 9 ∧ 1 < v % 128 + 128) := fun ⟨a, _⟩ => h9 a
      have hz : ¬ (0 < i ∧ v % 128 + 128 = 0) := fun ⟨_, b⟩ => by omega
      have hh : ¬ v % 128 + 128 < 128 := by omega
      have hd : v % 128 + 128 * (v / 128) = v := Nat.mod_add_div v 128
      have key : v * 2 ^ (7 * i) = v % 128 * 2 ^ (7 * i) + v / 128 * 2 ^ (7 * (i + 1)) := by
        rw [pow_step]
        conv => lhs; rw [← hd, Nat.add_mul]
        rw [Nat.mul_comm 128 (v / 128), Nat.mul_assoc]
      simp only [List.cons_append, scan, e, h9', hz, hh, if_false, List.length_cons]
      rw [ih (v / 128) (by omega) (i + 1) _ (by omega) (.inr (by omega)) (by omega)]
      refine Prod.ext ?_ (Prod.ext ?_ rfl) <;> simp <;> omega

theorem scan_short : ∀ (v i acc k : Nat), i ≤ 9 → v * 2 ^ (7 * i) < 18446744073709551616 → k < (enc v).length → scan i acc ((enc v).take k) = (0, 0, 3) := by
  intro v
  induction v using Nat.strongRecOn with
  | _ v ih =>
    intro i acc k hi hb hk
    cases k with
    | zero => simp [scan]
    | succ k =>
      by_cases h : v < 128
      · rw [enc_lt h] at hk; simp at hk
      · rw [enc_ge h] at hk ⊢
        have e : (UInt8.ofNat (v % 128 + 128)).toNat = v % 128 + 128 := by simp; omega
        have h9 : i ≠ 9 := fun a => by have := nine hb a; omega
        have h9' : ¬ (i = 9 ∧ 1 < v % 128 + 128) := fun ⟨a, _⟩ => h9 a
        have hz : ¬ (0 < i ∧ v % 128 + 128 = 0) := fun ⟨_, b⟩ => by omega
        have hh : ¬ v % 128 + 128 < 128 := by omega
        simp only [List.take_succ_cons, scan, e, h9', hz, hh, if_false]
        refine ih (v / 128) (by omega) (i + 1) _ k (by omega) ?_ (by simpa using hk)
        rw [pow_step, ← Nat.mul_assoc]
        exact Nat.lt_of_le_of_lt (Nat.mul_le_mul_right _ (Nat.div_mul_le_self v 128)) hb

theorem ofNat_toNat (x : UInt8) : UInt8.ofNat x.toNat = x := by simp

/-- What was gone through is just the bytes of the number that was told. -/
theorem scan_back : ∀ (l : List UInt8) (i acc V n : Nat), i ≤ 9 → scan i acc l = (V, n, 0) →
    ∃ v, V = acc + v * 2 ^ (7 * i) ∧ i < n ∧ n - i ≤ l.length ∧ l.take (n - i) = enc v ∧ v * 2 ^ (7 * i) < 18446744073709551616 ∧ (i = 0 ∨ 0 < v) := by
  intro l
  induction l with
  | nil => intro i acc V n _ h; simp [scan] at h
  | cons x r ih =>
    intro i acc V n hi h
    have hx := x.toNat_lt
    simp only [scan] at h
    split at h
    · simp at h
    · rename_i h9
      split at h
      · simp at h
      · rename_i hz
        split at h
        · rename_i hl
          simp at h
          obtain ⟨rfl, rfl⟩ := h
          refine ⟨x.toNat, rfl, by omega, by simp, ?_, ?_, by omega⟩
          · rw [enc_lt hl, show i + 1 - i = 1 by omega, ofNat_toNat]; simp
          · by_cases e9 : i = 9
            · subst e9; have : x.toNat ≤ 1 := by omega
              omega
            · have : 2 ^ (7 * i) ≤ 2 ^ 56 := Nat.pow_le_pow_right (by omega) (by omega)
              calc x.toNat * 2 ^ (7 * i) ≤ 127 * 2 ^ 56 := Nat.mul_le_mul (by omega) this
                _ < _ := by decide
        · rename_i hl
          have h9i : i ≠ 9 := fun a => h9 ⟨a, by omega⟩
          obtain ⟨v, hV, hn, hle, htk, hb, hv⟩ := ih (i + 1) _ V n (by omega) h
          have hv0 : 0 < v := by omega
          have e1 : (x.toNat - 128 + 128 * v) % 128 + 128 = x.toNat := by omega
          have e2 : (x.toNat - 128 + 128 * v) / 128 = v := by omega
          refine ⟨x.toNat - 128 + 128 * v, ?_, by omega, by simp; omega, ?_, ?_, by omega⟩
          · rw [hV, pow_step, Nat.add_mul, ← Nat.mul_assoc, Nat.mul_comm 128 v]; omega
          · rw [enc_ge (by omega), e1, e2, ofNat_toNat, ← htk, show n - i = (n - (i + 1)) + 1 by omega, List.take_succ_cons]
          · rw [pow_step, ← Nat.mul_assoc] at hb
            have hpos : 0 < 2 ^ (7 * i) := Nat.pow_pos (by omega)
            obtain ⟨j, hj⟩ : ∃ j, 64 = 7 * i + j := ⟨64 - 7 * i, by omega⟩
            have hp : 18446744073709551616 = 2 ^ j * 2 ^ (7 * i) := by rw [← Nat.pow_add, Nat.add_comm, ← hj]
            rw [hp] at hb ⊢
            have hb' := Nat.lt_of_mul_lt_mul_right hb
            refine Nat.mul_lt_mul_of_pos_right ?_ hpos
            have : ∃ q, 2 ^ j = 128 * q := ⟨2 ^ (j - 7), by rw [show 128 = 2 ^ 7 from rfl, ← Nat.pow_add]; congr 1; omega⟩
            obtain ⟨q, hq⟩ := this
            omega

theorem scan_lt {l : List UInt8} {V n c : Nat} (h : scan 0 0 l = (V, n, c)) : V < 18446744073709551616 ∧ n ≤ l.length ∧ (c = 0 ∨ (V = 0 ∧ n = 0 ∧ (c = 3 ∨ c = 4))) := by
  by_cases hc : c = 0
  · subst hc
    obtain ⟨v, rfl, hn, hle, -, hb, -⟩ := scan_back l 0 0 V n (by omega) h
    simp at hb hle
    exact ⟨by simpa using hb, hle, .inl rfl⟩
  · have : ∀ (l : List UInt8) (i acc : Nat), scan i acc l = (V, n, c) → V = 0 ∧ n = 0 ∧ (c = 3 ∨ c = 4) := by
      intro l
      induction l with
      | nil => intro i acc h; simp [scan] at h; omega
      | cons x r ih =>
        intro i acc h
        simp only [scan] at h
        split at h
        · simp at h; omega
        · split at h
          · simp at h; omega
          · split at h
            · simp at h; omega
            · exact ih _ _ h
    obtain ⟨rfl, rfl, h3⟩ := this l 0 0 h
    exact ⟨by omega, by omega, .inr ⟨rfl, rfl, h3⟩⟩

/-- The number within a message: it and no other is read at its beginning. -/
theorem scan_of_enc (v : Nat) (hv : v < 18446744073709551616) (t : List UInt8) : scan 0 0 (enc v ++ t) = (v, (enc v).length, 0) := by
  have := scan_enc t v 0 0 (by omega) (.inl rfl) (by simpa using hv)
  simpa using this
theorem scan_cut (v k : Nat) (hv : v < 18446744073709551616) (hk : k < (enc v).length) : scan 0 0 ((enc v).take k) = (0, 0, 3) :=
  scan_short v 0 0 k (by omega) (by simpa using hv) hk
theorem enc_of_scan {l : List UInt8} {V n : Nat} (h : scan 0 0 l = (V, n, 0)) : l.take n = enc V ∧ 0 < n ∧ n ≤ l.length ∧ V < 18446744073709551616 := by
  obtain ⟨v, rfl, hn, hle, ht, hb, -⟩ := scan_back l 0 0 V n (by omega) h
  simp at hb hle ht ⊢
  exact ⟨ht, hn, hle, hb⟩

/-- How many bytes: one for each seven bits. -/
theorem enc_len_mono : ∀ (b a : Nat), a ≤ b → (enc a).length ≤ (enc b).length := by
  intro b
  induction b using Nat.strongRecOn with
  | _ b ih =>
    intro a h
    by_cases ha : a < 128
    · rw [enc_lt ha]; exact enc_pos b
    · rw [enc_ge ha, enc_ge (show ¬ b < 128 by omega)]
      have := ih (b / 128) (by omega) (a / 128) (by omega)
      simp only [List.length_cons]; omega
theorem enc_len_le : ∀ (k v : Nat), 0 < k → v < 128 ^ k → (enc v).length ≤ k := by
  intro k
  induction k with
  | zero => intro v h; omega
  | succ k ih =>
    intro v _ h
    by_cases hv : v < 128
    · rw [enc_lt hv]; simp
    · rw [enc_ge hv]
      have hk : 0 < k := by
        rcases Nat.eq_zero_or_pos k with rfl | h0
        · simp at h; omega
        · exact h0
      have : v / 128 < 128 ^ k := by rw [Nat.pow_succ] at h; exact Nat.div_lt_of_lt_mul (by omega)
      have := ih (v / 128) hk this
      simp only [List.length_cons]; omega
theorem enc_len_10 {v : Nat} (h : v < 18446744073709551616) : (enc v).length ≤ 10 := enc_len_le 10 v (by omega) (by omega)

/-- An int as a Uint. -/
def zig (n : Int) : Nat := if n < 0 then (-2 * n - 1).toNat else (2 * n).toNat
def zag (v : Nat) : Int := if v % 2 = 1 then -1 - ((v / 2 : Nat) : Int) else ((v / 2 : Nat) : Int)
theorem zag_zig (n : Int) : zag (zig n) = n := by
  unfold zig zag
  split <;> split <;> omega
theorem zig_zag (v : Nat) : zig (zag v) = v := by
  unfold zig zag
  split <;> split <;> omega
theorem zig_lt {n : Int} (h1 : -9223372036854775808 ≤ n) (h2 : n ≤ 9223372036854775807) : zig n < 18446744073709551616 := by
  unfold zig; split <;> omega
theorem zag_in {v : Nat} (h : v < 18446744073709551616) : -9223372036854775808 ≤ zag v ∧ zag v ≤ 9223372036854775807 := by
  unfold zag; split <;> omega
theorem zig_half (n : Int) : zig (n.tdiv 2) ≤ zig n := by
  unfold zig
  rcases Int.lt_or_le n 0 with h | h
  · have e : n.tdiv 2 = -((-n) / 2) := by
      rw [show n = -(-n) by omega, Int.neg_tdiv, Int.neg_neg, Int.tdiv_eq_ediv_of_nonneg (by omega)]
    rw [e]
    split <;> omega
  · rw [Int.tdiv_eq_ediv_of_nonneg h]
    split <;> split <;> omega
end Go.Proofs.Ytkgmjhchefkmaaa
