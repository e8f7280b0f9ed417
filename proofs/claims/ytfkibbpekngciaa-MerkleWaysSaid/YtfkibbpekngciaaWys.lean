/-
  MerkleWays.
-/
import Derived.Test.YtfkibbpekngciaaTol
import Derived.Test.YtfkibbpekngciaaFew
namespace Go.Proofs.Ytfkibbpekngciaa
open Go.RowKit

/-- Numbers as bytes. -/
def Lk (j : Nat) : List Bys := (List.range j).map fun i => [UInt8.ofNat i]
theorem Lk_len (j : Nat) : (Lk j).length = j := by simp [Lk]
theorem Lk_next (j : Nat) : Lk j ++ [[UInt8.ofNat j]] = Lk (j + 1) := by simp [Lk, List.range_succ]
theorem Lk_short (j : Nat) : Short (Lk j) := fun b hb => by
  obtain ⟨i, _, rfl⟩ := List.mem_map.1 hb
  simp
theorem Tx.nil (B : Nat) (w : World) : Tx B (.slice none 0 0) [] w := ⟨[], World.ownsRow_nil _ _ _ _, fun j hj => by simp at hj⟩
/-- A new text of one byte, in a new row. -/
theorem Tx.byte {B : Nat} {tv : Value} {T : List Bys} {z : World} (h : Tx B tv T z) (hB : B ≤ z.heap.size) (x : Int) (b : UInt8) (hx : (b.toNat : Int) = x) :
    Tx B tv T ((z.alloc (.cells #[.int .u8 x] 5)).alloc (.cells #[.slice (some ⟨z.heap.size, 0, none⟩) 1 1] 39)) ∧ B ≤ ((z.alloc (.cells #[.int .u8 x] 5)).alloc (.cells #[.slice (some ⟨z.heap.size, 0, none⟩) 1 1] 39)).heap.size ∧
    ((z.alloc (.cells #[.int .u8 x] 5)).alloc (.cells #[.slice (some ⟨z.heap.size, 0, none⟩) 1 1] 39)).cell? ⟨z.heap.size + 1, 0, none⟩ = some (.slice (some ⟨z.heap.size, 0, none⟩) 1 1) ∧
    ((z.alloc (.cells #[.int .u8 x] 5)).alloc (.cells #[.slice (some ⟨z.heap.size, 0, none⟩) 1 1] 39)).ownsRow B 5 1 (.slice (some ⟨z.heap.size, 0, none⟩) 1 1) [b].length (bys [b]) ∧
    Below z.heap.size z ((z.alloc (.cells #[.int .u8 x] 5)).alloc (.cells #[.slice (some ⟨z.heap.size, 0, none⟩) 1 1] 39)) := by
  subst hx
  have b1 : Below z.heap.size z (z.alloc (.cells #[.int .u8 (b.toNat : Int)] 5)) := (Below.refl _ _).alloc (Nat.le_refl _) _
  have b2 : Below (z.alloc (.cells #[.int .u8 (b.toNat : Int)] 5)).heap.size (z.alloc (.cells #[.int .u8 (b.toNat : Int)] 5)) ((z.alloc (.cells #[.int .u8 (b.toNat : Int)] 5)).alloc (.cells #[.slice (some ⟨z.heap.size, 0, none⟩) 1 1] 39)) := (Below.refl _ _).alloc (Nat.le_refl _) _
  have b12 := nextB b1 b2
  refine ⟨h.below b12, Nat.le_trans hB b12.size, ?_, own_past (own_lower (own_one z b) hB) b2, b12⟩
  have := (Row.new (z.alloc (.cells #[.int .u8 (b.toNat : Int)] 5)) 39 [.slice (some ⟨z.heap.size, 0, none⟩) 1 1]).cell 0
  rw [show (z.alloc (.cells #[.int .u8 (b.toNat : Int)] 5)).heap.size = z.heap.size + 1 by simp] at this
  exact this
theorem byte_nat (j : Nat) (h : j < 256) : ((UInt8.ofNat j).toNat : Int) = (j : Int) := by
  simp; omega

set_option maxHeartbeats 8000000 in
set_option maxRecDepth 20000 in
theorem ways_walk (F : Bys → Bys) (E : Env2 F) (w : World) (n : Int) :
    Calls Try.prog 7 #[.int .i64 n] w fun ev w' => ev = .returned (.bool true) ∧ Below w.heap.size w w' := by
  obtain ⟨u, hu⟩ : ∃ u, u = IntKind.u64.wrap n := ⟨_, rfl⟩
  have hu0 : 0 ≤ u := by rw [hu, IntKind.wrap_u64]; omega
  have hu1 : u < 18446744073709551616 := by rw [hu, IntKind.wrap_u64]; omega
  obtain ⟨m, hm⟩ : ∃ m : Nat, (m : Int) = u % 40 := ⟨(u % 40).toNat, by omega⟩
  have hm1 : m < 40 := by omega
  have e1 : IntKind.u64.wrap n = u := hu.symm
  have e2 : u % 40 = (m : Int) := hm.symm
  have HT : Hid (∀ y, Calls Try.prog 10 #[] y fun ev w' => ev = .returned (.bool true) ∧ Below y.heap.size y w') := fun y => told_any F E y
  obtain ⟨k, hk⟩ : ∃ k : Nat, k = 1 + m := ⟨_, rfl⟩
  have e3 : (1 : Int) + (m : Int) = (k : Int) := by omega
  have hk1 : 1 ≤ k := by omega
  have hk40 : k ≤ 40 := by omega
  have km : (m : Int) ≤ 39 := by omega
  clear hu hm hk
  go_enter Try.func7, Try.ntmps7
  go_wp2_with fail
  clear e1 e2 e3 km hm1 hu0 hu1
  go_loopw [4, 5] (fun lv iv wr => ∃ j : Nat, j ≤ k ∧ iv = .int .i64 (j : Int) ∧ Tx w.heap.size lv (Lk j) wr ∧ Below w.heap.size w wr) (fun _ iv _ => k - (intOf iv).toNat)
  case atStart => exact ⟨0, by omega, rfl, Tx.nil _ _, Below.refl _ _⟩
  case round =>
    obtain ⟨j, hj, rfl, hX, hB⟩ := hrel
    obtain ⟨ao, cp, rfl⟩ := hX.slice
    by_cases hjk : j < k
    · have q1 : (j : Int) < (k : Int) := by omega
      have q2 : (j : Int) < 256 := by omega
      have q3 : (0 : Int) ≤ (j : Int) := by omega
      obtain ⟨hXA, hBA, hcA, huA, hbA⟩ := hX.byte hB.size (j : Int) (UInt8.ofNat j) (byte_nat j (by omega))
      have hll : (Lk j).length ≤ 1000000 := by rw [Lk_len]; omega
      have HN : Hid (Lk j ++ [[UInt8.ofNat j]] = Lk (j + 1)) := Lk_next j
      have HBn := nextB hB hbA
      clear hX hB hbA
      generalize Lk j = T at *
      go_wp2_with (at_builtin; refine app39 rfl _ _ rfl rfl hXA hBA (wr.heap.size + 1) 1 rfl hcA huA hll ?_; intro v9 w10 hX9 hb9 hg9)
      go_roundw
      case rel =>
        rw [HN.out] at hX9
        exact ⟨j + 1, by omega, by go_num, hX9, HBn.trans hb9⟩
      case measure => simp [intOf]; omega
    · obtain rfl : k = j := by omega
      have q1 : ¬ (k : Int) < (k : Int) := by omega
      have HLs : Hid (Ls wr (.slice ao (Lk k).length cp) (Lk k)) := hX.ls
      have HB : Hid (Below w.heap.size w wr) := hB
      clear hX hB
      have hlen := Lk_len k
      rw [hlen] at HLs ⊢
      have HP : Hid (∀ h : Nat, h ≤ 6 → wrap64 ((2 : Int) ^ h) = ((2 ^ h : Nat) : Int)) := fun h hh => by
        rcases (by omega : h = 0 ∨ h = 1 ∨ h = 2 ∨ h = 3 ∨ h = 4 ∨ h = 5 ∨ h = 6) with rfl | rfl | rfl | rfl | rfl | rfl | rfl <;> (unfold wrap64; decide)
      go_wp2_with fail
      go_loop [6] (fun hv => ∃ h : Nat, h ≤ 6 ∧ hv = .int .i64 (h : Int) ∧ (h = 0 ∨ 2 ^ (h - 1) < k)) (fun hv => 6 - (intOf hv).toNat)
      case atStart => exact ⟨0, by omega, rfl, .inl rfl⟩
      case round =>
        obtain ⟨h, hh, rfl, hlow⟩ := hrel
        have hpw := HP.out h hh
        obtain ⟨q, hq⟩ : ∃ q : Nat, q = 2 ^ h := ⟨_, rfl⟩
        rw [← hq] at hpw
        have r0 : (0 : Int) ≤ (h : Int) := by omega
        have r1 : (h : Int) ≤ 6 := by omega
        by_cases hqj : q < k
        · have r2 : (q : Int) < (k : Int) := by omega
          have HH : Hid (h < 6 ∧ 2 ^ h < k) := by
            have hlt : 2 ^ h < k := by rw [← hq]; exact hqj
            refine ⟨?_, hlt⟩
            rcases Nat.lt_or_ge h 6 with h' | h'
            · exact h'
            · have := Nat.pow_le_pow_right (n := 2) (by omega) h'
              omega
          clear hq hlow hqj
          go_wp2_with fail
          go_round
          case rel => exact ⟨h + 1, by have := HH.out.1; omega, by go_num, .inr (by have := HH.out.2; simpa using this)⟩
          case measure => have := HH.out.1; simp [intOf]; omega
        · have r2 : ¬ (q : Int) < (k : Int) := by omega
          have HQ : Hid (q = 2 ^ h ∧ k ≤ q) := ⟨hq, by omega⟩
          clear hq hlow hqj
          go_wp2_with fail
          rename World => wA
          have b1 : ∀ (y : World) o, Below y.heap.size y (y.alloc o) := fun y o => (Below.refl _ _).alloc (Nat.le_refl _) _
          go_loopw [7] (fun iv wr => ∃ j : Nat, j ≤ k ∧ iv = .int .i64 (j : Int) ∧ Below wA.heap.size wA wr) (fun iv _ => k - (intOf iv).toNat)
          case atStart => exact ⟨0, by omega, rfl, Below.refl _ _⟩
          case round =>
            obtain ⟨j, hj, rfl, hBj⟩ := hrel
            by_cases hjk : j < k
            · have s1 : (j : Int) < (k : Int) := by omega
              have PR := prove_yes F E.toEnv wr _ (Lk k) (HLs.out.below hBj) (Lk_short k) (by omega) j (by omega)
              have hpl : (path F (Lk k) j).length = (downs j 0 k).length := by simp [path, hlen]
              rw [hlen] at PR
              have hle : (path F (Lk k) j).length ≤ h := by
                rw [hpl]; exact downs_len j h 0 k (by have := HQ.out; omega)
              have hfull : k = q → (path F (Lk k) j).length = h := fun e => by
                rw [hpl]; exact downs_full j h 0 k (by have := HQ.out; omega)
              have hpos : 1 < k → 1 ≤ (path F (Lk k) j).length := fun e => by
                rw [hpl]; exact downs_pos j 0 k (by omega)
              generalize (path F (Lk k) j) = P at *
              have t1 : ¬ (h : Int) < (P.length : Int) := by omega
              have HF : Hid (k = q → P.length = h) := hfull
              have HPo : Hid (1 < k → 1 ≤ P.length) := hpos
              clear hpl hle hfull hpos
              go_wp2_with fail
              refine PR.mono ?_
              rintro ev w2 ⟨ap, cpp, rfl, hH2, _, hb2⟩
              have N2 := Row.new w2 30 [.int .i64 0, .int .i64 0, .slice none 0 0]
              have A2 := b1 w2 (.cells #[.int .i64 0, .int .i64 0, .slice none 0 0] 30)
              have o2 := one3 j k ap P.length cpp
              have hB2 := nextB hBj hb2
              clear PR hH2 hb2 hBj
              have c3' : ∀ w3, Row w3 w2.heap.size 30 [.int .i64 (j : Int), .int .i64 (k : Int), .slice ap P.length cpp] → w3.cell? ⟨w2.heap.size, 2, none⟩ = some (.slice ap P.length cpp) := fun w3 R => R.cell 2
              have HC3 : Hid _ := c3'
              clear c3'
              have K2 : (1 < k ∧ 1 ≤ P.length) ∨ ¬ 1 < k := by
                by_cases h1 : 1 < k
                · exact .inl ⟨h1, HPo.out h1⟩
                · exact .inr h1
              by_cases hkq : k = q
              · have d1 : ((k : Int) == (q : Int)) = true := by simp [hkq]
                have d2 : ((P.length : Int) == (h : Int)) = true := by simp [HF.out hkq]
                have d3 : ((P.length : Int) != (h : Int)) = false := by simp [HF.out hkq]
                have d4 : decide ((P.length : Int) = (h : Int)) = true := by simp [HF.out hkq]
                have d5 : (!decide ((P.length : Int) = (h : Int))) = false := by simp [HF.out hkq]
                clear hkq
                rcases K2 with ⟨k1, k2⟩ | k1
                · have f1 : (1 : Int) < (k : Int) := by omega
                  have f2 : ¬ (P.length : Int) < 1 := by omega
                  go_wp2_with (first | (refine store30 rfl _ _ rfl w2 w2.heap.size _ _ _ o2 rfl rfl _ _ _ N2 _ A2 (Nat.le_refl _) ?_; intro w3 R3 hb3 _; have c3 := HC3.out w3 R3))
                  exact ⟨⟨j + 1, by omega, by go_num, nextB hB2 hb3⟩, by simp [intOf]; omega⟩
                · have f1 : ¬ (1 : Int) < (k : Int) := by omega
                  go_wp2_with (first | (refine store30 rfl _ _ rfl w2 w2.heap.size _ _ _ o2 rfl rfl _ _ _ N2 _ A2 (Nat.le_refl _) ?_; intro w3 R3 hb3 _; have c3 := HC3.out w3 R3))
                  exact ⟨⟨j + 1, by omega, by go_num, nextB hB2 hb3⟩, by simp [intOf]; omega⟩
              · have d1 : ((k : Int) == (q : Int)) = false := by
                  have : ¬ (k : Int) = (q : Int) := by omega
                  simpa using this
                clear hkq
                rcases K2 with ⟨k1, k2⟩ | k1
                · have f1 : (1 : Int) < (k : Int) := by omega
                  have f2 : ¬ (P.length : Int) < 1 := by omega
                  go_wp2_with (first | (refine store30 rfl _ _ rfl w2 w2.heap.size _ _ _ o2 rfl rfl _ _ _ N2 _ A2 (Nat.le_refl _) ?_; intro w3 R3 hb3 _; have c3 := HC3.out w3 R3))
                  exact ⟨⟨j + 1, by omega, by go_num, nextB hB2 hb3⟩, by simp [intOf]; omega⟩
                · have f1 : ¬ (1 : Int) < (k : Int) := by omega
                  go_wp2_with (first | (refine store30 rfl _ _ rfl w2 w2.heap.size _ _ _ o2 rfl rfl _ _ _ N2 _ A2 (Nat.le_refl _) ?_; intro w3 R3 hb3 _; have c3 := HC3.out w3 R3))
                  exact ⟨⟨j + 1, by omega, by go_num, nextB hB2 hb3⟩, by simp [intOf]; omega⟩
            · obtain rfl : k = j := by omega
              have t0 : ¬ (k : Int) < (k : Int) := by omega
              have HP1 := prove_no wr ao k cp (k : Int) (by omega)
              have HP2 : Hid (∀ y, Calls Try.prog 13 #[.slice ao k cp, .int .i64 (-1)] y fun ev w' => ∃ b, ev = .returned (.tuple #[.agg #[.int .i64 0, .int .i64 0, .slice none 0 0], .iface 83 (.pointer (some ⟨b, 0, none⟩))]) ∧ Er w' (.iface 83 (.pointer (some ⟨b, 0, none⟩))) 2 0 ∧ Below y.heap.size y w') := fun y => prove_no y ao k cp (-1) (by omega)
              have o5 := one3 0 0 none 0 0
              clear hj hjk
              go_wp2_with fail
              refine HP1.mono ?_
              rintro ev w2 ⟨e2, rfl, hE2, hb2⟩
              have N2 := Row.new w2 30 [.int .i64 0, .int .i64 0, .slice none 0 0]
              have A2 := b1 w2 (.cells #[.int .i64 0, .int .i64 0, .slice none 0 0] 30)
              clear HP1
              go_wp2_with (first | (refine store30 rfl _ _ rfl w2 w2.heap.size _ _ _ o5 rfl rfl _ _ _ N2 _ A2 (Nat.le_refl _) ?_; intro w3 R3 hb3 _))
              refine (HP2.out w3).mono ?_
              rintro ev w4 ⟨e4, rfl, hE4, hb4⟩
              have N4 := Row.new w4 30 [.int .i64 0, .int .i64 0, .slice none 0 0]
              have A4 := b1 w4 (.cells #[.int .i64 0, .int .i64 0, .slice none 0 0] 30)
              clear HP2
              go_wp2_with (first | (refine store30 rfl _ _ rfl w4 w4.heap.size _ _ _ o5 rfl rfl _ _ _ N4 _ A4 (Nat.le_refl _) ?_; intro w5 R5 hb5 _))
              have h25 := nextB (nextB hb3 hb4) hb5
              have hE5 := hE2.below h25
              have hE5' := hE4.below hb5
              refine (HT.out w5).mono ?_
              rintro ev w6 ⟨rfl, hb6⟩
              have I1 := is_any w6 _ 2 0 2 0 (.inr (hE5.below hb6)) rfl rfl
              go_wp2_with fail
              refine I1.mono ?_
              rintro ev w7 ⟨rfl, hb7⟩
              have I2 := is_any w7 _ 2 0 2 0 (.inr ((hE5'.below hb6).below hb7)) rfl rfl
              go_wp2_with fail
              refine I2.mono ?_
              rintro ev w8 ⟨rfl, hb8⟩
              go_wp2_with fail
              go_ret
              exact ⟨rfl, nextB (nextB (nextB (nextB (nextB (nextB HB.out hBj) hb2) h25) hb6) hb7) hb8⟩
end Go.Proofs.Ytfkibbpekngciaa
