/-
  Numbers: what Atoi makes of digits; the program's size of a number.
-/
import Derived.Test.YtdnjcajbmibjiaaDoorBlk
namespace Go.Proofs.YtdnjcajbmibjiaaDoor
open Go.RowKit

def numA (a : Nat) (l : List UInt8) : Nat := l.foldl (fun n c => n * 10 + (c.toNat - 48)) a
theorem numA_ge : ∀ (l : List UInt8) (a : Nat), a ≤ numA a l
  | [], a => Nat.le_refl _
  | c :: t, a => by have := numA_ge t (a * 10 + (c.toNat - 48)); show a ≤ numA (a * 10 + (c.toNat - 48)) t; omega
theorem numA_pow : ∀ (l : List UInt8) (a : Nat), a * 10 ^ l.length ≤ numA a l
  | [], a => by simp [numA]
  | c :: t, a => by
    have h1 := numA_pow t (a * 10 + (c.toNat - 48))
    have h2 : a * 10 * 10 ^ t.length ≤ (a * 10 + (c.toNat - 48)) * 10 ^ t.length := Nat.mul_le_mul_right _ (by omega)
    have e : a * 10 ^ (c :: t).length = a * 10 * 10 ^ t.length := by rw [List.length_cons, Nat.pow_succ, Nat.mul_assoc, Nat.mul_comm 10]
    show a * 10 ^ (c :: t).length ≤ numA (a * 10 + (c.toNat - 48)) t
    omega
theorem parse_ok : ∀ (l : List UInt8) (a : Nat), l.all isDg = true → numA a l < 9223372036854775808 → Lib.parseUint10 a l = .ok (numA a l)
  | [], a, _, _ => rfl
  | c :: t, a, h, hn => by
    simp only [List.all_cons, Bool.and_eq_true] at h
    have hd := h.1
    simp only [isDg, Bool.and_eq_true, decide_eq_true_eq] at hd
    have e : numA a (c :: t) = numA (a * 10 + (c.toNat - 48)) t := rfl
    have hg := numA_ge t (a * 10 + (c.toNat - 48))
    rw [e] at hn ⊢
    simp only [Lib.parseUint10]
    rw [if_pos hd, if_neg (by omega), if_neg (by omega)]
    exact parse_ok t _ h.2 hn
theorem parse_back : ∀ (l : List UInt8) (a u : Nat), Lib.parseUint10 a l = .ok u → l.all isDg = true ∧ u = numA a l
  | [], a, u, h => by simp [Lib.parseUint10] at h; exact ⟨rfl, h.symm⟩
  | c :: t, a, u, h => by
    simp only [Lib.parseUint10] at h
    split at h
    · rename_i hd
      split at h
      · cases h
      · split at h
        · cases h
        · obtain ⟨h1, h2⟩ := parse_back t _ u h
          refine ⟨?_, h2⟩
          simp only [List.all_cons, h1, Bool.and_true, isDg, Bool.and_eq_true, decide_eq_true_eq]
          exact hd
    · cases h

/-- A run that opens with a digit: Atoi, and what is at most the greatest number. -/
theorem atoi_num (c : UInt8) (t : List UInt8) (hc : isDg c = true) (h : isNum (c :: t) = true) : Lib.atoiAll (c :: t) = .ok (numV (c :: t) : Int) ∧ numV (c :: t) ≤ 2147483647 := by
  simp only [isNum, Bool.and_eq_true, decide_eq_true_eq] at h
  obtain ⟨⟨_, hall⟩, hv⟩ := h
  simp only [isDg, Bool.and_eq_true, decide_eq_true_eq] at hc
  refine ⟨?_, hv⟩
  have hp := parse_ok (c :: t) 0 hall (by show numV (c :: t) < _; omega)
  unfold Lib.atoiAll
  simp only [Lib.parseMag]
  rw [if_neg (by omega : ¬ (c.toNat = 43 ∨ c.toNat = 45)), if_neg (by simp), hp]
  simp only
  have hv' : numA 0 (c :: t) ≤ 2147483647 := hv
  rw [if_neg (by omega), if_neg (by omega), if_neg (by omega)]
  rfl
theorem atoi_not (c : UInt8) (t : List UInt8) (hc : isDg c = true) (hz : (c :: t).length ≤ 1 ∨ c ≠ 48) (h : isNum (c :: t) = false) (v : Int) (ha : Lib.atoiAll (c :: t) = .ok v) : 2147483647 < v ∧ v ≤ 9223372036854775807 := by
  simp only [isDg, Bool.and_eq_true, decide_eq_true_eq] at hc
  unfold Lib.atoiAll at ha
  simp only [Lib.parseMag] at ha
  rw [if_neg (by omega : ¬ (c.toNat = 43 ∨ c.toNat = 45)), if_neg (by simp)] at ha
  rcases hp : Lib.parseUint10 0 (c :: t) with u | _ | _
  rotate_left
  · rw [hp] at ha; cases ha
  · rw [hp] at ha; cases ha
  · skip
    rw [hp] at ha
    simp only at ha
    obtain ⟨h1, h2⟩ := parse_back _ _ _ hp
    rw [if_neg (by omega : ¬ c.toNat = 45)] at ha
    split at ha
    · cases ha
    · rename_i hlt
      split at ha
      · cases ha
      · injection ha with ha
        rw [← ha]
        refine ⟨?_, by omega⟩
        rcases Nat.lt_or_ge 2147483647 u with h' | h'
        · omega
        · exfalso
          have hlen : (c :: t).length ≤ 10 := by
            rcases hz with hz | hz
            · omega
            · have hpow := numA_pow t (0 * 10 + (c.toNat - 48))
              have e : numA (0 * 10 + (c.toNat - 48)) t = numA 0 (c :: t) := rfl
              have hc1 : 1 ≤ c.toNat - 48 := by
                have : c.toNat ≠ 48 := fun e => hz (UInt8.toNat_inj.1 (by simpa using e))
                omega
              rcases Nat.lt_or_ge (c :: t).length 11 with h9 | h9
              · omega
              · exfalso
                have h10 : 10 ^ 10 ≤ 10 ^ t.length := Nat.pow_le_pow_right (by omega) (by simp at h9; omega)
                have h11 : 1 * 10 ^ t.length ≤ (0 * 10 + (c.toNat - 48)) * 10 ^ t.length := Nat.mul_le_mul_right _ (by omega)
                omega
          have hh : isNum (c :: t) = true := by
            simp only [isNum, Bool.and_eq_true, decide_eq_true_eq, Bool.or_eq_true]
            refine ⟨⟨⟨⟨by simp, hlen⟩, ?_⟩, h1⟩, ?_⟩
            · rcases hz with hz | hz
              · exact .inl hz
              · right; simpa using hz
            · show numA 0 (c :: t) ≤ 2147483647; omega
          rw [hh] at h; cases h

/-- The two variables of the library that Atoi's errors read. -/
structure Glob (w : World) : Prop where
  syn : ∃ ev, w.cell? ⟨1, 0, none⟩ = some ev ∧ (ev = .nilIface ∨ ∃ te pe, ev = .iface te pe)
  rng : ∃ ev, w.cell? ⟨2, 0, none⟩ = some ev ∧ (ev = .nilIface ∨ ∃ te pe, ev = .iface te pe)
theorem Glob.below {w w' : World} (h : Glob w) (hb : Below w.heap.size w w') : Glob w' := by
  obtain ⟨e1, h1, k1⟩ := h.syn
  obtain ⟨e2, h2, k2⟩ := h.rng
  exact ⟨⟨e1, (hb.cell (p := ⟨1, 0, none⟩) (World.block_lt_of_cell? w _ h1)).trans h1, k1⟩, ⟨e2, (hb.cell (p := ⟨2, 0, none⟩) (World.block_lt_of_cell? w _ h2)).trans h2, k2⟩⟩

set_option maxHeartbeats 4000000 in
theorem numberSize_any (c : UInt8) (t : List UInt8) (hc : isDg c = true) (hz : runL (c :: t) ≤ 1 ∨ c ≠ 48) (hl : (c :: t).length ≤ 140737488355328) (w : World) (hg : Glob w) :
    Calls Tryd.prog 36 #[.string (str (c :: t))] w fun ev w' => ev = .returned (.int .i64 ((if isNum ((c :: t).take (runL (c :: t))) then runL (c :: t) else 0 : Nat) : Int)) ∧ Below w.heap.size w w' := by
  have R := runSize_any (c :: t) (by omega) w
  have hrl := runL_le (c :: t)
  have hsz := str_size (c :: t)
  have hE : (str (c :: t)).extract 0 (runL (c :: t)) = str ((c :: t).take (runL (c :: t))) := str_to _ _
  have hr : runL (c :: t) = runL t + 1 := by simp [runL, isNm, hc]
  obtain ⟨u, hu⟩ : ∃ u, (c :: t).take (runL (c :: t)) = c :: u := ⟨t.take (runL t), by rw [hr]; rfl⟩
  have hul : (c :: u).length = runL (c :: t) := by rw [← hu, List.length_take]; omega
  have hz' : (c :: u).length ≤ 1 ∨ c ≠ 48 := by rw [hul]; exact hz
  rw [hu] at hE ⊢
  have ed : (str (c :: u)).data.toList = c :: u := by simp [str]
  have hss : (str (c :: u)).size ≤ 140737488355328 := by rw [str_size, hul]; omega
  cases hN : isNum (c :: u)
  · obtain ⟨e1, g1, k1⟩ := hg.syn
    obtain ⟨e2, g2, k2⟩ := hg.rng
    rcases ha : Lib.atoiAll (c :: u) with v | _ | _
    rotate_left
    · skip
      have A := Tryd.strconv_Atoi_wrong (str (c :: u)) (by omega) (by rw [ed]; exact ha) e1 w g1 k1
      clear ha hN hg ed hu hul hz hz' hc hr hss g1 g2 k1 k2
      generalize str (c :: u) = S1 at *
      generalize str (c :: t) = S at *
      generalize (c :: t).length = n at *
      generalize runL (c :: t) = r at *
      go_enter Tryd.func36, Tryd.ntmps36
      go_wp2_with fail
      refine R.mono ?_
      rintro ev w2 ⟨rfl, rfl⟩
      go_wp2_with fail
      refine A.mono ?_
      rintro ev w3 ⟨N, rfl, -, -, hb⟩
      clear A R
      go_wp2_with fail
      go_ret
      exact ⟨rfl, hb⟩
    · skip
      have A := Tryd.strconv_Atoi_range (str (c :: u)) (by omega) (by rw [ed]; exact ha) e2 w g2 k2
      clear ha hN hg ed hu hul hz hz' hc hr hss g1 g2 k1 k2
      generalize Lib.atoiSat (str (c :: u)).data.toList = sat at *
      generalize str (c :: u) = S1 at *
      generalize str (c :: t) = S at *
      generalize (c :: t).length = n at *
      generalize runL (c :: t) = r at *
      go_enter Tryd.func36, Tryd.ntmps36
      go_wp2_with fail
      refine R.mono ?_
      rintro ev w2 ⟨rfl, rfl⟩
      go_wp2_with fail
      refine A.mono ?_
      rintro ev w3 ⟨N, rfl, -, -, hb⟩
      clear A R
      go_wp2_with fail
      go_ret
      exact ⟨rfl, hb⟩
    · skip
      have A := Tryd.strconv_Atoi_ok (str (c :: u)) (by omega) v (by rw [ed]; exact ha) w
      obtain ⟨v1, v2⟩ := atoi_not c u hc hz' hN v ha
      clear ha hN hg ed hu hul hz hz' hc hr hss g1 g2 k1 k2
      generalize str (c :: u) = S1 at *
      generalize str (c :: t) = S at *
      generalize (c :: t).length = n at *
      generalize runL (c :: t) = r at *
      go_enter Tryd.func36, Tryd.ntmps36
      go_wp2_with fail
      refine R.mono ?_
      rintro ev w2 ⟨rfl, rfl⟩
      go_wp2_with fail
      refine A.mono ?_
      rintro ev w3 ⟨rfl, hw⟩
      have hb : Below w2.heap.size w2 w3 := by
        rcases hw with rfl | ⟨t, rfl⟩
        · exact Below.refl _ _
        · exact Lib.bytesWorld_below _ _ _
      clear A R hw
      go_wp2_with fail
      go_ret
      exact ⟨rfl, hb⟩
  · obtain ⟨ha, hv⟩ := atoi_num c u hc hN
    have A := Tryd.strconv_Atoi_ok (str (c :: u)) (by omega) _ (by rw [ed]; exact ha) w
    rw [if_pos rfl]
    clear ha hN hg ed hu hul hz hz' hc hr hss
    generalize numV (c :: u) = v at *
    generalize str (c :: u) = S1 at *
    generalize str (c :: t) = S at *
    generalize (c :: t).length = n at *
    generalize runL (c :: t) = r at *
    go_enter Tryd.func36, Tryd.ntmps36
    go_wp2_with fail
    refine R.mono ?_
    rintro ev w2 ⟨rfl, rfl⟩
    go_wp2_with fail
    refine A.mono ?_
    rintro ev w3 ⟨rfl, hw⟩
    have hb : Below w2.heap.size w2 w3 := by
      rcases hw with rfl | ⟨t, rfl⟩
      · exact Below.refl _ _
      · exact Lib.bytesWorld_below _ _ _
    clear A R hw
    go_wp2_with fail
    go_ret
    exact ⟨rfl, hb⟩
end Go.Proofs.YtdnjcajbmibjiaaDoor
