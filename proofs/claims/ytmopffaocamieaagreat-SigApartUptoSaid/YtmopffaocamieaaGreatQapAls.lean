/-
  Texts: names, lifetimes, steps; rows of them, asked one by one.
-/
import Derived.Test.YtmopffaocamieaaGreatJapSub4
import Derived.Test.YtmopffaocamieaaGreatJapWor3
namespace Go.Proofs.YtmopffaocamieaaGreat
open Go.RowKit

theorem word_life {l : List UInt8} (h : isWord l = true) : lifeB l = true := by
  rcases word_cases h with rfl | rfl | rfl | rfl | rfl | rfl | rfl | rfl | rfl | rfl | rfl | rfl | rfl | rfl | rfl | rfl | rfl <;> decide
theorem life_or (l : List UInt8) : (nameB l || isWord l) = lifeB l := by
  rw [← life_name]
  cases h : isWord l
  · simp
  · rw [word_life h]; simp
def stepB (l : Bs) : Bool := decide (l = [42]) || nameB l
theorem nameB_calls_46 (l : Bs) (hl : l.length ≤ 9223372036854775807) (w : World) : Calls Tryz.prog 40 #[.string (str l)] w fun ev w' => ev = .returned (.bool (nameB l)) ∧ w' = w := name_any l hl w
theorem lifeB_calls_48 (l : Bs) (hl : l.length ≤ 9223372036854775807) (w : World) : Calls Tryz.prog 127 #[.string (str l)] w fun ev w' => ev = .returned (.bool (lifeB l)) ∧ w' = w := by
  have N := name_any l hl w
  have W := word_any l w
  rw [← life_or]
  generalize str l = S at *
  generalize isWord l = i at *
  cases hn : nameB l
  · rw [hn] at N
    clear hn
    go_enter Tryz.func127, Tryz.ntmps127
    go_wp2_with (first | (go_at_call 40; refine N.mono ?_; rintro ev w2 ⟨rfl, rfl⟩) | (go_at_call 79; refine W.mono ?_; rintro ev w2 ⟨rfl, rfl⟩))
    go_ret
    exact ⟨by simp, rfl⟩
  · rw [hn] at N
    clear hn
    go_enter Tryz.func127, Tryz.ntmps127
    go_wp2_with (first | (go_at_call 40; refine N.mono ?_; rintro ev w2 ⟨rfl, rfl⟩) | (go_at_call 79; refine W.mono ?_; rintro ev w2 ⟨rfl, rfl⟩))
    go_ret
    exact ⟨by simp, rfl⟩
theorem star_beq (l : Bs) : ((str l).toList == [42]) = decide (l = [42]) := by
  have := str_beq l [42]
  unfold str at this ⊢
  rw [ByteArray.toList_mk, ByteArray.toList_mk] at this
  rw [ByteArray.toList_mk]; exact this
theorem stepB_calls_130 (l : Bs) (hl : l.length ≤ 9223372036854775807) (w : World) : Calls Tryz.prog 210 #[.string (str l)] w fun ev w' => ev = .returned (.bool (stepB l)) ∧ w' = w := by
  have N := name_any l hl w
  unfold stepB
  have q := star_beq l
  generalize str l = S at *
  generalize nameB l = i at *
  by_cases hn : l = [42]
  · rw [decide_eq_true hn] at q
    rw [decide_eq_true hn]
    clear hn
    go_enter Tryz.func210, Tryz.ntmps210
    go_wp2_with fail
    go_ret
    exact ⟨by simp, rfl⟩
  · rw [decide_eq_false hn] at q
    rw [decide_eq_false hn]
    clear hn
    go_enter Tryz.func210, Tryz.ntmps210
    go_wp2_with (go_at_call 40; refine N.mono ?_; rintro ev w2 ⟨rfl, rfl⟩)
    go_ret
    exact ⟨by simp, rfl⟩

set_option maxHeartbeats 4000000 in
theorem allNames {K : Ctx} {w : World} {v : Value} {l : List Bs} (ha : Strs K w v l) :
    Calls Tryz.prog 165 #[v, .func (.func 40) #[] #[]] w fun ev w' => ev = .returned (.bool (l.all nameB)) ∧ w' = w := by
  obtain ⟨ao, cap, rfl, hc, hb, hA⟩ := ha.shape
  have hsm := K.small
  have hl9 : l.length ≤ 9223372036854775807 := by omega
  have HA : Hid (∀ i (h : i < l.length), ∃ b o, ao = some ⟨b, o, none⟩ ∧ w.cell? ⟨b, o + i, none⟩ = some (.string (str l[i])) ∧ Calls Tryz.prog 40 #[.string (str l[i])] w fun ev w' => ev = .returned (.bool (nameB l[i])) ∧ w' = w) := by
    intro i h
    obtain ⟨b, o, e, _, cs, hl, hcs, hx⟩ := hA i h
    have := hcs 0 (by omega)
    rw [hx.1] at this
    exact ⟨b, o, e, by simpa using this, nameB_calls_46 _ (by have := hx.2; omega) w⟩
  obtain ⟨B, hB⟩ : ∃ B, l.all nameB = B := ⟨_, rfl⟩
  rw [hB]
  have HB : Hid (l.all nameB = B) := hB
  clear hA hB ha hb
  go_enter Tryz.func165, Tryz.ntmps165
  go_wp2_with fail
  go_loopw [9] (fun i wr => ∃ k : Nat, k ≤ l.length ∧ i = .int .i64 k ∧ (∀ j (h : j < l.length), j < k → nameB l[j] = true) ∧ wr = w) (fun i _ => l.length - (intOf i).toNat)
  case atStart => exact ⟨0, by omega, rfl, fun j _ h => by omega, rfl⟩
  case round =>
    obtain ⟨k, hk, rfl, hj, rfl⟩ := hrel
    have HJ : Hid (∀ j (h : j < l.length), j < k → nameB l[j] = true) := hj
    clear hj
    by_cases h3 : k < l.length
    · obtain ⟨b, o, e, hcell, D⟩ := HA.out k h3
      subst e
      have i1 : (k : Int) < (l.length : Int) := by omega
      cases hp : nameB l[k]
      · have HF : Hid (B = false) := by
          show B = false
          rw [← HB.out, List.all_eq_false]
          exact ⟨_, List.getElem_mem h3, by rw [hp]; simp⟩
        rw [hp] at D
        clear hp HA
        generalize str l[k] = X at *
        go_wp2_with (go_at_call 40; refine D.mono ?_; rintro ev w2 ⟨rfl, rfl⟩)
        go_ret
        exact ⟨by rw [HF.out]; rfl, by trivial⟩
      · have HJ' : Hid (∀ j (h : j < l.length), j < k + 1 → nameB l[j] = true) := by
          intro j h hjk
          rcases Nat.lt_or_ge j k with h' | h'
          · exact HJ.out j h h'
          · obtain rfl : j = k := by omega
            exact hp
        rw [hp] at D
        clear hp HA
        generalize str l[k] = X at *
        go_wp2_with (go_at_call 40; refine D.mono ?_; rintro ev w2 ⟨rfl, rfl⟩)
        go_roundw
        case rel => exact ⟨k + 1, by omega, by go_num, HJ'.out, by trivial⟩
        case measure => simp [intOf]; omega
    · have HF : Hid (B = true) := by
        show B = true
        rw [← HB.out, List.all_eq_true]
        intro x hx
        obtain ⟨j, hj, rfl⟩ := List.getElem_of_mem hx
        exact HJ.out j hj (by omega)
      have i1 : ¬ (k : Int) < (l.length : Int) := by omega
      go_wp2_with fail
      go_ret
      exact ⟨by rw [HF.out]; rfl, by trivial⟩
set_option maxHeartbeats 4000000 in
theorem partsNames {K : Ctx} {w : World} {v : Value} {l : List Bs} (ha : Strs K w v l) :
    Calls Tryz.prog 126 #[v, .func (.func 40) #[] #[]] w fun ev w' => ev = .returned (.bool (decide (l.length ≤ 64) && l.all nameB)) ∧ w' = w := by
  have D := allNames ha
  obtain ⟨ao, cap, rfl, hc, hb, _⟩ := ha.shape
  have hl9 : l.length ≤ 9223372036854775807 := by omega
  clear hb ha
  generalize l.all nameB = A at *
  by_cases h : l.length ≤ 64
  · have b1 : decide ((l.length : Int) ≤ 64) = true := by simp; omega
    have i1 : (l.length : Int) ≤ 64 := by omega
    rw [decide_eq_true h]
    go_enter Tryz.func126, Tryz.ntmps126
    go_wp2_with (go_at_call 165; refine D.mono ?_; rintro ev w2 ⟨rfl, rfl⟩)
    go_ret
    exact ⟨by simp, rfl⟩
  · have b1 : decide ((l.length : Int) ≤ 64) = false := by simp; omega
    have i1 : ¬ (l.length : Int) ≤ 64 := by omega
    rw [decide_eq_false h]
    go_enter Tryz.func126, Tryz.ntmps126
    go_wp2_with fail
    go_ret
    exact ⟨by simp, rfl⟩

set_option maxHeartbeats 4000000 in
theorem allLives {K : Ctx} {w : World} {v : Value} {l : List Bs} (ha : Strs K w v l) :
    Calls Tryz.prog 165 #[v, .func (.func 127) #[] #[]] w fun ev w' => ev = .returned (.bool (l.all lifeB)) ∧ w' = w := by
  obtain ⟨ao, cap, rfl, hc, hb, hA⟩ := ha.shape
  have hsm := K.small
  have hl9 : l.length ≤ 9223372036854775807 := by omega
  have HA : Hid (∀ i (h : i < l.length), ∃ b o, ao = some ⟨b, o, none⟩ ∧ w.cell? ⟨b, o + i, none⟩ = some (.string (str l[i])) ∧ Calls Tryz.prog 127 #[.string (str l[i])] w fun ev w' => ev = .returned (.bool (lifeB l[i])) ∧ w' = w) := by
    intro i h
    obtain ⟨b, o, e, _, cs, hl, hcs, hx⟩ := hA i h
    have := hcs 0 (by omega)
    rw [hx.1] at this
    exact ⟨b, o, e, by simpa using this, lifeB_calls_48 _ (by have := hx.2; omega) w⟩
  obtain ⟨B, hB⟩ : ∃ B, l.all lifeB = B := ⟨_, rfl⟩
  rw [hB]
  have HB : Hid (l.all lifeB = B) := hB
  clear hA hB ha hb
  go_enter Tryz.func165, Tryz.ntmps165
  go_wp2_with fail
  go_loopw [9] (fun i wr => ∃ k : Nat, k ≤ l.length ∧ i = .int .i64 k ∧ (∀ j (h : j < l.length), j < k → lifeB l[j] = true) ∧ wr = w) (fun i _ => l.length - (intOf i).toNat)
  case atStart => exact ⟨0, by omega, rfl, fun j _ h => by omega, rfl⟩
  case round =>
    obtain ⟨k, hk, rfl, hj, rfl⟩ := hrel
    have HJ : Hid (∀ j (h : j < l.length), j < k → lifeB l[j] = true) := hj
    clear hj
    by_cases h3 : k < l.length
    · obtain ⟨b, o, e, hcell, D⟩ := HA.out k h3
      subst e
      have i1 : (k : Int) < (l.length : Int) := by omega
      cases hp : lifeB l[k]
      · have HF : Hid (B = false) := by
          show B = false
          rw [← HB.out, List.all_eq_false]
          exact ⟨_, List.getElem_mem h3, by rw [hp]; simp⟩
        rw [hp] at D
        clear hp HA
        generalize str l[k] = X at *
        go_wp2_with (go_at_call 127; refine D.mono ?_; rintro ev w2 ⟨rfl, rfl⟩)
        go_ret
        exact ⟨by rw [HF.out]; rfl, by trivial⟩
      · have HJ' : Hid (∀ j (h : j < l.length), j < k + 1 → lifeB l[j] = true) := by
          intro j h hjk
          rcases Nat.lt_or_ge j k with h' | h'
          · exact HJ.out j h h'
          · obtain rfl : j = k := by omega
            exact hp
        rw [hp] at D
        clear hp HA
        generalize str l[k] = X at *
        go_wp2_with (go_at_call 127; refine D.mono ?_; rintro ev w2 ⟨rfl, rfl⟩)
        go_roundw
        case rel => exact ⟨k + 1, by omega, by go_num, HJ'.out, by trivial⟩
        case measure => simp [intOf]; omega
    · have HF : Hid (B = true) := by
        show B = true
        rw [← HB.out, List.all_eq_true]
        intro x hx
        obtain ⟨j, hj, rfl⟩ := List.getElem_of_mem hx
        exact HJ.out j hj (by omega)
      have i1 : ¬ (k : Int) < (l.length : Int) := by omega
      go_wp2_with fail
      go_ret
      exact ⟨by rw [HF.out]; rfl, by trivial⟩
set_option maxHeartbeats 4000000 in
theorem partsLives {K : Ctx} {w : World} {v : Value} {l : List Bs} (ha : Strs K w v l) :
    Calls Tryz.prog 126 #[v, .func (.func 127) #[] #[]] w fun ev w' => ev = .returned (.bool (decide (l.length ≤ 64) && l.all lifeB)) ∧ w' = w := by
  have D := allLives ha
  obtain ⟨ao, cap, rfl, hc, hb, _⟩ := ha.shape
  have hl9 : l.length ≤ 9223372036854775807 := by omega
  clear hb ha
  generalize l.all lifeB = A at *
  by_cases h : l.length ≤ 64
  · have b1 : decide ((l.length : Int) ≤ 64) = true := by simp; omega
    have i1 : (l.length : Int) ≤ 64 := by omega
    rw [decide_eq_true h]
    go_enter Tryz.func126, Tryz.ntmps126
    go_wp2_with (go_at_call 165; refine D.mono ?_; rintro ev w2 ⟨rfl, rfl⟩)
    go_ret
    exact ⟨by simp, rfl⟩
  · have b1 : decide ((l.length : Int) ≤ 64) = false := by simp; omega
    have i1 : ¬ (l.length : Int) ≤ 64 := by omega
    rw [decide_eq_false h]
    go_enter Tryz.func126, Tryz.ntmps126
    go_wp2_with fail
    go_ret
    exact ⟨by simp, rfl⟩

set_option maxHeartbeats 4000000 in
theorem allSteps {K : Ctx} {w : World} {v : Value} {l : List Bs} (ha : Strs K w v l) :
    Calls Tryz.prog 165 #[v, .func (.func 210) #[] #[]] w fun ev w' => ev = .returned (.bool (l.all stepB)) ∧ w' = w := by
  obtain ⟨ao, cap, rfl, hc, hb, hA⟩ := ha.shape
  have hsm := K.small
  have hl9 : l.length ≤ 9223372036854775807 := by omega
  have HA : Hid (∀ i (h : i < l.length), ∃ b o, ao = some ⟨b, o, none⟩ ∧ w.cell? ⟨b, o + i, none⟩ = some (.string (str l[i])) ∧ Calls Tryz.prog 210 #[.string (str l[i])] w fun ev w' => ev = .returned (.bool (stepB l[i])) ∧ w' = w) := by
    intro i h
    obtain ⟨b, o, e, _, cs, hl, hcs, hx⟩ := hA i h
    have := hcs 0 (by omega)
    rw [hx.1] at this
    exact ⟨b, o, e, by simpa using this, stepB_calls_130 _ (by have := hx.2; omega) w⟩
  obtain ⟨B, hB⟩ : ∃ B, l.all stepB = B := ⟨_, rfl⟩
  rw [hB]
  have HB : Hid (l.all stepB = B) := hB
  clear hA hB ha hb
  go_enter Tryz.func165, Tryz.ntmps165
  go_wp2_with fail
  go_loopw [9] (fun i wr => ∃ k : Nat, k ≤ l.length ∧ i = .int .i64 k ∧ (∀ j (h : j < l.length), j < k → stepB l[j] = true) ∧ wr = w) (fun i _ => l.length - (intOf i).toNat)
  case atStart => exact ⟨0, by omega, rfl, fun j _ h => by omega, rfl⟩
  case round =>
    obtain ⟨k, hk, rfl, hj, rfl⟩ := hrel
    have HJ : Hid (∀ j (h : j < l.length), j < k → stepB l[j] = true) := hj
    clear hj
    by_cases h3 : k < l.length
    · obtain ⟨b, o, e, hcell, D⟩ := HA.out k h3
      subst e
      have i1 : (k : Int) < (l.length : Int) := by omega
      cases hp : stepB l[k]
      · have HF : Hid (B = false) := by
          show B = false
          rw [← HB.out, List.all_eq_false]
          exact ⟨_, List.getElem_mem h3, by rw [hp]; simp⟩
        rw [hp] at D
        clear hp HA
        generalize str l[k] = X at *
        go_wp2_with (go_at_call 210; refine D.mono ?_; rintro ev w2 ⟨rfl, rfl⟩)
        go_ret
        exact ⟨by rw [HF.out]; rfl, by trivial⟩
      · have HJ' : Hid (∀ j (h : j < l.length), j < k + 1 → stepB l[j] = true) := by
          intro j h hjk
          rcases Nat.lt_or_ge j k with h' | h'
          · exact HJ.out j h h'
          · obtain rfl : j = k := by omega
            exact hp
        rw [hp] at D
        clear hp HA
        generalize str l[k] = X at *
        go_wp2_with (go_at_call 210; refine D.mono ?_; rintro ev w2 ⟨rfl, rfl⟩)
        go_roundw
        case rel => exact ⟨k + 1, by omega, by go_num, HJ'.out, by trivial⟩
        case measure => simp [intOf]; omega
    · have HF : Hid (B = true) := by
        show B = true
        rw [← HB.out, List.all_eq_true]
        intro x hx
        obtain ⟨j, hj, rfl⟩ := List.getElem_of_mem hx
        exact HJ.out j hj (by omega)
      have i1 : ¬ (k : Int) < (l.length : Int) := by omega
      go_wp2_with fail
      go_ret
      exact ⟨by rw [HF.out]; rfl, by trivial⟩
set_option maxHeartbeats 4000000 in
theorem partsSteps {K : Ctx} {w : World} {v : Value} {l : List Bs} (ha : Strs K w v l) :
    Calls Tryz.prog 126 #[v, .func (.func 210) #[] #[]] w fun ev w' => ev = .returned (.bool (decide (l.length ≤ 64) && l.all stepB)) ∧ w' = w := by
  have D := allSteps ha
  obtain ⟨ao, cap, rfl, hc, hb, _⟩ := ha.shape
  have hl9 : l.length ≤ 9223372036854775807 := by omega
  clear hb ha
  generalize l.all stepB = A at *
  by_cases h : l.length ≤ 64
  · have b1 : decide ((l.length : Int) ≤ 64) = true := by simp; omega
    have i1 : (l.length : Int) ≤ 64 := by omega
    rw [decide_eq_true h]
    go_enter Tryz.func126, Tryz.ntmps126
    go_wp2_with (go_at_call 165; refine D.mono ?_; rintro ev w2 ⟨rfl, rfl⟩)
    go_ret
    exact ⟨by simp, rfl⟩
  · have b1 : decide ((l.length : Int) ≤ 64) = false := by simp; omega
    have i1 : ¬ (l.length : Int) ≤ 64 := by omega
    rw [decide_eq_false h]
    go_enter Tryz.func126, Tryz.ntmps126
    go_wp2_with fail
    go_ret
    exact ⟨by simp, rfl⟩
end Go.Proofs.YtmopffaocamieaaGreat
