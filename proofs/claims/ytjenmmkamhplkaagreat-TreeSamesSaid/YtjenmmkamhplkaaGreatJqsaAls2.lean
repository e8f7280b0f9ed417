/-
  The texts Als, Smt, joined.
-/
import Derived.Test.YtjenmmkamhplkaaGreatJqsaSub4
import Derived.Test.YtjenmmkamhplkaaGreatJqsaByt6
/- Texts: names, lifetimes, steps; rows of them, asked one by one. -/
namespace Go.Proofs.YtjenmmkamhplkaaGreat
open Go.RowKit
theorem word_life {l : List UInt8} (h : isWord l = true) : lifeB l = true := by
  rcases word_cases h with rfl | rfl | rfl | rfl | rfl | rfl | rfl | rfl | rfl | rfl | rfl | rfl | rfl | rfl | rfl | rfl | rfl <;> decide
theorem life_or (l : List UInt8) : (nameB l || isWord l) = lifeB l := by
  rw [← life_name]
  cases h : isWord l
  . simp
  . rw [word_life h]; simp
def stepB (l : Bs) : Bool := decide (l = [42]) || nameB l
theorem nameB_calls_46 (l : Bs) (hl : l.length <= 9223372036854775807) (w : World) : Calls Tryz.prog 46 #[.string (str l)] w fun ev w' => ev = .returned (.bool (nameB l)) /\ w' = w := name_any l hl w
theorem lifeB_calls_48 (l : Bs) (hl : l.length <= 9223372036854775807) (w : World) : Calls Tryz.prog 48 #[.string (str l)] w fun ev w' => ev = .returned (.bool (lifeB l)) /\ w' = w := by
  have N := name_any l hl w
  have W := word_any l w
  rw [← life_or]
  generalize str l = S at *
  generalize isWord l = i at *
  cases hn : nameB l
  . rw [hn] at N
    clear hn
    go_enter Tryz.func48, Tryz.ntmps48
    go_wp2_with (first | (go_at_call 46; refine N.mono ?_; rintro ev w2 ⟨rfl, rfl⟩) | (go_at_call 81; refine W.mono ?_; rintro ev w2 ⟨rfl, rfl⟩))
    go_ret
    exact ⟨by simp, rfl⟩
  . rw [hn] at N
    clear hn
    go_enter Tryz.func48, Tryz.ntmps48
    go_wp2_with (first | (go_at_call 46; refine N.mono ?_; rintro ev w2 ⟨rfl, rfl⟩) | (go_at_call 81; refine W.mono ?_; rintro ev w2 ⟨rfl, rfl⟩))
    go_ret
    exact ⟨by simp, rfl⟩
theorem star_beq (l : Bs) : ((str l).toList == [42]) = decide (l = [42]) := by
  have := str_beq l [42]
  unfold str at this ⊢
  rw [ByteArray.toList_mk, ByteArray.toList_mk] at this
  rw [ByteArray.toList_mk]; exact this
theorem stepB_calls_130 (l : Bs) (hl : l.length <= 9223372036854775807) (w : World) : Calls Tryz.prog 130 #[.string (str l)] w fun ev w' => ev = .returned (.bool (stepB l)) /\ w' = w := by
  have N := name_any l hl w
  unfold stepB
  have q := star_beq l
  generalize str l = S at *
  generalize nameB l = i at *
  by_cases hn : l = [42]
  . rw [decide_eq_true hn] at q
    rw [decide_eq_true hn]
    clear hn
    go_enter Tryz.func130, Tryz.ntmps130
    go_wp2_with fail
    go_ret
    exact ⟨by simp, rfl⟩
  . rw [decide_eq_false hn] at q
    rw [decide_eq_false hn]
    clear hn
    go_enter Tryz.func130, Tryz.ntmps130
    go_wp2_with (go_at_call 46; refine N.mono ?_; rintro ev w2 ⟨rfl, rfl⟩)
    go_ret
    exact ⟨by simp, rfl⟩
set_option maxHeartbeats 4000000 in
theorem allNames {K : Ctx} {w : World} {v : Value} {l : List Bs} (ha : Strs K w v l) :
    Calls Tryz.prog 82 #[v, .func (.func 46) #[] #[]] w fun ev w' => ev = .returned (.bool (l.all nameB)) /\ w' = w := by
  obtain ⟨ao, cap, rfl, hc, hb, hA⟩ := ha.shape
  have hsm := K.small
  have hl9 : l.length <= 9223372036854775807 := by omega
  have HA : Hid (∀ i (h : i < l.length), ∃ b o, ao = some ⟨b, o, none⟩ /\ w.cell? ⟨b, o + i, none⟩ = some (.string (str l[i])) /\ Calls Tryz.prog 46 #[.string (str l[i])] w fun ev w' => ev = .returned (.bool (nameB l[i])) /\ w' = w) := by
    intro i h
    obtain ⟨b, o, e, _, cs, hl, hcs, hx⟩ := hA i h
    have := hcs 0 (by omega)
    rw [hx.1] at this
    exact ⟨b, o, e, by simpa using this, nameB_calls_46 _ (by have := hx.2; omega) w⟩
  obtain ⟨B, hB⟩ : ∃ B, l.all nameB = B := ⟨_, rfl⟩
  rw [hB]
  have HB : Hid (l.all nameB = B) := hB
  clear hA hB ha hb
  go_enter Tryz.func82, Tryz.ntmps82
  go_wp2_with fail
  go_loopw [9] (fun i wr => ∃ k : Nat, k <= l.length /\ i = .int .i64 k /\ (∀ j (h : j < l.length), j < k -> nameB l[j] = true) /\ wr = w) (fun i _ => l.length - (intOf i).toNat)
  case atStart => exact ⟨0, by omega, rfl, fun j _ h => by omega, rfl⟩
  case round =>
    obtain ⟨k, hk, rfl, hj, rfl⟩ := hrel
    have HJ : Hid (∀ j (h : j < l.length), j < k -> nameB l[j] = true) := hj
    clear hj
    by_cases h3 : k < l.length
    . obtain ⟨b, o, e, hcell, D⟩ := HA.out k h3
      subst e
      have i1 : (k : Int) < (l.length : Int) := by omega
      cases hp : nameB l[k]
      . have HF : Hid (B = false) := by
          show B = false
          rw [← HB.out, List.all_eq_false]
          exact ⟨_, List.getElem_mem h3, by rw [hp]; simp⟩
        rw [hp] at D
        clear hp HA
        generalize str l[k] = X at *
        go_wp2_with (go_at_call 46; refine D.mono ?_; rintro ev w2 ⟨rfl, rfl⟩)
        go_ret
        exact ⟨by rw [HF.out]; rfl, by trivial⟩
      . have HJ' : Hid (∀ j (h : j < l.length), j < k + 1 -> nameB l[j] = true) := by
          intro j h hjk
          rcases Nat.lt_or_ge j k with h' | h'
          . exact HJ.out j h h'
          . obtain rfl : j = k := by omega
            exact hp
        rw [hp] at D
        clear hp HA
        generalize str l[k] = X at *
        go_wp2_with (go_at_call 46; refine D.mono ?_; rintro ev w2 ⟨rfl, rfl⟩)
        go_roundw
        case rel => exact ⟨k + 1, by omega, by go_num, HJ'.out, by trivial⟩
        case measure => simp [intOf]; omega
    . have HF : Hid (B = true) := by
        show B = true
        rw [← HB.out, List.all_eq_true]
        intro x hx
        obtain ⟨j, hj, rfl⟩ := List.getElem_of_mem hx
        exact HJ.out j hj (by omega)
      have i1 : ¬ (k : Int) < (l.length : Int) := by omega
      go_wp2_with fail
      go_ret
      exact ⟨by rw [HF.out]; rfl, by trivial⟩
set_option maxHeartbeats 4000000 in
theorem partsNames {K : Ctx} {w : World} {v : Value} {l : List Bs} (ha : Strs K w v l) :
    Calls Tryz.prog 47 #[v, .func (.func 46) #[] #[]] w fun ev w' => ev = .returned (.bool (decide (l.length <= 64) && l.all nameB)) /\ w' = w := by
  have D := allNames ha
  obtain ⟨ao, cap, rfl, hc, hb, _⟩ := ha.shape
  have hl9 : l.length <= 9223372036854775807 := by omega
  clear hb ha
  generalize l.all nameB = A at *
  by_cases h : l.length <= 64
  . have b1 : decide ((l.length : Int) <= 64) = true := by simp; omega
    have i1 : (l.length : Int) <= 64 := by omega
    rw [decide_eq_true h]
    go_enter Tryz.func47, Tryz.ntmps47
    go_wp2_with (go_at_call 82; refine D.mono ?_; rintro ev w2 ⟨rfl, rfl⟩)
    go_ret
    exact ⟨by simp, rfl⟩
  . have b1 : decide ((l.length : Int) <= 64) = false := by simp; omega
    have i1 : ¬ (l.length : Int) <= 64 := by omega
    rw [decide_eq_false h]
    go_enter Tryz.func47, Tryz.ntmps47
    go_wp2_with fail
    go_ret
    exact ⟨by simp, rfl⟩
set_option maxHeartbeats 4000000 in
theorem allLives {K : Ctx} {w : World} {v : Value} {l : List Bs} (ha : Strs K w v l) :
    Calls Tryz.prog 82 #[v, .func (.func 48) #[] #[]] w fun ev w' => ev = .returned (.bool (l.all lifeB)) /\ w' = w := by
  obtain ⟨ao, cap, rfl, hc, hb, hA⟩ := ha.shape
  have hsm := K.small
  have hl9 : l.length <= 9223372036854775807 := by omega
  have HA : Hid (∀ i (h : i < l.length), ∃ b o, ao = some ⟨b, o, none⟩ /\ w.cell? ⟨b, o + i, none⟩ = some (.string (str l[i])) /\ Calls Tryz.prog 48 #[.string (str l[i])] w fun ev w' => ev = .returned (.bool (lifeB l[i])) /\ w' = w) := by
    intro i h
    obtain ⟨b, o, e, _, cs, hl, hcs, hx⟩ := hA i h
    have := hcs 0 (by omega)
    rw [hx.1] at this
    exact ⟨b, o, e, by simpa using this, lifeB_calls_48 _ (by have := hx.2; omega) w⟩
  obtain ⟨B, hB⟩ : ∃ B, l.all lifeB = B := ⟨_, rfl⟩
  rw [hB]
  have HB : Hid (l.all lifeB = B) := hB
  clear hA hB ha hb
  go_enter Tryz.func82, Tryz.ntmps82
  go_wp2_with fail
  go_loopw [9] (fun i wr => ∃ k : Nat, k <= l.length /\ i = .int .i64 k /\ (∀ j (h : j < l.length), j < k -> lifeB l[j] = true) /\ wr = w) (fun i _ => l.length - (intOf i).toNat)
  case atStart => exact ⟨0, by omega, rfl, fun j _ h => by omega, rfl⟩
  case round =>
    obtain ⟨k, hk, rfl, hj, rfl⟩ := hrel
    have HJ : Hid (∀ j (h : j < l.length), j < k -> lifeB l[j] = true) := hj
    clear hj
    by_cases h3 : k < l.length
    . obtain ⟨b, o, e, hcell, D⟩ := HA.out k h3
      subst e
      have i1 : (k : Int) < (l.length : Int) := by omega
      cases hp : lifeB l[k]
      . have HF : Hid (B = false) := by
          show B = false
          rw [← HB.out, List.all_eq_false]
          exact ⟨_, List.getElem_mem h3, by rw [hp]; simp⟩
        rw [hp] at D
        clear hp HA
        generalize str l[k] = X at *
        go_wp2_with (go_at_call 48; refine D.mono ?_; rintro ev w2 ⟨rfl, rfl⟩)
        go_ret
        exact ⟨by rw [HF.out]; rfl, by trivial⟩
      . have HJ' : Hid (∀ j (h : j < l.length), j < k + 1 -> lifeB l[j] = true) := by
          intro j h hjk
          rcases Nat.lt_or_ge j k with h' | h'
          . exact HJ.out j h h'
          . obtain rfl : j = k := by omega
            exact hp
        rw [hp] at D
        clear hp HA
        generalize str l[k] = X at *
        go_wp2_with (go_at_call 48; refine D.mono ?_; rintro ev w2 ⟨rfl, rfl⟩)
        go_roundw
        case rel => exact ⟨k + 1, by omega, by go_num, HJ'.out, by trivial⟩
        case measure => simp [intOf]; omega
    . have HF : Hid (B = true) := by
        show B = true
        rw [← HB.out, List.all_eq_true]
        intro x hx
        obtain ⟨j, hj, rfl⟩ := List.getElem_of_mem hx
        exact HJ.out j hj (by omega)
      have i1 : ¬ (k : Int) < (l.length : Int) := by omega
      go_wp2_with fail
      go_ret
      exact ⟨by rw [HF.out]; rfl, by trivial⟩
set_option maxHeartbeats 4000000 in
theorem partsLives {K : Ctx} {w : World} {v : Value} {l : List Bs} (ha : Strs K w v l) :
    Calls Tryz.prog 47 #[v, .func (.func 48) #[] #[]] w fun ev w' => ev = .returned (.bool (decide (l.length <= 64) && l.all lifeB)) /\ w' = w := by
  have D := allLives ha
  obtain ⟨ao, cap, rfl, hc, hb, _⟩ := ha.shape
  have hl9 : l.length <= 9223372036854775807 := by omega
  clear hb ha
  generalize l.all lifeB = A at *
  by_cases h : l.length <= 64
  . have b1 : decide ((l.length : Int) <= 64) = true := by simp; omega
    have i1 : (l.length : Int) <= 64 := by omega
    rw [decide_eq_true h]
    go_enter Tryz.func47, Tryz.ntmps47
    go_wp2_with (go_at_call 82; refine D.mono ?_; rintro ev w2 ⟨rfl, rfl⟩)
    go_ret
    exact ⟨by simp, rfl⟩
  . have b1 : decide ((l.length : Int) <= 64) = false := by simp; omega
    have i1 : ¬ (l.length : Int) <= 64 := by omega
    rw [decide_eq_false h]
    go_enter Tryz.func47, Tryz.ntmps47
    go_wp2_with fail
    go_ret
    exact ⟨by simp, rfl⟩
set_option maxHeartbeats 4000000 in
theorem allSteps {K : Ctx} {w : World} {v : Value} {l : List Bs} (ha : Strs K w v l) :
    Calls Tryz.prog 82 #[v, .func (.func 130) #[] #[]] w fun ev w' => ev = .returned (.bool (l.all stepB)) /\ w' = w := by
  obtain ⟨ao, cap, rfl, hc, hb, hA⟩ := ha.shape
  have hsm := K.small
  have hl9 : l.length <= 9223372036854775807 := by omega
  have HA : Hid (∀ i (h : i < l.length), ∃ b o, ao = some ⟨b, o, none⟩ /\ w.cell? ⟨b, o + i, none⟩ = some (.string (str l[i])) /\ Calls Tryz.prog 130 #[.string (str l[i])] w fun ev w' => ev = .returned (.bool (stepB l[i])) /\ w' = w) := by
    intro i h
    obtain ⟨b, o, e, _, cs, hl, hcs, hx⟩ := hA i h
    have := hcs 0 (by omega)
    rw [hx.1] at this
    exact ⟨b, o, e, by simpa using this, stepB_calls_130 _ (by have := hx.2; omega) w⟩
  obtain ⟨B, hB⟩ : ∃ B, l.all stepB = B := ⟨_, rfl⟩
  rw [hB]
  have HB : Hid (l.all stepB = B) := hB
  clear hA hB ha hb
  go_enter Tryz.func82, Tryz.ntmps82
  go_wp2_with fail
  go_loopw [9] (fun i wr => ∃ k : Nat, k <= l.length /\ i = .int .i64 k /\ (∀ j (h : j < l.length), j < k -> stepB l[j] = true) /\ wr = w) (fun i _ => l.length - (intOf i).toNat)
  case atStart => exact ⟨0, by omega, rfl, fun j _ h => by omega, rfl⟩
  case round =>
    obtain ⟨k, hk, rfl, hj, rfl⟩ := hrel
    have HJ : Hid (∀ j (h : j < l.length), j < k -> stepB l[j] = true) := hj
    clear hj
    by_cases h3 : k < l.length
    . obtain ⟨b, o, e, hcell, D⟩ := HA.out k h3
      subst e
      have i1 : (k : Int) < (l.length : Int) := by omega
      cases hp : stepB l[k]
      . have HF : Hid (B = false) := by
          show B = false
          rw [← HB.out, List.all_eq_false]
          exact ⟨_, List.getElem_mem h3, by rw [hp]; simp⟩
        rw [hp] at D
        clear hp HA
        generalize str l[k] = X at *
        go_wp2_with (go_at_call 130; refine D.mono ?_; rintro ev w2 ⟨rfl, rfl⟩)
        go_ret
        exact ⟨by rw [HF.out]; rfl, by trivial⟩
      . have HJ' : Hid (∀ j (h : j < l.length), j < k + 1 -> stepB l[j] = true) := by
          intro j h hjk
          rcases Nat.lt_or_ge j k with h' | h'
          . exact HJ.out j h h'
          . obtain rfl : j = k := by omega
            exact hp
        rw [hp] at D
        clear hp HA
        generalize str l[k] = X at *
        go_wp2_with (go_at_call 130; refine D.mono ?_; rintro ev w2 ⟨rfl, rfl⟩)
        go_roundw
        case rel => exact ⟨k + 1, by omega, by go_num, HJ'.out, by trivial⟩
        case measure => simp [intOf]; omega
    . have HF : Hid (B = true) := by
        show B = true
        rw [← HB.out, List.all_eq_true]
        intro x hx
        obtain ⟨j, hj, rfl⟩ := List.getElem_of_mem hx
        exact HJ.out j hj (by omega)
      have i1 : ¬ (k : Int) < (l.length : Int) := by omega
      go_wp2_with fail
      go_ret
      exact ⟨by rw [HF.out]; rfl, by trivial⟩
set_option maxHeartbeats 4000000 in
theorem partsSteps {K : Ctx} {w : World} {v : Value} {l : List Bs} (ha : Strs K w v l) :
    Calls Tryz.prog 47 #[v, .func (.func 130) #[] #[]] w fun ev w' => ev = .returned (.bool (decide (l.length <= 64) && l.all stepB)) /\ w' = w := by
  have D := allSteps ha
  obtain ⟨ao, cap, rfl, hc, hb, _⟩ := ha.shape
  have hl9 : l.length <= 9223372036854775807 := by omega
  clear hb ha
  generalize l.all stepB = A at *
  by_cases h : l.length <= 64
  . have b1 : decide ((l.length : Int) <= 64) = true := by simp; omega
    have i1 : (l.length : Int) <= 64 := by omega
    rw [decide_eq_true h]
    go_enter Tryz.func47, Tryz.ntmps47
    go_wp2_with (go_at_call 82; refine D.mono ?_; rintro ev w2 ⟨rfl, rfl⟩)
    go_ret
    exact ⟨by simp, rfl⟩
  . have b1 : decide ((l.length : Int) <= 64) = false := by simp; omega
    have i1 : ¬ (l.length : Int) <= 64 := by omega
    rw [decide_eq_false h]
    go_enter Tryz.func47, Tryz.ntmps47
    go_wp2_with fail
    go_ret
    exact ⟨by simp, rfl⟩

/- Types, places, operands, fields, lifetimes: are two the same? The program says it. -/
set_option maxHeartbeats 8000000 in
set_option maxRecDepth 20000 in
theorem sameType_of {n : Nat} (ih : ∀ {K : Ctx} (w : World) {va vb : Value} {la lb : List Ty}, Ar 4 72 (TyAt n K w) K w va la -> Ar 4 72 (TyAt n K w) K w vb lb -> ∀ (B : Bool), (B = true ↔ la = lb) -> Calls Tryz.prog 78 #[va, vb, .func (.func 41) #[] #[]] w fun ev w' => ev = .returned (.bool B) /\ ∃ m, w' = w.drewN m)
    {K : Ctx} {w : World} {x y : Ty} {b o b' o' : Nat} {cs cs' : List Value} (hc : ∀ j, j < 4 -> w.cell? ⟨b, o + j, none⟩ = cs[j]?) (hc' : ∀ j, j < 4 -> w.cell? ⟨b', o' + j, none⟩ = cs'[j]?)
    (hx : TyAt (n + 1) K w cs x) (hy : TyAt (n + 1) K w cs' y) (B : Bool) (hB : B = true ↔ x = y) :
    Calls Tryz.prog 41 #[.pointer (some ⟨b, o, none⟩), .pointer (some ⟨b', o', none⟩)] w fun ev w' => ev = .returned (.bool B) /\ ∃ m, w' = w.drewN m := by
  obtain ⟨v2, v3, rfl, hl1, h2, h3⟩ := id hx
  obtain ⟨u2, u3, rfl, hl2, g2, g3⟩ := id hy
  have c0 : w.cell? ⟨b, o, none⟩ = some (.int .i64 x.kind) := hc 0 (by decide)
  have d0 : w.cell? ⟨b', o', none⟩ = some (.int .i64 y.kind) := hc' 0 (by decide)
  have c1 : w.cell? ⟨b, o + 1, none⟩ = some (.string (str x.name)) := hc 1 (by decide)
  have d1 : w.cell? ⟨b', o' + 1, none⟩ = some (.string (str y.name)) := hc' 1 (by decide)
  have c2 : w.cell? ⟨b, o + 2, none⟩ = some v2 := hc 2 (by decide)
  have d2 : w.cell? ⟨b', o' + 2, none⟩ = some u2 := hc' 2 (by decide)
  have c3 : w.cell? ⟨b, o + 3, none⟩ = some v3 := hc 3 (by decide)
  have d3 : w.cell? ⟨b', o' + 3, none⟩ = some u3 := hc' 3 (by decide)
  have HB : Hid (B = true ↔ x = y) := hB
  clear hB
  have q0 : (x.kind == y.kind) = true ↔ x.kind = y.kind := beq_iff_eq
  have q1 : ((str x.name).toList == (str y.name).toList) = true ↔ x.name = y.name := by rw [str_beq]; exact decide_eq_true_iff
  have q2 : Hid (∀ (B : Bool), (B = true ↔ x.lives = y.lives) -> ∀ n, Calls Tryz.prog 69 #[v2, u2] (w.drewN n) fun ev w' => ev = .returned (.bool B) /\ ∃ m, w' = (w.drewN n).drewN m) := by
    intro B hB n
    exact equal_any (h2.below (Below.drewN _ _ _)) (g2.below (Below.drewN _ _ _)) B hB
  have q3 : Hid (∀ (B : Bool), (B = true ↔ x.elem = y.elem) -> ∀ n, Calls Tryz.prog 78 #[v3, u3, .func (.func 41) #[] #[]] (w.drewN n) fun ev w' => ev = .returned (.bool B) /\ ∃ m, w' = (w.drewN n).drewN m) := by
    intro B hB n
    exact ih (w.drewN n) (h3.mono (Below.drewN _ _ _) fun _ _ _ h => h.below (Below.drewN _ _ _)) (g3.mono (Below.drewN _ _ _) fun _ _ _ h => h.below (Below.drewN _ _ _)) B hB
  clear hc hc'
  by_cases e0 : x.kind = y.kind
  rotate_left
  . have HF : Hid (B = false) := by
      show B = false
      cases hB : B
      . rfl
      . exact absurd (congrArg Ty.kind (HB.out.1 hB)) e0
    replace q0 := Bool.eq_false_iff.2 (fun h => e0 (q0.1 h))
    clear HB q1 q2 q3 e0 hx hy c1 d1 c2 d2 c3 d3 hl1 hl2 h2 h3 g2 g3 ih
    generalize x.kind = s0 at *
    generalize y.kind = t0 at *
    go_enter Tryz.func41, Tryz.ntmps41
    go_wp2_with fail
    go_quiet (fail)
    go_wp2_with fail
    go_ret
    exact ⟨by rw [HF.out]; rfl, _, rfl⟩
  by_cases e1 : x.name = y.name
  rotate_left
  . have HF : Hid (B = false) := by
      show B = false
      cases hB : B
      . rfl
      . exact absurd (congrArg Ty.name (HB.out.1 hB)) e1
    replace q0 := q0.2 e0
    replace q1 := Bool.eq_false_iff.2 (fun h => e1 (q1.1 h))
    clear HB q2 q3 e0 e1 hx hy c2 d2 c3 d3 hl1 hl2 h2 h3 g2 g3 ih
    generalize x.kind = s0 at *
    generalize y.kind = t0 at *
    generalize str x.name = s1 at *
    generalize str y.name = t1 at *
    go_enter Tryz.func41, Tryz.ntmps41
    go_wp2_with fail
    go_quiet (fail)
    go_wp2_with fail
    go_ret
    exact ⟨by rw [HF.out]; rfl, _, rfl⟩
  by_cases e2 : x.lives = y.lives
  rotate_left
  . have HF : Hid (B = false) := by
      show B = false
      cases hB : B
      . rfl
      . exact absurd (congrArg Ty.lives (HB.out.1 hB)) e2
    replace q0 := q0.2 e0
    replace q1 := q1.2 e1
    have r2 := hid0 (q2.out false ⟨fun h => (by cases h), fun h => absurd h e2⟩)
    clear HB q2 q3 e0 e1 e2 hx hy c3 d3 hl1 hl2 h2 h3 g2 g3 ih
    generalize x.kind = s0 at *
    generalize y.kind = t0 at *
    generalize str x.name = s1 at *
    generalize str y.name = t1 at *
    go_enter Tryz.func41, Tryz.ntmps41
    go_wp2_with fail
    go_quiet (first | (go_at_call 69; exact Calls.quiet_of (r2.out _)))
    go_wp2_with fail
    go_ret
    exact ⟨by rw [HF.out]; rfl, _, rfl⟩
  by_cases e3 : x.elem = y.elem
  rotate_left
  . have HF : Hid (B = false) := by
      show B = false
      cases hB : B
      . rfl
      . exact absurd (congrArg Ty.elem (HB.out.1 hB)) e3
    replace q0 := q0.2 e0
    replace q1 := q1.2 e1
    have r2 := hid0 (q2.out true ⟨fun _ => e2, fun _ => rfl⟩)
    have r3 := hid0 (q3.out false ⟨fun h => (by cases h), fun h => absurd h e3⟩)
    clear HB q2 q3 e0 e1 e2 e3 hx hy  hl1 hl2 h2 h3 g2 g3 ih
    generalize x.kind = s0 at *
    generalize y.kind = t0 at *
    generalize str x.name = s1 at *
    generalize str y.name = t1 at *
    go_enter Tryz.func41, Tryz.ntmps41
    go_wp2_with fail
    go_quiet (first | (go_at_call 69; exact Calls.quiet_of (r2.out _)) | (go_at_call 78; exact Calls.quiet_of (r3.out _)))
    go_wp2_with fail
    go_ret
    exact ⟨by rw [HF.out]; rfl, _, rfl⟩
  have HF : Hid (B = true) := by
    refine HB.out.2 ?_
    clear q0 q1 q2 q3 HB hx hy c0 d0 c1 d1 c2 d2 c3 d3 hl1 hl2 h2 h3 g2 g3 ih
    cases x; cases y; simp only at e0 e1 e2 e3; subst e0 e1 e2 e3; rfl
  replace q0 := q0.2 e0
  replace q1 := q1.2 e1
  have r2 := hid0 (q2.out true ⟨fun _ => e2, fun _ => rfl⟩)
  have r3 := hid0 (q3.out true ⟨fun _ => e3, fun _ => rfl⟩)
  clear HB q2 q3 e0 e1 e2 e3 hx hy  hl1 hl2 h2 h3 g2 g3 ih
  generalize x.kind = s0 at *
  generalize y.kind = t0 at *
  generalize str x.name = s1 at *
  generalize str y.name = t1 at *
  go_enter Tryz.func41, Tryz.ntmps41
  go_wp2_with fail
  go_quiet (first | (go_at_call 69; exact Calls.quiet_of (r2.out _)) | (go_at_call 78; exact Calls.quiet_of (r3.out _)))
  go_wp2_with fail
  go_ret
  exact ⟨by rw [HF.out]; rfl, _, rfl⟩
theorem sameType_at : ∀ (n : Nat) {K : Ctx} {w : World} {x y : Ty} {b o b' o' : Nat} {cs cs' : List Value}, (∀ j, j < 4 -> w.cell? ⟨b, o + j, none⟩ = cs[j]?) -> (∀ j, j < 4 -> w.cell? ⟨b', o' + j, none⟩ = cs'[j]?) ->
    TyAt n K w cs x -> TyAt n K w cs' y -> ∀ (B : Bool), (B = true ↔ x = y) ->
    Calls Tryz.prog 41 #[.pointer (some ⟨b, o, none⟩), .pointer (some ⟨b', o', none⟩)] w fun ev w' => ev = .returned (.bool B) /\ ∃ m, w' = w.drewN m
  | 0, _, _, _, _, _, _, _, _, _, _, _, _, hx, _, _, _ => hx.elim
  | n + 1, _, _, _, _, _, _, _, _, _, _, hc, hc', hx, hy, B, hB => sameType_of (fun w _ _ _ _ ha hb B hB => sameTypes_of (fun _ _ _ _ _ _ _ _ m B hc hc' hx hy hB =>
      sameType_at n (w := w.drewN m) hc hc' (hx.below (Below.drewN _ _ _)) (hy.below (Below.drewN _ _ _)) B hB) ha hb B hB) hc hc' hx hy B hB
theorem TyAt.more {K : Ctx} {w : World} : ∀ {n : Nat} {cs : List Value} {t : Ty}, TyAt n K w cs t -> TyAt (n + 1) K w cs t
  | 0, _, _, h => h.elim
  | n + 1, _, _, h => by
    obtain ⟨v2, v3, e, h1, h2, h3⟩ := h
    exact ⟨v2, v3, e, h1, h2, h3.mono (Below.refl _ _) fun _ _ _ h => TyAt.more h⟩
theorem TyAt.upto {K : Ctx} {w : World} {n m : Nat} {cs : List Value} {t : Ty} (h : TyAt n K w cs t) (hm : n <= m) : TyAt m K w cs t := by
  induction hm with
  | refl => exact h
  | step _ ih => exact ih.more
theorem sameType_any {K : Ctx} {w : World} {x y : Ty} {b o b' o' : Nat} {cs cs' : List Value} (hc : ∀ j, j < 4 -> w.cell? ⟨b, o + j, none⟩ = cs[j]?) (hc' : ∀ j, j < 4 -> w.cell? ⟨b', o' + j, none⟩ = cs'[j]?)
    (hx : IsTy K w cs x) (hy : IsTy K w cs' y) (B : Bool) (hB : B = true ↔ x = y) :
    Calls Tryz.prog 41 #[.pointer (some ⟨b, o, none⟩), .pointer (some ⟨b', o', none⟩)] w fun ev w' => ev = .returned (.bool B) /\ ∃ m, w' = w.drewN m := by
  obtain ⟨n, hx⟩ := hx
  obtain ⟨m, hy⟩ := hy
  exact sameType_at (max n m) hc hc' (hx.upto (by omega)) (hy.upto (by omega)) B hB
set_option maxHeartbeats 8000000 in
set_option maxRecDepth 20000 in
theorem samePlace_any  
    {K : Ctx} {w : World} {x y : Pl} {b o b' o' : Nat} {cs cs' : List Value} (hc : ∀ j, j < 2 -> w.cell? ⟨b, o + j, none⟩ = cs[j]?) (hc' : ∀ j, j < 2 -> w.cell? ⟨b', o' + j, none⟩ = cs'[j]?)
    (hx : PlAt K w cs x) (hy : PlAt K w cs' y) (B : Bool) (hB : B = true ↔ x = y) :
    Calls Tryz.prog 99 #[.pointer (some ⟨b, o, none⟩), .pointer (some ⟨b', o', none⟩)] w fun ev w' => ev = .returned (.bool B) /\ ∃ m, w' = w.drewN m := by
  obtain ⟨v1, rfl, hl1, h2⟩ := id hx
  obtain ⟨u1, rfl, hl2, g2⟩ := id hy
  have c0 : w.cell? ⟨b, o, none⟩ = some (.string (str x.name)) := hc 0 (by decide)
  have d0 : w.cell? ⟨b', o', none⟩ = some (.string (str y.name)) := hc' 0 (by decide)
  have c1 : w.cell? ⟨b, o + 1, none⟩ = some v1 := hc 1 (by decide)
  have d1 : w.cell? ⟨b', o' + 1, none⟩ = some u1 := hc' 1 (by decide)
  have HB : Hid (B = true ↔ x = y) := hB
  clear hB
  have q0 : ((str x.name).toList == (str y.name).toList) = true ↔ x.name = y.name := by rw [str_beq]; exact decide_eq_true_iff
  have q1 : Hid (∀ (B : Bool), (B = true ↔ x.path = y.path) -> ∀ n, Calls Tryz.prog 69 #[v1, u1] (w.drewN n) fun ev w' => ev = .returned (.bool B) /\ ∃ m, w' = (w.drewN n).drewN m) := by
    intro B hB n
    exact equal_any (h2.below (Below.drewN _ _ _)) (g2.below (Below.drewN _ _ _)) B hB
  clear hc hc'
  by_cases e0 : x.name = y.name
  rotate_left
  . have HF : Hid (B = false) := by
      show B = false
      cases hB : B
      . rfl
      . exact absurd (congrArg Pl.name (HB.out.1 hB)) e0
    replace q0 := Bool.eq_false_iff.2 (fun h => e0 (q0.1 h))
    clear HB q1 e0 hx hy c1 d1 hl1 hl2 h2 g2
    generalize str x.name = s0 at *
    generalize str y.name = t0 at *
    go_enter Tryz.func99, Tryz.ntmps99
    go_wp2_with fail
    go_quiet (fail)
    go_wp2_with fail
    go_ret
    exact ⟨by rw [HF.out]; rfl, _, rfl⟩
  by_cases e1 : x.path = y.path
  rotate_left
  . have HF : Hid (B = false) := by
      show B = false
      cases hB : B
      . rfl
      . exact absurd (congrArg Pl.path (HB.out.1 hB)) e1
    replace q0 := q0.2 e0
    have r1 := hid0 (q1.out false ⟨fun h => (by cases h), fun h => absurd h e1⟩)
    clear HB q1 e0 e1 hx hy  hl1 hl2 h2 g2
    generalize str x.name = s0 at *
    generalize str y.name = t0 at *
    go_enter Tryz.func99, Tryz.ntmps99
    go_wp2_with fail
    go_quiet (first | (go_at_call 69; exact Calls.quiet_of (r1.out _)))
    go_wp2_with fail
    go_ret
    exact ⟨by rw [HF.out]; rfl, _, rfl⟩
  have HF : Hid (B = true) := by
    refine HB.out.2 ?_
    clear q0 q1 HB hx hy c0 d0 c1 d1 hl1 hl2 h2 g2
    cases x; cases y; simp only at e0 e1; subst e0 e1; rfl
  replace q0 := q0.2 e0
  have r1 := hid0 (q1.out true ⟨fun _ => e1, fun _ => rfl⟩)
  clear HB q1 e0 e1 hx hy  hl1 hl2 h2 g2
  generalize str x.name = s0 at *
  generalize str y.name = t0 at *
  go_enter Tryz.func99, Tryz.ntmps99
  go_wp2_with fail
  go_quiet (first | (go_at_call 69; exact Calls.quiet_of (r1.out _)))
  go_wp2_with fail
  go_ret
  exact ⟨by rw [HF.out]; rfl, _, rfl⟩
set_option maxHeartbeats 8000000 in
set_option maxRecDepth 20000 in
theorem sameLife_any  
    {K : Ctx} {w : World} {x y : Lfe} {b o b' o' : Nat} {cs cs' : List Value} (hc : ∀ j, j < 2 -> w.cell? ⟨b, o + j, none⟩ = cs[j]?) (hc' : ∀ j, j < 2 -> w.cell? ⟨b', o' + j, none⟩ = cs'[j]?)
    (hx : LfeAt K w cs x) (hy : LfeAt K w cs' y) (B : Bool) (hB : B = true ↔ x = y) :
    Calls Tryz.prog 73 #[.pointer (some ⟨b, o, none⟩), .pointer (some ⟨b', o', none⟩)] w fun ev w' => ev = .returned (.bool B) /\ ∃ m, w' = w.drewN m := by
  obtain ⟨v1, rfl, hl1, h2⟩ := id hx
  obtain ⟨u1, rfl, hl2, g2⟩ := id hy
  have c0 : w.cell? ⟨b, o, none⟩ = some (.string (str x.name)) := hc 0 (by decide)
  have d0 : w.cell? ⟨b', o', none⟩ = some (.string (str y.name)) := hc' 0 (by decide)
  have c1 : w.cell? ⟨b, o + 1, none⟩ = some v1 := hc 1 (by decide)
  have d1 : w.cell? ⟨b', o' + 1, none⟩ = some u1 := hc' 1 (by decide)
  have HB : Hid (B = true ↔ x = y) := hB
  clear hB
  have q0 : ((str x.name).toList == (str y.name).toList) = true ↔ x.name = y.name := by rw [str_beq]; exact decide_eq_true_iff
  have q1 : Hid (∀ (B : Bool), (B = true ↔ x.over = y.over) -> ∀ n, Calls Tryz.prog 69 #[v1, u1] (w.drewN n) fun ev w' => ev = .returned (.bool B) /\ ∃ m, w' = (w.drewN n).drewN m) := by
    intro B hB n
    exact equal_any (h2.below (Below.drewN _ _ _)) (g2.below (Below.drewN _ _ _)) B hB
  clear hc hc'
  by_cases e0 : x.name = y.name
  rotate_left
  . have HF : Hid (B = false) := by
      show B = false
      cases hB : B
      . rfl
      . exact absurd (congrArg Lfe.name (HB.out.1 hB)) e0
    replace q0 := Bool.eq_false_iff.2 (fun h => e0 (q0.1 h))
    clear HB q1 e0 hx hy c1 d1 hl1 hl2 h2 g2
    generalize str x.name = s0 at *
    generalize str y.name = t0 at *
    go_enter Tryz.func73, Tryz.ntmps73
    go_wp2_with fail
    go_quiet (fail)
    go_wp2_with fail
    go_ret
    exact ⟨by rw [HF.out]; rfl, _, rfl⟩
  by_cases e1 : x.over = y.over
  rotate_left
  . have HF : Hid (B = false) := by
      show B = false
      cases hB : B
      . rfl
      . exact absurd (congrArg Lfe.over (HB.out.1 hB)) e1
    replace q0 := q0.2 e0
    have r1 := hid0 (q1.out false ⟨fun h => (by cases h), fun h => absurd h e1⟩)
    clear HB q1 e0 e1 hx hy  hl1 hl2 h2 g2
    generalize str x.name = s0 at *
    generalize str y.name = t0 at *
    go_enter Tryz.func73, Tryz.ntmps73
    go_wp2_with fail
    go_quiet (first | (go_at_call 69; exact Calls.quiet_of (r1.out _)))
    go_wp2_with fail
    go_ret
    exact ⟨by rw [HF.out]; rfl, _, rfl⟩
  have HF : Hid (B = true) := by
    refine HB.out.2 ?_
    clear q0 q1 HB hx hy c0 d0 c1 d1 hl1 hl2 h2 g2
    cases x; cases y; simp only at e0 e1; subst e0 e1; rfl
  replace q0 := q0.2 e0
  have r1 := hid0 (q1.out true ⟨fun _ => e1, fun _ => rfl⟩)
  clear HB q1 e0 e1 hx hy  hl1 hl2 h2 g2
  generalize str x.name = s0 at *
  generalize str y.name = t0 at *
  go_enter Tryz.func73, Tryz.ntmps73
  go_wp2_with fail
  go_quiet (first | (go_at_call 69; exact Calls.quiet_of (r1.out _)))
  go_wp2_with fail
  go_ret
  exact ⟨by rw [HF.out]; rfl, _, rfl⟩
set_option maxHeartbeats 8000000 in
set_option maxRecDepth 20000 in
theorem sameOper_any  
    {K : Ctx} {w : World} {x y : Opr} {b o b' o' : Nat} {cs cs' : List Value} (hc : ∀ j, j < 4 -> w.cell? ⟨b, o + j, none⟩ = cs[j]?) (hc' : ∀ j, j < 4 -> w.cell? ⟨b', o' + j, none⟩ = cs'[j]?)
    (hx : OprAt K w cs x) (hy : OprAt K w cs' y) (B : Bool) (hB : B = true ↔ x = y) :
    Calls Tryz.prog 101 #[.pointer (some ⟨b, o, none⟩), .pointer (some ⟨b', o', none⟩)] w fun ev w' => ev = .returned (.bool B) /\ ∃ m, w' = w.drewN m := by
  obtain ⟨ps, rfl, h2⟩ := id hx
  obtain ⟨qs, rfl, g2⟩ := id hy
  have l1 := h2.len
  have l2 := g2.len
  have p1 := part_at hc [.int .i64 x.kind, .int .i64 x.n] ps [] (k := 2) (n := 2) rfl l1 (by decide) (by simp)
  have p2 := part_at hc' [.int .i64 y.kind, .int .i64 y.n] qs [] (k := 2) (n := 2) rfl l2 (by decide) (by simp)
  have c0 : w.cell? ⟨b, o, none⟩ = some (.int .i64 x.kind) := hc 0 (by decide)
  have d0 : w.cell? ⟨b', o', none⟩ = some (.int .i64 y.kind) := hc' 0 (by decide)
  have c1 : w.cell? ⟨b, o + 1, none⟩ = some (.int .i64 x.n) := hc 1 (by decide)
  have d1 : w.cell? ⟨b', o' + 1, none⟩ = some (.int .i64 y.n) := hc' 1 (by decide)
  have HB : Hid (B = true ↔ x = y) := hB
  clear hB
  have q0 : (x.kind == y.kind) = true ↔ x.kind = y.kind := beq_iff_eq
  have q1 : (x.n == y.n) = true ↔ x.n = y.n := beq_iff_eq
  have q2 : Hid (∀ (B : Bool), (B = true ↔ x.place = y.place) -> ∀ n, Calls Tryz.prog 99 #[.pointer (some ⟨b, o + 2, none⟩), .pointer (some ⟨b', o' + 2, none⟩)] (w.drewN n) fun ev w' => ev = .returned (.bool B) /\ ∃ m, w' = (w.drewN n).drewN m) := by
    intro B hB n
    exact samePlace_any (w := w.drewN n) p1 p2 (h2.below (Below.drewN _ _ _)) (g2.below (Below.drewN _ _ _)) B hB
  clear hc hc'
  by_cases e0 : x.kind = y.kind
  rotate_left
  . have HF : Hid (B = false) := by
      show B = false
      cases hB : B
      . rfl
      . exact absurd (congrArg Opr.kind (HB.out.1 hB)) e0
    replace q0 := Bool.eq_false_iff.2 (fun h => e0 (q0.1 h))
    clear HB q1 q2 e0 hx hy c1 d1 h2 g2 l1 l2 p1 p2
    generalize x.kind = s0 at *
    generalize y.kind = t0 at *
    go_enter Tryz.func101, Tryz.ntmps101
    go_wp2_with fail
    go_quiet (fail)
    go_wp2_with fail
    go_ret
    exact ⟨by rw [HF.out]; rfl, _, rfl⟩
  by_cases e1 : x.n = y.n
  rotate_left
  . have HF : Hid (B = false) := by
      show B = false
      cases hB : B
      . rfl
      . exact absurd (congrArg Opr.n (HB.out.1 hB)) e1
    replace q0 := q0.2 e0
    replace q1 := Bool.eq_false_iff.2 (fun h => e1 (q1.1 h))
    clear HB q2 e0 e1 hx hy  h2 g2 l1 l2 p1 p2
    generalize x.kind = s0 at *
    generalize y.kind = t0 at *
    generalize x.n = s1 at *
    generalize y.n = t1 at *
    go_enter Tryz.func101, Tryz.ntmps101
    go_wp2_with fail
    go_quiet (fail)
    go_wp2_with fail
    go_ret
    exact ⟨by rw [HF.out]; rfl, _, rfl⟩
  by_cases e2 : x.place = y.place
  rotate_left
  . have HF : Hid (B = false) := by
      show B = false
      cases hB : B
      . rfl
      . exact absurd (congrArg Opr.place (HB.out.1 hB)) e2
    replace q0 := q0.2 e0
    replace q1 := q1.2 e1
    have r2 := hid0 (q2.out false ⟨fun h => (by cases h), fun h => absurd h e2⟩)
    clear HB q2 e0 e1 e2 hx hy  h2 g2 l1 l2 p1 p2
    generalize x.kind = s0 at *
    generalize y.kind = t0 at *
    generalize x.n = s1 at *
    generalize y.n = t1 at *
    go_enter Tryz.func101, Tryz.ntmps101
    go_wp2_with fail
    go_quiet (first | (go_at_call 99; exact Calls.quiet_of (r2.out _)))
    go_wp2_with fail
    go_ret
    exact ⟨by rw [HF.out]; rfl, _, rfl⟩
  have HF : Hid (B = true) := by
    refine HB.out.2 ?_
    clear q0 q1 q2 HB hx hy c0 d0 c1 d1 h2 g2 l1 l2 p1 p2
    cases x; cases y; simp only at e0 e1 e2; subst e0 e1 e2; rfl
  replace q0 := q0.2 e0
  replace q1 := q1.2 e1
  have r2 := hid0 (q2.out true ⟨fun _ => e2, fun _ => rfl⟩)
  clear HB q2 e0 e1 e2 hx hy  h2 g2 l1 l2 p1 p2
  generalize x.kind = s0 at *
  generalize y.kind = t0 at *
  generalize x.n = s1 at *
  generalize y.n = t1 at *
  go_enter Tryz.func101, Tryz.ntmps101
  go_wp2_with fail
  go_quiet (first | (go_at_call 99; exact Calls.quiet_of (r2.out _)))
  go_wp2_with fail
  go_ret
  exact ⟨by rw [HF.out]; rfl, _, rfl⟩
set_option maxHeartbeats 8000000 in
set_option maxRecDepth 20000 in
theorem sameField_any  
    {K : Ctx} {w : World} {x y : Fld} {b o b' o' : Nat} {cs cs' : List Value} (hc : ∀ j, j < 6 -> w.cell? ⟨b, o + j, none⟩ = cs[j]?) (hc' : ∀ j, j < 6 -> w.cell? ⟨b', o' + j, none⟩ = cs'[j]?)
    (hx : FldAt K w cs x) (hy : FldAt K w cs' y) (B : Bool) (hB : B = true ↔ x = y) :
    Calls Tryz.prog 71 #[.pointer (some ⟨b, o, none⟩), .pointer (some ⟨b', o', none⟩)] w fun ev w' => ev = .returned (.bool B) /\ ∃ m, w' = w.drewN m := by
  obtain ⟨ps, rfl, hl1, h2⟩ := id hx
  obtain ⟨qs, rfl, hl2, g2⟩ := id hy
  have l1 := h2.len
  have l2 := g2.len
  have p1 := part_at hc [.bool x.mu, .string (str x.name)] ps [] (k := 2) (n := 4) rfl l1 (by decide) (by simp)
  have p2 := part_at hc' [.bool y.mu, .string (str y.name)] qs [] (k := 2) (n := 4) rfl l2 (by decide) (by simp)
  have c0 : w.cell? ⟨b, o, none⟩ = some (.bool x.mu) := hc 0 (by decide)
  have d0 : w.cell? ⟨b', o', none⟩ = some (.bool y.mu) := hc' 0 (by decide)
  have c1 : w.cell? ⟨b, o + 1, none⟩ = some (.string (str x.name)) := hc 1 (by decide)
  have d1 : w.cell? ⟨b', o' + 1, none⟩ = some (.string (str y.name)) := hc' 1 (by decide)
  have HB : Hid (B = true ↔ x = y) := hB
  clear hB
  have q0 : (x.mu == y.mu) = true ↔ x.mu = y.mu := beq_iff_eq
  have q1 : ((str x.name).toList == (str y.name).toList) = true ↔ x.name = y.name := by rw [str_beq]; exact decide_eq_true_iff
  have q2 : Hid (∀ (B : Bool), (B = true ↔ x.ty = y.ty) -> ∀ n, Calls Tryz.prog 41 #[.pointer (some ⟨b, o + 2, none⟩), .pointer (some ⟨b', o' + 2, none⟩)] (w.drewN n) fun ev w' => ev = .returned (.bool B) /\ ∃ m, w' = (w.drewN n).drewN m) := by
    intro B hB n
    exact sameType_any (w := w.drewN n) p1 p2 (h2.below (Below.drewN _ _ _)) (g2.below (Below.drewN _ _ _)) B hB
  clear hc hc'
  by_cases e0 : x.mu = y.mu
  rotate_left
  . have HF : Hid (B = false) := by
      show B = false
      cases hB : B
      . rfl
      . exact absurd (congrArg Fld.mu (HB.out.1 hB)) e0
    replace q0 := Bool.eq_false_iff.2 (fun h => e0 (q0.1 h))
    clear HB q1 q2 e0 hx hy c1 d1 hl1 hl2 h2 g2 l1 l2 p1 p2
    generalize x.mu = s0 at *
    generalize y.mu = t0 at *
    go_enter Tryz.func71, Tryz.ntmps71
    go_wp2_with fail
    go_quiet (fail)
    go_wp2_with fail
    go_ret
    exact ⟨by rw [HF.out]; rfl, _, rfl⟩
  by_cases e1 : x.name = y.name
  rotate_left
  . have HF : Hid (B = false) := by
      show B = false
      cases hB : B
      . rfl
      . exact absurd (congrArg Fld.name (HB.out.1 hB)) e1
    replace q0 := q0.2 e0
    replace q1 := Bool.eq_false_iff.2 (fun h => e1 (q1.1 h))
    clear HB q2 e0 e1 hx hy  hl1 hl2 h2 g2 l1 l2 p1 p2
    generalize x.mu = s0 at *
    generalize y.mu = t0 at *
    generalize str x.name = s1 at *
    generalize str y.name = t1 at *
    go_enter Tryz.func71, Tryz.ntmps71
    go_wp2_with fail
    go_quiet (fail)
    go_wp2_with fail
    go_ret
    exact ⟨by rw [HF.out]; rfl, _, rfl⟩
  by_cases e2 : x.ty = y.ty
  rotate_left
  . have HF : Hid (B = false) := by
      show B = false
      cases hB : B
      . rfl
      . exact absurd (congrArg Fld.ty (HB.out.1 hB)) e2
    replace q0 := q0.2 e0
    replace q1 := q1.2 e1
    have r2 := hid0 (q2.out false ⟨fun h => (by cases h), fun h => absurd h e2⟩)
    clear HB q2 e0 e1 e2 hx hy  hl1 hl2 h2 g2 l1 l2 p1 p2
    generalize x.mu = s0 at *
    generalize y.mu = t0 at *
    generalize str x.name = s1 at *
    generalize str y.name = t1 at *
    go_enter Tryz.func71, Tryz.ntmps71
    go_wp2_with fail
    go_quiet (first | (go_at_call 41; exact Calls.quiet_of (r2.out _)))
    go_wp2_with fail
    go_ret
    exact ⟨by rw [HF.out]; rfl, _, rfl⟩
  have HF : Hid (B = true) := by
    refine HB.out.2 ?_
    clear q0 q1 q2 HB hx hy c0 d0 c1 d1 hl1 hl2 h2 g2 l1 l2 p1 p2
    cases x; cases y; simp only at e0 e1 e2; subst e0 e1 e2; rfl
  replace q0 := q0.2 e0
  replace q1 := q1.2 e1
  have r2 := hid0 (q2.out true ⟨fun _ => e2, fun _ => rfl⟩)
  clear HB q2 e0 e1 e2 hx hy  hl1 hl2 h2 g2 l1 l2 p1 p2
  generalize x.mu = s0 at *
  generalize y.mu = t0 at *
  generalize str x.name = s1 at *
  generalize str y.name = t1 at *
  go_enter Tryz.func71, Tryz.ntmps71
  go_wp2_with fail
  go_quiet (first | (go_at_call 41; exact Calls.quiet_of (r2.out _)))
  go_wp2_with fail
  go_ret
  exact ⟨by rw [HF.out]; rfl, _, rfl⟩
end Go.Proofs.YtjenmmkamhplkaaGreat
