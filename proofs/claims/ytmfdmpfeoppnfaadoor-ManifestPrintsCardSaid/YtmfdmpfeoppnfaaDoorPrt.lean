/-
  ManifestPrints, whatever the crates.
-/
import Derived.Test.YtmfdmpfeoppnfaaDoorXpr
import Derived.Test.YtmfdmpfeoppnfaaDoorTol
namespace Go.Proofs.YtmfdmpfeoppnfaaDoor
open Go.RowKit

theorem Srs.take {w : World} {ao : Option Addr} {cap : Nat} {L : List Src} (h : Srs w (.slice ao L.length cap) L) {n : Nat} (hn : n ≤ L.length) : Srs w (.slice ao n cap) (L.take n) := by
  obtain ⟨ao', cap', e, h1, h2, h3⟩ := h.shape
  cases e
  have hl : (L.take n).length = n := by rw [List.length_take]; omega
  refine ⟨ao, cap, by rw [hl], by rw [hl]; omega, by rw [hl]; omega, fun i hi => ?_⟩
  rw [hl] at hi
  have e : (L.take n).getD i Src.zero = L.getD i Src.zero := by
    rw [getD_eq L i _ (by omega), getD_eq (L.take n) i _ (by omega), List.getElem_take]
  rw [e]
  exact h3 i (by omega)
theorem deps_len {B : Nat} : ∀ (D : List Bs), (∀ d ∈ D, d.length ≤ B) → (D.flatMap fun d => (32 : UInt8) :: d).length ≤ D.length * (B + 1)
  | [], _ => by simp
  | d :: r, h => by
    have h1 := deps_len r (fun x hx => h x (List.mem_cons_of_mem _ hx))
    have h2 := h d (List.mem_cons_self)
    rw [List.flatMap_cons, List.length_append, List.length_cons, List.length_cons, Nat.add_mul]
    omega
theorem crT_len {B : Nat} {x : Src} (hn : x.name.length ≤ B) (ht : x.text.length ≤ B) (hd : x.deps.length ≤ 70) (hb : ∀ d ∈ x.deps, d.length ≤ B) : (crT x).length ≤ 72 * (B + 1) + 6 := by
  have h1 := deps_len x.deps hb
  have h2 : x.deps.length * (B + 1) ≤ 70 * (B + 1) := Nat.mul_le_mul_right _ hd
  have h3 : (if x.deps.length = 0 then ([] : Bs) else [32, 58]).length ≤ 2 := by split <;> simp
  unfold crT hdP
  rw [List.take_length]
  simp only [List.length_append, List.length_cons, List.length_nil]
  omega
theorem textF_len {K : Nat} : ∀ (L : List Src), (∀ x ∈ L, (crT x).length ≤ K) → (textF L).length ≤ L.length * K
  | [], _ => by simp [textF]
  | x :: r, h => by
    have h1 := textF_len r (fun y hy => h y (List.mem_cons_of_mem _ hy))
    have h2 := h x (List.mem_cons_self)
    show (textF (x :: r)).length ≤ (r.length + 1) * K
    have e : textF (x :: r) = crT x ++ textF r := by unfold textF; rw [List.flatMap_cons]
    rw [e, List.length_append, Nat.add_mul, Nat.one_mul]
    omega
/-- All is as the statement lets it be. -/
theorem prints_len {M : List Src} (hl : LimS M) (hM : M.length ≤ 10) (hj : ∀ j, j < M.length → (M.getD j Src.zero).text.length ≤ 300 ∧ (M.getD j Src.zero).deps.length ≤ 70) : (textF M).length ≤ 9223372036854775807 := by
  have h := textF_len (K := 72 * (140737488355328 + 1) + 6) M (fun x hx => by
    obtain ⟨i, hi, rfl⟩ := List.mem_iff_getElem.1 hx
    have h1 := hj i hi
    rw [getD_eq M i _ hi] at h1
    obtain ⟨h2, h3, h4⟩ := hl _ hx
    exact crT_len h2 h3 h1.2 h4)
  have h2 : M.length * (72 * (140737488355328 + 1) + 6) ≤ 10 * (72 * (140737488355328 + 1) + 6) := Nat.mul_le_mul_right _ hM
  omega
set_option maxHeartbeats 16000000 in
set_option maxRecDepth 20000 in
theorem prints_walk (v : Value) (L : List Src) (w : World) (m : Int) (hm : w.cell? ⟨0, 0, none⟩ = some (.int .i64 m)) (h : Srs w v L) (hl : LimS L) :
    Calls Tryd.prog 5 #[v] w fun ev w' => ev = .returned (.bool true) ∧ Below w.heap.size w w' := by
  have TO : Hid (∀ y, Below w.heap.size w y → Calls Tryd.prog 9 #[] y fun ev w' => ev = .returned (.bool true) ∧ Below y.heap.size y w') := fun y hy => told_any y m (Below.cellOf hy hm)
  have PR : Hid (∀ u M, Srs w u M → LimS M → Calls Tryd.prog 16 #[u] w (PriPost w (printF M))) := fun u M hu hM => print_any w u M hu hM m hm
  clear hm
  obtain ⟨ao, cap, rfl, h1, h2, -⟩ := h.shape
  by_cases h10 : L.length ≤ 10
  · obtain ⟨n, hn⟩ : ∃ n, n = L.length := ⟨_, rfl⟩
    have HM : Hid (Srs w (.slice ao n cap) L) := by rw [hn]; exact h
    have HLM := hid0 hl
    have ALN : Aside (L.length = n) := hn.symm
    rw [← hn] at h1 h2 h10 ⊢
    clear hn
    have l10 : ¬ (10 : Int) < (n : Int) := by omega
    have HC := hid0 (show ∀ i, i < n → ∃ b o dv, ao = some ⟨b, o, none⟩ ∧ w.cell? ⟨b, o + i * 3, none⟩ = some (.string (str (L.getD i Src.zero).name)) ∧ w.cell? ⟨b, o + i * 3 + 1, none⟩ = some dv ∧ w.cell? ⟨b, o + i * 3 + 2, none⟩ = some (.string (str (L.getD i Src.zero).text)) ∧ Ss w dv (L.getD i Src.zero).deps from by
      obtain ⟨ao', cap', e, -, -, h3⟩ := HM.out.shape
      simp only [Value.slice.injEq] at e
      obtain ⟨rfl, -, rfl⟩ := e
      rw [ALN.out] at h3
      exact h3)
    clear h hl
    go_enter Tryd.func5, Tryd.ntmps5
    go_wp2_with fail
    go_loopw [3] (fun i wr => ∃ k : Nat, k ≤ n ∧ i = .int .i64 k ∧ (∀ j, j < k → (L.getD j Src.zero).text.length ≤ 300 ∧ (L.getD j Src.zero).deps.length ≤ 70) ∧ wr = w) (fun i _ => n - (intOf i).toNat)
    case atStart => exact ⟨0, by omega, rfl, fun j hj => by omega, rfl⟩
    case round =>
      obtain ⟨k, hk, rfl, hj, hw⟩ := hrel
      subst hw
      have HJ := hid0 hj
      clear hj
      by_cases h3 : k < n
      · have l1 : (k : Int) < ((n : Nat) : Int) := by omega
        obtain ⟨p, o, dv, rfl, c0, c1, c2, hs⟩ := HC.out k h3
        obtain ⟨dao, dcap, rfl, d1, d2, -⟩ := hs.shape
        have hzt := str_size (L.getD k Src.zero).text
        obtain ⟨ST, hST⟩ : ∃ ST, ST = str (L.getD k Src.zero).text := ⟨_, rfl⟩
        rw [← hST] at c2 hzt
        clear hs c0 hST
        have HJ2 : Hid ((L.getD k Src.zero).text.length ≤ 300 → (L.getD k Src.zero).deps.length ≤ 70 → ∀ j, j < k + 1 → (L.getD j Src.zero).text.length ≤ 300 ∧ (L.getD j Src.zero).deps.length ≤ 70) := by
          intro a b j hj
          rcases Nat.lt_or_ge j k with h | h
          · exact HJ.out j h
          · obtain rfl : j = k := by omega
            exact ⟨a, b⟩
        clear HJ
        generalize (L.getD k Src.zero).text.length = tl at *
        generalize (L.getD k Src.zero).deps.length = dl at *
        by_cases h4 : 300 < tl
        · have l4 : (300 : Int) < (tl : Int) := by omega
          go_wp2_with fail
          refine (TO.out _ (Below.refl _ _)).mono ?_
          rintro ev w9 ⟨rfl, hb9⟩
          go_wp2_with fail
          go_ret
          exact ⟨rfl, hb9⟩
        · have l4 : ¬ (300 : Int) < (tl : Int) := by omega
          by_cases h5 : 70 < dl
          · have l5 : (70 : Int) < (dl : Int) := by omega
            go_wp2_with fail
            refine (TO.out _ (Below.refl _ _)).mono ?_
            rintro ev w9 ⟨rfl, hb9⟩
            go_wp2_with fail
            go_ret
            exact ⟨rfl, hb9⟩
          · have l5 : ¬ (70 : Int) < (dl : Int) := by omega
            have HK := hid0 (HJ2.out (by omega) (by omega))
            clear HJ2
            go_wp2_with fail
            go_roundw
            case rel => exact ⟨k + 1, by omega, by go_num, HK.out, by first | rfl | trivial⟩
            case measure => simp [intOf]; omega
      · have l1 : ¬ (k : Int) < ((n : Nat) : Int) := by omega
        have hln := prints_len HLM.out (by rw [ALN.out]; omega) (fun j hj => HJ.out j (by rw [ALN.out] at hj; omega))
        have D1 := PR.out _ L HM.out HLM.out
        rw [printF_eq] at D1
        have D2 : Hid (∀ y, Below wr.heap.size wr y → Calls Tryd.prog 17 #[.slice ao n cap] y (XqPost y (xprintF L))) := fun y hy => xprint_any y _ L (HM.out.below hy) hln
        clear HJ hln
        cases hx : xprintF L with
        | none =>
          rw [hx] at D1 D2
          have A1 := hid0 D1
          clear D1 hx PR
          go_wp2_with fail
          refine A1.out.mono ?_
          rintro ev w1 ⟨e, rfl, hE1, hb1⟩
          have A2 := hid0 (D2.out w1 hb1)
          clear A1 D2
          go_wp2_with fail
          refine A2.out.mono ?_
          rintro ev w2 ⟨rfl, hb2⟩
          have hb12 := nextB hb1 hb2
          have hE2 := hE1.below hb2
          have T := hid0 (TO.out w2 hb12)
          clear A2 hb1 hb2 hE1
          go_wp2_with fail
          refine T.out.mono ?_
          rintro ev w3 ⟨rfl, hb3⟩
          have hb13 := nextB hb12 hb3
          have I := hid0 (is_any w3 _ 1 0 1 0 (.inr (hE2.below hb3)) rfl rfl)
          obtain ⟨eb, rfl, -⟩ := hE2.shape
          have hbq := str_beq ([] : Bs) []
          rw [decide_eq_true rfl] at hbq
          clear T hb12 hb3 hE2
          go_wp2_with fail
          refine I.out.mono ?_
          rintro ev w4 ⟨rfl, hb4⟩
          go_wp2_with fail
          go_ret
          exact ⟨rfl, nextB hb13 hb4⟩
        | some s =>
          rw [hx] at D1 D2
          have A1 := hid0 D1
          clear D1 hx PR
          go_wp2_with fail
          refine A1.out.mono ?_
          rintro ev w1 ⟨rfl, hb1⟩
          have A2 := hid0 (D2.out w1 hb1)
          clear A1 D2
          go_wp2_with fail
          refine A2.out.mono ?_
          rintro ev w2 ⟨rfl, hb2⟩
          have hb12 := nextB hb1 hb2
          have T := hid0 (TO.out w2 hb12)
          clear A2 hb1 hb2
          go_wp2_with fail
          refine T.out.mono ?_
          rintro ev w3 ⟨rfl, hb3⟩
          have hb13 := nextB hb12 hb3
          have I := hid0 (is_any w3 .nilIface 0 0 0 0 (.inl ⟨rfl, rfl, rfl⟩) rfl rfl)
          have hbq := str_beq s s
          rw [decide_eq_true rfl] at hbq
          clear T hb12 hb3
          go_wp2_with fail
          refine I.out.mono ?_
          rintro ev w4 ⟨rfl, hb4⟩
          go_wp2_with fail
          go_ret
          exact ⟨rfl, nextB hb13 hb4⟩
  · have l10 : (10 : Int) < (L.length : Int) := by omega
    have hcap : 10 ≤ cap := by omega
    obtain ⟨M, hMe⟩ : ∃ M, M = L.take 10 := ⟨_, rfl⟩
    have HM : Hid (Srs w (.slice ao 10 cap) M) := by rw [hMe]; exact h.take (by omega)
    have HLM : Hid (LimS M) := by rw [hMe]; exact fun x hx => hl x (List.mem_of_mem_take hx)
    have ALN : Aside (M.length = 10) := by rw [hMe]; show _ = _; rw [List.length_take]; omega
    clear hMe
    have HC := hid0 (show ∀ i, i < 10 → ∃ b o dv, ao = some ⟨b, o, none⟩ ∧ w.cell? ⟨b, o + i * 3, none⟩ = some (.string (str (M.getD i Src.zero).name)) ∧ w.cell? ⟨b, o + i * 3 + 1, none⟩ = some dv ∧ w.cell? ⟨b, o + i * 3 + 2, none⟩ = some (.string (str (M.getD i Src.zero).text)) ∧ Ss w dv (M.getD i Src.zero).deps from by
      obtain ⟨ao', cap', e, -, -, h3⟩ := HM.out.shape
      simp only [Value.slice.injEq] at e
      obtain ⟨rfl, -, rfl⟩ := e
      rw [ALN.out] at h3
      exact h3)
    clear h hl
    go_enter Tryd.func5, Tryd.ntmps5
    go_wp2_with fail
    go_loopw [3] (fun i wr => ∃ k : Nat, k ≤ 10 ∧ i = .int .i64 k ∧ (∀ j, j < k → (M.getD j Src.zero).text.length ≤ 300 ∧ (M.getD j Src.zero).deps.length ≤ 70) ∧ wr = w) (fun i _ => 10 - (intOf i).toNat)
    case atStart => exact ⟨0, by omega, rfl, fun j hj => by omega, rfl⟩
    case round =>
      obtain ⟨k, hk, rfl, hj, hw⟩ := hrel
      subst hw
      have HJ := hid0 hj
      clear hj
      by_cases h3 : k < 10
      · have l1 : (k : Int) < ((10 : Nat) : Int) := by omega
        obtain ⟨p, o, dv, rfl, c0, c1, c2, hs⟩ := HC.out k h3
        obtain ⟨dao, dcap, rfl, d1, d2, -⟩ := hs.shape
        have hzt := str_size (M.getD k Src.zero).text
        obtain ⟨ST, hST⟩ : ∃ ST, ST = str (M.getD k Src.zero).text := ⟨_, rfl⟩
        rw [← hST] at c2 hzt
        clear hs c0 hST
        have HJ2 : Hid ((M.getD k Src.zero).text.length ≤ 300 → (M.getD k Src.zero).deps.length ≤ 70 → ∀ j, j < k + 1 → (M.getD j Src.zero).text.length ≤ 300 ∧ (M.getD j Src.zero).deps.length ≤ 70) := by
          intro a b j hj
          rcases Nat.lt_or_ge j k with h | h
          · exact HJ.out j h
          · obtain rfl : j = k := by omega
            exact ⟨a, b⟩
        clear HJ
        generalize (M.getD k Src.zero).text.length = tl at *
        generalize (M.getD k Src.zero).deps.length = dl at *
        by_cases h4 : 300 < tl
        · have l4 : (300 : Int) < (tl : Int) := by omega
          go_wp2_with fail
          refine (TO.out _ (Below.refl _ _)).mono ?_
          rintro ev w9 ⟨rfl, hb9⟩
          go_wp2_with fail
          go_ret
          exact ⟨rfl, hb9⟩
        · have l4 : ¬ (300 : Int) < (tl : Int) := by omega
          by_cases h5 : 70 < dl
          · have l5 : (70 : Int) < (dl : Int) := by omega
            go_wp2_with fail
            refine (TO.out _ (Below.refl _ _)).mono ?_
            rintro ev w9 ⟨rfl, hb9⟩
            go_wp2_with fail
            go_ret
            exact ⟨rfl, hb9⟩
          · have l5 : ¬ (70 : Int) < (dl : Int) := by omega
            have HK := hid0 (HJ2.out (by omega) (by omega))
            clear HJ2
            go_wp2_with fail
            go_roundw
            case rel => exact ⟨k + 1, by omega, by go_num, HK.out, by first | rfl | trivial⟩
            case measure => simp [intOf]; omega
      · have l1 : ¬ (k : Int) < ((10 : Nat) : Int) := by omega
        have hln := prints_len HLM.out (by rw [ALN.out]; omega) (fun j hj => HJ.out j (by rw [ALN.out] at hj; omega))
        have D1 := PR.out _ M HM.out HLM.out
        rw [printF_eq] at D1
        have D2 : Hid (∀ y, Below wr.heap.size wr y → Calls Tryd.prog 17 #[.slice ao 10 cap] y (XqPost y (xprintF M))) := fun y hy => xprint_any y _ M (HM.out.below hy) hln
        clear HJ hln
        cases hx : xprintF M with
        | none =>
          rw [hx] at D1 D2
          have A1 := hid0 D1
          clear D1 hx PR
          go_wp2_with fail
          refine A1.out.mono ?_
          rintro ev w1 ⟨e, rfl, hE1, hb1⟩
          have A2 := hid0 (D2.out w1 hb1)
          clear A1 D2
          go_wp2_with fail
          refine A2.out.mono ?_
          rintro ev w2 ⟨rfl, hb2⟩
          have hb12 := nextB hb1 hb2
          have hE2 := hE1.below hb2
          have T := hid0 (TO.out w2 hb12)
          clear A2 hb1 hb2 hE1
          go_wp2_with fail
          refine T.out.mono ?_
          rintro ev w3 ⟨rfl, hb3⟩
          have hb13 := nextB hb12 hb3
          have I := hid0 (is_any w3 _ 1 0 1 0 (.inr (hE2.below hb3)) rfl rfl)
          obtain ⟨eb, rfl, -⟩ := hE2.shape
          have hbq := str_beq ([] : Bs) []
          rw [decide_eq_true rfl] at hbq
          clear T hb12 hb3 hE2
          go_wp2_with fail
          refine I.out.mono ?_
          rintro ev w4 ⟨rfl, hb4⟩
          go_wp2_with fail
          go_ret
          exact ⟨rfl, nextB hb13 hb4⟩
        | some s =>
          rw [hx] at D1 D2
          have A1 := hid0 D1
          clear D1 hx PR
          go_wp2_with fail
          refine A1.out.mono ?_
          rintro ev w1 ⟨rfl, hb1⟩
          have A2 := hid0 (D2.out w1 hb1)
          clear A1 D2
          go_wp2_with fail
          refine A2.out.mono ?_
          rintro ev w2 ⟨rfl, hb2⟩
          have hb12 := nextB hb1 hb2
          have T := hid0 (TO.out w2 hb12)
          clear A2 hb1 hb2
          go_wp2_with fail
          refine T.out.mono ?_
          rintro ev w3 ⟨rfl, hb3⟩
          have hb13 := nextB hb12 hb3
          have I := hid0 (is_any w3 .nilIface 0 0 0 0 (.inl ⟨rfl, rfl, rfl⟩) rfl rfl)
          have hbq := str_beq s s
          rw [decide_eq_true rfl] at hbq
          clear T hb12 hb3
          go_wp2_with fail
          refine I.out.mono ?_
          rintro ev w4 ⟨rfl, hb4⟩
          go_wp2_with fail
          go_ret
          exact ⟨rfl, nextB hb13 hb4⟩
end Go.Proofs.YtmfdmpfeoppnfaaDoor
