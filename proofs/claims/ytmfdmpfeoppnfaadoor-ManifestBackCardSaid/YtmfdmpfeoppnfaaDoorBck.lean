/-
  ManifestBack, whatever the crates and the text.
-/
import Derived.Test.YtmfdmpfeoppnfaaDoorMbk
import Derived.Test.YtmfdmpfeoppnfaaDoorTol
namespace Go.Proofs.YtmfdmpfeoppnfaaDoor
open Go.RowKit

theorem parF_run {s : Bs} {y : List Src} (h : parF s = .ok y) : runF 0 [] (lns s) = .ok y := by
  unfold parF at h
  split at h
  · cases h
  · cases hr : runF 0 [] (lns s) with
    | error e => rw [hr] at h; cases h
    | ok cs =>
      rw [hr] at h
      simp only at h
      split at h
      · cases h
      · cases h; rfl
theorem parF_limS {s : Bs} {y : List Src} (h : parF s = .ok y) (hs : s.length ≤ 3000) : LimS y := by
  intro x hx
  obtain ⟨h1, h2, h3⟩ := par_lim (parF_run h) x hx
  exact ⟨by omega, by omega, fun d hd => by have := h2 d hd; omega⟩
theorem printF_par {L : List Src} {t : Bs} (h : printF L = some t) : parF t = .ok L ∧ t.length ≤ 9223372036854775807 := by
  have hw := wriF_len L
  unfold printF at h
  split at h
  · rename_i h1
    cases h
    refine ⟨?_, by omega⟩
    have h2 := h1.2
    unfold meansF at h2
    cases hp : parF (wriF L).1 with
    | error c => rw [hp] at h2; simp at h2
    | ok M =>
      rw [hp] at h2
      have h3 : eqL M L = true := h2
      rw [(eqL_iff M L).1 h3]
  · cases h
theorem same_b (w : World) (a b : Value) (A : List Src) (ha : Srs w a A) (hb : Srs w b A) :
    Calls Tryd.prog 12 #[a, b] w fun ev w' => ev = .returned (.bool true) ∧ Below w.heap.size w w' := by
  refine (same_any w a b A A ha hb).mono ?_
  rintro _ _ ⟨rfl, q, rfl⟩
  exact ⟨by rw [eqL_true rfl], below_drewE (Below.refl _ _) q⟩
set_option maxHeartbeats 16000000 in
set_option maxRecDepth 20000 in
theorem back_walk (v : Value) (L : List Src) (s : Bs) (w : World) (m : Int) (hm : w.cell? ⟨0, 0, none⟩ = some (.int .i64 m)) (h : Srs w v L) (hl : LimS L) :
    Calls Tryd.prog 6 #[v, .string (str s)] w fun ev w' => ev = .returned (.bool true) ∧ Below w.heap.size w w' := by
  have TO : Hid (∀ y, Below w.heap.size w y → Calls Tryd.prog 9 #[] y fun ev w' => ev = .returned (.bool true) ∧ Below y.heap.size y w') := fun y hy => told_any y m (Below.cellOf hy hm)
  have PR : Hid (∀ y, Below w.heap.size w y → ∀ u M, Srs y u M → LimS M → Calls Tryd.prog 16 #[u] y (PriPost y (printF M))) := fun y hy u M hu hM => print_any y u M hu hM m (Below.cellOf hy hm)
  have PA : Hid (∀ y, Below w.heap.size w y → ∀ s : Bs, s.length ≤ 9223372036854775807 → Calls Tryd.prog 8 #[.string (str s)] y (ParPost y (parF s))) := fun y hy s hs => parse_any y s m (Below.cellOf hy hm) hs
  clear hm
  obtain ⟨ao, cap, rfl, h1, h2, -⟩ := h.shape
  have hzS := str_size s
  obtain ⟨SS, hSS⟩ : ∃ SS, SS = str s := ⟨_, rfl⟩
  rw [← hSS] at hzS ⊢
  have ASS := aside0 hSS
  clear hSS
  obtain ⟨n, hn⟩ : ∃ n, n = L.length := ⟨_, rfl⟩
  have HM : Hid (Srs w (.slice ao n cap) L) := by rw [hn]; exact h
  have HLM := hid0 hl
  have ALN : Aside (L.length = n) := hn.symm
  rw [← hn] at h1 h2 ⊢
  clear hn h hl
  by_cases h10 : 10 < n
  · have l10 : (10 : Int) < (n : Int) := by omega
    clear PR PA
    go_enter Tryd.func6, Tryd.ntmps6
    go_wp2_with fail
    refine (TO.out _ (Below.refl _ _)).mono ?_
    rintro ev w9 ⟨rfl, hb9⟩
    go_wp2_with fail
    go_ret
    exact ⟨rfl, hb9⟩
  have l10 : ¬ (10 : Int) < (n : Int) := by omega
  by_cases h30 : 3000 < s.length
  · have l30 : (3000 : Int) < (s.length : Int) := by omega
    clear PR PA
    go_enter Tryd.func6, Tryd.ntmps6
    go_wp2_with fail
    refine (TO.out _ (Below.refl _ _)).mono ?_
    rintro ev w9 ⟨rfl, hb9⟩
    go_wp2_with fail
    go_ret
    exact ⟨rfl, hb9⟩
  have l30 : ¬ (3000 : Int) < (s.length : Int) := by omega
  have HC := hid0 (show ∀ i, i < n → ∃ b o dv, ao = some ⟨b, o, none⟩ ∧ w.cell? ⟨b, o + i * 3, none⟩ = some (.string (str (L.getD i Src.zero).name)) ∧ w.cell? ⟨b, o + i * 3 + 1, none⟩ = some dv ∧ w.cell? ⟨b, o + i * 3 + 2, none⟩ = some (.string (str (L.getD i Src.zero).text)) ∧ Ss w dv (L.getD i Src.zero).deps from by
    obtain ⟨ao', cap', e, -, -, h3⟩ := HM.out.shape
    simp only [Value.slice.injEq] at e
    obtain ⟨rfl, -, rfl⟩ := e
    rw [ALN.out] at h3
    exact h3)
  have hs30 : s.length ≤ 3000 := by omega
  clear h30 h10
  go_enter Tryd.func6, Tryd.ntmps6
  go_wp2_with fail
  go_loopw [5] (fun i wr => ∃ k : Nat, k ≤ n ∧ i = .int .i64 k ∧ wr = w) (fun i _ => n - (intOf i).toNat)
  case atStart => exact ⟨0, by omega, rfl, rfl⟩
  case round =>
    obtain ⟨k, hk, rfl, hw⟩ := hrel
    subst hw
    by_cases h3 : k < n
    · have l1 : (k : Int) < (n : Int) := by omega
      obtain ⟨p, o, dv, rfl, c0, c1, c2, hs⟩ := HC.out k h3
      obtain ⟨dao, dcap, rfl, d1, d2, -⟩ := hs.shape
      have hzt := str_size (L.getD k Src.zero).text
      obtain ⟨ST, hST⟩ : ∃ ST, ST = str (L.getD k Src.zero).text := ⟨_, rfl⟩
      rw [← hST] at c2 hzt
      clear hs c0 hST HM PR PA
      generalize (L.getD k Src.zero).text.length = tl at *
      generalize (L.getD k Src.zero).deps.length = dl at *
      by_cases h4 : 300 < tl
      · have l4 : (300 : Int) < (tl : Int) := by omega
        go_wp2_with fail
        refine (TO.out _ (Below.refl _ _)).mono ?_
        rintro ev w9 ⟨rfl, hb9⟩
        go_wp2_with fail
        go_ret
        exact ⟨rfl, hb9⟩
      · have l4 : ¬ (300 : Int) < (tl : Int) := by omega
        by_cases h5 : 70 < dl
        · have l5 : (70 : Int) < (dl : Int) := by omega
          go_wp2_with fail
          refine (TO.out _ (Below.refl _ _)).mono ?_
          rintro ev w9 ⟨rfl, hb9⟩
          go_wp2_with fail
          go_ret
          exact ⟨rfl, hb9⟩
        · have l5 : ¬ (70 : Int) < (dl : Int) := by omega
          go_wp2_with fail
          go_roundw
          case rel => exact ⟨k + 1, by omega, by go_num, by first | rfl | trivial⟩
          case measure => simp [intOf]; omega
    · have l1 : ¬ (k : Int) < (n : Int) := by omega
      have D1 := PR.out _ (Below.refl _ _) _ L HM.out HLM.out
      clear HC
      cases hx : printF L with
      | none =>
        rw [hx] at D1
        have A1 := hid0 D1
        clear D1 hx HM
        go_wp2_with fail
        refine A1.out.mono ?_
        rintro ev w1 ⟨e, rfl, hE1, hb1⟩
        obtain ⟨eb, rfl, -⟩ := hE1.shape
        clear A1 hE1
        have Q0 := PA.out w1 hb1 s (by omega)
        rw [← ASS.out] at Q0
        cases hy : parF s with
        | error c =>
          rw [hy] at Q0
          have Q1 := hid0 Q0
          clear Q0 hy
          go_wp2_with fail
          refine Q1.out.mono ?_
          rintro ev w2 ⟨e2, rfl, hE2, hb2⟩
          obtain ⟨eb2, rfl, -⟩ := hE2.shape
          have hb12 := nextB hb1 hb2
          have T := hid0 (TO.out w2 hb12)
          clear Q1 hE2 hb1 hb2
          go_wp2_with fail
          refine T.out.mono ?_
          rintro ev w3 ⟨rfl, hb3⟩
          go_wp2_with fail
          go_ret
          exact ⟨rfl, nextB hb12 hb3⟩
        | ok y =>
          rw [hy] at Q0
          have Q1 := hid0 Q0
          obtain ⟨hpb, hlb⟩ := parF_back hy hs30
          have hpr := print_back hy hs30
          have hly := parF_limS hy hs30
          clear Q0 hy
          go_wp2_with fail
          refine Q1.out.mono ?_
          rintro ev w2 ⟨vy, rfl, hY, hb2⟩
          have hb12 := nextB hb1 hb2
          have D3 := PR.out w2 hb12 vy y hY hly
          rw [hpr] at D3
          have A3 := hid0 D3
          have HY := hid0 hY
          obtain ⟨ay, cy, rfl, -⟩ := hY.shape
          clear Q1 D3 hpr hly hb1 hb2 hY
          go_wp2_with fail
          refine A3.out.mono ?_
          rintro ev w3 ⟨rfl, hb3⟩
          have hb13 := nextB hb12 hb3
          have D4 := PA.out w3 hb13 (textF y) (by omega)
          rw [hpb] at D4
          have A4 := hid0 D4
          have HY3 := hid0 (HY.out.below hb3)
          clear A3 D4 hb12 hb3 HY
          go_wp2_with fail
          refine A4.out.mono ?_
          rintro ev w4 ⟨vz, rfl, hZ, hb4⟩
          have hb14 := nextB hb13 hb4
          have HY4 := hid0 (HY3.out.below hb4)
          have HZ4 := hid0 hZ
          obtain ⟨az, cz, rfl, -⟩ := hZ.shape
          have T := hid0 (TO.out w4 hb14)
          clear A4 hb13 hb4 hZ HY3
          go_wp2_with fail
          refine T.out.mono ?_
          rintro ev w5 ⟨rfl, hb5⟩
          have hb15 := nextB hb14 hb5
          have E9 := hid0 (same_b w5 _ _ y (HY4.out.below hb5) (HZ4.out.below hb5))
          clear T hb14 hb5 HY4 HZ4
          go_wp2_with fail
          refine E9.out.mono ?_
          rintro ev w6 ⟨rfl, hb6⟩
          go_wp2_with fail
          go_ret
          exact ⟨rfl, nextB hb15 hb6⟩
      | some t =>
        rw [hx] at D1
        have A1 := hid0 D1
        obtain ⟨hpt, htl⟩ := printF_par hx
        clear D1 hx
        go_wp2_with fail
        refine A1.out.mono ?_
        rintro ev w0 ⟨rfl, hb0⟩
        have P0 := PA.out w0 hb0 t htl
        rw [hpt] at P0
        have A2 := hid0 P0
        clear P0 hpt A1
        go_wp2_with fail
        refine A2.out.mono ?_
        rintro ev wq ⟨vq, rfl, hSq, hbq⟩
        have hb0q := nextB hb0 hbq
        have E := hid0 (same_b wq vq (.slice ao n cap) L hSq (HM.out.below hb0q))
        obtain ⟨aq, cq, rfl, -⟩ := hSq.shape
        clear A2 hSq hbq hb0 HM
        go_wp2_with fail
        refine E.out.mono ?_
        rintro ev w1 ⟨rfl, hbe⟩
        have hb1 := nextB hb0q hbe
        clear E hb0q hbe
        have Q0 := PA.out w1 hb1 s (by omega)
        rw [← ASS.out] at Q0
        cases hy : parF s with
        | error c =>
          rw [hy] at Q0
          have Q1 := hid0 Q0
          clear Q0 hy
          go_wp2_with fail
          refine Q1.out.mono ?_
          rintro ev w2 ⟨e2, rfl, hE2, hb2⟩
          obtain ⟨eb2, rfl, -⟩ := hE2.shape
          have hb12 := nextB hb1 hb2
          have T := hid0 (TO.out w2 hb12)
          clear Q1 hE2 hb1 hb2
          go_wp2_with fail
          refine T.out.mono ?_
          rintro ev w3 ⟨rfl, hb3⟩
          go_wp2_with fail
          go_ret
          exact ⟨rfl, nextB hb12 hb3⟩
        | ok y =>
          rw [hy] at Q0
          have Q1 := hid0 Q0
          obtain ⟨hpb, hlb⟩ := parF_back hy hs30
          have hpr := print_back hy hs30
          have hly := parF_limS hy hs30
          clear Q0 hy
          go_wp2_with fail
          refine Q1.out.mono ?_
          rintro ev w2 ⟨vy, rfl, hY, hb2⟩
          have hb12 := nextB hb1 hb2
          have D3 := PR.out w2 hb12 vy y hY hly
          rw [hpr] at D3
          have A3 := hid0 D3
          have HY := hid0 hY
          obtain ⟨ay, cy, rfl, -⟩ := hY.shape
          clear Q1 D3 hpr hly hb1 hb2 hY
          go_wp2_with fail
          refine A3.out.mono ?_
          rintro ev w3 ⟨rfl, hb3⟩
          have hb13 := nextB hb12 hb3
          have D4 := PA.out w3 hb13 (textF y) (by omega)
          rw [hpb] at D4
          have A4 := hid0 D4
          have HY3 := hid0 (HY.out.below hb3)
          clear A3 D4 hb12 hb3 HY
          go_wp2_with fail
          refine A4.out.mono ?_
          rintro ev w4 ⟨vz, rfl, hZ, hb4⟩
          have hb14 := nextB hb13 hb4
          have HY4 := hid0 (HY3.out.below hb4)
          have HZ4 := hid0 hZ
          obtain ⟨az, cz, rfl, -⟩ := hZ.shape
          have T := hid0 (TO.out w4 hb14)
          clear A4 hb13 hb4 hZ HY3
          go_wp2_with fail
          refine T.out.mono ?_
          rintro ev w5 ⟨rfl, hb5⟩
          have hb15 := nextB hb14 hb5
          have E9 := hid0 (same_b w5 _ _ y (HY4.out.below hb5) (HZ4.out.below hb5))
          clear T hb14 hb5 HY4 HZ4
          go_wp2_with fail
          refine E9.out.mono ?_
          rintro ev w6 ⟨rfl, hb6⟩
          go_wp2_with fail
          go_ret
          exact ⟨rfl, nextB hb15 hb6⟩
end Go.Proofs.YtmfdmpfeoppnfaaDoor
