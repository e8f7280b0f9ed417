/-
  The law ManifestReads.
-/
import Derived.Test.YtmfdmpfeoppnfaaDoorXpw
import Derived.Test.YtmfdmpfeoppnfaaDoorXiw
namespace Go.Proofs.YtmfdmpfeoppnfaaDoor
open Go.RowKit

theorem parR_ok (cs : List Src) : parR (.ok cs) = if cs = [] then .error (40, 0) else .ok cs := rfl
def Few (L : List Src) : Prop := ∀ x ∈ L, x.deps.length ≤ 64
theorem Few.step {L L' : List Src} {l : Bs} (h : Few L) (hs : stepF L l = .ok L') : Few L' := by
  unfold stepF at hs
  split at hs
  · split at hs
    · cases hs
    · rename_i n ds _
      split at hs
      · cases hs
      · rename_i h1
        split at hs
        · cases hs
        · cases hs
          intro x hx
          rcases List.mem_append.1 hx with hx | hx
          · exact h x hx
          · simp at hx; subst hx; simp only; omega
  · split at hs
    · split at hs
      · cases hs; intro x hx; simp at hx
      · cases hs
    · rename_i h0
      cases hs
      obtain ⟨L1, y, rfl⟩ : ∃ L0 x, L = L0 ++ [x] := ⟨L.dropLast, L.getLast h0, (List.dropLast_concat_getLast h0).symm⟩
      rw [addL_snoc]
      intro x hx
      rcases List.mem_append.1 hx with hx | hx
      · exact h x (List.mem_append_left _ hx)
      · simp at hx; subst hx; exact h y (by simp)
theorem Few.run : ∀ (R : List Bs) (p : Nat) (L ys : List Src), Few L → runF p L R = .ok ys → Few ys
  | [], p, L, ys, h, e => by cases e; exact h
  | l :: R, p, L, ys, h, e => by
    unfold runF at e
    cases hs : stepF L l with
    | error c => rw [hs] at e; cases e
    | ok L' =>
      rw [hs] at e
      exact Few.run R _ L' ys (h.step hs) e
theorem par_run {s : Bs} {L : List Src} (h : parF s = .ok L) : runF 0 [] (lns s) = .ok L ∧ L ≠ [] := by
  rw [parF_eq] at h
  split at h
  · cases h
  · cases hr : runF 0 [] (lns s) with
    | error e => rw [hr] at h; cases h
    | ok L' =>
      rw [hr, parR_ok] at h
      split at h
      · cases h
      · cases h; rename_i h0; exact ⟨rfl, h0⟩
theorem par_err {s : Bs} {c : Nat × Nat} (h : parF s = .error c) : c.1 ≠ 0 := by
  have hrun : ∀ (R : List Bs) (p : Nat) (L : List Src) (c : Nat × Nat), runF p L R = .error c → c.1 ≠ 0 := by
    intro R
    induction R with
    | nil => intro p L c h; cases h
    | cons l R ih =>
      intro p L c h
      unfold runF at h
      cases hs : stepF L l with
      | error e => rw [hs] at h; cases h; exact stepF_err hs
      | ok L' => rw [hs] at h; exact ih _ _ _ h
  rw [parF_eq] at h
  split at h
  · cases h; decide
  · cases hr : runF 0 [] (lns s) with
    | error e => rw [hr] at h; cases h; exact hrun _ _ _ _ hr
    | ok L' =>
      rw [hr, parR_ok] at h
      split at h
      · cases h; decide
      · cases h
theorem par_all {s : Bs} {L : List Src} (hs : s.length ≤ 4194304) (h : parF s = .ok L) : L.length ≤ 64 ∧ ∀ x ∈ L, x.name.length ≤ 140737488355328 ∧ x.deps.length ≤ 1000000000 ∧ ∀ d ∈ x.deps, d.length ≤ 140737488355328 := by
  obtain ⟨h1, -⟩ := par_run h
  have hl := par_lim h1
  have hf := Few.run (lns s) 0 [] L (fun x hx => by simp at hx) h1
  refine ⟨(runF_grow (lns s) 0 [] L h1).2.1 (by simp), fun x hx => ?_⟩
  obtain ⟨a1, a2, a3⟩ := hl x hx
  have := hf x hx
  exact ⟨by omega, by omega, fun d hd => by have := a2 d hd; omega⟩

set_option maxHeartbeats 8000000 in
set_option maxRecDepth 20000 in
theorem reads_walk (s : Bs) (w : World) (m : Int) (hm : w.cell? ⟨0, 0, none⟩ = some (.int .i64 m)) (hlen : s.length ≤ 9223372036854775807) : Calls Tryd.prog 4 #[.string (str s)] w fun ev w' => ev = .returned (.bool true) ∧ Below w.heap.size w w' := by
  have hsz := str_size s
  have TD : Hid (∀ y, Below w.heap.size w y → Calls Tryd.prog 9 #[] y fun ev w' => ev = .returned (.bool true) ∧ Below y.heap.size y w') := fun y hy => told_any y m (Below.cellOf hy hm)
  have P := hid0 (parse_any w s m hm hlen)
  have X := hid0 (fun y => xparse_any y s hlen)
  clear hm
  by_cases h1 : 3000 < s.length
  · have i1 : (3000 : Int) < (s.length : Int) := by omega
    generalize str s = S at *
    clear P X
    go_enter Tryd.func4, Tryd.ntmps4
    go_wp2_with fail
    refine (TD.out _ (Below.refl _ _)).mono ?_
    rintro ev w9 ⟨rfl, hb9⟩
    go_wp2_with fail
    go_ret
    exact ⟨rfl, hb9⟩
  have i1 : ¬ (3000 : Int) < (s.length : Int) := by omega
  cases hr : parF s with
  | error c =>
    rw [hr] at P X
    have hc0 := par_err hr
    have h0 : idxF [] = .ok [] := rfl
    clear hr
    generalize str s = S at *
    go_enter Tryd.func4, Tryd.ntmps4
    go_wp2_with fail
    refine P.out.mono ?_
    rintro ev w1 ⟨e1, rfl, hE1, hb1⟩
    obtain ⟨eb1, rfl⟩ := hE1.shape'
    go_wp2_with fail
    refine (X.out w1).mono ?_
    rintro ev w2 ⟨rfl, hb2⟩
    have S2 := hid0 (same_any w2 (.slice none 0 0) (.slice none 0 0) [] [] (Srs.nil _ _ _) (Srs.nil _ _ _))
    have hE2 := hE1.below hb2
    have hb12 := nextB hb1 hb2
    clear P X hE1 hb1 hb2
    go_wp2_with fail
    refine S2.out.mono ?_
    rintro ev w3 ⟨rfl, hq3⟩
    have hb3 := below_drews hq3
    have I3 := hid0 (is_any w3 _ c.1 c.2 _ _ (.inr (hE2.below hb3)) rfl rfl)
    have hb13 := nextB hb12 hb3
    have hdt : eqL [] [] = true := rfl
    clear S2 hq3 hb12 hb3 hE2
    go_wp2_with fail
    refine I3.out.mono ?_
    rintro ev w4 ⟨rfl, hb4⟩
    have hb14 := nextB hb13 hb4
    clear I3 hb4 hb13
    have D4 := hid0 (index_any w4 (.slice none 0 0) [] (Srs.nil _ _ _) (by simp) (by simp))
    rw [h0] at D4
    go_wp2_with fail
    refine D4.out.mono ?_
    rintro ev w5 ⟨v5, rfl, hR5, hb5⟩
    have hb15 := nextB hb14 hb5
    clear D4 hb5 hb14
    have X5 := hid0 (xindex_any w5 (.slice none 0 0) [] (Srs.nil _ _ _) (by simp) (by simp))
    rw [h0] at X5
    go_wp2_with fail
    refine X5.out.mono ?_
    rintro ev w6 ⟨v6, rfl, hR6, hb6⟩
    have hR5' := hR5.below hb6
    have hb16 := nextB hb15 hb6
    have T6 := hid0 (TD.out w6 hb16)
    clear X5 hR5 hb6 hb15
    go_wp2_with fail
    refine T6.out.mono ?_
    rintro ev w7 ⟨rfl, hb7⟩
    have RW := hid0 (rows_dr w7 v5 v6 [] (hR5'.below hb7) (hR6.below hb7))
    have hb17 := nextB hb16 hb7
    clear T6 hR5' hR6 hb7 hb16
    go_wp2_with fail
    refine RW.out.mono ?_
    rintro ev w8 ⟨rfl, hq8⟩
    have hb18 := nextB hb17 (below_drews hq8)
    have I8 := hid0 (is_any w8 .nilIface 0 0 0 0 (.inl ⟨rfl, rfl, rfl⟩) rfl rfl)
    clear RW hq8 hb17
    go_wp2_with fail
    refine I8.out.mono ?_
    rintro ev w9 ⟨rfl, hb9⟩
    go_wp2_with fail
    go_ret
    exact ⟨rfl, nextB hb18 hb9⟩
  | ok L =>
    rw [hr] at P X
    obtain ⟨hL64, hlim⟩ := par_all (by omega) hr
    have hI := hid0 (fun (y : World) (v : Value) (h : Srs y v L) => index_any y v L h (by omega) hlim)
    have hJ := hid0 (fun (y : World) (v : Value) (h : Srs y v L) => xindex_any y v L h (by omega) (fun x hx => (hlim x hx).2.1))
    clear hr hlim
    generalize str s = S at *
    go_enter Tryd.func4, Tryd.ntmps4
    go_wp2_with fail
    refine P.out.mono ?_
    rintro ev w1 ⟨v1, rfl, hS1, hb1⟩
    go_wp2_with fail
    refine (X.out w1).mono ?_
    rintro ev w2 ⟨v2, rfl, hS2, hb2⟩
    have hS1' := hS1.below hb2
    have S2 := hid0 (same_any w2 v1 v2 L L hS1' hS2)
    have hb12 := nextB hb1 hb2
    have A1 := aside0 hS1'
    have A2 := aside0 hS2
    clear P X hS1 hS2 hS1' hb1 hb2
    go_wp2_with fail
    refine S2.out.mono ?_
    rintro ev w3 ⟨rfl, hq3⟩
    have hb3 := below_drews hq3
    have I3 := hid0 (is_any w3 .nilIface 0 0 0 0 (.inl ⟨rfl, rfl, rfl⟩) rfl rfl)
    have hb13 := nextB hb12 hb3
    have B1 := aside0 (A1.out.below hb3)
    have B2 := aside0 (A2.out.below hb3)
    have hdt : eqL L L = true := eqL_true rfl
    clear S2 hq3 hb12 hb3 A1 A2
    go_wp2_with fail
    refine I3.out.mono ?_
    rintro ev w4 ⟨rfl, hb4⟩
    have hb14 := nextB hb13 hb4
    have D4 := hid0 (hI.out w4 v1 (B1.out.below hb4))
    have C2 := aside0 (B2.out.below hb4)
    clear I3 hb4 hb13 B1 B2 hI
    cases hix : idxF L with
    | error i =>
      rw [hix] at D4 hJ
      clear hix
      go_wp2_with fail
      refine D4.out.mono ?_
      rintro ev w5 ⟨e5, rfl, hE5, hb5⟩
      obtain ⟨eb5, rfl⟩ := hE5.shape'
      have hb15 := nextB hb14 hb5
      have X5 := hid0 (hJ.out w5 v2 (C2.out.below hb5))
      clear D4 hb5 hb14 C2 hJ
      go_wp2_with fail
      refine X5.out.mono ?_
      rintro ev w6 ⟨rfl, hb6⟩
      have hE6 := hE5.below hb6
      have hb16 := nextB hb15 hb6
      have T6 := hid0 (TD.out w6 hb16)
      clear X5 hE5 hb6 hb15
      go_wp2_with fail
      refine T6.out.mono ?_
      rintro ev w7 ⟨rfl, hb7⟩
      have RW := hid0 (rows_dr w7 (.slice none 0 0) (.slice none 0 0) [] ⟨_, _, rfl, Nat.le_refl _, by simp, fun i hi => by simp at hi⟩ ⟨_, _, rfl, Nat.le_refl _, by simp, fun i hi => by simp at hi⟩)
      have hE7 := hE6.below hb7
      have hb17 := nextB hb16 hb7
      clear T6 hE6 hb7 hb16
      go_wp2_with fail
      refine RW.out.mono ?_
      rintro ev w8 ⟨rfl, hq8⟩
      have hb18 := nextB hb17 (below_drews hq8)
      have I8 := hid0 (is_any w8 _ 41 i _ _ (.inr (hE7.below (below_drews hq8))) rfl rfl)
      clear RW hq8 hb17 hE7
      go_wp2_with fail
      refine I8.out.mono ?_
      rintro ev w9 ⟨rfl, hb9⟩
      go_wp2_with fail
      go_ret
      exact ⟨rfl, nextB hb18 hb9⟩
    | ok R =>
      rw [hix] at D4 hJ
      clear hix
      go_wp2_with fail
      refine D4.out.mono ?_
      rintro ev w5 ⟨v5, rfl, hR5, hb5⟩
      have hb15 := nextB hb14 hb5
      have X5 := hid0 (hJ.out w5 v2 (C2.out.below hb5))
      clear D4 hb5 hb14 C2 hJ
      go_wp2_with fail
      refine X5.out.mono ?_
      rintro ev w6 ⟨v6, rfl, hR6, hb6⟩
      have hR5' := hR5.below hb6
      have hb16 := nextB hb15 hb6
      have T6 := hid0 (TD.out w6 hb16)
      clear X5 hR5 hb6 hb15
      go_wp2_with fail
      refine T6.out.mono ?_
      rintro ev w7 ⟨rfl, hb7⟩
      have RW := hid0 (rows_dr w7 v5 v6 R (hR5'.below hb7) (hR6.below hb7))
      have hb17 := nextB hb16 hb7
      clear T6 hR5' hR6 hb7 hb16
      go_wp2_with fail
      refine RW.out.mono ?_
      rintro ev w8 ⟨rfl, hq8⟩
      have hb18 := nextB hb17 (below_drews hq8)
      have I8 := hid0 (is_any w8 .nilIface 0 0 0 0 (.inl ⟨rfl, rfl, rfl⟩) rfl rfl)
      clear RW hq8 hb17
      go_wp2_with fail
      refine I8.out.mono ?_
      rintro ev w9 ⟨rfl, hb9⟩
      go_wp2_with fail
      go_ret
      exact ⟨rfl, nextB hb18 hb9⟩
end Go.Proofs.YtmfdmpfeoppnfaaDoor
