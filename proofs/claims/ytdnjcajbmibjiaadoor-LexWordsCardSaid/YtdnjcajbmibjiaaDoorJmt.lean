/-
  The mathematics of texts that are joined, and of blanks put between tokens.
-/
import Derived.Test.YtdnjcajbmibjiaaDoorCov
namespace Go.Proofs.YtdnjcajbmibjiaaDoor
open Go.RowKit

/-- A byte at which every token ends that could go on. -/
def stopB (c : UInt8) : Bool := !isNm c && !(c == 58) && !(c == 62) && !(c == 61)
/-- What stands behind a token: the same byte as before, or one at which tokens end, or none. -/
def Behind (z z' : List UInt8) : Prop := z'.head? = z.head? ∨ z' = [] ∨ ∃ c u, z' = c :: u ∧ stopB c = true

theorem run_app : ∀ (x z : List UInt8), runL (x ++ z) = x.length ↔ (x.all isNm = true ∧ runL z = 0)
  | [], z => by simp
  | c :: t, z => by
    have ih := run_app t z
    simp only [List.cons_append, runL, List.length_cons, List.all_cons, Bool.and_eq_true]
    cases h : isNm c
    · simp
    · simp only [if_true, true_and]
      rw [← ih]
      omega
theorem run_behind {z z' : List UInt8} (h : Behind z z') (hz : runL z = 0) : runL z' = 0 := by
  rcases h with h | h | ⟨c, u, rfl, hc⟩
  · cases z' with
    | nil => rfl
    | cons c u =>
      cases z with
      | nil => simp at h
      | cons d v =>
        have : c = d := by simpa using h
        subst this
        simp only [runL] at hz ⊢
        split at hz
        · omega
        · rename_i hn
          rw [if_neg hn]
  · subst h; rfl
  · simp only [stopB, Bool.and_eq_true, Bool.not_eq_true'] at hc
    simp [runL, hc.1.1.1]
theorem run_same {x z z' : List UInt8} (h : Behind z z') (hr : runL (x ++ z) = x.length) : runL (x ++ z') = x.length := by
  rw [run_app] at hr ⊢
  exact ⟨hr.1, run_behind h hr.2⟩
theorem take_len (x z : List UInt8) : (x ++ z).take x.length = x := by simp
theorem sign_same {x z z' : List UInt8} (h : Behind z z') (hr : signF (x ++ z) = x.length) (h0 : 1 ≤ x.length) : signF (x ++ z') = x.length := by
  have h2 := (signF_le (x ++ z)).2
  cases x with
  | nil => simp at h0
  | cons a t =>
    cases t with
    | nil =>
      simp only [List.cons_append, List.nil_append, List.length_cons, List.length_nil] at hr ⊢
      have h1 : signs2.contains ((a :: z).take 2) = false ∧ signs1.contains a = true := by
        unfold signF at hr
        split at hr
        · omega
        · rename_i hn
          refine ⟨by simpa using hn, ?_⟩
          simp only at hr
          split at hr
          · rename_i h; exact h
          · omega
      refine signF_one ?_ h1.2
      have h3 := h1.1
      cases hh : signs2.contains ((a :: z').take 2)
      · rfl
      · exfalso
        rcases h with h | h | ⟨c, u, rfl, hc⟩
        · have : (a :: z').take 2 = (a :: z).take 2 := by
            cases z' with
            | nil => cases z with
              | nil => rfl
              | cons d v => simp at h
            | cons c u => cases z with
              | nil => simp at h
              | cons d v =>
                have : c = d := by simpa using h
                subst this; rfl
          rw [this, h3] at hh; cases hh
        · subst h
          rcases pair_cases hh with h | h | h <;> simp at h
        · simp only [stopB, Bool.and_eq_true, Bool.not_eq_true'] at hc
          rcases pair_cases hh with h | h | h
          · simp at h; rw [h.2] at hc; simp at hc
          · simp at h; rw [h.2] at hc; simp at hc
          · simp at h; rw [h.2] at hc; simp at hc
    | cons b t =>
      simp only [List.cons_append, List.length_cons] at hr ⊢
      have ht : t = [] := by
        have : t.length = 0 := by simp only [List.cons_append] at h2; omega
        exact List.eq_nil_of_length_eq_zero this
      subst ht
      have h1 : signs2.contains ((a :: b :: z).take 2) = true := by
        simp only [List.nil_append, List.length_nil] at hr
        unfold signF at hr
        split at hr
        · rename_i h; exact h
        · simp only at hr
          split at hr <;> omega
      exact signF_two (l := a :: b :: z') h1

/-- A token hangs on its own bytes and on the one behind it. -/
theorem tokF_same {x z z' : List UInt8} {k : Nat} (h : Behind z z') (ht : tokF (x ++ z) = some (k, x.length)) : tokF (x ++ z') = some (k, x.length) := by
  have h0 := (tokF_le ht).1
  cases x with
  | nil => simp at h0
  | cons c t =>
    unfold tokF at ht ⊢
    simp only [List.cons_append] at ht ⊢
    by_cases h1 : isLt c = true
    · rw [if_pos h1] at ht ⊢
      have hr : runL (c :: t ++ z) = (c :: t).length := by
        simp only [List.cons_append]
        split at ht
        · injection ht with ht; injection ht
        · split at ht
          · injection ht with ht; injection ht
          · cases ht
      have hr' := run_same h hr
      simp only [List.cons_append] at hr hr'
      rw [hr, show c :: (t ++ z) = (c :: t) ++ z from rfl, take_len] at ht
      rw [hr', show c :: (t ++ z') = (c :: t) ++ z' from rfl, take_len]
      exact ht
    · rw [if_neg h1] at ht ⊢
      by_cases h2 : c.toNat = 39
      · rw [if_pos h2] at ht ⊢
        have hr : runL (t ++ z) = t.length := by
          split at ht
          · injection ht with ht
            injection ht with _ ht
            simp only [List.length_cons] at ht
            omega
          · cases ht
        have hr' := run_same h hr
        rw [hr, take_len] at ht
        rw [hr', take_len]
        exact ht
      · rw [if_neg h2] at ht ⊢
        by_cases h3 : isDg c = true
        · rw [if_pos h3] at ht ⊢
          have hr : runL (c :: t ++ z) = (c :: t).length := by
            simp only [List.cons_append]
            split at ht
            · injection ht with ht; injection ht
            · cases ht
          have hr' := run_same h hr
          simp only [List.cons_append] at hr hr'
          rw [hr, show c :: (t ++ z) = (c :: t) ++ z from rfl, take_len] at ht
          rw [hr', show c :: (t ++ z') = (c :: t) ++ z' from rfl, take_len]
          exact ht
        · rw [if_neg h3] at ht ⊢
          have hr : signF (c :: t ++ z) = (c :: t).length := by
            simp only [List.cons_append]
            split at ht
            · cases ht
            · injection ht with ht; injection ht
          have hr' := sign_same h hr h0
          simp only [List.cons_append] at hr hr'
          rw [hr] at ht
          rw [hr']
          exact ht
/-- What a token opens with is no blank and no remark. -/
theorem tok_skp {c : UInt8} {t : List UInt8} {kn : Nat × Nat} (h : tokF (c :: t) = some kn) : skp false (c :: t) = 0 := by
  have hc : isBl c = false ∧ ¬ c.toNat = 47 := by
    unfold tokF at h
    simp only at h
    by_cases h1 : isLt c = true
    · simp only [isLt, Bool.or_eq_true, Bool.and_eq_true, decide_eq_true_eq] at h1
      refine ⟨?_, by omega⟩
      cases hb : isBl c
      · rfl
      · simp only [isBl, Bool.or_eq_true, decide_eq_true_eq] at hb; omega
    · rw [if_neg h1] at h
      by_cases h2 : c.toNat = 39
      · refine ⟨?_, by omega⟩
        cases hb : isBl c
        · rfl
        · simp only [isBl, Bool.or_eq_true, decide_eq_true_eq] at hb; omega
      · rw [if_neg h2] at h
        by_cases h3 : isDg c = true
        · simp only [isDg, Bool.and_eq_true, decide_eq_true_eq] at h3
          refine ⟨?_, by omega⟩
          cases hb : isBl c
          · rfl
          · simp only [isBl, Bool.or_eq_true, decide_eq_true_eq] at hb; omega
        · rw [if_neg h3] at h
          have h4 : signs1.contains c = true := by
            cases hs : signs1.contains c
            · rw [signF_no hs] at h; simp at h
            · rfl
          rcases sign_cases h4 with (rfl | rfl | rfl) | rfl | rfl | rfl | rfl | rfl | rfl | rfl | rfl | rfl | rfl | rfl | rfl | rfl <;> exact ⟨rfl, by decide⟩
  simp only [skp, hc.1, decide_eq_false hc.2]
  rfl

/-- Tokens so much further. -/
def shT (d : Nat) (T : List Tok) : List Tok := T.map fun t => ⟨t.kind, t.text, t.place + d⟩
theorem lxr_shift : ∀ (f p d : Nat) (l : List UInt8), lxr f (p + d) l = (shT d (lxr f p l).1, (lxr f p l).2.map (· + d))
  | 0, p, d, l => rfl
  | f + 1, p, d, [] => rfl
  | f + 1, p, d, c :: t => by
    cases h : tokF (c :: t) with
    | none => rw [lxr_none _ _ _ _ h, lxr_none _ _ _ _ h]; rfl
    | some kn =>
      obtain ⟨k, n⟩ := kn
      rw [lxr_cons _ _ _ _ _ _ h, lxr_cons _ _ _ _ _ _ h]
      unfold lxs
      rw [show p + d + n + skp false ((c :: t).drop n) = (p + n + skp false ((c :: t).drop n)) + d by omega, lxr_shift f _ d]
      rfl
theorem skp_join (b : List UInt8) : ∀ (m : Bool) (r : List UInt8), (skp m r = r.length → skp m (r ++ 10 :: b) = r.length + 1 + skp false b) ∧ (skp m r ≠ r.length → skp m (r ++ 10 :: b) = skp m r)
  | true, [] => ⟨fun _ => by simp [skp], fun h => absurd rfl h⟩
  | false, [] => ⟨fun _ => by simp [skp, isBl], fun h => absurd rfl h⟩
  | true, c :: t => by
    obtain ⟨i1, i2⟩ := skp_join b (!decide (c.toNat = 10)) t
    have e1 : skp true (c :: t ++ 10 :: b) = 1 + skp (!decide (c.toNat = 10)) (t ++ 10 :: b) := rfl
    have e2 : skp true (c :: t) = 1 + skp (!decide (c.toNat = 10)) t := rfl
    rw [e1, e2, List.length_cons]
    constructor
    · intro h; rw [i1 (by omega)]; omega
    · intro h; rw [i2 (by omega)]
  | false, c :: t => by
    obtain ⟨i1, i2⟩ := skp_join b false t
    obtain ⟨j1, j2⟩ := skp_join b true t
    have hh : ((t ++ 10 :: b).head? == some 47) = (t.head? == some 47) := by
      cases t with
      | nil => rfl
      | cons d u => rfl
    have e1 : skp false (c :: t ++ 10 :: b) = if isBl c then 1 + skp false (t ++ 10 :: b) else if decide (c.toNat = 47) && (t.head? == some 47) then 1 + skp true (t ++ 10 :: b) else 0 := by
      rw [← hh]; rfl
    have e2 : skp false (c :: t) = if isBl c then 1 + skp false t else if decide (c.toNat = 47) && (t.head? == some 47) then 1 + skp true t else 0 := rfl
    rw [e1, e2, List.length_cons]
    by_cases hb : isBl c = true
    · rw [if_pos hb, if_pos hb]
      constructor
      · intro h; rw [i1 (by omega)]; omega
      · intro h; rw [i2 (by omega)]
    · rw [if_neg hb, if_neg hb]
      by_cases h2 : (decide (c.toNat = 47) && (t.head? == some 47)) = true
      · rw [if_pos h2, if_pos h2]
        constructor
        · intro h; rw [j1 (by omega)]; omega
        · intro h; rw [j2 (by omega)]
      · rw [if_neg h2, if_neg h2]
        exact ⟨fun h => by omega, fun _ => rfl⟩
theorem join_lxs (b : List UInt8) : ∀ (f g p : Nat) (r : List UInt8) (X : List Tok), r.length < f → (r ++ 10 :: b).length < g → lxs f p r = (X, none) →
    lxs g p (r ++ 10 :: b) = (X.dropLast ++ (lxs (b.length + 1) (p + r.length + 1) b).1, (lxs (b.length + 1) (p + r.length + 1) b).2) ∧ X ≠ [] := by
  intro f
  induction f with
  | zero => intro g p r X h; omega
  | succ f ih =>
    intro g p r X hf hg hX
    have hsl := skp_le false r
    have hgl : r.length + 1 + b.length < g := by rw [List.length_append, List.length_cons] at hg; omega
    by_cases hm : skp false r = r.length
    · unfold lxs at hX
      rw [hm, List.drop_length] at hX
      simp only [lxr] at hX
      injection hX with e1 _
      subst e1
      refine ⟨?_, by simp⟩
      have e : lxs g p (r ++ 10 :: b) = lxs g (p + r.length + 1) b := by
        unfold lxs
        rw [(skp_join b false r).1 hm, show p + (r.length + 1 + skp false b) = p + r.length + 1 + skp false b by omega]
        congr 1
        rw [List.drop_append, List.drop_of_length_le (by omega)]
        rw [show r.length + 1 + skp false b - r.length = skp false b + 1 by omega]
        simp
      rw [e, lxs_fuel g (b.length + 1) _ b (by omega) (by omega)]
      simp
    · have hlt : skp false r < r.length := by omega
      have hd : r.drop (skp false r) ≠ [] := fun h => by
        have := congrArg List.length h
        simp at this
        omega
      obtain ⟨c, t, hct⟩ := List.exists_cons_of_ne_nil hd
      have hlen : (c :: t).length = r.length - skp false r := by rw [← hct]; simp
      have e0 : lxs g p (r ++ 10 :: b) = lxr g (p + skp false r) (c :: (t ++ 10 :: b)) := by
        unfold lxs
        rw [(skp_join b false r).2 hm]
        congr 1
        rw [List.drop_append_of_le_length (by omega), hct]; rfl
      rw [e0]
      unfold lxs at hX
      rw [hct] at hX
      obtain ⟨g, rfl⟩ : ∃ g', g = g' + 1 := ⟨g - 1, by omega⟩
      cases ht : tokF (c :: t) with
      | none => rw [lxr_none _ _ _ _ ht] at hX; cases hX
      | some kn =>
        obtain ⟨k, n⟩ := kn
        have hn := tokF_le ht
        rw [lxr_cons _ _ _ _ _ _ ht] at hX
        injection hX with e1 e2
        subst e1
        have hxl : ((c :: t).take n).length = n := by rw [List.length_take]; omega
        have hsplit : (c :: t) = (c :: t).take n ++ (c :: t).drop n := (List.take_append_drop n (c :: t)).symm
        have ht' : tokF (c :: (t ++ 10 :: b)) = some (k, n) := by
          have h1 : tokF ((c :: t).take n ++ (c :: t).drop n) = some (k, ((c :: t).take n).length) := by rw [← hsplit, hxl]; exact ht
          have h2 : Behind ((c :: t).drop n) ((c :: t).drop n ++ 10 :: b) := by
            cases hz : (c :: t).drop n with
            | nil => exact .inr (.inr ⟨10, b, rfl, rfl⟩)
            | cons d u => exact .inl rfl
          have h3 := tokF_same h2 h1
          rw [hxl, ← List.append_assoc, ← hsplit] at h3
          exact h3
        rw [lxr_cons _ _ _ _ _ _ ht']
        have hdrop : (c :: (t ++ 10 :: b)).drop n = (c :: t).drop n ++ 10 :: b := by
          rw [show c :: (t ++ 10 :: b) = (c :: t) ++ 10 :: b from rfl, List.drop_append_of_le_length hn.2]
        have htake : (c :: (t ++ 10 :: b)).take n = (c :: t).take n := by
          rw [show c :: (t ++ 10 :: b) = (c :: t) ++ 10 :: b from rfl, List.take_append_of_le_length hn.2]
        have hdl : ((c :: t).drop n).length = r.length - skp false r - n := by rw [List.length_drop, hlen]
        obtain ⟨i1, i2⟩ := ih g (p + skp false r + n) ((c :: t).drop n) (lxs f (p + skp false r + n) ((c :: t).drop n)).1 (by rw [hdl]; omega) (by rw [List.length_append, hdl, List.length_cons]; omega) (by rw [← e2])
        rw [hdrop, htake, i1]
        have hp : p + skp false r + n + ((c :: t).drop n).length + 1 = p + r.length + 1 := by rw [hdl]; omega
        rw [hp]
        refine ⟨?_, by simp⟩
        rw [List.dropLast_cons_of_ne_nil i2]
        rfl
theorem lexF_join (a b : List UInt8) (X Y : List Tok) (hX : lexF a = (X, none)) (hY : lexF b = (Y, none)) : lexF (a ++ 10 :: b) = (X.dropLast ++ shT (a.length + 1) Y, none) ∧ X ≠ [] := by
  obtain ⟨h1, h2⟩ := join_lxs b (a.length + 1) ((a ++ 10 :: b).length + 1) 0 a X (by omega) (by omega) hX
  refine ⟨?_, h2⟩
  show lxs ((a ++ 10 :: b).length + 1) 0 (a ++ 10 :: b) = _
  rw [h1]
  have e : lxs (b.length + 1) (0 + a.length + 1) b = (shT (a.length + 1) Y, none) := by
    unfold lxs
    rw [show 0 + a.length + 1 + skp false b = 0 + skp false b + (a.length + 1) by omega, lxr_shift]
    have : lxr (b.length + 1) (0 + skp false b) (b.drop (skp false b)) = (Y, none) := hY
    rw [this]; rfl
  rw [e]
end Go.Proofs.YtdnjcajbmibjiaaDoor
