/-
  The mathematics of blanks put between tokens.
-/
import Derived.Test.YtdnjcajbmibjiaaDoorJoi
namespace Go.Proofs.YtdnjcajbmibjiaaDoor
open Go.RowKit

/-- A token's own bytes. -/
def rawOf (t : Tok) : List UInt8 := if t.kind = 3 then 39 :: t.text else t.text
/-- A token that stood in a text of at most m bytes. -/
def Tk (m : Nat) (t : Tok) : Prop := (rawOf t).length ≤ m ∧ ∃ z, tokF (rawOf t ++ z) = some (t.kind, (rawOf t).length) ∧ textOf t.kind (rawOf t) = t.text
theorem raw_text (k p : Nat) (x z : List UInt8) (h : tokF (x ++ z) = some (k, x.length)) : rawOf ⟨k, textOf k x, p⟩ = x := by
  unfold rawOf textOf
  by_cases h3 : k = 3
  · simp only [if_pos h3]
    subst h3
    have h0 := (tokF_le h).1
    cases x with
    | nil => simp at h0
    | cons c t =>
      unfold tokF at h
      simp only [List.cons_append] at h
      by_cases h1 : isLt c = true
      · rw [if_pos h1] at h
        split at h
        · injection h with h; injection h with h; cases h
        · split at h
          · injection h with h; injection h with h; cases h
          · cases h
      · rw [if_neg h1] at h
        by_cases h2 : c.toNat = 39
        · have : c = 39 := UInt8.toNat_inj.1 (by simpa using h2)
          subst this
          rfl
        · rw [if_neg h2] at h
          by_cases h4 : isDg c = true
          · rw [if_pos h4] at h
            split at h
            · injection h with h; injection h with h; cases h
            · cases h
          · rw [if_neg h4] at h
            split at h
            · cases h
            · injection h with h; injection h with h; cases h
  · simp only [if_neg h3]
/-- All tokens but the last one stood in the text; the last one is its end. -/
theorem lxr_inits (m : Nat) : ∀ (f p : Nat) (l : List UInt8) (T : List Tok), l.length ≤ m → lxr f p l = (T, none) → ∃ T0 q, T = T0 ++ [endTok q] ∧ ∀ t ∈ T0, Tk m t
  | 0, p, l, T, _, h => by simp [lxr] at h
  | f + 1, p, [], T, _, h => by
    simp only [lxr] at h
    injection h with h _
    exact ⟨[], p, by rw [← h]; rfl, fun t ht => by cases ht⟩
  | f + 1, p, c :: u, T, hm, h => by
    cases hk : tokF (c :: u) with
    | none => rw [lxr_none _ _ _ _ hk] at h; cases h
    | some kn =>
      obtain ⟨k, n⟩ := kn
      rw [lxr_cons _ _ _ _ _ _ hk] at h
      have hn := tokF_le hk
      injection h with h1 h2
      have hs := skp_le false ((c :: u).drop n)
      obtain ⟨T0, q, e, hT⟩ := lxr_inits m f (p + n + skp false ((c :: u).drop n)) (((c :: u).drop n).drop (skp false ((c :: u).drop n))) (lxs f (p + n) ((c :: u).drop n)).1 (by rw [List.length_drop, List.length_drop]; omega) (by unfold lxs at h2 ⊢; rw [← h2])
      refine ⟨⟨k, textOf k ((c :: u).take n), p⟩ :: T0, q, by rw [← h1, e]; rfl, ?_⟩
      intro t ht
      rcases List.mem_cons.1 ht with h | h
      · subst h
        have hxl : ((c :: u).take n).length = n := by rw [List.length_take]; omega
        have hsp : tokF ((c :: u).take n ++ (c :: u).drop n) = some (k, ((c :: u).take n).length) := by rw [List.take_append_drop, hxl]; exact hk
        have hraw := raw_text k p _ _ hsp
        refine ⟨by rw [hraw, hxl]; omega, (c :: u).drop n, ?_, ?_⟩
        · rw [hraw]; exact hsp
        · rw [hraw]
      · exact hT t h

/-- The five gaps. -/
def gapsL : List (List UInt8) := [[32], [10], [9, 32], [32, 47, 47, 32, 97, 32, 39, 98, 10], [47, 47, 10, 47, 47, 10]]
theorem gap_ok (g : List UInt8) (hg : g ∈ gapsL) (u : List UInt8) : skp false (g ++ u) = g.length + skp false u ∧ (∃ c v, g = c :: v ∧ stopB c = true) ∧ g.length ≤ 9 := by
  simp only [gapsL, List.mem_cons, List.not_mem_nil, or_false] at hg
  rcases hg with rfl | rfl | rfl | rfl | rfl
  · exact ⟨by simp [skp, isBl], ⟨_, _, rfl, rfl⟩, by decide⟩
  · exact ⟨by simp [skp, isBl], ⟨_, _, rfl, rfl⟩, by decide⟩
  · exact ⟨by simp [skp, isBl]; omega, ⟨_, _, rfl, rfl⟩, by decide⟩
  · exact ⟨by simp [skp, isBl]; omega, ⟨_, _, rfl, rfl⟩, by decide⟩
  · exact ⟨by simp [skp, isBl]; omega, ⟨_, _, rfl, rfl⟩, by decide⟩
/-- Gaps and tokens, one behind the other. -/
def cat : List (List UInt8 × Tok) → List UInt8
  | [] => []
  | (g, t) :: r => g ++ (rawOf t ++ cat r)
theorem cat_snoc (P : List (List UInt8 × Tok)) (g : List UInt8) (t : Tok) : cat (P ++ [(g, t)]) = cat P ++ g ++ rawOf t := by
  induction P with
  | nil => simp [cat]
  | cons a P ih =>
    obtain ⟨g', t'⟩ := a
    simp only [List.cons_append, cat, ih, List.append_assoc]
/-- They are read as they were. -/
theorem cat_lxs (m : Nat) : ∀ (P : List (List UInt8 × Tok)), (∀ a ∈ P, a.1 ∈ gapsL ∧ Tk m a.2) → ∀ f p, (cat P ++ [10]).length < f →
    ∃ M : List Tok, lxs f p (cat P ++ [10]) = (M, none) ∧ M.map (fun t => (t.kind, t.text)) = P.map (fun a => (a.2.kind, a.2.text)) ++ [(0, [])] := by
  intro P
  induction P with
  | nil =>
    intro _ f p hf
    obtain ⟨f, rfl⟩ : ∃ f', f = f' + 1 := ⟨f - 1, by omega⟩
    refine ⟨[endTok (p + 1)], ?_, rfl⟩
    show lxr (f + 1) (p + skp false [10]) ([10].drop (skp false [10])) = _
    have : skp false [10] = 1 := rfl
    rw [this]
    rfl
  | cons a P ih =>
    intro hP f p hf
    obtain ⟨g, t⟩ := a
    obtain ⟨hg, hr, z, hz, htx⟩ := hP (g, t) (by simp)
    have hg' : g ∈ gapsL := hg
    obtain ⟨f, rfl⟩ : ∃ f', f = f' + 1 := ⟨f - 1, by omega⟩
    have e0 : cat ((g, t) :: P) ++ [10] = g ++ (rawOf t ++ (cat P ++ [10])) := by simp only [cat, List.append_assoc]
    rw [e0] at hf ⊢
    have hb : Behind z (cat P ++ [10]) := by
      cases P with
      | nil => exact .inr (.inr ⟨10, [], rfl, rfl⟩)
      | cons b P =>
        obtain ⟨g2, t2⟩ := b
        have h2 := hP (g2, t2) (by simp)
        obtain ⟨c, v, e, hs⟩ := (gap_ok g2 h2.1 []).2.1
        refine .inr (.inr ⟨c, v ++ (rawOf t2 ++ cat P) ++ [10], ?_, hs⟩)
        simp only [cat, e, List.cons_append, List.append_assoc]
    have ht : tokF (rawOf t ++ (cat P ++ [10])) = some (t.kind, (rawOf t).length) := tokF_same hb hz
    have h1 := (tokF_le ht).1
    obtain ⟨c, u, hcu⟩ : ∃ c u, rawOf t = c :: u := by
      cases h : rawOf t with
      | nil => rw [h] at h1; simp at h1
      | cons c u => exact ⟨c, u, rfl⟩
    have hk0 : skp false (rawOf t ++ (cat P ++ [10])) = 0 := by
      rw [hcu] at ht ⊢
      exact tok_skp ht
    have hsk : skp false (g ++ (rawOf t ++ (cat P ++ [10]))) = g.length := by rw [(gap_ok g hg' _).1, hk0]; omega
    have hd : (g ++ (rawOf t ++ (cat P ++ [10]))).drop g.length = c :: (u ++ (cat P ++ [10])) := by
      rw [List.drop_left, hcu]; rfl
    obtain ⟨M, hM, hmap⟩ := ih (fun a ha => hP a (by simp [ha])) f (p + g.length + (rawOf t).length) (by
      simp only [List.length_append] at hf ⊢
      omega)
    have ht' : tokF (c :: (u ++ (cat P ++ [10]))) = some (t.kind, (rawOf t).length) := by rw [hcu] at ht ⊢; exact ht
    have hdr : (c :: (u ++ (cat P ++ [10]))).drop (rawOf t).length = cat P ++ [10] := by
      rw [show c :: (u ++ (cat P ++ [10])) = rawOf t ++ (cat P ++ [10]) by rw [hcu]; rfl, List.drop_left]
    have htk : (c :: (u ++ (cat P ++ [10]))).take (rawOf t).length = rawOf t := by
      rw [show c :: (u ++ (cat P ++ [10])) = rawOf t ++ (cat P ++ [10]) by rw [hcu]; rfl, take_len]
    refine ⟨⟨t.kind, t.text, p + g.length⟩ :: M, ?_, ?_⟩
    · show lxr (f + 1) (p + skp false (g ++ (rawOf t ++ (cat P ++ [10])))) ((g ++ (rawOf t ++ (cat P ++ [10]))).drop (skp false (g ++ (rawOf t ++ (cat P ++ [10]))))) = _
      rw [hsk, hd, lxr_cons _ _ _ _ _ _ ht', hdr, htk, hM, htx]
    · simp only [List.map_cons, hmap, List.cons_append]
/-- What the loop has made when it has gone through i tokens. -/
def catN (G : Nat → List UInt8) (T : List Tok) : Nat → List UInt8
  | 0 => []
  | i + 1 => catN G T i ++ G i ++ rawOf (T.getD i (endTok 0))
theorem catN_cat (G : Nat → List UInt8) (T : List Tok) (i : Nat) : catN G T i = cat ((List.range i).map fun j => (G j, T.getD j (endTok 0))) := by
  induction i with
  | zero => rfl
  | succ i ih => rw [List.range_succ, List.map_append, List.map_cons, List.map_nil, cat_snoc, ← ih]; rfl
theorem getD_app (T0 : List Tok) (e : Tok) (j : Nat) (h : j < T0.length) (d : Tok) : (T0 ++ [e]).getD j d = T0[j] := by
  rw [List.getD, List.getElem?_append_left h, List.getElem?_eq_getElem h]; rfl
theorem catN_len (G : Nat → List UInt8) (m : Nat) (T0 : List Tok) (e : Tok) (hG : ∀ j, (G j).length ≤ 9) (hT : ∀ t ∈ T0, Tk m t) : ∀ i, i ≤ T0.length → (catN G (T0 ++ [e]) i).length ≤ i * (m + 9)
  | 0, _ => by simp [catN]
  | i + 1, h => by
    have ih := catN_len G m T0 e hG hT i (by omega)
    have h1 := hG i
    have h2 := (hT _ (List.getElem_mem (show i < T0.length by omega))).1
    simp only [catN, List.length_append, getD_app T0 e i (by omega)]
    have : (i + 1) * (m + 9) = i * (m + 9) + (m + 9) := by rw [Nat.add_mul, Nat.one_mul]
    omega
/-- What is read of it. -/
theorem catN_lex (G : Nat → List UInt8) (m : Nat) (T0 : List Tok) (q : Nat) (hG : ∀ j, G j ∈ gapsL) (hT : ∀ t ∈ T0, Tk m t) :
    ∃ M : List Tok, lexF (catN G (T0 ++ [endTok q]) T0.length ++ [10]) = (M, none) ∧ M.length = T0.length + 1 ∧ ∀ (i : Nat) (t u : Tok), M[i]? = some t → (T0 ++ [endTok q])[i]? = some u → t.kind = u.kind ∧ t.text = u.text := by
  have hP : ∀ a ∈ (List.range T0.length).map (fun j => (G j, (T0 ++ [endTok q]).getD j (endTok 0))), a.1 ∈ gapsL ∧ Tk m a.2 := by
    intro a ha
    obtain ⟨j, hj, rfl⟩ := List.mem_map.1 ha
    have hj' : j < T0.length := List.mem_range.1 hj
    refine ⟨hG j, ?_⟩
    show Tk m ((T0 ++ [endTok q]).getD j (endTok 0))
    rw [getD_app T0 _ j hj']
    exact hT _ (List.getElem_mem hj')
  obtain ⟨M, h1, h2⟩ := cat_lxs m _ hP ((catN G (T0 ++ [endTok q]) T0.length ++ [10]).length + 1) 0 (by rw [← catN_cat]; omega)
  rw [← catN_cat] at h1
  have hmap : M.map (fun t => (t.kind, t.text)) = (T0 ++ [endTok q]).map (fun t => (t.kind, t.text)) := by
    rw [h2, List.map_append]
    congr 1
    apply List.ext_getElem?
    intro i
    simp only [List.getElem?_map]
    rcases Nat.lt_or_ge i T0.length with hi | hi
    · rw [List.getElem?_range hi, List.getElem?_eq_getElem hi]
      simp only [Option.map_some, getD_app T0 _ i hi]
    · rw [List.getElem?_eq_none (by simpa using hi), List.getElem?_eq_none hi]
      rfl
  refine ⟨M, h1, ?_, ?_⟩
  · have := congrArg List.length hmap
    simpa using this
  · intro i t u ht hu
    have := congrArg (fun L => L[i]?) hmap
    simp only [List.getElem?_map, ht, hu, Option.map_some] at this
    injection this with this
    injection this with a b
    exact ⟨a, b⟩
end Go.Proofs.YtdnjcajbmibjiaaDoor
