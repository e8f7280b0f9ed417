/-
  The mathematics of the way back: what was read and is written anew is read as the same crates.
-/
import Derived.Test.YtmfdmpfeoppnfaaDoorXpr
import Derived.Test.YtmfdmpfeoppnfaaDoorMxp
namespace Go.Proofs.YtmfdmpfeoppnfaaDoor
open Go

/-- Lines: all but the last end with their byte 10, which lies nowhere else. -/
def Wf : List Bs → Prop
  | [] => True
  | l :: r => ((∃ x : Bs, 10 ∉ x ∧ l = x ++ [10]) ∧ Wf r) ∨ (r = [] ∧ l ≠ [] ∧ 10 ∉ l)
theorem lns_wf : ∀ s : Bs, Wf (lns s)
  | [] => trivial
  | c :: t => by
    have ih := lns_wf t
    by_cases hc : c = 10
    · subst hc
      rw [lns_nl]
      exact .inl ⟨⟨[], by simp, rfl⟩, ih⟩
    · rw [lns_cons hc]
      cases h : lns t with
      | nil => exact .inr ⟨rfl, by simp, by simp; exact fun e => hc e.symm⟩
      | cons x r =>
        rw [h] at ih
        rcases ih with ⟨⟨y, hy, rfl⟩, hr⟩ | ⟨hr, hx, hn⟩
        · exact .inl ⟨⟨c :: y, by simp only [List.mem_cons, not_or]; exact ⟨fun e => hc e.symm, hy⟩, rfl⟩, hr⟩
        · exact .inr ⟨hr, by simp, by simp only [List.mem_cons, not_or]; exact ⟨fun e => hc e.symm, hn⟩⟩
theorem lns_one : ∀ x : Bs, 10 ∉ x → lns (x ++ [10]) = [x ++ [10]]
  | [], _ => rfl
  | c :: t, h => by
    simp only [List.mem_cons, not_or] at h
    rw [List.cons_append, lns_cons (fun e => h.1 e.symm), lns_one t h.2]
theorem lns_last : ∀ l : Bs, l ≠ [] → 10 ∉ l → lns l = [l]
  | [], h, _ => absurd rfl h
  | c :: t, _, h => by
    simp only [List.mem_cons, not_or] at h
    rw [lns_cons (fun e => h.1 e.symm)]
    cases t with
    | nil => rfl
    | cons d t' => rw [lns_last (d :: t') (by simp) h.2]
def Ends (T : Bs) : Prop := T = [] ∨ ∃ T0, T = T0 ++ [10]
theorem lns_snoc {T l : Bs} (hT : Ends T) (hl : lns l = [l]) : lns (T ++ l) = lns T ++ [l] := by
  rcases hT with rfl | ⟨T0, rfl⟩
  · simpa [lns] using hl
  · rw [show T0 ++ [10] ++ l = T0 ++ 10 :: l by simp, lns_app, hl]
theorem hdP_head (x : Src) : hdP x x.deps.length = headT x.name x.deps := by
  unfold hdP headT
  rw [List.take_length]
  by_cases h : x.deps = []
  · simp [h]
  · rw [if_neg h, if_neg (fun h' => h (List.eq_nil_of_length_eq_zero h'))]
theorem textF_snoc (cs : List Src) (x : Src) : textF (cs ++ [x]) = textF cs ++ crT x := by
  unfold textF; rw [List.flatMap_append]; simp
theorem textF_cons (x : Src) (cs : List Src) : textF (x :: cs) = crT x ++ textF cs := by
  unfold textF; rw [List.flatMap_cons]
theorem textF_add : ∀ (cs : List Src) (l : Bs), cs ≠ [] → textF (addL cs l) = textF cs ++ l
  | [], _, h => absurd rfl h
  | [x], l, _ => by
    show textF [{ x with text := x.text ++ l }] = _
    rw [textF_cons, textF_cons]
    simp [crT, hdP, textF]
  | x :: y :: r, l, _ => by
    show textF (x :: addL (y :: r) l) = _
    rw [textF_cons, textF_add (y :: r) l (by simp), textF_cons x, List.append_assoc]
theorem run_snoc {T l : Bs} {cs cs' : List Src} (hT : Ends T) (hr : runF 0 [] (lns T) = .ok cs) (hl : lns l = [l]) (hs : stepF cs l = .ok cs') : runF 0 [] (lns (T ++ l)) = .ok cs' := by
  rw [lns_snoc hT hl, runF_app, hr]
  simp only
  unfold runF
  rw [hs]
  rfl
theorem back_run : ∀ (K : List Bs) (p : Nat) (cs ys : List Src), Wf K → runF 0 [] (lns (textF cs)) = .ok cs → Ends (textF cs) → runF p cs K = .ok ys →
    runF 0 [] (lns (textF ys)) = .ok ys ∧ (textF ys).length ≤ (textF cs).length + K.flatten.length + 1
  | [], p, cs, ys, _, h1, _, h => by cases h; exact ⟨h1, by simp⟩
  | l :: r, p, cs, ys, hw, h1, h2, h => by
    unfold runF at h
    cases hs : stepF cs l with
    | error e => rw [hs] at h; cases h
    | ok cs' =>
      rw [hs] at h
      simp only at h
      have hs0 := hs
      unfold stepF at hs
      rcases hw with ⟨⟨x, hx, rfl⟩, hr⟩ | ⟨rfl, hl, hn⟩
      · have hone := lns_one x hx
        have hstr : stripN (x ++ [10]) = x := strip_of (.inr rfl) hx
        have key : textF cs' = textF cs ++ (x ++ [10]) ∨ (cs' = [] ∧ cs = []) := by
          split at hs
          · rw [hstr] at hs
            split at hs
            · cases hs
            · rename_i n ds he
              split at hs
              · cases hs
              · split at hs
                · cases hs
                · cases hs
                  left
                  rw [textF_snoc, crT, hdP_head, head_form he]
                  simp
          · split at hs
            · rename_i hc
              split at hs
              · cases hs; exact .inr ⟨rfl, hc⟩
              · cases hs
            · rename_i hc
              cases hs
              exact .inl (textF_add cs _ hc)
        rcases key with key | ⟨rfl, rfl⟩
        · have g1 : runF 0 [] (lns (textF cs')) = .ok cs' := by rw [key]; exact run_snoc h2 h1 hone hs0
          obtain ⟨a, b⟩ := back_run r _ cs' ys hr g1 (.inr ⟨textF cs ++ x, by rw [key]; simp⟩) h
          refine ⟨a, ?_⟩
          rw [key] at b
          simp only [List.length_append, List.flatten_cons, List.length_cons, List.length_nil] at b ⊢
          omega
        · obtain ⟨a, b⟩ := back_run r _ [] ys hr h1 h2 h
          refine ⟨a, ?_⟩
          simp only [List.length_append, List.flatten_cons, List.length_cons, List.length_nil] at b ⊢
          omega
      · have hlast := lns_last l hl hn
        have hstr : stripN l = l := by have := strip_of (x := l) (t := []) (.inl rfl) hn; simpa using this
        unfold runF at h
        cases h
        by_cases hd : isHd l = true
        · rw [if_pos hd, hstr] at hs
          have hd2 : isHd (l ++ [10]) = true := by
            unfold isHd at hd ⊢
            exact List.isPrefixOf_iff_prefix.2 ((List.isPrefixOf_iff_prefix.1 hd).trans (List.prefix_append _ _))
          have hs2 : stepF cs (l ++ [10]) = .ok ys := by
            unfold stepF
            rw [if_pos hd2, strip_of (.inr rfl) hn]
            exact hs
          have key : textF ys = textF cs ++ (l ++ [10]) := by
            split at hs
            · cases hs
            · rename_i n ds he
              split at hs
              · cases hs
              · split at hs
                · cases hs
                · cases hs
                  rw [textF_snoc, crT, hdP_head, head_form he]
                  simp
          refine ⟨by rw [key]; exact run_snoc h2 h1 (lns_one l hn) hs2, ?_⟩
          rw [key]
          simp only [List.length_append, List.flatten_cons, List.flatten_nil, List.length_cons, List.length_nil]
          omega
        · rw [if_neg hd] at hs
          split at hs
          · split at hs
            · rename_i h10
              subst h10
              simp at hn
            · cases hs
          · rename_i hc
            cases hs
            have key := textF_add cs l hc
            refine ⟨by rw [key]; exact run_snoc h2 h1 hlast hs0, ?_⟩
            rw [key]
            simp only [List.length_append, List.flatten_cons, List.flatten_nil, List.length_nil]
            omega
theorem parF_back {s : Bs} {y : List Src} (h : parF s = .ok y) (hs : s.length ≤ 3000) : parF (textF y) = .ok y ∧ (textF y).length ≤ 3001 := by
  unfold parF at h
  rw [if_neg (by omega)] at h
  cases hr : runF 0 [] (lns s) with
  | error e => rw [hr] at h; cases h
  | ok cs =>
    rw [hr] at h
    simp only at h
    split at h
    · cases h
    · rename_i hne
      cases h
      obtain ⟨a, b⟩ := back_run (lns s) 0 [] y (lns_wf s) rfl (.inl rfl) hr
      rw [lns_flat] at b
      have b' : (textF y).length ≤ 3001 := by
        have : (textF ([] : List Src)).length = 0 := rfl
        omega
      refine ⟨?_, b'⟩
      unfold parF
      rw [if_neg (by omega), a]
      simp [hne]
theorem print_back {s : Bs} {y : List Src} (h : parF s = .ok y) (hs : s.length ≤ 3000) : printF y = some (textF y) := by
  rw [printF_eq]
  unfold xprintF meansF
  rw [(parF_back h hs).1]
  show (if eqL y y = true then some (textF y) else none) = _
  rw [if_pos (eqL_true rfl)]
end Go.Proofs.YtmfdmpfeoppnfaaDoor
