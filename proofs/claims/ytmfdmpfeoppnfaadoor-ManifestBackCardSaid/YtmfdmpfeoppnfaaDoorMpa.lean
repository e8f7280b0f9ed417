/-
  The mathematics of workspaces' texts: lines, what a line does, what a text tells.
-/
import Derived.Test.YtmfdmpfeoppnfaaDoorMma
namespace Go.Proofs.YtmfdmpfeoppnfaaDoor
open Go

/-- The first line's size, with its byte 10. -/
def lineN : Bs → Nat
  | [] => 0
  | c :: t => if c = 10 then 1 else lineN t + 1
theorem lineN_le : ∀ s : Bs, lineN s ≤ s.length
  | [] => by simp [lineN]
  | c :: t => by have := lineN_le t; unfold lineN; split <;> simp <;> omega
theorem lineN_pos {s : Bs} (h : s ≠ []) : 1 ≤ lineN s := by
  cases s with
  | nil => exact absurd rfl h
  | cons c t => unfold lineN; split <;> omega
def lns : Bs → List Bs
  | [] => []
  | c :: t => if c = 10 then [10] :: lns t else match lns t with
    | [] => [[c]]
    | x :: r => (c :: x) :: r
theorem lns_nl (t : Bs) : lns (10 :: t) = [10] :: lns t := by rw [lns, if_pos rfl]
theorem lns_cons {c : UInt8} (h : c ≠ 10) (t : Bs) : lns (c :: t) = match lns t with
    | [] => [[c]]
    | x :: r => (c :: x) :: r := by rw [lns, if_neg h]
theorem lns_eq : ∀ s : Bs, s ≠ [] → lns s = s.take (lineN s) :: lns (s.drop (lineN s))
  | [], h => absurd rfl h
  | c :: t, _ => by
    by_cases hc : c = 10
    · subst hc
      rw [lns_nl, lineN, if_pos rfl]; simp
    · rw [lns_cons hc, lineN, if_neg hc]
      cases t with
      | nil => simp [lns, lineN]
      | cons d t' =>
        rw [lns_eq (d :: t') (by simp)]
        simp
theorem lns_flat : ∀ s : Bs, (lns s).flatten = s
  | [] => rfl
  | c :: t => by
    have ih := lns_flat t
    unfold lns
    split
    · rename_i h; simp [ih, h]
    · cases h : lns t with
      | nil => rw [h] at ih; simp at ih; simp [← ih]
      | cons x r => rw [h] at ih; simp at ih; simp [ih]
theorem lns_app : ∀ a b : Bs, lns (a ++ 10 :: b) = lns (a ++ [10]) ++ lns b
  | [], b => by simp [lns]
  | c :: t, b => by
    have ih := lns_app t b
    simp only [List.cons_append]
    by_cases hc : c = 10
    · subst hc
      rw [lns_nl, lns_nl, ih]; rfl
    · rw [lns_cons hc, lns_cons hc, ih]
      cases h : lns (t ++ [10]) with
      | nil => exfalso; have := lns_flat (t ++ [10]); rw [h] at this; simp at this
      | cons x r => rfl

/-- A head's line. -/
def isHd (l : Bs) : Bool := ([61, 61] : Bs).isPrefixOf l
/-- A line without its byte 10. -/
def stripN (l : Bs) : Bs := if ([10] : Bs).isSuffixOf l then l.take (l.length - 1) else l
def addL : List Src → Bs → List Src
  | [], _ => []
  | [x], l => [{ x with text := x.text ++ l }]
  | x :: y :: r, l => x :: addL (y :: r) l
/-- What a line does to the crates above it; or its error's number. -/
def stepF (cs : List Src) (l : Bs) : Except Nat (List Src) :=
  if isHd l then match headF (stripN l) with
    | none => .error 40
    | some (n, ds) => if 64 ≤ cs.length ∨ 64 < ds.length then .error 5 else if n ∈ cs.map (·.name) ∨ ¬ (n :: ds).Nodup then .error 23 else .ok (cs ++ [⟨n, ds, []⟩])
  else if cs = [] then (if l = [10] then .ok [] else .error 40) else .ok (addL cs l)
def runF : Nat → List Src → List Bs → Except (Nat × Nat) (List Src)
  | _, cs, [] => .ok cs
  | at_, cs, l :: r => match stepF cs l with
    | .error c => .error (c, at_)
    | .ok cs' => runF (at_ + l.length) cs' r
def parF (s : Bs) : Except (Nat × Nat) (List Src) :=
  if 4194304 < s.length then .error (5, 0) else match runF 0 [] (lns s) with
    | .error e => .error e
    | .ok cs => if cs = [] then .error (40, 0) else .ok cs

theorem addL_len : ∀ (cs : List Src) (l : Bs), (addL cs l).length = cs.length
  | [], _ => rfl
  | [x], _ => rfl
  | x :: y :: r, l => by simp [addL, addL_len (y :: r) l]
theorem addL_names : ∀ (cs : List Src) (l : Bs), (addL cs l).map (·.name) = cs.map (·.name)
  | [], _ => rfl
  | [x], _ => rfl
  | x :: y :: r, l => by simp only [addL, List.map_cons, addL_names (y :: r) l]
theorem addL_app : ∀ (x cs : List Src) (l : Bs), cs ≠ [] → addL (x ++ cs) l = x ++ addL cs l
  | [], _, _, _ => rfl
  | [a], c :: cs, l, _ => rfl
  | a :: b :: x, c :: cs, l, h => by
    show a :: addL (b :: x ++ c :: cs) l = _
    rw [addL_app (b :: x) (c :: cs) l h]; rfl
  | _, [], _, h => absurd rfl h
theorem addL_snoc (cs : List Src) (x : Src) (l : Bs) : addL (cs ++ [x]) l = cs ++ [{ x with text := x.text ++ l }] := addL_app cs [x] l (by simp)
theorem addL_ne {cs : List Src} (l : Bs) (h : cs ≠ []) : addL cs l ≠ [] := fun e => h (List.eq_nil_of_length_eq_zero (by rw [← addL_len cs l, e]; rfl))

theorem stepF_len {cs cs' : List Src} {l : Bs} (h : stepF cs l = .ok cs') : cs.length ≤ cs'.length ∧ (cs.length ≤ 64 → cs'.length ≤ 64) ∧ ∃ r, cs'.map (·.name) = cs.map (·.name) ++ r := by
  unfold stepF at h
  split at h
  · split at h
    · cases h
    · split at h
      · cases h
      · rename_i h1
        split at h
        · cases h
        · cases h
          simp; omega
  · split at h
    · split at h
      · cases h
        rename_i h1 _
        simp [h1]
      · cases h
    · cases h
      rw [addL_len, addL_names]
      exact ⟨Nat.le_refl _, id, [], by simp⟩
theorem runF_app : ∀ (L1 L2 : List Bs) (p : Nat) (cs : List Src), runF p cs (L1 ++ L2) = match runF p cs L1 with
    | .error e => .error e
    | .ok cs' => runF (p + L1.flatten.length) cs' L2
  | [], L2, p, cs => by simp [runF]
  | l :: L1, L2, p, cs => by
    show runF p cs (l :: (L1 ++ L2)) = _
    unfold runF
    cases stepF cs l with
    | error c => rfl
    | ok cs' =>
      simp only
      rw [runF_app L1 L2]
      cases runF (p + l.length) cs' L1 with
      | error e => rfl
      | ok c2 => simp [Nat.add_assoc]; cases L2 <;> rfl
theorem runF_grow : ∀ (L : List Bs) (p : Nat) (cs ys : List Src), runF p cs L = .ok ys → cs.length ≤ ys.length ∧ (cs.length ≤ 64 → ys.length ≤ 64) ∧ ∃ r, ys.map (·.name) = cs.map (·.name) ++ r
  | [], p, cs, ys, h => by cases h; exact ⟨Nat.le_refl _, id, [], by simp⟩
  | l :: L, p, cs, ys, h => by
    unfold runF at h
    cases hs : stepF cs l with
    | error c => rw [hs] at h; cases h
    | ok cs' =>
      rw [hs] at h
      obtain ⟨a1, a2, r1, a3⟩ := stepF_len hs
      obtain ⟨b1, b2, r2, b3⟩ := runF_grow L _ cs' ys h
      exact ⟨by omega, fun x => b2 (a2 x), r1 ++ r2, by rw [b3, a3, List.append_assoc]⟩

/-- The same lines behind other crates with other names. -/
theorem runF_behind (x : List Src) : ∀ (L : List Bs) (p q : Nat) (cs ys : List Src), runF p cs L = .ok ys → (cs ≠ [] ∨ ∀ l r, L = l :: r → isHd l = true) → x.length + ys.length ≤ 64 →
    (∀ n, n ∈ x.map (·.name) → n ∉ ys.map (·.name)) → runF q (x ++ cs) L = .ok (x ++ ys)
  | [], p, q, cs, ys, h, _, _, _ => by cases h; rfl
  | l :: L, p, q, cs, ys, h, hh, hlen, hn => by
    unfold runF at h ⊢
    cases hs : stepF cs l with
    | error c => rw [hs] at h; cases h
    | ok cs' =>
      rw [hs] at h
      simp only at h
      obtain ⟨b1, b2, r2, b3⟩ := runF_grow L _ cs' ys h
      have hlen' : x.length + cs'.length ≤ 64 := by omega
      have hn' : ∀ n, n ∈ x.map (·.name) → n ∉ cs'.map (·.name) := fun n h1 h2 => hn n h1 (by rw [b3]; exact List.mem_append_left _ h2)
      have hne : cs' ≠ [] := by
        unfold stepF at hs
        by_cases hd : isHd l = true
        · rw [if_pos hd] at hs
          split at hs
          · cases hs
          · split at hs
            · cases hs
            · split at hs
              · cases hs
              · cases hs; simp
        · rw [if_neg hd] at hs
          rcases hh with hh | hh
          · rw [if_neg hh] at hs
            cases hs
            exact addL_ne l hh
          · exact absurd (hh l L rfl) hd
      have hst : stepF (x ++ cs) l = .ok (x ++ cs') := by
        unfold stepF at hs ⊢
        by_cases hd : isHd l = true
        · rw [if_pos hd] at hs ⊢
          split at hs
          · cases hs
          · rename_i n ds he
            split at hs
            · cases hs
            · rename_i h1
              split at hs
              · cases hs
              · rename_i h2
                cases hs
                simp at hlen'
                rw [if_neg (by simp only [List.length_append]; omega), if_neg]
                · simp
                · intro hc
                  rcases hc with hc | hc
                  · rw [List.map_append, List.mem_append] at hc
                    rcases hc with hc | hc
                    · exact hn' n hc (by simp)
                    · exact h2 (.inl hc)
                  · exact h2 (.inr hc)
        · rw [if_neg hd] at hs ⊢
          rcases hh with hh | hh
          · rw [if_neg hh] at hs
            cases hs
            rw [if_neg (by simp [hh]), addL_app x cs l hh]
          · exact absurd (hh l L rfl) hd
      rw [hst]
      exact runF_behind x L _ _ cs' ys h (.inl hne) hlen hn
/-- Two workspaces' texts, one behind the other. -/
theorem parF_join {a b : Bs} {x y : List Src} (ha : parF (a ++ [10]) = .ok x) (hb : parF b = .ok y) (hl : a.length + 1 + b.length ≤ 4194304) (hlen : x.length + y.length ≤ 64) (hh : ([61, 61] : Bs).isPrefixOf b = true)
    (hn : ∀ n, n ∈ x.map (·.name) → n ∉ y.map (·.name)) : parF (a ++ 10 :: b) = .ok (x ++ y) := by
  unfold parF at ha hb ⊢
  rw [if_neg (by simp; omega)] at ha hb ⊢
  cases h1 : runF 0 [] (lns (a ++ [10])) with
  | error e => rw [h1] at ha; cases ha
  | ok x' =>
    cases h2 : runF 0 [] (lns b) with
    | error e => rw [h2] at hb; cases hb
    | ok y' =>
      rw [h1] at ha; rw [h2] at hb
      simp only at ha hb
      split at ha
      · cases ha
      · split at hb
        · cases hb
        · cases ha; cases hb
          rename_i hx hy
          rw [lns_app, runF_app, h1]
          simp only
          have := runF_behind x (lns b) 0 (0 + (lns (a ++ [10])).flatten.length) [] y h2 (.inr ?_) hlen hn
          · rw [List.append_nil] at this
            rw [this]
            simp [hx]
          · intro l r e
            cases b with
            | nil => simp at hh
            | cons c t =>
              rw [lns_eq _ (by simp)] at e
              cases e
              cases t with
              | nil => simp at hh
              | cons d t =>
                have hc : c = 61 := by simp at hh; exact hh.1.symm
                have hd : d = 61 := by simp at hh; exact hh.2.symm
                subst hc; subst hd
                rfl
end Go.Proofs.YtmfdmpfeoppnfaaDoor
