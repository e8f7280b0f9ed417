/-
  The mathematics of tokens: blanks, runs, what a text begins with, all its tokens.
-/
import Derived.Test.YtdnjcajbmibjiaaDoorRows
namespace Go.Proofs.YtdnjcajbmibjiaaDoor

def isBl (c : UInt8) : Bool := decide (c.toNat = 32) || decide (c.toNat = 9) || decide (c.toNat = 10)
def isDg (c : UInt8) : Bool := decide (48 ≤ c.toNat) && decide (c.toNat ≤ 57)
def isLt (c : UInt8) : Bool := (decide (97 ≤ c.toNat) && decide (c.toNat ≤ 122)) || (decide (65 ≤ c.toNat) && decide (c.toNat ≤ 90)) || decide (c.toNat = 95)
def isNm (c : UInt8) : Bool := isLt c || isDg c

/-- How many bytes of blanks and remarks a text opens with; the flag: it stands within a remark. -/
def skp : Bool → List UInt8 → Nat
  | _, [] => 0
  | true, c :: t => 1 + skp (!decide (c.toNat = 10)) t
  | false, c :: t => if isBl c then 1 + skp false t else if decide (c.toNat = 47) && (t.head? == some 47) then 1 + skp true t else 0

theorem skp_le : ∀ (m : Bool) (l : List UInt8), skp m l ≤ l.length
  | _, [] => by simp [skp]
  | true, c :: t => by have := skp_le (!decide (c.toNat = 10)) t; simp only [skp, List.length_cons]; omega
  | false, c :: t => by
    have h1 := skp_le false t
    have h2 := skp_le true t
    simp only [skp, List.length_cons]
    split
    · omega
    · split <;> omega

/-- How many bytes of names a text opens with. -/
def runL : List UInt8 → Nat
  | [] => 0
  | c :: t => if isNm c then runL t + 1 else 0

theorem runL_le : ∀ l : List UInt8, runL l ≤ l.length
  | [] => by simp [runL]
  | c :: t => by have := runL_le t; simp only [runL, List.length_cons]; split <;> omega

def wordsL : List (List UInt8) :=
  [[102,110],[115,116,114,117,99,116],[112,117,98],[108,101,116],[109,117,116],[105,102],[101,108,115,101],[119,104,105,108,101],[108,111,111,112],[98,114,101,97,107],[99,111,110,116,105,110,117,101],[114,101,116,117,114,110],[100,114,111,112],[116,114,117,101],[102,97,108,115,101],[105,110,116],[98,111,111,108]]
def isWord (l : List UInt8) : Bool := wordsL.contains l
def numV (l : List UInt8) : Nat := l.foldl (fun n c => n * 10 + (c.toNat - 48)) 0
/-- May these bytes be a number? -/
def isNum (l : List UInt8) : Bool := decide (1 ≤ l.length) && decide (l.length ≤ 10) && (decide (l.length ≤ 1) || !(l.head? == some 48)) && l.all isDg && decide (numV l ≤ 2147483647)
def signs1 : List UInt8 := [40, 41, 123, 125, 60, 62, 44, 59, 58, 46, 42, 38, 43, 45, 61, 33]
def signs2 : List (List UInt8) := [[58, 58], [45, 62], [61, 61]]
def signF (l : List UInt8) : Nat := if signs2.contains (l.take 2) then 2 else match l with | [] => 0 | c :: _ => if signs1.contains c then 1 else 0
def isLife (l : List UInt8) : Bool := decide (l.length ≤ 32) && (match l with | [] => false | c :: _ => isLt c)

/-- The kind and the size of the token that a text opens with. -/
def tokF (l : List UInt8) : Option (Nat × Nat) :=
  match l with
  | [] => none
  | c :: t =>
    if isLt c then if isWord (l.take (runL l)) then some (2, runL l) else if runL l ≤ 32 then some (1, runL l) else none
    else if c.toNat = 39 then if isLife (t.take (runL t)) then some (3, runL t + 1) else none
    else if isDg c then if isNum (l.take (runL l)) then some (4, runL l) else none
    else if signF l = 0 then none else some (5, signF l)

/-- A token: its kind, its bytes, its place. -/
structure Tok where
  kind : Nat
  text : List UInt8
  place : Nat

def textOf (k : Nat) (l : List UInt8) : List UInt8 := if k = 3 then l.drop 1 else l
def endTok (p : Nat) : Tok := ⟨0, [], p⟩

/-- The tokens of a text that opens with one, or the place at which none begins. -/
def lxr : Nat → Nat → List UInt8 → List Tok × Option Nat
  | 0, p, _ => ([], some p)
  | _ + 1, p, [] => ([endTok p], none)
  | f + 1, p, c :: t =>
    match tokF (c :: t) with
    | none => ([], some p)
    | some (k, n) =>
      (⟨k, textOf k ((c :: t).take n), p⟩ :: (lxr f (p + n + skp false ((c :: t).drop n)) (((c :: t).drop n).drop (skp false ((c :: t).drop n)))).1,
        (lxr f (p + n + skp false ((c :: t).drop n)) (((c :: t).drop n).drop (skp false ((c :: t).drop n)))).2)
def lxs (f p : Nat) (l : List UInt8) : List Tok × Option Nat := lxr f (p + skp false l) (l.drop (skp false l))
def lexF (l : List UInt8) : List Tok × Option Nat := lxs (l.length + 1) 0 l

theorem lxr_cons (f p : Nat) (c : UInt8) (t : List UInt8) (k n : Nat) (h : tokF (c :: t) = some (k, n)) :
    lxr (f + 1) p (c :: t) = (⟨k, textOf k ((c :: t).take n), p⟩ :: (lxs f (p + n) ((c :: t).drop n)).1, (lxs f (p + n) ((c :: t).drop n)).2) := by
  simp only [lxr, h, lxs]
theorem lxr_none (f p : Nat) (c : UInt8) (t : List UInt8) (h : tokF (c :: t) = none) : lxr (f + 1) p (c :: t) = ([], some p) := by
  simp only [lxr, h]

theorem word_len {l : List UInt8} (h : isWord l = true) : 1 ≤ l.length ∧ l.length ≤ 8 := by
  simp only [isWord, wordsL, List.contains_eq_mem, List.mem_cons, List.not_mem_nil, decide_eq_true_eq, or_false] at h
  rcases h with rfl | rfl | rfl | rfl | rfl | rfl | rfl | rfl | rfl | rfl | rfl | rfl | rfl | rfl | rfl | rfl | rfl <;> decide
theorem signF_le (l : List UInt8) : signF l ≤ l.length ∧ signF l ≤ 2 := by
  unfold signF
  split
  · rename_i h
    simp only [signs2, List.contains_eq_mem, List.mem_cons, List.not_mem_nil, decide_eq_true_eq, or_false] at h
    have : (l.take 2).length = 2 := by rcases h with h | h | h <;> rw [h] <;> rfl
    simp at this
    omega
  · split
    · simp
    · split <;> simp

/-- A token has a byte, and lies within the text. -/
theorem tokF_le {l : List UInt8} {k n : Nat} (h : tokF l = some (k, n)) : 1 ≤ n ∧ n ≤ l.length := by
  unfold tokF at h
  split at h
  · cases h
  · rename_i c t
    have hr := runL_le (c :: t)
    have hrt := runL_le t
    split at h
    · rename_i hl
      have : 1 ≤ runL (c :: t) := by simp [runL, isNm, hl]
      split at h
      · cases h; omega
      · split at h
        · cases h; omega
        · cases h
    · split at h
      · split at h
        · cases h; simp; omega
        · cases h
      · split at h
        · rename_i hd
          have : 1 ≤ runL (c :: t) := by simp [runL, isNm, hd]
          split at h
          · cases h; omega
          · cases h
        · split at h
          · cases h
          · have := signF_le (c :: t)
            cases h; omega
theorem tokF_kind {l : List UInt8} {k n : Nat} (h : tokF l = some (k, n)) : 1 ≤ k ∧ k ≤ 5 := by
  unfold tokF at h
  split at h
  · cases h
  · repeat' split at h
    all_goals first | cases h | skip
    all_goals omega

/-- More fuel than bytes changes nothing. -/
theorem lxr_fuel : ∀ (f g p : Nat) (l : List UInt8), l.length < f → l.length < g → lxr f p l = lxr g p l
  | 0, _, _, _, h, _ => by omega
  | _, 0, _, _, _, h => by omega
  | f + 1, g + 1, p, [], _, _ => rfl
  | f + 1, g + 1, p, c :: t, h1, h2 => by
    cases h : tokF (c :: t) with
    | none => rw [lxr_none _ _ _ _ h, lxr_none _ _ _ _ h]
    | some kn =>
      obtain ⟨k, n⟩ := kn
      rw [lxr_cons _ _ _ _ _ _ h, lxr_cons _ _ _ _ _ _ h]
      have := tokF_le h
      simp only [List.length_cons] at h1 h2 this
      have e : lxs f (p + n) ((c :: t).drop n) = lxs g (p + n) ((c :: t).drop n) := by
        unfold lxs
        refine lxr_fuel f g _ _ ?_ ?_ <;> (simp only [List.length_drop, List.length_cons]; omega)
      rw [e]
theorem lxs_fuel (f g p : Nat) (l : List UInt8) (h1 : l.length < f) (h2 : l.length < g) : lxs f p l = lxs g p l := by
  unfold lxs
  refine lxr_fuel f g _ _ ?_ ?_ <;> (simp only [List.length_drop]; omega)

/-- One step of the tokens, from a place of the whole text. -/
theorem lxr_step (s : List UInt8) (p : Nat) (k n : Nat) (hp : p < s.length) (h : tokF (s.drop p) = some (k, n)) :
    lxr (s.length - p + 1) p (s.drop p) = (⟨k, textOf k ((s.drop p).take n), p⟩ :: (lxr (s.length - (p + n + skp false (s.drop (p + n))) + 1) (p + n + skp false (s.drop (p + n))) (s.drop (p + n + skp false (s.drop (p + n))))).1,
      (lxr (s.length - (p + n + skp false (s.drop (p + n))) + 1) (p + n + skp false (s.drop (p + n))) (s.drop (p + n + skp false (s.drop (p + n))))).2) := by
  have hl := tokF_le h
  obtain ⟨c, t, hd⟩ : ∃ c t, s.drop p = c :: t := by
    cases hd : s.drop p with
    | nil => rw [hd] at h; simp [tokF] at h
    | cons c t => exact ⟨c, t, rfl⟩
  have hlen : (c :: t).length = s.length - p := by rw [← hd]; simp
  have hdd : (c :: t).drop n = s.drop (p + n) := by rw [← hd, List.drop_drop]
  rw [hd] at h ⊢
  rw [lxr_cons _ _ _ _ _ _ h, hdd]
  have e : lxs (s.length - p) (p + n) (s.drop (p + n)) = lxr (s.length - (p + n + skp false (s.drop (p + n))) + 1) (p + n + skp false (s.drop (p + n))) (s.drop (p + n + skp false (s.drop (p + n)))) := by
    unfold lxs
    rw [List.drop_drop]
    refine lxr_fuel _ _ _ _ ?_ ?_
    · simp only [List.length_drop]
      simp only [List.length_drop] at hl
      omega
    · simp only [List.length_drop]; omega
  rw [e]
theorem lexF_start (s : List UInt8) : lexF s = lxr (s.length - skp false s + 1) (skp false s) (s.drop (skp false s)) := by
  unfold lexF lxs
  rw [Nat.zero_add]
  refine lxr_fuel _ _ _ _ ?_ ?_ <;> (simp only [List.length_drop]; omega)
end Go.Proofs.YtdnjcajbmibjiaaDoor
