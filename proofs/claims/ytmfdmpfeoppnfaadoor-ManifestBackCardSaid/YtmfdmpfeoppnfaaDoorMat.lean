/-
  The mathematics of tokens: blanks, runs, what a text begins with, all its tokens.
-/
import Derived.Test.YtmfdmpfeoppnfaaDoorRows
namespace Go.Proofs.YtmfdmpfeoppnfaaDoor

def isBl (c : UInt8) : Bool := decide (c.toNat = 32) || decide (c.toNat = 9) || decide (c.toNat = 10)
def isDg (c : UInt8) : Bool := decide (48 ≤ c.toNat) && decide (c.toNat ≤ 57)
def isLt (c : UInt8) : Bool := (decide (97 ≤ c.toNat) && decide (c.toNat ≤ 122)) || (decide (65 ≤ c.toNat) && decide (c.toNat ≤ 90)) || decide (c.toNat = 95)
def isNm (c : UInt8) : Bool := isLt c || isDg c

/-- How many bytes of names a text opens with. -/
def runL : List UInt8 → Nat
  | [] => 0
  | c :: t => if isNm c then runL t + 1 else 0

theorem runL_le : ∀ l : List UInt8, runL l ≤ l.length
  | [] => by simp [runL]
  | c :: t => by have := runL_le t; simp only [runL, List.length_cons]; split <;> omega

def wordsL : List (List UInt8) :=
  [[102,110],[115,116,114,117,99,116],[112,117,98],[108,101,116],[109,117,116],[105,102],[101,108,115,101],[119,104,105,108,101],[108,111,111,112],[98,114,101,97,107],[99,111,110,116,105,110,117,101],[114,101,116,117,114,110],[100,114,111,112],[116,114,117,101],[102,97,108,115,101],[105,110,116],[98,111,111,108]]
def isWord (l : List UInt8) : Bool := wordsL.contains l

theorem word_len {l : List UInt8} (h : isWord l = true) : 1 ≤ l.length ∧ l.length ≤ 8 := by
  simp only [isWord, wordsL, List.contains_eq_mem, List.mem_cons, List.not_mem_nil, decide_eq_true_eq, or_false] at h
  rcases h with rfl | rfl | rfl | rfl | rfl | rfl | rfl | rfl | rfl | rfl | rfl | rfl | rfl | rfl | rfl | rfl | rfl <;> decide
end Go.Proofs.YtmfdmpfeoppnfaaDoor
