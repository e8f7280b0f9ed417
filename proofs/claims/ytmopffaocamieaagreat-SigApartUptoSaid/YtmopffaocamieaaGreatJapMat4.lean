/-
  The texts Mat, Num, Mem, Wnm, joined.
-/
import Derived.Test.YtmopffaocamieaaGreatRows
import Derived.WalkKit
import Derived.WalkSpells
import Derived.WalkLawsBesides
import Derived.Maps.AppendAt
import Derived.Laws.IdiomStrings
import Derived.Laws.BitsAllLaws
import Derived.Deep.QuietTactic
import Derived.BigQuiet
import Derived.Deep.RegionHeld
import Derived.Deep.DrawnRows
import Derived.Deep.LoopGhost
import Derived.Laws.Rows
import Derived.Laws.Tables
import Derived.Deep.MidRow
import Derived.Laws.CopyOwn
import Derived.Laws.Bits64b
namespace Go.Proofs.YtmopffaocamieaaGreat

def isBl (c : UInt8) : Bool := decide (c.toNat = 32) || decide (c.toNat = 9) || decide (c.toNat = 10)
def isDg (c : UInt8) : Bool := decide (48 ≤ c.toNat) && decide (c.toNat ≤ 57)
def isLt (c : UInt8) : Bool := (decide (97 ≤ c.toNat) && decide (c.toNat ≤ 122)) || (decide (65 ≤ c.toNat) && decide (c.toNat ≤ 90)) || decide (c.toNat = 95)
def isNm (c : UInt8) : Bool := isLt c || isDg c

/-- How many bytes of names a text opens with. -/
def runL : List UInt8 → Nat
  | [] => 0
  | c :: t => if isNm c then runL t + 1 else 0

theorem runL_le : ∀ l : List UInt8, runL l ≤ l.length
  | [] => by simp [runL]
  | c :: t => by have := runL_le t; simp only [runL, List.length_cons]; split <;> omega

def wordsL : List (List UInt8) :=
  [[102,110],[115,116,114,117,99,116],[112,117,98],[108,101,116],[109,117,116],[105,102],[101,108,115,101],[119,104,105,108,101],[108,111,111,112],[98,114,101,97,107],[99,111,110,116,105,110,117,101],[114,101,116,117,114,110],[100,114,111,112],[116,114,117,101],[102,97,108,115,101],[105,110,116],[98,111,111,108]]
def isWord (l : List UInt8) : Bool := wordsL.contains l

theorem word_len {l : List UInt8} (h : isWord l = true) : 1 ≤ l.length ∧ l.length ≤ 8 := by
  simp only [isWord, wordsL, List.contains_eq_mem, List.mem_cons, List.not_mem_nil, decide_eq_true_eq, or_false] at h
  rcases h with rfl | rfl | rfl | rfl | rfl | rfl | rfl | rfl | rfl | rfl | rfl | rfl | rfl | rfl | rfl | rfl | rfl <;> decide
end Go.Proofs.YtmopffaocamieaaGreat

namespace Go.Proofs.YtmopffaocamieaaGreat
open Go.RowKit
def str (l : List UInt8) : ByteArray := ⟨l.toArray⟩
theorem str_size (l : List UInt8) : (str l).size = l.length := by simp [str, ByteArray.size]
theorem str_at (l : List UInt8) (k : Nat) (h : k < (str l).size) : ((str l)[k]'h) = l.getD k 0 := by
  have hk : k < l.length := by rw [str_size] at h; exact h
  simp [List.getD, List.getElem?_eq_getElem hk]; rfl
theorem str_of (s : ByteArray) : str s.data.toList = s := by cases s; simp [str]
theorem str_inj {a b : List UInt8} (h : str a = str b) : a = b := by
  have := congrArg (fun x => x.data.toList) h
  simpa [str] using this
end Go.Proofs.YtmopffaocamieaaGreat

namespace Go.Proofs.YtmopffaocamieaaGreat
open Go.RowKit

/-- Bytes as cells. -/
def bys (l : List UInt8) : List Value := l.map fun b => Value.int .u8 (b.toNat : Int)
theorem bys_len (l : List UInt8) : (bys l).length = l.length := by simp [bys]
theorem bys_app (l m : List UInt8) : bys (l ++ m) = bys l ++ bys m := by simp [bys]
theorem bys_one (l : List UInt8) : ∀ u ∈ bys l, u.oneCell' = true := by
  intro u hu
  obtain ⟨b, _, rfl⟩ := List.mem_map.1 hu
  rfl
theorem bys_get (l : List UInt8) (j : Nat) (h : j < l.length) : (bys l)[j]? = some (.int .u8 ((l.getD j 0).toNat : Int)) := by
  simp [bys, List.getD, List.getElem?_eq_getElem h]
theorem addr_add (b o i : Nat) : (⟨b, o, none⟩ : Addr).add i = ⟨b, o + i, none⟩ := by unfold Addr.add; split <;> simp_all

/-- A block that is a row of cells. -/
structure Row (w : World) (g t : Nat) (L : List Value) : Prop where
  heap : w.heap[g]? = some (.cells L.toArray t (0, 0))
theorem Row.cell {w : World} {g t : Nat} {L : List Value} (h : Row w g t L) (j : Nat) : w.cell? ⟨g, j, none⟩ = L[j]? := by
  rw [cell_of_row w g j L.toArray t (0, 0) h.heap]; simp
theorem Row.fz {w : World} {g t : Nat} {L : List Value} (h : Row w g t L) (j : Nat) : w.frozen? ⟨g, j, none⟩ = false := by
  simp [World.frozen?, h.heap]
theorem Row.set {w : World} {g t : Nat} {L : List Value} (h : Row w g t L) (j : Nat) (v : Value) : Row (w.setCell ⟨g, j, none⟩ v) g t (L.set j v) := by
  refine ⟨?_⟩
  rw [heap_setCell_same w g j L.toArray t v h.heap]
  simp
theorem Row.other {w : World} {g g' j t : Nat} {L : List Value} (h : Row w g t L) (hne : g ≠ g') (v : Value) : Row (w.setCell ⟨g', j, none⟩ v) g t L :=
  ⟨by rw [heap_setCell_other w ⟨g', j, none⟩ g v hne]; exact h.heap⟩
theorem Row.below {w w' : World} {C g t : Nat} {L : List Value} (h : Row w g t L) (hb : Below C w w') (hg : g < C) : Row w' g t L :=
  ⟨by rw [hb.block g hg]; exact h.heap⟩
theorem Row.drew {w : World} {g t : Nat} {L : List Value} (h : Row w g t L) : Row w.drew g t L := ⟨h.heap⟩
theorem Row.drewN {w : World} {g t n : Nat} {L : List Value} (h : Row w g t L) : Row (w.drewN n) g t L := ⟨h.heap⟩
theorem Row.lt {w : World} {g t : Nat} {L : List Value} (h : Row w g t L) : g < w.heap.size := by
  have := h.heap
  rcases Nat.lt_or_ge g w.heap.size with h' | h'
  · exact h'
  · rw [Array.getElem?_eq_none h'] at this; cases this
theorem Row.new (w : World) (t : Nat) (L : List Value) : Row (w.alloc (.cells L.toArray t)) w.heap.size t L := ⟨heap_alloc_new w _⟩
theorem Row.range {w : World} {g t : Nat} {L : List Value} (h : Row w g t L) : w.rangeAt g 0 L := by
  intro j u hj
  rw [Nat.zero_add, h.cell j]; exact hj
theorem Row.setRow {w : World} {g t : Nat} {L : List Value} (h : Row w g t L) (M : List Value) : Row (w.setRow g M.toArray) g t M := ⟨setRow_heap w g _ _ t _ h.heap⟩
theorem Row.setRow_other {w : World} {g g' t : Nat} {L : List Value} (h : Row w g t L) (hne : g ≠ g') (M : Array Value) : Row (w.setRow g' M) g t L := by
  refine ⟨Eq.trans ?_ h.heap⟩
  simp only [World.setRow, Array.getElem?_modify]
  rw [if_neg (fun e => hne e.symm)]
theorem all_one {L : List Value} (h : ∀ u ∈ L, u.oneCell' = true) : L.toArray.all (·.oneCell') = true := by
  rw [Array.all_eq_true_iff_forall_mem]; intro u hu; exact h u (by simpa using hu)

/-- The slice v holds the bytes l. -/
structure Sl (w : World) (v : Value) (l : List UInt8) : Prop where
  shape : (∃ ao, v = .slice ao 0 0 ∧ l = []) ∨ ∃ b o cap, v = .slice (some ⟨b, o, none⟩) l.length cap ∧ l.length ≤ cap ∧ ∀ i, i < l.length → w.cell? ⟨b, o + i, none⟩ = some (.int .u8 ((l.getD i 0).toNat : Int))

theorem Sl.below {w w' : World} {v : Value} {l : List UInt8} (h : Sl w v l) (hb : Below w.heap.size w w') : Sl w' v l := by
  refine ⟨?_⟩
  rcases h.shape with h | ⟨b, o, cap, rfl, hcap, hc⟩
  · exact .inl h
  · refine .inr ⟨b, o, cap, rfl, hcap, fun i hi => ?_⟩
    rw [hb.cell (p := ⟨b, o + i, none⟩) (World.block_lt_of_cell? w _ (hc i hi))]
    exact hc i hi
theorem Tryz.info5 : (Tryz.prog.info? 5).map (fun i => (i.zero, i.size, i.bytes)) = some (some (.int .u8 0), 1, 1) := by kernel_rfl
end Go.Proofs.YtmopffaocamieaaGreat

namespace Go.Proofs.YtmopffaocamieaaGreat
open Go.RowKit

/-- The bytes of a number, at most so many. -/
def encN : Nat → Nat → List UInt8
  | 0, v => [UInt8.ofNat v]
  | f + 1, v => if v < 128 then [UInt8.ofNat v] else UInt8.ofNat (v % 128 + 128) :: encN f (v / 128)
theorem encN_same : ∀ (f g v : Nat), v ≤ f → v ≤ g → encN f v = encN g v
  | 0, 0, _, _, _ => rfl
  | 0, g + 1, v, h, _ => by simp only [encN]; rw [if_pos (by omega)]
  | f + 1, 0, v, _, h => by simp only [encN]; rw [if_pos (by omega)]
  | f + 1, g + 1, v, h1, h2 => by
    simp only [encN]
    by_cases h : v < 128
    · rw [if_pos h, if_pos h]
    · rw [if_neg h, if_neg h, encN_same f g (v / 128) (by omega) (by omega)]
/-- The bytes of a number: groups of seven bits, the lowest first. -/
def enc (v : Nat) : List UInt8 := encN v v
theorem enc_unf (v : Nat) : enc v = if v < 128 then [UInt8.ofNat v] else UInt8.ofNat (v % 128 + 128) :: enc (v / 128) := by
  unfold enc
  rw [encN_same v (v + 1) v (Nat.le_refl _) (by omega)]
  simp only [encN]
  by_cases h : v < 128
  · rw [if_pos h, if_pos h]
  · rw [if_neg h, if_neg h, encN_same v _ (v / 128) (by omega) (Nat.le_refl _)]
theorem enc_lt {v : Nat} (h : v < 128) : enc v = [UInt8.ofNat v] := by rw [enc_unf, if_pos h]
theorem enc_ge {v : Nat} (h : ¬ v < 128) : enc v = UInt8.ofNat (v % 128 + 128) :: enc (v / 128) := by rw [enc_unf, if_neg h]
theorem enc_pos (v : Nat) : 0 < (enc v).length := by
  by_cases h : v < 128
  · rw [enc_lt h]; simp
  · rw [enc_ge h]; simp

/-- How bytes are gone through from group i on: the number, how many groups, the error. -/
def scan (i acc : Nat) : List UInt8 → Nat × Nat × Nat
  | [] => (0, 0, 3)
  | x :: r => if i = 9 ∧ 1 < x.toNat then (0, 0, 4) else if 0 < i ∧ x.toNat = 0 then (0, 0, 4) else
      if x.toNat < 128 then (acc + x.toNat * 2 ^ (7 * i), i + 1, 0) else scan (i + 1) (acc + (x.toNat - 128) * 2 ^ (7 * i)) r

theorem pow_step (i : Nat) : 2 ^ (7 * (i + 1)) = 128 * 2 ^ (7 * i) := by
  rw [Nat.mul_add, Nat.pow_add]; omega
theorem nine {v i : Nat} (h : v * 2 ^ (7 * i) < 18446744073709551616) (hi : i = 9) : v ≤ 1 := by
  subst hi; omega

theorem scan_enc (t : List UInt8) : ∀ (v i acc : Nat), i ≤ 9 → (i = 0 ∨ 0 < v) → v * 2 ^ (7 * i) < 18446744073709551616 →
    scan i acc (enc v ++ t) = (acc + v * 2 ^ (7 * i), i + (enc v).length, 0) := by
  intro v
  induction v using Nat.strongRecOn with
  | _ v ih =>
    intro i acc hi h0 hb
    by_cases h : v < 128
    · rw [enc_lt h]
      have e : (UInt8.ofNat v).toNat = v := by simp; omega
      have h9 : ¬ (i = 9 ∧ 1 < v) := fun ⟨a, b⟩ => by have := nine hb a; omega
      have hz : ¬ (0 < i ∧ v = 0) := fun ⟨a, b⟩ => by omega
      simp only [List.cons_append, List.nil_append, scan, e, h9, hz, h, if_true, if_false, List.length_singleton]
    · rw [enc_ge h]
      have e : (UInt8.ofNat (v % 128 + 128)).toNat = v % 128 + 128 := by simp; omega
      have h9 : i ≠ 9 := fun a => by have := nine hb a; omega
      have h9' : ¬ (i = 9 ∧ 1 < v % 128 + 128) := fun ⟨a, _⟩ => h9 a
      have hz : ¬ (0 < i ∧ v % 128 + 128 = 0) := fun ⟨_, b⟩ => by omega
      have hh : ¬ v % 128 + 128 < 128 := by omega
      have hd : v % 128 + 128 * (v / 128) = v := Nat.mod_add_div v 128
      have key : v * 2 ^ (7 * i) = v % 128 * 2 ^ (7 * i) + v / 128 * 2 ^ (7 * (i + 1)) := by
        rw [pow_step]
        conv => lhs; rw [← hd, Nat.add_mul]
        rw [Nat.mul_comm 128 (v / 128), Nat.mul_assoc]
      simp only [List.cons_append, scan, e, h9', hz, hh, if_false, List.length_cons]
      rw [ih (v / 128) (by omega) (i + 1) _ (by omega) (.inr (by omega)) (by omega)]
      refine Prod.ext ?_ (Prod.ext ?_ rfl) <;> simp <;> omega

theorem scan_short : ∀ (v i acc k : Nat), i ≤ 9 → v * 2 ^ (7 * i) < 18446744073709551616 → k < (enc v).length → scan i acc ((enc v).take k) = (0, 0, 3) := by
  intro v
  induction v using Nat.strongRecOn with
  | _ v ih =>
    intro i acc k hi hb hk
    cases k with
    | zero => simp [scan]
    | succ k =>
      by_cases h : v < 128
      · rw [enc_lt h] at hk; simp at hk
      · rw [enc_ge h] at hk ⊢
        have e : (UInt8.ofNat (v % 128 + 128)).toNat = v % 128 + 128 := by simp; omega
        have h9 : i ≠ 9 := fun a => by have := nine hb a; omega
        have h9' : ¬ (i = 9 ∧ 1 < v % 128 + 128) := fun ⟨a, _⟩ => h9 a
        have hz : ¬ (0 < i ∧ v % 128 + 128 = 0) := fun ⟨_, b⟩ => by omega
        have hh : ¬ v % 128 + 128 < 128 := by omega
        simp only [List.take_succ_cons, scan, e, h9', hz, hh, if_false]
        refine ih (v / 128) (by omega) (i + 1) _ k (by omega) ?_ (by simpa using hk)
        rw [pow_step, ← Nat.mul_assoc]
        exact Nat.lt_of_le_of_lt (Nat.mul_le_mul_right _ (Nat.div_mul_le_self v 128)) hb

theorem ofNat_toNat (x : UInt8) : UInt8.ofNat x.toNat = x := by simp

/-- What was gone through is just the bytes of the number that was told. -/
theorem scan_back : ∀ (l : List UInt8) (i acc V n : Nat), i ≤ 9 → scan i acc l = (V, n, 0) →
    ∃ v, V = acc + v * 2 ^ (7 * i) ∧ i < n ∧ n - i ≤ l.length ∧ l.take (n - i) = enc v ∧ v * 2 ^ (7 * i) < 18446744073709551616 ∧ (i = 0 ∨ 0 < v) := by
  intro l
  induction l with
  | nil => intro i acc V n _ h; simp [scan] at h
  | cons x r ih =>
    intro i acc V n hi h
    have hx := x.toNat_lt
    simp only [scan] at h
    split at h
    · simp at h
    · rename_i h9
      split at h
      · simp at h
      · rename_i hz
        split at h
        · rename_i hl
          simp at h
          obtain ⟨rfl, rfl⟩ := h
          refine ⟨x.toNat, rfl, by omega, by simp, ?_, ?_, by omega⟩
          · rw [enc_lt hl, show i + 1 - i = 1 by omega, ofNat_toNat]; simp
          · by_cases e9 : i = 9
            · subst e9; have : x.toNat ≤ 1 := by omega
              omega
            · have : 2 ^ (7 * i) ≤ 2 ^ 56 := Nat.pow_le_pow_right (by omega) (by omega)
              calc x.toNat * 2 ^ (7 * i) ≤ 127 * 2 ^ 56 := Nat.mul_le_mul (by omega) this
                _ < _ := by decide
        · rename_i hl
          have h9i : i ≠ 9 := fun a => h9 ⟨a, by omega⟩
          obtain ⟨v, hV, hn, hle, htk, hb, hv⟩ := ih (i + 1) _ V n (by omega) h
          have hv0 : 0 < v := by omega
          have e1 : (x.toNat - 128 + 128 * v) % 128 + 128 = x.toNat := by omega
          have e2 : (x.toNat - 128 + 128 * v) / 128 = v := by omega
          refine ⟨x.toNat - 128 + 128 * v, ?_, by omega, by simp; omega, ?_, ?_, by omega⟩
          · rw [hV, pow_step, Nat.add_mul, ← Nat.mul_assoc, Nat.mul_comm 128 v]; omega
          · rw [enc_ge (by omega), e1, e2, ofNat_toNat, ← htk, show n - i = (n - (i + 1)) + 1 by omega, List.take_succ_cons]
          · rw [pow_step, ← Nat.mul_assoc] at hb
            have hpos : 0 < 2 ^ (7 * i) := Nat.pow_pos (by omega)
            obtain ⟨j, hj⟩ : ∃ j, 64 = 7 * i + j := ⟨64 - 7 * i, by omega⟩
            have hp : 18446744073709551616 = 2 ^ j * 2 ^ (7 * i) := by rw [← Nat.pow_add, Nat.add_comm, ← hj]
            rw [hp] at hb ⊢
            have hb' := Nat.lt_of_mul_lt_mul_right hb
            refine Nat.mul_lt_mul_of_pos_right ?_ hpos
            have : ∃ q, 2 ^ j = 128 * q := ⟨2 ^ (j - 7), by rw [show 128 = 2 ^ 7 from rfl, ← Nat.pow_add]; congr 1; omega⟩
            obtain ⟨q, hq⟩ := this
            omega

theorem scan_lt {l : List UInt8} {V n c : Nat} (h : scan 0 0 l = (V, n, c)) : V < 18446744073709551616 ∧ n ≤ l.length ∧ (c = 0 ∨ (V = 0 ∧ n = 0 ∧ (c = 3 ∨ c = 4))) := by
  by_cases hc : c = 0
  · subst hc
    obtain ⟨v, rfl, hn, hle, -, hb, -⟩ := scan_back l 0 0 V n (by omega) h
    simp at hb hle
    exact ⟨by simpa using hb, hle, .inl rfl⟩
  · have : ∀ (l : List UInt8) (i acc : Nat), scan i acc l = (V, n, c) → V = 0 ∧ n = 0 ∧ (c = 3 ∨ c = 4) := by
      intro l
      induction l with
      | nil => intro i acc h; simp [scan] at h; omega
      | cons x r ih =>
        intro i acc h
        simp only [scan] at h
        split at h
        · simp at h; omega
        · split at h
          · simp at h; omega
          · split at h
            · simp at h; omega
            · exact ih _ _ h
    obtain ⟨rfl, rfl, h3⟩ := this l 0 0 h
    exact ⟨by omega, by omega, .inr ⟨rfl, rfl, h3⟩⟩

/-- The number within a message: it and no other is read at its beginning. -/
theorem scan_of_enc (v : Nat) (hv : v < 18446744073709551616) (t : List UInt8) : scan 0 0 (enc v ++ t) = (v, (enc v).length, 0) := by
  have := scan_enc t v 0 0 (by omega) (.inl rfl) (by simpa using hv)
  simpa using this
theorem scan_cut (v k : Nat) (hv : v < 18446744073709551616) (hk : k < (enc v).length) : scan 0 0 ((enc v).take k) = (0, 0, 3) :=
  scan_short v 0 0 k (by omega) (by simpa using hv) hk
theorem enc_of_scan {l : List UInt8} {V n : Nat} (h : scan 0 0 l = (V, n, 0)) : l.take n = enc V ∧ 0 < n ∧ n ≤ l.length ∧ V < 18446744073709551616 := by
  obtain ⟨v, rfl, hn, hle, ht, hb, -⟩ := scan_back l 0 0 V n (by omega) h
  simp at hb hle ht ⊢
  exact ⟨ht, hn, hle, hb⟩

/-- How many bytes: one for each seven bits. -/
theorem enc_len_mono : ∀ (b a : Nat), a ≤ b → (enc a).length ≤ (enc b).length := by
  intro b
  induction b using Nat.strongRecOn with
  | _ b ih =>
    intro a h
    by_cases ha : a < 128
    · rw [enc_lt ha]; exact enc_pos b
    · rw [enc_ge ha, enc_ge (show ¬ b < 128 by omega)]
      have := ih (b / 128) (by omega) (a / 128) (by omega)
      simp only [List.length_cons]; omega
theorem enc_len_le : ∀ (k v : Nat), 0 < k → v < 128 ^ k → (enc v).length ≤ k := by
  intro k
  induction k with
  | zero => intro v h; omega
  | succ k ih =>
    intro v _ h
    by_cases hv : v < 128
    · rw [enc_lt hv]; simp
    · rw [enc_ge hv]
      have hk : 0 < k := by
        rcases Nat.eq_zero_or_pos k with rfl | h0
        · simp at h; omega
        · exact h0
      have : v / 128 < 128 ^ k := by rw [Nat.pow_succ] at h; exact Nat.div_lt_of_lt_mul (by omega)
      have := ih (v / 128) hk this
      simp only [List.length_cons]; omega
theorem enc_len_10 {v : Nat} (h : v < 18446744073709551616) : (enc v).length ≤ 10 := enc_len_le 10 v (by omega) (by omega)
end Go.Proofs.YtmopffaocamieaaGreat
