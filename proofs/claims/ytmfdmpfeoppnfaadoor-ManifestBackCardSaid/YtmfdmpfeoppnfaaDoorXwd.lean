/-
  Word, Life, Name: the document's.
-/
import Derived.Test.YtmfdmpfeoppnfaaDoorSiz
namespace Go.Proofs.YtmfdmpfeoppnfaaDoor
open Go.RowKit

theorem lt_not_dg {c : UInt8} (h : isLt c = true) : isDg c = false := by
  simp only [isLt, Bool.or_eq_true, Bool.and_eq_true, decide_eq_true_eq] at h
  simp only [isDg, Bool.and_eq_false_imp, decide_eq_true_eq, decide_eq_false_iff_not]
  omega
theorem wp_at_world {P : Program} {c : Code} {Q : Exit → Act → World → Prop} {a : Act} {w w' : World} (e : w = w') (h : Code.wp P c Q a w) : Code.wp P c Q a w' := e ▸ h
theorem wordsL_row (w : World) : Row (w.alloc (.cells #[.string ⟨#[102, 110]⟩, .string ⟨#[115, 116, 114, 117, 99, 116]⟩, .string ⟨#[112, 117, 98]⟩, .string ⟨#[108, 101, 116]⟩, .string ⟨#[109, 117, 116]⟩, .string ⟨#[105, 102]⟩, .string ⟨#[101, 108, 115, 101]⟩, .string ⟨#[119, 104, 105, 108, 101]⟩, .string ⟨#[108, 111, 111, 112]⟩, .string ⟨#[98, 114, 101, 97, 107]⟩, .string ⟨#[99, 111, 110, 116, 105, 110, 117, 101]⟩, .string ⟨#[114, 101, 116, 117, 114, 110]⟩, .string ⟨#[100, 114, 111, 112]⟩, .string ⟨#[116, 114, 117, 101]⟩, .string ⟨#[102, 97, 108, 115, 101]⟩, .string ⟨#[105, 110, 116]⟩, .string ⟨#[98, 111, 111, 108]⟩] 9)) w.heap.size 9 (wordsL.map fun x => .string (str x)) := Row.new w 9 _
theorem words_at (k : Nat) (h : k < 17) : (wordsL.map fun x => Value.string (str x))[k]? = some (.string (str (wordsL.getD k []))) := by
  have : k < wordsL.length := h
  simp [List.getD, List.getElem?_eq_getElem this]
theorem str_beq (a b : List UInt8) : ((str a).toList == (str b).toList) = decide (a = b) := by
  unfold str
  rw [ByteArray.toList_mk, ByteArray.toList_mk]
  by_cases h : a = b
  · subst h; simp
  · rw [decide_eq_false h]; simpa using h

set_option maxHeartbeats 4000000 in
set_option maxRecDepth 20000 in
theorem xword_any (l : List UInt8) (w : World) : Calls Tryd.prog 49 #[.string (str l)] w fun ev w' => ev = .returned (.bool (isWord l)) ∧ Below w.heap.size w w' := by
  obtain ⟨W, hW⟩ : ∃ W, W = w.alloc (.cells #[.string ⟨#[102, 110]⟩, .string ⟨#[115, 116, 114, 117, 99, 116]⟩, .string ⟨#[112, 117, 98]⟩, .string ⟨#[108, 101, 116]⟩, .string ⟨#[109, 117, 116]⟩, .string ⟨#[105, 102]⟩, .string ⟨#[101, 108, 115, 101]⟩, .string ⟨#[119, 104, 105, 108, 101]⟩, .string ⟨#[108, 111, 111, 112]⟩, .string ⟨#[98, 114, 101, 97, 107]⟩, .string ⟨#[99, 111, 110, 116, 105, 110, 117, 101]⟩, .string ⟨#[114, 101, 116, 117, 114, 110]⟩, .string ⟨#[100, 114, 111, 112]⟩, .string ⟨#[116, 114, 117, 101]⟩, .string ⟨#[102, 97, 108, 115, 101]⟩, .string ⟨#[105, 110, 116]⟩, .string ⟨#[98, 111, 111, 108]⟩] 9) := ⟨_, rfl⟩
  have HC : Hid (∀ k, k < 17 → W.cell? ⟨w.heap.size, k, none⟩ = some (.string (str (wordsL.getD k [])))) := by
    intro k hk
    rw [hW]
    exact ((wordsL_row w).cell k).trans (words_at k hk)
  have HB : Hid (Below w.heap.size w W) := by
    rw [hW]
    exact (Below.refl _ _).alloc (Nat.le_refl _) _
  have HQ : Hid (∀ k, k < 17 → ((str (wordsL.getD k [])).toList == (str l).toList) = decide (wordsL.getD k [] = l)) := fun k _ => str_beq _ _
  have AW : Aside (W = w.alloc (.cells #[.string ⟨#[102, 110]⟩, .string ⟨#[115, 116, 114, 117, 99, 116]⟩, .string ⟨#[112, 117, 98]⟩, .string ⟨#[108, 101, 116]⟩, .string ⟨#[109, 117, 116]⟩, .string ⟨#[105, 102]⟩, .string ⟨#[101, 108, 115, 101]⟩, .string ⟨#[119, 104, 105, 108, 101]⟩, .string ⟨#[108, 111, 111, 112]⟩, .string ⟨#[98, 114, 101, 97, 107]⟩, .string ⟨#[99, 111, 110, 116, 105, 110, 117, 101]⟩, .string ⟨#[114, 101, 116, 117, 114, 110]⟩, .string ⟨#[100, 114, 111, 112]⟩, .string ⟨#[116, 114, 117, 101]⟩, .string ⟨#[102, 97, 108, 115, 101]⟩, .string ⟨#[105, 110, 116]⟩, .string ⟨#[98, 111, 111, 108]⟩] 9)) := hW
  clear hW
  obtain ⟨S, hS⟩ : ∃ S, S = str l := ⟨_, rfl⟩
  rw [← hS] at HQ ⊢
  clear hS
  obtain ⟨g, hg⟩ : ∃ g, g = w.heap.size := ⟨_, rfl⟩
  rw [← hg] at HC
  have AG : Aside (g = w.heap.size) := hg
  clear hg
  go_enter Tryd.func49, Tryd.ntmps49
  go_wp2_with fail
  refine wp_at_world AW.out ?_
  rw [← AG.out]
  go_loopw [4] (fun i wr => ∃ k : Nat, k ≤ 17 ∧ i = .int .i64 k ∧ (∀ j, j < k → wordsL.getD j [] ≠ l) ∧ wr = W) (fun i _ => 17 - (intOf i).toNat)
  case atStart => exact ⟨0, by omega, rfl, fun j h => by omega, rfl⟩
  case round =>
    obtain ⟨k, hk, rfl, hj, rfl⟩ := hrel
    have HJ : Hid (∀ j, j < k → wordsL.getD j [] ≠ l) := hj
    clear hj
    by_cases h3 : k < 17
    · have q := HC.out k h3
      have hb := HQ.out k h3
      have l1 : (k : Int) < 17 := by omega
      by_cases he : wordsL.getD k [] = l
      · have HP : Hid (isWord l = true) := by
          have hk17 : k < wordsL.length := h3
          show isWord l = true
          rw [← he]
          simp only [isWord, List.contains_eq_mem, decide_eq_true_eq]
          rw [List.getD, List.getElem?_eq_getElem hk17]
          exact List.getElem_mem hk17
        rw [decide_eq_true he] at hb
        clear he
        generalize str (wordsL.getD k []) = S1 at *
        go_wp2_with fail
        go_ret
        exact ⟨by rw [HP.out]; rfl, HB.out⟩
      · have HP : Hid (∀ j, j < k + 1 → wordsL.getD j [] ≠ l) := by
          intro j hj
          rcases Nat.lt_or_ge j k with h | h
          · exact HJ.out j h
          · obtain rfl : j = k := by omega
            exact he
        rw [decide_eq_false he] at hb
        clear he
        generalize str (wordsL.getD k []) = S1 at *
        go_wp2_with fail
        go_roundw
        case rel => exact ⟨k + 1, by omega, by go_num, HP.out, by trivial⟩
        case measure => simp [intOf]; omega
    · obtain rfl : k = 17 := by omega
      have HP : Hid (isWord l = false) := by
        show isWord l = false
        cases hh : isWord l
        · rfl
        · exfalso
          simp only [isWord, List.contains_eq_mem, decide_eq_true_eq] at hh
          obtain ⟨j, hj, e⟩ := List.getElem_of_mem hh
          exact HJ.out j hj (by rw [List.getD, List.getElem?_eq_getElem hj]; exact e)
      go_wp2_with fail
      go_ret
      exact ⟨by rw [HP.out]; rfl, HB.out⟩

/-- A lifetime's name, as the document says it. -/
def lifeB (l : List UInt8) : Bool := decide (1 ≤ l.length) && decide (l.length ≤ 32) && isLt (l.getD 0 0) && decide (runL l = l.length)
set_option maxHeartbeats 4000000 in
set_option maxRecDepth 20000 in
theorem xlife_any (l : List UInt8) (hl : l.length ≤ 9223372036854775807) (w : World) : Calls Tryd.prog 48 #[.string (str l)] w fun ev w' => ev = .returned (.bool (lifeB l)) ∧ w' = w := by
  have hsz := str_size l
  have R := xrun_any l 0 (by omega) hl w
  rw [List.drop_zero, Nat.zero_add] at R
  have L := letter_any (l.getD 0 0) w
  obtain ⟨B, hB⟩ : ∃ B, lifeB l = B := ⟨_, rfl⟩
  rw [hB]
  unfold lifeB at hB
  by_cases h1 : 1 ≤ l.length
  · have hz : 0 < (str l).size := by rw [str_size]; omega
    have hx : ((str l)[0]'hz).toNat = (l.getD 0 0).toNat := by rw [str_at]
    have i1 : (1 : Int) ≤ (l.length : Int) := by omega
    obtain ⟨S, hS⟩ : ∃ S, S = str l := ⟨_, rfl⟩
    obtain ⟨hz', hx'⟩ : ∃ hz' : 0 < S.size, (S[0]'hz').toNat = (l.getD 0 0).toNat := by rw [hS]; exact ⟨hz, hx⟩
    rw [← hS] at hsz R ⊢
    clear hS hx hz
    by_cases h2 : l.length ≤ 32
    · have i2 : (l.length : Int) ≤ 32 := by omega
      cases h3 : isLt (l.getD 0 0)
      · rw [h3] at hB L
        obtain rfl : B = false := by rw [← hB]; simp
        clear hB h3 R
        generalize (l.getD 0 0).toNat = x at *
        go_enter Tryd.func48, Tryd.ntmps48
        go_wp2_with fail
        refine L.mono ?_
        rintro ev w2 ⟨rfl, rfl⟩
        go_wp2_with fail
        go_ret
        exact ⟨rfl, rfl⟩
      · rw [h3] at hB L
        have HB : Hid (((runL l : Int) == (l.length : Int)) = B) := by
          show _ = B
          rw [← hB]
          simp [h1, h2]
          by_cases h : runL l = l.length <;> simp [h] <;> omega
        clear hB h3 h1 h2
        generalize (l.getD 0 0).toNat = x at *
        generalize runL l = r at *
        generalize l.length = n at *
        go_enter Tryd.func48, Tryd.ntmps48
        go_wp2_with fail
        refine L.mono ?_
        rintro ev w2 ⟨rfl, rfl⟩
        go_wp2_with fail
        refine R.mono ?_
        rintro ev w2 ⟨rfl, rfl⟩
        go_wp2_with fail
        go_ret
        refine ⟨?_, rfl⟩
        rw [← HB.out]
        first | rfl | simp
    · obtain rfl : B = false := by rw [← hB]; simp [h2]
      have i2 : ¬ (l.length : Int) ≤ 32 := by omega
      clear hB R L h1
      generalize l.length = n at *
      go_enter Tryd.func48, Tryd.ntmps48
      go_wp2_with fail
      go_ret
      refine ⟨?_, rfl⟩
      first | rfl | simp [i2]
  · obtain rfl : l = [] := List.eq_nil_of_length_eq_zero (by omega)
    obtain rfl : B = false := by rw [← hB]; simp
    clear hB R L h1 hsz
    unfold str
    go_enter Tryd.func48, Tryd.ntmps48
    go_wp2_with fail
    go_ret
    exact ⟨rfl, rfl⟩
theorem life_name (l : List UInt8) : (lifeB l && !isWord l) = nameB l := by
  unfold lifeB nameB
  cases l with
  | nil => rfl
  | cons c t =>
    by_cases h1 : runL (c :: t) = (c :: t).length
    · have hnm : isNm c = true := by
        cases h : isNm c
        · simp [runL, h] at h1
        · rfl
      unfold nameF
      rw [h1]
      have hg : (c :: t).getD 0 0 = c := rfl
      rw [hg]
      by_cases h2 : (c :: t).length ≤ 32
      · cases h3 : isLt c
        · have hdg : isDg c = true := by simpa [isNm, h3] using hnm
          rw [if_pos (.inr (.inr hdg))]
          simp
        · rw [lt_not_dg h3, if_neg (fun h => by rcases h with h | h | h; simp at h; omega; cases h)]
          simp at h2
          simp [h2]
      · rw [if_pos (.inr (.inl (by omega)))]
        simp at h2
        simp
        omega
    · have : nameF (c :: t) ≠ (c :: t).length := by
        unfold nameF
        split
        · simp
        · exact h1
      rw [decide_eq_false h1, decide_eq_false this]; simp
set_option maxHeartbeats 4000000 in
theorem xname_any (l : List UInt8) (hl : l.length ≤ 9223372036854775807) (w : World) : Calls Tryd.prog 34 #[.string (str l)] w fun ev w' => ev = .returned (.bool (nameB l)) ∧ Below w.heap.size w w' := by
  have L := xlife_any l hl w
  have X := xword_any l w
  rw [← life_name l]
  generalize str l = S at *
  generalize isWord l = I at *
  cases h : lifeB l
  · rw [h] at L
    clear h X
    go_enter Tryd.func34, Tryd.ntmps34
    go_wp2_with fail
    refine L.mono ?_
    rintro ev w2 ⟨rfl, rfl⟩
    go_wp2_with fail
    go_ret
    exact ⟨rfl, Below.refl _ _⟩
  · rw [h] at L
    clear h
    go_enter Tryd.func34, Tryd.ntmps34
    go_wp2_with fail
    refine L.mono ?_
    rintro ev w2 ⟨rfl, rfl⟩
    go_wp2_with fail
    refine X.mono ?_
    rintro ev w3 ⟨rfl, hb⟩
    clear X L
    go_wp2_with fail
    go_ret
    refine ⟨?_, hb⟩
    first | rfl | simp

end Go.Proofs.YtmfdmpfeoppnfaaDoor
