/-
  Word: the program's, by the seventeen texts.
-/
import Derived.Test.YtmfdmpfeoppnfaaDoorByt
namespace Go.Proofs.YtmfdmpfeoppnfaaDoor
open Go.RowKit

theorem word_cases {l : List UInt8} (h : isWord l = true) : l = [102,110] ∨ l = [115,116,114,117,99,116] ∨ l = [112,117,98] ∨ l = [108,101,116] ∨ l = [109,117,116] ∨ l = [105,102] ∨ l = [101,108,115,101] ∨ l = [119,104,105,108,101] ∨ l = [108,111,111,112] ∨ l = [98,114,101,97,107] ∨ l = [99,111,110,116,105,110,117,101] ∨ l = [114,101,116,117,114,110] ∨ l = [100,114,111,112] ∨ l = [116,114,117,101] ∨ l = [102,97,108,115,101] ∨ l = [105,110,116] ∨ l = [98,111,111,108] := by
  simpa only [isWord, wordsL, List.contains_eq_mem, List.mem_cons, List.not_mem_nil, decide_eq_true_eq, or_false] using h
theorem not_word {l x : List UInt8} (h : isWord l = false) (hx : isWord x = true) : ((str l).toList == x) = false := by
  unfold str
  rw [ByteArray.toList_mk, beq_eq_false_iff_ne]
  rintro rfl
  rw [hx] at h; cases h

set_option maxHeartbeats 4000000 in
set_option maxRecDepth 20000 in
theorem word_any (l : List UInt8) (w : World) : Calls Tryd.prog 72 #[.string (str l)] w fun ev w' => ev = .returned (.bool (isWord l)) ∧ w' = w := by
  cases h : isWord l
  · have h1 : ((str l).toList == [102,110]) = false := not_word h (x := [102,110]) rfl
    have h2 : ((str l).toList == [115,116,114,117,99,116]) = false := not_word h (x := [115,116,114,117,99,116]) rfl
    have h3 : ((str l).toList == [112,117,98]) = false := not_word h (x := [112,117,98]) rfl
    have h4 : ((str l).toList == [108,101,116]) = false := not_word h (x := [108,101,116]) rfl
    have h5 : ((str l).toList == [109,117,116]) = false := not_word h (x := [109,117,116]) rfl
    have h6 : ((str l).toList == [105,102]) = false := not_word h (x := [105,102]) rfl
    have h7 : ((str l).toList == [101,108,115,101]) = false := not_word h (x := [101,108,115,101]) rfl
    have h8 : ((str l).toList == [119,104,105,108,101]) = false := not_word h (x := [119,104,105,108,101]) rfl
    have h9 : ((str l).toList == [108,111,111,112]) = false := not_word h (x := [108,111,111,112]) rfl
    have h10 : ((str l).toList == [98,114,101,97,107]) = false := not_word h (x := [98,114,101,97,107]) rfl
    have h11 : ((str l).toList == [99,111,110,116,105,110,117,101]) = false := not_word h (x := [99,111,110,116,105,110,117,101]) rfl
    have h12 : ((str l).toList == [114,101,116,117,114,110]) = false := not_word h (x := [114,101,116,117,114,110]) rfl
    have h13 : ((str l).toList == [100,114,111,112]) = false := not_word h (x := [100,114,111,112]) rfl
    have h14 : ((str l).toList == [116,114,117,101]) = false := not_word h (x := [116,114,117,101]) rfl
    have h15 : ((str l).toList == [102,97,108,115,101]) = false := not_word h (x := [102,97,108,115,101]) rfl
    have h16 : ((str l).toList == [105,110,116]) = false := not_word h (x := [105,110,116]) rfl
    have h17 : ((str l).toList == [98,111,111,108]) = false := not_word h (x := [98,111,111,108]) rfl
    clear h
    generalize str l = S at *
    go_enter Tryd.func72, Tryd.ntmps72
    go_wp2_with fail
    go_ret
    exact ⟨rfl, rfl⟩
  · rcases word_cases h with rfl | rfl | rfl | rfl | rfl | rfl | rfl | rfl | rfl | rfl | rfl | rfl | rfl | rfl | rfl | rfl | rfl <;> (clear h; unfold str; go_enter Tryd.func72, Tryd.ntmps72; go_wp2_with fail; go_ret; exact ⟨rfl, rfl⟩)
end Go.Proofs.YtmfdmpfeoppnfaaDoor
