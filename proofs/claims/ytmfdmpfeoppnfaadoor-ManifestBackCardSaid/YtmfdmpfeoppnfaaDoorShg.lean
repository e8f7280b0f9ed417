/-
  The library's functions in plain words: prefixes, a line's end, where a byte is, pieces, what a slice has.
-/
import Derived.Test.YtmfdmpfeoppnfaaDoorShf
import Derived.Test.YtmfdmpfeoppnfaaDoorSrm
namespace Go.Proofs.YtmfdmpfeoppnfaaDoor
open Go.RowKit

theorem str_list (l : Bs) : (str l).data.toList = l := by simp [str]
theorem prefix_any (l p : Bs) (w : World) : Calls Tryd.prog 30 #[.string (str l), .string (str p)] w fun e w' => e = .returned (.bool (p.isPrefixOf l)) ∧ w' = w := by
  have C := Tryd.strings_HasPrefix (str l) (str p) w
  rw [str_list, str_list] at C
  exact C
theorem strip_any (l : Bs) (hl : l.length ≤ 9223372036854775807) (w : World) : Calls Tryd.prog 44 #[.string (str l), .string (str [10])] w fun e w' => e = .returned (.string (str (stripN l))) ∧ w' = w := by
  have C := Tryd.strings_TrimSuffix (str l) (str [10]) w (by rw [str_size]; exact hl)
  rw [str_list, str_list] at C
  exact C
theorem cutPrefix_any (l : Bs) (w : World) : Calls Tryd.prog 54 #[.string (str l), .string (str [61, 61, 32])] w fun e w' => e = .returned (.tuple #[.string (str (cutN l)), .bool (([61, 61, 32] : Bs).isPrefixOf l)]) ∧ w' = w := by
  have C := Tryd.strings_CutPrefix (str l) (str [61, 61, 32]) w
  rw [str_list, str_list] at C
  exact C
theorem cut_any (l : Bs) (hl : l.length ≤ 4294967280) (w : World) (m : Int) (hm : w.cell? ⟨0, 0, none⟩ = some (.int .i64 m)) :
    Calls Tryd.prog 55 #[.string (str l), .string (str [32, 58, 32])] w fun e w' => e = .returned (.tuple #[.string (str (Lib.cut l [32, 58, 32]).1), .string (str (Lib.cut l [32, 58, 32]).2.1), .bool (Lib.cut l [32, 58, 32]).2.2]) ∧ ∃ n, w' = w.drewN n := by
  have C := Tryd.strings_Cut (str l) (str [32, 58, 32]) m w (by rw [str_size]; omega) hm
  rw [str_list, str_list] at C
  exact C
theorem split_any (l : Bs) (hl : l.length ≤ 4294967280) (w : World) (m : Int) (hm : w.cell? ⟨0, 0, none⟩ = some (.int .i64 m)) :
    Calls Tryd.prog 56 #[.string (str l), .string (str [32])] w fun e w' => e = .returned (.slice (some ⟨w.heap.size, 0, none⟩) (spl l).length (spl l).length) ∧ w' = w.alloc (.cells ((spl l).map fun d => .string (str d)).toArray 9) := by
  have C := Tryd.strings_Split (str l) (str [32]) m w (by rw [str_size]; omega) hm (by decide)
  have e1 := Lib.splitB_data (str [32]) 0 (Lib.countB (str l) (str [32])) (str l)
  have e0 : Lib.countB (str l) (str [32]) = Lib.count l [32] := by unfold Lib.countB; rw [str_list, str_list]
  rw [e0, str_list, str_list, split_spl l.length l (Nat.le_refl _)] at e1
  rw [e0] at C
  have e2 : (Lib.splitB (str [32]) 0 (Lib.count l [32]) (str l)).map Value.string = (spl l).map fun d => .string (str d) := by
    rw [← e1, List.map_map]
    apply List.map_congr_left
    intro x _
    simp [str_of]
  have e3 : Lib.count l [32] + 1 = (spl l).length := by
    have h := Lib.splitB_all (str [32]) (by decide) 0 _ (str l) rfl
    rw [e0] at h
    rw [← e1, List.length_map, h]
  rw [e2, e3] at C
  exact C
theorem index10 : ∀ s : Bs, (Lib.index s [10] = -1 ∧ lineN s = s.length) ∨ (0 ≤ Lib.index s [10] ∧ Lib.index s [10] + 1 = lineN s)
  | [] => .inl ⟨rfl, rfl⟩
  | c :: t => by
    unfold Lib.index lineN
    by_cases hc : c = 10
    · right
      subst hc
      simp
    · have hp : ([10] : Bs).isPrefixOf (c :: t) = false := by
        cases h : ([10] : Bs).isPrefixOf (c :: t)
        · rfl
        · obtain ⟨u, hu⟩ := List.isPrefixOf_iff_prefix.1 h
          cases hu
          exact absurd rfl hc
      rw [hp, if_neg hc]
      rcases index10 t with ⟨h1, h2⟩ | ⟨h1, h2⟩
      · left; simp [h1, h2]
      · right
        have : (Lib.index t [10] == -1) = false := by simp; omega
        rw [this]
        simp
        omega
set_option maxHeartbeats 1000000 in
theorem firstLine_any (l : Bs) (hl : l.length ≤ 4294967280) (w : World) (m : Int) (hm : w.cell? ⟨0, 0, none⟩ = some (.int .i64 m)) :
    Calls Tryd.prog 41 #[.string (str l)] w fun e w' => e = .returned (.string (str (l.take (lineN l)))) ∧ w' = w := by
  have C := Tryd.strings_Index (str l) (str [10]) m w (by rw [str_size]; omega) hm
  rw [str_list, str_list] at C
  have hsz := str_size l
  have hle := lineN_le l
  have hto := str_to l (lineN l)
  unfold str at C hto
  rcases index10 l with ⟨h1, h2⟩ | ⟨h1, h2⟩
  · rw [h1] at C
    rw [h2, List.take_length]
    clear hto
    unfold str
    generalize (ByteArray.mk l.toArray) = S at *
    go_enter Tryd.func41, Tryd.ntmps41
    go_wp2_with fail
    refine C.mono ?_
    rintro ev w2 ⟨rfl, rfl⟩
    go_wp2_with fail
    go_ret
    exact ⟨rfl, rfl⟩
  · obtain ⟨k, hk⟩ : ∃ k : Nat, Lib.index l [10] = k := ⟨_, (Int.toNat_of_nonneg h1).symm⟩
    rw [hk] at C h2
    have h3 : lineN l = k + 1 := by omega
    rw [h3] at hto hle ⊢
    unfold str at hsz ⊢
    generalize (ByteArray.mk l.toArray) = S at *
    generalize (ByteArray.mk (List.take (k + 1) l).toArray) = S2 at *
    generalize l.length = n at *
    clear h1 h2 h3 hk
    go_enter Tryd.func41, Tryd.ntmps41
    go_wp2_with fail
    refine C.mono ?_
    rintro ev w2 ⟨rfl, rfl⟩
    go_wp2_with fail
    go_ret
    refine ⟨?_, rfl⟩
    rw [← hto]; rfl
theorem clone_any (l : Bs) (hl : l.length ≤ 140737488355328) (w : World) : Calls Tryd.prog 47 #[.string (str l)] w fun ev w' => ev = .returned (.string (str l)) ∧ Below w.heap.size w w' := by
  have C := Tryd.stringslite_Clone (str l) w (by rw [str_size]; omega)
  generalize str l = S at *
  go_enter Tryd.func47, Tryd.ntmps47
  go_wp2_with fail
  refine C.mono ?_
  rintro ev w2 ⟨rfl, hb⟩
  clear C
  go_wp2_with fail
  go_ret
  exact ⟨rfl, hb⟩
end Go.Proofs.YtmfdmpfeoppnfaaDoor
