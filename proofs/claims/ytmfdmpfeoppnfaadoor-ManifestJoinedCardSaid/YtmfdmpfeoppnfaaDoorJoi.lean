/-
  The law ManifestJoined.
-/
import Derived.Test.YtmfdmpfeoppnfaaDoorAps
namespace Go.Proofs.YtmfdmpfeoppnfaaDoor
open Go.RowKit

theorem str_app (a b : Bs) : str a ++ str b = str (a ++ b) := by
  apply ByteArray.ext
  unfold str
  simp
set_option maxHeartbeats 16000000 in
set_option maxRecDepth 20000 in
theorem joined_walk (a b : Bs) (w : World) (m : Int) (hm : w.cell? ⟨0, 0, none⟩ = some (.int .i64 m)) (ha : a.length ≤ 9223372036854775807) (hb : b.length ≤ 9223372036854775807) : Calls Tryd.prog 7 #[.string (str a), .string (str b)] w fun ev w' => ev = .returned (.bool true) ∧ Below w.heap.size w w' := by
  have TO : Hid (∀ y, Below w.heap.size w y → Calls Tryd.prog 9 #[] y fun ev w' => ev = .returned (.bool true) ∧ Below w.heap.size w w') := by
    intro y hy
    refine (told_any y m (Below.cellOf hy hm)).mono ?_
    rintro ev w' ⟨rfl, h⟩
    exact ⟨rfl, nextB hy h⟩
  have TD : Hid (∀ y, Below w.heap.size w y → Calls Tryd.prog 9 #[] y fun ev w' => ev = .returned (.bool true) ∧ Below y.heap.size y w') := fun y hy => told_any y m (Below.cellOf hy hm)
  have PA : Hid (∀ y, Below w.heap.size w y → ∀ s : Bs, s.length ≤ 9223372036854775807 → Calls Tryd.prog 8 #[.string (str s)] y (ParPost y (parF s))) := fun y hy s hs => parse_any y s m (Below.cellOf hy hm) hs
  clear hm
  have hza := str_size a
  have hzb := str_size b
  by_cases h1 : 1500 < a.length
  · have i1 : (1500 : Int) < (a.length : Int) := by omega
    generalize str a = SA at *
    generalize str b = SB at *
    clear PA
    go_enter Tryd.func7, Tryd.ntmps7
    go_wp2_with fail
    refine (TO.out _ (Below.refl _ _)).mono ?_
    rintro ev w9 ⟨rfl, hb9⟩
    go_wp2_with fail
    go_ret
    exact ⟨rfl, hb9⟩
  have i1 : ¬ (1500 : Int) < (a.length : Int) := by omega
  by_cases h2 : 1500 < b.length
  · have i2 : (1500 : Int) < (b.length : Int) := by omega
    generalize str a = SA at *
    generalize str b = SB at *
    clear PA
    go_enter Tryd.func7, Tryd.ntmps7
    go_wp2_with fail
    refine (TO.out _ (Below.refl _ _)).mono ?_
    rintro ev w9 ⟨rfl, hb9⟩
    go_wp2_with fail
    go_ret
    exact ⟨rfl, hb9⟩
  have i2 : ¬ (1500 : Int) < (b.length : Int) := by omega
  have hcat : str a ++ ⟨#[10]⟩ = str (a ++ [10]) := str_app a [10]
  have P1 := hid0 (PA.out w (Below.refl _ _) (a ++ [10]) (by simp; omega))
  rw [← hcat] at P1
  have P2 := hid0 (fun y hy => PA.out y hy b (by omega))
  cases hr1 : parF (a ++ [10]) with
  | error c1 =>
    rw [hr1] at P1
    cases hr2 : parF b with
    | error c2 =>
      rw [hr2] at P2
      clear PA hr1 hr2 hcat
      generalize str a = SA at *
      generalize str b = SB at *
      go_enter Tryd.func7, Tryd.ntmps7
      go_wp2_with fail
      refine P1.out.mono ?_
      rintro ev w1 ⟨e1, rfl, hE1, hb1⟩
      obtain ⟨eb1, rfl⟩ := hE1.shape'
      have P2' := hid0 (P2.out w1 hb1)
      clear P1
      go_wp2_with fail
      refine P2'.out.mono ?_
      rintro ev w2 ⟨e2, rfl, hE2, hb2⟩
      obtain ⟨eb2, rfl⟩ := hE2.shape'
      have hb12 := nextB hb1 hb2
      clear P2' P2
      go_wp2_with fail
      refine (TO.out _ hb12).mono ?_
      rintro ev w9 ⟨rfl, hb9⟩
      go_wp2_with fail
      go_ret
      exact ⟨rfl, hb9⟩
    | ok y =>
      rw [hr2] at P2
      clear PA hr1 hr2 hcat
      generalize str a = SA at *
      generalize str b = SB at *
      go_enter Tryd.func7, Tryd.ntmps7
      go_wp2_with fail
      refine P1.out.mono ?_
      rintro ev w1 ⟨e1, rfl, hE1, hb1⟩
      obtain ⟨eb1, rfl⟩ := hE1.shape'
      have P2' := hid0 (P2.out w1 hb1)
      clear P1
      go_wp2_with fail
      refine P2'.out.mono ?_
      rintro ev w2 ⟨v2, rfl, hS2, hb2⟩
      have AS2 := aside0 hS2
      obtain ⟨ao2, cap2, rfl, y1, y2, -⟩ := hS2.shape
      have hb12 := nextB hb1 hb2
      clear P2' P2
      clear hS2
      go_wp2_with fail
      refine (TO.out _ hb12).mono ?_
      rintro ev w9 ⟨rfl, hb9⟩
      go_wp2_with fail
      go_ret
      exact ⟨rfl, hb9⟩
  | ok x =>
    rw [hr1] at P1
    cases hr2 : parF b with
    | error c2 =>
      rw [hr2] at P2
      clear PA hr1 hr2 hcat
      generalize str a = SA at *
      generalize str b = SB at *
      go_enter Tryd.func7, Tryd.ntmps7
      go_wp2_with fail
      refine P1.out.mono ?_
      rintro ev w1 ⟨v1, rfl, hS1, hb1⟩
      have AS1 := aside0 hS1
      obtain ⟨ao1, cap1, rfl, x1, x2, -⟩ := hS1.shape
      have P2' := hid0 (P2.out w1 hb1)
      clear P1
      go_wp2_with fail
      refine P2'.out.mono ?_
      rintro ev w2 ⟨e2, rfl, hE2, hb2⟩
      obtain ⟨eb2, rfl⟩ := hE2.shape'
      have hb12 := nextB hb1 hb2
      clear P2' P2
      clear hS1
      go_wp2_with fail
      refine (TO.out _ hb12).mono ?_
      rintro ev w9 ⟨rfl, hb9⟩
      go_wp2_with fail
      go_ret
      exact ⟨rfl, hb9⟩
    | ok y =>
      rw [hr2] at P2
      by_cases h3 : 64 < x.length + y.length
      · have i3 : (64 : Int) < (x.length : Int) + (y.length : Int) := by omega
        clear PA hr1 hr2 hcat
        generalize str a = SA at *
        generalize str b = SB at *
        go_enter Tryd.func7, Tryd.ntmps7
        go_wp2_with fail
        refine P1.out.mono ?_
        rintro ev w1 ⟨v1, rfl, hS1, hb1⟩
        have AS1 := aside0 hS1
        obtain ⟨ao1, cap1, rfl, x1, x2, -⟩ := hS1.shape
        have P2' := hid0 (P2.out w1 hb1)
        clear P1
        go_wp2_with fail
        refine P2'.out.mono ?_
        rintro ev w2 ⟨v2, rfl, hS2, hb2⟩
        have AS2 := aside0 hS2
        obtain ⟨ao2, cap2, rfl, y1, y2, -⟩ := hS2.shape
        have hb12 := nextB hb1 hb2
        clear P2' P2
        clear hS1
        clear hS2
        go_wp2_with fail
        refine (TO.out _ hb12).mono ?_
        rintro ev w9 ⟨rfl, hb9⟩
        go_wp2_with fail
        go_ret
        exact ⟨rfl, hb9⟩
      have i3 : ¬ (64 : Int) < (x.length : Int) + (y.length : Int) := by omega
      by_cases h4 : b.length < 2
      · have i4 : (b.length : Int) < 2 := by omega
        clear PA hr1 hr2 hcat
        generalize str a = SA at *
        generalize str b = SB at *
        go_enter Tryd.func7, Tryd.ntmps7
        go_wp2_with fail
        refine P1.out.mono ?_
        rintro ev w1 ⟨v1, rfl, hS1, hb1⟩
        have AS1 := aside0 hS1
        obtain ⟨ao1, cap1, rfl, x1, x2, -⟩ := hS1.shape
        have P2' := hid0 (P2.out w1 hb1)
        clear P1
        go_wp2_with fail
        refine P2'.out.mono ?_
        rintro ev w2 ⟨v2, rfl, hS2, hb2⟩
        have AS2 := aside0 hS2
        obtain ⟨ao2, cap2, rfl, y1, y2, -⟩ := hS2.shape
        have hb12 := nextB hb1 hb2
        clear P2' P2
        clear hS1
        clear hS2
        go_wp2_with fail
        refine (TO.out _ hb12).mono ?_
        rintro ev w9 ⟨rfl, hb9⟩
        go_wp2_with fail
        go_ret
        exact ⟨rfl, hb9⟩
      have i4 : ¬ (b.length : Int) < 2 := by omega
      have hto := str_to b 2
      have hbq : ((str (b.take 2)).toList == [61, 61]) = decide (b.take 2 = [61, 61]) := by
        have := str_beq (b.take 2) [61, 61]
        have e : (str [61, 61]).toList = [61, 61] := by unfold str; rw [ByteArray.toList_mk]
        rwa [e] at this
      by_cases h5 : b.take 2 = [61, 61]
      · rw [decide_eq_true h5] at hbq
        have hcat2 : str a ++ ⟨#[10]⟩ ++ str b = str (a ++ 10 :: b) := by rw [hcat, str_app]; simp
        have P3 := hid0 (fun y hy => PA.out y hy (a ++ 10 :: b) (by simp; omega))
        rw [← hcat2] at P3
        have hpre : ([61, 61] : Bs).isPrefixOf b = true := by
          rw [List.isPrefixOf_iff_prefix, ← h5]
          exact List.take_prefix _ _
        have PJ := hid0 (fun hn => parF_join hr1 hr2 (by omega) (by omega) hpre hn)
        clear PA hr1 hr2 hcat hcat2 h5 hpre
        generalize str (b.take 2) = SB2 at *
        generalize str a = SA at *
        generalize str b = SB at *
        go_enter Tryd.func7, Tryd.ntmps7
        go_wp2_with fail
        refine P1.out.mono ?_
        rintro ev w1 ⟨v1, rfl, hS1, hb1⟩
        have AS1 := aside0 hS1
        obtain ⟨ao1, cap1, rfl, x1, x2, -⟩ := hS1.shape
        have P2' := hid0 (P2.out w1 hb1)
        clear P1
        go_wp2_with fail
        refine P2'.out.mono ?_
        rintro ev w2 ⟨v2, rfl, hS2, hb2⟩
        have AS2 := aside0 hS2
        obtain ⟨ao2, cap2, rfl, y1, y2, -⟩ := hS2.shape
        have hb12 := nextB hb1 hb2
        clear P2' P2
        clear hS1
        clear hS2
        have c1 := hid0 AS1.out.shape
        have c2 := hid0 AS2.out.shape
        have HX : Hid (∀ i, i < x.length → ∃ p o, ao1 = some ⟨p, o, none⟩ ∧ w2.cell? ⟨p, o + i * 3, none⟩ = some (.string (str (x.getD i Src.zero).name))) := by
          intro i hi
          obtain ⟨ao, cap, e, -, -, hc⟩ := (AS1.out.below hb2).shape
          cases e
          obtain ⟨p, o, dv, e, q0, -⟩ := hc i hi
          exact ⟨p, o, e, q0⟩
        have HY : Hid (∀ i, i < y.length → ∃ p o, ao2 = some ⟨p, o, none⟩ ∧ w2.cell? ⟨p, o + i * 3, none⟩ = some (.string (str (y.getD i Src.zero).name))) := by
          intro i hi
          obtain ⟨ao, cap, e, -, -, hc⟩ := AS2.out.shape
          cases e
          obtain ⟨p, o, dv, e, q0, -⟩ := hc i hi
          exact ⟨p, o, e, q0⟩
        have A12 := aside0 hb12
        have SX := aside0 (AS1.out.below hb2)
        clear c1 c2 AS1 hb1 hb2 hb12
        go_wp2_with fail
        go_loopw [9] (fun i wr => ∃ k : Nat, k ≤ x.length ∧ i = .int .i64 k ∧ (∀ i j, i < k → j < y.length → (x.getD i Src.zero).name ≠ (y.getD j Src.zero).name) ∧ ∃ q, wr = w2.drewN q) (fun i _ => x.length - (intOf i).toNat)
        case atStart => exact ⟨0, by omega, rfl, fun i j h => by omega, 0, rfl⟩
        case round =>
          obtain ⟨k, hk, rfl, hj, hbw⟩ := hrel
          have HJ := aside0 hj
          have HW := aside0 hbw
          clear hj hbw
          by_cases h6 : k < x.length
          · have l6 : (k : Int) < (x.length : Int) := by omega
            obtain ⟨p, o, rfl, q0⟩ := HX.out k h6
            have AQ := aside0 q0
            clear q0
            go_wp2_with fail
            go_loopw [10] (fun i wx => ∃ t : Nat, t ≤ y.length ∧ i = .int .i64 t ∧ (∀ j, j < t → (x.getD k Src.zero).name ≠ (y.getD j Src.zero).name) ∧ ∃ q, wx = w2.drewN q) (fun i _ => y.length - (intOf i).toNat)
            case atStart => exact ⟨0, by omega, rfl, fun j h => by omega, HW.out⟩
            case round =>
              obtain ⟨t, ht, rfl, hj2, hbw2⟩ := hrel
              have HJ2 := aside0 hj2
              have HW2 := aside0 hbw2
              clear hj2 hbw2
              by_cases h7 : t < y.length
              · have l7 : (t : Int) < (y.length : Int) := by omega
                obtain ⟨p', o', rfl, r0⟩ := HY.out t h7
                have d0 : wr.cell? ⟨p, o + k * 3, none⟩ = some (.string (str (x.getD k Src.zero).name)) := by obtain ⟨_, e⟩ := HW2.out; rw [e]; exact AQ.out
                have d1 : wr.cell? ⟨p', o' + t * 3, none⟩ = some (.string (str (y.getD t Src.zero).name)) := by obtain ⟨_, e⟩ := HW2.out; rw [e]; exact r0
                have hbn := str_beq (x.getD k Src.zero).name (y.getD t Src.zero).name
                clear r0
                by_cases hne : (x.getD k Src.zero).name = (y.getD t Src.zero).name
                · rw [decide_eq_true hne] at hbn
                  clear hne
                  generalize str (x.getD k Src.zero).name = S1 at *
                  generalize str (y.getD t Src.zero).name = S2 at *
                  go_wp2_with fail
                  go_quiet (fail)
                  go_wp2_with fail
                  refine (TO.out _ (nextB A12.out (below_drews (drews HW2.out _)))).mono ?_
                  rintro ev w9 ⟨rfl, hb9⟩
                  go_wp2_with fail
                  go_ret
                  exact ⟨rfl, hb9⟩
                · have HP : Hid (∀ j, j < t + 1 → (x.getD k Src.zero).name ≠ (y.getD j Src.zero).name) := by
                    intro j hj
                    rcases Nat.lt_or_ge j t with h | h
                    · exact HJ2.out j h
                    · obtain rfl : j = t := by omega
                      exact hne
                  rw [decide_eq_false hne] at hbn
                  clear hne
                  generalize hS1 : str (x.getD k Src.zero).name = S1 at *
                  generalize str (y.getD t Src.zero).name = S2 at *
                  clear hS1
                  go_wp2_with fail
                  go_quiet (fail)
                  go_wp2_with fail
                  go_roundw
                  case rel => exact ⟨t + 1, by omega, by go_num, HP.out, drews HW2.out _⟩
                  case measure => simp [intOf]; omega
              · have l7 : ¬ (t : Int) < (y.length : Int) := by omega
                have HP : Hid (∀ i j, i < k + 1 → j < y.length → (x.getD i Src.zero).name ≠ (y.getD j Src.zero).name) := by
                  intro i j hi hj
                  rcases Nat.lt_or_ge i k with h | h
                  · exact HJ.out i j h hj
                  · obtain rfl : i = k := by omega
                    exact HJ2.out j (by omega)
                go_wp2_with fail
                go_roundw
                case rel => exact ⟨k + 1, by omega, by go_num, HP.out, HW2.out⟩
                case measure => simp [intOf]; omega
          · have l6 : ¬ (k : Int) < (x.length : Int) := by omega
            have hpar := PJ.out (fun n h1 h2 => by
              obtain ⟨u, hu, rfl⟩ := List.mem_map.1 h1
              obtain ⟨z, hz, e⟩ := List.mem_map.1 h2
              obtain ⟨i, hi, rfl⟩ := List.getElem_of_mem hu
              obtain ⟨j, hj, rfl⟩ := List.getElem_of_mem hz
              exact HJ.out i j (by omega) hj (by rw [getD_eq x i _ hi, getD_eq y j _ hj]; exact e.symm))
            have hbr := below_drews HW.out
            have P3' := hid0 (P3.out wr (nextB A12.out hbr))
            rw [hpar] at P3'
            have AX := aside0 (SX.out.below hbr)
            have AY := aside0 (AS2.out.below hbr)
            have AR := aside0 (nextB A12.out hbr)
            clear hpar hbr P3 PJ HX HY HJ HW
            go_wp2_with fail
            refine P3'.out.mono ?_
            rintro ev w3 ⟨v3, rfl, hS3, hb3⟩
            clear P3'
            have hb03 := nextB AR.out hb3
            have TO2 := hid0 (TD.out w3 hb03)
            have AX3 := aside0 (AX.out.below hb3)
            have AY3 := aside0 (AY.out.below hb3)
            have A3 := aside0 hS3
            clear AX AY hS3 hb3
            go_wp2_with fail
            refine TO2.out.mono ?_
            rintro ev w4 ⟨rfl, hb4⟩
            have hSx := AX3.out.below hb4
            have hSy := AY3.out.below hb4
            have hSz := A3.out.below hb4
            have A04 := aside0 (nextB hb03 hb4)
            have hA4 : Below w4.heap.size w4 (w4.alloc (.cells #[] 43)) := (Below.refl _ _).alloc (Nat.le_refl _) _
            have O0 : Ow w4 (w4.alloc (.cells #[] 43)) (.slice (some ⟨w4.heap.size, 0, none⟩) 0 0) [] := ⟨hA4, [], World.ownsRow_made w4 #[] 0 (Nat.le_refl _) (by decide) rfl, rfl, fun i hi => by simp at hi⟩
            have hdt : eqL (x ++ y) (x ++ y) = true := eqL_true rfl
            have SA2 := hid0 (fun (v' : Value) (w' : World) (ho : Ow w4 w' v' (([] ++ x) ++ y)) => same_any w' _ v' (x ++ y) (x ++ y) (hSz.below ho.below) (by have := ho.srs (by simp; omega); simpa using this))
            clear hb4 hb03 TO2 TO TD AX3 AY3 A3 hSz hA4
            go_wp2_with (first
              | (refine app24 (w0 := w4) (A := []) (L := x) rfl _ _ rfl rfl O0 rfl hSx (by simp; omega) ?_; intro v5 w5 O5)
              | (refine app24 (w0 := w4) (A := [] ++ x) (L := y) rfl _ _ rfl rfl O5 rfl hSy (by simp; omega) ?_; intro v6 w6 O6; have SA3 := hid0 (SA2.out v6 w6 O6); have A06 := aside0 O6.below; clear O5 O6 SA2))
            refine SA3.out.mono ?_
            rintro ev w7 ⟨rfl, hb7⟩
            have hb77 := below_drews hb7
            clear SA3 hb7
            go_wp2_with fail
            go_ret
            exact ⟨by simp, nextB (nextB A04.out A06.out) hb77⟩
      · rw [decide_eq_false h5] at hbq
        clear PA hr1 hr2 hcat h5
        generalize str (b.take 2) = SB2 at *
        generalize str a = SA at *
        generalize str b = SB at *
        go_enter Tryd.func7, Tryd.ntmps7
        go_wp2_with fail
        refine P1.out.mono ?_
        rintro ev w1 ⟨v1, rfl, hS1, hb1⟩
        have AS1 := aside0 hS1
        obtain ⟨ao1, cap1, rfl, x1, x2, -⟩ := hS1.shape
        have P2' := hid0 (P2.out w1 hb1)
        clear P1
        go_wp2_with fail
        refine P2'.out.mono ?_
        rintro ev w2 ⟨v2, rfl, hS2, hb2⟩
        have AS2 := aside0 hS2
        obtain ⟨ao2, cap2, rfl, y1, y2, -⟩ := hS2.shape
        have hb12 := nextB hb1 hb2
        clear P2' P2
        clear hS1
        clear hS2
        go_wp2_with fail
        refine (TO.out _ hb12).mono ?_
        rintro ev w9 ⟨rfl, hb9⟩
        go_wp2_with fail
        go_ret
        exact ⟨rfl, hb9⟩
end Go.Proofs.YtmfdmpfeoppnfaaDoor
