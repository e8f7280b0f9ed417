/-
  Lists that the writer writes: list, angled, rounded, braced, upToMost, whatever writes a member.
-/
import Derived.Test.YtlbhaaldndjigaaGreatDoorJWri2
namespace Go.Proofs.YtlbhaaldndjigaaGreatDoor
open Go.RowKit

/-- The function cf, handed caps, writes member i of ps, at any world behind w0. -/
def Mem (C b : Nat) (n : Int) (w0 : World) (cf : Nat) (caps : Array Value) (ps : List Bs) : Prop :=
  ∀ i (hi : i < ps.length) (S : Bs) (w : World), Fr C w0 w → Wtr C b S n w → S.length + (ps[i]).length ≤ 140737488355328 →
    Calls Tryz.prog cf (#[.int .i64 (i : Int)] ++ caps) w fun e w' => e = .returned (.tuple #[]) ∧ Wtr C b (S ++ ps[i]) n w' ∧ Fr C w w'
theorem Mem.mono {C b : Nat} {n : Int} {w0 w1 : World} {cf : Nat} {caps : Array Value} {ps : List Bs} (h : Mem C b n w0 cf caps ps) (hf : Fr C w0 w1) : Mem C b n w1 cf caps ps :=
  fun i hi S w hw => h i hi S w (hf.trans hw)

set_option maxHeartbeats 2000000 in
theorem list_any {C b : Nat} {n : Int} {w0 : World} {cf : Nat} {caps : Array Value} {ps : List Bs} (he : ∀ args w, (callFunc cf args).run Tryz.prog w = .ok (.enter cf args) w) (hm : Mem C b n w0 cf caps ps)
    {S : Bs} {w : World} (hf : Fr C w0 w) (h : Wtr C b S n w) (sep : Bs) (hl9 : ps.length ≤ 140737488355328) (hlen : S.length + (jn sep ps).length ≤ 140737488355328) :
    Calls Tryz.prog 79 #[.pointer (some ⟨b, 0, none⟩), .int .i64 (ps.length : Int), .string (str sep), .func (.func cf) #[] caps] w fun e w' => e = .returned (.tuple #[]) ∧ Wtr C b (S ++ jn sep ps) n w' ∧ Fr C w w' := by
  have HH := hid0 h
  have HM := hid0 hm
  have HL := hid0 hlen
  have HF0 := hid0 hf
  clear h hm hlen hf
  go_enter Tryz.func79, Tryz.ntmps79
  go_wp2_with fail
  go_loopw [10] (fun i wr => ∃ k : Nat, k ≤ ps.length ∧ i = .int .i64 k ∧ Wtr C b (S ++ jn sep (ps.take k)) n wr ∧ Fr C w wr) (fun i _ => ps.length - (intOf i).toNat)
  case atStart => exact ⟨0, by omega, rfl, by simpa [jn] using HH.out, Fr.refl _ _⟩
  case round =>
    obtain ⟨k, hk, rfl, hw, hf⟩ := hrel
    have HW := hid0 hw
    have HF := hid0 hf
    clear hw hf
    by_cases h3 : k < ps.length
    · have i1 : (k : Int) < (ps.length : Int) := by omega
      have e1 := jn_take sep ps k h3
      have e2 := jn_le sep ps (k + 1)
      rw [e1] at e2
      simp only [List.length_append] at e2
      have hl := HL.out
      have e3 : decide ((0 : Int) < (k : Int)) = decide (0 < k) := by congr 1; simp
      have eB : (if decide (0 < k) = true then sep else ([] : Bs)) = if k = 0 then [] else sep := by
        by_cases h0 : k = 0
        · subst h0; simp
        · rw [if_neg h0, if_pos (by simp; omega)]
      have hl1 : (S ++ jn sep (ps.take k)).length + (if decide (0 < k) = true then sep else ([] : Bs)).length ≤ 140737488355328 := by rw [eB, List.length_append]; omega
      have D := hid0 (putIf_any HW.out (decide (0 < k)) sep hl1)
      have hl2 : (S ++ jn sep (ps.take k) ++ if decide (0 < k) = true then sep else ([] : Bs)).length + ps[k].length ≤ 140737488355328 := by rw [eB, List.length_append, List.length_append]; omega
      have E : Hid (∀ y, Fr C wr y → Wtr C b (S ++ jn sep (ps.take k) ++ if decide (0 < k) = true then sep else []) n y → Calls Tryz.prog cf (#[.int .i64 (k : Int)] ++ caps) y fun e w' => e = .returned (.tuple #[]) ∧ Wtr C b (S ++ jn sep (ps.take (k + 1))) n w' ∧ Fr C w w') := by
        intro y hy hw
        refine (HM.out k h3 _ y (HF0.out.trans (HF.out.trans hy)) hw hl2).mono ?_
        rintro _ _ ⟨rfl, p1, p2⟩
        refine ⟨rfl, ?_, HF.out.trans (hy.trans p2)⟩
        rw [e1, ← eB]
        simpa [List.append_assoc] using p1
      clear HW HH HL HM e1 e2 e3 hl1 hl2 eB hl
      go_wp2_with fail
      refine D.out.mono ?_
      rintro ev w2 ⟨rfl, p1, p2⟩
      go_wp2_with fail
      refine (E.out _ p2 p1).mono ?_
      rintro ev w3 ⟨rfl, p3, p4⟩
      go_wp2_with fail
      go_roundw
      case rel => exact ⟨k + 1, by omega, by go_num, p3, p4⟩
      case measure => simp [intOf]; omega
    · have i1 : ¬ (k : Int) < (ps.length : Int) := by omega
      have HX : Hid (Wtr C b (S ++ jn sep ps) n wr) := by show Wtr C b (S ++ jn sep ps) n wr; have := HW.out; rwa [jn_full sep ps k h3] at this
      go_wp2_with fail
      go_end0
      exact ⟨rfl, HX.out, HF.out⟩

set_option maxHeartbeats 2000000 in
theorem angled_any {C b : Nat} {n : Int} {w0 : World} {cf : Nat} {caps : Array Value} {ps : List Bs} (he : ∀ args w, (callFunc cf args).run Tryz.prog w = .ok (.enter cf args) w) (hm : Mem C b n w0 cf caps ps)
    {S : Bs} {w : World} (hf : Fr C w0 w) (h : Wtr C b S n w) (hl9 : ps.length ≤ 140737488355328) (hlen : S.length + (angT ps).length ≤ 140737488355328) :
    Calls Tryz.prog 51 #[.pointer (some ⟨b, 0, none⟩), .int .i64 (ps.length : Int), .func (.func cf) #[] caps] w fun e w' => e = .returned (.tuple #[]) ∧ Wtr C b (S ++ angT ps) n w' ∧ Fr C w w' := by
  by_cases h0 : ps = []
  · have HH : Hid (Wtr C b (S ++ angT ps) n w) := by show Wtr C b (S ++ angT ps) n w; rw [h0]; simpa [angT] using h
    have i1 : ((ps.length : Int) == 0) = true := by rw [h0]; rfl
    clear h hlen hm h0
    go_enter Tryz.func51, Tryz.ntmps51
    go_wp2_with fail
    refine bodyPost_ret (results_none rfl _ _ _) rfl ?_
    exact ⟨rfl, HH.out, Fr.refl _ _⟩
  · have i1 : ((ps.length : Int) == 0) = false := by cases ps with | nil => exact absurd rfl h0 | cons a l => simp; omega
    have e1 : angT ps = [60] ++ jn [44, 32] ps ++ [62] := by unfold angT; rw [if_neg h0]
    rw [e1] at hlen ⊢
    simp only [List.length_append, List.length_cons, List.length_nil] at hlen
    have D1 := hid0 (put1 h [60] (by simp; omega))
    have D2 := hid0 fun (y : World) (hy : Fr C w y) (hw : Wtr C b (S ++ [60]) n y) => list_any he hm (hf.trans hy) hw [44, 32] hl9 (by simp only [List.length_append, List.length_cons, List.length_nil]; omega)
    have D3 := hid0 fun (y : World) (hw : Wtr C b (S ++ [60] ++ jn [44, 32] ps) n y) => put1 hw [62] (by simp only [List.length_append, List.length_cons, List.length_nil]; omega)
    clear h hlen hm h0 e1 hf
    go_enter Tryz.func51, Tryz.ntmps51
    go_wp2_with fail
    refine D1.out.mono ?_
    rintro ev w1 ⟨rfl, p1, q1⟩
    go_wp2_with fail
    refine (D2.out w1 q1 p1).mono ?_
    rintro ev w2 ⟨rfl, p2, q2⟩
    go_wp2_with fail
    refine (D3.out w2 p2).mono ?_
    rintro ev w3 ⟨rfl, p3, q3⟩
    go_wp2_with fail
    go_end0
    exact ⟨rfl, by simpa [List.append_assoc] using p3, q1.trans (q2.trans q3)⟩

set_option maxHeartbeats 2000000 in
theorem rounded_any {C b : Nat} {n : Int} {w0 : World} {cf : Nat} {caps : Array Value} {ps : List Bs} (he : ∀ args w, (callFunc cf args).run Tryz.prog w = .ok (.enter cf args) w) (hm : Mem C b n w0 cf caps ps)
    {S : Bs} {w : World} (hf : Fr C w0 w) (h : Wtr C b S n w) (hl9 : ps.length ≤ 140737488355328) (hlen : S.length + ([40] ++ jn [44, 32] ps ++ [41]).length ≤ 140737488355328) :
    Calls Tryz.prog 54 #[.pointer (some ⟨b, 0, none⟩), .int .i64 (ps.length : Int), .func (.func cf) #[] caps] w fun e w' => e = .returned (.tuple #[]) ∧ Wtr C b (S ++ ([40] ++ jn [44, 32] ps ++ [41])) n w' ∧ Fr C w w' := by
  simp only [List.length_append, List.length_cons, List.length_nil] at hlen
  have D1 := hid0 (put1 h [40] (by simp; omega))
  have D2 := hid0 fun (y : World) (hy : Fr C w y) (hw : Wtr C b (S ++ [40]) n y) => list_any he hm (hf.trans hy) hw [44, 32] hl9 (by simp only [List.length_append, List.length_cons, List.length_nil]; omega)
  have D3 := hid0 fun (y : World) (hw : Wtr C b (S ++ [40] ++ jn [44, 32] ps) n y) => put1 hw [41] (by simp only [List.length_append, List.length_cons, List.length_nil]; omega)
  clear h hlen hm hf
  go_enter Tryz.func54, Tryz.ntmps54
  go_wp2_with fail
  refine D1.out.mono ?_
  rintro ev w1 ⟨rfl, p1, q1⟩
  go_wp2_with fail
  refine (D2.out w1 q1 p1).mono ?_
  rintro ev w2 ⟨rfl, p2, q2⟩
  go_wp2_with fail
  refine (D3.out w2 p2).mono ?_
  rintro ev w3 ⟨rfl, p3, q3⟩
  go_wp2_with fail
  go_end0
  exact ⟨rfl, by simpa [List.append_assoc] using p3, q1.trans (q2.trans q3)⟩

set_option maxHeartbeats 2000000 in
theorem braced_any {C b : Nat} {n : Int} {w0 : World} {cf : Nat} {caps : Array Value} {ps : List Bs} (he : ∀ args w, (callFunc cf args).run Tryz.prog w = .ok (.enter cf args) w) (hm : Mem C b n w0 cf caps ps)
    {S : Bs} {w : World} (hf : Fr C w0 w) (h : Wtr C b S n w) (hl9 : ps.length ≤ 140737488355328) (hlen : S.length + (bracT ps).length ≤ 140737488355328) :
    Calls Tryz.prog 72 #[.pointer (some ⟨b, 0, none⟩), .int .i64 (ps.length : Int), .func (.func cf) #[] caps] w fun e w' => e = .returned (.tuple #[]) ∧ Wtr C b (S ++ bracT ps) n w' ∧ Fr C w w' := by
  by_cases h0 : 0 < ps.length
  · have i1 : (0 : Int) < (ps.length : Int) := by omega
    have e1 : bracT ps = [123, 32] ++ jn [44, 32] ps ++ [32] ++ [125] := by unfold bracT; rw [if_neg (by rintro rfl; simp at h0)]
    rw [e1] at hlen
    simp only [List.length_append, List.length_cons, List.length_nil] at hlen
    have HE := hid0 e1
    have D1 := hid0 (put1 h [123, 32] (by simp; omega))
    have D2 := hid0 fun (y : World) (hy : Fr C w y) (hw : Wtr C b (S ++ [123, 32]) n y) => list_any he hm (hf.trans hy) hw [44, 32] hl9 (by simp only [List.length_append, List.length_cons, List.length_nil]; omega)
    have D3 : Hid (∀ (y : World), Wtr C b (S ++ [123, 32] ++ jn [44, 32] ps) n y → Calls Tryz.prog 49 #[.pointer (some ⟨b, 0, none⟩), .bool (decide (0 < ps.length)), .string (str [32])] y fun e w' => e = .returned (.tuple #[]) ∧ Wtr C b (S ++ [123, 32] ++ jn [44, 32] ps ++ [32]) n w' ∧ Fr C y w') := by
      intro y hw
      rw [decide_eq_true h0]
      exact putIf_any hw true [32] (by simp; omega)
    have D4 := hid0 fun (y : World) (hw : Wtr C b (S ++ [123, 32] ++ jn [44, 32] ps ++ [32]) n y) => put1 hw [125] (by simp; omega)
    clear h hlen hm hf h0 e1
    go_enter Tryz.func72, Tryz.ntmps72
    go_wp2_with fail
    refine D1.out.mono ?_
    rintro ev w1 ⟨rfl, p1, q1⟩
    go_wp2_with fail
    refine (D2.out w1 q1 p1).mono ?_
    rintro ev w2 ⟨rfl, p2, q2⟩
    go_wp2_with fail
    refine (D3.out w2 p2).mono ?_
    rintro ev w3 ⟨rfl, p3, q3⟩
    go_wp2_with fail
    refine (D4.out w3 p3).mono ?_
    rintro ev w4 ⟨rfl, p4, q4⟩
    go_wp2_with fail
    go_end0
    exact ⟨rfl, by rw [HE.out]; simpa [List.append_assoc] using p4, q1.trans (q2.trans (q3.trans q4))⟩
  · have i1 : ¬ (0 : Int) < (ps.length : Int) := by omega
    have e1 : bracT ps = [123, 32] ++ jn [44, 32] ps ++ [] ++ [125] := by unfold bracT; rw [if_pos (List.length_eq_zero_iff.1 (by omega))]
    rw [e1] at hlen
    simp only [List.length_append, List.length_cons, List.length_nil] at hlen
    have HE := hid0 e1
    have D1 := hid0 (put1 h [123, 32] (by simp; omega))
    have D2 := hid0 fun (y : World) (hy : Fr C w y) (hw : Wtr C b (S ++ [123, 32]) n y) => list_any he hm (hf.trans hy) hw [44, 32] hl9 (by simp only [List.length_append, List.length_cons, List.length_nil]; omega)
    have D3 : Hid (∀ (y : World), Wtr C b (S ++ [123, 32] ++ jn [44, 32] ps) n y → Calls Tryz.prog 49 #[.pointer (some ⟨b, 0, none⟩), .bool (decide (0 < ps.length)), .string (str [32])] y fun e w' => e = .returned (.tuple #[]) ∧ Wtr C b (S ++ [123, 32] ++ jn [44, 32] ps ++ ([] : Bs)) n w' ∧ Fr C y w') := by
      intro y hw
      rw [decide_eq_false h0]
      exact putIf_any hw false [32] (by simp; omega)
    have D4 := hid0 fun (y : World) (hw : Wtr C b (S ++ [123, 32] ++ jn [44, 32] ps ++ ([] : Bs)) n y) => put1 hw [125] (by simp; omega)
    clear h hlen hm hf h0 e1
    go_enter Tryz.func72, Tryz.ntmps72
    go_wp2_with fail
    refine D1.out.mono ?_
    rintro ev w1 ⟨rfl, p1, q1⟩
    go_wp2_with fail
    refine (D2.out w1 q1 p1).mono ?_
    rintro ev w2 ⟨rfl, p2, q2⟩
    go_wp2_with fail
    refine (D3.out w2 p2).mono ?_
    rintro ev w3 ⟨rfl, p3, q3⟩
    go_wp2_with fail
    refine (D4.out w3 p3).mono ?_
    rintro ev w4 ⟨rfl, p4, q4⟩
    go_wp2_with fail
    go_end0
    exact ⟨rfl, by rw [HE.out]; simpa [List.append_assoc] using p4, q1.trans (q2.trans (q3.trans q4))⟩

/-- The same of members that stop when it is too much. -/
def MemO (C b : Nat) (n : Int) (w0 : World) (cf : Nat) (caps : Array Value) (ps : List Bs) : Prop :=
  ∀ i (hi : i < ps.length) (S : Bs) (w : World), Fr C w0 w → Wtr C b S n w → S.length + (ps[i]).length ≤ 140737488355328 →
    Calls Tryz.prog cf (#[.int .i64 (i : Int)] ++ caps) w fun e w' => e = .returned (.tuple #[]) ∧ (∃ T, Out S ps[i] T ∧ Wtr C b T n w') ∧ Fr C w w'

set_option maxHeartbeats 2000000 in
theorem upToMost_any {C b : Nat} {n : Int} {w0 : World} {cf : Nat} {caps : Array Value} {ps : List Bs} (he : ∀ args w, (callFunc cf args).run Tryz.prog w = .ok (.enter cf args) w) (hm : MemO C b n w0 cf caps ps)
    {S : Bs} {w : World} (hf : Fr C w0 w) (h : Wtr C b S n w) (hl9 : ps.length ≤ 140737488355328) (hlen : S.length + ps.flatten.length ≤ 140737488355328) :
    Calls Tryz.prog 38 #[.pointer (some ⟨b, 0, none⟩), .int .i64 (ps.length : Int), .func (.func cf) #[] caps] w fun e w' => e = .returned (.tuple #[]) ∧ (∃ T, Out S ps.flatten T ∧ Wtr C b T n w') ∧ Fr C w w' := by
  have HH := hid0 h
  have HM := hid0 hm
  have HL := hid0 hlen
  have HF0 := hid0 hf
  clear h hm hlen hf
  go_enter Tryz.func38, Tryz.ntmps38
  go_wp2_with fail
  go_loopw [6] (fun i wr => ∃ k : Nat, k ≤ ps.length ∧ i = .int .i64 k ∧ (∃ T, Out S (ps.take k).flatten T ∧ Wtr C b T n wr) ∧ Fr C w wr) (fun i _ => ps.length - (intOf i).toNat)
  case atStart => exact ⟨0, by omega, rfl, ⟨S, Out.nil S, HH.out⟩, Fr.refl _ _⟩
  case round =>
    obtain ⟨k, hk, rfl, ⟨T, hO, hw⟩, hf⟩ := hrel
    have HO := hid0 hO
    have HW := hid0 hw
    have HF := hid0 hf
    clear hw hf hO
    by_cases h3 : k < ps.length
    · have i1 : (k : Int) < (ps.length : Int) := by omega
      have L := hid0 (tooLong_any HW.out)
      have e1 : (ps.take (k + 1)).flatten = (ps.take k).flatten ++ ps[k] := by rw [List.take_add_one, List.getElem?_eq_getElem h3, List.flatten_append, Option.toList_some, List.flatten_singleton]
      have e2 : ps.flatten = (ps.take k).flatten ++ (ps.drop k).flatten := by rw [← List.flatten_append, List.take_append_drop]
      have e3 : ps.flatten = (ps.take (k + 1)).flatten ++ (ps.drop (k + 1)).flatten := by rw [← List.flatten_append, List.take_append_drop]
      by_cases ht : 1048576 < T.length
      · rw [decide_eq_true ht] at L
        have HX : Hid (∃ T, Out S ps.flatten T ∧ Wtr C b T n wr) := ⟨T, by rw [e2]; exact HO.out.stop ht _, HW.out⟩
        clear HO HW HM HL HH e1 e2 e3 ht
        go_wp2_with fail
        refine L.out.mono ?_
        rintro ev w1 ⟨rfl, rfl⟩
        go_wp2_with fail
        go_end0
        exact ⟨rfl, HX.out, HF.out⟩
      · rw [decide_eq_false ht] at L
        have E : Hid (Calls Tryz.prog cf (#[.int .i64 (k : Int)] ++ caps) wr fun e w' => e = .returned (.tuple #[]) ∧ (∃ T, Out S (ps.take (k + 1)).flatten T ∧ Wtr C b T n w') ∧ Fr C w w') := by
          have hl := HL.out
          have hol := HO.out.len
          refine (HM.out k h3 T wr (HF0.out.trans HF.out) HW.out (by rw [e3, e1] at hl; simp only [List.length_append] at hl; omega)).mono ?_
          rintro _ _ ⟨rfl, ⟨U, h1, h2⟩, h4⟩
          exact ⟨rfl, ⟨U, by rw [e1]; exact HO.out.trans h1, h2⟩, HF.out.trans h4⟩
        clear HO HW HM HL HH e1 e2 e3 ht
        go_wp2_with fail
        refine L.out.mono ?_
        rintro ev w1 ⟨rfl, rfl⟩
        go_wp2_with fail
        refine E.out.mono ?_
        rintro ev w3 ⟨rfl, p3, p4⟩
        go_wp2_with fail
        go_roundw
        case rel => exact ⟨k + 1, by omega, by go_num, p3, p4⟩
        case measure => simp [intOf]; omega
    · have i1 : ¬ (k : Int) < (ps.length : Int) := by omega
      have HX : Hid (∃ T, Out S ps.flatten T ∧ Wtr C b T n wr) := ⟨T, by have := HO.out; rwa [List.take_of_length_le (by omega)] at this, HW.out⟩
      clear HO HW HM HL HH
      go_wp2_with fail
      go_end0
      exact ⟨rfl, HX.out, HF.out⟩
end Go.Proofs.YtlbhaaldndjigaaGreatDoor
