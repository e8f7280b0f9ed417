/-
  The document's head.
-/
import Derived.Test.YtmfdmpfeoppnfaaDoorXwo
import Derived.OwnWalk
namespace Go.Proofs.YtmfdmpfeoppnfaaDoor
open Go.RowKit

/-- What the document's head leaves. -/
def HeadPost (w : World) (r : Option (Bs × List Bs)) (ev : Ending) (w' : World) : Prop :=
  match r with
  | none => ev = .returned (.tuple #[.string ⟨#[]⟩, .slice none 0 0, .bool false]) ∧ Below w.heap.size w w'
  | some x => ∃ dv, ev = .returned (.tuple #[.string (str x.1), dv, .bool true]) ∧ Ss w' dv x.2 ∧ Below w.heap.size w w'
theorem Ss.drop {w : World} {b o n cap : Nat} {D : List Bs} (h : Ss w (.slice (some ⟨b, o, none⟩) D.length cap) D) (hn : n ≤ D.length) : Ss w (.slice (some ⟨b, o + n, none⟩) (D.length - n) (cap - n)) (D.drop n) := by
  obtain ⟨ao', cap', e, h1, h2, h3⟩ := h.shape
  cases e
  have hl : (D.drop n).length = D.length - n := by simp
  refine ⟨_, _, by rw [hl], by omega, by omega, fun i hi => ⟨b, o + n, rfl, ?_⟩⟩
  rw [hl] at hi
  obtain ⟨b', o', e, hc⟩ := h3 (n + i) (by omega)
  cases e
  rw [Nat.add_assoc, hc, getD_eq _ (n + i) _ (by omega), getD_eq _ i _ (by omega), List.getElem_drop]
theorem beq_const {l : Bs} (c : Bs) : ((str l).toList == c) = decide (l = c) := by
  have := str_beq l c
  have e : (str c).toList = c := by unfold str; rw [ByteArray.toList_mk]
  rwa [e] at this
def headR (n : Bs) : List Bs → Option (Bs × List Bs)
  | [] => some (n, [])
  | [_] => none
  | c :: d :: ds => if c = [58] ∧ (d :: ds).all nameB = true then some (n, d :: ds) else none
theorem headWc (e n : Bs) (r : List Bs) : headW (e :: n :: r) = if e = [61, 61] ∧ nameB n = true then headR n r else none := by
  match r with
  | [] => rfl
  | [c] => rfl
  | c :: d :: ds => rfl
set_option maxHeartbeats 8000000 in
set_option maxRecDepth 20000 in
theorem head_any (s : Bs) (hs : s.length ≤ 4194304) (w : World) : Calls Tryd.prog 22 #[.string (str s)] w (HeadPost w (headF s)) := by
  have WO := hid0 (words_any s hs w)
  have HLn : Hid (∀ x ∈ spl s, x.length ≤ 9223372036854775807) := fun x hx => by have := spl_part s x hx; omega
  have hwl := spl_len s
  unfold headF
  generalize str s = S at *
  generalize hW : spl s = W at *
  have AW := aside0 hW
  clear hW
  match W, hwl with
  | [], _ => exact absurd AW.out (spl_ne s)
  | [e], _ =>
    go_enter Tryd.func22, Tryd.ntmps22
    go_wp2_with fail
    refine WO.out.mono ?_
    rintro ev w1 ⟨v, rfl, hS, hb⟩
    obtain ⟨ao, cap, rfl, -⟩ := hS.shape
    clear WO hS
    go_wp2_with fail
    go_ret3
    exact ⟨rfl, hb⟩
  | e :: n :: r, hwl =>
    have be := beq_const (l := e) [61, 61]
    have NA := hid0 (xname_any n (HLn.out n (by simp)))
    have hr0 : ¬ ((r.length : Int) + 1 + 1 < 2) := by omega
    by_cases h1 : e = [61, 61]
    · rw [decide_eq_true h1] at be
      by_cases h2 : nameB n = true
      · rw [h2] at NA
        have hn : Hid (headW (e :: n :: r) = headR n r) := by
          show _ = _
          rw [headWc, if_pos ⟨h1, h2⟩]
        match r, hn with
        | [], hn =>
          have HR : Hid (headW [e, n] = some (n, [])) := hn.out
          have hmn : min (3 : Int) 2 = 2 := by decide
          clear h1 h2
          go_enter Tryd.func22, Tryd.ntmps22
          go_wp2_with fail
          refine WO.out.mono ?_
          rintro ev w1 ⟨v, rfl, hS, hb⟩
          have AS := aside0 hS
          obtain ⟨ao, cap, rfl, hcap, -, hc⟩ := hS.shape
          obtain ⟨pb, po, rfl, c0⟩ := hc 0 (by simp)
          obtain ⟨pb', po', e', c1⟩ := hc 1 (by simp)
          cases e'
          have AB := aside0 hb
          clear WO hS hc hb
          simp only [List.getD, List.getElem?_cons_zero, List.getElem?_cons_succ, Option.getD_some, List.length_cons, Nat.add_zero] at c0 c1 hcap
          generalize str e = SE at *
          go_wp2_with fail
          refine (NA.out w1).mono ?_
          rintro ev w2 ⟨rfl, hb2⟩
          clear NA
          have AB2 := aside0 (nextB AB.out hb2)
          have AS2 := aside0 (AS.out.below hb2)
          have d1 := Below.cellOf hb2 c1
          clear c0 c1 hb2
          go_wp2_with fail
          go_loopw [6] (fun i wr => i = .int .i64 3 ∧ wr = w2) (fun _ _ => 0)
          case atStart => exact ⟨rfl, rfl⟩
          case round =>
            obtain ⟨rfl, rfl⟩ := hrel
            go_wp2_with fail
            go_quiet (fail)
            go_wp2_with fail
            all_goals
              go_ret3
              rw [HR.out]
              exact ⟨_, rfl, Ss.nil _ _ _, below_drewE AB2.out _⟩
        | [c], hn =>
          have HR : Hid (headW [e, n, c] = none) := hn.out
          clear h1 h2
          go_enter Tryd.func22, Tryd.ntmps22
          go_wp2_with fail
          refine WO.out.mono ?_
          rintro ev w1 ⟨v, rfl, hS, hb⟩
          have AS := aside0 hS
          obtain ⟨ao, cap, rfl, hcap, -, hc⟩ := hS.shape
          obtain ⟨pb, po, rfl, c0⟩ := hc 0 (by simp)
          obtain ⟨pb', po', e', c1⟩ := hc 1 (by simp)
          cases e'
          have AB := aside0 hb
          clear WO hS hc hb
          simp only [List.getD, List.getElem?_cons_zero, List.getElem?_cons_succ, Option.getD_some, List.length_cons, Nat.add_zero] at c0 c1 hcap
          generalize str e = SE at *
          go_wp2_with fail
          refine (NA.out w1).mono ?_
          rintro ev w2 ⟨rfl, hb2⟩
          clear NA
          have AB2 := aside0 (nextB AB.out hb2)
          have AS2 := aside0 (AS.out.below hb2)
          have d1 := Below.cellOf hb2 c1
          clear c0 c1 hb2
          go_wp2_with fail
          go_ret3
          rw [HR.out]
          exact ⟨rfl, AB2.out⟩
        | c :: d :: ds, hn =>
          have bc := beq_const (l := c) [58]
          by_cases h3 : c = [58]
          · rw [decide_eq_true h3] at bc
            have HR : Hid (headW (e :: n :: c :: d :: ds) = if (d :: ds).all nameB = true then some (n, d :: ds) else none) := by
              show _ = _
              rw [hn.out]
              rw [headR]
              simp only [h3, true_and]
            have HNm := hid0 (fun (i : Nat) (hi : i < (d :: ds).length) => xname_any ((d :: ds).getD i []) (HLn.out _ (by rw [getD_eq (d :: ds) i [] hi]; exact List.mem_cons_of_mem _ (List.mem_cons_of_mem _ (List.mem_cons_of_mem _ (List.getElem_mem hi))))))
            have hlen2 : (ds.length : Int) + 1 + 1 + 1 + 1 ≠ 3 := by omega
            have hlen5 : ((ds.length : Int) + 1 + 1 + 1 + 1 == 3) = false := by simp; omega
            have hlen3 : (3 : Int) < (ds.length : Int) + 1 + 1 + 1 + 1 := by omega
            have hlen4 : ¬ ((ds.length : Int) + 1 + 1 + 1 + 1 < 2) := by omega
            have hmn : min (3 : Int) ((ds.length : Int) + 1 + 1 + 1 + 1) = 3 := by omega
            simp only [List.length_cons] at hwl
            clear h1 h2 h3
            go_enter Tryd.func22, Tryd.ntmps22
            go_wp2_with fail
            refine WO.out.mono ?_
            rintro ev w1 ⟨v, rfl, hS, hb⟩
            have AS := aside0 hS
            obtain ⟨ao, cap, rfl, hcap, -, hc⟩ := hS.shape
            obtain ⟨pb, po, rfl, c0⟩ := hc 0 (by simp)
            obtain ⟨pb', po', e', c1⟩ := hc 1 (by simp)
            cases e'
            obtain ⟨pb'', po'', e'', c2⟩ := hc 2 (by simp)
            cases e''
            have AB := aside0 hb
            clear WO hS hc hb
            simp only [List.getD, List.getElem?_cons_zero, List.getElem?_cons_succ, Option.getD_some, List.length_cons, Nat.add_zero] at c0 c1 c2 hcap
            generalize str e = SE at *
            generalize str c = SC at *
            go_wp2_with fail
            refine (NA.out w1).mono ?_
            rintro ev w2 ⟨rfl, hb2⟩
            clear NA
            have AB2 := aside0 (nextB AB.out hb2)
            have AS2 := aside0 (AS.out.below hb2)
            have d1 := Below.cellOf hb2 c1
            have d2 := Below.cellOf hb2 c2
            clear c0 c1 c2 hb2
            go_wp2_with fail
            go_loopw [6] (fun i wr => ∃ k : Nat, k ≤ (d :: ds).length ∧ i = .int .i64 ((k + 3 : Nat) : Int) ∧ ((d :: ds).take k).all nameB = true ∧ Below w2.heap.size w2 wr) (fun i _ => ds.length + 4 - (intOf i).toNat)
            case atStart => exact ⟨0, by simp, rfl, by simp, Below.refl _ _⟩
            case round =>
              obtain ⟨k, hk, rfl, hall, hbw⟩ := hrel
              have HA := aside0 hall
              have HW := aside0 hbw
              have e1 := Below.cellOf hbw d1
              clear hall hbw
              have hk' : k ≤ ds.length + 1 := hk
              by_cases h4 : k < ds.length + 1
              · have l4 : (k : Int) + 3 < (ds.length : Int) + 1 + 1 + 1 + 1 := by omega
                obtain ⟨ao3, cap3, e3, -, -, hc3⟩ := AS2.out.shape
                cases e3
                obtain ⟨pb3, po3, e3, q0⟩ := hc3 (k + 3) (by simp; omega)
                cases e3
                have q1 := Below.cellOf HW.out q0
                have eg : (e :: n :: c :: d :: ds).getD (k + 3) [] = (d :: ds).getD k [] := by simp [List.getD]
                rw [eg] at q1
                have NK := hid0 (HNm.out k (by simp; omega) wr)
                have eall : ((d :: ds).take (k + 1)).all nameB = (((d :: ds).take k).all nameB && nameB ((d :: ds).getD k [])) := by
                  have h4' : k < (d :: ds).length := by simp; omega
                  rw [List.take_add_one, List.all_append, List.getElem?_eq_getElem h4', getD_eq (d :: ds) k [] h4']; simp
                have EA := aside0 eall
                have hmem : (d :: ds).getD k [] ∈ d :: ds := by
                  have h4' : k < (d :: ds).length := by simp; omega
                  rw [getD_eq (d :: ds) k [] h4']; exact List.getElem_mem h4'
                have AMm := aside0 hmem
                clear hc3 q0 eg eall hmem
                cases hnb : nameB ((d :: ds).getD k [])
                · rw [hnb] at NK
                  have HF : Hid ((d :: ds).all nameB = false) := by
                    cases hh : (d :: ds).all nameB
                    · rfl
                    · rw [List.all_eq_true] at hh
                      have := hh _ AMm.out
                      rw [hnb] at this; cases this
                  clear hnb
                  generalize str ((d :: ds).getD k []) = SK at *
                  go_wp2_with fail
                  refine NK.out.mono ?_
                  rintro ev w5 ⟨rfl, hb5⟩
                  clear NK
                  go_wp2_with fail
                  go_ret3
                  rw [HR.out, HF.out]
                  exact ⟨rfl, nextB AB2.out (nextB HW.out hb5)⟩
                · rw [hnb] at NK EA
                  clear hnb
                  generalize str ((d :: ds).getD k []) = SK at *
                  go_wp2_with fail
                  refine NK.out.mono ?_
                  rintro ev w5 ⟨rfl, hb5⟩
                  clear NK
                  go_wp2_with fail
                  go_roundw
                  case rel => exact ⟨k + 1, by simp; omega, by go_num, by rw [EA.out, HA.out]; rfl, nextB HW.out hb5⟩
                  case measure => simp [intOf]; omega
              · have l4 : ¬ ((k : Int) + 3 < (ds.length : Int) + 1 + 1 + 1 + 1) := by omega
                have HT : Hid ((d :: ds).all nameB = true) := by
                  have := HA.out
                  rwa [List.take_of_length_le (by simp; omega)] at this
                have HS := hid0 ((AS2.out.below HW.out).drop (n := 3) (by simp))
                go_wp2_with fail
                go_quiet (fail)
                go_wp2_with fail
                go_ret3
                rw [HR.out, HT.out]
                refine ⟨_, rfl, ?_, below_drewE (nextB AB2.out HW.out) _⟩
                have := HS.out.drewN nq
                simpa using this
          · have HR : Hid (headW (e :: n :: c :: d :: ds) = none) := by
              show _ = _
              rw [hn.out]
              rw [headR, if_neg (fun h => h3 h.1)]
            rw [decide_eq_false h3] at bc
            have hlen2 : (ds.length : Int) + 1 + 1 + 1 + 1 ≠ 3 := by omega
            have hlen5 : ((ds.length : Int) + 1 + 1 + 1 + 1 == 3) = false := by simp; omega
            have hlen3 : (3 : Int) < (ds.length : Int) + 1 + 1 + 1 + 1 := by omega
            have hlen4 : ¬ ((ds.length : Int) + 1 + 1 + 1 + 1 < 2) := by omega
            simp only [List.length_cons] at hwl
            clear h1 h2 h3
            go_enter Tryd.func22, Tryd.ntmps22
            go_wp2_with fail
            refine WO.out.mono ?_
            rintro ev w1 ⟨v, rfl, hS, hb⟩
            have AS := aside0 hS
            obtain ⟨ao, cap, rfl, hcap, -, hc⟩ := hS.shape
            obtain ⟨pb, po, rfl, c0⟩ := hc 0 (by simp)
            obtain ⟨pb', po', e', c1⟩ := hc 1 (by simp)
            cases e'
            obtain ⟨pb'', po'', e'', c2⟩ := hc 2 (by simp)
            cases e''
            have AB := aside0 hb
            clear WO hS hc hb
            simp only [List.getD, List.getElem?_cons_zero, List.getElem?_cons_succ, Option.getD_some, List.length_cons, Nat.add_zero] at c0 c1 c2 hcap
            generalize str e = SE at *
            generalize str c = SC at *
            go_wp2_with fail
            refine (NA.out w1).mono ?_
            rintro ev w2 ⟨rfl, hb2⟩
            clear NA
            have AB2 := aside0 (nextB AB.out hb2)
            have AS2 := aside0 (AS.out.below hb2)
            have d1 := Below.cellOf hb2 c1
            have d2 := Below.cellOf hb2 c2
            clear c0 c1 c2 hb2
            go_wp2_with fail
            go_ret3
            rw [HR.out]
            exact ⟨rfl, AB2.out⟩
      · have HR : Hid (headW (e :: n :: r) = none) := by
          show headW (e :: n :: r) = none
          rw [headWc, if_neg (fun h => h2 h.2)]
        have h2' : nameB n = false := by simpa using h2
        rw [h2'] at NA
        clear h1 h2 h2'
        go_enter Tryd.func22, Tryd.ntmps22
        go_wp2_with fail
        refine WO.out.mono ?_
        rintro ev w1 ⟨v, rfl, hS, hb⟩
        have AS := aside0 hS
        obtain ⟨ao, cap, rfl, hcap, -, hc⟩ := hS.shape
        obtain ⟨pb, po, rfl, c0⟩ := hc 0 (by simp)
        obtain ⟨pb', po', e', c1⟩ := hc 1 (by simp)
        cases e'
        have AB := aside0 hb
        clear WO hS hc hb
        simp only [List.getD, List.getElem?_cons_zero, List.getElem?_cons_succ, Option.getD_some, List.length_cons, Nat.add_zero] at c0 c1 hcap
        generalize str e = SE at *
        go_wp2_with fail
        refine (NA.out w1).mono ?_
        rintro ev w2 ⟨rfl, hb2⟩
        clear NA
        go_wp2_with fail
        go_ret3
        rw [HR.out]
        exact ⟨rfl, nextB AB.out hb2⟩
    · have HR : Hid (headW (e :: n :: r) = none) := by
        show headW (e :: n :: r) = none
        rw [headWc, if_neg (fun h => h1 h.1)]
      rw [decide_eq_false h1] at be
      clear h1 NA
      go_enter Tryd.func22, Tryd.ntmps22
      go_wp2_with fail
      refine WO.out.mono ?_
      rintro ev w1 ⟨v, rfl, hS, hb⟩
      have AS := aside0 hS
      obtain ⟨ao, cap, rfl, hcap, -, hc⟩ := hS.shape
      obtain ⟨pb, po, rfl, c0⟩ := hc 0 (by simp)
      obtain ⟨pb', po', e', c1⟩ := hc 1 (by simp)
      cases e'
      have AB := aside0 hb
      clear WO hS hc hb
      simp only [List.getD, List.getElem?_cons_zero, List.getElem?_cons_succ, Option.getD_some, List.length_cons, Nat.add_zero] at c0 c1 hcap
      generalize str e = SE at *
      go_wp2_with fail
      go_ret3
      rw [HR.out]
      exact ⟨rfl, AB.out⟩
end Go.Proofs.YtmfdmpfeoppnfaaDoor
