/-
  The document's Index: its walk.
-/
import Derived.Test.YtmfdmpfeoppnfaaDoorXix
namespace Go.Proofs.YtmfdmpfeoppnfaaDoor
open Go.RowKit

set_option maxHeartbeats 16000000 in
set_option maxRecDepth 20000 in
theorem xindex_any (w : World) (v : Value) (L : List Src) (h : Srs w v L) (hL : L.length ≤ 100000) (hlim : ∀ x ∈ L, x.deps.length ≤ 1000000000) :
    Calls Tryd.prog 14 #[v] w (XiPost w (idxF L)) := by
  obtain ⟨ao, cap, rfl, h1, h2, h3⟩ := h.shape
  have HC := hid0 h3
  have HL : Hid (∀ k, k < L.length → (L.getD k Src.zero).deps.length ≤ 1000000000) := by
    intro k hk
    rw [getD_eq L k _ hk]; exact hlim _ (List.getElem_mem hk)
  have HE := hid0 (fun k (hk : k < L.length) => idxF_err (L := L) hk)
  have HO := hid0 (fun h => idxF_ok (L := L) h)
  have HNm : Hid (∀ k, k < L.length → (L.getD k Src.zero).name = (L.map (·.name)).getD k []) := by
    intro k hk
    rw [getD_eq L k _ hk, getD_eq _ k _ (by simpa using hk)]; simp
  have HNl : Hid ((L.map (·.name)).length = L.length) := by show (L.map (·.name)).length = L.length; simp
  clear h h3 hlim
  generalize L.map (·.name) = N at *
  generalize hfin : idxF L = fin at *
  clear hfin
  go_enter Tryd.func14, Tryd.ntmps14
  go_wp2_with fail
  go_loopw [5, 6] (fun vo vi wr => ∃ (k : Nat) (v : Value), k ≤ L.length ∧ vi = .int .i64 k ∧ vo = v ∧ Ro w.heap.size wr v ((L.take k).map (rowOf N)) ∧ Below w.heap.size w wr ∧ ∀ j, j < k → inAll N (L.getD j Src.zero) = true) (fun _ i _ => L.length - (intOf i).toNat)
  case atStart => exact ⟨0, .slice none 0 0, by omega, rfl, rfl, ⟨[], ⟨rfl, .inl ⟨rfl, rfl⟩⟩, rfl, fun i hi => by simp at hi⟩, Below.refl _ _, fun j hj => by omega⟩
  case round =>
    obtain ⟨k, v, hk, rfl, hv, hR, hB, hJ⟩ := hrel
    have AR := aside0 hR
    have AB := aside0 hB
    have AJ := aside0 hJ
    obtain ⟨va, vc, rfl⟩ : ∃ va vc, v = .slice va ((L.take k).map (rowOf N)).length vc := by
      obtain ⟨V, O, _⟩ := hR.ex
      exact own_slice O
    have hlk : ((L.take k).map (rowOf N)).length = k := by simp; omega
    rw [hlk] at hv
    subst hv
    clear hR hB hJ
    by_cases h3 : k < L.length
    · have l3 : (k : Int) < (L.length : Int) := by omega
      obtain ⟨p, o, dv, rfl, q0, q1, q2, qs⟩ := HC.out k h3
      obtain ⟨da, dc, rfl, hd1, hd2, hdc⟩ := qs.shape
      have AQ1 := aside0 q1
      have ADC := aside0 hdc
      have hl1 := HL.out k h3
      obtain ⟨w0, rfl⟩ : ∃ w0, w0 = wr := ⟨wr, rfl⟩
      have HX : Hid (∀ d ∈ (L.getD k Src.zero).deps, d ∉ N → fin = .error k) := by
        intro d hd hn
        refine HE.out k h3 AJ.out ?_
        unfold inAll
        cases hh : (L.getD k Src.zero).deps.all fun d => decide (d ∈ N)
        · rfl
        · rw [List.all_eq_true] at hh
          have := hh d hd
          simp at this
          exact absurd this hn
      have HY : Hid ((∀ d ∈ (L.getD k Src.zero).deps, d ∈ N) → ∀ j, j < k + 1 → inAll N (L.getD j Src.zero) = true) := by
        intro hall j hj
        rcases Nat.lt_or_ge j k with h | h
        · exact AJ.out j h
        · obtain rfl : j = k := by omega
          unfold inAll
          rw [List.all_eq_true]
          intro d hd
          simpa using hall d hd
      have HZ : Hid (((L.take (k + 1)).map (rowOf N)) = (L.take k).map (rowOf N) ++ [(L.getD k Src.zero).deps.map N.idxOf]) := by
        show _ = _
        rw [List.take_add_one, List.getElem?_eq_getElem h3, List.map_append, getD_eq L k _ h3]; rfl
      clear q0 q1 q2 qs hdc
      generalize (L.getD k Src.zero).deps = ds at *
      go_wp2_with fail
      go_loopw [7, 8] (fun vr vi wx => ∃ (t : Nat) (vv : Value), t ≤ ds.length ∧ vi = .int .i64 t ∧ vr = vv ∧ wx.ownsRow w0.heap.size 3 1 vv ((ds.take t).map N.idxOf).length (nms ((ds.take t).map N.idxOf)) ∧ Below w0.heap.size w0 wx ∧ ∀ d ∈ ds.take t, d ∈ N) (fun _ i _ => ds.length - (intOf i).toNat)
      case atStart => exact ⟨0, .slice none 0 0, by omega, rfl, rfl, ⟨rfl, .inl ⟨rfl, rfl⟩⟩, Below.refl _ _, by simp⟩
      case round =>
        obtain ⟨t, vv, ht, rfl, hvv, hO, hBt, hIn⟩ := hrel
        obtain ⟨ra, rc, rfl⟩ := own_slice hO
        subst hvv
        have AO := aside0 hO
        have ABt := aside0 hBt
        have AIn := aside0 hIn
        have ABw := aside0 (nextB AB.out hBt)
        have c1 := Below.cellOf ABw.out AQ1.out
        clear hO hBt hIn
        by_cases h4 : t < ds.length
        · have l4 : (t : Int) < (ds.length : Int) := by omega
          obtain ⟨pb, po, rfl, q5⟩ := ADC.out t h4
          have AQ5 := aside0 q5
          clear q5
          have hdt : ds.getD t [] ∈ ds := by rw [getD_eq ds t [] h4]; exact List.getElem_mem h4
          have eT : ds.take (t + 1) = ds.take t ++ [ds.getD t []] := by
            rw [List.take_add_one, List.getElem?_eq_getElem h4, getD_eq ds t [] h4]; rfl
          have AT := aside0 eT
          have HX2 := hid0 (HX.out _ hdt)
          clear eT hdt
          obtain ⟨d, hd⟩ : ∃ d, d = ds.getD t [] := ⟨_, rfl⟩
          rw [← hd] at AT HX2 AQ5
          clear hd
          obtain ⟨w1, rfl⟩ : ∃ w1, w1 = wr := ⟨wr, rfl⟩
          go_wp2_with fail
          go_loopw [9, 10] (fun va9 vj wy => ∃ jj : Nat, jj ≤ L.length ∧ vj = .int .i64 ((jj : Int) - 1) ∧ va9 = .int .i64 (atF N d jj) ∧ ∃ q, wy = w1.drewN q) (fun _ j _ => ((intOf j) + 1).toNat)
          case atStart => exact ⟨L.length, by omega, by go_num, by rw [← HNl.out, atF_end], 0, rfl⟩
          case round =>
            obtain ⟨jj, hjj, rfl, rfl, hwq⟩ := hrel
            have HW := aside0 hwq
            clear hwq
            cases jj with
            | zero =>
              have hz := atF_zero N d
              by_cases hin : d ∈ N
              · rw [if_pos hin] at hz
                rw [hz]
                have hIn' : Hid (∀ x ∈ ds.take (t + 1), x ∈ N) := by
                  intro x hx
                  rw [AT.out] at hx
                  rcases List.mem_append.1 hx with hx | hx
                  · exact AIn.out x hx
                  · simp only [List.mem_singleton] at hx; rw [hx]; exact hin
                have eM : (ds.take (t + 1)).map N.idxOf = (ds.take t).map N.idxOf ++ [N.idxOf d] := by rw [AT.out, List.map_append]; rfl
                have AE := aside0 eM
                have hbq := below_drews HW.out
                have hA : Below wr.heap.size wr (wr.alloc (.cells #[.int .i64 ((N.idxOf d : Nat) : Int)] 3)) := (Below.refl _ _).alloc (Nat.le_refl _) _
                have r1 : (wr.alloc (.cells #[.int .i64 ((N.idxOf d : Nat) : Int)] 3)).cell? ⟨wr.heap.size, 0, none⟩ = some (.int .i64 ((N.idxOf d : Nat) : Int)) := (Row.new wr 3 [.int .i64 ((N.idxOf d : Nat) : Int)]).cell 0
                have O1 := own_past' (own_past' AO.out hbq) hA
                have hb0 := nextB ABt.out (nextB hbq hA)
                have hz0 := hb0.size
                have AB0 := aside0 hb0
                have hrl : ((ds.take t).map N.idxOf).length ≤ 10000000000 := by simp; omega
                clear hin hz eM hbq hA hb0
                have hge : (0 : Int) ≤ ((N.idxOf d : Nat) : Int) := by omega
                have hnl : ¬ (((N.idxOf d : Nat) : Int) < 0) := by omega
                generalize N.idxOf d = nx at *
                generalize (ds.take t).map N.idxOf = rr at *
                go_wp2_with (first
                  | (refine app23 (r := rr) rfl _ _ rfl rfl O1 hz0 wr.heap.size 1 nx rfl r1 hrl ?_; intro v' w2 ho2 hb2 hgr; have F1 := aside0 ho2; have F2 := aside0 (AB0.out.trans hb2); clear ho2 hb2 hgr))
                go_roundw
                case rel =>
                  refine ⟨t + 1, _, by omega, by go_num, rfl, ?_, F2.out, hIn'.out⟩
                  rw [AE.out]; exact F1.out
                case measure => simp [intOf]; omega
              · rw [if_neg hin] at hz
                rw [hz]
                have HE2 := hid0 (HX2.out hin)
                clear hin hz
                go_wp2_with fail
                go_ret3
                rw [HE2.out]
                exact ⟨rfl, nextB ABw.out (below_drews HW.out)⟩
            | succ j =>
              have hjl : j < L.length := by omega
              have e1 : (((j + 1 : Nat) : Int) - 1) = (j : Int) := by omega
              rw [e1]
              have hst := atF_step (N := N) (d := d) (k := j) (by rw [HNl.out]; exact hjl)
              rw [← HNm.out j hjl] at hst
              obtain ⟨p', o', dv', e', r0, -⟩ := HC.out j hjl
              cases e'
              have hbq := below_drews HW.out
              have hbw := nextB ABw.out hbq
              have d0 := Below.cellOf hbw r0
              have d1 := Below.cellOf hbq c1
              have d2 := Below.cellOf hbw AQ5.out
              have hbn := str_beq (L.getD j Src.zero).name d
              have lj : (j : Int) < (L.length : Int) := by omega
              have lj0 : (0 : Int) ≤ (j : Int) := by omega
              clear r0 hbq hbw
              by_cases hne : (L.getD j Src.zero).name = d
              · rw [decide_eq_true hne] at hbn
                rw [if_pos hne] at hst
                have HST := aside0 hst
                clear hne hst
                generalize str (L.getD j Src.zero).name = S1 at *
                generalize hSd : str d = S2 at *
                generalize atF N d (j + 1) = ax at *
                clear hSd
                go_wp2_with fail
                go_quiet (fail)
                go_wp2_with fail
                go_roundw
                case rel => exact ⟨j, by omega, by go_num, by rw [HST.out], drews HW.out _⟩
                case measure => simp [intOf]
              · rw [decide_eq_false hne] at hbn
                rw [if_neg hne] at hst
                have HST := aside0 hst
                clear hne hst
                generalize str (L.getD j Src.zero).name = S1 at *
                generalize hSd : str d = S2 at *
                generalize atF N d (j + 1) = ax at *
                clear hSd
                go_wp2_with fail
                go_quiet (fail)
                go_wp2_with fail
                go_roundw
                case rel => exact ⟨j, by omega, by go_num, by rw [HST.out], drews HW.out _⟩
                case measure => simp [intOf]
        · have l4 : ¬ (t : Int) < (ds.length : Int) := by omega
          have et : ds.take t = ds := List.take_of_length_le (by omega)
          have hO := AO.out
          have hIn := AIn.out
          have hT : T3 wr (.slice ra ((ds.take t).map N.idxOf).length rc) ((ds.take t).map N.idxOf) := T3.ofOwn hO (by simp; omega)
          have AET := aside0 et
          rw [et] at hIn
          have hJ2 := aside0 (HY.out hIn)
          obtain ⟨w1, rfl⟩ : ∃ w1, w1 = wr := ⟨wr, rfl⟩
          have hA : Below w1.heap.size w1 (w1.alloc (.cells #[.slice ra ((ds.take t).map N.idxOf).length rc] 23)) := (Below.refl _ _).alloc (Nat.le_refl _) _
          have hRo := AR.out.below (nextB ABt.out hA)
          rw [hlk] at hRo
          have r1 : (w1.alloc (.cells #[.slice ra ((ds.take t).map N.idxOf).length rc] 23)).cell? ⟨w1.heap.size, 0, none⟩ = some (.slice ra ((ds.take t).map N.idxOf).length rc) := (Row.new w1 23 [.slice ra ((ds.take t).map N.idxOf).length rc]).cell 0
          have hT2 := hT.st (St3.of hA)
          have hb0 := nextB ABw.out hA
          have hz0 := hb0.size
          have AB0 := aside0 hb0
          have hrl : ((L.take k).map (rowOf N)).length ≤ 100000000 := by rw [hlk]; omega
          clear hO hIn hT hA hb0 et
          generalize ((ds.take t).map N.idxOf).length = nn at *
          go_wp2_with (first
            | (refine app35 (R := (L.take k).map (rowOf N)) (r := (ds.take t).map N.idxOf) rfl _ _ rfl rfl hRo hz0 w1.heap.size 1 rfl r1 hT2 hrl ?_; intro v' w2 ho2 hb2; have F1 := aside0 ho2; have F2 := aside0 (AB0.out.trans hb2); clear ho2 hb2))
          go_roundw
          case rel =>
            refine ⟨k + 1, _, by omega, by go_num, rfl, ?_, F2.out, hJ2.out⟩
            rw [HZ.out, ← AET.out]
            have h9 := F1.out
            rwa [AET.out] at h9 ⊢
          case measure => simp [intOf]; omega
    · have l3 : ¬ (k : Int) < (L.length : Int) := by omega
      have hfin2 := hid0 (HO.out (fun j hj => AJ.out j (by omega)))
      have et : L.take k = L := List.take_of_length_le (by omega)
      have hRs : Rs wr (.slice va k vc) (L.map (rowOf N)) := by
        have h5 := AR.out.rs (by rw [hlk]; omega)
        rw [hlk, et] at h5
        exact h5
      have ARs := aside0 hRs
      clear hRs et
      go_wp2_with fail
      go_ret3
      rw [hfin2.out]
      exact ⟨_, rfl, ARs.out, AB.out⟩
end Go.Proofs.YtmfdmpfeoppnfaaDoor
