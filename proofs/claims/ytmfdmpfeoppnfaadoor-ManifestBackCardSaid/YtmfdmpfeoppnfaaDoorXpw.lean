/-
  The document's Parse: its walk.
-/
import Derived.Test.YtmfdmpfeoppnfaaDoorXpa
namespace Go.Proofs.YtmfdmpfeoppnfaaDoor
open Go.RowKit

theorem str_app (a b : Bs) : str a ++ str b = str (a ++ b) := by
  apply ByteArray.ext
  unfold str
  simp
def parR : Except (Nat × Nat) (List Src) → Except (Nat × Nat) (List Src)
  | .error e => .error e
  | .ok cs => if cs = [] then .error (40, 0) else .ok cs
theorem parF_eq (s : Bs) : parF s = if 4194304 < s.length then .error (5, 0) else parR (runF 0 [] (lns s)) := by
  unfold parF parR
  rfl
set_option maxHeartbeats 16000000 in
set_option maxRecDepth 20000 in
theorem xparse_any (w : World) (s : Bs) (hlen : s.length ≤ 9223372036854775807) : Calls Tryd.prog 11 #[.string (str s)] w (XPost w (parF s)) := by
  have hsz := str_size s
  rw [parF_eq]
  by_cases hs : 4194304 < s.length
  · rw [if_pos hs]
    have l1 : (4194304 : Int) < (s.length : Int) := by omega
    generalize str s = S at *
    go_enter Tryd.func11, Tryd.ntmps11
    go_wp2_with fail
    go_ret3
    exact ⟨rfl, Below.refl _ _⟩
  · rw [if_neg hs]
    have l1 : ¬ (4194304 : Int) < (s.length : Int) := by omega
    generalize hrr : runF 0 [] (lns s) = r
    have AR := aside0 hrr
    clear hrr
    generalize hr2 : parR r = r2
    have AR2 := aside0 hr2
    clear hr2
    have HM := hid0 (str_mid s)
    have HAT := hid0 (str_at s)
    obtain ⟨N, hN⟩ : ∃ N, N = s.length := ⟨_, rfl⟩
    have AN := aside0 hN
    rw [← hN] at hs hsz l1 hlen
    clear hN
    go_enter Tryd.func11, Tryd.ntmps11
    go_wp2_with fail
    go_loopw [5, 6] (fun vo vi wr => ∃ (p : Nat) (L : List Src) (v : Value), p ≤ N ∧ vi = .int .i64 p ∧ vo = v ∧ Xo w.heap.size wr v L ∧ Below w.heap.size w wr ∧ L.length ≤ 64 ∧ Lim N p L ∧ runF p L (lns (s.drop p)) = r) (fun _ i _ => N - (intOf i).toNat)
    case atStart => exact ⟨0, [], .slice none 0 0, by omega, rfl, rfl, ⟨[], ⟨rfl, .inl ⟨rfl, rfl⟩⟩, rfl, fun i hi => by simp at hi⟩, Below.refl _ _, by simp, (fun x hx => by simp at hx), AR.out⟩
    case round =>
      obtain ⟨p, L, v, hp, rfl, hv, hX, hB, hL, hLim, hrun⟩ := hrel
      have ALm := aside0 hLim
      have AX := aside0 hX
      have AB := aside0 hB
      have AE := aside0 hrun
      obtain ⟨va, vc, rfl⟩ : ∃ va vc, v = .slice va L.length vc := by
        obtain ⟨V, O, _⟩ := hX.ex
        exact own_slice O
      subst hv
      clear hX hB hrun hLim
      by_cases h3 : p < N
      · have l3 : (p : Int) < (N : Int) := by omega
        have hne : s.drop p ≠ [] := by
          intro e
          have := congrArg List.length e
          have := AN.out
          simp at *
          omega
        obtain ⟨R, hR⟩ : ∃ R, R = s.drop p := ⟨_, rfl⟩
        have hRl : R.length = N - p := by rw [hR, List.length_drop, AN.out]
        have hE := eol_le R
        have hEL := eol_line R
        rw [hRl] at hE hEL
        have hne' : R ≠ [] := by rw [hR]; exact hne
        have HIN : Hid (∀ e, p ≤ e → e < p + eolN R → (s.getD e 0) ≠ 10) := by
          intro e h1 h2
          have := eol_in R (e - p) (by omega)
          rw [hR] at this
          have e2 : (s.drop p).getD (e - p) 0 = s.getD e 0 := by
            simp only [List.getD, List.getElem?_drop]
            congr 2
            omega
          rwa [e2] at this
        have HAE : Hid (p + eolN R < N → s.getD (p + eolN R) 0 = 10) := by
          intro h
          have := eol_at R (by omega)
          rw [hR] at this ⊢
          have e2 : (s.drop p).getD (eolN (s.drop p)) 0 = s.getD (p + eolN (s.drop p)) 0 := by
            simp only [List.getD, List.getElem?_drop]
          rwa [e2] at this
        have AEQ : Aside (runF p L (lns R) = match stepF L (R.take (lineN R)) with
            | .error c => .error (c, p)
            | .ok cs' => runF (p + lineN R) cs' (lns (s.drop (p + lineN R)))) := by
          show _ = _
          have hll : (R.take (lineN R)).length = lineN R := by rw [List.length_take]; have := lineN_le R; omega
          rw [lns_eq R hne', runF, hll, hR, List.drop_drop]
          rfl
        rw [← hR] at AE
        have ASt := aside0 (eol_strip hne')
        have AHd := aside0 (eol_head hne')
        have ANl := aside0 (eol_nil hne')
        have HMl := hid0 (fun (h : True) => HM.out p (p + eolN R))
        have hml := HM.out p (p + eolN R)
        rw [show p + eolN R - p = eolN R by omega, ← hR] at hml
        have hmn := HM.out p (p + lineN R)
        rw [show p + lineN R - p = lineN R by omega, ← hR] at hmn
        have hlz := str_size (R.take (eolN R))
        have hlz2 : (R.take (eolN R)).length = eolN R := by rw [List.length_take]; omega
        rw [hlz2] at hlz
        generalize hen : eolN R = en at *
        have AEN := aside0 hen
        clear hen HMl hne HM hR
        have hnx : min ((p + en : Nat) : Int) (N : Int) = ((p + en : Nat) : Int) := by omega
        go_wp2_with fail
        go_loopw [7] (fun i wx => ∃ e : Nat, p ≤ e ∧ e ≤ p + en ∧ i = .int .i64 e ∧ wx = wr) (fun i _ => N - (intOf i).toNat)
        case atStart => exact ⟨p, by omega, by omega, rfl, rfl⟩
        case round =>
          obtain ⟨e, he1, he2, rfl, rfl⟩ := hrel
          by_cases h4 : e < p + en
          · have hel : e < (str s).size := by rw [hsz]; omega
            have hat := HAT.out e hel
            have hx2 : ((str s)[e]'hel).toNat = (s.getD e 0).toNat := by rw [hat]
            have hc0 := HIN.out e he1 h4
            have hc1 : (((s.getD e 0).toNat : Int) == 10) = false := by
              simp only [beq_eq_false_iff_ne]
              intro e
              exact hc0 (UInt8.toNat_inj.1 (by simpa using Int.ofNat.inj e))
            have hc2 : ((s.getD e 0).toNat : Int) ≠ 10 := by simpa using hc1
            have l5 : (e : Int) < (N : Int) := by omega
            clear hat hc0
            generalize (s.getD e 0).toNat = cc at *
            go_wp2_with fail
            go_roundw
            case rel => exact ⟨e + 1, by omega, by omega, by go_num, by trivial⟩
            case measure => simp [intOf]; omega
          · by_cases hx : e < N
            · have hel : e < (str s).size := by rw [hsz]; exact hx
              have hat := HAT.out e hel
              have hx2 : ((str s)[e]'hel).toNat = (s.getD e 0).toNat := by rw [hat]
              have hc0 : s.getD e 0 = 10 := by
                have he' : e = p + en := by omega
                rw [he']; exact HAE.out (by omega)
              have hc1 : (((s.getD e 0).toNat : Int) == 10) = true := by rw [hc0]; rfl
              have hc3 : (s.getD e 0).toNat = 10 := by rw [hc0]; rfl
              have l5 : (e : Int) < (N : Int) := by omega
              clear hat hc0
              generalize (s.getD e 0).toNat = cc at *
              have hee : p + en = e := by omega
              rw [hee] at hml
              obtain ⟨nx, hnx⟩ : ∃ nx, nx = p + lineN R := ⟨_, rfl⟩
              have ANX : Aside (p + lineN R = nx) := hnx.symm
              rw [← hnx] at hmn
              have hn1 : min ((e : Int) + 1) (N : Int) = (nx : Int) := by omega
              have hn2 : p < nx := by omega
              have hn3 : nx ≤ N := by omega
              have le1 : (p : Int) ≤ (e : Int) := by omega
              have le2 : (e : Int) ≤ (N : Int) := by omega
              have le3 : (p : Int) ≤ (nx : Int) := by omega
              have le4 : (nx : Int) ≤ (N : Int) := by omega
              have hto := str_to (R.take en) 2
              have hbq := beq_const (l := (R.take en).take 2) [61, 61]
              have hSLq : ((str (R.take en)).toList == []) = decide (R.take en = []) := beq_const []
              have HHA := hid0 (head_any (R.take en) (by rw [hlz2]; omega))
              have AHd2 := AHd.out
              rw [hlz2] at AHd2
              have ALl := aside0 hlz2
              generalize hlnn : R.take en = ln at *
              clear hlnn hlz2 hnx hEL
              by_cases hA : en < 2
              · have hA1 : (en : Int) < 2 := by omega
                have hhd : isHd (R.take (lineN R)) = false := by
                  rw [AHd2]; simp; omega
                generalize str (ln.take 2) = SB2 at *
                generalize str ln = SL at *
                clear HHA hbq hto hA
                have hsf : stepF L (R.take (lineN R)) = if L = [] then (if R.take (lineN R) = [10] then .ok [] else .error 40) else .ok (addL L (R.take (lineN R))) := by
                  unfold stepF
                  rw [hhd]
                  rfl
                have ASF := aside0 hsf
                have ALS : Aside (∀ L', stepF L (R.take (lineN R)) = .ok L' → Lim N nx L') := by
                  intro L' h
                  have hll : (R.take (lineN R)).length = lineN R := by rw [List.length_take]; have := lineN_le R; omega
                  have := ALm.out.step (by rw [hll]; have := lineN_le R; omega) h
                  rwa [hll, ANX.out] at this
                clear hsf hhd
                by_cases h0 : L = []
                · have l0 : ((L.length : Int) == 0) = true := by rw [h0]; rfl
                  by_cases hl0 : ln = []
                  · have hbl : (SL.toList == []) = true := by rw [hSLq, hl0]; rfl
                    have HRn : Hid (r = runF nx L (lns (s.drop nx))) := by
                      show _ = _
                      rw [← AE.out, AEQ.out, ASF.out, if_pos h0, if_pos (ANl.out.2 hl0), ANX.out, h0]
                    have HLm : Hid (Lim N nx L) := by
                      have := ALS.out L (by rw [ASF.out, if_pos h0, if_pos (ANl.out.2 hl0), h0])
                      exact this
                    clear hl0 h0 hSLq
                    go_wp2_with fail
                    go_roundw
                    case rel => exact ⟨nx, L, _, by omega, rfl, rfl, AX.out, AB.out, hL, HLm.out, HRn.out.symm⟩
                    case measure => simp [intOf]; omega
                  · have hbl : (SL.toList == []) = false := by rw [hSLq]; simpa using hl0
                    have HRn : Hid (r = .error (40, p)) := by
                      show _ = _
                      rw [← AE.out, AEQ.out, ASF.out, if_pos h0, if_neg (fun e => hl0 (ANl.out.1 e))]
                    clear hl0 h0 hSLq
                    go_wp2_with fail
                    go_ret3
                    rw [← AR2.out, HRn.out]
                    exact ⟨rfl, AB.out⟩
                · have l0 : ((L.length : Int) == 0) = false := by
                    have : L.length ≠ 0 := fun e => h0 (List.eq_nil_of_length_eq_zero e)
                    simp; omega
                  have HRn : Hid (r = runF nx (addL L (R.take (lineN R))) (lns (s.drop nx))) := by
                    show _ = _
                    rw [← AE.out, AEQ.out, ASF.out, if_neg h0, ANX.out]
                  obtain ⟨L0, x, rfl⟩ : ∃ L0 x, L = L0 ++ [x] := ⟨L.dropLast, L.getLast h0, (List.dropLast_concat_getLast h0).symm⟩
                  obtain ⟨g, cap, e5, ct, fz, hBg, hXn⟩ := AX.out.text (R.take (lineN R))
                  simp only [List.length_append, List.length_singleton, Value.slice.injEq] at e5
                  obtain ⟨rfl, -, rfl⟩ := e5
                  have hcat := str_app x.text (R.take (lineN R))
                  have hLL : (L0 ++ [x]).length = L0.length + 1 := by simp
                  rw [hLL] at hXn ⊢
                  have AXN := aside0 hXn
                  have hL' : L0.length ≤ 64 := by simp at hL; omega
                  simp only [List.length_append, List.length_singleton] at l0 hL
                  have HLm : Hid (Lim N nx (addL (L0 ++ [x]) (R.take (lineN R)))) := ALS.out _ (by rw [ASF.out, if_neg h0])
                  have hxt : x.text.length ≤ p := (ALm.out x (by simp)).2.2
                  have hzt := str_size x.text
                  have hzr := str_size (R.take (lineN R))
                  have hzl : (R.take (lineN R)).length ≤ N := by rw [List.length_take]; omega
                  have hLn : (addL (L0 ++ [x]) (R.take (lineN R))).length ≤ 64 := by rw [addL_len]; simp; omega
                  have hw1 : IntKind.i64.wrap ((L0.length : Int) + 1 - 1) = (L0.length : Int) := by rw [IntKind.wrap_i64]; omega
                  have hw2 : (0 : Int) ≤ (L0.length : Int) := by omega
                  have hw4 : IntKind.i64.wrap (L0.length : Int) = (L0.length : Int) := by rw [IntKind.wrap_i64]; omega
                  have hw3 : (L0.length : Int) < (L0.length : Int) + 1 := by omega
                  clear h0 hXn hSLq
                  generalize str (R.take (lineN R)) = SR at *
                  generalize str (x.text ++ R.take (lineN R)) = SX at *
                  generalize str x.text = ST at *
                  generalize x.text.length = tl at *
                  generalize (R.take (lineN R)).length = rl at *
                  have hti : (tl : Int) ≤ 4194304 := by omega
                  have hri : (rl : Int) ≤ 4194304 := by omega
                  have hsum : (tl : Int) + (rl : Int) ≤ 9223372036854775807 := by omega
                  have hsum2 : tl + rl ≤ 9223372036854775807 := by omega
                  go_wp2_with fail
                  go_region_with (fail)
                  all_goals
                    go_wp2_with fail
                    go_roundw
                    case rel => exact ⟨nx, _, _, by omega, rfl, rfl, AXN.out.below (Below.refl _ _).drew, (AB.out.setCell (p := ⟨_, _, none⟩) hBg _).drew, hLn, HLm.out, HRn.out.symm⟩
                    case measure => simp [intOf]; omega
              · have hA1 : ¬ (en : Int) < 2 := by omega
                by_cases hT : ln.take 2 = [61, 61]
                · have hhd : isHd (R.take (lineN R)) = true := by
                    rw [AHd2]; simp [hT]; omega
                  rw [decide_eq_true hT] at hbq
                  have hsn : headF (stripN (R.take (lineN R))) = headF ln := by rw [ASt.out]
                  have hsf : stepF L (R.take (lineN R)) = match headF ln with
                      | none => .error 40
                      | some (n, ds) => if 64 ≤ L.length ∨ 64 < ds.length then .error 5 else if n ∈ L.map (·.name) ∨ ¬ (n :: ds).Nodup then .error 23 else .ok (L ++ [⟨n, ds, []⟩]) := by
                    unfold stepF
                    rw [hhd, if_pos rfl, hsn]
                    rfl
                  have ALS : Aside (∀ L', stepF L (R.take (lineN R)) = .ok L' → Lim N nx L') := by
                    intro L' h
                    have hll : (R.take (lineN R)).length = lineN R := by rw [List.length_take]; have := lineN_le R; omega
                    have := ALm.out.step (by rw [hll]; have := lineN_le R; omega) h
                    rwa [hll, ANX.out] at this
                  clear hsn hhd hT hSLq
                  generalize str (ln.take 2) = SB2 at *
                  cases hf : headF ln with
                  | none =>
                    rw [hf] at hsf
                    have HRn : Hid (r = .error (40, p)) := by
                      show _ = _
                      rw [← AE.out, AEQ.out, hsf]
                    have HHB := hid0 (HHA.out wr)
                    rw [hf] at HHB
                    clear hf hsf HHA
                    generalize str ln = SL at *
                    go_wp2_with fail
                    refine HHB.out.mono ?_
                    rintro ev w2 ⟨rfl, hb2⟩
                    go_wp2_with fail
                    go_ret3
                    rw [← AR2.out, HRn.out]
                    exact ⟨rfl, nextB AB.out hb2⟩
                  | some nd =>
                    obtain ⟨n, ds⟩ := nd
                    rw [hf] at hsf
                    simp only at hsf
                    have HHB := hid0 (HHA.out wr)
                    rw [hf] at HHB
                    have ASF := aside0 hsf
                    clear hf hsf HHA
                    by_cases h6 : 64 ≤ L.length
                    · have l6 : (64 : Int) ≤ (L.length : Int) := by omega
                      have HRn : Hid (r = .error (5, p)) := by
                        show _ = _
                        rw [← AE.out, AEQ.out, ASF.out, if_pos (.inl h6)]
                      generalize str ln = SL at *
                      go_wp2_with fail
                      refine HHB.out.mono ?_
                      rintro ev w2 ⟨dv, rfl, hS2, hb2⟩
                      obtain ⟨da, dc, rfl, -⟩ := hS2.shape
                      go_wp2_with fail
                      go_ret3
                      rw [← AR2.out, HRn.out]
                      exact ⟨rfl, nextB AB.out hb2⟩
                    have l6 : ¬ (64 : Int) ≤ (L.length : Int) := by omega
                    by_cases h7 : 64 < ds.length
                    · have l7 : (64 : Int) < (ds.length : Int) := by omega
                      have HRn : Hid (r = .error (5, p)) := by
                        show _ = _
                        rw [← AE.out, AEQ.out, ASF.out, if_pos (.inr h7)]
                      generalize str ln = SL at *
                      go_wp2_with fail
                      refine HHB.out.mono ?_
                      rintro ev w2 ⟨dv, rfl, hS2, hb2⟩
                      obtain ⟨da, dc, rfl, -⟩ := hS2.shape
                      go_wp2_with fail
                      go_ret3
                      rw [← AR2.out, HRn.out]
                      exact ⟨rfl, nextB AB.out hb2⟩
                    have l7 : ¬ (64 : Int) < (ds.length : Int) := by omega
                    have AT : Aside ((n ∈ L.map (·.name) ∨ ¬ (n :: ds).Nodup) → r = .error (23, p)) := by
                      intro h
                      rw [← AE.out, AEQ.out, ASF.out, if_neg (by omega), if_pos h]
                    have AO : Aside (¬ (n ∈ L.map (·.name) ∨ ¬ (n :: ds).Nodup) → r = runF nx (L ++ [⟨n, ds, []⟩]) (lns (s.drop nx)) ∧ Lim N nx (L ++ [⟨n, ds, []⟩])) := by
                      intro h
                      refine ⟨?_, ALS.out _ (by rw [ASF.out, if_neg (by omega), if_neg h])⟩
                      rw [← AE.out, AEQ.out, ASF.out, if_neg (by omega), if_neg h, ANX.out]
                    generalize str ln = SL at *
                    go_wp2_with fail
                    refine HHB.out.mono ?_
                    rintro ev w2 ⟨dv, rfl, hS2, hb2⟩
                    have AS2 := aside0 hS2
                    obtain ⟨da, dc, rfl, hd1, hd2, hdc⟩ := hS2.shape
                    have ADC := aside0 hdc
                    have AX2 := aside0 (AX.out.below hb2)
                    have AB2 := aside0 (nextB AB.out hb2)
                    have ASr := aside0 ((AX2.out.srs (by omega)).shape)
                    clear HHB hS2 hb2 hdc
                    simp only at hd1 hd2 ⊢
                    go_wp2_with fail
                    go_loopw [13] (fun i wx => ∃ k : Nat, k ≤ L.length ∧ i = .int .i64 k ∧ (∀ j, j < k → (L.getD j Src.zero).name ≠ n) ∧ wx = w2) (fun i _ => L.length - (intOf i).toNat)
                    case atStart => exact ⟨0, by omega, rfl, fun j hj => by omega, rfl⟩
                    case round =>
                      obtain ⟨k, hk, rfl, hj, rfl⟩ := hrel
                      have HJ := aside0 hj
                      clear hj
                      by_cases h8 : k < L.length
                      · have l8 : (k : Int) < (L.length : Int) := by omega
                        obtain ⟨ao5, cap5, e5, -, -, hc5⟩ := ASr.out
                        cases e5
                        obtain ⟨b5, o5, dv5, rfl, q0, -⟩ := hc5 k h8
                        have hbn := str_beq (L.getD k Src.zero).name n
                        clear hc5
                        by_cases hne : (L.getD k Src.zero).name = n
                        · rw [decide_eq_true hne] at hbn
                          have HRn : Hid (r = .error (23, p)) := AT.out (.inl (List.mem_map.2 ⟨_, List.getElem_mem h8, by rw [← getD_eq L k Src.zero h8]; exact hne⟩))
                          clear hne
                          generalize str (L.getD k Src.zero).name = S1 at *
                          go_wp2_with fail
                          go_ret3
                          rw [← AR2.out, HRn.out]
                          exact ⟨rfl, AB2.out⟩
                        · have HP : Hid (∀ j, j < k + 1 → (L.getD j Src.zero).name ≠ n) := by
                            intro j hj
                            rcases Nat.lt_or_ge j k with h | h
                            · exact HJ.out j h
                            · obtain rfl : j = k := by omega
                              exact hne
                          rw [decide_eq_false hne] at hbn
                          clear hne
                          generalize str (L.getD k Src.zero).name = S1 at *
                          go_wp2_with fail
                          go_roundw
                          case rel => exact ⟨k + 1, by omega, by go_num, HP.out, by trivial⟩
                          case measure => simp [intOf]; omega
                      · have l8 : ¬ (k : Int) < (L.length : Int) := by omega
                        have HNM : Hid (n ∉ L.map (·.name)) := by
                          intro hm
                          obtain ⟨x, hx, e⟩ := List.mem_map.1 hm
                          obtain ⟨j, hj, ej⟩ := List.getElem_of_mem hx
                          exact HJ.out j (by omega) (by rw [getD_eq L j _ hj, ej]; exact e)
                        obtain ⟨w2, rfl⟩ : ∃ w2, w2 = wr := ⟨wr, rfl⟩
                        go_wp2_with fail
                        go_loopw [14] (fun i wy => ∃ t : Nat, t ≤ ds.length ∧ i = .int .i64 t ∧ (ds.take t).Nodup ∧ n ∉ ds.take t ∧ ∃ q, wy = w2.drewN q) (fun i _ => ds.length - (intOf i).toNat)
                        case atStart => exact ⟨0, by omega, rfl, by simp, by simp, 0, rfl⟩
                        case round =>
                          obtain ⟨t, ht, rfl, hnd, hni, hwq⟩ := hrel
                          have HND := aside0 hnd
                          have HNI := aside0 hni
                          have HWQ := aside0 hwq
                          clear hnd hni hwq
                          by_cases h9 : t < ds.length
                          · have l9 : (t : Int) < (ds.length : Int) := by omega
                            go_wp2_with fail
                            go_loopw [15] (fun i wz => ∃ u : Nat, u ≤ t ∧ i = .int .i64 u ∧ (∀ j, j < u → ds.getD j [] ≠ ds.getD t []) ∧ ∃ q, wz = w2.drewN q) (fun i _ => t - (intOf i).toNat)
                            case atStart => exact ⟨0, by omega, rfl, fun j hj => by omega, HWQ.out⟩
                            case round =>
                              obtain ⟨u, hu, rfl, hju, hwz⟩ := hrel
                              have HJU := aside0 hju
                              have HWZ := aside0 hwz
                              clear hju hwz
                              obtain ⟨pb, po, rfl, q1⟩ := ADC.out t h9
                              have d1 : wr.cell? ⟨pb, po + t, none⟩ = some (.string (str (ds.getD t []))) := by obtain ⟨_, e⟩ := HWZ.out; rw [e]; exact q1
                              by_cases h10 : u < t
                              · have l10 : (u : Int) < (t : Int) := by omega
                                have l11 : (u : Int) < (ds.length : Int) := by omega
                                obtain ⟨pb', po', e', q2⟩ := ADC.out u (by omega)
                                cases e'
                                have d2 : wr.cell? ⟨pb, po + u, none⟩ = some (.string (str (ds.getD u []))) := by obtain ⟨_, e⟩ := HWZ.out; rw [e]; exact q2
                                have hbn := str_beq (ds.getD t []) (ds.getD u [])
                                clear q1 q2
                                by_cases hne : ds.getD t [] = ds.getD u []
                                · rw [decide_eq_true hne] at hbn
                                  have HRn : Hid (r = .error (23, p)) := AT.out (.inr (fun hnd => by
                                    have h1 := (List.nodup_cons.1 hnd).2
                                    have := (nodup_take (D := ds) (k := t) h9).1 (h1.sublist (List.take_sublist _ _))
                                    apply this.2
                                    rw [hne, getD_eq ds u [] (by omega), ← List.getElem_take (j := t) (h := by simp; omega)]
                                    exact List.getElem_mem _))
                                  clear hne
                                  generalize str (ds.getD t []) = S1 at *
                                  generalize str (ds.getD u []) = S2 at *
                                  go_wp2_with fail
                                  go_quiet (fail)
                                  go_wp2_with fail
                                  go_ret3
                                  rw [← AR2.out, HRn.out]
                                  exact ⟨rfl, nextB AB2.out (below_drews (drews HWZ.out _))⟩
                                · have HP : Hid (∀ j, j < u + 1 → ds.getD j [] ≠ ds.getD t []) := by
                                    intro j hj
                                    rcases Nat.lt_or_ge j u with h | h
                                    · exact HJU.out j h
                                    · obtain rfl : j = u := by omega
                                      exact fun e => hne e.symm
                                  rw [decide_eq_false hne] at hbn
                                  clear hne
                                  generalize hS1 : str (ds.getD t []) = S1 at *
                                  generalize str (ds.getD u []) = S2 at *
                                  clear hS1
                                  go_wp2_with fail
                                  go_quiet (fail)
                                  go_wp2_with fail
                                  go_roundw
                                  case rel => exact ⟨u + 1, by omega, by go_num, HP.out, drews HWZ.out _⟩
                                  case measure => simp [intOf]; omega
                              · have l10 : ¬ (u : Int) < (t : Int) := by omega
                                have HNT : Hid (ds.getD t [] ∉ ds.take t) := by
                                  intro hm
                                  obtain ⟨j, hj, ej⟩ := List.getElem_of_mem hm
                                  have hj' : j < t := by simp at hj; omega
                                  rw [List.getElem_take] at ej
                                  exact HJU.out j (by omega) (by rw [getD_eq ds j [] (by omega)]; exact ej)
                                have hbn := str_beq (ds.getD t []) n
                                clear q1
                                by_cases hne : ds.getD t [] = n
                                · rw [decide_eq_true hne] at hbn
                                  have HRn : Hid (r = .error (23, p)) := AT.out (.inr (fun hnd => (List.nodup_cons.1 hnd).1 (by rw [← hne, getD_eq ds t [] h9]; exact List.getElem_mem h9)))
                                  clear hne
                                  generalize str (ds.getD t []) = S1 at *
                                  go_wp2_with fail
                                  go_ret3
                                  rw [← AR2.out, HRn.out]
                                  exact ⟨rfl, nextB AB2.out (below_drews HWZ.out)⟩
                                · have HP1 : Hid ((ds.take (t + 1)).Nodup) := (nodup_take (D := ds) (k := t) h9).2 ⟨HND.out, HNT.out⟩
                                  have HP2 : Hid (n ∉ ds.take (t + 1)) := by
                                    intro hm
                                    rw [List.take_add_one, List.getElem?_eq_getElem h9] at hm
                                    rcases List.mem_append.1 hm with hm | hm
                                    · exact HNI.out hm
                                    · simp at hm
                                      exact hne (by rw [getD_eq ds t [] h9]; exact hm.symm)
                                  rw [decide_eq_false hne] at hbn
                                  clear hne
                                  generalize str (ds.getD t []) = S1 at *
                                  go_wp2_with fail
                                  go_roundw
                                  case rel => exact ⟨t + 1, by omega, by go_num, HP1.out, HP2.out, HWZ.out⟩
                                  case measure => simp [intOf]; omega
                          · have l9 : ¬ (t : Int) < (ds.length : Int) := by omega
                            have et : ds.take t = ds := List.take_of_length_le (by omega)
                            have hnd := HND.out
                            have hni := HNI.out
                            rw [et] at hnd hni
                            obtain ⟨o1, o2⟩ := AO.out (fun h => by
                              rcases h with h | h
                              · exact HNM.out h
                              · exact h (List.nodup_cons.2 ⟨hni, hnd⟩))
                            have ARn := aside0 o1
                            have ALn := aside0 o2
                            have hbw := below_drews HWQ.out
                            obtain ⟨V, O, hV, hVs⟩ := (AX2.out.below hbw).ex
                            have ADs := AS2.out.below hbw
                            have ABw := aside0 (nextB AB2.out hbw)
                            clear hnd hni o1 o2 et hbw
                            have hA1 : Below wr.heap.size wr (wr.alloc (.cells #[] 9)) := (Below.refl _ _).alloc (Nat.le_refl _) _
                            have OD : (wr.alloc (.cells #[] 9)).ownsRow wr.heap.size 9 1 (.slice (some ⟨wr.heap.size, 0, none⟩) 0 0) ([] : List Bs).length (sts []) := World.ownsRow_made wr #[] 0 (Nat.le_refl _) (by decide) rfl
                            have SD := ADs.below hA1
                            have hz1 := hA1.size
                            have HWF : Hid (∀ v7 w7, w7.ownsRow wr.heap.size 9 1 v7 ([] ++ ds).length (sts ([] ++ ds)) → Below wr.heap.size (wr.alloc (.cells #[] 9)) w7 → v7.oneCell' = true ∧ T9 (w7.alloc (.cells #[.string (str n), v7, .string ⟨#[]⟩] 43)) v7 ds ∧ (w7.alloc (.cells #[.string (str n), v7, .string ⟨#[]⟩] 43)).ownsRow w.heap.size 43 3 (.slice va L.length vc) L.length (svs L V) ∧ Below wr.heap.size wr (w7.alloc (.cells #[.string (str n), v7, .string ⟨#[]⟩] 43)) ∧ w.heap.size ≤ (w7.alloc (.cells #[.string (str n), v7, .string ⟨#[]⟩] 43)).heap.size ∧ (w7.alloc (.cells #[.string (str n), v7, .string ⟨#[]⟩] 43)).rangeAt w7.heap.size 0 [.string (str n), v7, .string ⟨#[]⟩]) := by
                              intro v7 w7 ho hb
                              have b7 : Below wr.heap.size wr w7 := hA1.trans hb
                              have hA7 : Below w7.heap.size w7 (w7.alloc (.cells #[.string (str n), v7, .string ⟨#[]⟩] 43)) := (Below.refl _ _).alloc (Nat.le_refl _) _
                              have b8 := nextB b7 hA7
                              obtain ⟨va7, vc7, e7⟩ := own_slice ho
                              refine ⟨by rw [e7]; rfl, ?_, own_past' O b8, b8, Nat.le_trans ABw.out.size b8.size, (Row.new w7 43 _).range⟩
                              exact (T9.ofOwn (by simpa using ho) (by omega)).st (St9.of hA7)
                            have AW := aside0 HWF.out
                            go_wp2_with (first
                              | (refine app22 (A := []) (D := ds) rfl _ _ rfl rfl OD hz1 rfl SD (by simp; omega) ?_; intro v7 w7 ho7 hb7; obtain ⟨g1, g2, g3, g4, g5, g6⟩ := HWF.out v7 w7 ho7 hb7; have A2 := aside0 g2; have A3 := aside0 g3; have A4 := aside0 g4; obtain ⟨va7, vc7, rfl⟩ := own_slice ho7; clear g2 g4 ho7 hb7)
                              | (refine build43 rfl _ rfl (.string (str n)) _ (.string ⟨#[]⟩) rfl ?_)
                              | (refine app43 (L := L) (V := V) rfl _ _ rfl rfl g3 hV g5 w7.heap.size 1 ⟨n, ds, []⟩ _ g1 rfl g6 (by omega) ?_; intro v8 w8 ho8 hb8 hg8; have AF := aside0 (Xo.next (St9.of A4.out) O hV hVs A4.out A2.out hg8 ho8); have AG := aside0 (ABw.out.trans ((A4.out.mono ABw.out.size).trans hb8)); clear ho8 hb8 hg8))
                            go_roundw
                            case rel => exact ⟨nx, _, _, by omega, rfl, rfl, AF.out, AG.out, by simp; omega, ALn.out, ARn.out.symm⟩
                            case measure => simp [intOf]; omega
                · have hhd : isHd (R.take (lineN R)) = false := by
                    rw [AHd2]; simp [hT]
                  rw [decide_eq_false hT] at hbq
                  generalize str (ln.take 2) = SB2 at *
                  generalize str ln = SL at *
                  clear HHA hT
                  have hsf : stepF L (R.take (lineN R)) = if L = [] then (if R.take (lineN R) = [10] then .ok [] else .error 40) else .ok (addL L (R.take (lineN R))) := by
                    unfold stepF
                    rw [hhd]
                    rfl
                  have ASF := aside0 hsf
                  have ALS : Aside (∀ L', stepF L (R.take (lineN R)) = .ok L' → Lim N nx L') := by
                    intro L' h
                    have hll : (R.take (lineN R)).length = lineN R := by rw [List.length_take]; have := lineN_le R; omega
                    have := ALm.out.step (by rw [hll]; have := lineN_le R; omega) h
                    rwa [hll, ANX.out] at this
                  clear hsf hhd
                  by_cases h0 : L = []
                  · have l0 : ((L.length : Int) == 0) = true := by rw [h0]; rfl
                    by_cases hl0 : ln = []
                    · have hbl : (SL.toList == []) = true := by rw [hSLq, hl0]; rfl
                      have HRn : Hid (r = runF nx L (lns (s.drop nx))) := by
                        show _ = _
                        rw [← AE.out, AEQ.out, ASF.out, if_pos h0, if_pos (ANl.out.2 hl0), ANX.out, h0]
                      have HLm : Hid (Lim N nx L) := by
                        have := ALS.out L (by rw [ASF.out, if_pos h0, if_pos (ANl.out.2 hl0), h0])
                        exact this
                      clear hl0 h0 hSLq
                      go_wp2_with fail
                      go_roundw
                      case rel => exact ⟨nx, L, _, by omega, rfl, rfl, AX.out, AB.out, hL, HLm.out, HRn.out.symm⟩
                      case measure => simp [intOf]; omega
                    · have hbl : (SL.toList == []) = false := by rw [hSLq]; simpa using hl0
                      have HRn : Hid (r = .error (40, p)) := by
                        show _ = _
                        rw [← AE.out, AEQ.out, ASF.out, if_pos h0, if_neg (fun e => hl0 (ANl.out.1 e))]
                      clear hl0 h0 hSLq
                      go_wp2_with fail
                      go_ret3
                      rw [← AR2.out, HRn.out]
                      exact ⟨rfl, AB.out⟩
                  · have l0 : ((L.length : Int) == 0) = false := by
                      have : L.length ≠ 0 := fun e => h0 (List.eq_nil_of_length_eq_zero e)
                      simp; omega
                    have HRn : Hid (r = runF nx (addL L (R.take (lineN R))) (lns (s.drop nx))) := by
                      show _ = _
                      rw [← AE.out, AEQ.out, ASF.out, if_neg h0, ANX.out]
                    obtain ⟨L0, x, rfl⟩ : ∃ L0 x, L = L0 ++ [x] := ⟨L.dropLast, L.getLast h0, (List.dropLast_concat_getLast h0).symm⟩
                    obtain ⟨g, cap, e5, ct, fz, hBg, hXn⟩ := AX.out.text (R.take (lineN R))
                    simp only [List.length_append, List.length_singleton, Value.slice.injEq] at e5
                    obtain ⟨rfl, -, rfl⟩ := e5
                    have hcat := str_app x.text (R.take (lineN R))
                    have hLL : (L0 ++ [x]).length = L0.length + 1 := by simp
                    rw [hLL] at hXn ⊢
                    have AXN := aside0 hXn
                    have hL' : L0.length ≤ 64 := by simp at hL; omega
                    simp only [List.length_append, List.length_singleton] at l0 hL
                    have HLm : Hid (Lim N nx (addL (L0 ++ [x]) (R.take (lineN R)))) := ALS.out _ (by rw [ASF.out, if_neg h0])
                    have hxt : x.text.length ≤ p := (ALm.out x (by simp)).2.2
                    have hzt := str_size x.text
                    have hzr := str_size (R.take (lineN R))
                    have hzl : (R.take (lineN R)).length ≤ N := by rw [List.length_take]; omega
                    have hLn : (addL (L0 ++ [x]) (R.take (lineN R))).length ≤ 64 := by rw [addL_len]; simp; omega
                    have hw1 : IntKind.i64.wrap ((L0.length : Int) + 1 - 1) = (L0.length : Int) := by rw [IntKind.wrap_i64]; omega
                    have hw2 : (0 : Int) ≤ (L0.length : Int) := by omega
                    have hw4 : IntKind.i64.wrap (L0.length : Int) = (L0.length : Int) := by rw [IntKind.wrap_i64]; omega
                    have hw3 : (L0.length : Int) < (L0.length : Int) + 1 := by omega
                    clear h0 hXn hSLq
                    generalize str (R.take (lineN R)) = SR at *
                    generalize str (x.text ++ R.take (lineN R)) = SX at *
                    generalize str x.text = ST at *
                    generalize x.text.length = tl at *
                    generalize (R.take (lineN R)).length = rl at *
                    have hti : (tl : Int) ≤ 4194304 := by omega
                    have hri : (rl : Int) ≤ 4194304 := by omega
                    have hsum : (tl : Int) + (rl : Int) ≤ 9223372036854775807 := by omega
                    have hsum2 : tl + rl ≤ 9223372036854775807 := by omega
                    go_wp2_with fail
                    go_region_with (fail)
                    all_goals
                      go_wp2_with fail
                      go_roundw
                      case rel => exact ⟨nx, _, _, by omega, rfl, rfl, AXN.out.below (Below.refl _ _).drew, (AB.out.setCell (p := ⟨_, _, none⟩) hBg _).drew, hLn, HLm.out, HRn.out.symm⟩
                      case measure => simp [intOf]; omega
            · have l5 : ¬ (e : Int) < (N : Int) := by omega
              have hee : p + en = e := by omega
              rw [hee] at hml
              obtain ⟨nx, hnx⟩ : ∃ nx, nx = p + lineN R := ⟨_, rfl⟩
              have ANX : Aside (p + lineN R = nx) := hnx.symm
              rw [← hnx] at hmn
              have hn1 : min ((e : Int) + 1) (N : Int) = (nx : Int) := by omega
              have hn2 : p < nx := by omega
              have hn3 : nx ≤ N := by omega
              have le1 : (p : Int) ≤ (e : Int) := by omega
              have le2 : (e : Int) ≤ (N : Int) := by omega
              have le3 : (p : Int) ≤ (nx : Int) := by omega
              have le4 : (nx : Int) ≤ (N : Int) := by omega
              have hto := str_to (R.take en) 2
              have hbq := beq_const (l := (R.take en).take 2) [61, 61]
              have hSLq : ((str (R.take en)).toList == []) = decide (R.take en = []) := beq_const []
              have HHA := hid0 (head_any (R.take en) (by rw [hlz2]; omega))
              have AHd2 := AHd.out
              rw [hlz2] at AHd2
              have ALl := aside0 hlz2
              generalize hlnn : R.take en = ln at *
              clear hlnn hlz2 hnx hEL
              by_cases hA : en < 2
              · have hA1 : (en : Int) < 2 := by omega
                have hhd : isHd (R.take (lineN R)) = false := by
                  rw [AHd2]; simp; omega
                generalize str (ln.take 2) = SB2 at *
                generalize str ln = SL at *
                clear HHA hbq hto hA
                have hsf : stepF L (R.take (lineN R)) = if L = [] then (if R.take (lineN R) = [10] then .ok [] else .error 40) else .ok (addL L (R.take (lineN R))) := by
                  unfold stepF
                  rw [hhd]
                  rfl
                have ASF := aside0 hsf
                have ALS : Aside (∀ L', stepF L (R.take (lineN R)) = .ok L' → Lim N nx L') := by
                  intro L' h
                  have hll : (R.take (lineN R)).length = lineN R := by rw [List.length_take]; have := lineN_le R; omega
                  have := ALm.out.step (by rw [hll]; have := lineN_le R; omega) h
                  rwa [hll, ANX.out] at this
                clear hsf hhd
                by_cases h0 : L = []
                · have l0 : ((L.length : Int) == 0) = true := by rw [h0]; rfl
                  by_cases hl0 : ln = []
                  · have hbl : (SL.toList == []) = true := by rw [hSLq, hl0]; rfl
                    have HRn : Hid (r = runF nx L (lns (s.drop nx))) := by
                      show _ = _
                      rw [← AE.out, AEQ.out, ASF.out, if_pos h0, if_pos (ANl.out.2 hl0), ANX.out, h0]
                    have HLm : Hid (Lim N nx L) := by
                      have := ALS.out L (by rw [ASF.out, if_pos h0, if_pos (ANl.out.2 hl0), h0])
                      exact this
                    clear hl0 h0 hSLq
                    go_wp2_with fail
                    go_roundw
                    case rel => exact ⟨nx, L, _, by omega, rfl, rfl, AX.out, AB.out, hL, HLm.out, HRn.out.symm⟩
                    case measure => simp [intOf]; omega
                  · have hbl : (SL.toList == []) = false := by rw [hSLq]; simpa using hl0
                    have HRn : Hid (r = .error (40, p)) := by
                      show _ = _
                      rw [← AE.out, AEQ.out, ASF.out, if_pos h0, if_neg (fun e => hl0 (ANl.out.1 e))]
                    clear hl0 h0 hSLq
                    go_wp2_with fail
                    go_ret3
                    rw [← AR2.out, HRn.out]
                    exact ⟨rfl, AB.out⟩
                · have l0 : ((L.length : Int) == 0) = false := by
                    have : L.length ≠ 0 := fun e => h0 (List.eq_nil_of_length_eq_zero e)
                    simp; omega
                  have HRn : Hid (r = runF nx (addL L (R.take (lineN R))) (lns (s.drop nx))) := by
                    show _ = _
                    rw [← AE.out, AEQ.out, ASF.out, if_neg h0, ANX.out]
                  obtain ⟨L0, x, rfl⟩ : ∃ L0 x, L = L0 ++ [x] := ⟨L.dropLast, L.getLast h0, (List.dropLast_concat_getLast h0).symm⟩
                  obtain ⟨g, cap, e5, ct, fz, hBg, hXn⟩ := AX.out.text (R.take (lineN R))
                  simp only [List.length_append, List.length_singleton, Value.slice.injEq] at e5
                  obtain ⟨rfl, -, rfl⟩ := e5
                  have hcat := str_app x.text (R.take (lineN R))
                  have hLL : (L0 ++ [x]).length = L0.length + 1 := by simp
                  rw [hLL] at hXn ⊢
                  have AXN := aside0 hXn
                  have hL' : L0.length ≤ 64 := by simp at hL; omega
                  simp only [List.length_append, List.length_singleton] at l0 hL
                  have HLm : Hid (Lim N nx (addL (L0 ++ [x]) (R.take (lineN R)))) := ALS.out _ (by rw [ASF.out, if_neg h0])
                  have hxt : x.text.length ≤ p := (ALm.out x (by simp)).2.2
                  have hzt := str_size x.text
                  have hzr := str_size (R.take (lineN R))
                  have hzl : (R.take (lineN R)).length ≤ N := by rw [List.length_take]; omega
                  have hLn : (addL (L0 ++ [x]) (R.take (lineN R))).length ≤ 64 := by rw [addL_len]; simp; omega
                  have hw1 : IntKind.i64.wrap ((L0.length : Int) + 1 - 1) = (L0.length : Int) := by rw [IntKind.wrap_i64]; omega
                  have hw2 : (0 : Int) ≤ (L0.length : Int) := by omega
                  have hw4 : IntKind.i64.wrap (L0.length : Int) = (L0.length : Int) := by rw [IntKind.wrap_i64]; omega
                  have hw3 : (L0.length : Int) < (L0.length : Int) + 1 := by omega
                  clear h0 hXn hSLq
                  generalize str (R.take (lineN R)) = SR at *
                  generalize str (x.text ++ R.take (lineN R)) = SX at *
                  generalize str x.text = ST at *
                  generalize x.text.length = tl at *
                  generalize (R.take (lineN R)).length = rl at *
                  have hti : (tl : Int) ≤ 4194304 := by omega
                  have hri : (rl : Int) ≤ 4194304 := by omega
                  have hsum : (tl : Int) + (rl : Int) ≤ 9223372036854775807 := by omega
                  have hsum2 : tl + rl ≤ 9223372036854775807 := by omega
                  go_wp2_with fail
                  go_region_with (fail)
                  all_goals
                    go_wp2_with fail
                    go_roundw
                    case rel => exact ⟨nx, _, _, by omega, rfl, rfl, AXN.out.below (Below.refl _ _).drew, (AB.out.setCell (p := ⟨_, _, none⟩) hBg _).drew, hLn, HLm.out, HRn.out.symm⟩
                    case measure => simp [intOf]; omega
              · have hA1 : ¬ (en : Int) < 2 := by omega
                by_cases hT : ln.take 2 = [61, 61]
                · have hhd : isHd (R.take (lineN R)) = true := by
                    rw [AHd2]; simp [hT]; omega
                  rw [decide_eq_true hT] at hbq
                  have hsn : headF (stripN (R.take (lineN R))) = headF ln := by rw [ASt.out]
                  have hsf : stepF L (R.take (lineN R)) = match headF ln with
                      | none => .error 40
                      | some (n, ds) => if 64 ≤ L.length ∨ 64 < ds.length then .error 5 else if n ∈ L.map (·.name) ∨ ¬ (n :: ds).Nodup then .error 23 else .ok (L ++ [⟨n, ds, []⟩]) := by
                    unfold stepF
                    rw [hhd, if_pos rfl, hsn]
                    rfl
                  have ALS : Aside (∀ L', stepF L (R.take (lineN R)) = .ok L' → Lim N nx L') := by
                    intro L' h
                    have hll : (R.take (lineN R)).length = lineN R := by rw [List.length_take]; have := lineN_le R; omega
                    have := ALm.out.step (by rw [hll]; have := lineN_le R; omega) h
                    rwa [hll, ANX.out] at this
                  clear hsn hhd hT hSLq
                  generalize str (ln.take 2) = SB2 at *
                  cases hf : headF ln with
                  | none =>
                    rw [hf] at hsf
                    have HRn : Hid (r = .error (40, p)) := by
                      show _ = _
                      rw [← AE.out, AEQ.out, hsf]
                    have HHB := hid0 (HHA.out wr)
                    rw [hf] at HHB
                    clear hf hsf HHA
                    generalize str ln = SL at *
                    go_wp2_with fail
                    refine HHB.out.mono ?_
                    rintro ev w2 ⟨rfl, hb2⟩
                    go_wp2_with fail
                    go_ret3
                    rw [← AR2.out, HRn.out]
                    exact ⟨rfl, nextB AB.out hb2⟩
                  | some nd =>
                    obtain ⟨n, ds⟩ := nd
                    rw [hf] at hsf
                    simp only at hsf
                    have HHB := hid0 (HHA.out wr)
                    rw [hf] at HHB
                    have ASF := aside0 hsf
                    clear hf hsf HHA
                    by_cases h6 : 64 ≤ L.length
                    · have l6 : (64 : Int) ≤ (L.length : Int) := by omega
                      have HRn : Hid (r = .error (5, p)) := by
                        show _ = _
                        rw [← AE.out, AEQ.out, ASF.out, if_pos (.inl h6)]
                      generalize str ln = SL at *
                      go_wp2_with fail
                      refine HHB.out.mono ?_
                      rintro ev w2 ⟨dv, rfl, hS2, hb2⟩
                      obtain ⟨da, dc, rfl, -⟩ := hS2.shape
                      go_wp2_with fail
                      go_ret3
                      rw [← AR2.out, HRn.out]
                      exact ⟨rfl, nextB AB.out hb2⟩
                    have l6 : ¬ (64 : Int) ≤ (L.length : Int) := by omega
                    by_cases h7 : 64 < ds.length
                    · have l7 : (64 : Int) < (ds.length : Int) := by omega
                      have HRn : Hid (r = .error (5, p)) := by
                        show _ = _
                        rw [← AE.out, AEQ.out, ASF.out, if_pos (.inr h7)]
                      generalize str ln = SL at *
                      go_wp2_with fail
                      refine HHB.out.mono ?_
                      rintro ev w2 ⟨dv, rfl, hS2, hb2⟩
                      obtain ⟨da, dc, rfl, -⟩ := hS2.shape
                      go_wp2_with fail
                      go_ret3
                      rw [← AR2.out, HRn.out]
                      exact ⟨rfl, nextB AB.out hb2⟩
                    have l7 : ¬ (64 : Int) < (ds.length : Int) := by omega
                    have AT : Aside ((n ∈ L.map (·.name) ∨ ¬ (n :: ds).Nodup) → r = .error (23, p)) := by
                      intro h
                      rw [← AE.out, AEQ.out, ASF.out, if_neg (by omega), if_pos h]
                    have AO : Aside (¬ (n ∈ L.map (·.name) ∨ ¬ (n :: ds).Nodup) → r = runF nx (L ++ [⟨n, ds, []⟩]) (lns (s.drop nx)) ∧ Lim N nx (L ++ [⟨n, ds, []⟩])) := by
                      intro h
                      refine ⟨?_, ALS.out _ (by rw [ASF.out, if_neg (by omega), if_neg h])⟩
                      rw [← AE.out, AEQ.out, ASF.out, if_neg (by omega), if_neg h, ANX.out]
                    generalize str ln = SL at *
                    go_wp2_with fail
                    refine HHB.out.mono ?_
                    rintro ev w2 ⟨dv, rfl, hS2, hb2⟩
                    have AS2 := aside0 hS2
                    obtain ⟨da, dc, rfl, hd1, hd2, hdc⟩ := hS2.shape
                    have ADC := aside0 hdc
                    have AX2 := aside0 (AX.out.below hb2)
                    have AB2 := aside0 (nextB AB.out hb2)
                    have ASr := aside0 ((AX2.out.srs (by omega)).shape)
                    clear HHB hS2 hb2 hdc
                    simp only at hd1 hd2 ⊢
                    go_wp2_with fail
                    go_loopw [13] (fun i wx => ∃ k : Nat, k ≤ L.length ∧ i = .int .i64 k ∧ (∀ j, j < k → (L.getD j Src.zero).name ≠ n) ∧ wx = w2) (fun i _ => L.length - (intOf i).toNat)
                    case atStart => exact ⟨0, by omega, rfl, fun j hj => by omega, rfl⟩
                    case round =>
                      obtain ⟨k, hk, rfl, hj, rfl⟩ := hrel
                      have HJ := aside0 hj
                      clear hj
                      by_cases h8 : k < L.length
                      · have l8 : (k : Int) < (L.length : Int) := by omega
                        obtain ⟨ao5, cap5, e5, -, -, hc5⟩ := ASr.out
                        cases e5
                        obtain ⟨b5, o5, dv5, rfl, q0, -⟩ := hc5 k h8
                        have hbn := str_beq (L.getD k Src.zero).name n
                        clear hc5
                        by_cases hne : (L.getD k Src.zero).name = n
                        · rw [decide_eq_true hne] at hbn
                          have HRn : Hid (r = .error (23, p)) := AT.out (.inl (List.mem_map.2 ⟨_, List.getElem_mem h8, by rw [← getD_eq L k Src.zero h8]; exact hne⟩))
                          clear hne
                          generalize str (L.getD k Src.zero).name = S1 at *
                          go_wp2_with fail
                          go_ret3
                          rw [← AR2.out, HRn.out]
                          exact ⟨rfl, AB2.out⟩
                        · have HP : Hid (∀ j, j < k + 1 → (L.getD j Src.zero).name ≠ n) := by
                            intro j hj
                            rcases Nat.lt_or_ge j k with h | h
                            · exact HJ.out j h
                            · obtain rfl : j = k := by omega
                              exact hne
                          rw [decide_eq_false hne] at hbn
                          clear hne
                          generalize str (L.getD k Src.zero).name = S1 at *
                          go_wp2_with fail
                          go_roundw
                          case rel => exact ⟨k + 1, by omega, by go_num, HP.out, by trivial⟩
                          case measure => simp [intOf]; omega
                      · have l8 : ¬ (k : Int) < (L.length : Int) := by omega
                        have HNM : Hid (n ∉ L.map (·.name)) := by
                          intro hm
                          obtain ⟨x, hx, e⟩ := List.mem_map.1 hm
                          obtain ⟨j, hj, ej⟩ := List.getElem_of_mem hx
                          exact HJ.out j (by omega) (by rw [getD_eq L j _ hj, ej]; exact e)
                        obtain ⟨w2, rfl⟩ : ∃ w2, w2 = wr := ⟨wr, rfl⟩
                        go_wp2_with fail
                        go_loopw [14] (fun i wy => ∃ t : Nat, t ≤ ds.length ∧ i = .int .i64 t ∧ (ds.take t).Nodup ∧ n ∉ ds.take t ∧ ∃ q, wy = w2.drewN q) (fun i _ => ds.length - (intOf i).toNat)
                        case atStart => exact ⟨0, by omega, rfl, by simp, by simp, 0, rfl⟩
                        case round =>
                          obtain ⟨t, ht, rfl, hnd, hni, hwq⟩ := hrel
                          have HND := aside0 hnd
                          have HNI := aside0 hni
                          have HWQ := aside0 hwq
                          clear hnd hni hwq
                          by_cases h9 : t < ds.length
                          · have l9 : (t : Int) < (ds.length : Int) := by omega
                            go_wp2_with fail
                            go_loopw [15] (fun i wz => ∃ u : Nat, u ≤ t ∧ i = .int .i64 u ∧ (∀ j, j < u → ds.getD j [] ≠ ds.getD t []) ∧ ∃ q, wz = w2.drewN q) (fun i _ => t - (intOf i).toNat)
                            case atStart => exact ⟨0, by omega, rfl, fun j hj => by omega, HWQ.out⟩
                            case round =>
                              obtain ⟨u, hu, rfl, hju, hwz⟩ := hrel
                              have HJU := aside0 hju
                              have HWZ := aside0 hwz
                              clear hju hwz
                              obtain ⟨pb, po, rfl, q1⟩ := ADC.out t h9
                              have d1 : wr.cell? ⟨pb, po + t, none⟩ = some (.string (str (ds.getD t []))) := by obtain ⟨_, e⟩ := HWZ.out; rw [e]; exact q1
                              by_cases h10 : u < t
                              · have l10 : (u : Int) < (t : Int) := by omega
                                have l11 : (u : Int) < (ds.length : Int) := by omega
                                obtain ⟨pb', po', e', q2⟩ := ADC.out u (by omega)
                                cases e'
                                have d2 : wr.cell? ⟨pb, po + u, none⟩ = some (.string (str (ds.getD u []))) := by obtain ⟨_, e⟩ := HWZ.out; rw [e]; exact q2
                                have hbn := str_beq (ds.getD t []) (ds.getD u [])
                                clear q1 q2
                                by_cases hne : ds.getD t [] = ds.getD u []
                                · rw [decide_eq_true hne] at hbn
                                  have HRn : Hid (r = .error (23, p)) := AT.out (.inr (fun hnd => by
                                    have h1 := (List.nodup_cons.1 hnd).2
                                    have := (nodup_take (D := ds) (k := t) h9).1 (h1.sublist (List.take_sublist _ _))
                                    apply this.2
                                    rw [hne, getD_eq ds u [] (by omega), ← List.getElem_take (j := t) (h := by simp; omega)]
                                    exact List.getElem_mem _))
                                  clear hne
                                  generalize str (ds.getD t []) = S1 at *
                                  generalize str (ds.getD u []) = S2 at *
                                  go_wp2_with fail
                                  go_quiet (fail)
                                  go_wp2_with fail
                                  go_ret3
                                  rw [← AR2.out, HRn.out]
                                  exact ⟨rfl, nextB AB2.out (below_drews (drews HWZ.out _))⟩
                                · have HP : Hid (∀ j, j < u + 1 → ds.getD j [] ≠ ds.getD t []) := by
                                    intro j hj
                                    rcases Nat.lt_or_ge j u with h | h
                                    · exact HJU.out j h
                                    · obtain rfl : j = u := by omega
                                      exact fun e => hne e.symm
                                  rw [decide_eq_false hne] at hbn
                                  clear hne
                                  generalize hS1 : str (ds.getD t []) = S1 at *
                                  generalize str (ds.getD u []) = S2 at *
                                  clear hS1
                                  go_wp2_with fail
                                  go_quiet (fail)
                                  go_wp2_with fail
                                  go_roundw
                                  case rel => exact ⟨u + 1, by omega, by go_num, HP.out, drews HWZ.out _⟩
                                  case measure => simp [intOf]; omega
                              · have l10 : ¬ (u : Int) < (t : Int) := by omega
                                have HNT : Hid (ds.getD t [] ∉ ds.take t) := by
                                  intro hm
                                  obtain ⟨j, hj, ej⟩ := List.getElem_of_mem hm
                                  have hj' : j < t := by simp at hj; omega
                                  rw [List.getElem_take] at ej
                                  exact HJU.out j (by omega) (by rw [getD_eq ds j [] (by omega)]; exact ej)
                                have hbn := str_beq (ds.getD t []) n
                                clear q1
                                by_cases hne : ds.getD t [] = n
                                · rw [decide_eq_true hne] at hbn
                                  have HRn : Hid (r = .error (23, p)) := AT.out (.inr (fun hnd => (List.nodup_cons.1 hnd).1 (by rw [← hne, getD_eq ds t [] h9]; exact List.getElem_mem h9)))
                                  clear hne
                                  generalize str (ds.getD t []) = S1 at *
                                  go_wp2_with fail
                                  go_ret3
                                  rw [← AR2.out, HRn.out]
                                  exact ⟨rfl, nextB AB2.out (below_drews HWZ.out)⟩
                                · have HP1 : Hid ((ds.take (t + 1)).Nodup) := (nodup_take (D := ds) (k := t) h9).2 ⟨HND.out, HNT.out⟩
                                  have HP2 : Hid (n ∉ ds.take (t + 1)) := by
                                    intro hm
                                    rw [List.take_add_one, List.getElem?_eq_getElem h9] at hm
                                    rcases List.mem_append.1 hm with hm | hm
                                    · exact HNI.out hm
                                    · simp at hm
                                      exact hne (by rw [getD_eq ds t [] h9]; exact hm.symm)
                                  rw [decide_eq_false hne] at hbn
                                  clear hne
                                  generalize str (ds.getD t []) = S1 at *
                                  go_wp2_with fail
                                  go_roundw
                                  case rel => exact ⟨t + 1, by omega, by go_num, HP1.out, HP2.out, HWZ.out⟩
                                  case measure => simp [intOf]; omega
                          · have l9 : ¬ (t : Int) < (ds.length : Int) := by omega
                            have et : ds.take t = ds := List.take_of_length_le (by omega)
                            have hnd := HND.out
                            have hni := HNI.out
                            rw [et] at hnd hni
                            obtain ⟨o1, o2⟩ := AO.out (fun h => by
                              rcases h with h | h
                              · exact HNM.out h
                              · exact h (List.nodup_cons.2 ⟨hni, hnd⟩))
                            have ARn := aside0 o1
                            have ALn := aside0 o2
                            have hbw := below_drews HWQ.out
                            obtain ⟨V, O, hV, hVs⟩ := (AX2.out.below hbw).ex
                            have ADs := AS2.out.below hbw
                            have ABw := aside0 (nextB AB2.out hbw)
                            clear hnd hni o1 o2 et hbw
                            have hA1 : Below wr.heap.size wr (wr.alloc (.cells #[] 9)) := (Below.refl _ _).alloc (Nat.le_refl _) _
                            have OD : (wr.alloc (.cells #[] 9)).ownsRow wr.heap.size 9 1 (.slice (some ⟨wr.heap.size, 0, none⟩) 0 0) ([] : List Bs).length (sts []) := World.ownsRow_made wr #[] 0 (Nat.le_refl _) (by decide) rfl
                            have SD := ADs.below hA1
                            have hz1 := hA1.size
                            have HWF : Hid (∀ v7 w7, w7.ownsRow wr.heap.size 9 1 v7 ([] ++ ds).length (sts ([] ++ ds)) → Below wr.heap.size (wr.alloc (.cells #[] 9)) w7 → v7.oneCell' = true ∧ T9 (w7.alloc (.cells #[.string (str n), v7, .string ⟨#[]⟩] 43)) v7 ds ∧ (w7.alloc (.cells #[.string (str n), v7, .string ⟨#[]⟩] 43)).ownsRow w.heap.size 43 3 (.slice va L.length vc) L.length (svs L V) ∧ Below wr.heap.size wr (w7.alloc (.cells #[.string (str n), v7, .string ⟨#[]⟩] 43)) ∧ w.heap.size ≤ (w7.alloc (.cells #[.string (str n), v7, .string ⟨#[]⟩] 43)).heap.size ∧ (w7.alloc (.cells #[.string (str n), v7, .string ⟨#[]⟩] 43)).rangeAt w7.heap.size 0 [.string (str n), v7, .string ⟨#[]⟩]) := by
                              intro v7 w7 ho hb
                              have b7 : Below wr.heap.size wr w7 := hA1.trans hb
                              have hA7 : Below w7.heap.size w7 (w7.alloc (.cells #[.string (str n), v7, .string ⟨#[]⟩] 43)) := (Below.refl _ _).alloc (Nat.le_refl _) _
                              have b8 := nextB b7 hA7
                              obtain ⟨va7, vc7, e7⟩ := own_slice ho
                              refine ⟨by rw [e7]; rfl, ?_, own_past' O b8, b8, Nat.le_trans ABw.out.size b8.size, (Row.new w7 43 _).range⟩
                              exact (T9.ofOwn (by simpa using ho) (by omega)).st (St9.of hA7)
                            have AW := aside0 HWF.out
                            go_wp2_with (first
                              | (refine app22 (A := []) (D := ds) rfl _ _ rfl rfl OD hz1 rfl SD (by simp; omega) ?_; intro v7 w7 ho7 hb7; obtain ⟨g1, g2, g3, g4, g5, g6⟩ := HWF.out v7 w7 ho7 hb7; have A2 := aside0 g2; have A3 := aside0 g3; have A4 := aside0 g4; obtain ⟨va7, vc7, rfl⟩ := own_slice ho7; clear g2 g4 ho7 hb7)
                              | (refine build43 rfl _ rfl (.string (str n)) _ (.string ⟨#[]⟩) rfl ?_)
                              | (refine app43 (L := L) (V := V) rfl _ _ rfl rfl g3 hV g5 w7.heap.size 1 ⟨n, ds, []⟩ _ g1 rfl g6 (by omega) ?_; intro v8 w8 ho8 hb8 hg8; have AF := aside0 (Xo.next (St9.of A4.out) O hV hVs A4.out A2.out hg8 ho8); have AG := aside0 (ABw.out.trans ((A4.out.mono ABw.out.size).trans hb8)); clear ho8 hb8 hg8))
                            go_roundw
                            case rel => exact ⟨nx, _, _, by omega, rfl, rfl, AF.out, AG.out, by simp; omega, ALn.out, ARn.out.symm⟩
                            case measure => simp [intOf]; omega
                · have hhd : isHd (R.take (lineN R)) = false := by
                    rw [AHd2]; simp [hT]
                  rw [decide_eq_false hT] at hbq
                  generalize str (ln.take 2) = SB2 at *
                  generalize str ln = SL at *
                  clear HHA hT
                  have hsf : stepF L (R.take (lineN R)) = if L = [] then (if R.take (lineN R) = [10] then .ok [] else .error 40) else .ok (addL L (R.take (lineN R))) := by
                    unfold stepF
                    rw [hhd]
                    rfl
                  have ASF := aside0 hsf
                  have ALS : Aside (∀ L', stepF L (R.take (lineN R)) = .ok L' → Lim N nx L') := by
                    intro L' h
                    have hll : (R.take (lineN R)).length = lineN R := by rw [List.length_take]; have := lineN_le R; omega
                    have := ALm.out.step (by rw [hll]; have := lineN_le R; omega) h
                    rwa [hll, ANX.out] at this
                  clear hsf hhd
                  by_cases h0 : L = []
                  · have l0 : ((L.length : Int) == 0) = true := by rw [h0]; rfl
                    by_cases hl0 : ln = []
                    · have hbl : (SL.toList == []) = true := by rw [hSLq, hl0]; rfl
                      have HRn : Hid (r = runF nx L (lns (s.drop nx))) := by
                        show _ = _
                        rw [← AE.out, AEQ.out, ASF.out, if_pos h0, if_pos (ANl.out.2 hl0), ANX.out, h0]
                      have HLm : Hid (Lim N nx L) := by
                        have := ALS.out L (by rw [ASF.out, if_pos h0, if_pos (ANl.out.2 hl0), h0])
                        exact this
                      clear hl0 h0 hSLq
                      go_wp2_with fail
                      go_roundw
                      case rel => exact ⟨nx, L, _, by omega, rfl, rfl, AX.out, AB.out, hL, HLm.out, HRn.out.symm⟩
                      case measure => simp [intOf]; omega
                    · have hbl : (SL.toList == []) = false := by rw [hSLq]; simpa using hl0
                      have HRn : Hid (r = .error (40, p)) := by
                        show _ = _
                        rw [← AE.out, AEQ.out, ASF.out, if_pos h0, if_neg (fun e => hl0 (ANl.out.1 e))]
                      clear hl0 h0 hSLq
                      go_wp2_with fail
                      go_ret3
                      rw [← AR2.out, HRn.out]
                      exact ⟨rfl, AB.out⟩
                  · have l0 : ((L.length : Int) == 0) = false := by
                      have : L.length ≠ 0 := fun e => h0 (List.eq_nil_of_length_eq_zero e)
                      simp; omega
                    have HRn : Hid (r = runF nx (addL L (R.take (lineN R))) (lns (s.drop nx))) := by
                      show _ = _
                      rw [← AE.out, AEQ.out, ASF.out, if_neg h0, ANX.out]
                    obtain ⟨L0, x, rfl⟩ : ∃ L0 x, L = L0 ++ [x] := ⟨L.dropLast, L.getLast h0, (List.dropLast_concat_getLast h0).symm⟩
                    obtain ⟨g, cap, e5, ct, fz, hBg, hXn⟩ := AX.out.text (R.take (lineN R))
                    simp only [List.length_append, List.length_singleton, Value.slice.injEq] at e5
                    obtain ⟨rfl, -, rfl⟩ := e5
                    have hcat := str_app x.text (R.take (lineN R))
                    have hLL : (L0 ++ [x]).length = L0.length + 1 := by simp
                    rw [hLL] at hXn ⊢
                    have AXN := aside0 hXn
                    have hL' : L0.length ≤ 64 := by simp at hL; omega
                    simp only [List.length_append, List.length_singleton] at l0 hL
                    have HLm : Hid (Lim N nx (addL (L0 ++ [x]) (R.take (lineN R)))) := ALS.out _ (by rw [ASF.out, if_neg h0])
                    have hxt : x.text.length ≤ p := (ALm.out x (by simp)).2.2
                    have hzt := str_size x.text
                    have hzr := str_size (R.take (lineN R))
                    have hzl : (R.take (lineN R)).length ≤ N := by rw [List.length_take]; omega
                    have hLn : (addL (L0 ++ [x]) (R.take (lineN R))).length ≤ 64 := by rw [addL_len]; simp; omega
                    have hw1 : IntKind.i64.wrap ((L0.length : Int) + 1 - 1) = (L0.length : Int) := by rw [IntKind.wrap_i64]; omega
                    have hw2 : (0 : Int) ≤ (L0.length : Int) := by omega
                    have hw4 : IntKind.i64.wrap (L0.length : Int) = (L0.length : Int) := by rw [IntKind.wrap_i64]; omega
                    have hw3 : (L0.length : Int) < (L0.length : Int) + 1 := by omega
                    clear h0 hXn hSLq
                    generalize str (R.take (lineN R)) = SR at *
                    generalize str (x.text ++ R.take (lineN R)) = SX at *
                    generalize str x.text = ST at *
                    generalize x.text.length = tl at *
                    generalize (R.take (lineN R)).length = rl at *
                    have hti : (tl : Int) ≤ 4194304 := by omega
                    have hri : (rl : Int) ≤ 4194304 := by omega
                    have hsum : (tl : Int) + (rl : Int) ≤ 9223372036854775807 := by omega
                    have hsum2 : tl + rl ≤ 9223372036854775807 := by omega
                    go_wp2_with fail
                    go_region_with (fail)
                    all_goals
                      go_wp2_with fail
                      go_roundw
                      case rel => exact ⟨nx, _, _, by omega, rfl, rfl, AXN.out.below (Below.refl _ _).drew, (AB.out.setCell (p := ⟨_, _, none⟩) hBg _).drew, hLn, HLm.out, HRn.out.symm⟩
                      case measure => simp [intOf]; omega
      · have l3 : ¬ (p : Int) < (N : Int) := by omega
        have hd0 : s.drop p = [] := List.drop_eq_nil_of_le (by have := AN.out; omega)
        have hrL : r = .ok L := by rw [← AE.out, hd0]; rfl
        have hSr := aside0 (AX.out.srs (by omega))
        by_cases h0 : L = []
        · have HR2 : Hid (r2 = .error (40, 0)) := by
            show _ = _
            rw [← AR2.out, hrL]; exact if_pos h0
          have l4 : ((L.length : Int) == 0) = true := by rw [h0]; rfl
          clear hrL h0 hd0
          go_wp2_with fail
          go_ret3
          rw [HR2.out]
          exact ⟨rfl, AB.out⟩
        · have HR2 : Hid (r2 = .ok L) := by
            show _ = _
            rw [← AR2.out, hrL]; exact if_neg h0
          have l4 : ((L.length : Int) == 0) = false := by
            have : L.length ≠ 0 := fun e => h0 (List.eq_nil_of_length_eq_zero e)
            simp; omega
          clear hrL h0 hd0
          go_wp2_with fail
          go_ret3
          rw [HR2.out]
          exact ⟨_, rfl, hSr.out, AB.out⟩
end Go.Proofs.YtmfdmpfeoppnfaaDoor
