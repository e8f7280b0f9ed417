/-
  The writer's put.
-/
import Derived.Test.YtmfdmpfeoppnfaaDoorWri
namespace Go.Proofs.YtmfdmpfeoppnfaaDoor
open Go.RowKit

/-- Pieces written, up to one that has no room. -/
def putF : Bs × Bool → List Bs → Bs × Bool
  | a, [] => a
  | a, s :: r => if a.2 = true ∨ 4194304 < a.1.length + s.length then (a.1, true) else putF (a.1 ++ s, false) r
theorem putF_len : ∀ (P : List Bs) (a : Bs × Bool), a.1.length ≤ 4194304 → (putF a P).1.length ≤ 4194304
  | [], a, h => h
  | s :: r, a, h => by
    unfold putF
    split
    · exact h
    · exact putF_len r _ (by simp; omega)
theorem len_any {C b : Nat} {S : Bs} {n : Bool} {w : World} (h : Wtr C b S n w) :
    Calls Tryd.prog 65 #[.pointer (some ⟨b, 0, none⟩)] w fun e w' => e = .returned (.int .i64 S.length) ∧ w' = w := by
  obtain ⟨p, v, hp, hbk, hown⟩ := h.here
  have c1 : w.cell? ⟨b, 1, none⟩ = some v := by rw [Lib.cell_of_heap hbk]; rfl
  obtain ⟨va, vc, rfl⟩ := own_slice hown
  clear hown hbk h hp
  go_enter Tryd.func65, Tryd.ntmps65
  go_wp2_with fail
  go_ret
  exact ⟨rfl, rfl⟩
theorem Wtr.bool {C b : Nat} {S : Bs} {n : Bool} {w : World} (h : Wtr C b S n w) : w.cell? ⟨b, 2, none⟩ = some (.bool n) := by
  obtain ⟨p, v, _, e, _⟩ := h.here
  rw [Lib.cell_of_heap e]; rfl
theorem Wtr.fz {C b : Nat} {S : Bs} {n : Bool} {w : World} (h : Wtr C b S n w) (j : Nat) : w.frozen? ⟨b, j, none⟩ = false := by
  obtain ⟨p, v, _, e, _⟩ := h.here
  exact Lib.frozen_of_heap e j
theorem Wtr.set {C b : Nat} {S : Bs} {n : Bool} {w : World} (h : Wtr C b S n w) (m : Bool) : Wtr C b S m (w.setCell ⟨b, 2, none⟩ (.bool m)) ∧ Fr C w (w.setCell ⟨b, 2, none⟩ (.bool m)) := by
  obtain ⟨p, v, hp, hbk, hown⟩ := h.here
  have hg : w.grownBy (w.setCell ⟨b, 2, none⟩ (.bool m)) (some b) := ⟨rfl, rfl, rfl, by simp [World.setCell], fun k hk hne => heap_setCell_other w ⟨b, 2, none⟩ k _ (fun e => hne (by rw [e]))⟩
  refine ⟨⟨h.le, p, v, hp, by rw [heap_setCell_same w b 2 _ 83 _ hbk]; rfl, hown.kept hg (.inr (own_neW hown hbk))⟩, (Below.refl _ _).setCell (p := ⟨b, 2, none⟩) h.le _, fun k hk ht => hg.block k hk ?_⟩
  rintro e
  cases e
  exact (ht _ _ _ hbk).1 rfl
set_option maxHeartbeats 8000000 in
set_option maxRecDepth 20000 in
theorem put_any {C b g : Nat} {S : Bs} {n : Bool} {w : World} (h : Wtr C b S n w) (hS : S.length ≤ 4194304) (P : List Bs) (hr : Row w g 9 (sts P)) (hP : P.length ≤ 1000) (hPl : ∀ x ∈ P, x.length ≤ 140737488355328) :
    Calls Tryd.prog 50 #[.pointer (some ⟨b, 0, none⟩), .slice (some ⟨g, 0, none⟩) P.length P.length] w fun ev w' => ev = .returned (.tuple #[]) ∧ Wtr C b (putF (S, n) P).1 (putF (S, n) P).2 w' ∧ Fr C w w' := by
  have HR := hid0 hr
  have H0 := hid0 h
  have HL : Hid (∀ k, k < P.length → (P.getD k []).length ≤ 140737488355328) := fun k hk => by rw [getD_eq P k [] hk]; exact hPl _ (List.getElem_mem hk)
  clear h hr hPl
  generalize hfin : putF (S, n) P = fin
  have AF := aside0 hfin
  clear hfin
  go_enter Tryd.func50, Tryd.ntmps50
  go_wp2_with fail
  go_loopw [8] (fun i wr => ∃ (k : Nat) (T : Bs) (t : Bool), k ≤ P.length ∧ i = .int .i64 k ∧ T.length ≤ 4194304 ∧ Wtr C b T t wr ∧ Fr C w wr ∧ putF (T, t) (P.drop k) = fin) (fun i _ => P.length - (intOf i).toNat)
  case atStart => exact ⟨0, S, n, by omega, rfl, hS, H0.out, Fr.refl _ _, by simpa using AF.out⟩
  case round =>
    obtain ⟨k, T, t, hk, rfl, hT, hW, hF, hfin⟩ := hrel
    have AW := aside0 hW
    have AFr := aside0 hF
    have AE := aside0 hfin
    clear hfin hW hF
    by_cases h3 : k < P.length
    · have l3 : (k : Int) < (P.length : Int) := by omega
      have c0 : wr.cell? ⟨g, k, none⟩ = some (.string (str (P.getD k []))) := by
        rw [(AFr.out.row HR.out (by decide) (by decide)).cell k]
        simp [sts, List.getD, List.getElem?_eq_getElem h3]
      have hpl := HL.out k h3
      have hzp := str_size (P.getD k [])
      have c2 := AW.out.bool
      have f2 := AW.out.fz 2
      have eD : P.drop k = P.getD k [] :: P.drop (k + 1) := by rw [List.drop_eq_getElem_cons h3, getD_eq P k [] h3]
      rw [eD] at AE
      have LN := hid0 (len_any AW.out)
      have WS := hid0 (fun (y : World) (hy : Wtr C b T false y) (hl : T.length + (P.getD k []).length ≤ 140737488355328) => writeString_any hy (P.getD k []) hl)
      generalize hpk : P.getD k [] = pk at *
      clear hpk eD
      cases t with
      | true =>
        obtain ⟨s1, s2⟩ := AW.out.set true
        have AS1 := aside0 s1
        have AS2 := aside0 s2
        have HE : Hid (fin = (T, true)) := by
          show _ = _
          rw [← AE.out, putF, if_pos (.inl rfl)]
        clear s1 s2 LN WS
        go_wp2_with fail
        (try simp only [Exit.inBlock, Exit.then]); refine bodyPost_ret (results_none rfl _ _ _) rfl ?_
        rw [HE.out]
        exact ⟨rfl, AS1.out, AFr.out.trans AS2.out⟩
      | false =>
        by_cases h4 : 4194304 < T.length + pk.length
        · have l4 : 4194304 - (T.length : Int) < (pk.length : Int) := by omega
          have l5 : decide (4194304 - (T.length : Int) < (pk.length : Int)) = true := decide_eq_true l4
          obtain ⟨s1, s2⟩ := AW.out.set true
          have AS1 := aside0 s1
          have AS2 := aside0 s2
          have HE : Hid (fin = (T, true)) := by
            show _ = _
            rw [← AE.out, putF, if_pos (.inr h4)]
          clear s1 s2 WS
          generalize str pk = SK at *
          go_wp2_with fail
          refine LN.out.mono ?_
          rintro ev w5 ⟨rfl, hw5⟩
          rw [hw5]
          clear hw5 w5 LN
          go_wp2_with fail
          (try simp only [Exit.inBlock, Exit.then]); refine bodyPost_ret (results_none rfl _ _ _) rfl ?_
          rw [HE.out]
          exact ⟨rfl, AS1.out, AFr.out.trans AS2.out⟩
        · have l4 : ¬ (4194304 - (T.length : Int) < (pk.length : Int)) := by omega
          have l5 : decide (4194304 - (T.length : Int) < (pk.length : Int)) = false := decide_eq_false l4
          obtain ⟨s1, s2⟩ := AW.out.set false
          have W2 := hid0 (WS.out _ s1 (by omega))
          have AS2 := aside0 s2
          have HE : Hid (fin = putF (T ++ pk, false) (P.drop (k + 1))) := by
            show _ = _
            rw [← AE.out, putF, if_neg (by simp; omega)]
          clear s1 s2 WS
          generalize hSK : str pk = SK at *
          clear hSK
          go_wp2_with fail
          refine LN.out.mono ?_
          rintro ev w5 ⟨rfl, hw5⟩
          rw [hw5]
          clear hw5 w5 LN
          go_wp2_with fail
          refine W2.out.mono ?_
          rintro ev w6 ⟨rfl, hw6, hf6⟩
          clear W2
          have AA := aside0 hw6
          have AB := aside0 hf6
          clear hw6 hf6
          go_wp2_with fail
          go_roundw
          case rel => exact ⟨k + 1, T ++ pk, false, by omega, by go_num, by simp; omega, AA.out, AFr.out.trans (AS2.out.trans AB.out), HE.out.symm⟩
          case measure => simp [intOf]; omega
    · have l3 : ¬ (k : Int) < (P.length : Int) := by omega
      have hd0 : P.drop k = [] := List.drop_eq_nil_of_le (by omega)
      have HE : Hid (fin = (T, t)) := by
        show _ = _
        rw [← AE.out, hd0, putF]
      go_wp2_with fail
      go_end0
      rw [HE.out]
      exact ⟨rfl, AW.out, AFr.out⟩
end Go.Proofs.YtmfdmpfeoppnfaaDoor
