/-
  A text's lines, one behind the other.
-/
import Derived.Test.YtmfdmpfeoppnfaaDoorClo
namespace Go.Proofs.YtmfdmpfeoppnfaaDoor
open Go.RowKit

theorem stepF_err {L : List Src} {l : Bs} {c : Nat} (h : stepF L l = .error c) : c ≠ 0 := by
  unfold stepF at h
  split at h
  · split at h
    · cases h; decide
    · split at h
      · cases h; decide
      · split at h
        · cases h; decide
        · cases h
  · split at h
    · split at h
      · cases h
      · cases h; decide
    · cases h
/-- What a step leaves. -/
def StepPost (B gc : Nat) (w : World) (r : Except Nat (List Src)) (ev : Ending) (w' : World) : Prop :=
  match r with
  | .error c => ev = .returned (.int .i64 (c : Int)) ∧ Below B w w'
  | .ok L' => ev = .returned (.int .i64 0) ∧ Crs B gc w' L' ∧ Below B w w' ∧ St9 w w'
/-- The last crate's text ends where the lines so far end. -/
def TX (s : Bs) (p : Nat) (L : List Src) : Prop := ∀ L0 x, L = L0 ++ [x] → x.text.length ≤ p ∧ (s.drop (p - x.text.length)).take x.text.length = x.text
theorem step_any (B gc gs : Nat) (w : World) (L : List Src) (s l : Bs) (p : Nat) (hBw : B ≤ w.heap.size) (hBc : B ≤ gc) (h : Crs B gc w L) (hrs : Row w gs 9 [.string (str s)]) (m : Int) (hm : w.cell? ⟨0, 0, none⟩ = some (.int .i64 m))
    (hs : s.length ≤ 4194304) (hpl : p + l.length ≤ s.length) (hl : (s.drop p).take l.length = l) (htx : TX s p L) (hL : L.length ≤ 64) :
    Calls Tryd.prog 29 #[.int .i64 (p : Int), .string (str l), .pointer (some ⟨gc, 0, none⟩), .pointer (some ⟨gs, 0, none⟩)] w (StepPost B gc w (stepF L l)) := by
  cases hd : isHd l
  · by_cases h0 : L = []
    · subst h0
      refine (clo_none B gc gs w l p h hd).mono ?_
      rintro ev w' ⟨rfl, rfl⟩
      unfold stepF
      rw [hd]
      simp only [Bool.false_eq_true, if_false, if_true]
      by_cases he : l = [10]
      · rw [if_pos he, if_pos he]
        exact ⟨rfl, h, Below.refl _ _, St9.refl _⟩
      · rw [if_neg he, if_neg he]
        exact ⟨rfl, Below.refl _ _⟩
    · obtain ⟨L0, x, rfl⟩ : ∃ L0 x, L = L0 ++ [x] := ⟨L.dropLast, L.getLast h0, (List.dropLast_concat_getLast h0).symm⟩
      obtain ⟨t1, t2⟩ := htx L0 x rfl
      rw [addL_step hd h0]
      refine clo_text B gc gs w L0 x s l p h hrs hs hpl t1 ?_ (by simp at hL; omega) hd
      rw [List.take_add, t2, List.drop_drop, show p - x.text.length + x.text.length = p by omega, hl]
  · refine (clo_head B gc gs w L l p hBw hBc h m hm (by omega) hL hd).mono ?_
    rintro ev w' ⟨rfl, h1, h2, h3⟩
    rw [step_head hd]
    split
    · rename_i e
      rw [e]
      exact ⟨rfl, h1, h2, h3⟩
    · exact ⟨rfl, h2⟩
theorem TX.step {s l : Bs} {p : Nat} {L L' : List Src} (h : TX s p L) (hl : (s.drop p).take l.length = l) (hs : stepF L l = .ok L') : TX s (p + l.length) L' := by
  intro L0 x e
  cases hd : isHd l
  · by_cases h0 : L = []
    · subst h0
      unfold stepF at hs
      rw [hd] at hs
      simp only [Bool.false_eq_true, if_false, if_true] at hs
      split at hs
      · cases hs; simp at e
      · cases hs
    · obtain ⟨L1, y, rfl⟩ : ∃ L0 x, L = L0 ++ [x] := ⟨L.dropLast, L.getLast h0, (List.dropLast_concat_getLast h0).symm⟩
      obtain ⟨t1, t2⟩ := h L1 y rfl
      rw [addL_step hd h0] at hs
      cases hs
      rw [addL_snoc] at e
      obtain ⟨rfl, e2⟩ := List.append_inj' e rfl
      simp at e2
      subst e2
      simp only [List.length_append]
      refine ⟨by omega, ?_⟩
      rw [show p + l.length - (y.text.length + l.length) = p - y.text.length by omega, List.take_add, t2, List.drop_drop, show p - y.text.length + y.text.length = p by omega, hl]
  · rw [step_head hd] at hs
    split at hs
    · cases hs
      obtain ⟨rfl, e2⟩ := List.append_inj' e rfl
      simp at e2
      subst e2
      simp
    · cases hs

/-- What all lines leave. -/
def RunPost (B gc : Nat) (w : World) (r : Except (Nat × Nat) (List Src)) (ev : Ending) (w' : World) : Prop :=
  match r with
  | .error c => ∃ e, ev = .returned e ∧ Er w' e c.1 c.2 ∧ Below B w w'
  | .ok L' => ev = .returned .nilIface ∧ Crs B gc w' L' ∧ Below B w w'
set_option maxHeartbeats 4000000 in
theorem each_any (B gc gs : Nat) (w : World) (s : Bs) (hBw : B ≤ w.heap.size) (hBc : B ≤ gc) (h : Crs B gc w []) (hrs : Row w gs 9 [.string (str s)]) (m : Int) (hm : w.cell? ⟨0, 0, none⟩ = some (.int .i64 m)) (h0B : 0 < B)
    (hs : s.length ≤ 4194304) :
    Calls Tryd.prog 28 #[.string (str s), .func (.func 29) #[] #[.pointer (some ⟨gc, 0, none⟩), .pointer (some ⟨gs, 0, none⟩)]] w (RunPost B gc w (runF 0 [] (lns s))) := by
  have HR := hid0 hrs
  have HM := hid0 hm
  have H0 := hid0 h
  have hsz := str_size s
  generalize hr : runF 0 [] (lns s) = r
  have AR := aside0 hr
  clear h hrs hm hr
  go_enter Tryd.func28, Tryd.ntmps28
  go_wp2_with fail
  go_loopw [5] (fun i wr => ∃ (p : Nat) (L : List Src), p ≤ s.length ∧ i = .int .i64 p ∧ Crs B gc wr L ∧ Below B w wr ∧ St9 w wr ∧ L.length ≤ 64 ∧ TX s p L ∧ runF p L (lns (s.drop p)) = r) (fun i _ => s.length - (intOf i).toNat)
  case atStart => exact ⟨0, [], by omega, rfl, H0.out, Below.refl _ _, St9.refl _, by simp, fun L0 x e => by simp at e, AR.out⟩
  case round =>
    obtain ⟨p, L, hp, rfl, hC, hB, hS9, hL, hT, hrun⟩ := hrel
    have HC := aside0 hC
    have HB := aside0 hB
    have HS := aside0 hS9
    have HT := aside0 hT
    have HN := aside0 hrun
    clear hC hB hS9 hT hrun
    by_cases h3 : p < s.length
    · have l1 : (p : Int) < (s.length : Int) := by omega
      have hfr := str_from s p
      have hm' : wr.cell? ⟨0, 0, none⟩ = some (.int .i64 m) := by rw [HB.out.cell (p := ⟨0, 0, none⟩) h0B]; exact HM.out
      have hne : s.drop p ≠ [] := by
        intro e
        have := congrArg List.length e
        simp at this
        omega
      have FL := hid0 (firstLine_any (s.drop p) (by simp; omega) wr m hm')
      have hle := lineN_le (s.drop p)
      have hpos := lineN_pos hne
      rw [List.length_drop] at hle
      have hll : ((s.drop p).take (lineN (s.drop p))).length = lineN (s.drop p) := by rw [List.length_take, List.length_drop]; omega
      have hBwr : B ≤ wr.heap.size := Nat.le_trans hBw HB.out.size
      have ST := hid0 (step_any B gc gs wr L s ((s.drop p).take (lineN (s.drop p))) p hBwr hBc HC.out (HS.out.row _ _ HR.out) m hm' hs (by rw [hll]; omega) (by rw [hll]) HT.out hL)
      have EQ : Hid (runF p L (lns (s.drop p)) = match stepF L ((s.drop p).take (lineN (s.drop p))) with
          | .error c => .error (c, p)
          | .ok cs' => runF (p + lineN (s.drop p)) cs' (lns (s.drop (p + lineN (s.drop p))))) := by
        show _ = _
        rw [lns_eq _ hne, runF, hll, List.drop_drop]
        rfl
      have TS := hid0 (fun L' (hh : stepF L ((s.drop p).take (lineN (s.drop p))) = .ok L') => TX.step HT.out (by rw [hll]) hh)
      rw [hll] at TS
      have hsz2 := str_size ((s.drop p).take (lineN (s.drop p)))
      rw [hll] at hsz2
      cases hst : stepF L ((s.drop p).take (lineN (s.drop p))) with
      | error c =>
        have hc0 := stepF_err hst
        rw [hst] at ST EQ
        unfold StepPost at ST
        have hc1 : (c : Int) ≠ 0 := by omega
        have NW := hid0 (fun y => new_any y c p hc0)
        clear hst TS hne hll hpos hle
        generalize str ((s.drop p).take (lineN (s.drop p))) = SL at *
        go_wp2_with fail
        refine FL.out.mono ?_
        rintro ev w1 ⟨rfl, hw1⟩
        rw [hw1]
        clear hw1 w1 FL
        go_wp2_with fail
        refine ST.out.mono ?_
        rintro ev w2 ⟨rfl, hb2⟩
        clear ST
        go_wp2_with fail
        refine (NW.out _).mono ?_
        rintro ev w3 ⟨e, rfl, hE, hb3⟩
        go_wp2_with fail
        go_ret
        rw [← HN.out, EQ.out]
        have hsz2 : B ≤ w2.heap.size := Nat.le_trans hBwr hb2.size
        exact ⟨_, rfl, hE, HB.out.trans (hb2.trans (hb3.mono hsz2))⟩
      | ok L' =>
        have hT' := TS.out L' hst
        have hL' := (stepF_len hst).2.1 hL
        rw [hst] at ST EQ
        unfold StepPost at ST
        have HT' := aside0 hT'
        clear hst TS hne hll hT'
        generalize lineN (s.drop p) = n at *
        generalize str ((s.drop p).take n) = SL at *
        go_wp2_with fail
        refine FL.out.mono ?_
        rintro ev w1 ⟨rfl, hw1⟩
        rw [hw1]
        clear hw1 w1 FL
        go_wp2_with fail
        refine ST.out.mono ?_
        rintro ev w2 ⟨rfl, hc2, hb2, hs2⟩
        have P1 := aside0 hc2
        have P2 := aside0 hb2
        have P3 := aside0 hs2
        clear ST hc2 hb2 hs2
        go_wp2_with fail
        go_roundw
        case rel => exact ⟨p + n, L', by omega, by go_num, P1.out, HB.out.trans P2.out, HS.out.trans P3.out, hL', HT'.out, by rw [← HN.out, EQ.out]⟩
        case measure => simp [intOf]; omega
    · have l1 : ¬ (p : Int) < (s.length : Int) := by omega
      have hd0 : s.drop p = [] := List.drop_eq_nil_of_le (by omega)
      have HX : Hid (r = .ok L) := by
        show r = .ok L
        rw [← HN.out, hd0]; rfl
      go_wp2_with fail
      go_ret
      rw [HX.out]
      exact ⟨rfl, HC.out, HB.out⟩
end Go.Proofs.YtmfdmpfeoppnfaaDoor
