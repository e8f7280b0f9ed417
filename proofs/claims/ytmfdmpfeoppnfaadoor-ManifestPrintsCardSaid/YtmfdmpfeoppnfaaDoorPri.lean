/-
  Does a text mean crates; crates printed.
-/
import Derived.Test.YtmfdmpfeoppnfaaDoorMea
import Derived.Test.YtmfdmpfeoppnfaaDoorPar
namespace Go.Proofs.YtmfdmpfeoppnfaaDoor
open Go.RowKit

def meansF (s : Bs) (L : List Src) : Bool :=
  match parF s with
  | .ok M => eqL M L
  | .error _ => false
set_option maxHeartbeats 4000000 in
theorem means_any (w : World) (s : Bs) (v : Value) (L : List Src) (h : Srs w v L) (m : Int) (hm : w.cell? ⟨0, 0, none⟩ = some (.int .i64 m)) (hlen : s.length ≤ 9223372036854775807) :
    Calls Tryd.prog 26 #[.string (str s), v] w fun ev w' => ev = .returned (.bool (meansF s L)) ∧ Below w.heap.size w w' := by
  have P := parse_any w s m hm hlen
  have HH := hid0 h
  obtain ⟨ao, cap, rfl, -⟩ := h.shape
  unfold meansF
  unfold ParPost at P
  cases hp : parF s with
  | error c =>
    rw [hp] at P
    have HP := hid0 P
    clear P hp HH h hm
    generalize str s = S at *
    go_enter Tryd.func26, Tryd.ntmps26
    go_wp2_with fail
    refine HP.out.mono ?_
    rintro ev w1 ⟨e, rfl, he, hb⟩
    obtain ⟨b, rfl, -⟩ := he.shape
    have AB := aside0 hb
    clear hb he HP
    go_wp2_with fail
    go_ret
    exact ⟨rfl, AB.out⟩
  | ok M =>
    rw [hp] at P
    have HP := hid0 P
    clear P hp h hm
    generalize str s = S at *
    go_enter Tryd.func26, Tryd.ntmps26
    go_wp2_with fail
    refine HP.out.mono ?_
    rintro ev w1 ⟨v1, rfl, hs, hb⟩
    have E := hid0 (eqf_any w1 v1 (.slice ao L.length cap) M L hs (HH.out.below hb))
    have AB := aside0 hb
    obtain ⟨ao1, cap1, rfl, -⟩ := hs.shape
    clear hb hs HP HH
    go_wp2_with fail
    refine E.out.mono ?_
    rintro ev w2 ⟨rfl, hb2⟩
    have AB2 := aside0 (nextB AB.out hb2)
    clear hb2 E
    go_wp2_with fail
    go_ret
    exact ⟨rfl, AB2.out⟩

/-- The text of crates, if there is one. -/
def printF (L : List Src) : Option Bs := if (wriF L).2 = false ∧ meansF (wriF L).1 L = true then some (wriF L).1 else none
def PriPost (w : World) (r : Option Bs) (ev : Ending) (w' : World) : Prop :=
  match r with
  | some s => ev = .returned (.tuple #[.string (str s), .nilIface]) ∧ Below w.heap.size w w'
  | none => ∃ e, ev = .returned (.tuple #[.string (str []), e]) ∧ Er w' e 1 0 ∧ Below w.heap.size w w'
set_option maxHeartbeats 4000000 in
theorem print_any (w : World) (v : Value) (L : List Src) (h : Srs w v L) (hl : LimS L) (m : Int) (hm : w.cell? ⟨0, 0, none⟩ = some (.int .i64 m)) :
    Calls Tryd.prog 16 #[v] w (PriPost w (printF L)) := by
  have W := hid0 (write_any h hl)
  have M := hid0 (fun (y : World) (hy : Below w.heap.size w y) => means_any y (wriF L).1 v L (h.below hy) m (Below.cellOf hy hm) (Nat.le_trans (wriF_len L) (by decide)))
  obtain ⟨ao, cap, rfl, -⟩ := h.shape
  have N := hid0 (fun (y : World) => new_any y 1 0 (by decide))
  clear h hm hl
  unfold printF
  generalize wriF L = tt at *
  obtain ⟨t, f⟩ := tt
  cases f with
  | true =>
    rw [if_neg (by simp)]
    unfold PriPost
    simp only [Bool.not_true] at W
    clear M
    generalize str t = T at *
    go_enter Tryd.func16, Tryd.ntmps16
    go_wp2_with fail
    refine W.out.mono ?_
    rintro ev w1 ⟨rfl, hb1⟩
    have A1 := aside0 hb1
    clear hb1 W
    go_wp2_with fail
    refine (N.out w1).mono ?_
    rintro ev w2 ⟨e, rfl, he, hb2⟩
    have AE := aside0 he
    have A2 := aside0 (nextB A1.out hb2)
    clear he hb2 N
    go_wp2_with fail
    go_ret2
    exact ⟨_, rfl, AE.out, A2.out⟩
  | false =>
    simp only [Bool.not_false] at W
    generalize hmf : meansF t L = mf at *
    cases mf with
    | true =>
      rw [if_pos ⟨rfl, rfl⟩]
      unfold PriPost
      dsimp only
      clear N
      generalize str t = T at *
      go_enter Tryd.func16, Tryd.ntmps16
      go_wp2_with fail
      refine W.out.mono ?_
      rintro ev w1 ⟨rfl, hb1⟩
      have A1 := aside0 hb1
      clear hb1 W
      go_wp2_with fail
      refine (M.out w1 A1.out).mono ?_
      rintro ev w2 ⟨rfl, hb2⟩
      have A2 := aside0 (nextB A1.out hb2)
      clear hb2 M
      go_wp2_with fail
      go_ret2
      exact ⟨rfl, A2.out⟩
    | false =>
      rw [if_neg (by simp)]
      unfold PriPost
      generalize str t = T at *
      go_enter Tryd.func16, Tryd.ntmps16
      go_wp2_with fail
      refine W.out.mono ?_
      rintro ev w1 ⟨rfl, hb1⟩
      have A1 := aside0 hb1
      clear hb1 W
      go_wp2_with fail
      refine (M.out w1 A1.out).mono ?_
      rintro ev w2 ⟨rfl, hb2⟩
      have A2 := aside0 (nextB A1.out hb2)
      clear hb2 M
      go_wp2_with fail
      refine (N.out w2).mono ?_
      rintro ev w3 ⟨e, rfl, he, hb3⟩
      have AE := aside0 he
      have A3 := aside0 (nextB A2.out hb3)
      clear he hb3 N
      go_wp2_with fail
      go_ret2
      exact ⟨_, rfl, AE.out, A3.out⟩
end Go.Proofs.YtmfdmpfeoppnfaaDoor
