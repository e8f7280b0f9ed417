/-
  The document's Print; the program prints as it does.
-/
import Derived.Test.YtmfdmpfeoppnfaaDoorTxt
import Derived.Test.YtmfdmpfeoppnfaaDoorXpw
namespace Go.Proofs.YtmfdmpfeoppnfaaDoor
open Go.RowKit

theorem stepF_bad {cs : List Src} {l : Bs} {c : Nat} (h : stepF cs l = .error c) : c ≠ 0 := by
  unfold stepF at h
  split at h
  · split at h
    · cases h; decide
    · split at h
      · cases h; decide
      · split at h
        · cases h; decide
        · cases h
  · split at h
    · split at h
      · cases h
      · cases h; decide
    · cases h
theorem runF_bad : ∀ (L : List Bs) (p : Nat) (cs : List Src) (c : Nat × Nat), runF p cs L = .error c → c.1 ≠ 0
  | [], p, cs, c, h => by cases h
  | l :: r, p, cs, c, h => by
    unfold runF at h
    cases hs : stepF cs l with
    | error e => rw [hs] at h; cases h; exact stepF_bad hs
    | ok cs' => rw [hs] at h; exact runF_bad r _ cs' c h
theorem parF_bad {s : Bs} {c : Nat × Nat} (h : parF s = .error c) : c.1 ≠ 0 := by
  unfold parF at h
  split at h
  · cases h; decide
  · cases hr : runF 0 [] (lns s) with
    | error e => rw [hr] at h; cases h; exact runF_bad _ _ _ _ hr
    | ok cs =>
      rw [hr] at h
      simp only at h
      split at h
      · cases h; decide
      · cases h

theorem putF_fit : ∀ (P : List Bs) (S : Bs), S.length + P.flatten.length ≤ 4194304 → putF (S, false) P = (S ++ P.flatten, false)
  | [], S, _ => by rw [putF_nil]; simp
  | s :: r, S, h => by
    simp only [List.flatten_cons, List.length_append] at h
    rw [putF_cons, if_neg (by simp; omega), putF_fit r _ (by simp only [List.length_append]; omega)]
    simp
theorem putF_big : ∀ (P : List Bs) (S : Bs), S.length ≤ 4194304 → 4194304 < S.length + P.flatten.length → (putF (S, false) P).2 = true
  | [], S, h, h2 => by simp at h2; omega
  | s :: r, S, h, h2 => by
    simp only [List.flatten_cons, List.length_append] at h2
    rw [putF_cons]
    by_cases hb : 4194304 < S.length + s.length
    · rw [if_pos (.inr hb)]
    · rw [if_neg (by simp; omega)]
      exact putF_big r _ (by simp only [List.length_append]; omega) (by simp only [List.length_append]; omega)
theorem pcs_flat (x : Src) : (pcs x).flatten = crT x := by
  have e : ∀ D : List Bs, (D.flatMap depP).flatten = D.flatMap fun d => 32 :: d := by
    intro D
    induction D with
    | nil => rfl
    | cons d r ih => simp only [List.flatMap_cons, List.flatten_append, ih]; simp [depP]
  unfold pcs crT hdP
  rw [List.take_length]
  simp only [List.flatten_append, e]
  by_cases h : x.deps = []
  · simp [h]
  · rw [if_neg h, if_neg (fun h' => h (List.eq_nil_of_length_eq_zero h'))]; simp
theorem pcs_all (L : List Src) : (L.map pcs).flatten.flatten = textF L := by
  unfold textF
  induction L with
  | nil => rfl
  | cons x r ih => rw [List.map_cons, List.flatten_cons, List.flatten_append, ih, pcs_flat, List.flatMap_cons]
def xprintF (L : List Src) : Option Bs := if meansF (textF L) L = true then some (textF L) else none
theorem printF_eq (L : List Src) : printF L = xprintF L := by
  unfold printF xprintF wriF
  by_cases h : (textF L).length ≤ 4194304
  · rw [putF_fit _ _ (by rw [pcs_all]; simpa using h), pcs_all]
    simp
  · rw [if_neg (fun e => by
      have := putF_big (L.map pcs).flatten [] (by simp) (by rw [pcs_all]; simp; omega)
      rw [this] at e
      exact absurd e.1 (by decide)), if_neg]
    unfold meansF parF
    rw [if_pos (by omega)]
    simp

def XqPost (w : World) (r : Option Bs) (ev : Ending) (w' : World) : Prop :=
  match r with
  | some s => ev = .returned (.tuple #[.string (str s), .int .i64 0]) ∧ Below w.heap.size w w'
  | none => ev = .returned (.tuple #[.string (str []), .int .i64 1]) ∧ Below w.heap.size w w'
set_option maxHeartbeats 4000000 in
theorem xprint_any (w : World) (v : Value) (L : List Src) (h : Srs w v L) (hlen : (textF L).length ≤ 9223372036854775807) :
    Calls Tryd.prog 17 #[v] w (XqPost w (xprintF L)) := by
  have T := hid0 (text_any w v L h hlen)
  have P := xparse_any w (textF L) hlen
  have HH := hid0 h
  obtain ⟨ao, cap, rfl, -⟩ := h.shape
  unfold xprintF meansF
  clear h hlen
  generalize textF L = t at *
  unfold XPost at P
  cases hp : parF t with
  | error c =>
    rw [hp] at P
    have hb := parF_bad hp
    have l0 : ((c.1 : Int) == 0) = false := by simp; omega
    have l9 : (c.1 : Int) ≠ 0 := by omega
    rw [if_neg (by simp)]
    unfold XqPost
    dsimp only
    have HP := hid0 P
    clear P hp hb HH
    generalize str t = S at *
    go_enter Tryd.func17, Tryd.ntmps17
    go_wp2_with fail
    refine T.out.mono ?_
    rintro ev w0 ⟨rfl, rfl⟩
    go_wp2_with fail
    refine HP.out.mono ?_
    rintro ev w1 ⟨rfl, hb⟩
    have AB := aside0 hb
    clear hb HP
    go_wp2_with fail
    go_ret2
    exact ⟨rfl, AB.out⟩
  | ok M =>
    rw [hp] at P
    have HP := hid0 P
    clear P hp
    dsimp only
    by_cases hm : M = L
    · rw [if_pos (eqL_true hm)]
      unfold XqPost
      dsimp only
      go_enter Tryd.func17, Tryd.ntmps17
      go_wp2_with fail
      refine T.out.mono ?_
      rintro ev w0 ⟨rfl, rfl⟩
      go_wp2_with fail
      refine HP.out.mono ?_
      rintro ev w1 ⟨v1, rfl, hs, hb⟩
      have E := hid0 (same_any w1 v1 (.slice ao L.length cap) M L hs (HH.out.below hb))
      rw [eqL_true hm] at E
      have AB := aside0 hb
      obtain ⟨ao1, cap1, rfl, -⟩ := hs.shape
      clear hb hs HP HH hm
      go_wp2_with fail
      refine E.out.mono ?_
      rintro ev w2 ⟨rfl, q, rfl⟩
      go_wp2_with fail
      go_ret2
      exact ⟨rfl, below_drewE AB.out q⟩
    · rw [if_neg (by rw [eqL_false hm]; decide)]
      unfold XqPost
      dsimp only
      go_enter Tryd.func17, Tryd.ntmps17
      go_wp2_with fail
      refine T.out.mono ?_
      rintro ev w0 ⟨rfl, rfl⟩
      go_wp2_with fail
      refine HP.out.mono ?_
      rintro ev w1 ⟨v1, rfl, hs, hb⟩
      have E := hid0 (same_any w1 v1 (.slice ao L.length cap) M L hs (HH.out.below hb))
      rw [eqL_false hm] at E
      have AB := aside0 hb
      obtain ⟨ao1, cap1, rfl, -⟩ := hs.shape
      clear hb hs HP HH hm
      go_wp2_with fail
      refine E.out.mono ?_
      rintro ev w2 ⟨rfl, q, rfl⟩
      go_wp2_with fail
      go_ret2
      exact ⟨rfl, below_drewE AB.out q⟩
end Go.Proofs.YtmfdmpfeoppnfaaDoor
