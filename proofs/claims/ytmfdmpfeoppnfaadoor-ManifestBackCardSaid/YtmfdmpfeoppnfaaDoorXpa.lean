/-
  The document's Parse.
-/
import Derived.Test.YtmfdmpfeoppnfaaDoorXhe
import Derived.Test.YtmfdmpfeoppnfaaDoorMxp
import Derived.Test.YtmfdmpfeoppnfaaDoorAps
namespace Go.Proofs.YtmfdmpfeoppnfaaDoor
open Go.RowKit

/-- Texts in blocks of texts. -/
structure T9 (w : World) (v : Value) (D : List Bs) : Prop where
  len : D.length ≤ 5000000000
  shape : ∃ ao cap, v = .slice ao D.length cap ∧ D.length ≤ cap ∧ ∀ i, i < D.length → ∃ b M, ao = some ⟨b, 0, none⟩ ∧ Row w b 9 M ∧ M[i]? = some (.string (str (D.getD i [])))
theorem T9.st {w w' : World} {v : Value} {D : List Bs} (h : T9 w v D) (hs : St9 w w') : T9 w' v D := by
  refine ⟨h.len, ?_⟩
  obtain ⟨ao, cap, e, h1, h2⟩ := h.shape
  refine ⟨ao, cap, e, h1, fun i hi => ?_⟩
  obtain ⟨b, M, e, r, hm⟩ := h2 i hi
  exact ⟨b, M, e, hs.row _ _ r, hm⟩
theorem T9.ss {w : World} {v : Value} {D : List Bs} (h : T9 w v D) : Ss w v D := by
  obtain ⟨ao, cap, e, h1, h2⟩ := h.shape
  have := h.len
  refine ⟨ao, cap, e, h1, by omega, fun i hi => ?_⟩
  obtain ⟨b, M, e, r, hm⟩ := h2 i hi
  exact ⟨b, 0, e, by rw [Nat.zero_add, r.cell i]; exact hm⟩
theorem T9.ofOwn {w : World} {B : Nat} {v : Value} {D : List Bs} (h : w.ownsRow B 9 1 v D.length (sts D)) (hl : D.length ≤ 5000000000) : T9 w v D := by
  refine ⟨hl, ?_⟩
  rcases h.2 with ⟨rfl, h0⟩ | ⟨g, cap, cur, rfl, hb, hg, h1, h2, h3, h4⟩
  · obtain rfl := List.eq_nil_of_length_eq_zero h0
    exact ⟨_, _, rfl, Nat.le_refl _, fun i hi => by simp at hi⟩
  · refine ⟨_, _, rfl, h1, fun i hi => ⟨g, cur.toList, rfl, ⟨by simpa using hg⟩, ?_⟩⟩
    have e : (sts D)[i]? = some (.string (str (D.getD i []))) := by simp [sts, List.getD, List.getElem?_eq_getElem hi]
    rw [← e, ← h4, List.getElem?_take, if_pos (by omega)]
/-- The crates so far. -/
structure Xo (B : Nat) (w : World) (v : Value) (L : List Src) : Prop where
  ex : ∃ V, w.ownsRow B 43 3 v L.length (svs L V) ∧ V.length = L.length ∧ ∀ i, i < L.length → T9 w (V.getD i undef) (L.getD i Src.zero).deps
theorem Xo.below {B : Nat} {w w' : World} {v : Value} {L : List Src} (h : Xo B w v L) (hb : Below w.heap.size w w') : Xo B w' v L := by
  obtain ⟨V, o, hV, hs⟩ := h.ex
  exact ⟨V, own_past' o hb, hV, fun i hi => (hs i hi).st (St9.of hb)⟩
theorem Xo.srs {B : Nat} {w : World} {v : Value} {L : List Src} (h : Xo B w v L) (hl : L.length ≤ 46912496118442) : Srs w v L := by
  obtain ⟨V, o, hV, hs⟩ := h.ex
  rcases o.2 with ⟨rfl, h0⟩ | ⟨g, cap, cur, rfl, hrest⟩
  · obtain rfl := List.eq_nil_of_length_eq_zero h0
    exact Srs.nil _ _ _
  · refine ⟨_, _, rfl, hrest.2.2.1, hl, fun i hi => ?_⟩
    obtain ⟨e0, e1, e2⟩ := svs_get L V i hV hi
    have r := own_range o
    exact ⟨g, 0, V.getD i undef, rfl, r _ _ e0, by have := r _ _ e1; rwa [← Nat.add_assoc] at this, by have := r _ _ e2; rwa [← Nat.add_assoc] at this, (hs i hi).ss⟩
/-- A longer text. -/
theorem Xo.text {B : Nat} {w : World} {v : Value} {L0 : List Src} {x : Src} (h : Xo B w v (L0 ++ [x])) (l : Bs) : ∃ g cap, v = .slice (some ⟨g, 0, none⟩) (L0.length + 1) cap ∧ w.cell? ⟨g, L0.length * 3 + 2, none⟩ = some (.string (str x.text)) ∧ w.frozen? ⟨g, L0.length * 3 + 2, none⟩ = false ∧ B ≤ g ∧ Xo B (w.setCell ⟨g, L0.length * 3 + 2, none⟩ (.string (str (x.text ++ l)))) v (addL (L0 ++ [x]) l) := by
  obtain ⟨V, O, hV, hS⟩ := h.ex
  rcases O.2 with ⟨_, h0⟩ | ⟨g, cap, cur, rfl, hb, hg, hrest⟩
  · simp at h0
  refine ⟨g, cap, by simp, ?_, by simp [World.frozen?, hg], hb, V, ?_, by rw [addL_len]; exact hV, fun i hi => ?_⟩
  · have e := (svs_get (L0 ++ [x]) V L0.length hV (by simp)).2.2
    have := own_range O _ _ e
    simpa [List.getD] using this
  · rw [addL_snoc, svs_text L0 V x _ hV]
    have := own_set (j := L0.length * 3 + 2) O (.string (str (x.text ++ l)))
    simpa using this
  · rw [addL_len] at hi
    have rg : Row w g 43 cur.toList := ⟨by simpa using hg⟩
    have := (hS i hi).st (St9.setCell (j := L0.length * 3 + 2) (v := .string (str (x.text ++ l))) rg (by decide))
    have e : ((addL (L0 ++ [x]) l).getD i Src.zero).deps = ((L0 ++ [x]).getD i Src.zero).deps := by
      rw [addL_snoc]
      simp at hi
      rcases Nat.lt_or_ge i L0.length with h' | h'
      · simp [List.getD, List.getElem?_append_left h']
      · obtain rfl : i = L0.length := by omega
        simp [List.getD]
    rw [e]; exact this
/-- One crate more. -/
theorem Xo.next {B : Nat} {w w1 w2 : World} {v v' dv : Value} {L : List Src} {V : List Value} {n : Bs} {ds : List Bs} (h1 : St9 w w1) (O : w.ownsRow B 43 3 v L.length (svs L V)) (hV : V.length = L.length) (hs : ∀ i, i < L.length → T9 w (V.getD i undef) (L.getD i Src.zero).deps)
    (hb : Below w.heap.size w w1) (hd : T9 w1 dv ds) (hg : w1.grownBy w2 v.ownBlock) (ho : w2.ownsRow B 43 3 v' (L ++ [(⟨n, ds, []⟩ : Src)]).length (svs (L ++ [⟨n, ds, []⟩]) (V ++ [dv]))) : Xo B w2 v' (L ++ [⟨n, ds, []⟩]) := by
  have s2 : St9 w1 w2 := St9.grown hg (own_type (own_past' O hb))
  refine ⟨V ++ [dv], ho, by simp [hV], fun i hi => ?_⟩
  simp at hi
  rcases Nat.lt_or_ge i L.length with h | h
  · have e1 : (V ++ [dv]).getD i undef = V.getD i undef := by simp [List.getD, List.getElem?_append_left (show i < V.length by omega)]
    have e2 : (L ++ [(⟨n, ds, []⟩ : Src)]).getD i Src.zero = L.getD i Src.zero := by simp [List.getD, List.getElem?_append_left h]
    rw [e1, e2]
    exact ((hs i h).st h1).st s2
  · obtain rfl : i = L.length := by omega
    have e1 : (V ++ [dv]).getD L.length undef = dv := by simp [List.getD, ← hV]
    have e2 : (L ++ [(⟨n, ds, []⟩ : Src)]).getD L.length Src.zero = ⟨n, ds, []⟩ := by simp [List.getD]
    rw [e1, e2]
    exact hd.st s2
/-- What the document's Parse leaves. -/
def XPost (w : World) (r : Except (Nat × Nat) (List Src)) (ev : Ending) (w' : World) : Prop :=
  match r with
  | .error c => ev = .returned (.tuple #[.slice none 0 0, .int .i64 (c.1 : Int), .int .i64 (c.2 : Int)]) ∧ Below w.heap.size w w'
  | .ok L => ∃ v, ev = .returned (.tuple #[v, .int .i64 0, .int .i64 0]) ∧ Srs w' v L ∧ Below w.heap.size w w'
end Go.Proofs.YtmfdmpfeoppnfaaDoor
