/-
  The writer's each, a crate written.
-/
import Derived.Test.YtmfdmpfeoppnfaaDoorPut
namespace Go.Proofs.YtmfdmpfeoppnfaaDoor
open Go.RowKit

theorem putF_true : ∀ (P : List Bs) (S : Bs), putF (S, true) P = (S, true)
  | [], _ => by unfold putF; rfl
  | s :: r, S => by unfold putF; rw [if_pos (.inl rfl)]
theorem putF_nil (a : Bs × Bool) : putF a [] = a := by unfold putF; rfl
theorem putF_cons (a : Bs × Bool) (s : Bs) (r : List Bs) : putF a (s :: r) = if a.2 = true ∨ 4194304 < a.1.length + s.length then (a.1, true) else putF (a.1 ++ s, false) r := by
  conv => lhs; unfold putF
theorem putF_app : ∀ (P Q : List Bs) (a : Bs × Bool), putF a (P ++ Q) = putF (putF a P) Q
  | [], Q, a => by rw [putF_nil]; rfl
  | s :: r, Q, a => by
    rw [List.cons_append, putF_cons, putF_cons a s r]
    by_cases h : a.2 = true ∨ 4194304 < a.1.length + s.length
    · rw [if_pos h, if_pos h, putF_true]
    · rw [if_neg h, if_neg h, putF_app r Q]
/-- A crate's pieces. -/
def depP (d : Bs) : List Bs := [[32], d]
def pcs (x : Src) : List Bs := [[61, 61], [32], x.name] ++ ((if x.deps = [] then [] else [[32, 58]]) ++ (x.deps.flatMap depP ++ [[10], x.text]))
/-- A crate at a pointer. -/
structure Sp (w : World) (pb po : Nat) (x : Src) : Prop where
  name : w.cell? ⟨pb, po, none⟩ = some (.string (str x.name))
  deps : ∃ dv, w.cell? ⟨pb, po + 1, none⟩ = some dv ∧ Ss w dv x.deps
  text : w.cell? ⟨pb, po + 2, none⟩ = some (.string (str x.text))
  lim : x.name.length ≤ 140737488355328 ∧ x.text.length ≤ 140737488355328 ∧ x.deps.length ≤ 1000000000 ∧ ∀ d ∈ x.deps, d.length ≤ 140737488355328
theorem Sp.below {w w' : World} {pb po : Nat} {x : Src} (h : Sp w pb po x) (hb : Below w.heap.size w w') : Sp w' pb po x := by
  obtain ⟨dv, h1, h2⟩ := h.deps
  exact ⟨Below.cellOf hb h.name, ⟨dv, Below.cellOf hb h1, h2.below hb⟩, Below.cellOf hb h.text, h.lim⟩
/-- The function cf, handed caps, writes the pieces of member i, at any world behind w0. -/
def Mbr (C b : Nat) (w0 : World) (cf : Nat) (caps : Array Value) (Ms : List (List Bs)) : Prop :=
  ∀ i (hi : i < Ms.length) (S : Bs) (n : Bool) (w : World), S.length ≤ 4194304 → Fr C w0 w → Wtr C b S n w →
    Calls Tryd.prog cf (#[.int .i64 (i : Int)] ++ caps) w fun e w' => e = .returned (.tuple #[]) ∧ Wtr C b (putF (S, n) Ms[i]).1 (putF (S, n) Ms[i]).2 w' ∧ Fr C w w'
set_option maxHeartbeats 4000000 in
theorem each_w {C b : Nat} {w0 : World} {cf : Nat} {caps : Array Value} {Ms : List (List Bs)} (he : ∀ args w, (callFunc cf args).run Tryd.prog w = .ok (.enter cf args) w) (hm : Mbr C b w0 cf caps Ms)
    {S : Bs} {n : Bool} {w : World} (hS : S.length ≤ 4194304) (hf : Fr C w0 w) (h : Wtr C b S n w) (hl9 : Ms.length ≤ 140737488355328) :
    Calls Tryd.prog 35 #[.pointer (some ⟨b, 0, none⟩), .int .i64 (Ms.length : Int), .func (.func cf) #[] caps] w fun e w' => e = .returned (.tuple #[]) ∧ Wtr C b (putF (S, n) Ms.flatten).1 (putF (S, n) Ms.flatten).2 w' ∧ Fr C w w' := by
  have HH := hid0 h
  have HM := hid0 hm
  have HF0 := hid0 hf
  clear h hm hf
  generalize hfin : putF (S, n) Ms.flatten = fin
  have AF := aside0 hfin
  clear hfin
  go_enter Tryd.func35, Tryd.ntmps35
  go_wp2_with fail
  go_loopw [6] (fun i wr => ∃ (k : Nat) (T : Bs) (t : Bool), k ≤ Ms.length ∧ i = .int .i64 k ∧ T.length ≤ 4194304 ∧ Wtr C b T t wr ∧ Fr C w wr ∧ putF (T, t) (Ms.drop k).flatten = fin) (fun i _ => Ms.length - (intOf i).toNat)
  case atStart => exact ⟨0, S, n, by omega, rfl, hS, HH.out, Fr.refl _ _, by simpa using AF.out⟩
  case round =>
    obtain ⟨k, T, t, hk, rfl, hT, hW, hF, hE⟩ := hrel
    have AW := aside0 hW
    have AFr := aside0 hF
    have AE := aside0 hE
    have c2 := hW.bool
    clear hW hF hE
    by_cases h3 : k < Ms.length
    · have l3 : (k : Int) < (Ms.length : Int) := by omega
      cases t with
      | true =>
        have HE : Hid (fin = (T, true)) := by
          show _ = _
          rw [← AE.out, putF_true]
        go_wp2_with fail
        go_end0
        rw [HE.out]
        exact ⟨rfl, AW.out, AFr.out⟩
      | false =>
        have E := hid0 (HM.out k h3 T false wr hT (HF0.out.trans AFr.out) AW.out)
        have hT2 := putF_len Ms[k] (T, false) hT
        have HE : Hid (fin = putF (putF (T, false) Ms[k]) (Ms.drop (k + 1)).flatten) := by
          show _ = _
          rw [← AE.out, List.drop_eq_getElem_cons h3, List.flatten_cons, putF_app]
        generalize putF (T, false) Ms[k] = tt at *
        clear HM
        go_wp2_with fail
        refine E.out.mono ?_
        rintro ev w3 ⟨rfl, p3, p4⟩
        have A3 := aside0 p3
        have A4 := aside0 p4
        clear E p3 p4
        go_wp2_with fail
        go_roundw
        case rel => exact ⟨k + 1, tt.1, tt.2, by omega, by go_num, hT2, A3.out, AFr.out.trans A4.out, HE.out.symm⟩
        case measure => simp [intOf]; omega
    · have l3 : ¬ (k : Int) < (Ms.length : Int) := by omega
      have hd0 : Ms.drop k = [] := List.drop_eq_nil_of_le (by omega)
      have HE : Hid (fin = (T, t)) := by
        show _ = _
        rw [← AE.out, hd0]; rfl
      go_wp2_with fail
      go_end0
      rw [HE.out]
      exact ⟨rfl, AW.out, AFr.out⟩
end Go.Proofs.YtmfdmpfeoppnfaaDoor
