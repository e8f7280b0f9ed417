/-
  The texts Xl8, Xn8, joined.
-/
import Derived.Test.YtldbbkheemnnhaaGreatDoorJpRh82
import Derived.Test.YtldbbkheemnnhaaGreatDoorJpRg83
import Derived.Test.YtldbbkheemnnhaaGreatDoorJpXr23
namespace Go.Proofs.YtldbbkheemnnhaaGreatDoor
open Go.RowKit
theorem idx_at {x : Bs} : ∀ {l : List Bs} {i : Nat}, l[i]? = some x -> x ∉ l.take i -> l.idxOf x = i
 | [], _, h, _ => by cases h
 | y :: l, 0, h, _ => by
  have e : y = x := by simpa using h
  subst e
  exact List.idxOf_cons_self
 | y :: l, i + 1, h, hn => by
  rw [List.take_succ_cons, List.mem_cons, not_or] at hn
  have h1 : (y == x) = false := by simpa using fun e : y = x => hn.1 e.symm
  rw [List.idxOf_cons, h1, idx_at (by simpa using h) hn.2]
  rfl
theorem numL_at {x : Bs} {l : List Bs} {i : Nat} (h : l[i]? = some x) (hn : x ∉ l.take i) : numL l x = (i : Int) := by
 unfold numL
 rw [if_pos (List.mem_of_getElem? h), idx_at h hn]
set_option maxHeartbeats 16000000 in
set_option maxRecDepth 20000 in
theorem number44 {K : Ctx} {w : World} {vl : Value} {l : List Bs} {x : Bs} (hl : Strs K w vl l) :
  Calls Tryz.prog 44 #[vl, .string (str x)] w fun ev w' => ev = .returned (.int .i64 (numL l x)) /\ w' = w := by
 obtain ⟨a, p, rfl⟩ := Ar.form hl
 have hcap : l.length <= 140737488355328 := by obtain ⟨_, _, _, _, z1, _⟩ := hl.shape; omega
 have AL := hidP (show ∀ i, i < l.length -> ∃ y, l[i]? = some y /\ ∃ b o, a = some ⟨b, o, none⟩ /\ w.cell? ⟨b, o + i, none⟩ = some (.string (str y)) from fun i h => by
  obtain ⟨b, o, e, _, cs, hc, hr, hp⟩ := Ar.each hl i h
  obtain ⟨rfl, _⟩ := hp
  refine ⟨l[i], List.getElem?_eq_getElem h, b, o, e, ?_⟩
  have := hr 0 _ rfl
  rw [Nat.mul_one, Nat.add_zero] at this
  exact this)
 clear hl
 have HNE := hidP (show ∀ i y, l[i]? = some y -> y ≠ x -> x ∉ l.take i -> x ∉ l.take (i + 1) from fun i y h h1 h2 => by
  obtain ⟨hi, e⟩ := List.getElem?_eq_some_iff.1 h
  rw [List.take_succ_eq_append_getElem hi, List.mem_append, List.mem_singleton, not_or]
  exact ⟨h2, fun e2 => h1 (by rw [← e, ← e2])⟩)
 generalize hn : l.length = n at *
 have HN := hidP hn
 clear hn
 go_enter Tryz.func44, Tryz.ntmps44
 go_wp2_with fail
 go_loopg [5] n (fun k v5 wr => ∃ i : Nat, i + k = n /\ v5 = .int .i64 (i : Int) /\ x ∉ l.take i /\ wr = w)
 case atStart => exact ⟨0, by omega, rfl, by simp, rfl⟩
 case round =>
  obtain ⟨i, hi, rfl, hx, hw⟩ := hrel
  subst hw
  have HX := hidP hx
  clear hx
  by_cases hlt : i < n
  ·obtain ⟨y, hy, b, o, rfl, hc⟩ := AL.out i hlt
   have hsb := str_beq y x
   have l1 : (i : Int) < (n : Int) := by omega
   by_cases hq : y = x
   ·have HR := hidP (numL_at (by rw [hy, hq]) HX.out)
    rw [decide_eq_true hq] at hsb
    generalize str y = S0 at *
    generalize str x = S1 at *
    clear hq hy
    go_wp2_with fail
    go_ret
    exact ⟨by rw [HR.out]; rfl, rfl⟩
   ·have HT := hidP (HNE.out i y hy hq HX.out)
    rw [decide_eq_false hq] at hsb
    generalize str y = S0 at *
    generalize str x = S1 at *
    clear hq hy
    go_wp2_with fail
    go_roundg (gk - 1)
    case measure => omega
    case rel => exact ⟨i + 1, by omega, by go_num, HT.out, rfl⟩
  ·have e : i = n := by omega
   subst e
   have HR := hidP (show numL l x = -1 by
    unfold numL
    rw [if_neg (by have := HX.out; rw [← HN.out, List.take_length] at this; exact this)])
   clear hlt
   go_wp2_with fail
   go_ret
   exact ⟨by rw [HR.out]; rfl, rfl⟩
end Go.Proofs.YtldbbkheemnnhaaGreatDoor

namespace Go.Proofs.YtldbbkheemnnhaaGreatDoor
open Go.RowKit
set_option maxHeartbeats 16000000 in
set_option maxRecDepth 20000 in
theorem xstruct_no {Q : Nat -> Prop} {B : Nat} {w : World} {g : Nat} {L : List Sct} (H : XSc Q B w g L) (hL : L.length <= 1000) {s : Bs} (hs : ∀ x ∈ L, x.name ≠ s) :
  Calls Tryz.prog 45 #[.pointer (some ⟨g, 0, none⟩), .string (str s)] w fun ev w' => ev = .returned (.tuple #[.agg z84.toArray, .bool false]) /\ Below w.heap.size w w' := by
 obtain ⟨v0, v1, hr, ha⟩ := H.ex
 obtain ⟨ao, cap, rfl, _, _, hall⟩ := id ha.shape
 have hA := alloc_one w (.cells z84.toArray 84)
 have R0 : Hid (Row (w.alloc (.cells z84.toArray 84)) w.heap.size 84 z84) := Row.new w 84 z84
 have HN : Hid (∀ j, j < L.length -> ∃ b o nm, ao = some ⟨b, o, none⟩ /\ nm ≠ s /\ (w.alloc (.cells z84.toArray 84)).cell? ⟨b, o + j * 5 + 1, none⟩ = some (.string (str nm))) := fun j h => by
  obtain ⟨b, o, e, hb, c, _, hc, h2⟩ := hall j h
  obtain ⟨_, _, rfl, _⟩ := h2
  exact ⟨b, o, L[j].name, e, hs _ (List.getElem_mem h), (hA.cell (p := ⟨b, o + j * 5 + 1, none⟩) (H.sub b hb)).trans (hc 1 (by decide))⟩
 have x0 := (hr.alloc (.cells z84.toArray 84)).cell 0
 have x1 := (hr.alloc (.cells z84.toArray 84)).cell 2
 simp only [List.getElem?_cons_zero, List.getElem?_cons_succ] at x0 x1
 have HA := hidP hA
 clear H hr ha hall hA hs
 generalize L.length = n at *
 unfold z84 at *
 generalize hWA : w.alloc (.cells [Value.bool false, .string ⟨#[]⟩, .slice none 0 0, .slice none 0 0, .int .i64 0].toArray 84) = WA at *
 have HWA := hidP hWA
 clear hWA
 go_enter Tryz.func45, Tryz.ntmps45
 go_wp2_with fail
 rw [HWA.out]
 clear HWA
 go_loopg [6] n (fun q v6 wr => ∃ k : Nat, k + q = n /\ v6 = .int .i64 (k : Int) /\ wr = WA)
 case atStart => exact ⟨0, by omega, rfl, rfl⟩
 case round =>
  obtain ⟨k, hk, rfl, hw⟩ := hrel
  subst hw
  by_cases hlt : k < n
  ·obtain ⟨b, o, nm, rfl, hne, hc⟩ := HN.out k hlt
   have hsb := str_beq nm s
   rw [decide_eq_false hne] at hsb
   have l1 : (k : Int) < (n : Int) := by omega
   generalize str nm = S0 at *
   generalize str s = S1 at *
   clear hne
   go_wp2_with fail
   go_roundg (gk - 1)
   case measure => omega
   case rel => exact ⟨k + 1, by omega, by go_num, rfl⟩
  ·have e : k = n := by omega
   subst e
   have hi84 : Hid ((Tryz.prog.info? 84).map (·.size) = some (#[Value.bool false, .string ⟨#[]⟩, .slice none 0 0, .slice none 0 0, .int .i64 0] : Array Value).size) := Tryz.sz84
   clear hlt HN
   go_wp2_with fail
   go_loopg [7] 1 (fun q v7 wr2 => v7 = .int .i64 0 /\ wr2 = wr)
   case atStart => exact ⟨rfl, rfl⟩
   case round =>
    obtain ⟨rfl, hw⟩ := hrel
    subst hw
    go_wp2_with (first | (refine stR rfl 84 (.tmp 4) (.tmp 85) rfl (cs := [.bool false, .string ⟨#[]⟩, .slice none 0 0, .slice none 0 0, .int .i64 0]) rfl rfl R0.out Tryz.sz84 rfl (by intro u hu; simp only [List.mem_cons, List.not_mem_nil, or_false] at hu; rcases hu with rfl | rfl | rfl | rfl | rfl <;> rfl) ?_; intro w2 R2 S2; apply shut))
    show wpList _ _ _ _ _ _
    have HB2 := hidP (HA.out.trans (S2.below (C := w.heap.size) HA.out.size (fun q hq => Nat.le_of_eq hq.symm)))
    have R2' := hidP R2
    clear R2 S2 HA R0 x0 x1
    go_wp2_with fail
    exact bodyPost_ret (v := .tuple #[.agg #[.bool false, .string ⟨#[]⟩, .slice none 0 0, .slice none 0 0, .int .i64 0], .bool false]) (results_cell_row2 Tryz.results45 _ _ w.heap.size 84 _ (0, 0) _ rfl R2'.out.heap Tryz.underlying84 rfl hi84.out) rfl ⟨rfl, HB2.out⟩
end Go.Proofs.YtldbbkheemnnhaaGreatDoor
