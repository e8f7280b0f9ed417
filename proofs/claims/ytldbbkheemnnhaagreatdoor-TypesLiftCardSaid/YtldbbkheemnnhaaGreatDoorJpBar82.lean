/-
  The texts Bar8, Cpy8, joined.
-/
import Derived.Test.YtldbbkheemnnhaaGreatDoorJpOwb8
import Derived.Test.YtldbbkheemnnhaaGreatDoorJpMfd2
import Derived.Test.YtldbbkheemnnhaaGreatDoorQpCr8
import Derived.Test.YtldbbkheemnnhaaGreatDoorJpMp84
namespace Go.Proofs.YtldbbkheemnnhaaGreatDoor
open Go.RowKit
structure ArR (B : Nat) (w0 w : World) (v : Value) (l : List Sct) : Prop where
 shape : (l = [] /\ v = .slice none 0 0) ∨ ∃ (g1 cp N : Nat) (sp : List Value) (dn : List (List Value)), v = .slice (some ⟨g1, 0, none⟩) l.length cp /\ l.length <= cp /\ l.length * 80 <= 140737488355328 /\ w0.heap.size <= g1 /\ g1 < N /\ N <= w.heap.size /\ dn.length = l.length /\ (∀ c ∈ dn, c.length = 5) /\ Row w g1 84 (dn.flatten ++ sp) /\
  ∀ i (h : i < l.length) (h' : i < dn.length), SctQ (fun b => N <= b /\ b < w.heap.size) B w dn[i] l[i]
def OutR (l : List Sct) (B : Nat) (w : World) (g t : Nat) (A R : List Value) (w' : World) : Prop :=
 ∃ v', Stay (fun k => k = g) w w' /\ Row w' g t (A ++ (v' :: R)) /\ ArR B w w' v' l
theorem ArR.stay {B : Nat} {w0 w w' : World} {v : Value} {l : List Sct} (h : ArR B w0 w v l) {X : Nat -> Prop} (hs : Stay X w w') (hX : ∀ k, X k -> k < w0.heap.size) : ArR B w0 w' v l := by
 rcases h.shape with h | ⟨g1, cp, N, sp, dn, h1, h2, h3, h4, h5, h6, h7, h8, h9, h10⟩
 ·exact ⟨.inl h⟩
 ·refine ⟨.inr ⟨g1, cp, N, sp, dn, h1, h2, h3, h4, h5, Nat.le_trans h6 hs.size, h7, h8, hs.row h9 (fun e => by have := hX _ e; omega), fun i hi hi' => ?_⟩⟩
  exact (h10 i hi hi').mono ⟨fun b hb => ⟨hb.1, Nat.lt_of_lt_of_le hb.2 hs.size⟩, fun b hb => hs.block b hb.2 (fun e => by have := hX _ e; have := hb.1; omega)⟩
theorem ArR.past {B : Nat} {w0 w w' : World} {v : Value} {l : List Sct} (h : ArR B w0 w v l) (hb : Below w.heap.size w w') : ArR B w0 w' v l :=
 h.stay (X := fun _ => False) (Stay.of_below hb) (fun _ h => h.elim)
theorem ArR.from' {B : Nat} {w0 w1 w : World} {v : Value} {l : List Sct} (h : ArR B w1 w v l) (h0 : w0.heap.size <= w1.heap.size) : ArR B w0 w v l := by
 rcases h.shape with h | ⟨g1, cp, N, sp, dn, h1, h2, h3, h4, hr⟩
 ·exact ⟨.inl h⟩
 ·exact ⟨.inr ⟨g1, cp, N, sp, dn, h1, h2, h3, Nat.le_trans h0 h4, hr⟩⟩
theorem ArR.form {B : Nat} {w0 w : World} {v : Value} {l : List Sct} (h : ArR B w0 w v l) : ∃ ao cap, v = .slice ao l.length cap := by
 rcases h.shape with ⟨rfl, rfl⟩ | ⟨g1, cp, N, sp, dn, h1, _⟩
 ·exact ⟨_, _, rfl⟩
 ·exact ⟨_, _, h1⟩
theorem ArR.arQ {B : Nat} {w0 w : World} {v : Value} {l : List Sct} (h : ArR B w0 w v l) : ArQ 5 80 (SctQ (Fr w0 w) B w) (Fr w0 w) w v l := by
 rcases h.shape with ⟨rfl, rfl⟩ | ⟨g1, cp, N, sp, dn, h1, h2, h3, h4, h5, h6, h7, h8, h9, h10⟩
 ·exact nil_arQ
 ·refine ⟨_, _, h1, h2, h3, fun i hi => ⟨g1, 0, rfl, ⟨h4, by omega⟩, dn[i]'(by omega), h8 _ (List.getElem_mem _), fun j hj => ?_, ?_⟩⟩
  ·have hid : i < dn.length := by omega
   have h1 : (i + 1) * 5 <= dn.length * 5 := Nat.mul_le_mul_right 5 hid
   rw [Nat.zero_add, h9.cell, List.getElem?_append_left (by rw [flat_len h8]; omega), flat_get h8 i hid j hj]
  ·exact (h10 i hi (by omega)).mono ⟨fun b hb => ⟨by have := hb.1; omega, hb.2⟩, fun _ _ => rfl⟩
theorem Inv.doneR {B : Nat} {l : List Sct} {css : List (List Value)} {sp A R : List Value} {w w1 wr : World} {g g1 t cp : Nat} (h : Inv SctQ bareSc B 5 l css sp A R (.slice (some ⟨g1, 0, none⟩) l.length cp) w w1 g g1 t 84 l.length wr) (hg1 : w.heap.size <= g1) (hg1' : g1 < w1.heap.size) (_hw1 : w.heap.size <= w1.heap.size)
  (hcp : l.length <= cp) (hb : l.length * 80 <= 140737488355328) : OutR (l.map bareSc) B w g t A R wr := by
 obtain ⟨dn, d1, d2, d3, d4, d5, d6, d7⟩ := h.ex
 refine ⟨_, d5, d3, ⟨.inr ⟨g1, cp, w1.heap.size, (css.drop l.length).flatten ++ sp, dn, by rw [List.length_map], by rw [List.length_map]; exact hcp, by rw [List.length_map]; exact hb, hg1, hg1', d6, by rw [List.length_map]; exact d1, d2, d4, fun i hi hi' => ?_⟩⟩⟩
 rw [List.length_map] at hi
 rw [List.getElem_map]
 exact d7 i hi' hi
set_option maxHeartbeats 8000000 in
theorem ownSctsR_any {K : Ctx} {w : World} {g t : Nat} {A R : List Value} {v : Value} {l : List Sct} {o : Nat} (hr : Row w g t (A ++ (v :: R))) (hA : A.length = o) (ha : Ar 5 80 (SctAt K w) K w v l) (hg : K.C <= g) :
  Calls Tryz.prog 130 #[.pointer (some ⟨g, o, none⟩), .func (.func 131) #[] #[]] w fun ev w' => ev = .returned (.tuple #[]) /\ OutR (l.map bareSc) K.B w g t A R w' := by
 have E : OwnC 131 5 (α := Sct) SctAt SctQ bareSc := bareStruct_any
 generalize hM : l.map bareSc = M
 have hlt := hr.lt
 have hbz : l.length * 80 <= 140737488355328 := by obtain ⟨_, _, _, _, h, _⟩ := ha.shape; exact h
 obtain ⟨ao, cap, css, rfl, c1, c2, c3, c4, c5⟩ := ha.rows (fun _ _ h => (kinSct).one (w := w) h)
 have cv : w.cell? ⟨g, o, none⟩ = some (.slice ao l.length cap) := by rw [hr.cell o, ← hA]; simp
 have zv : w.frozen? ⟨g, o, none⟩ = false := hr.fz o
 have HST : Hid (∀ (w1 : World) (u : Value), Stay (fun k => k = g) w w1 -> Row w1 g t (A ++ (.slice ao l.length cap :: R)) -> Row (w1.setCell ⟨g, o, none⟩ u) g t (A ++ (u :: R)) /\ Stay (fun k => k = g) w (w1.setCell ⟨g, o, none⟩ u) /\ (w1.setCell ⟨g, o, none⟩ u).cell? ⟨g, o, none⟩ = some u /\ (w1.setCell ⟨g, o, none⟩ u).heap.size = w1.heap.size) := by
  intro w1 u hs hr1
  have h1 := hr1.set o u
  have e1 : (A ++ (Value.slice ao l.length cap :: R)).set o u = A ++ (u :: R) := by rw [← hA]; simp
  rw [e1] at h1
  refine ⟨h1, Stay.set (X := fun k => k = g) hs (fun _ => rfl) _ _, by rw [h1.cell o, ← hA]; simp, by simp [World.setCell]⟩
 rcases Nat.eq_zero_or_pos l.length with h0 | h0
 ·have hl0 : l = [] := List.length_eq_zero_iff.1 h0
  subst hl0
  obtain ⟨k1, k2, k3, _⟩ := HST.out w (.slice none 0 0) (Stay.refl _ _) hr
  have K1 : Hid (OutR M K.B w g t A R (w.setCell ⟨g, o, none⟩ (.slice none 0 0))) := by rw [← hM]; exact ⟨_, k2, k1, ⟨.inl ⟨rfl, rfl⟩⟩⟩
  clear HST hr ha E c1 c2 c3 c4 c5 hg hlt k1 k2 hbz h0
  clear hM
  simp only [List.length_nil] at cv
  go_enter Tryz.func130, Tryz.ntmps130
  go_wp2_with (at_builtin; refine app_zero rfl (.const (.slice none 0 0)) (.tmp 8) 66 84 5 80 (.agg #[.bool false, .string (str []), .slice none 0 0, .slice none 0 0, .int .i64 0]) rfl rfl Tryz.underlying66 (by kernel_rfl) rfl (by decide) ao cap rfl ?_)
  go_loopw [15] (fun i wr => i = .int .i64 0 /\ wr = w.setCell ⟨g, o, none⟩ (.slice none 0 0)) (fun _ _ => 0)
  case atStart => exact ⟨rfl, rfl⟩
  case round =>
   obtain ⟨rfl, rfl⟩ := hrel
   go_wp2_with fail
   go_end0
   exact ⟨rfl, K1.out⟩
 ·have HH : Hid (0 < l.length /\ css.length = l.length /\ (∀ c ∈ css, c.length = 5) /\ (∀ u ∈ css.flatten, u.oneCell' = true) /\ (l.length = 0 ∨ ∃ b o, ao = some ⟨b, o, none⟩ /\ ∀ j u, css.flatten[j]? = some u -> w.cell? ⟨b, o + j, none⟩ = some u) /\ l.length <= 4611686018427387904 /\ l.length * 80 <= 140737488355328) := by
   refine ⟨h0, c1, c2, c4, ?_, by omega, hbz⟩
   rcases c5 with h | h
   ·subst h; cases h0
   ·exact .inr h
  have hl9 : l.length <= 9223372036854775807 := by omega
  have AFT : Hid (∀ (w1 : World) (g1 cp : Nat) (sp : List Value), l.length <= cp -> w.heap.size <= g1 -> Row w1 g1 84 (css.flatten ++ sp) -> Below w.heap.size w w1 -> w1.cell? ⟨g, o, none⟩ = some (.slice ao l.length cap) /\ w1.frozen? ⟨g, o, none⟩ = false /\ (w1.setCell ⟨g, o, none⟩ (.slice (some ⟨g1, 0, none⟩) l.length cp)).cell? ⟨g, o, none⟩ = some (.slice (some ⟨g1, 0, none⟩) l.length cp) /\
    Inv SctQ bareSc K.B 5 l css sp A R (.slice (some ⟨g1, 0, none⟩) l.length cp) w w1 g g1 t 84 0 (w1.setCell ⟨g, o, none⟩ (.slice (some ⟨g1, 0, none⟩) l.length cp)) /\
    (∀ k wr, Inv SctQ bareSc K.B 5 l css sp A R (.slice (some ⟨g1, 0, none⟩) l.length cp) w w1 g g1 t 84 k wr -> k < l.length -> ∀ off, off = k * 5 -> Calls Tryz.prog 131 #[.pointer (some ⟨g1, off, none⟩)] wr fun ev w2 => ev = .returned (.tuple #[]) /\ Inv SctQ bareSc K.B 5 l css sp A R (.slice (some ⟨g1, 0, none⟩) l.length cp) w w1 g g1 t 84 (k + 1) w2) /\
    (∀ k wr, Inv SctQ bareSc K.B 5 l css sp A R (.slice (some ⟨g1, 0, none⟩) l.length cp) w w1 g g1 t 84 k wr -> wr.cell? ⟨g, o, none⟩ = some (.slice (some ⟨g1, 0, none⟩) l.length cp)) /\
    (∀ wr, Inv SctQ bareSc K.B 5 l css sp A R (.slice (some ⟨g1, 0, none⟩) l.length cp) w w1 g g1 t 84 l.length wr -> OutR M K.B w g t A R wr)) := by
   intro w1 g1 cp sp hcp hg1 hR1 hB
   have hr1 := hr.below hB hlt
   have hsz1 := hB.size
   have hg1' := hR1.lt
   obtain ⟨k1, k2, k3, k4⟩ := HST.out w1 (.slice (some ⟨g1, 0, none⟩) l.length cp) (Stay.of_below hB) hr1
   refine ⟨by rw [hr1.cell o, ← hA]; simp, hr1.fz o, k3, ⟨[], rfl, fun c h => absurd h (by simp), k1, ?_, k2, by omega, fun j h => absurd h (by simp)⟩, ?_, ?_, ?_⟩
   ·simpa using hR1.other (g' := g) (j := o) (by omega) (.slice (some ⟨g1, 0, none⟩) l.length cp)
   ·intro k wr hi hk off ho
    exact Inv.call (P := SctAt) (PQ := SctQ) (F := bareSc) E (kinSct) hi hg hlt hg1 hg1' c1 c3 hk off ho
   ·intro k wr hi
    obtain ⟨_, _, _, d3, _⟩ := hi.ex
    rw [d3.cell o, ← hA]; simp
   ·intro wr hi
    rw [← hM]
    exact Inv.doneR hi hg1 hg1' hsz1 hcp hbz
  clear HST hr ha E c1 c2 c3 c4 c5 hg hlt hbz h0 hM
  go_enter Tryz.func130, Tryz.ntmps130
  go_wp2_with (at_builtin; refine app_some rfl (.const (.slice none 0 0)) (.tmp 8) 66 84 5 80 (.agg #[.bool false, .string (str []), .slice none 0 0, .slice none 0 0, .int .i64 0]) rfl rfl Tryz.underlying66 (by kernel_rfl) rfl (by decide) ao l.length cap css rfl HH.out ?_; intro g1 cp sp w1 hcp hg1 hR1 hB1; obtain ⟨q1, q2, q3, I0, CL, CE, DN⟩ := AFT.out w1 g1 cp sp hcp hg1 hR1 hB1; replace I0 := hidO I0; replace CL := hidO CL; replace CE := hidO CE; replace DN := hidO DN; clear hR1 hB1 hg1 hcp)
  go_loopw [15] (fun i wr => ∃ k : Nat, k <= l.length /\ i = .int .i64 k /\ Inv SctQ bareSc K.B 5 l css sp A R (.slice (some ⟨g1, 0, none⟩) l.length cp) w w1 g g1 t 84 k wr) (fun i _ => l.length - (intOf i).toNat)
  case atStart => exact ⟨0, by omega, rfl, I0.out⟩
  case round =>
   obtain ⟨k, hk, rfl, hi⟩ := hrel
   have ce := CE.out k wr hi
   by_cases h3 : k < l.length
   ·have i1 : (k : Int) < (l.length : Int) := by omega
    have D := hidO (fun off ho => CL.out k wr hi h3 off ho)
    clear hi I0 CL CE DN q1 q2 q3 cv zv AFT HH
    go_wp2_with fail
    refine (D.out _ (by omega)).mono ?_
    rintro _ w2 ⟨rfl, i2⟩
    replace i2 := hidO i2
    clear ce D
    go_wp2_with fail
    go_roundw
    case rel => exact ⟨k + 1, by omega, by go_num, i2.out⟩
    case measure => simp [intOf]; omega
   ·have i1 : ¬ (k : Int) < (l.length : Int) := by omega
    obtain rfl : k = l.length := by omega
    have D := hidO (DN.out wr hi)
    clear hi I0 CL CE DN q1 q2 q3 cv zv AFT HH
    go_wp2_with fail
    go_end0
    exact ⟨rfl, D.out⟩
set_option maxHeartbeats 8000000 in
theorem ownFncs_nil {w : World} {g t : Nat} {A R : List Value} {a : Option Addr} {cap o : Nat} (hr : Row w g t (A ++ (.slice a 0 cap :: R))) (hA : A.length = o) :
  Calls Tryz.prog 132 #[.pointer (some ⟨g, o, none⟩), .func (.func 133) #[] #[]] w fun ev w' => ev = .returned (.tuple #[]) /\ Stay (fun k => k = g) w w' /\ Row w' g t (A ++ (.slice none 0 0 :: R)) := by
 have cv : w.cell? ⟨g, o, none⟩ = some (.slice a 0 cap) := by rw [hr.cell o, ← hA]; simp
 have zv : w.frozen? ⟨g, o, none⟩ = false := hr.fz o
 have HR : Hid (Row (w.setCell ⟨g, o, none⟩ (.slice none 0 0)) g t (A ++ (.slice none 0 0 :: R))) := by
  have h1 := hr.set o (.slice none 0 0)
  have e1 : (A ++ (Value.slice a 0 cap :: R)).set o (.slice none 0 0) = A ++ (.slice none 0 0 :: R) := by rw [← hA]; simp
  rw [e1] at h1; exact h1
 have HS : Hid (Stay (fun k => k = g) w (w.setCell ⟨g, o, none⟩ (.slice none 0 0))) := Stay.set (X := fun k => k = g) (Stay.refl _ _) (fun _ => rfl) _ _
 have k3 : (w.setCell ⟨g, o, none⟩ (.slice none 0 0)).cell? ⟨g, o, none⟩ = some (.slice none 0 0) := by rw [HR.out.cell o, ← hA]; simp
 clear hr
 go_enter Tryz.func132, Tryz.ntmps132
 go_wp2_with (at_builtin; refine app_zero rfl (.const (.slice none 0 0)) (.tmp 8) 67 114 10 176 (.agg (Value.bool false :: .string (str []) :: .slice none 0 0 :: .slice none 0 0 :: (tyCells 0 ++ [.slice none 0 0, .int .i64 0])).toArray) rfl rfl Tryz.underlying67 (by kernel_rfl) rfl (by decide) a cap rfl ?_)
 go_loopw [15] (fun i wr => i = .int .i64 0 /\ wr = w.setCell ⟨g, o, none⟩ (.slice none 0 0)) (fun _ _ => 0)
 case atStart => exact ⟨rfl, rfl⟩
 case round =>
  obtain ⟨rfl, rfl⟩ := hrel
  go_wp2_with fail
  go_end0
  exact ⟨rfl, HS.out, HR.out⟩
set_option maxHeartbeats 8000000 in
theorem bareR_any {K : Ctx} {w : World} (hC : K.C <= w.heap.size) {Ls : List Sct} {v0 : Value} {a1 : Option Addr} {p1 : Nat} (h0 : Ar 5 80 (SctAt K w) K w v0 Ls) :
  Calls Tryz.prog 99 #[.agg #[v0, .slice a1 0 p1]] w fun ev w' => ∃ u0, ev = .returned (.agg #[u0, .slice none 0 0]) /\ Below w.heap.size w w' /\ ArR K.B w w' u0 (Ls.map bareSc) := by
 obtain ⟨a0, c0, rfl⟩ := h0.form
 have hsz2 := size_two w (.cells #[.slice a0 Ls.length c0, .slice a1 0 p1] 69) (.cells #[.slice none 0 0, .slice none 0 0] 69)
 have hA : Below w.heap.size w ((w.alloc (.cells #[.slice a0 Ls.length c0, .slice a1 0 p1] 69)).alloc (.cells #[.slice none 0 0, .slice none 0 0] 69)) := alloc_two w _ _
 have R1 : Row ((w.alloc (.cells #[.slice a0 Ls.length c0, .slice a1 0 p1] 69)).alloc (.cells #[.slice none 0 0, .slice none 0 0] 69)) w.heap.size 69 [.slice a0 Ls.length c0, .slice a1 0 p1] := (Row.new w 69 [.slice a0 Ls.length c0, .slice a1 0 p1]).alloc _
 have R2 : Hid (Row ((w.alloc (.cells #[.slice a0 Ls.length c0, .slice a1 0 p1] 69)).alloc (.cells #[.slice none 0 0, .slice none 0 0] 69)) (w.heap.size + 1) 69 [.slice none 0 0, .slice none 0 0]) := by
  have := Row.new (w.alloc (.cells #[.slice a0 Ls.length c0, .slice a1 0 p1] 69)) 69 [.slice none 0 0, .slice none 0 0]
  rw [size_alloc] at this; exact this
 have T0 := hidP (ownSctsR_any (K := K) (A := []) (R := [.slice a1 0 p1]) R1 rfl (h0.mono (below_le hA hC) fun _ _ _ h => h.below (below_le hA hC)) hC)
 have HA := hidP hA
 clear h0 hA R1
 generalize Ls.length = n0 at *
 generalize hM : Ls.map bareSc = M at *
 generalize hW2 : (w.alloc (.cells #[.slice a0 n0 c0, .slice a1 0 p1] 69)).alloc (.cells #[.slice none 0 0, .slice none 0 0] 69) = W2 at *
 have HW2 := hidP hW2
 replace hsz2 := hidP hsz2
 clear hM hW2
 go_enter Tryz.func99, Tryz.ntmps99
 go_wp2_with fail
 rw [HW2.out]
 refine T0.out.mono ?_
 rintro _ w3 ⟨rfl, u0, s1, r1, q1⟩
 have D := hidP (ownFncs_nil (A := [u0]) (R := []) r1 rfl)
 obtain ⟨b0, m0, rfl⟩ := q1.form
 have S1 := hidP s1
 have Q1 := hidP q1
 clear T0 s1 r1 q1 HW2
 go_wp2_with fail
 refine D.out.mono ?_
 rintro _ w4 ⟨rfl, s2, r2⟩
 have hs3 := S1.out.size
 have hs4 := s2.size
 have hz2 := hsz2.out
 have Q2 := hidP (Q1.out.stay s2 (fun k e => by omega))
 have R4 := hidP (s2.row (S1.out.row R2.out (by omega)) (by omega))
 have HB4 := hidP (HA.out.trans ((S1.out.trans s2).below (by omega) (fun q hq => by omega)))
 have r3 := hidP r2
 clear D R2 S1 Q1 HA s2 r2
 go_wp2_with (first | (refine ldR rfl 69 (.tmp 1) rfl rfl r3.out Tryz.underlying69 rfl Tryz.sz69 ?_; apply shut))
 show wpList _ _ _ _ _ _
 refine stR rfl 69 (.tmp 2) (.tmp 7) rfl (cs := [.slice b0 M.length m0, .slice none 0 0]) rfl rfl R4.out Tryz.sz69 rfl (by intro u hu; simp only [List.mem_cons, List.not_mem_nil, or_false] at hu; rcases hu with rfl | rfl <;> rfl) ?_
 intro w5 R5 S5
 have Q5 := hidP ((Q2.out.stay S5 (fun k e => by omega)).from' (w0 := w) (by omega))
 have HB5 := hidP (HB4.out.trans (S5.below (C := w.heap.size) HB4.out.size (fun q hq => by omega)))
 replace R5 := hidP R5
 clear Q2 R4 HB4 r3 S5
 go_wp2_with fail
 exact bodyPost_ret (v := .agg #[.slice b0 M.length m0, .slice none 0 0]) (results_cell_row Tryz.results99 _ _ (w.heap.size + 1) 69 _ (0, 0) _ rfl R5.out.heap Tryz.underlying69 rfl (by kernel_rfl)) rfl ⟨_, rfl, HB5.out, Q5.out⟩
end Go.Proofs.YtldbbkheemnnhaaGreatDoor

namespace Go.Proofs.YtldbbkheemnnhaaGreatDoor
open Go.RowKit
theorem flat_set {z : Nat} {u : Value} : ∀ {css : List (List Value)}, (∀ c ∈ css, c.length = z) -> ∀ (i : Nat) (h : i < css.length) (j : Nat), j < z -> css.flatten.set (i * z + j) u = (css.set i (css[i].set j u)).flatten
 | [], _, _, h, _, _ => by cases h
 | c :: css, hz, 0, _, j, hj => by
  have h2 := hz c (List.mem_cons_self)
  simp only [List.flatten_cons, Nat.zero_mul, Nat.zero_add, List.getElem_cons_zero, List.set_cons_zero]
  rw [List.set_append_left _ _ (by omega)]
 | c :: css, hz, i + 1, h, j, hj => by
  have h2 := hz c (List.mem_cons_self)
  have h3 := flat_set (u := u) (css := css) (fun c hc => hz c (List.mem_cons_of_mem _ hc)) i (by simpa using h) j hj
  simp only [List.flatten_cons, List.getElem_cons_succ, List.set_cons_succ]
  rw [List.set_append_right _ _ (by rw [h2, Nat.succ_mul]; omega), ← h3]
  congr 2
  rw [h2, Nat.succ_mul]; omega
theorem ArR.poke {B : Nat} {w0 w : World} {v : Value} {A C : List Sct} {x : Sct} (h : ArR B w0 w v (A ++ x :: C)) : ∃ g1 cp, v = .slice (some ⟨g1, 0, none⟩) (A ++ x :: C).length cp /\ w.cell? ⟨g1, A.length * 5 + 4, none⟩ = some (.int .i64 x.pos) /\ w.frozen? ⟨g1, A.length * 5 + 4, none⟩ = false /\ w0.heap.size <= g1 /\ g1 < w.heap.size /\
  ∀ p, ArR B w0 (w.setCell ⟨g1, A.length * 5 + 4, none⟩ (.int .i64 p)) v (A ++ { x with pos := p } :: C) := by
 rcases h.shape with ⟨h, _⟩ | ⟨g1, cp, N, sp, dn, h1, h2, h3, h4, h5, h6, h7, h8, h9, h10⟩
 ·exact absurd h (by simp)
 have hk : A.length < (A ++ x :: C).length := by simp
 have hkd : A.length < dn.length := by omega
 have hxk : (A ++ x :: C)[A.length] = x := by simp
 have hq := h10 A.length hk hkd
 rw [hxk] at hq
 obtain ⟨v2, v3, e, hn, q2, q3⟩ := hq
 have hz := h9.lt
 refine ⟨g1, cp, h1, ?_, h9.fz _, h4, hz, fun p => ?_⟩
 ·have h11 : (A.length + 1) * 5 <= dn.length * 5 := Nat.mul_le_mul_right 5 hkd
  rw [h9.cell, List.getElem?_append_left (by rw [flat_len h8]; omega), flat_get h8 A.length hkd 4 (by decide), e]; rfl
 ·have hl : (A ++ { x with pos := p } :: C).length = (A ++ x :: C).length := by simp
  have h11 : (A.length + 1) * 5 <= dn.length * 5 := Nat.mul_le_mul_right 5 hkd
  have hr := h9.set (A.length * 5 + 4) (.int .i64 p)
  rw [List.set_append_left _ _ (by rw [flat_len h8]; omega), flat_set h8 A.length hkd 4 (by decide)] at hr
  have hS : Stay (fun k => k = g1) w (w.setCell ⟨g1, A.length * 5 + 4, none⟩ (.int .i64 p)) := Stay.set (X := fun k => k = g1) (Stay.refl _ _) (fun _ => rfl) _ _
  have hsz := hS.size
  have kp : Kp (fun b => N <= b /\ b < w.heap.size) (fun b => N <= b /\ b < (w.setCell ⟨g1, A.length * 5 + 4, none⟩ (.int .i64 p)).heap.size) w (w.setCell ⟨g1, A.length * 5 + 4, none⟩ (.int .i64 p)) := ⟨fun b hb => ⟨hb.1, Nat.lt_of_lt_of_le hb.2 hsz⟩, fun b hb => hS.block b hb.2 (fun e => by have := hb.1; omega)⟩
  refine ⟨.inr ⟨g1, cp, N, sp, dn.set A.length (dn[A.length].set 4 (.int .i64 p)), by rw [hl]; exact h1, by rw [hl]; exact h2, by rw [hl]; exact h3, h4, h5, Nat.le_trans h6 hsz, by rw [List.length_set, hl]; exact h7, ?_, hr, ?_⟩⟩
  ·intro c hc
   rcases List.mem_or_eq_of_mem_set hc with hc | rfl
   ·exact h8 c hc
   ·rw [List.length_set]; exact h8 _ (List.getElem_mem _)
  ·intro i hi hi'
   rw [List.length_set] at hi'
   rw [hl] at hi
   by_cases he : i = A.length
   ·subst he
    have e1 : (A ++ { x with pos := p } :: C)[A.length]'(by rw [hl]; exact hi) = { x with pos := p } := by simp
    rw [List.getElem_set_self, e1, e]
    exact ⟨v2, v3, rfl, hn, q2.mono kp, q3.mono kp fun _ _ _ h => h.mono kp⟩
   ·have e1 : (A ++ { x with pos := p } :: C)[i]'(by rw [hl]; exact hi) = (A ++ x :: C)[i] := by
     rcases Nat.lt_or_ge i A.length with h' | h'
     ·rw [List.getElem_append_left h', List.getElem_append_left h']
     ·rw [List.getElem_append_right h', List.getElem_append_right h']
      obtain ⟨m, hm⟩ : ∃ m, i - A.length = m + 1 := ⟨i - A.length - 1, by omega⟩
      simp only [hm, List.getElem_cons_succ]
    rw [List.getElem_set_ne (fun e => he e.symm), e1]
    exact (h10 i hi hi').mono kp
def cpyL (Ls : List Sct) (k : Nat) : List Sct := Ls.take k ++ (Ls.drop k).map bareSc
theorem cpy_zero (Ls : List Sct) : cpyL Ls 0 = Ls.map bareSc := by simp [cpyL]
theorem cpy_all (Ls : List Sct) : cpyL Ls Ls.length = Ls := by simp [cpyL]
theorem cpy_at {Ls : List Sct} {k : Nat} (h : k < Ls.length) : cpyL Ls k = Ls.take k ++ bareSc Ls[k] :: (Ls.drop (k + 1)).map bareSc := by
 unfold cpyL
 rw [List.drop_eq_getElem_cons h]; rfl
theorem cpy_next {Ls : List Sct} {k : Nat} (h : k < Ls.length) : cpyL Ls (k + 1) = Ls.take k ++ { bareSc Ls[k] with pos := Ls[k].pos } :: (Ls.drop (k + 1)).map bareSc := by
 unfold cpyL bareSc
 rw [List.take_add_one, List.getElem?_eq_getElem h]
 show (Ls.take k ++ [Ls[k]]) ++ _ = _
 rw [List.append_assoc]; rfl
set_option maxHeartbeats 16000000 in
set_option maxRecDepth 20000 in
theorem copyOf_any {K : Ctx} {w : World} (hC : K.C <= w.heap.size) {Ls : List Sct} {v0 : Value} {a1 : Option Addr} {p1 : Nat} (h0 : Ar 5 80 (SctAt K w) K w v0 Ls) :
  Calls Tryz.prog 64 #[.agg #[v0, .slice a1 0 p1]] w fun ev w' => ∃ u0, ev = .returned (.agg #[u0, .slice none 0 0]) /\ Below w.heap.size w w' /\ ArR K.B w w' u0 Ls := by
 have hbig : Ls.length <= 140737488355328 := by obtain ⟨_, _, _, _, h, _⟩ := h0.shape; omega
 have HG := hidP h0
 have HC := hidP hC
 obtain ⟨a0, c0, rfl⟩ := h0.form
 have hsz2 := hidP (size_two w (.cells #[.slice a0 Ls.length c0, .slice a1 0 p1] 69) (.cells #[.slice none 0 0, .slice none 0 0] 69))
 have hA : Below w.heap.size w ((w.alloc (.cells #[.slice a0 Ls.length c0, .slice a1 0 p1] 69)).alloc (.cells #[.slice none 0 0, .slice none 0 0] 69)) := alloc_two w _ _
 have R1 : Hid (Row ((w.alloc (.cells #[.slice a0 Ls.length c0, .slice a1 0 p1] 69)).alloc (.cells #[.slice none 0 0, .slice none 0 0] 69)) w.heap.size 69 [.slice a0 Ls.length c0, .slice a1 0 p1]) := (Row.new w 69 [.slice a0 Ls.length c0, .slice a1 0 p1]).alloc _
 have R2 : Hid (Row ((w.alloc (.cells #[.slice a0 Ls.length c0, .slice a1 0 p1] 69)).alloc (.cells #[.slice none 0 0, .slice none 0 0] 69)) (w.heap.size + 1) 69 [.slice none 0 0, .slice none 0 0]) := by
  have := Row.new (w.alloc (.cells #[.slice a0 Ls.length c0, .slice a1 0 p1] 69)) 69 [.slice none 0 0, .slice none 0 0]
  rw [size_alloc] at this; exact this
 have T0 := hidP (bareR_any (K := K) (a1 := a1) (p1 := p1) (Nat.le_trans hC hA.size) (h0.mono (below_le hA hC) fun _ _ _ h => h.below (below_le hA hC)))
 have HA := hidP hA
 clear h0 hA
 obtain ⟨n, hnl⟩ : ∃ n, n = Ls.length := ⟨_, rfl⟩
 rw [← hnl] at hsz2 R1 R2 T0 HA hbig ⊢
 have HNL := hidP hnl
 clear hnl
 generalize hW2 : (w.alloc (.cells #[.slice a0 n c0, .slice a1 0 p1] 69)).alloc (.cells #[.slice none 0 0, .slice none 0 0] 69) = W2 at *
 have HW2 := hidP hW2
 clear hW2
 go_enter Tryz.func64, Tryz.ntmps64
 go_wp2_with fail
 rw [HW2.out]
 clear HW2
 refine T0.out.mono ?_
 rintro _ w3 ⟨u0, rfl, hb3, q3⟩
 obtain ⟨b0, m0, rfl⟩ := q3.form
 rw [List.length_map]
 have e0 : Ls.length = n := HNL.out.symm
 rw [e0]
 rw [List.length_map, e0] at q3
 have hz2 := hsz2.out
 have hz3 := hb3.size
 have hb0 : ∀ g, b0 = some ⟨g, 0, none⟩ -> g < w3.heap.size := fun g e => by
  rcases q3.shape with ⟨h, h'⟩ | ⟨g1, cp, N, sp, dn, h1, _, _, _, h5, h6, _⟩
  ·cases h'; cases e
  ·cases h1; cases e; omega
 have R3 := hidP (R1.out.below hb3 R1.out.lt)
 have R4 := hidP (R2.out.below hb3 R2.out.lt)
 have HB3 := hidP (HA.out.trans (below_le hb3 HA.out.size))
 have RN : Hid (Row (w3.alloc (.cells #[.slice none 0 0, .slice none 0 0] 69)) w3.heap.size 69 [.slice none 0 0, .slice none 0 0]) := Row.new w3 69 _
 have HN := hidP (alloc_one w3 (.cells #[.slice none 0 0, .slice none 0 0] 69))
 have Q3 := hidP q3
 clear T0 hb3 q3 R1 R2 HA hsz2 e0
 go_wp2_with (first | (refine stR rfl 69 (.tmp 3) (.tmp 9) rfl (cs := [.slice b0 n m0, .slice none 0 0]) rfl rfl RN.out Tryz.sz69 rfl (by intro u hu; simp only [List.mem_cons, List.not_mem_nil, or_false] at hu; rcases hu with rfl | rfl <;> rfl) ?_; intro w4 R5 S4; apply shut))
 show wpList _ _ _ _ _ _
 have R6 := hidP (S4.row (R3.out.below HN.out R3.out.lt) (by omega))
 have R7 := hidP (S4.row (R4.out.below HN.out R4.out.lt) (by omega))
 have hS4 : Below w3.heap.size w3 w4 := HN.out.trans (S4.below (C := w3.heap.size) HN.out.size (fun q hq => by omega))
 have Q4 := hidP (Q3.out.past hS4)
 have HB4 := hidP (HB3.out.trans (below_le hS4 HB3.out.size))
 have hz4 := hS4.size
 have x0 := R6.out.cell 0
 simp only [List.getElem?_cons_zero] at x0
 replace R5 := hidP R5
 have hlt5 := hidP R5.out.lt
 clear RN HN R3 R4 HB3 S4 hS4 Q3
 go_wp2_with fail
 have HB0 := hidP hb0
 go_loopw [13] (fun i wr => ∃ (k : Nat), k <= n /\ i = .int .i64 k /\ Row wr w.heap.size 69 [.slice a0 n c0, .slice a1 0 p1] /\ Row wr (w.heap.size + 1) 69 [.slice none 0 0, .slice none 0 0] /\ Row wr w3.heap.size 69 [.slice b0 n m0, .slice none 0 0] /\ ArR K.B W2 wr (.slice b0 n m0) (cpyL Ls k) /\ Below w.heap.size w wr /\ w4.heap.size <= wr.heap.size) (fun i _ => n - (intOf i).toNat)
 case atStart => exact ⟨0, by omega, rfl, R6.out, R7.out, R5.out, by rw [cpy_zero]; exact Q4.out, HB4.out, Nat.le_refl _⟩
 case round =>
  clear R5 R6 R7 Q4 HB4 x0
  obtain ⟨k, hk, rfl, hr1, hr2, hr3, hQ, hb, hsz⟩ := hrel
  by_cases h3 : k < n
  ·have l1 : (k : Int) < (n : Int) := by omega
   have hk' : k < Ls.length := by have := HNL.out; omega
   obtain ⟨ao, cap, e, _, _, hall⟩ := HG.out.shape
   cases e
   obtain ⟨b', o, rfl, hbC, cs, hcl, hcs, hfa⟩ := hall k hk'
   have hCC := HC.out
   have hszw := hb.size
   have hrg : wr.rangeAt b' (o + k * 5) cs := fun j u hj => by
    have hj2 : j < 5 := by
     rcases Nat.lt_or_ge j 5 with h' | h'
     ·exact h'
     ·rw [List.getElem?_eq_none (by omega)] at hj; cases hj
    rw [hb.cell (p := ⟨b', o + k * 5 + j, none⟩) (show b' < w.heap.size by omega), hcs j hj2]; exact hj
   have hone := hfa.one
   obtain ⟨v2, v3, rfl, hnB, q2, q3⟩ := hfa
   have HRG := hidP hrg
   have hone := hidP hone
   rw [cpy_at hk'] at hQ
   have CN := hidP (cpy_next hk')
   have hlt : (Ls.take k).length = k := by rw [List.length_take]; omega
   have HLT := hidP hlt
   have RN : Hid (Row (wr.alloc (.cells z84.toArray 84)) wr.heap.size 84 z84) := Row.new wr 84 z84
   have HA := hidP (alloc_one wr (.cells z84.toArray 84))
   have H1 := hidP hr1
   have H2 := hidP hr2
   have H3 := hidP hr3
   have HQ := hidP hQ
   have HB := hidP hb
   have HSZ := hidP hsz
   clear hall hcs hcl hbC hnB q2 q3 hrg hQ hlt hr1 hr2 hr3 hb hsz
   generalize hX : Ls[k] = X at *
   clear hX
   generalize hA' : Ls.take k = A at *
   generalize (Ls.drop (k + 1)).map bareSc = C at *
   clear hA'
   generalize str X.name = SX at *
   unfold z84 at *
   go_wp2_with (first | (refine wpList_load_mid rfl 84 (.tmp 16) rfl b' (o + k * 5) rfl [.bool X.pub, .string SX, v2, v3, .int .i64 X.pos] _ HRG.out Tryz.underlying84 rfl Tryz.sz84 ?_; apply shut))
   show wpList _ _ _ _ _ _
   go_wp2_with (first | (refine stR rfl 84 (.tmp 5) (.tmp 17) rfl (cs := [.bool X.pub, .string SX, v2, v3, .int .i64 X.pos]) rfl rfl RN.out Tryz.sz84 rfl hone.out ?_; intro w6 R8 S6; apply shut))
   show wpList _ _ _ _ _ _
   have hs4 := HSZ.out
   have hBb : Below wr.heap.size wr w6 := HA.out.trans (S6.below (C := wr.heap.size) HA.out.size (fun q hq => by omega))
   have hz6 := hBb.size
   have HQ6 := HQ.out.past hBb
   obtain ⟨g1, cp, e1, ec, ef, hg0, hg1, hpk⟩ := HQ6.poke
   rw [HLT.out] at ec ef
   rw [HLT.out] at hpk
   obtain ⟨rfl, rfl⟩ : b0 = some ⟨g1, 0, none⟩ /\ m0 = cp := by injection e1 with e2 e3 e4; exact ⟨e2, e4⟩
   have hg3 := HB0.out g1 rfl
   have y0 := (H3.out.below hBb H3.out.lt).cell 0
   have y4 := R8.cell 4
   simp only [List.getElem?_cons_zero, List.getElem?_cons_succ] at y0 y4
   have hp := hpk X.pos
   have HS : Hid (Stay (fun k => k = g1) w6 (w6.setCell ⟨g1, k * 5 + 4, none⟩ (.int .i64 X.pos))) := Stay.set (X := fun k => k = g1) (Stay.refl _ _) (fun _ => rfl) _ _
   have K1 := hidP (HS.out.row (H1.out.below hBb H1.out.lt) (by omega))
   have K2 := hidP (HS.out.row (H2.out.below hBb H2.out.lt) (by omega))
   have K3 := hidP (HS.out.row (H3.out.below hBb H3.out.lt) (by omega))
   have K4 : Hid (ArR K.B W2 (w6.setCell ⟨g1, k * 5 + 4, none⟩ (.int .i64 X.pos)) (.slice (some ⟨g1, 0, none⟩) n m0) (cpyL Ls (k + 1))) := by rw [CN.out]; exact hp
   have K5 := hidP (HB.out.trans ((below_le hBb hszw).trans (HS.out.below (C := w.heap.size) (by omega) (fun q hq => by omega))))
   have K6 := hidP (Nat.le_trans (Nat.le_trans hs4 hz6) HS.out.size)
   have i1 : (k : Int) < (n : Int) := by omega
   clear hpk hp HQ6 HQ H1 H2 H3 RN HA HRG S6 hBb R8 HB HS CN e1
   go_wp2_with fail
   go_roundw
   case rel => exact ⟨k + 1, by omega, by go_num, K1.out, K2.out, K3.out, K4.out, K5.out, K6.out⟩
   case measure => simp [intOf]; omega
  ·obtain rfl : k = n := by omega
   have y1 := hr1.cell 1
   simp only [List.getElem?_cons_zero, List.getElem?_cons_succ] at y1
   rw [HNL.out, cpy_all, ← HNL.out] at hQ
   have HQ7 : Hid (∀ y, Stay (fun k => k = w.heap.size + 1) wr y -> ArR K.B w y (.slice b0 k m0) Ls) := fun y hy => (hQ.stay hy (fun k e => by omega)).from' (by omega)
   have H2 := hidP hr2
   have H3 := hidP hr3
   have HB := hidP hb
   have hs4 := hidP hsz
   clear hr1 hr2 hr3 hQ hb hsz
   go_wp2_with fail
   refine wp_loop_rounds 1 ?_
   rw [rounds_succ]
   go_wp2_with (first | (refine ldR rfl 69 (.tmp 3) rfl rfl H3.out Tryz.underlying69 rfl Tryz.sz69 ?_; apply shut))
   show wpList _ _ _ _ _ _
   refine stR rfl 69 (.tmp 2) (.tmp 51) rfl (cs := [.slice b0 k m0, .slice none 0 0]) rfl rfl H2.out Tryz.sz69 rfl (by intro u hu; simp only [List.mem_cons, List.not_mem_nil, or_false] at hu; rcases hu with rfl | rfl <;> rfl) ?_
   intro w7 R9 S9
   have hz9 := hs4.out
   have KB := hidP (HB.out.trans (S9.below (C := w.heap.size) HB.out.size (fun q hq => by omega)))
   have KQ : Hid (ArR K.B w w7 (.slice b0 k m0) Ls) := HQ7.out w7 S9
   replace R9 := hidP R9
   clear HQ7 H2 H3 HB S9
   go_wp2_with fail
   exact bodyPost_ret (v := .agg #[.slice b0 k m0, .slice none 0 0]) (results_cell_row Tryz.results64 _ _ (w.heap.size + 1) 69 _ (0, 0) _ rfl R9.out.heap Tryz.underlying69 rfl (by kernel_rfl)) rfl ⟨_, rfl, KB.out, KQ.out⟩
end Go.Proofs.YtldbbkheemnnhaaGreatDoor
