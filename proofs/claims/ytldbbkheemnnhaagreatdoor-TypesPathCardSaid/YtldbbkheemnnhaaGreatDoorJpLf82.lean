/-
  The texts Lf8, Bar8, joined.
-/
import Derived.Test.YtldbbkheemnnhaaGreatDoorJpRq83
import Derived.Test.YtldbbkheemnnhaaGreatDoorJpOwb3
import Derived.Test.YtldbbkheemnnhaaGreatDoorJpMfd2
import Derived.Test.YtldbbkheemnnhaaGreatDoorQpCr8
import Derived.Test.YtldbbkheemnnhaaGreatDoorJpSf82
namespace Go.Proofs.YtldbbkheemnnhaaGreatDoor
open Go.RowKit Go.Maps
def plK : List (Bs × Value) -> Nat -> List Bs -> List (Bs × Value)
 | m, _, [] => m
 | m, i, x :: l => plK (if x ∈ m.map (·.1) then m else (x, .int .i64 (i : Int)) :: m) (i + 1) l
theorem plK_mem (x : Bs) : ∀ (l : List Bs) (m : List (Bs × Value)) (i : Nat), x ∈ (plK m i l).map (·.1) ↔ x ∈ m.map (·.1) ∨ x ∈ l
 | [], m, i => by simp [plK]
 | y :: l, m, i => by
  rw [plK, plK_mem x l]
  by_cases hy : y ∈ m.map (·.1)
  ·rw [if_pos hy, List.mem_cons]
   constructor
   ·rintro (h | h)
    ·exact .inl h
    ·exact .inr (.inr h)
   ·rintro (h | rfl | h)
    ·exact .inl h
    ·exact .inl hy
    ·exact .inr h
  ·rw [if_neg hy, List.map_cons, List.mem_cons, List.mem_cons]
   constructor
   ·rintro ((h | h) | h)
    ·exact .inr (.inl h)
    ·exact .inl h
    ·exact .inr (.inr h)
   ·rintro (h | h | h)
    ·exact .inl (.inr h)
    ·exact .inl (.inl h)
    ·exact .inr h
theorem findV_cons_same (x : Bs) (v z : Value) (m : List (Bs × Value)) : findV ((x, v) :: m) x z = v := by simp [findV]
theorem findV_cons_other {x y : Bs} (h : y ≠ x) (v z : Value) (m : List (Bs × Value)) : findV ((y, v) :: m) x z = findV m x z := by simp [findV, h]
theorem plK_find (x : Bs) (z : Value) : ∀ (l : List Bs) (m : List (Bs × Value)) (i : Nat), findV (plK m i l) x z = if x ∈ m.map (·.1) then findV m x z else if x ∈ l then .int .i64 ((i + l.idxOf x : Nat) : Int) else z
 | [], m, i => by
  rw [plK]
  by_cases hx : x ∈ m.map (·.1)
  ·rw [if_pos hx]
  ·rw [if_neg hx, if_neg (by simp), findV_out hx]
 | y :: l, m, i => by
  rw [plK, plK_find x z l]
  by_cases hy : y ∈ m.map (·.1)
  ·rw [if_pos hy]
   by_cases hx : x ∈ m.map (·.1)
   ·rw [if_pos hx, if_pos hx]
   ·rw [if_neg hx, if_neg hx]
    have hne : y ≠ x := fun e => hx (e ▸ hy)
    by_cases hl : x ∈ l
    ·rw [if_pos hl, if_pos (List.mem_cons_of_mem _ hl), List.idxOf_cons, show (y == x) = false by simpa using hne, cond_false, show i + 1 + List.idxOf x l = i + (List.idxOf x l + 1) by omega]
    ·rw [if_neg hl, if_neg (by rw [List.mem_cons]; rintro (e | h); exact hne e.symm; exact hl h)]
  ·rw [if_neg hy]
   by_cases he : y = x
   ·subst he
    rw [if_pos (by simp), findV_cons_same, if_neg hy, if_pos (by simp), List.idxOf_cons_self, Nat.add_zero]
   ·rw [findV_cons_other he]
    have h1 : (x ∈ ((y, Value.int .i64 (i : Int)) :: m).map (·.1)) ↔ x ∈ m.map (·.1) := by
     rw [List.map_cons, List.mem_cons]
     exact ⟨fun h => h.elim (fun e => absurd e.symm he) id, .inr⟩
    by_cases hx : x ∈ m.map (·.1)
    ·rw [if_pos (h1.2 hx), if_pos hx]
    ·rw [if_neg (fun h => hx (h1.1 h)), if_neg hx]
     by_cases hl : x ∈ l
     ·rw [if_pos hl, if_pos (List.mem_cons_of_mem _ hl), List.idxOf_cons, show (y == x) = false by simpa using he, cond_false, show i + 1 + List.idxOf x l = i + (List.idxOf x l + 1) by omega]
     ·rw [if_neg hl, if_neg (by rw [List.mem_cons]; rintro (e | h); exact he e.symm; exact hl h)]
def numL (l : List Bs) (x : Bs) : Int := if x ∈ l then ((l.idxOf x : Nat) : Int) else -1
theorem zero3 (w : World) : (zeroValue 3).run Tryz.prog w = .ok (.int .i64 0) w := by go_simp
theorem places_look {w : World} {b : Nat} {lives : List Bs} (H : Mp w b (plK [] 0 lives)) (x : Bs) (hx : x.length <= 140737488355328) :
  ∃ j, (Instr.lookup 76 (.map (some b)) (.string (str x)) true).run Tryz.prog w = .ok (.tuple #[.int .i64 j, .bool (decide (x ∈ lives))]) w /\ (x ∈ lives -> j = numL lives x) := by
 have h := H.look (t := 76) (e := 3) Tryz.underlying76 (zero3 w) x hx
 rw [plK_find, if_neg (by simp)] at h
 have hd : decide (x ∈ (plK [] 0 lives).map (·.1)) = decide (x ∈ lives) := decide_eq_decide.2 (by rw [plK_mem]; simp)
 rw [hd] at h
 by_cases hm : x ∈ lives
 ·rw [if_pos hm] at h
  exact ⟨_, h, fun _ => by rw [numL, if_pos hm, Nat.zero_add]⟩
 ·rw [if_neg hm] at h
  exact ⟨_, h, fun h => absurd h hm⟩
set_option maxHeartbeats 8000000 in
set_option maxRecDepth 20000 in
theorem placesOf42 {K : Ctx} {w : World} {v : Value} {l : List Bs} (h : Strs K w v l) (hC : K.C <= w.heap.size) (hL : l.length <= 1000) :
  Calls Tryz.prog 42 #[v] w fun ev w' => ∃ b, ev = .returned (.map (some b)) /\ Mp w' b (plK [] 0 l) /\ Below w.heap.size w w' /\ w.heap.size <= b /\ b < w'.heap.size := by
 obtain ⟨ao, cap, rfl⟩ := Ar.form h
 have HC := hidP hC
 have hsm := K.small
 have CE := hidP (fun i (hi : i < l.length) => h.cellAt hi)
 have HM0 := hidP (Mp.made w)
 have HA := hidP (alloc_one w (.map #[] 0))
 have HZ := hidP (size_alloc w (.map #[] 0))
 clear h hC
 generalize hnl : l.length = nl at *
 have HNL := hidP hnl
 clear hnl
 have hmm := @run_makeMap Tryz.prog
 go_enter Tryz.func42, Tryz.ntmps42
 go_wp2_with fail
 clear hmm
 generalize w.alloc (.map #[] 0) = w1 at *
 generalize hg : w.heap.size = gm at *
 have HGM := hidP hg
 clear hg
 go_loopg [11] nl (fun k v11 wr => ∃ (i : Nat) (m : List (Bs × Value)), i + k = nl /\ v11 = .int .i64 (i : Int) /\ Mp wr gm m /\ plK m i (l.drop i) = plK [] 0 l /\ m.length <= i /\ Below gm w wr /\ gm < wr.heap.size)
 case atStart => exact ⟨0, [], by omega, rfl, HM0.out, rfl, Nat.le_refl _, HA.out, by have := HZ.out; omega⟩
 case round =>
  obtain ⟨i, m, hi, rfl, hm, he, hml, hb, hz⟩ := hrel
  have HM := hidP hm
  have HE := hidP he
  have HB := hidP hb
  have HZ1 := hidP hz
  clear hm he hb hz HM0 HA HZ
  by_cases hlt : i < nl
  ·obtain ⟨b1, o1, rfl, hb1, hc1, hl1⟩ := CE.out i hlt
   have hc2 := (HB.out.cell (p := ⟨b1, o1 + i, none⟩) (by have := HC.out; show b1 < gm; omega)).trans hc1
   have l1 : (i : Int) < (nl : Int) := by omega
   have HD := hidP (show l.drop i = l.getD i [] :: l.drop (i + 1) by
    rw [List.drop_eq_getElem_cons (by have := HNL.out; omega)]
    simp [List.getD, List.getElem?_eq_getElem (show i < l.length by have := HNL.out; omega)])
   rw [HD.out, plK] at HE
   generalize l.getD i [] = x at *
   have hx9 : x.length <= 140737488355328 := by omega
   have lk := HM.out.look (t := 76) (e := 3) Tryz.underlying76 (zero3 wr) x hx9
   clear HD hc1
   by_cases hin : x ∈ m.map (·.1)
   ·rw [if_pos hin] at HE
    rw [decide_eq_true hin] at lk
    generalize findV m x (.int .i64 0) = fv at lk
    generalize str x = SX at *
    clear hin hx9 hl1
    go_wp2_with fail
    go_roundg (gk - 1)
    case measure => omega
    case rel => exact ⟨i + 1, m, by omega, by go_num, HM.out, HE.out, by omega, HB.out, HZ1.out⟩
   ·rw [if_neg hin] at HE
    rw [decide_eq_false hin, findV_out hin] at lk
    obtain ⟨w', hrun, hMp', hgr, hsz⟩ := HM.out.put (t := 76) (e := 3) Tryz.underlying76 (by have := HNL.out; omega) x hx9 hin (.int .i64 (i : Int))
    have HM' := hidP hMp'
    have ST := hidP (stay_grown hgr hsz)
    have HB' := hidP (HB.out.trans (ST.out.below (C := gm) (Nat.le_of_lt HZ1.out) (fun q hq => Nat.le_of_eq hq.symm)))
    have HZ' := hidP (Nat.lt_of_lt_of_le HZ1.out ST.out.size)
    clear hMp' hgr hsz hin hx9 hl1 HM HB HZ1 ST
    generalize str x = SX at *
    go_wp2_with fail
    go_roundg (gk - 1)
    case measure => omega
    case rel => exact ⟨i + 1, _, by omega, by go_num, HM'.out, HE.out, by simp; omega, HB'.out, HZ'.out⟩
  ·have e : i = nl := by omega
   have HF := hidP (show m = plK [] 0 l by
    rw [← HE.out, List.drop_eq_nil_of_le (by have := HNL.out; omega)]
    rfl)
   subst e
   clear hlt
   go_wp2_with fail
   go_ret
   exact ⟨gm, rfl, by rw [← HF.out]; exact HM.out, by rw [HGM.out]; exact HB.out, Nat.le_of_eq HGM.out, HZ1.out⟩
set_option maxHeartbeats 4000000 in
theorem first73 {K : Ctx} {w : World} {v : Value} {l : List Bs} (h : Strs K w v l) :
  Calls Tryz.prog 73 #[v] w fun ev w' => ∃ u, ev = .returned u /\ w' = w /\ Strs K w u (l.take 1) := by
 obtain ⟨a, p, rfl⟩ := Ar.form h
 obtain ⟨ao, cap, e, h1, h2, -⟩ := h.shape
 cases e
 cases l with
 | nil =>
  simp only [List.length_nil] at *
  have H := hidP h
  clear h
  go_enter Tryz.func73, Tryz.ntmps73
  go_wp2_with fail
  go_ret
  exact ⟨_, rfl, rfl, H.out⟩
 | cons x l =>
  have H := hidP (show Strs K w (.slice a 1 p) [x] from Ar.take1 h)
  have h8 : 1 <= (x :: l).length := by simp
  clear h
  generalize (x :: l).length = n at *
  go_enter Tryz.func73, Tryz.ntmps73
  go_wp2_with fail
  go_ret
  exact ⟨.slice a (min 1 (n : Int)).toNat p, rfl, rfl, by rw [show (min 1 (n : Int)).toNat = 1 by omega]; exact H.out⟩
set_option maxHeartbeats 4000000 in
theorem first74 {K : Ctx} {w : World} {d : Nat} {v : Value} {l : List Ty} (h : Ar 4 72 (TyAt d K w) K w v l) :
  Calls Tryz.prog 74 #[v] w fun ev w' => ∃ u, ev = .returned u /\ w' = w /\ Ar 4 72 (TyAt d K w) K w u (l.take 1) := by
 obtain ⟨a, p, rfl⟩ := Ar.form h
 obtain ⟨ao, cap, e, h1, h2, -⟩ := h.shape
 cases e
 cases l with
 | nil =>
  simp only [List.length_nil] at *
  have H := hidP h
  clear h
  go_enter Tryz.func74, Tryz.ntmps74
  go_wp2_with fail
  go_ret
  exact ⟨_, rfl, rfl, H.out⟩
 | cons x l =>
  have H := hidP (show Ar 4 72 (TyAt d K w) K w (.slice a 1 p) [x] from Ar.take1 h)
  have h8 : 1 <= (x :: l).length := by simp
  clear h
  generalize (x :: l).length = n at *
  go_enter Tryz.func74, Tryz.ntmps74
  go_wp2_with fail
  go_ret
  exact ⟨.slice a (min 1 (n : Int)).toNat p, rfl, rfl, by rw [show (min 1 (n : Int)).toNat = 1 by omega]; exact H.out⟩
end Go.Proofs.YtldbbkheemnnhaaGreatDoor

namespace Go.Proofs.YtldbbkheemnnhaaGreatDoor
open Go.RowKit
structure ArR (B : Nat) (w0 w : World) (v : Value) (l : List Sct) : Prop where
 shape : (l = [] /\ v = .slice none 0 0) ∨ ∃ (g1 cp N : Nat) (sp : List Value) (dn : List (List Value)), v = .slice (some ⟨g1, 0, none⟩) l.length cp /\ l.length <= cp /\ l.length * 80 <= 140737488355328 /\ w0.heap.size <= g1 /\ g1 < N /\ N <= w.heap.size /\ dn.length = l.length /\ (∀ c ∈ dn, c.length = 5) /\ Row w g1 84 (dn.flatten ++ sp) /\
  ∀ i (h : i < l.length) (h' : i < dn.length), SctQ (fun b => N <= b /\ b < w.heap.size) B w dn[i] l[i]
def OutR (l : List Sct) (B : Nat) (w : World) (g t : Nat) (A R : List Value) (w' : World) : Prop :=
 ∃ v', Stay (fun k => k = g) w w' /\ Row w' g t (A ++ (v' :: R)) /\ ArR B w w' v' l
theorem ArR.stay {B : Nat} {w0 w w' : World} {v : Value} {l : List Sct} (h : ArR B w0 w v l) {X : Nat -> Prop} (hs : Stay X w w') (hX : ∀ k, X k -> k < w0.heap.size) : ArR B w0 w' v l := by
 rcases h.shape with h | ⟨g1, cp, N, sp, dn, h1, h2, h3, h4, h5, h6, h7, h8, h9, h10⟩
 ·exact ⟨.inl h⟩
 ·refine ⟨.inr ⟨g1, cp, N, sp, dn, h1, h2, h3, h4, h5, Nat.le_trans h6 hs.size, h7, h8, hs.row h9 (fun e => by have := hX _ e; omega), fun i hi hi' => ?_⟩⟩
  exact (h10 i hi hi').mono ⟨fun b hb => ⟨hb.1, Nat.lt_of_lt_of_le hb.2 hs.size⟩, fun b hb => hs.block b hb.2 (fun e => by have := hX _ e; have := hb.1; omega)⟩
theorem ArR.past {B : Nat} {w0 w w' : World} {v : Value} {l : List Sct} (h : ArR B w0 w v l) (hb : Below w.heap.size w w') : ArR B w0 w' v l :=
 h.stay (X := fun _ => False) (Stay.of_below hb) (fun _ h => h.elim)
theorem ArR.from' {B : Nat} {w0 w1 w : World} {v : Value} {l : List Sct} (h : ArR B w1 w v l) (h0 : w0.heap.size <= w1.heap.size) : ArR B w0 w v l := by
 rcases h.shape with h | ⟨g1, cp, N, sp, dn, h1, h2, h3, h4, hr⟩
 ·exact ⟨.inl h⟩
 ·exact ⟨.inr ⟨g1, cp, N, sp, dn, h1, h2, h3, Nat.le_trans h0 h4, hr⟩⟩
theorem ArR.form {B : Nat} {w0 w : World} {v : Value} {l : List Sct} (h : ArR B w0 w v l) : ∃ ao cap, v = .slice ao l.length cap := by
 rcases h.shape with ⟨rfl, rfl⟩ | ⟨g1, cp, N, sp, dn, h1, _⟩
 ·exact ⟨_, _, rfl⟩
 ·exact ⟨_, _, h1⟩
theorem ArR.arQ {B : Nat} {w0 w : World} {v : Value} {l : List Sct} (h : ArR B w0 w v l) : ArQ 5 80 (SctQ (Fr w0 w) B w) (Fr w0 w) w v l := by
 rcases h.shape with ⟨rfl, rfl⟩ | ⟨g1, cp, N, sp, dn, h1, h2, h3, h4, h5, h6, h7, h8, h9, h10⟩
 ·exact nil_arQ
 ·refine ⟨_, _, h1, h2, h3, fun i hi => ⟨g1, 0, rfl, ⟨h4, by omega⟩, dn[i]'(by omega), h8 _ (List.getElem_mem _), fun j hj => ?_, ?_⟩⟩
  ·have hid : i < dn.length := by omega
   have h1 : (i + 1) * 5 <= dn.length * 5 := Nat.mul_le_mul_right 5 hid
   rw [Nat.zero_add, h9.cell, List.getElem?_append_left (by rw [flat_len h8]; omega), flat_get h8 i hid j hj]
  ·exact (h10 i hi (by omega)).mono ⟨fun b hb => ⟨by have := hb.1; omega, hb.2⟩, fun _ _ => rfl⟩
theorem Inv.doneR {B : Nat} {l : List Sct} {css : List (List Value)} {sp A R : List Value} {w w1 wr : World} {g g1 t cp : Nat} (h : Inv SctQ bareSc B 5 l css sp A R (.slice (some ⟨g1, 0, none⟩) l.length cp) w w1 g g1 t 84 l.length wr) (hg1 : w.heap.size <= g1) (hg1' : g1 < w1.heap.size) (_hw1 : w.heap.size <= w1.heap.size)
  (hcp : l.length <= cp) (hb : l.length * 80 <= 140737488355328) : OutR (l.map bareSc) B w g t A R wr := by
 obtain ⟨dn, d1, d2, d3, d4, d5, d6, d7⟩ := h.ex
 refine ⟨_, d5, d3, ⟨.inr ⟨g1, cp, w1.heap.size, (css.drop l.length).flatten ++ sp, dn, by rw [List.length_map], by rw [List.length_map]; exact hcp, by rw [List.length_map]; exact hb, hg1, hg1', d6, by rw [List.length_map]; exact d1, d2, d4, fun i hi hi' => ?_⟩⟩⟩
 rw [List.length_map] at hi
 rw [List.getElem_map]
 exact d7 i hi' hi
set_option maxHeartbeats 8000000 in
theorem ownSctsR_any {K : Ctx} {w : World} {g t : Nat} {A R : List Value} {v : Value} {l : List Sct} {o : Nat} (hr : Row w g t (A ++ (v :: R))) (hA : A.length = o) (ha : Ar 5 80 (SctAt K w) K w v l) (hg : K.C <= g) :
  Calls Tryz.prog 130 #[.pointer (some ⟨g, o, none⟩), .func (.func 131) #[] #[]] w fun ev w' => ev = .returned (.tuple #[]) /\ OutR (l.map bareSc) K.B w g t A R w' := by
 have E : OwnC 131 5 (α := Sct) SctAt SctQ bareSc := bareStruct_any
 generalize hM : l.map bareSc = M
 have hlt := hr.lt
 have hbz : l.length * 80 <= 140737488355328 := by obtain ⟨_, _, _, _, h, _⟩ := ha.shape; exact h
 obtain ⟨ao, cap, css, rfl, c1, c2, c3, c4, c5⟩ := ha.rows (fun _ _ h => (kinSct).one (w := w) h)
 have cv : w.cell? ⟨g, o, none⟩ = some (.slice ao l.length cap) := by rw [hr.cell o, ← hA]; simp
 have zv : w.frozen? ⟨g, o, none⟩ = false := hr.fz o
 have HST : Hid (∀ (w1 : World) (u : Value), Stay (fun k => k = g) w w1 -> Row w1 g t (A ++ (.slice ao l.length cap :: R)) -> Row (w1.setCell ⟨g, o, none⟩ u) g t (A ++ (u :: R)) /\ Stay (fun k => k = g) w (w1.setCell ⟨g, o, none⟩ u) /\ (w1.setCell ⟨g, o, none⟩ u).cell? ⟨g, o, none⟩ = some u /\ (w1.setCell ⟨g, o, none⟩ u).heap.size = w1.heap.size) := by
  intro w1 u hs hr1
  have h1 := hr1.set o u
  have e1 : (A ++ (Value.slice ao l.length cap :: R)).set o u = A ++ (u :: R) := by rw [← hA]; simp
  rw [e1] at h1
  refine ⟨h1, Stay.set (X := fun k => k = g) hs (fun _ => rfl) _ _, by rw [h1.cell o, ← hA]; simp, by simp [World.setCell]⟩
 rcases Nat.eq_zero_or_pos l.length with h0 | h0
 ·have hl0 : l = [] := List.length_eq_zero_iff.1 h0
  subst hl0
  obtain ⟨k1, k2, k3, _⟩ := HST.out w (.slice none 0 0) (Stay.refl _ _) hr
  have K1 : Hid (OutR M K.B w g t A R (w.setCell ⟨g, o, none⟩ (.slice none 0 0))) := by rw [← hM]; exact ⟨_, k2, k1, ⟨.inl ⟨rfl, rfl⟩⟩⟩
  clear HST hr ha E c1 c2 c3 c4 c5 hg hlt k1 k2 hbz h0
  clear hM
  simp only [List.length_nil] at cv
  go_enter Tryz.func130, Tryz.ntmps130
  go_wp2_with (at_builtin; refine app_zero rfl (.const (.slice none 0 0)) (.tmp 8) 66 84 5 80 (.agg #[.bool false, .string (str []), .slice none 0 0, .slice none 0 0, .int .i64 0]) rfl rfl Tryz.underlying66 (by kernel_rfl) rfl (by decide) ao cap rfl ?_)
  go_loopw [15] (fun i wr => i = .int .i64 0 /\ wr = w.setCell ⟨g, o, none⟩ (.slice none 0 0)) (fun _ _ => 0)
  case atStart => exact ⟨rfl, rfl⟩
  case round =>
   obtain ⟨rfl, rfl⟩ := hrel
   go_wp2_with fail
   go_end0
   exact ⟨rfl, K1.out⟩
 ·have HH : Hid (0 < l.length /\ css.length = l.length /\ (∀ c ∈ css, c.length = 5) /\ (∀ u ∈ css.flatten, u.oneCell' = true) /\ (l.length = 0 ∨ ∃ b o, ao = some ⟨b, o, none⟩ /\ ∀ j u, css.flatten[j]? = some u -> w.cell? ⟨b, o + j, none⟩ = some u) /\ l.length <= 4611686018427387904 /\ l.length * 80 <= 140737488355328) := by
   refine ⟨h0, c1, c2, c4, ?_, by omega, hbz⟩
   rcases c5 with h | h
   ·subst h; cases h0
   ·exact .inr h
  have hl9 : l.length <= 9223372036854775807 := by omega
  have AFT : Hid (∀ (w1 : World) (g1 cp : Nat) (sp : List Value), l.length <= cp -> w.heap.size <= g1 -> Row w1 g1 84 (css.flatten ++ sp) -> Below w.heap.size w w1 -> w1.cell? ⟨g, o, none⟩ = some (.slice ao l.length cap) /\ w1.frozen? ⟨g, o, none⟩ = false /\ (w1.setCell ⟨g, o, none⟩ (.slice (some ⟨g1, 0, none⟩) l.length cp)).cell? ⟨g, o, none⟩ = some (.slice (some ⟨g1, 0, none⟩) l.length cp) /\
    Inv SctQ bareSc K.B 5 l css sp A R (.slice (some ⟨g1, 0, none⟩) l.length cp) w w1 g g1 t 84 0 (w1.setCell ⟨g, o, none⟩ (.slice (some ⟨g1, 0, none⟩) l.length cp)) /\
    (∀ k wr, Inv SctQ bareSc K.B 5 l css sp A R (.slice (some ⟨g1, 0, none⟩) l.length cp) w w1 g g1 t 84 k wr -> k < l.length -> ∀ off, off = k * 5 -> Calls Tryz.prog 131 #[.pointer (some ⟨g1, off, none⟩)] wr fun ev w2 => ev = .returned (.tuple #[]) /\ Inv SctQ bareSc K.B 5 l css sp A R (.slice (some ⟨g1, 0, none⟩) l.length cp) w w1 g g1 t 84 (k + 1) w2) /\
    (∀ k wr, Inv SctQ bareSc K.B 5 l css sp A R (.slice (some ⟨g1, 0, none⟩) l.length cp) w w1 g g1 t 84 k wr -> wr.cell? ⟨g, o, none⟩ = some (.slice (some ⟨g1, 0, none⟩) l.length cp)) /\
    (∀ wr, Inv SctQ bareSc K.B 5 l css sp A R (.slice (some ⟨g1, 0, none⟩) l.length cp) w w1 g g1 t 84 l.length wr -> OutR M K.B w g t A R wr)) := by
   intro w1 g1 cp sp hcp hg1 hR1 hB
   have hr1 := hr.below hB hlt
   have hsz1 := hB.size
   have hg1' := hR1.lt
   obtain ⟨k1, k2, k3, k4⟩ := HST.out w1 (.slice (some ⟨g1, 0, none⟩) l.length cp) (Stay.of_below hB) hr1
   refine ⟨by rw [hr1.cell o, ← hA]; simp, hr1.fz o, k3, ⟨[], rfl, fun c h => absurd h (by simp), k1, ?_, k2, by omega, fun j h => absurd h (by simp)⟩, ?_, ?_, ?_⟩
   ·simpa using hR1.other (g' := g) (j := o) (by omega) (.slice (some ⟨g1, 0, none⟩) l.length cp)
   ·intro k wr hi hk off ho
    exact Inv.call (P := SctAt) (PQ := SctQ) (F := bareSc) E (kinSct) hi hg hlt hg1 hg1' c1 c3 hk off ho
   ·intro k wr hi
    obtain ⟨_, _, _, d3, _⟩ := hi.ex
    rw [d3.cell o, ← hA]; simp
   ·intro wr hi
    rw [← hM]
    exact Inv.doneR hi hg1 hg1' hsz1 hcp hbz
  clear HST hr ha E c1 c2 c3 c4 c5 hg hlt hbz h0 hM
  go_enter Tryz.func130, Tryz.ntmps130
  go_wp2_with (at_builtin; refine app_some rfl (.const (.slice none 0 0)) (.tmp 8) 66 84 5 80 (.agg #[.bool false, .string (str []), .slice none 0 0, .slice none 0 0, .int .i64 0]) rfl rfl Tryz.underlying66 (by kernel_rfl) rfl (by decide) ao l.length cap css rfl HH.out ?_; intro g1 cp sp w1 hcp hg1 hR1 hB1; obtain ⟨q1, q2, q3, I0, CL, CE, DN⟩ := AFT.out w1 g1 cp sp hcp hg1 hR1 hB1; replace I0 := hidO I0; replace CL := hidO CL; replace CE := hidO CE; replace DN := hidO DN; clear hR1 hB1 hg1 hcp)
  go_loopw [15] (fun i wr => ∃ k : Nat, k <= l.length /\ i = .int .i64 k /\ Inv SctQ bareSc K.B 5 l css sp A R (.slice (some ⟨g1, 0, none⟩) l.length cp) w w1 g g1 t 84 k wr) (fun i _ => l.length - (intOf i).toNat)
  case atStart => exact ⟨0, by omega, rfl, I0.out⟩
  case round =>
   obtain ⟨k, hk, rfl, hi⟩ := hrel
   have ce := CE.out k wr hi
   by_cases h3 : k < l.length
   ·have i1 : (k : Int) < (l.length : Int) := by omega
    have D := hidO (fun off ho => CL.out k wr hi h3 off ho)
    clear hi I0 CL CE DN q1 q2 q3 cv zv AFT HH
    go_wp2_with fail
    refine (D.out _ (by omega)).mono ?_
    rintro _ w2 ⟨rfl, i2⟩
    replace i2 := hidO i2
    clear ce D
    go_wp2_with fail
    go_roundw
    case rel => exact ⟨k + 1, by omega, by go_num, i2.out⟩
    case measure => simp [intOf]; omega
   ·have i1 : ¬ (k : Int) < (l.length : Int) := by omega
    obtain rfl : k = l.length := by omega
    have D := hidO (DN.out wr hi)
    clear hi I0 CL CE DN q1 q2 q3 cv zv AFT HH
    go_wp2_with fail
    go_end0
    exact ⟨rfl, D.out⟩
set_option maxHeartbeats 8000000 in
theorem ownFncs_nil {w : World} {g t : Nat} {A R : List Value} {a : Option Addr} {cap o : Nat} (hr : Row w g t (A ++ (.slice a 0 cap :: R))) (hA : A.length = o) :
  Calls Tryz.prog 132 #[.pointer (some ⟨g, o, none⟩), .func (.func 133) #[] #[]] w fun ev w' => ev = .returned (.tuple #[]) /\ Stay (fun k => k = g) w w' /\ Row w' g t (A ++ (.slice none 0 0 :: R)) := by
 have cv : w.cell? ⟨g, o, none⟩ = some (.slice a 0 cap) := by rw [hr.cell o, ← hA]; simp
 have zv : w.frozen? ⟨g, o, none⟩ = false := hr.fz o
 have HR : Hid (Row (w.setCell ⟨g, o, none⟩ (.slice none 0 0)) g t (A ++ (.slice none 0 0 :: R))) := by
  have h1 := hr.set o (.slice none 0 0)
  have e1 : (A ++ (Value.slice a 0 cap :: R)).set o (.slice none 0 0) = A ++ (.slice none 0 0 :: R) := by rw [← hA]; simp
  rw [e1] at h1; exact h1
 have HS : Hid (Stay (fun k => k = g) w (w.setCell ⟨g, o, none⟩ (.slice none 0 0))) := Stay.set (X := fun k => k = g) (Stay.refl _ _) (fun _ => rfl) _ _
 have k3 : (w.setCell ⟨g, o, none⟩ (.slice none 0 0)).cell? ⟨g, o, none⟩ = some (.slice none 0 0) := by rw [HR.out.cell o, ← hA]; simp
 clear hr
 go_enter Tryz.func132, Tryz.ntmps132
 go_wp2_with (at_builtin; refine app_zero rfl (.const (.slice none 0 0)) (.tmp 8) 67 114 10 176 (.agg (Value.bool false :: .string (str []) :: .slice none 0 0 :: .slice none 0 0 :: (tyCells 0 ++ [.slice none 0 0, .int .i64 0])).toArray) rfl rfl Tryz.underlying67 (by kernel_rfl) rfl (by decide) a cap rfl ?_)
 go_loopw [15] (fun i wr => i = .int .i64 0 /\ wr = w.setCell ⟨g, o, none⟩ (.slice none 0 0)) (fun _ _ => 0)
 case atStart => exact ⟨rfl, rfl⟩
 case round =>
  obtain ⟨rfl, rfl⟩ := hrel
  go_wp2_with fail
  go_end0
  exact ⟨rfl, HS.out, HR.out⟩
set_option maxHeartbeats 8000000 in
theorem bareR_any {K : Ctx} {w : World} (hC : K.C <= w.heap.size) {Ls : List Sct} {v0 : Value} {a1 : Option Addr} {p1 : Nat} (h0 : Ar 5 80 (SctAt K w) K w v0 Ls) :
  Calls Tryz.prog 99 #[.agg #[v0, .slice a1 0 p1]] w fun ev w' => ∃ u0, ev = .returned (.agg #[u0, .slice none 0 0]) /\ Below w.heap.size w w' /\ ArR K.B w w' u0 (Ls.map bareSc) := by
 obtain ⟨a0, c0, rfl⟩ := h0.form
 have hsz2 := size_two w (.cells #[.slice a0 Ls.length c0, .slice a1 0 p1] 69) (.cells #[.slice none 0 0, .slice none 0 0] 69)
 have hA : Below w.heap.size w ((w.alloc (.cells #[.slice a0 Ls.length c0, .slice a1 0 p1] 69)).alloc (.cells #[.slice none 0 0, .slice none 0 0] 69)) := alloc_two w _ _
 have R1 : Row ((w.alloc (.cells #[.slice a0 Ls.length c0, .slice a1 0 p1] 69)).alloc (.cells #[.slice none 0 0, .slice none 0 0] 69)) w.heap.size 69 [.slice a0 Ls.length c0, .slice a1 0 p1] := (Row.new w 69 [.slice a0 Ls.length c0, .slice a1 0 p1]).alloc _
 have R2 : Hid (Row ((w.alloc (.cells #[.slice a0 Ls.length c0, .slice a1 0 p1] 69)).alloc (.cells #[.slice none 0 0, .slice none 0 0] 69)) (w.heap.size + 1) 69 [.slice none 0 0, .slice none 0 0]) := by
  have := Row.new (w.alloc (.cells #[.slice a0 Ls.length c0, .slice a1 0 p1] 69)) 69 [.slice none 0 0, .slice none 0 0]
  rw [size_alloc] at this; exact this
 have T0 := hidP (ownSctsR_any (K := K) (A := []) (R := [.slice a1 0 p1]) R1 rfl (h0.mono (below_le hA hC) fun _ _ _ h => h.below (below_le hA hC)) hC)
 have HA := hidP hA
 clear h0 hA R1
 generalize Ls.length = n0 at *
 generalize hM : Ls.map bareSc = M at *
 generalize hW2 : (w.alloc (.cells #[.slice a0 n0 c0, .slice a1 0 p1] 69)).alloc (.cells #[.slice none 0 0, .slice none 0 0] 69) = W2 at *
 have HW2 := hidP hW2
 replace hsz2 := hidP hsz2
 clear hM hW2
 go_enter Tryz.func99, Tryz.ntmps99
 go_wp2_with fail
 rw [HW2.out]
 refine T0.out.mono ?_
 rintro _ w3 ⟨rfl, u0, s1, r1, q1⟩
 have D := hidP (ownFncs_nil (A := [u0]) (R := []) r1 rfl)
 obtain ⟨b0, m0, rfl⟩ := q1.form
 have S1 := hidP s1
 have Q1 := hidP q1
 clear T0 s1 r1 q1 HW2
 go_wp2_with fail
 refine D.out.mono ?_
 rintro _ w4 ⟨rfl, s2, r2⟩
 have hs3 := S1.out.size
 have hs4 := s2.size
 have hz2 := hsz2.out
 have Q2 := hidP (Q1.out.stay s2 (fun k e => by omega))
 have R4 := hidP (s2.row (S1.out.row R2.out (by omega)) (by omega))
 have HB4 := hidP (HA.out.trans ((S1.out.trans s2).below (by omega) (fun q hq => by omega)))
 have r3 := hidP r2
 clear D R2 S1 Q1 HA s2 r2
 go_wp2_with (first | (refine ldR rfl 69 (.tmp 1) rfl rfl r3.out Tryz.underlying69 rfl Tryz.sz69 ?_; apply shut))
 show wpList _ _ _ _ _ _
 refine stR rfl 69 (.tmp 2) (.tmp 7) rfl (cs := [.slice b0 M.length m0, .slice none 0 0]) rfl rfl R4.out Tryz.sz69 rfl (by intro u hu; simp only [List.mem_cons, List.not_mem_nil, or_false] at hu; rcases hu with rfl | rfl <;> rfl) ?_
 intro w5 R5 S5
 have Q5 := hidP ((Q2.out.stay S5 (fun k e => by omega)).from' (w0 := w) (by omega))
 have HB5 := hidP (HB4.out.trans (S5.below (C := w.heap.size) HB4.out.size (fun q hq => by omega)))
 replace R5 := hidP R5
 clear Q2 R4 HB4 r3 S5
 go_wp2_with fail
 exact bodyPost_ret (v := .agg #[.slice b0 M.length m0, .slice none 0 0]) (results_cell_row Tryz.results99 _ _ (w.heap.size + 1) 69 _ (0, 0) _ rfl R5.out.heap Tryz.underlying69 rfl (by kernel_rfl)) rfl ⟨_, rfl, HB5.out, Q5.out⟩
end Go.Proofs.YtldbbkheemnnhaaGreatDoor
