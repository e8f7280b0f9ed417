/-
  The texts Rh8, Lf8, joined.
-/
import Derived.Test.YtldbbkheemnnhaaGreatDoorJpRg83
import Derived.Test.YtldbbkheemnnhaaGreatDoorJpXr23
import Derived.Test.YtldbbkheemnnhaaGreatDoorJpRq83
namespace Go.Proofs.YtldbbkheemnnhaaGreatDoor
open Go.RowKit
set_option maxHeartbeats 16000000 in
set_option maxRecDepth 20000 in
theorem own38 {K : Ctx} {w : World} {n : Nat} {cs : List Value} {t : RTy} (ht : RtAt (n + 1) K w cs t) (hC : K.C <= w.heap.size) :
  Calls Tryz.prog 38 #[.agg cs.toArray] w fun ev w' => ∃ u, ev = .returned u /\ Below w.heap.size w w' /\ Nms K w' u (ownR t) := by
 obtain ⟨v2, v3, rfl, _, h2, h3⟩ := ht
 obtain ⟨a2, p2, rfl⟩ := Ar.form h2
 obtain ⟨a3, p3, rfl⟩ := Ar.form h3
 have HA := hidP (alloc_one w (.cells #[.int .i64 t.kind, .string (str t.name), .slice a2 t.regs.length p2, .slice a3 t.elem.length p3] 25))
 have R2 := hidP (Row.new w 25 [.int .i64 t.kind, .string (str t.name), .slice a2 t.regs.length p2, .slice a3 t.elem.length p3])
 have H2 := hidP (show Nms K _ _ _ from h2.mono (below_le HA.out hC) fun _ _ _ h => h)
 have HT := hidP (show ∀ (y : World) (a : Option Addr), Nms K y (.slice a t.regs.length p2) t.regs -> Nms K y (.slice a (min 1 t.regs.length) p2) (t.regs.take 1) from fun y a h => by
  rcases hr : t.regs with _ | ⟨x, l⟩
  ·rw [hr] at h; exact h
  ·rw [hr] at h
   have := h.take1
   have e : min 1 (x :: l).length = 1 := by simp only [List.length_cons]; omega
   rw [e]
   exact this)
 have hO := hidP (show ownR t = if t.kind = 3 then t.regs else if t.kind = 4 ∨ t.kind = 5 then t.regs.take 1 else [] from rfl)
 obtain ⟨_, _, e, q2, -⟩ := h2.shape
 cases e
 clear h2 h3
 generalize t.kind = kd at *
 generalize str t.name = SN at *
 generalize t.elem.length = ne at *
 generalize hnr : t.regs.length = nr at HA R2 H2 HT q2 ⊢
 clear hnr
 have y0 := R2.out.cell 0
 have y2 := R2.out.cell 2
 simp only [List.getElem?_cons_zero, List.getElem?_cons_succ] at y0 y2
 by_cases h3 : kd = 3
 ·subst h3
  have hO' := hidP (show ownR t = t.regs from hO.out.trans (if_pos rfl))
  clear hO HT
  go_enter Tryz.func38, Tryz.ntmps38
  go_wp2_with fail
  go_ret
  exact ⟨_, rfl, HA.out, by rw [hO'.out]; exact H2.out⟩
 ·by_cases h4 : kd = 4 ∨ kd = 5
  ·have hO' := hidP (show ownR t = t.regs.take 1 from hO.out.trans ((if_neg h3).trans (if_pos h4)))
   have HU := hidP (HT.out _ _ H2.out)
   have l1 : (min (1 : Int) (nr : Int)) <= (p2 : Int) := by omega
   clear hO H2 HT
   rcases Nat.eq_zero_or_pos nr with rfl | hp
   ·rcases h4 with rfl | rfl
    all_goals
     go_enter Tryz.func38, Tryz.ntmps38
     go_wp2_with fail
     go_ret
     exact ⟨_, rfl, HA.out, by rw [hO'.out]; exact HU.out⟩
   ·have e1 : min (1 : Int) (nr : Int) = 1 := by omega
    have e2 : min 1 nr = 1 := by omega
    rw [e2] at HU
    have q1 : (1 : Int) <= (p2 : Int) := by omega
    rcases h4 with rfl | rfl
    all_goals
     go_enter Tryz.func38, Tryz.ntmps38
     go_wp2_with fail
     go_ret
     exact ⟨_, rfl, HA.out, by rw [hO'.out]; exact HU.out⟩
  ·have hO' := hidP (show ownR t = [] from hO.out.trans ((if_neg h3).trans (if_neg h4)))
   have e3 : (kd == 3) = false := by simpa using h3
   have e4 : (kd == 4) = false := by simp; omega
   have e5 : (kd == 5) = false := by simp; omega
   clear hO H2 HT
   go_enter Tryz.func38, Tryz.ntmps38
   go_wp2_with fail
   go_ret
   exact ⟨_, rfl, HA.out, by rw [hO'.out]; exact ⟨none, 0, rfl, Nat.le_refl _, by simp, fun _ h => by cases h⟩⟩
theorem own_empty3 {w : World} {B : Nat} (hB : B <= w.heap.size) : (w.alloc (.cells #[] 3)).ownsRow B 3 1 (.slice (some ⟨w.heap.size, 0, none⟩) 0 0) 0 [] :=
 ⟨rfl, .inr ⟨w.heap.size, 0, #[], rfl, hB, heap_alloc_new w _, Nat.le_refl _, Nat.zero_le _, rfl, rfl⟩⟩
set_option maxHeartbeats 16000000 in
set_option maxRecDepth 20000 in
theorem regions14 {K : Ctx} : ∀ (n : Nat) {w : World} {cs : List Value} {t : RTy}, RtAt n K w cs t -> K.C <= w.heap.size -> (regL n t).length <= 50000 ->
  Calls Tryz.prog 14 #[.agg cs.toArray] w fun ev w' => ∃ v, ev = .returned v /\ Below w.heap.size w w' /\ w'.ownsRow w.heap.size 3 1 v (regL n t).length (iv (regL n t))
 | 0, _, _, _, h, _, _ => h.elim
 | n + 1, w, cs, t, ht, hC, hn => by
  have IH := hidP (fun (y : World) (hy : Below w.heap.size w y) (cs : List Value) (e : RTy) (he : RtAt n K y cs e) (hl : (regL n e).length <= 50000) => regions14 n he (Nat.le_trans hC hy.size) hl)
  have HR := hidP (regL_succ n t)
  have hAl := alloc_one w (.cells cs.toArray 25)
  have R0 := Row.new w 25 cs
  have hz := size_alloc w (.cells cs.toArray 25)
  have hAe := alloc_one (w.alloc (.cells cs.toArray 25)) (.cells #[] 3)
  have HA := hidP (hAl.trans (below_le hAe (by omega)))
  have OW := hidP (own_empty3 (B := w.heap.size + 1) (w := w.alloc (.cells cs.toArray 25)) (by omega))
  have R1 := hidP (R0.below hAe R0.lt)
  have HZ := hidP (show ((w.alloc (.cells cs.toArray 25)).alloc (.cells #[] 3)).heap.size = w.heap.size + 2 by rw [size_alloc, hz])
  have OWN := hidP (own38 (ht.below (below_le HA.out hC)) (by have := HZ.out; omega))
  have HC := hidP hC
  rw [hz] at OW
  obtain ⟨v2, v3, rfl, _, _, h3⟩ := ht
  obtain ⟨a3, p3, rfl⟩ := Ar.form h3
  have H3 := hidP h3
  have hNX := hidP (show nxtR t = if t.kind = 4 ∨ t.kind = 5 then t.elem.head? else none from rfl)
  rw [HR.out] at hn
  have HN := hidP hn
  clear hAl R0 hAe hz h3 hn hC
  go_enter Tryz.func14, Tryz.ntmps14
  go_wp2_with fail
  refine OWN.out.mono ?_
  rintro _ w2 ⟨u, rfl, hb2, hu⟩
  have hz2 := hb2.size
  rw [HZ.out] at hz2
  have HB2 := hidP (HA.out.trans (below_le hb2 HA.out.size))
  have O2 := hidP (own_sameR OW.out (fun k e => hb2.block k (OW.out.lt k e).2))
  have R2 := hidP (R1.out.below hb2 R1.out.lt)
  have HS2 := hidP (nms_sou hu)
  obtain ⟨a5, p5, rfl⟩ := Ar.form hu
  have HIL := hidP (show (iv (ownR t)).length = (ownR t).length * 1 by rw [iv_len, Nat.mul_one])
  have HI1 := hidP (iv_ones (ownR t))
  have hno : (ownR t).length <= 50000 := by have := HN.out; simp only [List.length_append] at this; omega
  clear OWN OW R1 HA hb2 hu HZ
  generalize hlo : (ownR t).length = lo at *
  have HLO := hidP hlo
  clear hlo
  go_wp2_with (first | (refine wpl_appS (bz := 8) rfl (.tmp 4) (.tmp 6) rfl Tryz.underlying22 Tryz.info3I rfl (by decide) rfl rfl O2.out (by omega) HS2.out HIL.out HI1.out (by omega) (by decide) ?_; intro v6 w6 ho6 hb6 hf6; apply shut))
  show wpList _ _ _ _ _ _
  obtain ⟨a6, p6, rfl⟩ := hf6
  rw [Nat.zero_add, List.nil_append] at ho6
  rw [Nat.zero_add]
  have R6 := hidP (R2.out.below hb6 (by omega))
  have hz6 := hb6.size
  have HB6 := hidP (HB2.out.trans (below_le hb6 (by omega)))
  have HO6 := hidP ho6
  have y0 := R6.out.cell 0
  have y3 := R6.out.cell 3
  simp only [List.getElem?_cons_zero, List.getElem?_cons_succ] at y0 y3
  clear O2 R2 HS2 HIL HI1 hb6 ho6 HB2
  have HND := hidP (show ∀ (h : ¬ ((t.kind = 4 ∨ t.kind = 5) /\ 0 < t.elem.length)), regL (n + 1) t = ownR t from fun h => by
   rw [HR.out, hNX.out]
   by_cases k : t.kind = 4 ∨ t.kind = 5
   ·rw [if_pos k, List.eq_nil_of_length_eq_zero (show t.elem.length = 0 by have := fun q => h ⟨k, q⟩; omega)]
    exact List.append_nil _
   ·rw [if_neg k]
    exact List.append_nil _)
  have HYE := hidP (show ∀ (k : t.kind = 4 ∨ t.kind = 5) (h : 0 < t.elem.length), regL (n + 1) t = ownR t ++ regL n t.elem[0] from fun k h => by
   rw [HR.out, hNX.out, if_pos k, List.head?_eq_getElem?, List.getElem?_eq_getElem h]
   rfl)
  have AN := hidP (fun i hi => Ar.each H3.out i hi)
  have HNN := hidP (show ∀ (k : t.kind = 4 ∨ t.kind = 5) (h : 0 < t.elem.length), lo + (regL n t.elem[0]).length <= 50000 from fun k h => by
   have := HN.out
   rw [← HR.out, HYE.out k h, List.length_append, HLO.out] at this
   exact this)
  clear hNX H3 HN HR
  generalize t.kind = kd at *
  generalize str t.name = SN at *
  generalize hne : t.elem.length = ne at y3 HND R6 ⊢
  have HNE := hidP hne
  clear hne
  by_cases hx : (kd = 4 ∨ kd = 5) /\ 0 < ne
  ·obtain ⟨k, h0⟩ := hx
   have hl : 0 < t.elem.length := by rw [HNE.out]; exact h0
   have l0 : (0 : Int) < (ne : Int) := by omega
   have HW := hidP (HYE.out k hl)
   have hnn := HNN.out k hl
   obtain ⟨b1, o1, rfl, hb1, c1, hl1, hc1, hp1⟩ := AN.out 0 hl
   rw [Nat.zero_mul, Nat.add_zero] at hc1
   have r1 := hidP (range_le hc1 HB6.out (Nat.lt_of_lt_of_le hb1 HC.out))
   have s1 := hidP (show (Tryz.prog.info? 25).map (·.size) = some c1.length by rw [hl1]; exact Tryz.sz25)
   have CALL := hidP (IH.out _ HB6.out c1 _ (hp1.below (below_le HB6.out HC.out)) (by omega))
   clear IH HND HYE AN HNN hl1 hc1 hp1 hb1 HNE
   generalize t.elem[0] = x at *
   rcases k with rfl | rfl
   all_goals
    go_wp2_with (first | (refine wpList_load_mid rfl 25 (.tmp 25) rfl b1 o1 rfl c1 _ r1.out Tryz.underlying25 rfl s1.out ?_))
    refine CALL.out.mono ?_
    rintro _ w7 ⟨v7, rfl, hb7, ho7⟩
    have hz7 := hb7.size
    have O7 := hidP (own_sameR HO6.out (fun k e => hb7.block k (HO6.out.lt k e).2))
    have HB7 := hidP (HB6.out.trans (below_le hb7 HB6.out.size))
    have HS7 := hidP (own_sou ho7)
    have HIL7 := hidP (show (iv (regL n x)).length = (regL n x).length * 1 by rw [iv_len, Nat.mul_one])
    have HI7 := hidP (iv_ones (regL n x))
    obtain ⟨a7, p7, rfl⟩ := own_slice ho7
    clear CALL HO6 hb7 ho7 r1 R6 y0 y3 HB6
    generalize hlx : (regL n x).length = lx at *
    have HLX := hidP hlx
    clear hlx
    go_wp2_with (first | (refine wpl_appS (bz := 8) rfl (.tmp 22) (.tmp 27) rfl Tryz.underlying22 Tryz.info3I rfl (by decide) rfl rfl O7.out (by omega) HS7.out HIL7.out HI7.out (by omega) (by decide) ?_; intro v8 w8 ho8 hb8 hf8; apply shut))
    show wpList _ _ _ _ _ _
    obtain ⟨a8, p8, rfl⟩ := hf8
    have HO8 := hidP (own_base ho8 (Nat.le_succ _))
    have HB8 := hidP (HB7.out.trans (below_le hb8 (Nat.le_succ _)))
    clear O7 HS7 HB7 ho8 hb8
    go_wp2_with fail
    go_ret
    exact ⟨_, rfl, HB8.out, by rw [HW.out, List.length_append, HLO.out, HLX.out, iv_app]; exact HO8.out⟩
  ·have HW := hidP (HND.out hx)
   have HOF := hidP (own_base HO6.out (Nat.le_succ _))
   clear IH HND HYE AN HNN HNE HO6
   by_cases k : kd = 4 ∨ kd = 5
   ·obtain rfl : ne = 0 := by have := fun q => hx ⟨k, q⟩; omega
    clear hx
    rcases k with rfl | rfl
    all_goals
     go_wp2_with fail
     go_ret
     exact ⟨_, rfl, HB6.out, by rw [HW.out, HLO.out]; exact HOF.out⟩
   ·obtain ⟨k4, k5⟩ := not_or.mp k
    clear hx k
    go_wp2_with fail
    go_ret
    exact ⟨_, rfl, HB6.out, by rw [HW.out, HLO.out]; exact HOF.out⟩
end Go.Proofs.YtldbbkheemnnhaaGreatDoor

namespace Go.Proofs.YtldbbkheemnnhaaGreatDoor
open Go.RowKit Go.Maps
def plK : List (Bs × Value) -> Nat -> List Bs -> List (Bs × Value)
 | m, _, [] => m
 | m, i, x :: l => plK (if x ∈ m.map (·.1) then m else (x, .int .i64 (i : Int)) :: m) (i + 1) l
theorem plK_mem (x : Bs) : ∀ (l : List Bs) (m : List (Bs × Value)) (i : Nat), x ∈ (plK m i l).map (·.1) ↔ x ∈ m.map (·.1) ∨ x ∈ l
 | [], m, i => by simp [plK]
 | y :: l, m, i => by
  rw [plK, plK_mem x l]
  by_cases hy : y ∈ m.map (·.1)
  ·rw [if_pos hy, List.mem_cons]
   constructor
   ·rintro (h | h)
    ·exact .inl h
    ·exact .inr (.inr h)
   ·rintro (h | rfl | h)
    ·exact .inl h
    ·exact .inl hy
    ·exact .inr h
  ·rw [if_neg hy, List.map_cons, List.mem_cons, List.mem_cons]
   constructor
   ·rintro ((h | h) | h)
    ·exact .inr (.inl h)
    ·exact .inl h
    ·exact .inr (.inr h)
   ·rintro (h | h | h)
    ·exact .inl (.inr h)
    ·exact .inl (.inl h)
    ·exact .inr h
theorem findV_cons_same (x : Bs) (v z : Value) (m : List (Bs × Value)) : findV ((x, v) :: m) x z = v := by simp [findV]
theorem findV_cons_other {x y : Bs} (h : y ≠ x) (v z : Value) (m : List (Bs × Value)) : findV ((y, v) :: m) x z = findV m x z := by simp [findV, h]
theorem plK_find (x : Bs) (z : Value) : ∀ (l : List Bs) (m : List (Bs × Value)) (i : Nat), findV (plK m i l) x z = if x ∈ m.map (·.1) then findV m x z else if x ∈ l then .int .i64 ((i + l.idxOf x : Nat) : Int) else z
 | [], m, i => by
  rw [plK]
  by_cases hx : x ∈ m.map (·.1)
  ·rw [if_pos hx]
  ·rw [if_neg hx, if_neg (by simp), findV_out hx]
 | y :: l, m, i => by
  rw [plK, plK_find x z l]
  by_cases hy : y ∈ m.map (·.1)
  ·rw [if_pos hy]
   by_cases hx : x ∈ m.map (·.1)
   ·rw [if_pos hx, if_pos hx]
   ·rw [if_neg hx, if_neg hx]
    have hne : y ≠ x := fun e => hx (e ▸ hy)
    by_cases hl : x ∈ l
    ·rw [if_pos hl, if_pos (List.mem_cons_of_mem _ hl), List.idxOf_cons, show (y == x) = false by simpa using hne, cond_false, show i + 1 + List.idxOf x l = i + (List.idxOf x l + 1) by omega]
    ·rw [if_neg hl, if_neg (by rw [List.mem_cons]; rintro (e | h); exact hne e.symm; exact hl h)]
  ·rw [if_neg hy]
   by_cases he : y = x
   ·subst he
    rw [if_pos (by simp), findV_cons_same, if_neg hy, if_pos (by simp), List.idxOf_cons_self, Nat.add_zero]
   ·rw [findV_cons_other he]
    have h1 : (x ∈ ((y, Value.int .i64 (i : Int)) :: m).map (·.1)) ↔ x ∈ m.map (·.1) := by
     rw [List.map_cons, List.mem_cons]
     exact ⟨fun h => h.elim (fun e => absurd e.symm he) id, .inr⟩
    by_cases hx : x ∈ m.map (·.1)
    ·rw [if_pos (h1.2 hx), if_pos hx]
    ·rw [if_neg (fun h => hx (h1.1 h)), if_neg hx]
     by_cases hl : x ∈ l
     ·rw [if_pos hl, if_pos (List.mem_cons_of_mem _ hl), List.idxOf_cons, show (y == x) = false by simpa using he, cond_false, show i + 1 + List.idxOf x l = i + (List.idxOf x l + 1) by omega]
     ·rw [if_neg hl, if_neg (by rw [List.mem_cons]; rintro (e | h); exact he e.symm; exact hl h)]
def numL (l : List Bs) (x : Bs) : Int := if x ∈ l then ((l.idxOf x : Nat) : Int) else -1
theorem zero3 (w : World) : (zeroValue 3).run Tryz.prog w = .ok (.int .i64 0) w := by go_simp
theorem places_look {w : World} {b : Nat} {lives : List Bs} (H : Mp w b (plK [] 0 lives)) (x : Bs) (hx : x.length <= 140737488355328) :
  ∃ j, (Instr.lookup 76 (.map (some b)) (.string (str x)) true).run Tryz.prog w = .ok (.tuple #[.int .i64 j, .bool (decide (x ∈ lives))]) w /\ (x ∈ lives -> j = numL lives x) := by
 have h := H.look (t := 76) (e := 3) Tryz.underlying76 (zero3 w) x hx
 rw [plK_find, if_neg (by simp)] at h
 have hd : decide (x ∈ (plK [] 0 lives).map (·.1)) = decide (x ∈ lives) := decide_eq_decide.2 (by rw [plK_mem]; simp)
 rw [hd] at h
 by_cases hm : x ∈ lives
 ·rw [if_pos hm] at h
  exact ⟨_, h, fun _ => by rw [numL, if_pos hm, Nat.zero_add]⟩
 ·rw [if_neg hm] at h
  exact ⟨_, h, fun h => absurd h hm⟩
set_option maxHeartbeats 8000000 in
set_option maxRecDepth 20000 in
theorem placesOf42 {K : Ctx} {w : World} {v : Value} {l : List Bs} (h : Strs K w v l) (hC : K.C <= w.heap.size) (hL : l.length <= 1000) :
  Calls Tryz.prog 42 #[v] w fun ev w' => ∃ b, ev = .returned (.map (some b)) /\ Mp w' b (plK [] 0 l) /\ Below w.heap.size w w' /\ w.heap.size <= b /\ b < w'.heap.size := by
 obtain ⟨ao, cap, rfl⟩ := Ar.form h
 have HC := hidP hC
 have hsm := K.small
 have CE := hidP (fun i (hi : i < l.length) => h.cellAt hi)
 have HM0 := hidP (Mp.made w)
 have HA := hidP (alloc_one w (.map #[] 0))
 have HZ := hidP (size_alloc w (.map #[] 0))
 clear h hC
 generalize hnl : l.length = nl at *
 have HNL := hidP hnl
 clear hnl
 have hmm := @run_makeMap Tryz.prog
 go_enter Tryz.func42, Tryz.ntmps42
 go_wp2_with fail
 clear hmm
 generalize w.alloc (.map #[] 0) = w1 at *
 generalize hg : w.heap.size = gm at *
 have HGM := hidP hg
 clear hg
 go_loopg [11] nl (fun k v11 wr => ∃ (i : Nat) (m : List (Bs × Value)), i + k = nl /\ v11 = .int .i64 (i : Int) /\ Mp wr gm m /\ plK m i (l.drop i) = plK [] 0 l /\ m.length <= i /\ Below gm w wr /\ gm < wr.heap.size)
 case atStart => exact ⟨0, [], by omega, rfl, HM0.out, rfl, Nat.le_refl _, HA.out, by have := HZ.out; omega⟩
 case round =>
  obtain ⟨i, m, hi, rfl, hm, he, hml, hb, hz⟩ := hrel
  have HM := hidP hm
  have HE := hidP he
  have HB := hidP hb
  have HZ1 := hidP hz
  clear hm he hb hz HM0 HA HZ
  by_cases hlt : i < nl
  ·obtain ⟨b1, o1, rfl, hb1, hc1, hl1⟩ := CE.out i hlt
   have hc2 := (HB.out.cell (p := ⟨b1, o1 + i, none⟩) (by have := HC.out; show b1 < gm; omega)).trans hc1
   have l1 : (i : Int) < (nl : Int) := by omega
   have HD := hidP (show l.drop i = l.getD i [] :: l.drop (i + 1) by
    rw [List.drop_eq_getElem_cons (by have := HNL.out; omega)]
    simp [List.getD, List.getElem?_eq_getElem (show i < l.length by have := HNL.out; omega)])
   rw [HD.out, plK] at HE
   generalize l.getD i [] = x at *
   have hx9 : x.length <= 140737488355328 := by omega
   have lk := HM.out.look (t := 76) (e := 3) Tryz.underlying76 (zero3 wr) x hx9
   clear HD hc1
   by_cases hin : x ∈ m.map (·.1)
   ·rw [if_pos hin] at HE
    rw [decide_eq_true hin] at lk
    generalize findV m x (.int .i64 0) = fv at lk
    generalize str x = SX at *
    clear hin hx9 hl1
    go_wp2_with fail
    go_roundg (gk - 1)
    case measure => omega
    case rel => exact ⟨i + 1, m, by omega, by go_num, HM.out, HE.out, by omega, HB.out, HZ1.out⟩
   ·rw [if_neg hin] at HE
    rw [decide_eq_false hin, findV_out hin] at lk
    obtain ⟨w', hrun, hMp', hgr, hsz⟩ := HM.out.put (t := 76) (e := 3) Tryz.underlying76 (by have := HNL.out; omega) x hx9 hin (.int .i64 (i : Int))
    have HM' := hidP hMp'
    have ST := hidP (stay_grown hgr hsz)
    have HB' := hidP (HB.out.trans (ST.out.below (C := gm) (Nat.le_of_lt HZ1.out) (fun q hq => Nat.le_of_eq hq.symm)))
    have HZ' := hidP (Nat.lt_of_lt_of_le HZ1.out ST.out.size)
    clear hMp' hgr hsz hin hx9 hl1 HM HB HZ1 ST
    generalize str x = SX at *
    go_wp2_with fail
    go_roundg (gk - 1)
    case measure => omega
    case rel => exact ⟨i + 1, _, by omega, by go_num, HM'.out, HE.out, by simp; omega, HB'.out, HZ'.out⟩
  ·have e : i = nl := by omega
   have HF := hidP (show m = plK [] 0 l by
    rw [← HE.out, List.drop_eq_nil_of_le (by have := HNL.out; omega)]
    rfl)
   subst e
   clear hlt
   go_wp2_with fail
   go_ret
   exact ⟨gm, rfl, by rw [← HF.out]; exact HM.out, by rw [HGM.out]; exact HB.out, Nat.le_of_eq HGM.out, HZ1.out⟩
set_option maxHeartbeats 4000000 in
theorem first73 {K : Ctx} {w : World} {v : Value} {l : List Bs} (h : Strs K w v l) :
  Calls Tryz.prog 73 #[v] w fun ev w' => ∃ u, ev = .returned u /\ w' = w /\ Strs K w u (l.take 1) := by
 obtain ⟨a, p, rfl⟩ := Ar.form h
 obtain ⟨ao, cap, e, h1, h2, -⟩ := h.shape
 cases e
 cases l with
 | nil =>
  simp only [List.length_nil] at *
  have H := hidP h
  clear h
  go_enter Tryz.func73, Tryz.ntmps73
  go_wp2_with fail
  go_ret
  exact ⟨_, rfl, rfl, H.out⟩
 | cons x l =>
  have H := hidP (show Strs K w (.slice a 1 p) [x] from Ar.take1 h)
  have h8 : 1 <= (x :: l).length := by simp
  clear h
  generalize (x :: l).length = n at *
  go_enter Tryz.func73, Tryz.ntmps73
  go_wp2_with fail
  go_ret
  exact ⟨.slice a (min 1 (n : Int)).toNat p, rfl, rfl, by rw [show (min 1 (n : Int)).toNat = 1 by omega]; exact H.out⟩
set_option maxHeartbeats 4000000 in
theorem first74 {K : Ctx} {w : World} {d : Nat} {v : Value} {l : List Ty} (h : Ar 4 72 (TyAt d K w) K w v l) :
  Calls Tryz.prog 74 #[v] w fun ev w' => ∃ u, ev = .returned u /\ w' = w /\ Ar 4 72 (TyAt d K w) K w u (l.take 1) := by
 obtain ⟨a, p, rfl⟩ := Ar.form h
 obtain ⟨ao, cap, e, h1, h2, -⟩ := h.shape
 cases e
 cases l with
 | nil =>
  simp only [List.length_nil] at *
  have H := hidP h
  clear h
  go_enter Tryz.func74, Tryz.ntmps74
  go_wp2_with fail
  go_ret
  exact ⟨_, rfl, rfl, H.out⟩
 | cons x l =>
  have H := hidP (show Ar 4 72 (TyAt d K w) K w (.slice a 1 p) [x] from Ar.take1 h)
  have h8 : 1 <= (x :: l).length := by simp
  clear h
  generalize (x :: l).length = n at *
  go_enter Tryz.func74, Tryz.ntmps74
  go_wp2_with fail
  go_ret
  exact ⟨.slice a (min 1 (n : Int)).toNat p, rfl, rfl, by rw [show (min 1 (n : Int)).toNat = 1 by omega]; exact H.out⟩
end Go.Proofs.YtldbbkheemnnhaaGreatDoor
