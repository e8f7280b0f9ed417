/-
  The texts Dp8, Lf8, joined.
-/
import Derived.Test.YtldbbkheemnnhaaGreatDoorJpRq83
namespace Go.Proofs.YtldbbkheemnnhaaGreatDoor
open Go.RowKit
def deepB : Nat -> RTy -> Bool
 | 0, _ => true
 | k + 1, t => decide (2 < t.elem.length) || (decide (70 < t.regs.length) || t.elem.any (deepB k))
theorem deepB_fit : ∀ {k : Nat} {t : RTy}, deepB k t = false -> Fit k t
 | 0, _, h => by simp [deepB] at h
 | k + 1, t, h => by
  simp only [deepB, Bool.or_eq_false_iff, decide_eq_false_iff_not, List.any_eq_false] at h
  exact ⟨by omega, by omega, fun e he => deepB_fit (by have := h.2.2 e he; simpa using this)⟩
set_option maxHeartbeats 16000000 in
set_option maxRecDepth 20000 in
theorem deep10 {K : Ctx} : ∀ (k : Nat) {n : Nat} {m : Int} {w : World} {cs : List Value} {t : RTy}, m = (k : Int) -> m <= 100000 -> RtAt n K w cs t -> K.C <= w.heap.size ->
  Calls Tryz.prog 10 #[.agg cs.toArray, .int .i64 m] w fun ev w' => ev = .returned (.bool (deepB k t)) /\ Below w.heap.size w w'
 | 0, n, m, w, cs, t, hm, _, ht, hC => by
  obtain ⟨n, rfl⟩ : ∃ j, n = j + 1 := by
   cases n with
   | zero => exact ht.elim
   | succ j => exact ⟨j, rfl⟩
  obtain ⟨v2, v3, rfl, _, h2, h3⟩ := ht
  have HA := hidP (alloc_one w (.cells #[.int .i64 t.kind, .string (str t.name), v2, v3] 25))
  clear h2 h3 hC
  obtain rfl : m = 0 := by omega
  clear hm
  generalize t.kind = kd at *
  generalize str t.name = SN at *
  go_enter Tryz.func10, Tryz.ntmps10
  go_wp2_with fail
  go_ret
  exact ⟨retB rfl, HA.out⟩
 | k + 1, n, m, w, cs, t, hm, hm9, ht, hC => by
  have IH := hidP (fun (y : World) (hy : Below w.heap.size w y) (n : Nat) (cs : List Value) (e : RTy) (he : RtAt n K y cs e) => deep10 k (m := m - 1) (by omega) (by omega) he (Nat.le_trans hC hy.size))
  obtain ⟨n, rfl⟩ : ∃ j, n = j + 1 := by
   cases n with
   | zero => exact ht.elim
   | succ j => exact ⟨j, rfl⟩
  obtain ⟨v2, v3, rfl, _, h2, h3⟩ := ht
  obtain ⟨a2, p2, rfl⟩ := Ar.form h2
  obtain ⟨a3, p3, rfl⟩ := Ar.form h3
  have AN := hidP (fun i hi => Ar.each h3 i hi)
  have HC := hidP hC
  have HS := hidP (show deepB (k + 1) t = (decide (2 < t.elem.length) || (decide (70 < t.regs.length) || t.elem.any (deepB k))) from rfl)
  have HA := hidP (alloc_one w (.cells #[.int .i64 t.kind, .string (str t.name), .slice a2 t.regs.length p2, .slice a3 t.elem.length p3] 25))
  have R2 := hidP (Row.new w 25 [.int .i64 t.kind, .string (str t.name), .slice a2 t.regs.length p2, .slice a3 t.elem.length p3])
  have hm1 : 1 <= m := by omega
  clear h2 h3 hC hm
  generalize t.kind = kd at *
  generalize str t.name = SN at *
  generalize hnr : t.regs.length = nr at HS HA R2 ⊢
  clear hnr
  generalize hne : t.elem.length = ne at HS HA R2 ⊢
  have HNE := hidP hne
  clear hne
  have y2 := R2.out.cell 2
  have y3 := R2.out.cell 3
  simp only [List.getElem?_cons_zero, List.getElem?_cons_succ] at y2 y3
  have m1 : ¬ m <= 0 := by omega
  by_cases h2 : 2 < ne
  ·have HQ := hidP (show deepB (k + 1) t = true by rw [HS.out, decide_eq_true h2, Bool.true_or])
   have l2 : (2 : Int) < (ne : Int) := by omega
   clear HS IH AN
   go_enter Tryz.func10, Tryz.ntmps10
   go_wp2_with fail
   go_ret
   exact ⟨retB HQ.out, HA.out⟩
  ·by_cases h7 : 70 < nr
   ·have HQ := hidP (show deepB (k + 1) t = true by rw [HS.out, decide_eq_true h7, Bool.true_or, Bool.or_true])
    have l2 : ¬ (2 : Int) < (ne : Int) := by omega
    have l7 : (70 : Int) < (nr : Int) := by omega
    clear HS IH AN
    go_enter Tryz.func10, Tryz.ntmps10
    go_wp2_with fail
    go_ret
    exact ⟨retB HQ.out, HA.out⟩
   ·have HQ := hidP (show deepB (k + 1) t = t.elem.any (deepB k) by rw [HS.out, decide_eq_false h7, decide_eq_false h2, Bool.false_or, Bool.false_or])
    have l2 : ¬ (2 : Int) < (ne : Int) := by omega
    have l7 : ¬ (70 : Int) < (nr : Int) := by omega
    clear HS
    go_enter Tryz.func10, Tryz.ntmps10
    go_wp2_with fail
    clear y2 y3
    go_loopg [5] ne (fun r v5 wr => ∃ i : Nat, i + r = ne /\ v5 = .int .i64 (i : Int) /\ Below w.heap.size w wr /\ Row wr w.heap.size 25 [.int .i64 kd, .string SN, .slice a2 nr p2, .slice a3 ne p3] /\ (t.elem.drop i).any (deepB k) = t.elem.any (deepB k))
    case atStart => exact ⟨0, by omega, rfl, HA.out, R2.out, rfl⟩
    case round =>
     obtain ⟨i, hi, rfl, hb, hr, hd⟩ := hrel
     have HB := hidP hb
     have HD := hidP hd
     have RW := hidP hr
     have y3 := hr.cell 3
     simp only [List.getElem?_cons_zero, List.getElem?_cons_succ] at y3
     clear hb hd hr HA R2
     by_cases hlt : i < ne
     ·have hil : i < t.elem.length := by have := HNE.out; omega
      obtain ⟨b1, o1, rfl, hb1, c1, hl1, hc1, hp1⟩ := AN.out i hil
      have r1 := hidP (range_le hc1 HB.out (Nat.lt_of_lt_of_le hb1 HC.out))
      have s1 := hidP (show (Tryz.prog.info? 25).map (·.size) = some c1.length by rw [hl1]; exact Tryz.sz25)
      have CALL := hidP (IH.out wr HB.out n c1 _ (hp1.below (below_le HB.out HC.out)))
      have HDD := hidP (show (t.elem.drop i).any (deepB k) = (deepB k t.elem[i] || (t.elem.drop (i + 1)).any (deepB k)) by rw [List.drop_eq_getElem_cons hil, List.any_cons])
      generalize t.elem[i] = x at CALL HDD
      clear hp1 hc1 hl1 hb1 hil
      have l1 : (i : Int) < (ne : Int) := by omega
      go_wp2_with (first | (refine wpList_load_mid rfl 25 (.tmp 30) rfl b1 (o1 + i * 4) rfl c1 _ r1.out Tryz.underlying25 rfl s1.out ?_))
      refine CALL.out.mono ?_
      rintro _ w5 ⟨rfl, hb5⟩
      have HB5 := hidP (HB.out.trans (below_le hb5 HB.out.size))
      have RW5 := hidP (RW.out.below hb5 RW.out.lt)
      clear CALL RW HB hb5 y3 r1
      rcases hpp : deepB k x with _ | _
      ·have HP := hidP hpp
       clear hpp
       go_wp2_with fail
       go_roundg (gk - 1)
       case measure => omega
       case rel => exact ⟨i + 1, by omega, by go_num, HB5.out, RW5.out, by rw [← HD.out, HDD.out, HP.out, Bool.false_or]⟩
      ·have HP := hidP hpp
       clear hpp
       go_wp2_with fail
       go_ret
       exact ⟨retB (by rw [HQ.out, ← HD.out, HDD.out, HP.out, Bool.true_or]), HB5.out⟩
     ·have e : i = ne := by omega
      have HT := hidP (show deepB (k + 1) t = false by
       rw [HQ.out, ← HD.out, List.drop_eq_nil_of_le (by have := HNE.out; omega)]
       rfl)
      subst e
      clear hlt
      go_wp2_with fail
      go_ret
      exact ⟨retB HT.out, HB.out⟩
end Go.Proofs.YtldbbkheemnnhaaGreatDoor

namespace Go.Proofs.YtldbbkheemnnhaaGreatDoor
open Go.RowKit Go.Maps
def plK : List (Bs × Value) -> Nat -> List Bs -> List (Bs × Value)
 | m, _, [] => m
 | m, i, x :: l => plK (if x ∈ m.map (·.1) then m else (x, .int .i64 (i : Int)) :: m) (i + 1) l
theorem plK_mem (x : Bs) : ∀ (l : List Bs) (m : List (Bs × Value)) (i : Nat), x ∈ (plK m i l).map (·.1) ↔ x ∈ m.map (·.1) ∨ x ∈ l
 | [], m, i => by simp [plK]
 | y :: l, m, i => by
  rw [plK, plK_mem x l]
  by_cases hy : y ∈ m.map (·.1)
  ·rw [if_pos hy, List.mem_cons]
   constructor
   ·rintro (h | h)
    ·exact .inl h
    ·exact .inr (.inr h)
   ·rintro (h | rfl | h)
    ·exact .inl h
    ·exact .inl hy
    ·exact .inr h
  ·rw [if_neg hy, List.map_cons, List.mem_cons, List.mem_cons]
   constructor
   ·rintro ((h | h) | h)
    ·exact .inr (.inl h)
    ·exact .inl h
    ·exact .inr (.inr h)
   ·rintro (h | h | h)
    ·exact .inl (.inr h)
    ·exact .inl (.inl h)
    ·exact .inr h
theorem findV_cons_same (x : Bs) (v z : Value) (m : List (Bs × Value)) : findV ((x, v) :: m) x z = v := by simp [findV]
theorem findV_cons_other {x y : Bs} (h : y ≠ x) (v z : Value) (m : List (Bs × Value)) : findV ((y, v) :: m) x z = findV m x z := by simp [findV, h]
theorem plK_find (x : Bs) (z : Value) : ∀ (l : List Bs) (m : List (Bs × Value)) (i : Nat), findV (plK m i l) x z = if x ∈ m.map (·.1) then findV m x z else if x ∈ l then .int .i64 ((i + l.idxOf x : Nat) : Int) else z
 | [], m, i => by
  rw [plK]
  by_cases hx : x ∈ m.map (·.1)
  ·rw [if_pos hx]
  ·rw [if_neg hx, if_neg (by simp), findV_out hx]
 | y :: l, m, i => by
  rw [plK, plK_find x z l]
  by_cases hy : y ∈ m.map (·.1)
  ·rw [if_pos hy]
   by_cases hx : x ∈ m.map (·.1)
   ·rw [if_pos hx, if_pos hx]
   ·rw [if_neg hx, if_neg hx]
    have hne : y ≠ x := fun e => hx (e ▸ hy)
    by_cases hl : x ∈ l
    ·rw [if_pos hl, if_pos (List.mem_cons_of_mem _ hl), List.idxOf_cons, show (y == x) = false by simpa using hne, cond_false, show i + 1 + List.idxOf x l = i + (List.idxOf x l + 1) by omega]
    ·rw [if_neg hl, if_neg (by rw [List.mem_cons]; rintro (e | h); exact hne e.symm; exact hl h)]
  ·rw [if_neg hy]
   by_cases he : y = x
   ·subst he
    rw [if_pos (by simp), findV_cons_same, if_neg hy, if_pos (by simp), List.idxOf_cons_self, Nat.add_zero]
   ·rw [findV_cons_other he]
    have h1 : (x ∈ ((y, Value.int .i64 (i : Int)) :: m).map (·.1)) ↔ x ∈ m.map (·.1) := by
     rw [List.map_cons, List.mem_cons]
     exact ⟨fun h => h.elim (fun e => absurd e.symm he) id, .inr⟩
    by_cases hx : x ∈ m.map (·.1)
    ·rw [if_pos (h1.2 hx), if_pos hx]
    ·rw [if_neg (fun h => hx (h1.1 h)), if_neg hx]
     by_cases hl : x ∈ l
     ·rw [if_pos hl, if_pos (List.mem_cons_of_mem _ hl), List.idxOf_cons, show (y == x) = false by simpa using he, cond_false, show i + 1 + List.idxOf x l = i + (List.idxOf x l + 1) by omega]
     ·rw [if_neg hl, if_neg (by rw [List.mem_cons]; rintro (e | h); exact he e.symm; exact hl h)]
def numL (l : List Bs) (x : Bs) : Int := if x ∈ l then ((l.idxOf x : Nat) : Int) else -1
theorem zero3 (w : World) : (zeroValue 3).run Tryz.prog w = .ok (.int .i64 0) w := by go_simp
theorem places_look {w : World} {b : Nat} {lives : List Bs} (H : Mp w b (plK [] 0 lives)) (x : Bs) (hx : x.length <= 140737488355328) :
  ∃ j, (Instr.lookup 76 (.map (some b)) (.string (str x)) true).run Tryz.prog w = .ok (.tuple #[.int .i64 j, .bool (decide (x ∈ lives))]) w /\ (x ∈ lives -> j = numL lives x) := by
 have h := H.look (t := 76) (e := 3) Tryz.underlying76 (zero3 w) x hx
 rw [plK_find, if_neg (by simp)] at h
 have hd : decide (x ∈ (plK [] 0 lives).map (·.1)) = decide (x ∈ lives) := decide_eq_decide.2 (by rw [plK_mem]; simp)
 rw [hd] at h
 by_cases hm : x ∈ lives
 ·rw [if_pos hm] at h
  exact ⟨_, h, fun _ => by rw [numL, if_pos hm, Nat.zero_add]⟩
 ·rw [if_neg hm] at h
  exact ⟨_, h, fun h => absurd h hm⟩
set_option maxHeartbeats 8000000 in
set_option maxRecDepth 20000 in
theorem placesOf42 {K : Ctx} {w : World} {v : Value} {l : List Bs} (h : Strs K w v l) (hC : K.C <= w.heap.size) (hL : l.length <= 1000) :
  Calls Tryz.prog 42 #[v] w fun ev w' => ∃ b, ev = .returned (.map (some b)) /\ Mp w' b (plK [] 0 l) /\ Below w.heap.size w w' /\ w.heap.size <= b /\ b < w'.heap.size := by
 obtain ⟨ao, cap, rfl⟩ := Ar.form h
 have HC := hidP hC
 have hsm := K.small
 have CE := hidP (fun i (hi : i < l.length) => h.cellAt hi)
 have HM0 := hidP (Mp.made w)
 have HA := hidP (alloc_one w (.map #[] 0))
 have HZ := hidP (size_alloc w (.map #[] 0))
 clear h hC
 generalize hnl : l.length = nl at *
 have HNL := hidP hnl
 clear hnl
 have hmm := @run_makeMap Tryz.prog
 go_enter Tryz.func42, Tryz.ntmps42
 go_wp2_with fail
 clear hmm
 generalize w.alloc (.map #[] 0) = w1 at *
 generalize hg : w.heap.size = gm at *
 have HGM := hidP hg
 clear hg
 go_loopg [11] nl (fun k v11 wr => ∃ (i : Nat) (m : List (Bs × Value)), i + k = nl /\ v11 = .int .i64 (i : Int) /\ Mp wr gm m /\ plK m i (l.drop i) = plK [] 0 l /\ m.length <= i /\ Below gm w wr /\ gm < wr.heap.size)
 case atStart => exact ⟨0, [], by omega, rfl, HM0.out, rfl, Nat.le_refl _, HA.out, by have := HZ.out; omega⟩
 case round =>
  obtain ⟨i, m, hi, rfl, hm, he, hml, hb, hz⟩ := hrel
  have HM := hidP hm
  have HE := hidP he
  have HB := hidP hb
  have HZ1 := hidP hz
  clear hm he hb hz HM0 HA HZ
  by_cases hlt : i < nl
  ·obtain ⟨b1, o1, rfl, hb1, hc1, hl1⟩ := CE.out i hlt
   have hc2 := (HB.out.cell (p := ⟨b1, o1 + i, none⟩) (by have := HC.out; show b1 < gm; omega)).trans hc1
   have l1 : (i : Int) < (nl : Int) := by omega
   have HD := hidP (show l.drop i = l.getD i [] :: l.drop (i + 1) by
    rw [List.drop_eq_getElem_cons (by have := HNL.out; omega)]
    simp [List.getD, List.getElem?_eq_getElem (show i < l.length by have := HNL.out; omega)])
   rw [HD.out, plK] at HE
   generalize l.getD i [] = x at *
   have hx9 : x.length <= 140737488355328 := by omega
   have lk := HM.out.look (t := 76) (e := 3) Tryz.underlying76 (zero3 wr) x hx9
   clear HD hc1
   by_cases hin : x ∈ m.map (·.1)
   ·rw [if_pos hin] at HE
    rw [decide_eq_true hin] at lk
    generalize findV m x (.int .i64 0) = fv at lk
    generalize str x = SX at *
    clear hin hx9 hl1
    go_wp2_with fail
    go_roundg (gk - 1)
    case measure => omega
    case rel => exact ⟨i + 1, m, by omega, by go_num, HM.out, HE.out, by omega, HB.out, HZ1.out⟩
   ·rw [if_neg hin] at HE
    rw [decide_eq_false hin, findV_out hin] at lk
    obtain ⟨w', hrun, hMp', hgr, hsz⟩ := HM.out.put (t := 76) (e := 3) Tryz.underlying76 (by have := HNL.out; omega) x hx9 hin (.int .i64 (i : Int))
    have HM' := hidP hMp'
    have ST := hidP (stay_grown hgr hsz)
    have HB' := hidP (HB.out.trans (ST.out.below (C := gm) (Nat.le_of_lt HZ1.out) (fun q hq => Nat.le_of_eq hq.symm)))
    have HZ' := hidP (Nat.lt_of_lt_of_le HZ1.out ST.out.size)
    clear hMp' hgr hsz hin hx9 hl1 HM HB HZ1 ST
    generalize str x = SX at *
    go_wp2_with fail
    go_roundg (gk - 1)
    case measure => omega
    case rel => exact ⟨i + 1, _, by omega, by go_num, HM'.out, HE.out, by simp; omega, HB'.out, HZ'.out⟩
  ·have e : i = nl := by omega
   have HF := hidP (show m = plK [] 0 l by
    rw [← HE.out, List.drop_eq_nil_of_le (by have := HNL.out; omega)]
    rfl)
   subst e
   clear hlt
   go_wp2_with fail
   go_ret
   exact ⟨gm, rfl, by rw [← HF.out]; exact HM.out, by rw [HGM.out]; exact HB.out, Nat.le_of_eq HGM.out, HZ1.out⟩
set_option maxHeartbeats 4000000 in
theorem first73 {K : Ctx} {w : World} {v : Value} {l : List Bs} (h : Strs K w v l) :
  Calls Tryz.prog 73 #[v] w fun ev w' => ∃ u, ev = .returned u /\ w' = w /\ Strs K w u (l.take 1) := by
 obtain ⟨a, p, rfl⟩ := Ar.form h
 obtain ⟨ao, cap, e, h1, h2, -⟩ := h.shape
 cases e
 cases l with
 | nil =>
  simp only [List.length_nil] at *
  have H := hidP h
  clear h
  go_enter Tryz.func73, Tryz.ntmps73
  go_wp2_with fail
  go_ret
  exact ⟨_, rfl, rfl, H.out⟩
 | cons x l =>
  have H := hidP (show Strs K w (.slice a 1 p) [x] from Ar.take1 h)
  have h8 : 1 <= (x :: l).length := by simp
  clear h
  generalize (x :: l).length = n at *
  go_enter Tryz.func73, Tryz.ntmps73
  go_wp2_with fail
  go_ret
  exact ⟨.slice a (min 1 (n : Int)).toNat p, rfl, rfl, by rw [show (min 1 (n : Int)).toNat = 1 by omega]; exact H.out⟩
set_option maxHeartbeats 4000000 in
theorem first74 {K : Ctx} {w : World} {d : Nat} {v : Value} {l : List Ty} (h : Ar 4 72 (TyAt d K w) K w v l) :
  Calls Tryz.prog 74 #[v] w fun ev w' => ∃ u, ev = .returned u /\ w' = w /\ Ar 4 72 (TyAt d K w) K w u (l.take 1) := by
 obtain ⟨a, p, rfl⟩ := Ar.form h
 obtain ⟨ao, cap, e, h1, h2, -⟩ := h.shape
 cases e
 cases l with
 | nil =>
  simp only [List.length_nil] at *
  have H := hidP h
  clear h
  go_enter Tryz.func74, Tryz.ntmps74
  go_wp2_with fail
  go_ret
  exact ⟨_, rfl, rfl, H.out⟩
 | cons x l =>
  have H := hidP (show Ar 4 72 (TyAt d K w) K w (.slice a 1 p) [x] from Ar.take1 h)
  have h8 : 1 <= (x :: l).length := by simp
  clear h
  generalize (x :: l).length = n at *
  go_enter Tryz.func74, Tryz.ntmps74
  go_wp2_with fail
  go_ret
  exact ⟨.slice a (min 1 (n : Int)).toNat p, rfl, rfl, by rw [show (min 1 (n : Int)).toNat = 1 by omega]; exact H.out⟩
end Go.Proofs.YtldbbkheemnnhaaGreatDoor
