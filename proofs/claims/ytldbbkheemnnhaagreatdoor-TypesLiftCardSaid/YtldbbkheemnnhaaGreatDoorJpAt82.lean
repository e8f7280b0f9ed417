/-
  The texts At8, Au8, joined.
-/
import Derived.Test.YtldbbkheemnnhaaGreatDoorQpFd8
namespace Go.Proofs.YtldbbkheemnnhaaGreatDoor
open Go.RowKit Go.Maps
set_option maxHeartbeats 8000000 in
theorem withinV {w : World} {b o ne p3 : Nat} {kd : Int} {v1 v2 : Value} {a3 : Option Addr} (hr : w.rangeAt b o [.int .i64 kd, v1, v2, .slice a3 ne p3]) (h0 : 0 < ne -> ∃ b' o', a3 = some ⟨b', o', none⟩) :
  Calls Tryz.prog 36 #[.pointer (some ⟨b, o, none⟩)] w fun ev w' => ev = .returned (if (kd = 4 ∨ kd = 5) /\ 0 < ne then .pointer a3 else .pointer none) /\ w' = w := by
 have c0 := hr 0 _ rfl
 have c3 := hr 3 _ rfl
 rw [Nat.add_zero] at c0
 clear hr
 by_cases h4 : kd = 4 ∨ kd = 5
 ·by_cases hn : 0 < ne
  ·obtain ⟨b', o', rfl⟩ := h0 hn
   rw [if_pos ⟨h4, hn⟩]
   have e0 : ((ne : Int) == 0) = false := by simp; omega
   have l1 : (0 : Int) < (ne : Int) := by omega
   clear hn h0
   rcases h4 with rfl | rfl
   all_goals
    go_enter Tryz.func36, Tryz.ntmps36
    go_wp2_with fail
    go_ret
    exact ⟨rfl, rfl⟩
  ·obtain rfl : ne = 0 := by omega
   rw [if_neg (fun h => hn h.2)]
   clear hn h0
   rcases h4 with rfl | rfl
   all_goals
    go_enter Tryz.func36, Tryz.ntmps36
    go_wp2_with fail
    go_ret
    exact ⟨rfl, rfl⟩
 ·rw [if_neg (fun h => h4 h.1)]
  have e4 : (kd == 4) = false := by simp; omega
  have e5 : (kd == 5) = false := by simp; omega
  clear h4 h0
  go_enter Tryz.func36, Tryz.ntmps36
  go_wp2_with fail
  go_ret
  exact ⟨rfl, rfl⟩
def stpR (L : List Sct) (D : Nat) (t : RTy) (nm : Bs) : RTy × Int :=
 if nm = [42] then (match nxtR t with | some e => (e, 0) | none => (zR, 25)) else fldR L D t nm
theorem ArQ.head1 {α : Type} {z bz : Nat} {P : List Value -> α -> Prop} {Q : Nat -> Prop} {w : World} {a : Option Addr} {n p : Nat} {x : α} {l : List α} (h : ArQ z bz P Q w (.slice a n p) (x :: l)) : ∃ b o, a = some ⟨b, o, none⟩ /\ Q b /\ ∃ cs, cs.length = z /\ w.rangeAt b o cs /\ P cs x := by
 obtain ⟨ao, cap, e, _, _, hA⟩ := h.shape
 cases e
 obtain ⟨b, o, e1, hb, cs, hl, hc, hp⟩ := hA 0 (by simp)
 refine ⟨b, o, e1, hb, cs, hl, fun j u hj => ?_, hp⟩
 have hj' : j < z := by
  rcases Nat.lt_or_ge j z with h | h
  ·exact h
  ·rw [List.getElem?_eq_none (by omega)] at hj; cases hj
 have := hc j hj'
 rw [show o + 0 * z + j = o + j by omega] at this
 rw [this, hj]
set_option maxHeartbeats 16000000 in
set_option maxRecDepth 20000 in
theorem step46 {BB : Nat} {Qi Q : Nat -> Prop} {B : Nat} {gs b c : Nat} {L : List Sct} {D n : Nat} {w : World} {cs : List Value} {t : RTy} {nm : Bs} (hBB : B <= 1048576) (hKB : B <= BB) (hsm : BB <= 140737488355328) (hOL : OkL L D) (hD : D <= n) (hs : Scp Q B w gs b c L) (ht : RtQ n Qi BB w cs t) (hQi : ∀ k, Qi k -> k < w.heap.size) :
  Calls Tryz.prog 46 #[.pointer (some ⟨gs, 0, none⟩), .agg cs.toArray, .string (str nm)] w fun ev w' => ∃ d, ev = .returned (.tuple #[.agg d.toArray, .int .i64 (stpR L D t nm).2]) /\ Below w.heap.size w w' /\ RtQ n (fun k => Qi k ∨ Fr w w' k) BB w' d (stpR L D t nm).1 := by
 have hl4 := hidP ht.len
 have HA := hidP (alloc_two w (.cells cs.toArray 25) (.cells z25.toArray 25))
 have R4 := hidP ((Row.new w 25 cs).alloc (.cells z25.toArray 25))
 have R6 := hidP (Row.new (w.alloc (.cells cs.toArray 25)) 25 z25)
 have HZ := hidP (size_two w (.cells cs.toArray 25) (.cells z25.toArray 25))
 have HQI := hidP hQi
 have HT := hidP ht
 have s4 := hidP (show (Tryz.prog.info? 25).map (·.size) = some cs.length by rw [ht.len]; exact Tryz.sz25)
 rw [size_alloc] at R6
 generalize hW : (w.alloc (.cells cs.toArray 25)).alloc (.cells z25.toArray 25) = W at R4 R6 HA HZ
 have HW := hidP hW
 clear hW
 have hsb := str_beq nm [42]
 have hs42 : (str [42] : ByteArray).toList = [42] := by
  unfold str
  rw [ByteArray.toList_mk]
 rw [hs42] at hsb
 have HTW := hidP (show RtQ n Qi BB W cs t from HT.out.mono ⟨fun _ h => h, fun k hk => HA.out.block k (HQI.out k hk)⟩)
 by_cases hst : nm = [42]
 ·rw [decide_eq_true hst] at hsb
  have HS := hidP (show stpR L D t nm = (match nxtR t with | some e => (e, 0) | none => (zR, 25)) from if_pos hst)
  generalize str nm = SM at *
  clear hs hst hs42
  obtain ⟨n, rfl⟩ : ∃ j, n = j + 1 := by
   cases n with
   | zero => exact ht.elim
   | succ j => exact ⟨j, rfl⟩
  have hTT := HTW.out
  obtain ⟨v2, v3, rfl, hB, h2, h3⟩ := hTT
  obtain ⟨a3, p3, rfl⟩ := h3.form
  generalize hne : t.elem.length = ne at *
  have HNE := hidP hne
  clear hne
  generalize hsn : str t.name = SN at *
  clear hsn
  generalize hkd : t.kind = kd at *
  have HKD := hidP hkd
  clear hkd
  have hNX : nxtR t = if kd = 4 ∨ kd = 5 then t.elem.head? else none := by rw [← HKD.out]; rfl
  rcases hel : t.elem with _ | ⟨e, es⟩
  ·have hX : nxtR t = none := by rw [hNX, hel]; split <;> rfl
   have HQ := hidP (show stpR L D t nm = (zR, 25) by rw [HS.out, hX])
   obtain rfl : ne = 0 := by rw [← HNE.out, hel]; rfl
   have WI := hidP (withinV (w := W) (R4.out.range) (fun h => by omega))
   rw [if_neg (fun h => by have := h.2; omega)] at WI
   clear HT HTW ht h2 h3 hX hNX HS
   go_enter Tryz.func46, Tryz.ntmps46
   go_wp2_with fail
   first
    | rw [HW.out]
    | rw [show (w.alloc (.cells #[.int .i64 kd, .string SN, v2, _] 25)).alloc (.cells #[.int .i64 0, .string ⟨#[]⟩, .slice none 0 0, .slice none 0 0] 25) = W from HW.out]
   refine WI.out.mono ?_
   rintro _ wz ⟨rfl, hwz⟩
   rw [hwz]
   clear hwz WI
   go_wp2_with (first | (refine stR rfl 25 (.tmp 6) (.tmp 20) rfl (cs := [.int .i64 0, .string ⟨#[]⟩, .slice none 0 0, .slice none 0 0]) rfl rfl R6.out Tryz.sz25 rfl (ones_cons rfl (ones_cons rfl (ones_cons rfl (ones_cons rfl ones_nil)))) ?_; intro wF RF SF; apply shut))
   show wpList _ _ _ _ _ _
   have BF := hidP (HA.out.trans (SF.below (C := w.heap.size) HA.out.size (fun q hq => by have : q = w.heap.size + 1 := hq; omega)))
   replace RF := hidP RF
   clear SF
   go_wp2_with fail
   exact bodyPost_ret (v := .tuple #[.agg #[.int .i64 0, .string ⟨#[]⟩, .slice none 0 0, .slice none 0 0], .int .i64 25]) (results_cell_row2 Tryz.results46 _ _ (w.heap.size + 1) 25 _ (0, 0) _ rfl RF.out.heap Tryz.underlying25 rfl (by kernel_rfl)) rfl ⟨[.int .i64 0, .string ⟨#[]⟩, .slice none 0 0, .slice none 0 0], by rw [HQ.out], BF.out, by rw [HQ.out]; exact rt_zero⟩
  ·have hne1 : 0 < ne := by rw [← HNE.out, hel]; simp
   have hNE1 := hidP hne1
   clear hne1
   by_cases hk : kd = 4 ∨ kd = 5
   ·have hX : nxtR t = some e := by rw [hNX, hel, if_pos hk]; rfl
    have HQ := hidP (show stpR L D t nm = (e, 0) by rw [HS.out, hX])
    rw [hel] at h3
    obtain ⟨b1, o1, rfl, hb1, c1, hl1, hr1, hp1⟩ := h3.head1
    have WI := hidP (withinV (w := W) (R4.out.range) (fun _ => ⟨b1, o1, rfl⟩))
    rw [if_pos ⟨hk, hNE1.out⟩] at WI
    obtain ⟨c0, cb, cc, cd, rfl⟩ : ∃ d0 d1 d2 d3, c1 = [d0, d1, d2, d3] := by
     match c1, hl1 with
     | [d0, d1, d2, d3], _ => exact ⟨_, _, _, _, rfl⟩
    have RG := hidP hr1
    have HP := hidP hp1
    have o1' := hidP hp1.ones
    clear HT HTW ht h2 h3 hX hNX HS hr1 hp1 hl1
    go_enter Tryz.func46, Tryz.ntmps46
    go_wp2_with fail
    first
    | rw [HW.out]
    | rw [show (w.alloc (.cells #[.int .i64 kd, .string SN, v2, _] 25)).alloc (.cells #[.int .i64 0, .string ⟨#[]⟩, .slice none 0 0, .slice none 0 0] 25) = W from HW.out]
    refine WI.out.mono ?_
    rintro _ wz ⟨rfl, hwz⟩
    rw [hwz]
    clear hwz WI
    go_wp2_with (first | (refine wpList_load_mid rfl 25 (.tmp 22) rfl b1 o1 rfl [c0, cb, cc, cd] _ RG.out Tryz.underlying25 rfl Tryz.sz25 ?_) | (refine stR rfl 25 (.tmp 6) (.tmp 23) rfl (cs := [c0, cb, cc, cd]) rfl rfl R6.out Tryz.sz25 rfl o1'.out ?_; intro wF RF SF; apply shut))
    show wpList _ _ _ _ _ _
    have BF := hidP (HA.out.trans (SF.below (C := w.heap.size) HA.out.size (fun q hq => by have : q = w.heap.size + 1 := hq; omega)))
    have QF := hidP (show RtQ (n + 1) (fun k => Qi k ∨ Fr w wF k) BB wF [c0, cb, cc, cd] e from (HP.out.mono ⟨fun k hk => Or.inl hk, fun k hk => SF.block k (by have := HQI.out k hk; have := HA.out.size; omega) (fun e => by have : k = w.heap.size + 1 := e; have := HQI.out k hk; omega)⟩).more)
    replace RF := hidP RF
    clear SF RG HP
    go_wp2_with fail
    exact bodyPost_ret (v := .tuple #[.agg #[c0, cb, cc, cd], .int .i64 0]) (results_cell_row2 Tryz.results46 _ _ (w.heap.size + 1) 25 _ (0, 0) _ rfl RF.out.heap Tryz.underlying25 rfl (by kernel_rfl)) rfl ⟨_, by rw [HQ.out], BF.out, by rw [HQ.out]; exact QF.out⟩
   ·have hX : nxtR t = none := by rw [hNX, if_neg hk]
    have HQ := hidP (show stpR L D t nm = (zR, 25) by rw [HS.out, hX])
    have WI := hidP (withinV (w := W) (R4.out.range) (fun h => by
     rw [hel] at h3
     obtain ⟨b1, o1, e1, _⟩ := h3.head1
     exact ⟨b1, o1, e1⟩))
    rw [if_neg (fun h => hk h.1)] at WI
    clear HT HTW ht h2 h3 hX hNX HS
    go_enter Tryz.func46, Tryz.ntmps46
    go_wp2_with fail
    first
    | rw [HW.out]
    | rw [show (w.alloc (.cells #[.int .i64 kd, .string SN, v2, _] 25)).alloc (.cells #[.int .i64 0, .string ⟨#[]⟩, .slice none 0 0, .slice none 0 0] 25) = W from HW.out]
    refine WI.out.mono ?_
    rintro _ wz ⟨rfl, hwz⟩
    rw [hwz]
    clear hwz WI
    go_wp2_with (first | (refine stR rfl 25 (.tmp 6) (.tmp 20) rfl (cs := [.int .i64 0, .string ⟨#[]⟩, .slice none 0 0, .slice none 0 0]) rfl rfl R6.out Tryz.sz25 rfl (ones_cons rfl (ones_cons rfl (ones_cons rfl (ones_cons rfl ones_nil)))) ?_; intro wF RF SF; apply shut))
    show wpList _ _ _ _ _ _
    have BF := hidP (HA.out.trans (SF.below (C := w.heap.size) HA.out.size (fun q hq => by have : q = w.heap.size + 1 := hq; omega)))
    replace RF := hidP RF
    clear SF
    go_wp2_with fail
    exact bodyPost_ret (v := .tuple #[.agg #[.int .i64 0, .string ⟨#[]⟩, .slice none 0 0, .slice none 0 0], .int .i64 25]) (results_cell_row2 Tryz.results46 _ _ (w.heap.size + 1) 25 _ (0, 0) _ rfl RF.out.heap Tryz.underlying25 rfl (by kernel_rfl)) rfl ⟨[.int .i64 0, .string ⟨#[]⟩, .slice none 0 0, .slice none 0 0], by rw [HQ.out], BF.out, by rw [HQ.out]; exact rt_zero⟩
 ·rw [decide_eq_false hst] at hsb
  have HQ := hidP (show stpR L D t nm = fldR L D t nm from if_neg hst)
  have FD := hidP (field76 (K := ⟨w.heap.size, BB, hsm⟩) (w := W) (nm := nm) hBB hKB hOL hD (hs.past HA.out) (RtQ.to (K := ⟨w.heap.size, BB, hsm⟩) rfl (fun k hk => HQI.out k hk) HTW.out) HA.out.size)
  clear hs HT HTW ht hst hs42
  generalize str nm = SM at *
  go_enter Tryz.func46, Tryz.ntmps46
  have hw := HW.out
  subst hw
  clear HW
  unfold z25 at *
  go_wp2_with (first | (refine ldR rfl 25 (.tmp 4) rfl rfl R4.out Tryz.underlying25 rfl s4.out ?_))
  refine FD.out.mono ?_
  rintro _ w1 ⟨d, rfl, hb1, hq1⟩
  have B1 := hidP (HA.out.trans (below_le hb1 HA.out.size))
  have R61 := hidP (R6.out.below hb1 R6.out.lt)
  obtain ⟨c0, cb, cc, cd, rfl⟩ : ∃ d0 d1 d2 d3, d = [d0, d1, d2, d3] := by
   match d, hq1.len with
   | [d0, d1, d2, d3], _ => exact ⟨_, _, _, _, rfl⟩
  have Q1 := hidP hq1
  have hzz := hidP (show w.heap.size + 2 <= _ from Nat.le_of_eq HZ.out.symm)
  clear FD R4 R6 HA hb1 hq1
  generalize hcd : (fldR L D t nm).2 = code at *
  have HCODE := hidP hcd
  clear hcd
  go_wp2_with (first | (refine stR rfl 25 (.tmp 6) (.tmp 15) rfl (cs := [c0, cb, cc, cd]) rfl rfl R61.out Tryz.sz25 rfl Q1.out.ones ?_; intro wF RF SF; apply shut))
  show wpList _ _ _ _ _ _
  have BF := hidP (B1.out.trans (SF.below (C := w.heap.size) B1.out.size (fun q hq => by have : q = w.heap.size + 1 := hq; omega)))
  have QF := hidP (show RtQ n (fun k => Qi k ∨ Fr w wF k) BB wF [c0, cb, cc, cd] (fldR L D t nm).1 from Q1.out.mono ⟨fun k hk => Or.inr ⟨by have := hk.1; have := hzz.out; omega, Nat.lt_of_lt_of_le hk.2 SF.size⟩, fun k hk => SF.block k hk.2 (fun e => by have := hk.1; have := hzz.out; have : k = w.heap.size + 1 := e; omega)⟩)
  replace RF := hidP RF
  clear SF Q1 R61
  go_wp2_with fail
  exact bodyPost_ret (v := .tuple #[.agg #[c0, cb, cc, cd], .int .i64 code]) (results_cell_row2 Tryz.results46 _ _ (w.heap.size + 1) 25 _ (0, 0) _ rfl RF.out.heap Tryz.underlying25 rfl (by kernel_rfl)) rfl ⟨_, by rw [HQ.out, HCODE.out], BF.out, by rw [HQ.out]; exact QF.out⟩
end Go.Proofs.YtldbbkheemnnhaaGreatDoor

namespace Go.Proofs.YtldbbkheemnnhaaGreatDoor
open Go.RowKit Go.Maps
theorem new_bad (code n : Int) (h : code ≠ 0) (w : World) : Calls Tryz.prog 47 #[.int .i64 code, .int .i64 n] w fun ev w' => ev = .returned (.iface 141 (.pointer (some ⟨w.heap.size, 0, none⟩))) /\ w' = w.alloc (.cells #[.int .i64 code, .int .i64 n, .iface 87 (.int .i64 code)] 143) := by
 have e0 : (code == 0) = false := by simpa using h
 go_enter Tryz.func47, Tryz.ntmps47
 go_wp2_with fail
 go_ret
 exact ⟨rfl, rfl⟩
theorem putN_nil (x : Int) : putN [] x = x := by
 unfold putN
 rw [if_neg]
 rintro ⟨h1, h2⟩
 simp at h2
 omega
theorem subN_nil : ∀ (n : Nat) (t : RTy), subN n [] t = t
 | 0, _ => rfl
 | n + 1, t => by
  have h1 : t.regs.map (putN []) = t.regs := by
   rw [show (putN [] : Int -> Int) = id from funext putN_nil, List.map_id]
  have h2 : t.elem.map (subN n []) = t.elem := by
   rw [show (subN n [] : RTy -> RTy) = id from funext (subN_nil n), List.map_id]
  simp only [subN, h1, h2]
  cases t
  rfl
theorem Fit.more : ∀ {n : Nat} {t : RTy}, Fit n t -> Fit (n + 1) t
 | 0, _, h => h.elim
 | _ + 1, _, h => ⟨h.1, h.2.1, fun e he => (h.2.2 e he).more⟩
theorem Fit.upto {n m : Nat} {t : RTy} (h : Fit n t) (hm : n <= m) : Fit m t := by
 induction hm with
 | refl => exact h
 | step _ ih => exact ih.more
theorem Fit.sub {m : List Int} : ∀ {n : Nat} {t : RTy}, Fit n t -> Fit n (subN n m t)
 | 0, _, h => h.elim
 | n + 1, t, h => by
  refine ⟨by simp only [subN, List.length_map]; exact h.1, by simp only [subN, List.length_map]; exact h.2.1, fun e he => ?_⟩
  simp only [subN, List.mem_map] at he
  obtain ⟨x, hx, rfl⟩ := he
  exact (h.2.2 x hx).sub
theorem Fit.zero {n : Nat} : Fit (n + 1) zR := ⟨by simp [zR], by simp [zR], fun e he => by simp [zR] at he⟩
theorem Fit.step {L : List Sct} {D n : Nat} {t : RTy} {nm : Bs} (hOL : OkL L D) (hD : D <= n) (h : Fit n t) : Fit n (stpR L D t nm).1 := by
 obtain ⟨n, rfl⟩ : ∃ j, n = j + 1 := by
  cases n with
  | zero => exact h.elim
  | succ j => exact ⟨j, rfl⟩
 unfold stpR
 split
 ·rcases hx : nxtR t with _ | e
  ·exact Fit.zero
  ·have he : e ∈ t.elem := by
    unfold nxtR at hx
    split at hx
    ·exact List.mem_of_head? hx
    ·cases hx
   exact (h.2.2 e he).more
 ·unfold fldR
  split
  ·rcases hf : L.find? (fun x => x.name == t.name) with _ | x
   ·simp only [hf]; exact Fit.zero
   ·simp only [hf]
    rcases hg : x.fields.find? (fun f => f.name == nm) with _ | f
    ·simp only [hg]; exact Fit.zero
    ·simp only [hg]
     exact (Fit.sub (lift_fit hOL.lives (hOL.fields x (List.mem_of_find?_eq_some hf) f (List.mem_of_find?_eq_some hg)))).upto hD
  ·exact Fit.zero
theorem RtAt.toQ {K : Ctx} {w : World} : ∀ {n : Nat} {cs : List Value} {t : RTy}, RtAt n K w cs t -> RtQ n (fun k => k < K.C) K.B w cs t
 | 0, _, _, h => h.elim
 | n + 1, _, _, h => by
  obtain ⟨v2, v3, e, h1, h2, h3⟩ := h
  exact ⟨v2, v3, e, h1, Ar.toQ h2 (fun _ h => h) fun _ _ _ h => h, Ar.toQ h3 (fun _ h => h) fun _ _ _ h => RtAt.toQ h⟩
set_option maxHeartbeats 8000000 in
set_option maxRecDepth 20000 in
theorem copyOf48 {K : Ctx} {w : World} {n : Nat} {cs : List Value} {t : RTy} (ht : RtAt n K w cs t) (hf : Fit n t) (hC : K.C <= w.heap.size) :
  Calls Tryz.prog 48 #[.agg cs.toArray] w fun ev w' => ∃ d, ev = .returned (.agg d.toArray) /\ Below w.heap.size w w' /\ RtQ n (Fr w w') K.B w' d t := by
 have HA := hidP (alloc_two w (.cells cs.toArray 25) (.cells z25.toArray 25))
 have R1 := hidP ((Row.new w 25 cs).alloc (.cells z25.toArray 25))
 have R2 := hidP (Row.new (w.alloc (.cells cs.toArray 25)) 25 z25)
 have HZ := hidP (size_two w (.cells cs.toArray 25) (.cells z25.toArray 25))
 have s1 := hidP (show (Tryz.prog.info? 25).map (·.size) = some cs.length by rw [ht.len]; exact Tryz.sz25)
 have SB := hidP (subst23 n (K := K) (m := []) (vm := .slice none 0 0) (ht.below (below_le HA.out hC)) hf nil_ar (Nat.le_trans hC HA.out.size))
 rw [subN_nil] at SB
 rw [size_alloc] at R2
 clear ht hf hC
 unfold z25 at *
 go_enter Tryz.func48, Tryz.ntmps48
 go_wp2_with (first | (refine ldR rfl 25 (.tmp 1) rfl rfl R1.out Tryz.underlying25 rfl s1.out ?_))
 refine SB.out.mono ?_
 rintro _ w1 ⟨d, rfl, hb1, hq1⟩
 obtain ⟨c0, cb, cc, cd, rfl⟩ : ∃ d0 d1 d2 d3, d = [d0, d1, d2, d3] := by
  match d, hq1.len with
  | [d0, d1, d2, d3], _ => exact ⟨_, _, _, _, rfl⟩
 have B1 := hidP (HA.out.trans (below_le hb1 HA.out.size))
 have R21 := hidP (R2.out.below hb1 R2.out.lt)
 have Q1 := hidP hq1
 clear SB R1 R2 hb1 hq1
 go_wp2_with (first | (refine stR rfl 25 (.tmp 2) (.tmp 4) rfl (cs := [c0, cb, cc, cd]) rfl rfl R21.out Tryz.sz25 rfl Q1.out.ones ?_; intro wF RF SF; apply shut))
 show wpList _ _ _ _ _ _
 have BF := hidP (B1.out.trans (SF.below (C := w.heap.size) B1.out.size (fun q hq => by have : q = w.heap.size + 1 := hq; omega)))
 have QF := hidP (show RtQ n (Fr w wF) K.B wF [c0, cb, cc, cd] t from Q1.out.mono (kp_stay SF (fun k e => by have : k = w.heap.size + 1 := e; rw [HZ.out]; omega) HA.out.size))
 replace RF := hidP RF
 clear SF Q1 R21
 go_wp2_with fail
 exact bodyPost_ret (v := .agg #[c0, cb, cc, cd]) (results_cell_row Tryz.results48 _ _ (w.heap.size + 1) 25 _ (0, 0) _ rfl RF.out.heap Tryz.underlying25 rfl (by kernel_rfl)) rfl ⟨_, rfl, BF.out, QF.out⟩
def atR (L : List Sct) (D : Nat) : RTy -> Nat -> List Bs -> RTy × Int × Nat
 | t, _, [] => (t, 0, 0)
 | t, i, nm :: l => if (stpR L D t nm).2 = 0 then atR L D (stpR L D t nm).1 (i + 1) l else (zR, (stpR L D t nm).2, i)
def ErrAt (w : World) (v : Value) (code : Int) (at' : Nat) : Prop :=
 (code = 0 /\ v = .nilIface) ∨ (code ≠ 0 /\ ∃ g, v = .iface 141 (.pointer (some ⟨g, 0, none⟩)) /\ Row w g 143 [.int .i64 code, .int .i64 (at' : Int), .iface 87 (.int .i64 code)])
set_option maxHeartbeats 16000000 in
set_option maxRecDepth 20000 in
theorem at21 {K : Ctx} {Q : Nat -> Prop} {B : Nat} {gs b c : Nat} {L : List Sct} {D n : Nat} {w : World} {cs : List Value} {t : RTy} {vp : Value} {path : List Bs} (hBB : B <= 1048576) (hKB : B <= K.B) (hOL : OkL L D) (hD : D <= n) (hs : Scp Q B w gs b c L) (ht : RtAt n K w cs t) (hf : Fit n t) (hp : Strs K w vp path) (hC : K.C <= w.heap.size) :
  Calls Tryz.prog 21 #[.pointer (some ⟨gs, 0, none⟩), .agg cs.toArray, vp] w fun ev w' => ∃ d v, ev = .returned (.tuple #[.agg d.toArray, v]) /\ Below w.heap.size w w' /\ RtQ n (Fr w w') K.B w' d (atR L D t 0 path).1 /\ ErrAt w' v (atR L D t 0 path).2.1 (atR L D t 0 path).2.2 := by
 have hz0 := hidP (show ∀ (Qq : Nat -> Prop) (y : World), RtQ n Qq K.B y z25 zR from fun Qq y => by
  cases n with
  | zero => exact ht.elim
  | succ j => exact rt_zero)
 obtain ⟨ap, pp, rfl⟩ := Ar.form hp
 have CE := hidP (fun i (hi : i < path.length) => hp.cellAt hi)
 have hpl : path.length <= 140737488355328 := by obtain ⟨_, _, _, _, z1, _⟩ := hp.shape; omega
 have hsm := K.small
 have HA := hidP (alloc_two w (.cells cs.toArray 25) (.cells z25.toArray 25))
 have R4 := hidP ((Row.new w 25 cs).alloc (.cells z25.toArray 25))
 have R6 := hidP (Row.new (w.alloc (.cells cs.toArray 25)) 25 z25)
 have HZ := hidP (size_two w (.cells cs.toArray 25) (.cells z25.toArray 25))
 have HC := hidP hC
 have HF := hidP hf
 have HS := hidP (fun (y : World) (hy : Below w.heap.size w y) => hs.past hy)
 rw [size_alloc] at R6
 have HQ0 := hidP (show RtQ n (fun k => k < K.C ∨ (w.heap.size + 2 <= k /\ k < ((w.alloc (.cells cs.toArray 25)).alloc (.cells z25.toArray 25)).heap.size)) K.B ((w.alloc (.cells cs.toArray 25)).alloc (.cells z25.toArray 25)) cs t from ht.toQ.mono ⟨fun k hk => Or.inl hk, fun k hk => HA.out.block k (Nat.lt_of_lt_of_le hk hC)⟩)
 clear hp hs ht hf hC
 generalize hnl : path.length = nl at *
 have HNL := hidP hnl
 clear hnl
 generalize hW : (w.alloc (.cells cs.toArray 25)).alloc (.cells z25.toArray 25) = W at R4 R6 HA HZ HQ0
 have HW := hidP hW
 clear hW
 go_enter Tryz.func21, Tryz.ntmps21
 go_wp2_with fail
 first
  | rw [HW.out]
  | rw [show (w.alloc (.cells cs.toArray 25)).alloc (.cells #[.int .i64 0, .string ⟨#[]⟩, .slice none 0 0, .slice none 0 0] 25) = W from HW.out]
 clear HW
 go_loopg [14] nl (fun k v14 wr => ∃ (i : Nat) (t' : RTy) (cs' : List Value), i + k = nl /\ v14 = .int .i64 (i : Int) /\ Row wr w.heap.size 25 cs' /\ RtQ n (fun k => k < K.C ∨ (w.heap.size + 2 <= k /\ k < wr.heap.size)) K.B wr cs' t' /\ Fit n t' /\ Row wr (w.heap.size + 1) 25 z25 /\ Below w.heap.size w wr /\ w.heap.size + 2 <= wr.heap.size /\ atR L D t' i (path.drop i) = atR L D t 0 path)
 case atStart => exact ⟨0, t, cs, by omega, rfl, R4.out, HQ0.out, HF.out, R6.out, HA.out, Nat.le_of_eq HZ.out.symm, rfl⟩
 case round =>
  obtain ⟨i, t', cs', hi, rfl, hr4, hq, hft, hr6, hb, hz, he⟩ := hrel
  have RW4 := hidP hr4
  have QW := hidP hq
  have FW := hidP hft
  have RW6 := hidP hr6
  have BW := hidP hb
  have ZW := hidP hz
  have HE := hidP he
  clear R4 R6 HA HZ HQ0 HF hr4 hq hft hr6 hb hz he
  have LC := hidP QW.out.len
  have s4 := hidP (show (Tryz.prog.info? 25).map (·.size) = some cs'.length by rw [QW.out.len]; exact Tryz.sz25)
  by_cases hlt : i < nl
  ·obtain ⟨b1, o1, rfl, hb1, hc1, hl1⟩ := CE.out i hlt
   have hc2 := (BW.out.cell (p := ⟨b1, o1 + i, none⟩) (Nat.lt_of_lt_of_le hb1 HC.out)).trans hc1
   have HX := hidP (show atR L D t 0 path = if (stpR L D t' (path.getD i [])).2 = 0 then atR L D (stpR L D t' (path.getD i [])).1 (i + 1) (path.drop (i + 1)) else (zR, (stpR L D t' (path.getD i [])).2, i) by
    rw [← HE.out, List.drop_eq_getElem_cons (by have := HNL.out; omega)]
    simp [atR, List.getD, List.getElem?_eq_getElem (show i < path.length by have := HNL.out; omega)])
   have SP := hidP (step46 (BB := K.B) (w := wr) (nm := path.getD i []) hBB hKB hsm hOL hD (HS.out wr BW.out) QW.out (fun k hk => by
    rcases hk with h | h
    ·have := HC.out; have := BW.out.size; omega
    ·exact h.2))
   have HFS := hidP (Fit.step (nm := path.getD i []) hOL hD FW.out)
   have l1 : (i : Int) < (nl : Int) := by omega
   generalize path.getD i [] = nm at *
   generalize str nm = SM at *
   clear hc1 hb1 hl1
   go_wp2_with (first | (refine ldR rfl 25 (.tmp 4) rfl rfl RW4.out Tryz.underlying25 rfl s4.out ?_))
   refine SP.out.mono ?_
   rintro _ w5 ⟨d, rfl, hb5, hq5⟩
   obtain ⟨c0, cb, cc, cd, rfl⟩ : ∃ d0 d1 d2 d3, d = [d0, d1, d2, d3] := by
    match d, hq5.len with
    | [d0, d1, d2, d3], _ => exact ⟨_, _, _, _, rfl⟩
   have od := hidP hq5.ones
   have B5 := hidP (BW.out.trans (below_le hb5 BW.out.size))
   have R45 := hidP (RW4.out.below hb5 RW4.out.lt)
   have R65 := hidP (RW6.out.below hb5 RW6.out.lt)
   have Z5 := hidP (Nat.le_trans ZW.out hb5.size)
   have Q5 := hidP (show RtQ n (fun k => (k < K.C ∨ (w.heap.size + 2 <= k)) /\ k < w5.heap.size) K.B w5 [c0, cb, cc, cd] (stpR L D t' nm).1 from hq5.mono ⟨fun k hk => by
    have h5 := hb5.size
    have h6 := HC.out
    have h7 := BW.out.size
    have h8 := ZW.out
    rcases hk with (h | h) | h
    ·exact ⟨Or.inl h, by omega⟩
    ·exact ⟨Or.inr h.1, by have := h.2; omega⟩
    ·exact ⟨Or.inr (Nat.le_trans h8 h.1), h.2⟩, fun _ _ => rfl⟩)
   have RN := hidP (Row.new w5 25 z25)
   have BN := hidP (alloc_one w5 (.cells z25.toArray 25))
   unfold z25 at RN BN
   clear SP RW4 RW6 QW hb5 hq5 hc2 HE s4
   generalize hcd : (stpR L D t' nm).2 = code at *
   go_wp2_with (first | (refine stR rfl 25 (.tmp 10) (.tmp 24) rfl (cs := [c0, cb, cc, cd]) rfl rfl RN.out Tryz.sz25 rfl od.out ?_; intro w6 R10 S10; apply shut))
   show wpList _ _ _ _ _ _
   have B56 := hidP (BN.out.trans (S10.below (C := w5.heap.size) BN.out.size (fun q hq => Nat.le_of_eq hq.symm)))
   have B6 := hidP (B5.out.trans (below_le B56.out B5.out.size))
   have R46 := hidP (R45.out.below B56.out R45.out.lt)
   have R66 := hidP (R65.out.below B56.out R65.out.lt)
   have Z6 := hidP (Nat.le_trans Z5.out B56.out.size)
   replace R10 := hidP R10
   clear RN BN S10 R45 R65
   by_cases hc0 : code = 0
   ·have HX2 := hidP (show atR L D t 0 path = atR L D (stpR L D t' nm).1 (i + 1) (path.drop (i + 1)) from HX.out.trans (if_pos hc0))
    subst hc0
    clear HX
    go_wp2_with (first | (refine ldR rfl 25 (.tmp 10) rfl rfl R10.out Tryz.underlying25 rfl Tryz.sz25 ?_) | (refine stR rfl 25 (.tmp 4) (.tmp 32) rfl (cs := [c0, cb, cc, cd]) rfl rfl R46.out Tryz.sz25 (by rw [LC.out]; rfl) od.out ?_; intro w7 R47 S7; apply shut))
    show wpList _ _ _ _ _ _
    have B7 := hidP (B6.out.trans (S7.below (C := w.heap.size) B6.out.size (fun q hq => Nat.le_of_eq hq.symm)))
    have R67 := hidP (S7.row R66.out (by show w.heap.size + 1 ≠ w.heap.size; omega))
    have Z7 := hidP (Nat.le_trans Z6.out S7.size)
    have Q7 := hidP (show RtQ n (fun k => k < K.C ∨ (w.heap.size + 2 <= k /\ k < w7.heap.size)) K.B w7 [c0, cb, cc, cd] (stpR L D t' nm).1 from Q5.out.mono ⟨fun k hk => by
     have h1 := B56.out.size
     have h2 := S7.size
     rcases hk.1 with h | h
     ·exact Or.inl h
     ·exact Or.inr ⟨h, by have := hk.2; omega⟩, fun k hk => by
     rw [S7.block k (Nat.lt_of_lt_of_le hk.2 B56.out.size) (fun e => by have : k = w.heap.size := e; have := HC.out; rcases hk.1 with h | h <;> omega), B56.out.block k hk.2]⟩)
    replace R47 := hidP R47
    clear S7 R10 R46 R66 B56 Q5
    go_wp2_with fail
    go_roundg (gk - 1)
    case measure => omega
    case rel => exact ⟨i + 1, _, _, by omega, by go_num, R47.out, Q7.out, HFS.out, R67.out, B7.out, Z7.out, HX2.out.symm⟩
   ·have HX2 := hidP (show atR L D t 0 path = (zR, code, i) from HX.out.trans (if_neg hc0))
    have NW := hidP (new_bad code (i : Int) hc0 w6)
    have e0 : (code == 0) = false := by simpa using hc0
    have HC0 := hidP hc0
    clear HX hc0
    go_wp2_with fail
    refine NW.out.mono ?_
    rintro _ w7 ⟨rfl, rfl⟩
    have hbE := alloc_one w6 (.cells #[.int .i64 code, .int .i64 (i : Int), .iface 87 (.int .i64 code)] 143)
    have RE := hidP (Row.new w6 143 [.int .i64 code, .int .i64 (i : Int), .iface 87 (.int .i64 code)])
    have B7 := hidP (B6.out.trans (below_le hbE B6.out.size))
    have R67 := hidP (R66.out.below hbE R66.out.lt)
    clear NW R46 R66 R10 hbE B56 Q5
    go_wp2_with (first | (refine stR rfl 25 (.tmp 6) (.tmp 28) rfl (cs := [.int .i64 0, .string ⟨#[]⟩, .slice none 0 0, .slice none 0 0]) rfl rfl R67.out Tryz.sz25 rfl (ones_cons rfl (ones_cons rfl (ones_cons rfl (ones_cons rfl ones_nil)))) ?_; intro wF RF SF; apply shut))
    show wpList _ _ _ _ _ _
    have BF := hidP (B7.out.trans (SF.below (C := w.heap.size) B7.out.size (fun q hq => by have : q = w.heap.size + 1 := hq; omega)))
    have REF := hidP (SF.row RE.out (by have := Z6.out; show w6.heap.size ≠ w.heap.size + 1; omega))
    replace RF := hidP RF
    clear SF RE R67
    go_wp2_with fail
    exact bodyPost_ret (v := .tuple #[.agg #[.int .i64 0, .string ⟨#[]⟩, .slice none 0 0, .slice none 0 0], .iface 141 (.pointer (some ⟨w6.heap.size, 0, none⟩))]) (results_cell_row2 Tryz.results21 _ _ (w.heap.size + 1) 25 _ (0, 0) _ rfl RF.out.heap Tryz.underlying25 rfl (by kernel_rfl)) rfl ⟨[.int .i64 0, .string ⟨#[]⟩, .slice none 0 0, .slice none 0 0], _, rfl, BF.out, by rw [HX2.out]; exact hz0.out _ _, by rw [HX2.out]; exact Or.inr ⟨HC0.out, _, rfl, REF.out⟩⟩
  ·have e : i = nl := by omega
   have HT := hidP (show atR L D t 0 path = (t', 0, 0) by
    rw [← HE.out, List.drop_eq_nil_of_le (by have := HNL.out; omega)]
    rfl)
   subst e
   have CP := hidP (copyOf48 (K := K.up wr.heap.size) (w := wr) (RtQ.to (K := K.up wr.heap.size) rfl (fun k hk => by
    have := HC.out; have := BW.out.size
    show k < wr.heap.size
    rcases hk with h | h
    ·omega
    ·exact h.2) QW.out) FW.out (Nat.le_refl _))
   clear hlt HE QW
   go_wp2_with (first | (refine ldR rfl 25 (.tmp 4) rfl rfl RW4.out Tryz.underlying25 rfl s4.out ?_))
   refine CP.out.mono ?_
   rintro _ w5 ⟨d, rfl, hb5, hq5⟩
   obtain ⟨c0, cb, cc, cd, rfl⟩ : ∃ d0 d1 d2 d3, d = [d0, d1, d2, d3] := by
    match d, hq5.len with
    | [d0, d1, d2, d3], _ => exact ⟨_, _, _, _, rfl⟩
   have B5 := hidP (BW.out.trans (below_le hb5 BW.out.size))
   have R65 := hidP (RW6.out.below hb5 RW6.out.lt)
   have Q5 := hidP hq5
   clear CP RW4 RW6 hb5 hq5 s4
   go_wp2_with (first | (refine stR rfl 25 (.tmp 6) (.tmp 35) rfl (cs := [c0, cb, cc, cd]) rfl rfl R65.out Tryz.sz25 rfl Q5.out.ones ?_; intro wF RF SF; apply shut))
   show wpList _ _ _ _ _ _
   have BF := hidP (B5.out.trans (SF.below (C := w.heap.size) B5.out.size (fun q hq => by have : q = w.heap.size + 1 := hq; omega)))
   have QF := hidP (show RtQ n (Fr w wF) K.B wF [c0, cb, cc, cd] t' from Q5.out.mono (kp_stay SF (fun k e => by have : k = w.heap.size + 1 := e; have := ZW.out; omega) BW.out.size))
   replace RF := hidP RF
   clear SF Q5 R65
   go_wp2_with fail
   exact bodyPost_ret (v := .tuple #[.agg #[c0, cb, cc, cd], .nilIface]) (results_cell_row2 Tryz.results21 _ _ (w.heap.size + 1) 25 _ (0, 0) _ rfl RF.out.heap Tryz.underlying25 rfl (by kernel_rfl)) rfl ⟨_, _, rfl, BF.out, by rw [HT.out]; exact QF.out, by rw [HT.out]; exact Or.inl ⟨rfl, rfl⟩⟩
end Go.Proofs.YtldbbkheemnnhaaGreatDoor
