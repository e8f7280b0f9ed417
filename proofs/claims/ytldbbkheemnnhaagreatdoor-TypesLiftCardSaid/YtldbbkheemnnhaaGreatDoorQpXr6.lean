/-
  The document on a struct that is right.
-/
import Derived.Test.YtldbbkheemnnhaaGreatDoorJpXr52
namespace Go.Proofs.YtldbbkheemnnhaaGreatDoor
open Go.RowKit
theorem strs_take {K : Ctx} {w : World} {a : Option Addr} {n p : Nat} {l : List Bs} (h : Strs K w (.slice a n p) l) {k : Nat} (hk : k <= l.length) : Strs K w (.slice a k p) (l.take k) := by
 obtain ⟨ao, cap, e, h1, h2, h3⟩ := h.shape
 cases e
 refine ⟨a, p, by rw [List.length_take, Nat.min_eq_left hk], by rw [List.length_take]; omega, by rw [List.length_take]; omega, fun i hi => ?_⟩
 have hi' : i < l.length := by rw [List.length_take] at hi; omega
 obtain ⟨b, o, e1, hb, cs, hl, hc, hp⟩ := h3 i hi'
 exact ⟨b, o, e1, hb, cs, hl, hc, by rw [List.getElem_take]; exact hp⟩
theorem IsTy.below' {K : Ctx} {w w' : World} {cs : List Value} {t : Ty} (h : IsTy K w cs t) (hb : Below K.C w w') : IsTy K w' cs t := h.below hb
section
variable {Q : Nat -> Prop} {B : Nat} {w : World} {g : Nat} {L : List Sct}
set_option maxHeartbeats 16000000 in
set_option maxRecDepth 20000 in
theorem xstructs_yes {K : Ctx} (H : XSc Q B w g L) (hL : L.length <= 1000) (hLL : ∀ x ∈ L, x.lives.length <= 1000) {cs : List Value} {x : Sct} (hx : SctAt K w cs x) (hC : K.C <= w.heap.size) {d : Nat} (hd : d <= 70) (hok : okS L d x) (hf : ∀ f ∈ x.fields, flT d f.ty) :
  Calls Tryz.prog 68 #[.pointer (some ⟨g, 0, none⟩), .agg cs.toArray] w fun ev w' => ev = .returned (.int .i64 0) /\ Below w.heap.size w w' := by
 have hsm := K.small
 obtain ⟨v2, v3, rfl, hB, h2, h3⟩ := hx
 rw [hok.pub]
 have PT : Hid (∀ (y : World), Below w.heap.size w y -> ∀ (cs : List Value) (f : Fld), f ∈ x.fields -> IsTy K y cs f.ty -> Calls Tryz.prog 111 #[.pointer (some ⟨g, 0, none⟩), .agg cs.toArray, v2, .agg zf.toArray, .bool true, .bool false] y fun ev w' => ev = .returned (.int .i64 0) /\ Below y.heap.size y w') := fun y hy cs f hm ht => by
  obtain ⟨n, ht⟩ := ht
  exact xpart_yes (H.past hy) hL hLL ht (h2.below (below_le hy hC)) hok.few (Nat.le_trans hC hy.size) hd (hok.fields.2 f hm) (hf f hm)
 obtain ⟨s0, s1, hsr, hsa⟩ := H.ex
 obtain ⟨sa, sp, rfl⟩ := ArQ.form hsa
 have SN : Hid (∀ (y : World), Below w.heap.size w y -> ∀ j (h : j < L.length), ∃ b o, sa = some ⟨b, o, none⟩ /\ y.cell? ⟨b, o + j * 5 + 1, none⟩ = some (.string (str L[j].name)) /\ ((str L[j].name).toList == (str x.name).toList) = false) := fun y hy j h => by
  obtain ⟨_, _, e, _, _, hall⟩ := hsa.shape
  cases e
  obtain ⟨b2, o2, e, hbQ, c2, _, hc2, q2⟩ := hall j h
  obtain ⟨_, _, rfl, _⟩ := q2
  refine ⟨b2, o2, e, (hy.cell (p := ⟨b2, o2 + j * 5 + 1, none⟩) (H.sub b2 hbQ)).trans (hc2 1 (by decide)), ?_⟩
  rw [str_beq, decide_eq_false]
  intro e
  exact hok.new (List.mem_map.2 ⟨_, List.getElem_mem h, e⟩)
 have HSR := hidP (fun (y : World) (hy : Below w.heap.size w y) => hsr.below hy hsr.lt)
 obtain ⟨a2, p2, rfl⟩ := Ar.form h2
 obtain ⟨a3, p3, rfl⟩ := Ar.form h3
 have HHA : Hid (∀ (y : World), Below w.heap.size w y -> ∀ k, k < x.lives.length -> Calls Tryz.prog 110 #[.slice a2 k p2, .string (str (x.lives.getD k []))] y fun ev w' => ev = .returned (.bool false) /\ w' = y) := fun y hy k hk => has_any (K := K) (strs_take (h2.below (below_le hy hC)) (Nat.le_of_lt hk)) _ (by rw [List.length_take]; have := hok.few; omega) false ⟨(fun e => by cases e), fun hm => absurd hm (nodup_new hk hok.lives)⟩
 have HCell := hidP (fun (y : World) (hy : Below w.heap.size w y) i (hi : i < x.lives.length) => (h2.below (below_le hy hC)).cellAt hi)
 have FN : Hid (∀ (y : World), Below w.heap.size w y -> ∀ i (h : i < x.fields.length), ∃ b o t0 t1 t2 t3, a3 = some ⟨b, o, none⟩ /\ y.cell? ⟨b, o + i * 6 + 1, none⟩ = some (.string (str x.fields[i].name)) /\ y.rangeAt b (o + i * 6 + 2) [t0, t1, t2, t3] /\ IsTy K y [t0, t1, t2, t3] x.fields[i].ty) := fun y hy i h => by
  obtain ⟨_, _, e, _, _, hall⟩ := h3.shape
  cases e
  obtain ⟨b2, o2, e, hbC, c2, hcl, hc2, q2⟩ := hall i h
  obtain ⟨ts, rfl, _, hty⟩ := q2
  obtain ⟨t0, t1, t2, t3, rfl⟩ : ∃ t0 t1 t2 t3, ts = [t0, t1, t2, t3] := by
   obtain ⟨nn, hty⟩ := hty
   match nn, hty with
   | _ + 1, hty => obtain ⟨v2, v3, e, _⟩ := hty; exact ⟨_, _, _, _, e⟩
  refine ⟨b2, o2, t0, t1, t2, t3, e, (hy.cell (p := ⟨b2, o2 + i * 6 + 1, none⟩) (Nat.lt_of_lt_of_le hbC hC)).trans (hc2 1 (by decide)), fun j u hj => ?_, hty.below (below_le hy hC)⟩
  have hj2 : j < 4 := by
   rcases Nat.lt_or_ge j 4 with h' | h'
   ·exact h'
   ·rw [List.getElem?_eq_none (by simpa using h')] at hj; cases hj
  rw [hy.cell (p := ⟨b2, o2 + i * 6 + 2 + j, none⟩) (Nat.lt_of_lt_of_le hbC hC), show o2 + i * 6 + 2 + j = o2 + i * 6 + (j + 2) by omega, hc2 (j + 2) (by omega)]
  exact hj
 have FD : Hid (∀ i j (hi : i < x.fields.length) (hj : j < x.fields.length), j < i -> ((str x.fields[j].name).toList == (str x.fields[i].name).toList) = false) := fun i j hi hj hlt => by
  rw [str_beq, decide_eq_false]
  intro e
  have h2 : (x.fields.map (·.name))[j]'(by simpa using hj) = (x.fields.map (·.name))[i]'(by simpa using hi) := by simpa using e
  have := (List.getElem_inj hok.fields.1).1 h2
  omega
 have HA := hidP (alloc_one w (.cells #[.bool false, .string (str x.name), .slice a2 x.lives.length p2, .slice a3 x.fields.length p3, .int .i64 x.pos] 84))
 have R0 : Hid (Row (w.alloc (.cells #[.bool false, .string (str x.name), .slice a2 x.lives.length p2, .slice a3 x.fields.length p3, .int .i64 x.pos] 84)) w.heap.size 84 [.bool false, .string (str x.name), .slice a2 x.lives.length p2, .slice a3 x.fields.length p3, .int .i64 x.pos]) := Row.new w 84 _
 have HCAP : Hid (x.lives.length <= p2) := by obtain ⟨_, _, e, h, _⟩ := h2.shape; cases e; exact h
 have h10 := hok.few
 have f10 := hok.ffew
 clear H hsr hsa h2 h3 hok hf hB hLL
 obtain ⟨nL, hnL⟩ : ∃ n, n = L.length := ⟨_, rfl⟩
 obtain ⟨nf, hnf⟩ : ∃ n, n = x.fields.length := ⟨_, rfl⟩
 rw [← hnL] at HSR hL
 rw [← hnf] at R0 HA f10 ⊢
 have HNL := hidP hnL
 have HNF := hidP hnf
 clear hnL hnf
 generalize x.lives.length = nl at *
 generalize str x.name = SX at *
 generalize x.pos = ps at *
 unfold zf at *
 go_enter Tryz.func68, Tryz.ntmps68
 go_wp2_with fail
 generalize w.alloc (.cells #[.bool false, .string SX, .slice a2 nl p2, .slice a3 nf p3, .int .i64 ps] 84) = W0 at *
 go_loopw [5] (fun i wr => ∃ (k : Nat), k <= nL /\ i = .int .i64 k /\ Row wr w.heap.size 84 [.bool false, .string SX, .slice a2 nl p2, .slice a3 nf p3, .int .i64 ps] /\ Below w.heap.size w wr) (fun i _ => nL - (intOf i).toNat)
 case atStart => exact ⟨0, by omega, rfl, R0.out, HA.out⟩
 case round =>
  clear R0 HA
  obtain ⟨k, hk, rfl, hr, hb⟩ := hrel
  have gr := HSR.out wr hb
  have g0 := gr.cell 0
  have x1 := hr.cell 1
  simp only [List.getElem?_cons_zero, List.getElem?_cons_succ] at g0 x1
  by_cases hk1 : k < nL
  ·have l1 : (k : Int) < (nL : Int) := by omega
   have hkL : k < L.length := by have := HNL.out; omega
   obtain ⟨b9, o9, rfl, c9, d9⟩ := SN.out wr hb k (by omega)
   have HR := hidP hr
   have HB := hidP hb
   clear hr hb gr
   generalize str L[k].name = SK at *
   go_wp2_with fail
   go_quiet (fail)
   go_wp2_with fail
   go_roundw
   case rel => exact ⟨k + 1, by omega, by go_num, HR.out.below (below_drewN3 (w.heap.size + 1) _ _) (Nat.lt_succ_self _), HB.out.trans (below_drewN3 _ _ _)⟩
   case measure => simp [intOf]; omega
  ·obtain rfl : k = nL := by omega
   clear SN
   have HR := hidP hr
   have HB := hidP hb
   clear hr hb gr x1
   go_wp2_with fail
   go_loopw [6] (fun i wq => ∃ (k : Nat), k <= nl /\ i = .int .i64 k /\ Row wq w.heap.size 84 [.bool false, .string SX, .slice a2 nl p2, .slice a3 nf p3, .int .i64 ps] /\ Below w.heap.size w wq) (fun i _ => nl - (intOf i).toNat)
   case atStart => exact ⟨0, by omega, rfl, HR.out, HB.out⟩
   case round =>
    clear HR HB g0
    obtain ⟨q, hq, rfl, hr, hb⟩ := hrel
    have x2 := hr.cell 2
    simp only [List.getElem?_cons_zero, List.getElem?_cons_succ] at x2
    by_cases hq1 : q < nl
    ·have l1 : (q : Int) < (nl : Int) := by omega
     have HS := hidP (fun y hy => HHA.out y hy q hq1)
     have cq1 : (q : Int) <= (p2 : Int) := by have := HCAP.out; omega
     have cq2 : q <= p2 := by have := HCAP.out; omega
     obtain ⟨b9, o9, rfl, _, c9, -⟩ := HCell.out _ hb q hq1
     have HD := hidP (hb.drew)
     have HR := hidP hr
     rename World => wQ
     generalize str (x.lives.getD q []) = SQ at *
     have hS0 : Row wQ.drew w.heap.size 84 [.bool false, .string SX, .slice (some ⟨b9, o9, none⟩) nl p2, .slice a3 nf p3, .int .i64 ps] /\ wQ.drew.cell? ⟨b9, o9 + q, none⟩ = some (.string SQ) := ⟨hr.drew, c9⟩
     clear hr hb c9
     go_wp2_with fail
     refine beginL (fun y => Row y w.heap.size 84 [.bool false, .string SX, .slice (some ⟨b9, o9, none⟩) nl p2, .slice a3 nf p3, .int .i64 ps] /\ y.cell? ⟨b9, o9 + q, none⟩ = some (.string SQ)) 10 (by kernel_rfl) hS0 (fun hSS => ?_)
     refine takeL 0 (v := ?_) rfl (some 39) rfl (by decide) (by kernel_rfl) (by kernel_rfl) (by kernel_rfl) (by kernel_rfl) (fun _ _ _ h => h) (Or.inl ⟨by rfl, ?_⟩) hSS ?_
     rotate_left
     ·(intro y hy; have hk2 := hy.1.cell 2; have hc := hy.2; simp only [List.getElem?_cons_zero, List.getElem?_cons_succ] at hk2; go_simp; with_reducible rfl)
     try simp only [Act.put]
     try simp only [List.setIfInBounds_toArray]
     try simp only [List.set_cons_succ]
     try simp only [List.set_cons_zero]
     refine takeL 1 (v := ?_) rfl (some 40) rfl (by decide) (by kernel_rfl) (by kernel_rfl) (by kernel_rfl) (by kernel_rfl) (fun _ _ _ h => h) (Or.inl ⟨by rfl, ?_⟩) hSS ?_
     rotate_left
     ·(intro y hy; have hk2 := hy.1.cell 2; have hc := hy.2; simp only [List.getElem?_cons_zero, List.getElem?_cons_succ] at hk2; go_simp; with_reducible rfl)
     try simp only [Act.put]
     try simp only [List.setIfInBounds_toArray]
     try simp only [List.set_cons_succ]
     try simp only [List.set_cons_zero]
     refine takeL 2 (v := ?_) rfl (some 41) rfl (by decide) (by kernel_rfl) (by kernel_rfl) (by kernel_rfl) (by kernel_rfl) (fun _ _ _ h => h) (Or.inl ⟨by rfl, ?_⟩) hSS ?_
     rotate_left
     ·(intro y hy; have hk2 := hy.1.cell 2; have hc := hy.2; simp only [List.getElem?_cons_zero, List.getElem?_cons_succ] at hk2; go_simp; with_reducible rfl)
     try simp only [Act.put]
     try simp only [List.setIfInBounds_toArray]
     try simp only [List.set_cons_succ]
     try simp only [List.set_cons_zero]
     refine takeL 3 (v := ?_) rfl (some 42) rfl (by decide) (by kernel_rfl) (by kernel_rfl) (by kernel_rfl) (by kernel_rfl) (fun _ _ _ h => h) (Or.inl ⟨by rfl, ?_⟩) hSS ?_
     rotate_left
     ·(intro y hy; have hk2 := hy.1.cell 2; have hc := hy.2; simp only [List.getElem?_cons_zero, List.getElem?_cons_succ] at hk2; go_simp; with_reducible rfl)
     try simp only [Act.put]
     try simp only [List.setIfInBounds_toArray]
     try simp only [List.set_cons_succ]
     try simp only [List.set_cons_zero]
     refine takeL 4 (v := ?_) rfl (some 43) rfl (by decide) (by kernel_rfl) (by kernel_rfl) (by kernel_rfl) (by kernel_rfl) (fun _ _ _ h => h) (Or.inl ⟨by rfl, ?_⟩) hSS ?_
     rotate_left
     ·(intro y hy; have hk2 := hy.1.cell 2; have hc := hy.2; simp only [List.getElem?_cons_zero, List.getElem?_cons_succ] at hk2; go_simp; with_reducible rfl)
     try simp only [Act.put]
     try simp only [List.setIfInBounds_toArray]
     try simp only [List.set_cons_succ]
     try simp only [List.set_cons_zero]
     refine takeL 5 (v := ?_) rfl (some 44) rfl (by decide) (by kernel_rfl) (by kernel_rfl) (by kernel_rfl) (by kernel_rfl) (fun _ _ _ h => h) (Or.inl ⟨by rfl, ?_⟩) hSS ?_
     rotate_left
     ·(intro y hy; have hk2 := hy.1.cell 2; have hc := hy.2; simp only [List.getElem?_cons_zero, List.getElem?_cons_succ] at hk2; go_simp; with_reducible rfl)
     try simp only [Act.put]
     try simp only [List.setIfInBounds_toArray]
     try simp only [List.set_cons_succ]
     try simp only [List.set_cons_zero]
     refine takeL 6 (v := ?_) rfl (some 45) rfl (by decide) (by kernel_rfl) (by kernel_rfl) (by kernel_rfl) (by kernel_rfl) (fun _ _ _ h => h) (Or.inl ⟨by rfl, ?_⟩) hSS ?_
     rotate_left
     ·(intro y hy; have hk2 := hy.1.cell 2; have hc := hy.2; simp only [List.getElem?_cons_zero, List.getElem?_cons_succ] at hk2; go_simp; with_reducible rfl)
     try simp only [Act.put]
     try simp only [List.setIfInBounds_toArray]
     try simp only [List.set_cons_succ]
     try simp only [List.set_cons_zero]
     refine takeL 7 (v := ?_) rfl (some 46) rfl (by decide) (by kernel_rfl) (by kernel_rfl) (by kernel_rfl) (by kernel_rfl) (fun _ _ _ h => h) (Or.inl ⟨by rfl, ?_⟩) hSS ?_
     rotate_left
     ·(intro y hy; have hk2 := hy.1.cell 2; have hc := hy.2; simp only [List.getElem?_cons_zero, List.getElem?_cons_succ] at hk2; go_simp; with_reducible rfl)
     try simp only [Act.put]
     try simp only [List.setIfInBounds_toArray]
     try simp only [List.set_cons_succ]
     try simp only [List.set_cons_zero]
     refine takeL 8 (v := ?_) rfl (some 47) rfl (by decide) (by kernel_rfl) (by kernel_rfl) (by kernel_rfl) (by kernel_rfl) (fun _ _ _ h => h) (Or.inl ⟨by rfl, ?_⟩) hSS ?_
     rotate_left
     ·(intro y hy; have hk2 := hy.1.cell 2; have hc := hy.2; simp only [List.getElem?_cons_zero, List.getElem?_cons_succ] at hk2; go_simp; with_reducible rfl)
     try simp only [Act.put]
     try simp only [List.setIfInBounds_toArray]
     try simp only [List.set_cons_succ]
     try simp only [List.set_cons_zero]
     refine readyL (rs := [9]) (by kernel_rfl) (by simp) ?_
     refine ReadyL.cons rfl (fun KK hK => ?_) ReadyL.nil
     refine wantR (by rfl) ?_
     go_simp
     refine (HS.out _ HD.out).mono ?_
     rintro _ _ ⟨rfl, rfl⟩
     refine hK.out _ _ (fun _ => hSS) (fun _ => ?_)
     clear hK KK hSS hS0
     try simp only [Act.put]
     try simp only [List.setIfInBounds_toArray]
     try simp only [List.set_cons_succ]
     try simp only [List.set_cons_zero]
     refine doneL (by kernel_rfl) ?_ _
     go_wp2_with fail
     go_roundw
     case rel => exact ⟨q + 1, by omega, by go_num, HR.out.drew, HD.out⟩
     case measure => simp [intOf]; omega
    ·obtain rfl : q = nl := by omega
     have HR := hidP hr
     have HB := hidP hb
     clear hr hb HHA HCell
     go_wp2_with fail
     clear x2
     go_loopw [7] (fun i wt => ∃ (k : Nat), k <= nf /\ i = .int .i64 k /\ Row wt w.heap.size 84 [.bool false, .string SX, .slice a2 q p2, .slice a3 nf p3, .int .i64 ps] /\ Below w.heap.size w wt) (fun i _ => nf - (intOf i).toNat)
     case atStart => exact ⟨0, by omega, rfl, HR.out, HB.out⟩
     case round =>
      clear HR HB
      obtain ⟨m, hm, rfl, hr, hb⟩ := hrel
      have x3 := hr.cell 3
      simp only [List.getElem?_cons_zero, List.getElem?_cons_succ] at x3
      by_cases hm1 : m < nf
      ·have l1 : (m : Int) < (nf : Int) := by omega
       have hmF : m < x.fields.length := by have := HNF.out; omega
       have HR := hidP hr
       have HB := hidP hb
       clear hr hb
       rename World => wM
       go_wp2_with fail
       go_loopw [8] (fun i wv => ∃ (k : Nat), k <= m /\ i = .int .i64 k /\ Row wv w.heap.size 84 [.bool false, .string SX, .slice a2 q p2, .slice a3 nf p3, .int .i64 ps] /\ Below w.heap.size w wv) (fun i _ => m - (intOf i).toNat)
       case atStart => exact ⟨0, by omega, rfl, HR.out, HB.out⟩
       case round =>
        clear HR HB
        obtain ⟨z, hz, rfl, hr, hb⟩ := hrel
        rename World => wZ
        have x3 := hr.cell 3
        have x2 := hr.cell 2
        have x0 := hr.cell 0
        simp only [List.getElem?_cons_zero, List.getElem?_cons_succ] at x3 x2 x0
        by_cases hz1 : z < m
        ·have l2 : (z : Int) < (m : Int) := by omega
         have hzF : z < x.fields.length := by have := HNF.out; omega
         obtain ⟨b5, o5, _, _, _, _, rfl, c5, _, _⟩ := FN.out _ hb z hzF
         obtain ⟨b6, o6, _, _, _, _, e6, c6, _, _⟩ := FN.out _ hb m hmF
         cases e6
         have d5 := FD.out m z hmF hzF hz1
         have HR := hidP hr
         have HB := hidP hb
         have lz : (z : Int) < (nf : Int) := by omega
         clear hr hb x2 x0
         generalize str x.fields[z].name = SZ at *
         generalize str x.fields[m].name = SM at *
         go_wp2_with fail
         go_quiet (fail)
         go_wp2_with fail
         go_roundw
         case rel => exact ⟨z + 1, by omega, by go_num, HR.out.below (below_drewN3 (w.heap.size + 1) _ _) (Nat.lt_succ_self _), HB.out.trans (below_drewN3 _ _ _)⟩
         case measure => simp [intOf]; omega
        ·obtain rfl : z = m := by omega
         obtain ⟨b5, o5, t0, t1, t2, t3, rfl, c5, rg5, ty5⟩ := FN.out _ hb z hmF
         have PT2 := hidP (fun y (hy : Below wZ.heap.size wZ y) => PT.out y (hb.trans (below_le hy hb.size)) [t0, t1, t2, t3] x.fields[z] (List.getElem_mem hmF) (ty5.below' (below_le hy (Nat.le_trans hC hb.size))))
         have HB := hidP hb
         have hS0 : Row wZ.drew w.heap.size 84 [.bool false, .string SX, .slice a2 q p2, .slice (some ⟨b5, o5, none⟩) nf p3, .int .i64 ps] /\ wZ.drew.rangeAt b5 (o5 + z * 6 + 2) [t0, t1, t2, t3] := ⟨hr.drew, rg5⟩
         have HR := hidP hr
         clear hr hb x3 x2 x0 c5 rg5 ty5
         go_wp2_with fail
         refine beginL (fun y => Row y w.heap.size 84 [.bool false, .string SX, .slice a2 q p2, .slice (some ⟨b5, o5, none⟩) nf p3, .int .i64 ps] /\ y.rangeAt b5 (o5 + z * 6 + 2) [t0, t1, t2, t3]) 13 (by kernel_rfl) hS0 (fun hSS => ?_)
         refine takeL 0 (v := ?_) rfl (some 74) rfl (by decide) (by kernel_rfl) (by kernel_rfl) (by kernel_rfl) (by kernel_rfl) (fun _ _ _ h => h) (Or.inl ⟨by rfl, ?_⟩) hSS ?_
         rotate_left
         ·(intro y hy; have hk0 := hy.1.cell 0; have hk2 := hy.1.cell 2; have hk3 := hy.1.cell 3; have r0 := hy.2 0 t0 rfl; have r1 := hy.2 1 t1 rfl; have r2 := hy.2 2 t2 rfl; have r3 := hy.2 3 t3 rfl; simp only [List.getElem?_cons_zero, List.getElem?_cons_succ, Nat.add_zero] at hk0 hk2 hk3 r0 r1 r2 r3; go_simp; with_reducible rfl)
         try simp only [Act.put]
         try simp only [List.setIfInBounds_toArray]
         try simp only [List.set_cons_succ]
         try simp only [List.set_cons_zero]
         refine takeL 1 (v := ?_) rfl (some 75) rfl (by decide) (by kernel_rfl) (by kernel_rfl) (by kernel_rfl) (by kernel_rfl) (fun _ _ _ h => h) (Or.inl ⟨by rfl, ?_⟩) hSS ?_
         rotate_left
         ·(intro y hy; have hk0 := hy.1.cell 0; have hk2 := hy.1.cell 2; have hk3 := hy.1.cell 3; have r0 := hy.2 0 t0 rfl; have r1 := hy.2 1 t1 rfl; have r2 := hy.2 2 t2 rfl; have r3 := hy.2 3 t3 rfl; simp only [List.getElem?_cons_zero, List.getElem?_cons_succ, Nat.add_zero] at hk0 hk2 hk3 r0 r1 r2 r3; go_simp; with_reducible rfl)
         try simp only [Act.put]
         try simp only [List.setIfInBounds_toArray]
         try simp only [List.set_cons_succ]
         try simp only [List.set_cons_zero]
         refine takeL 2 (v := ?_) rfl (some 76) rfl (by decide) (by kernel_rfl) (by kernel_rfl) (by kernel_rfl) (by kernel_rfl) (fun _ _ _ h => h) (Or.inl ⟨by rfl, ?_⟩) hSS ?_
         rotate_left
         ·(intro y hy; have hk0 := hy.1.cell 0; have hk2 := hy.1.cell 2; have hk3 := hy.1.cell 3; have r0 := hy.2 0 t0 rfl; have r1 := hy.2 1 t1 rfl; have r2 := hy.2 2 t2 rfl; have r3 := hy.2 3 t3 rfl; simp only [List.getElem?_cons_zero, List.getElem?_cons_succ, Nat.add_zero] at hk0 hk2 hk3 r0 r1 r2 r3; go_simp; with_reducible rfl)
         try simp only [Act.put]
         try simp only [List.setIfInBounds_toArray]
         try simp only [List.set_cons_succ]
         try simp only [List.set_cons_zero]
         refine takeL 3 (v := ?_) rfl (some 77) rfl (by decide) (by kernel_rfl) (by kernel_rfl) (by kernel_rfl) (by kernel_rfl) (fun _ _ _ h => h) (Or.inl ⟨by rfl, ?_⟩) hSS ?_
         rotate_left
         ·(intro y hy; have hk0 := hy.1.cell 0; have hk2 := hy.1.cell 2; have hk3 := hy.1.cell 3; have r0 := hy.2 0 t0 rfl; have r1 := hy.2 1 t1 rfl; have r2 := hy.2 2 t2 rfl; have r3 := hy.2 3 t3 rfl; simp only [List.getElem?_cons_zero, List.getElem?_cons_succ, Nat.add_zero] at hk0 hk2 hk3 r0 r1 r2 r3; go_simp; with_reducible rfl)
         try simp only [Act.put]
         try simp only [List.setIfInBounds_toArray]
         try simp only [List.set_cons_succ]
         try simp only [List.set_cons_zero]
         refine takeL 4 (v := ?_) rfl (some 78) rfl (by decide) (by kernel_rfl) (by kernel_rfl) (by kernel_rfl) (by kernel_rfl) (fun _ _ _ h => h) (Or.inl ⟨by rfl, ?_⟩) hSS ?_
         rotate_left
         ·(intro y hy; have hk0 := hy.1.cell 0; have hk2 := hy.1.cell 2; have hk3 := hy.1.cell 3; have r0 := hy.2 0 t0 rfl; have r1 := hy.2 1 t1 rfl; have r2 := hy.2 2 t2 rfl; have r3 := hy.2 3 t3 rfl; simp only [List.getElem?_cons_zero, List.getElem?_cons_succ, Nat.add_zero] at hk0 hk2 hk3 r0 r1 r2 r3; go_simp; with_reducible rfl)
         try simp only [Act.put]
         try simp only [List.setIfInBounds_toArray]
         try simp only [List.set_cons_succ]
         try simp only [List.set_cons_zero]
         refine takeL 5 (v := ?_) rfl (some 79) rfl (by decide) (by kernel_rfl) (by kernel_rfl) (by kernel_rfl) (by kernel_rfl) (fun _ _ _ h => h) (Or.inl ⟨by rfl, ?_⟩) hSS ?_
         rotate_left
         ·(intro y hy; have hk0 := hy.1.cell 0; have hk2 := hy.1.cell 2; have hk3 := hy.1.cell 3; have r0 := hy.2 0 t0 rfl; have r1 := hy.2 1 t1 rfl; have r2 := hy.2 2 t2 rfl; have r3 := hy.2 3 t3 rfl; simp only [List.getElem?_cons_zero, List.getElem?_cons_succ, Nat.add_zero] at hk0 hk2 hk3 r0 r1 r2 r3; go_simp; with_reducible rfl)
         try simp only [Act.put]
         try simp only [List.setIfInBounds_toArray]
         try simp only [List.set_cons_succ]
         try simp only [List.set_cons_zero]
         refine takeL 6 (v := ?_) rfl (some 80) rfl (by decide) (by kernel_rfl) (by kernel_rfl) (by kernel_rfl) (by kernel_rfl) (fun _ _ _ h => h) (Or.inl ⟨by rfl, ?_⟩) hSS ?_
         rotate_left
         ·(intro y hy; have hk0 := hy.1.cell 0; have hk2 := hy.1.cell 2; have hk3 := hy.1.cell 3; have r0 := hy.2 0 t0 rfl; have r1 := hy.2 1 t1 rfl; have r2 := hy.2 2 t2 rfl; have r3 := hy.2 3 t3 rfl; simp only [List.getElem?_cons_zero, List.getElem?_cons_succ, Nat.add_zero] at hk0 hk2 hk3 r0 r1 r2 r3; go_simp; with_reducible rfl)
         try simp only [Act.put]
         try simp only [List.setIfInBounds_toArray]
         try simp only [List.set_cons_succ]
         try simp only [List.set_cons_zero]
         refine takeL 7 (v := ?_) rfl (some 81) rfl (by decide) (by kernel_rfl) (by kernel_rfl) (by kernel_rfl) (by kernel_rfl) (fun _ _ _ h => h) (Or.inl ⟨by rfl, ?_⟩) hSS ?_
         rotate_left
         ·(intro y hy; have hk0 := hy.1.cell 0; have hk2 := hy.1.cell 2; have hk3 := hy.1.cell 3; have r0 := hy.2 0 t0 rfl; have r1 := hy.2 1 t1 rfl; have r2 := hy.2 2 t2 rfl; have r3 := hy.2 3 t3 rfl; simp only [List.getElem?_cons_zero, List.getElem?_cons_succ, Nat.add_zero] at hk0 hk2 hk3 r0 r1 r2 r3; go_simp; with_reducible rfl)
         try simp only [Act.put]
         try simp only [List.setIfInBounds_toArray]
         try simp only [List.set_cons_succ]
         try simp only [List.set_cons_zero]
         refine takeL 8 (v := ?_) rfl (some 82) rfl (by decide) (by kernel_rfl) (by kernel_rfl) (by kernel_rfl) (by kernel_rfl) (fun _ _ _ h => h) (Or.inl ⟨by rfl, ?_⟩) hSS ?_
         rotate_left
         ·(intro y hy; have hk0 := hy.1.cell 0; have hk2 := hy.1.cell 2; have hk3 := hy.1.cell 3; have r0 := hy.2 0 t0 rfl; have r1 := hy.2 1 t1 rfl; have r2 := hy.2 2 t2 rfl; have r3 := hy.2 3 t3 rfl; simp only [List.getElem?_cons_zero, List.getElem?_cons_succ, Nat.add_zero] at hk0 hk2 hk3 r0 r1 r2 r3; go_simp; with_reducible rfl)
         try simp only [Act.put]
         try simp only [List.setIfInBounds_toArray]
         try simp only [List.set_cons_succ]
         try simp only [List.set_cons_zero]
         refine takeL 9 (v := ?_) rfl (some 83) rfl (by decide) (by kernel_rfl) (by kernel_rfl) (by kernel_rfl) (by kernel_rfl) (fun _ _ _ h => h) (Or.inl ⟨by rfl, ?_⟩) hSS ?_
         rotate_left
         ·(intro y hy; have hk0 := hy.1.cell 0; have hk2 := hy.1.cell 2; have hk3 := hy.1.cell 3; have r0 := hy.2 0 t0 rfl; have r1 := hy.2 1 t1 rfl; have r2 := hy.2 2 t2 rfl; have r3 := hy.2 3 t3 rfl; simp only [List.getElem?_cons_zero, List.getElem?_cons_succ, Nat.add_zero] at hk0 hk2 hk3 r0 r1 r2 r3; go_simp; with_reducible rfl)
         try simp only [Act.put]
         try simp only [List.setIfInBounds_toArray]
         try simp only [List.set_cons_succ]
         try simp only [List.set_cons_zero]
         refine takeL 10 (v := ?_) rfl (some 84) rfl (by decide) (by kernel_rfl) (by kernel_rfl) (by kernel_rfl) (by kernel_rfl) (fun _ _ _ h => h) (Or.inl ⟨by rfl, ?_⟩) hSS ?_
         rotate_left
         ·(intro y hy; have hk0 := hy.1.cell 0; have hk2 := hy.1.cell 2; have hk3 := hy.1.cell 3; have r0 := hy.2 0 t0 rfl; have r1 := hy.2 1 t1 rfl; have r2 := hy.2 2 t2 rfl; have r3 := hy.2 3 t3 rfl; simp only [List.getElem?_cons_zero, List.getElem?_cons_succ, Nat.add_zero] at hk0 hk2 hk3 r0 r1 r2 r3; go_simp; with_reducible rfl)
         try simp only [Act.put]
         try simp only [List.setIfInBounds_toArray]
         try simp only [List.set_cons_succ]
         try simp only [List.set_cons_zero]
         refine takeL 11 (v := ?_) rfl (some 85) rfl (by decide) (by kernel_rfl) (by kernel_rfl) (by kernel_rfl) (by kernel_rfl) (fun _ _ _ h => h) (Or.inl ⟨by rfl, ?_⟩) hSS ?_
         rotate_left
         ·(intro y hy; have hk0 := hy.1.cell 0; have hk2 := hy.1.cell 2; have hk3 := hy.1.cell 3; have r0 := hy.2 0 t0 rfl; have r1 := hy.2 1 t1 rfl; have r2 := hy.2 2 t2 rfl; have r3 := hy.2 3 t3 rfl; simp only [List.getElem?_cons_zero, List.getElem?_cons_succ, Nat.add_zero] at hk0 hk2 hk3 r0 r1 r2 r3; go_simp; with_reducible rfl)
         try simp only [Act.put]
         try simp only [List.setIfInBounds_toArray]
         try simp only [List.set_cons_succ]
         try simp only [List.set_cons_zero]
         refine readyL (rs := [12]) (by kernel_rfl) (by simp) ?_
         refine ReadyL.cons rfl (fun KK hK => ?_) ReadyL.nil
         refine wantR (by rfl) ?_
         go_simp
         refine (PT2.out _ ((Below.refl _ _).drew)).mono ?_
         rintro _ w6 ⟨rfl, hb6⟩
         have HB6 := hidP (HB.out.drew.trans (below_le hb6 HB.out.size))
         have hSS2 : Row w6 w.heap.size 84 [.bool false, .string SX, .slice a2 q p2, .slice (some ⟨b5, o5, none⟩) nf p3, .int .i64 ps] /\ w6.rangeAt b5 (o5 + z * 6 + 2) [t0, t1, t2, t3] := ⟨hSS.1.below hb6 hSS.1.lt, range_below hSS.2 hb6⟩
         refine hK.out _ _ (fun _ => hSS2) (fun _ => ?_)
         clear hK KK hSS
         have hSS := hSS2
         clear hSS2
         try simp only [Act.put]
         try simp only [List.setIfInBounds_toArray]
         try simp only [List.set_cons_succ]
         try simp only [List.set_cons_zero]
         refine readyL (rs := [13]) (by kernel_rfl) (by simp) ?_
         refine ReadyL.cons rfl (fun KK hK => ?_) ReadyL.nil
         refine wantR (by rfl) ?_
         have hk0 := hSS.1.cell 0; have hk2 := hSS.1.cell 2; have hk3 := hSS.1.cell 3; have r0 := hSS.2 0 t0 rfl; have r1 := hSS.2 1 t1 rfl; have r2 := hSS.2 2 t2 rfl; have r3 := hSS.2 3 t3 rfl; simp only [List.getElem?_cons_zero, List.getElem?_cons_succ, Nat.add_zero] at hk0 hk2 hk3 r0 r1 r2 r3; go_simp
         refine hK.out _ _ (fun _ => hSS) (fun _ => ?_)
         clear hK KK
         try simp only [Act.put]
         try simp only [List.setIfInBounds_toArray]
         try simp only [List.set_cons_succ]
         try simp only [List.set_cons_zero]
         refine doneL (by kernel_rfl) ?_ _
         have R6 := hidP hSS.1
         clear hSS hS0
         go_wp2_with fail
         go_roundw
         case rel => exact ⟨z + 1, by omega, by go_num, R6.out, HB6.out⟩
         case measure => simp [intOf]; omega
      ·obtain rfl : m = nf := by omega
       have HB := hidP hb
       clear hr hb
       go_wp2_with fail
       go_ret
       exact ⟨rfl, HB.out⟩
end
end Go.Proofs.YtldbbkheemnnhaaGreatDoor
