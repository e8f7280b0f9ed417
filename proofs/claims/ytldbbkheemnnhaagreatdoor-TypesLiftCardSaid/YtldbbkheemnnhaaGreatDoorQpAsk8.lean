/-
  What a scope says of a type, of a header's types and fields, of a struct, that are right.
-/
import Derived.Test.YtldbbkheemnnhaaGreatDoorQpTc8
import Derived.Test.YtldbbkheemnnhaaGreatDoorQpPs8
namespace Go.Proofs.YtldbbkheemnnhaaGreatDoor
open Go.RowKit Go.Maps
theorem okT_mono {L : List Sct} {l l' : List Bs} (h : ∀ x ∈ l, x ∈ l') : ∀ {n : Nat} {t : Ty}, okT L l n t -> okT L l' n t
 | 0, _, hk => hk.elim
 | n + 1, t, hk => by
  rcases hk with hk | ⟨h1, x, h2, h3, h4, h5⟩ | ⟨h1, a, e, h2, h3, h4, h5, h6⟩
  ·exact .inl hk
  ·exact .inr (.inl ⟨h1, x, h2, h3, h4, fun z hz => h z (h5 z hz)⟩)
  ·exact .inr (.inr ⟨h1, a, e, h2, h3, h _ h4, h5, okT_mono h h6⟩)
theorem Tryz.sz204 : (Tryz.prog.info? 204).map (·.size) = some 3 := by kernel_rfl
section
variable {Q : Nat -> Prop} {B : Nat} {w : World} {g b c : Nat} {L : List Sct}
set_option maxHeartbeats 16000000 in
set_option maxRecDepth 20000 in
theorem type_yes {K : Ctx} {n : Nat} (H : Scp Q B w g b c L) {cs : List Value} {t : Ty} (ht : TyAt n K w cs t) {v : Value} {l : List Bs} (hv : Strs K w v l) (hC : K.C <= w.heap.size) (hL : ∀ x ∈ L, x.lives.length <= 1000) (hn : l.Nodup) (hl : l.length <= 1000) {d : Nat} (hok : okT L l d t) :
  Calls Tryz.prog 182 #[.pointer (some ⟨g, 0, none⟩), .agg cs.toArray, v, .bool false] w fun ev w' => ev = .returned .nilIface /\ Below w.heap.size w w' := by
 have hsm := K.small
 have HA := hidP (alloc_one w (.cells cs.toArray 36))
 have SO : Hid (∀ y, Below w.heap.size w y -> Calls Tryz.prog 177 #[v] y fun ev w' => ∃ b, ev = .returned (.map (some b)) /\ Mp w' b (un l.reverse) /\ Below y.heap.size y w') := fun y hy => (setOf_any (hv.below (below_le hy hC)) (Nat.le_trans hC hy.size) hn hl).mono fun _ _ ⟨b, h1, h2, h3, _⟩ => ⟨b, h1, h2, h3⟩
 have TC : Hid (∀ y, Below w.heap.size w y -> ∀ sb, Mp y sb (un l.reverse) -> Calls Tryz.prog 208 #[.pointer (some ⟨g, 0, none⟩), .agg cs.toArray, .map (some sb), .bool false] y fun ev w' => ev = .returned (.int .i64 0) /\ Below y.heap.size y w') := fun y hy sb hs => typeCode_yes (H.past hy) hs (ht.below (below_le hy hC)) (Nat.le_trans hC hy.size) hL (okT_mono (fun x hx => List.mem_reverse.2 hx) hok)
 have NW := hidP (new_ok 0)
 have R0 : Hid (Row (w.alloc (.cells cs.toArray 36)) w.heap.size 36 cs) := Row.new w 36 cs
 have hsz0 : Hid ((w.alloc (.cells cs.toArray 36)).heap.size = w.heap.size + 1) := size_alloc _ _
 obtain ⟨n, rfl⟩ : ∃ m, n = m + 1 := by
  cases n with
  | zero => exact ht.elim
  | succ m => exact ⟨m, rfl⟩
 obtain ⟨v2, v3, rfl, hB, h2, h3⟩ := ht
 obtain ⟨a2, p2, rfl⟩ := Ar.form h2
 obtain ⟨a3, p3, rfl⟩ := Ar.form h3
 obtain ⟨a4, p4, rfl⟩ := Ar.form hv
 clear H h2 h3 hok hB hv
 generalize t.lives.length = nl at *
 generalize t.elem.length = ne at *
 generalize l.length = n4 at *
 generalize str t.name = SN at *
 generalize t.kind = kd at *
 go_enter Tryz.func182, Tryz.ntmps182
 go_wp2_with fail
 have hS0 : Row ((w.alloc (.cells #[.int .i64 kd, .string SN, .slice a2 nl p2, .slice a3 ne p3] 36)).drew) w.heap.size 36 [.int .i64 kd, .string SN, .slice a2 nl p2, .slice a3 ne p3] := R0.out.drew
 have HD : Hid (Below w.heap.size w (w.alloc (.cells #[.int .i64 kd, .string SN, .slice a2 nl p2, .slice a3 ne p3] 36)).drew) := HA.out.drew
 refine beginL (fun y => Row y w.heap.size 36 [.int .i64 kd, .string SN, .slice a2 nl p2, .slice a3 ne p3]) 7 (by kernel_rfl) hS0 (fun hSS => ?_)
 refine takeL 0 (v := ?_) rfl (some 9) rfl (by decide) (by kernel_rfl) (by kernel_rfl) (by kernel_rfl) (by kernel_rfl) (fun _ _ _ h => h) (Or.inl ⟨by rfl, ?_⟩) hSS ?_
 rotate_left
 ·(intro y hy; have hk0 := hy.cell 0; have hk1 := hy.cell 1; have hk2 := hy.cell 2; have hk3 := hy.cell 3; simp only [List.getElem?_cons_zero, List.getElem?_cons_succ] at hk0 hk1 hk2 hk3; go_simp; with_reducible rfl)
 try simp only [Act.put]
 try simp only [List.setIfInBounds_toArray]
 try simp only [List.set_cons_succ]
 try simp only [List.set_cons_zero]
 refine takeL 1 (v := ?_) rfl (some 10) rfl (by decide) (by kernel_rfl) (by kernel_rfl) (by kernel_rfl) (by kernel_rfl) (fun _ _ _ h => h) (Or.inl ⟨by rfl, ?_⟩) hSS ?_
 rotate_left
 ·(intro y hy; have hk0 := hy.cell 0; have hk1 := hy.cell 1; have hk2 := hy.cell 2; have hk3 := hy.cell 3; simp only [List.getElem?_cons_zero, List.getElem?_cons_succ] at hk0 hk1 hk2 hk3; go_simp; with_reducible rfl)
 try simp only [Act.put]
 try simp only [List.setIfInBounds_toArray]
 try simp only [List.set_cons_succ]
 try simp only [List.set_cons_zero]
 refine takeL 2 (v := ?_) rfl (some 11) rfl (by decide) (by kernel_rfl) (by kernel_rfl) (by kernel_rfl) (by kernel_rfl) (fun _ _ _ h => h) (Or.inl ⟨by rfl, ?_⟩) hSS ?_
 rotate_left
 ·(intro y hy; have hk0 := hy.cell 0; have hk1 := hy.cell 1; have hk2 := hy.cell 2; have hk3 := hy.cell 3; simp only [List.getElem?_cons_zero, List.getElem?_cons_succ] at hk0 hk1 hk2 hk3; go_simp; with_reducible rfl)
 try simp only [Act.put]
 try simp only [List.setIfInBounds_toArray]
 try simp only [List.set_cons_succ]
 try simp only [List.set_cons_zero]
 refine takeL 4 (v := ?_) rfl (some 13) rfl (by decide) (by kernel_rfl) (by kernel_rfl) (by kernel_rfl) (by kernel_rfl) (fun _ _ _ h => h) (Or.inl ⟨by rfl, ?_⟩) hSS ?_
 rotate_left
 ·(intro y hy; have hk0 := hy.cell 0; have hk1 := hy.cell 1; have hk2 := hy.cell 2; have hk3 := hy.cell 3; simp only [List.getElem?_cons_zero, List.getElem?_cons_succ] at hk0 hk1 hk2 hk3; go_simp; with_reducible rfl)
 try simp only [Act.put]
 try simp only [List.setIfInBounds_toArray]
 try simp only [List.set_cons_succ]
 try simp only [List.set_cons_zero]
 refine readyL (rs := [3]) (by kernel_rfl) (by simp) ?_
 refine ReadyL.cons rfl (fun KK hK => ?_) ReadyL.nil
 refine wantR (by rfl) ?_
 go_simp
 refine (SO.out _ HD.out).mono ?_
 rintro _ w2 ⟨sb, rfl, hM, hb2⟩
 have HB2 := hidP (HD.out.trans (below_le hb2 HD.out.size))
 have HM := hidP hM
 have hSS2 := hSS.below hb2 hSS.lt
 refine hK.out _ _ (fun _ => hSS2) (fun _ => ?_)
 clear hK KK hSS SO HD hb2 hM
 have hSS := hSS2
 clear hSS2
 try simp only [Act.put]
 try simp only [List.setIfInBounds_toArray]
 try simp only [List.set_cons_succ]
 try simp only [List.set_cons_zero]
 refine readyL (rs := [5]) (by kernel_rfl) (by simp) ?_
 refine ReadyL.cons rfl (fun KK hK => ?_) ReadyL.nil
 refine wantR (by rfl) ?_
 go_simp
 refine (TC.out _ HB2.out sb HM.out).mono ?_
 rintro _ w3 ⟨rfl, hb3⟩
 have HB3 := hidP (HB2.out.trans (below_le hb3 HB2.out.size))
 have hSS2 := hSS.below hb3 hSS.lt
 refine hK.out _ _ (fun _ => hSS2) (fun _ => ?_)
 clear hK KK hSS TC HM HB2 hb3
 have hSS := hSS2
 clear hSS2
 try simp only [Act.put]
 try simp only [List.setIfInBounds_toArray]
 try simp only [List.set_cons_succ]
 try simp only [List.set_cons_zero]
 refine readyL (rs := [6]) (by kernel_rfl) (by simp) ?_
 refine ReadyL.cons rfl (fun KK hK => ?_) ReadyL.nil
 refine wantR (by rfl) ?_
 go_simp
 refine (NW.out _).mono ?_
 rintro _ _ ⟨rfl, rfl⟩
 refine hK.out _ _ (fun _ => hSS) (fun _ => ?_)
 clear hK KK
 try simp only [Act.put]
 try simp only [List.setIfInBounds_toArray]
 try simp only [List.set_cons_succ]
 try simp only [List.set_cons_zero]
 refine readyL (rs := [7]) (by kernel_rfl) (by simp) ?_
 refine ReadyL.cons rfl (fun KK hK => ?_) ReadyL.nil
 refine wantR (by rfl) ?_
 have hk0 := hSS.cell 0; have hk1 := hSS.cell 1; have hk2 := hSS.cell 2; have hk3 := hSS.cell 3; simp only [List.getElem?_cons_zero, List.getElem?_cons_succ] at hk0 hk1 hk2 hk3; go_simp
 refine hK.out _ _ (fun _ => hSS) (fun _ => ?_)
 clear hK KK
 try simp only [Act.put]
 try simp only [List.setIfInBounds_toArray]
 try simp only [List.set_cons_succ]
 try simp only [List.set_cons_zero]
 refine doneL (by kernel_rfl) ?_ _
 go_wp2_with fail
 go_ret
 exact ⟨rfl, HB3.out⟩
set_option maxHeartbeats 16000000 in
set_option maxRecDepth 20000 in
theorem askType_yes {K : Ctx} {n : Nat} (H : Scp Q B w g b c L) {cs : List Value} {t : Ty} (ht : TyAt n K w cs t) {v : Value} {l : List Bs} (hv : Strs K w v l) (hC : K.C <= w.heap.size) (hL : ∀ x ∈ L, x.lives.length <= 1000) (hn : l.Nodup) (hl : l.length <= 1000) {d : Nat} (hok : okT L l d t) :
  Calls Tryz.prog 141 #[.pointer (some ⟨g, 0, none⟩), .agg cs.toArray, .agg #[.bool false, v, .func (.func 136) #[] #[]]] w fun ev w' => ev = .returned (.int .i64 0) /\ Below w.heap.size w w' := by
 have hsm := K.small
 have HA := hidP (alloc_two w (.cells cs.toArray 36) (.cells #[.bool false, v, .func (.func 136) #[] #[]] 204))
 have R0 : Hid (Row ((w.alloc (.cells cs.toArray 36)).alloc (.cells #[.bool false, v, .func (.func 136) #[] #[]] 204)) w.heap.size 36 cs) := (Row.new w 36 cs).alloc _
 have R1 : Hid (Row ((w.alloc (.cells cs.toArray 36)).alloc (.cells #[.bool false, v, .func (.func 136) #[] #[]] 204)) (w.heap.size + 1) 204 [.bool false, v, .func (.func 136) #[] #[]]) := by
  have := Row.new (w.alloc (.cells cs.toArray 36)) 204 [.bool false, v, .func (.func 136) #[] #[]]
  rw [size_alloc] at this; exact this
 have hsz : Hid (((w.alloc (.cells cs.toArray 36)).alloc (.cells #[.bool false, v, .func (.func 136) #[] #[]] 204)).heap.size = w.heap.size + 2) := size_two w _ _
 have TY : Hid (∀ y, Below w.heap.size w y -> Calls Tryz.prog 182 #[.pointer (some ⟨g, 0, none⟩), .agg cs.toArray, v, .bool false] y fun ev w' => ev = .returned .nilIface /\ Below y.heap.size y w') := fun y hy => type_yes (H.past hy) (ht.below (below_le hy hC)) (hv.below (below_le hy hC)) (Nat.le_trans hC hy.size) hL hn hl hok
 have WE : Hid (∀ y, Below w.heap.size w y -> Calls Tryz.prog 183 #[.agg cs.toArray, .func (.func 136) #[] #[]] y fun ev w' => ev = .returned (.bool true) /\ Below y.heap.size y w') := fun y hy => isWell_yes (ht.below (below_le hy hC)) (Nat.le_trans hC hy.size) hok
 have CO := hidP codeOf_nil
 obtain ⟨n, rfl⟩ : ∃ m, n = m + 1 := by
  cases n with
  | zero => exact ht.elim
  | succ m => exact ⟨m, rfl⟩
 obtain ⟨v2, v3, rfl, hB, h2, h3⟩ := ht
 obtain ⟨a2, p2, rfl⟩ := Ar.form h2
 obtain ⟨a3, p3, rfl⟩ := Ar.form h3
 obtain ⟨a4, p4, rfl⟩ := Ar.form hv
 clear H h2 h3 hok hB hv
 generalize t.lives.length = nl at *
 generalize t.elem.length = ne at *
 generalize l.length = n4 at *
 generalize str t.name = SN at *
 generalize t.kind = kd at *
 have y1 := R1.out.cell 1
 simp only [List.getElem?_cons_zero, List.getElem?_cons_succ] at y1
 go_enter Tryz.func141, Tryz.ntmps141
 go_wp2_with (first | (refine ldR rfl 36 (.tmp 4) rfl rfl R0.out Tryz.underlying36 rfl Tryz.sz36 ?_; apply shut))
 show wpList _ _ _ _ _ _
 go_wp2_with fail
 refine (TY.out _ HA.out).mono ?_
 rintro _ w1 ⟨rfl, hb1⟩
 have HB1 := hidP (HA.out.trans (below_le hb1 (by rw [hsz.out]; omega)))
 have R2 := hidP (R0.out.below hb1 R0.out.lt)
 have R3 := hidP (R1.out.below hb1 R1.out.lt)
 clear R0 R1 HA TY hb1 y1
 go_wp2_with fail
 refine (CO.out _).mono ?_
 rintro _ w2 ⟨rfl, hb2⟩
 have HB2 := hidP (HB1.out.trans (below_le hb2 HB1.out.size))
 have R4 := hidP (R2.out.below hb2 R2.out.lt)
 have R5 := hidP (R3.out.below hb2 R3.out.lt)
 have y2 := R5.out.cell 2
 simp only [List.getElem?_cons_zero, List.getElem?_cons_succ] at y2
 clear R2 R3 HB1 CO hb2
 go_wp2_with (first | (refine ldR rfl 36 (.tmp 4) rfl rfl R4.out Tryz.underlying36 rfl Tryz.sz36 ?_; apply shut))
 show wpList _ _ _ _ _ _
 go_wp2_with fail
 refine (WE.out _ HB2.out).mono ?_
 rintro _ w3 ⟨rfl, hb3⟩
 have HB3 := hidP (HB2.out.trans (below_le hb3 HB2.out.size))
 have R6 := R5.out.below hb3 R5.out.lt
 have y0 := R6.cell 0
 simp only [List.getElem?_cons_zero] at y0
 clear R4 R5 R6 HB2 WE hb3 y2
 go_wp2_with fail
 go_ret
 exact ⟨rfl, HB3.out⟩
def okFs (L : List Sct) (l : List Bs) (d : Nat) (fs : List Fld) : Prop := (fs.map (·.name)).Nodup /\ ∀ f ∈ fs, okT L l d f.ty
set_option maxHeartbeats 16000000 in
set_option maxRecDepth 20000 in
theorem askFields_yes {K : Ctx} (H : Scp Q B w g b c L) {v : Value} {l : List Bs} (hv : Strs K w v l) {u : Value} {fs : List Fld} (hf : Ar 6 96 (FldAt K w) K w u fs) (hC : K.C <= w.heap.size) (hL : ∀ x ∈ L, x.lives.length <= 1000) (hn : l.Nodup) (hl : l.length <= 1000) {d : Nat} (hok : okFs L l d fs) (hfl : fs.length <= 1000) :
  Calls Tryz.prog 135 #[.pointer (some ⟨g, 0, none⟩), u, .agg #[.bool false, v, .func (.func 136) #[] #[]]] w fun ev w' => ev = .returned (.int .i64 0) /\ Below w.heap.size w w' := by
 have hsm := K.small
 obtain ⟨W0, hW0⟩ : ∃ W0, W0 = (w.alloc (.cells #[.bool false, v, .func (.func 136) #[] #[]] 204)).alloc (.map #[] 0) := ⟨_, rfl⟩
 have HA : Hid (Below w.heap.size w W0) := by rw [hW0]; exact alloc_two w _ _
 have R0 : Hid (Row W0 w.heap.size 204 [.bool false, v, .func (.func 136) #[] #[]]) := by rw [hW0]; exact (Row.new w 204 [.bool false, v, .func (.func 136) #[] #[]]).alloc _
 have HM : Hid (Mp W0 (w.heap.size + 1) (un [])) := by
  have := Mp.made (w.alloc (.cells #[.bool false, v, .func (.func 136) #[] #[]] 204))
  rw [size_alloc] at this; rw [hW0]; exact this
 have hsz : Hid (W0.heap.size = w.heap.size + 2) := by rw [hW0]; exact size_two w _ _
 have HW0 := hidP hW0
 have AT : Hid (∀ y, Below w.heap.size w y -> ∀ (cs : List Value) (f : Fld), f ∈ fs -> IsTy K y cs f.ty -> Calls Tryz.prog 141 #[.pointer (some ⟨g, 0, none⟩), .agg cs.toArray, .agg #[.bool false, v, .func (.func 136) #[] #[]]] y fun ev w' => ev = .returned (.int .i64 0) /\ Below y.heap.size y w') := fun y hy cs f hm ht => by
  obtain ⟨n, ht⟩ := ht
  exact askType_yes (H.past hy) ht (hv.below (below_le hy hC)) (Nat.le_trans hC hy.size) hL hn hl (hok.2 f hm)
 have HF := hidP hf
 have HC := hidP hC
 have hmm := @run_makeMap Tryz.prog
 have HT := hidP (fun i (hi : i < (fs.map (·.name)).length) => getD_take hi)
 have HNN := hidP (fun i (hi : i < (fs.map (·.name)).length) => nodup_new hi hok.1)
 have HGN : Hid (∀ i (hi : i < fs.length), (fs.map (·.name)).getD i [] = fs[i].name) := fun i hi => by
  rw [List.getD_eq_getElem?_getD, List.getElem?_eq_getElem (by simpa using hi)]; simp
 obtain ⟨a2, p2, rfl⟩ := Ar.form hf
 obtain ⟨a4, p4, rfl⟩ := Ar.form hv
 clear H hok hv hf hW0
 generalize l.length = n4 at *
 obtain ⟨nf, hnf⟩ : ∃ nf, nf = fs.length := ⟨_, rfl⟩
 have HNF := hidP hnf
 rw [← hnf] at hfl ⊢
 clear hnf
 go_enter Tryz.func135, Tryz.ntmps135
 go_wp2_with fail
 rw [← HW0.out]
 clear HW0
 go_loopw [14] (fun i wr => ∃ (k : Nat), k <= nf /\ i = .int .i64 k /\ Row wr w.heap.size 204 [.bool false, .slice a4 n4 p4, .func (.func 136) #[] #[]] /\ Mp wr (w.heap.size + 1) (un ((fs.map (·.name)).take k).reverse) /\ Below w.heap.size w wr) (fun i _ => nf - (intOf i).toNat)
 case atStart => exact ⟨0, by omega, rfl, R0.out, HM.out, HA.out⟩
 case round =>
  clear R0 HM HA
  obtain ⟨k, hk, rfl, hr, hM, hb⟩ := hrel
  by_cases h3 : k < nf
  ·have l1 : (k : Int) < (nf : Int) := by omega
   have hk' : k < fs.length := by have := HNF.out; omega
   obtain ⟨ao, cap, e, _, _, hall⟩ := HF.out.shape
   cases e
   obtain ⟨b', o, rfl, hbC, cs, hcl, hcs, hfa⟩ := hall k hk'
   obtain ⟨ts, rfl, hfn, hty⟩ := hfa
   have hszw := hb.size
   have hC' := HC.out
   have hrg : wr.rangeAt b' (o + k * 6) (Value.bool fs[k].mu :: .string (str fs[k].name) :: ts) := fun j u hj => by
    have hj2 : j < 6 := by
     rcases Nat.lt_or_ge j 6 with h' | h'
     ·exact h'
     ·rw [List.getElem?_eq_none (by omega)] at hj; cases hj
    rw [hb.cell (p := ⟨b', o + k * 6 + j, none⟩) (show b' < w.heap.size by omega), hcs j hj2]; exact hj
   obtain ⟨t0, t1, t2, t3, rfl⟩ : ∃ t0 t1 t2 t3, ts = [t0, t1, t2, t3] := by
    obtain ⟨nn, hty⟩ := hty
    match nn, hty with
    | _ + 1, hty => obtain ⟨v2, v3, e, _⟩ := hty; exact ⟨_, _, _, _, e⟩
   have hone := hidP (show ∀ u ∈ [Value.bool fs[k].mu, .string (str fs[k].name), t0, t1, t2, t3], u.oneCell' = true from fun u hu => by
    rcases List.mem_cons.1 hu with rfl | hu
    ·rfl
    ·rcases List.mem_cons.1 hu with rfl | hu
     ·rfl
     ·exact hty.one u hu)
   have HTY := hidP hty
   have hm : fs[k] ∈ fs := List.getElem_mem hk'
   have AT' := hidP (fun y (hy : Below w.heap.size w y) => AT.out y hy [t0, t1, t2, t3] fs[k] hm (HTY.out.below (below_le hy HC.out)))
   have hnew := HNN.out k (by simpa using hk')
   rw [HGN.out k hk'] at hnew
   have HT1 := HT.out k (by simpa using hk')
   rw [HGN.out k hk'] at HT1
   replace HT1 := hidP HT1
   have RN : Hid (Row (wr.alloc (.cells #[.bool false, .string ⟨#[]⟩, .int .i64 0, .string ⟨#[]⟩, .slice none 0 0, .slice none 0 0] 145)) wr.heap.size 145 [.bool false, .string ⟨#[]⟩, .int .i64 0, .string ⟨#[]⟩, .slice none 0 0, .slice none 0 0]) := Row.new wr 145 _
   have hA := alloc_one wr (.cells #[.bool false, .string ⟨#[]⟩, .int .i64 0, .string ⟨#[]⟩, .slice none 0 0, .slice none 0 0] 145)
   have HRG := hidP (hrg)
   have HR := hidP (hr.below hA hr.lt)
   have hb' := hidP hb
   have HA := hidP hA
   have AD := hidP (fun y (hy : Mp y (w.heap.size + 1) (un ((fs.map (·.name)).take k).reverse)) => add_any hy fs[k].name (by omega) (by rw [un_len, List.length_reverse, List.length_take]; omega) (by rw [un_keys, List.mem_reverse]; exact hnew))
   have HM' := hidP hM
   have hlt1 := hidP hM.lt
   have hlt0 := hidP hr.lt
   clear hrg hr hb hM hA hnew hfn hty hcs hcl hbC hm HTY hall
   generalize fs[k].mu = mu at *
   generalize hfk : fs[k].name = fk at *
   clear hfk
   generalize str fk = SK at *
   go_wp2_with (first | (refine wpList_load_mid rfl 145 (.tmp 16) rfl b' (o + k * 6) rfl [.bool mu, .string SK, t0, t1, t2, t3] _ HRG.out Tryz.underlying145 rfl Tryz.sz74 ?_; apply shut))
   show wpList _ _ _ _ _ _
   go_wp2_with (first | (refine stR rfl 145 (.tmp 9) (.tmp 17) rfl (cs := [.bool mu, .string SK, t0, t1, t2, t3]) rfl rfl RN.out Tryz.sz74 rfl hone.out ?_; intro w2 R2 S2; apply shut))
   show wpList _ _ _ _ _ _
   have hl1 := hlt1.out
   have hl0 := hlt0.out
   have HM2 := hidP ((HM'.out.below HA.out).stay S2 (by omega))
   have R3 := hidP (S2.row HR.out (by omega))
   have HB2 := hidP (hb'.out.trans (below_le (HA.out.trans (S2.below (C := wr.heap.size) HA.out.size (fun q hq => by omega))) hb'.out.size))
   have y1 := R2.cell 1
   simp only [List.getElem?_cons_zero, List.getElem?_cons_succ] at y1
   have AD2 := hidP (AD.out w2 HM2.out)
   replace R2 := hidP R2
   have sz2 := hidP (Nat.le_trans HA.out.size S2.size)
   clear RN HRG HR S2 HA hb' HM' hone AD HM2 AT
   go_wp2_with fail
   refine AD2.out.mono ?_
   rintro _ w3 ⟨rfl, hM3, S3⟩
   have hs2 := sz2.out
   have HM3 := hidP (show Mp w3 (w.heap.size + 1) (un ((fs.map (·.name)).take (k + 1)).reverse) by
    rw [HT1.out, List.reverse_append, List.reverse_singleton, List.singleton_append]; exact hM3)
   have R4 := hidP (S3.row R3.out (by omega))
   have R5 := hidP (S3.row R2.out (by omega))
   have HB3 := hidP (HB2.out.trans (S3.below (C := w.heap.size) HB2.out.size (fun q hq => by omega)))
   have AT2 := hidP (AT'.out w3 HB3.out)
   have rg5 : w3.rangeAt wr.heap.size 2 [t0, t1, t2, t3] := fun j u hj => by
    have := R5.out.range (j + 2) u hj
    rw [show 0 + (j + 2) = 2 + j by omega] at this; exact this
   replace rg5 := hidP rg5
   clear hM3 S3 AD2 R2 R3 HB2 AT' y1 HT1
   go_wp2_with (first | (refine wpList_load_mid rfl 36 (.tmp 24) rfl wr.heap.size 2 rfl [t0, t1, t2, t3] _ rg5.out Tryz.underlying36 rfl Tryz.sz36 ?_; apply shut))
   show wpList _ _ _ _ _ _
   refine ldR rfl 204 (.tmp 5) rfl rfl R4.out Tryz.underlying204 rfl Tryz.sz204 ?_
   go_wp2_with fail
   refine AT2.out.mono ?_
   rintro _ w4 ⟨rfl, hb4⟩
   have HB4 := hidP (HB3.out.trans (below_le hb4 HB3.out.size))
   have R6 := hidP (R4.out.below hb4 R4.out.lt)
   have HM4 := hidP (HM3.out.below hb4)
   clear R4 R5 HB3 AT2 rg5 hb4 HM3
   go_wp2_with fail
   go_roundw
   case rel => exact ⟨k + 1, by omega, by go_num, R6.out, HM4.out, HB4.out⟩
   case measure => simp [intOf]; omega
  ·obtain rfl : k = nf := by omega
   have hb' := hidP hb
   clear hb hr hM
   go_wp2_with fail
   go_ret
   exact ⟨rfl, hb'.out⟩
end
end Go.Proofs.YtldbbkheemnnhaaGreatDoor
