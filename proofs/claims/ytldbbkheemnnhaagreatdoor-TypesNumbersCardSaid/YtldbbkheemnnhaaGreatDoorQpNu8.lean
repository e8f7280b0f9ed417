/-
  TypesNumbers' walk.
-/
import Derived.Test.YtldbbkheemnnhaaGreatDoorJpWrd3
import Derived.Laws.BitsLemmas
namespace Go.Proofs.YtldbbkheemnnhaaGreatDoor
open Go.RowKit Go.Maps
theorem and15 (n : Int) : bits .and .i64 n 15 = n % 16 := by
 have h15 : (BitVec.ofInt 64 15).toNat = 2 ^ 4 - 1 := by decide
 have key : (BitVec.ofInt 64 n &&& BitVec.ofInt 64 15).toNat = (n % ((2 ^ 64 : Nat) : Int)).toNat % 2 ^ 4 := by
  rw [BitVec.toNat_and, BitVec.toNat_ofInt, h15, Nat.and_two_pow_sub_one_eq_mod]
 show IntKind.i64.wrap ((BitVec.ofInt 64 n &&& BitVec.ofInt 64 15).toNat : Nat) = n % 16
 rw [key, IntKind.wrap_i64]
 omega
def Z16 : List Value := iv (List.replicate 16 0)
theorem make16 (w : World) : (Instr.makeSlice 22 (.int .i64 16) (.int .i64 16)).run Tryz.prog w = .ok (.slice (some ⟨w.heap.size, 0, none⟩) 16 16) (w.alloc (.cells Z16.toArray 3)) := by kernel_rfl
def Nib (x : Int) : Prop := 0 <= x /\ x <= 15
def comp (a b : List Int) : List Int := a.map fun x => b.getD x.toNat 0
theorem getD_mem {a : List Int} {i : Nat} (h : i < a.length) : a.getD i 0 ∈ a := by
 rw [List.getD_eq_getElem?_getD, List.getElem?_eq_getElem h]
 exact List.getElem_mem h
theorem comp_get {a b : List Int} {i : Nat} (h : i < a.length) : (comp a b).getD i 0 = b.getD (a.getD i 0).toNat 0 := by
 unfold comp
 rw [List.getD_eq_getElem?_getD, List.getElem?_map, List.getElem?_eq_getElem h, List.getD_eq_getElem?_getD (l := a), List.getElem?_eq_getElem h]
 rfl
theorem putN_in {a : List Int} (ha : a.length = 16) {x : Int} (hx : Nib x) : putN a x = a.getD x.toNat 0 := by
 unfold putN
 obtain ⟨h1, h2⟩ := hx
 rw [if_pos (by rw [ha]; omega)]
theorem putN_comp {a b : List Int} (ha : a.length = 16) (hb : b.length = 16) (hA : ∀ x ∈ a, Nib x) {x : Int} (hx : Nib x) : putN b (putN a x) = putN (comp a b) x := by
 have hi : x.toNat < a.length := by rw [ha]; obtain ⟨_, _⟩ := hx; omega
 rw [putN_in ha hx, putN_in hb (hA _ (getD_mem hi)), putN_in (a := comp a b) (by unfold comp; rw [List.length_map, ha]) hx, comp_get hi]
theorem sub_comp {a b : List Int} (ha : a.length = 16) (hb : b.length = 16) (hA : ∀ x ∈ a, Nib x) : ∀ {n : Nat} {t : RTy}, plainB n t = true -> (∀ x ∈ regL n t, Nib x) -> subN n b (subN n a t) = subN n (comp a b) t
 | 0, _, h, _ => by simp [plainB] at h
 | n + 1, t, h, hr => by
  rw [regL_succ] at hr
  have hh : (∀ x ∈ t.regs, Nib x) /\ ∀ e ∈ t.elem, subN n b (subN n a e) = subN n (comp a b) e := by
   by_cases k : t.kind = 4 ∨ t.kind = 5
   ·simp only [plainB, if_pos k, Bool.and_eq_true, decide_eq_true_eq] at h
    obtain ⟨⟨h1, h2⟩, h3⟩ := h
    have ho : ownR t = t.regs := by
     unfold ownR; rw [if_neg (by omega), if_pos k, List.take_of_length_le (by omega)]
    refine ⟨fun x hx => hr x (List.mem_append_left _ (by rw [ho]; exact hx)), fun e he => ?_⟩
    have hE : t.elem = [e] := by
     match hl : t.elem, he, h2 with
     | [y], he, _ => rw [List.mem_singleton] at he; rw [he]
    have hn : nxtR t = some e := by unfold nxtR; rw [if_pos k, hE]; rfl
    rw [hE] at h3
    exact sub_comp ha hb hA h3 fun x hx => hr x (List.mem_append_right _ (by rw [hn]; exact hx))
   ·simp only [plainB, if_neg k, Bool.and_eq_true, decide_eq_true_eq] at h
    obtain ⟨⟨h1, h2⟩, _⟩ := h
    have hE := List.eq_nil_of_length_eq_zero h2
    refine ⟨fun x hx => ?_, fun e he => by rw [hE] at he; cases he⟩
    rcases h1 with h1 | h1
    ·exact hr x (List.mem_append_left _ (by unfold ownR; rw [if_pos h1]; exact hx))
    ·rw [List.eq_nil_of_length_eq_zero h1] at hx; cases hx
  show RTy.mk t.kind t.name ((t.regs.map (putN a)).map (putN b)) ((t.elem.map (subN n a)).map (subN n b)) = ⟨t.kind, t.name, t.regs.map (putN (comp a b)), t.elem.map (subN n (comp a b))⟩
  rw [List.map_map, List.map_map, List.map_congr_left (f := putN b ∘ putN a) (g := putN (comp a b)) (fun x hx => putN_comp ha hb hA (hh.1 x hx)), List.map_congr_left (f := subN n b ∘ subN n a) (g := subN n (comp a b)) (fun e he => hh.2 e he)]
theorem allS_map {p : RTy -> RTy -> Bool} {f : RTy -> RTy} : ∀ {l : List RTy}, (∀ e ∈ l, p (f e) e = true) -> allS p (l.map f) l = true
 | [], _ => rfl
 | x :: l, h => by
  simp only [List.map_cons, allS, Bool.and_eq_true]
  exact ⟨h x List.mem_cons_self, allS_map fun e he => h e (List.mem_cons_of_mem _ he)⟩
theorem same_sub {m : List Int} : ∀ {n : Nat} {t : RTy}, Fit n t -> sameN n (subN n m t) t = true
 | 0, _, h => h.elim
 | n + 1, t, h => by
  simp only [sameN, subN, List.length_map, beq_self_eq_true, decide_true, Bool.true_and]
  exact allS_map fun e he => same_sub (h.2.2 e he)
theorem same_len : ∀ {n : Nat} {a b : RTy}, sameN n a b = true -> (regL n a).length = (regL n b).length
 | 0, _, _, h => by cases h
 | n + 1, a, b, h => by
  rw [regL_succ, regL_succ, List.length_append, List.length_append, sameN_own h]
  have h2 := sameN_next h
  generalize nxtR a = x at h2
  generalize nxtR b = y at h2
  match x, y, h2 with
  | none, none, _ => rfl
  | some x, some y, h2 => have := same_len (n := n) (a := x) (b := y) h2; simp only [resL]; omega
theorem sub_kind {m : List Int} {n : Nat} {t : RTy} : (subN n m t).kind = t.kind := by cases n <;> rfl
theorem iv_at {l : List Int} {i : Nat} (h : i < l.length) : (iv l)[i]? = some (.int .i64 (l.getD i 0)) := by
 unfold iv
 rw [List.getElem?_map, List.getD_eq_getElem?_getD, List.getElem?_eq_getElem h]
 rfl
theorem iv_set (l : List Int) (i : Nat) (x : Int) : (iv l).set i (.int .i64 x) = iv (l.set i x) := by unfold iv; rw [List.map_set]
theorem nib_set {l : List Int} {i : Nat} {x : Int} (h : ∀ y ∈ l, Nib y) : ∀ y ∈ l.set i (x % 16), Nib y := fun y hy => by
 rcases List.mem_or_eq_of_mem_set hy with h' | rfl
 ·exact h y h'
 ·exact ⟨by omega, by omega⟩
theorem nms_row {K : Ctx} {w : World} {g t : Nat} {l : List Int} (h : Row w g t (iv l)) (hg : g < K.C) (hl : l.length = 16) : Nms K w (.slice (some ⟨g, 0, none⟩) 16 16) l :=
 ⟨some ⟨g, 0, none⟩, 16, by rw [hl], by omega, by omega, fun i hi => ⟨g, 0, rfl, hg, [.int .i64 l[i]], rfl, fun j hj => by
  obtain rfl : j = 0 := by omega
  rw [Nat.zero_add, Nat.mul_one, Nat.add_zero, h.cell]
  unfold iv
  rw [List.getElem?_map, List.getElem?_eq_getElem hi]
  rfl, rfl⟩⟩
theorem region_cut3 {P : Program} {c : Code} {Q : Exit -> Act -> World -> Prop} {a : Act} {w : World} {A : Nat -> Nat -> Nat -> Act} {F : Nat -> Nat -> Nat -> World -> Prop} (h : c.wp P (fun e a' w' => ∃ g1 g2 g3, e = .normal /\ a' = A g1 g2 g3 /\ F g1 g2 g3 w') a w) (k : ∀ g1 g2 g3 w', F g1 g2 g3 w' -> Q .normal (A g1 g2 g3) w') : c.wp P Q a w :=
 Code.wp_mono (by rintro e a' w' ⟨g1, g2, g3, rfl, rfl, hf⟩; exact k g1 g2 g3 w' hf) h
structure Nibs (w : World) (g : Nat) (l : List Int) : Prop where
 len : l.length = 16
 nib : ∀ x ∈ l, Nib x
 row : Row w g 3 (iv l)
set_option maxHeartbeats 32000000 in
set_option maxRecDepth 20000 in
theorem numbers_walk {K : Ctx} {w : World} {n : Nat} {cs : List Value} {t : RTy} {vm vn : Value} {m l : List Int} (hG : Glo w) (_hKB : 100 <= K.B) (hC : K.C <= w.heap.size) (ht : RtAt n K w cs t) (hm : Nms K w vm m) (hn : Nms K w vn l) :
  Calls Tryz.prog 9 #[.agg cs.toArray, vm, vn] w fun ev w' => ev = .returned (.bool true) /\ Below w.heap.size w w' := by
 obtain ⟨am, pm, rfl⟩ := Ar.form hm
 obtain ⟨an, pn, rfl⟩ := Ar.form hn
 obtain ⟨c0, cb, cc, cd, rfl⟩ := ht.four
 have HG := hidP hG
 have HC := hidP hC
 have HT := hidP (fun (y : World) (hy : Below w.heap.size w y) => ht.below (below_le hy hC))
 have AM := hidP (fun (y : World) (hy : Below w.heap.size w y) (i : Nat) (hi : i < m.length) => nms_cell (show Nms K y _ _ from hm.mono (below_le hy hC) fun _ _ _ h => h) i hi)
 have AN := hidP (fun (y : World) (hy : Below w.heap.size w y) (i : Nat) (hi : i < l.length) => nms_cell (show Nms K y _ _ from hn.mono (below_le hy hC) fun _ _ _ h => h) i hi)
 have OC := hidP ht.ones
 have HA := hidP (alloc_one w (.cells #[c0, cb, cc, cd] 25))
 have R3 := hidP (Row.new w 25 [c0, cb, cc, cd])
 have DP := hidP (deep10 60 (m := 60) (by decide) (by decide) (HT.out _ HA.out) (Nat.le_trans HC.out HA.out.size))
 clear ht hG hC hm hn
 generalize m.length = nm at *
 generalize l.length = nn at *
 go_enter Tryz.func9, Tryz.ntmps9
 go_wp2_with fail
 refine DP.out.mono ?_
 rintro _ w2 ⟨rfl, hb2⟩
 have B2 := hidP (HA.out.trans (below_le hb2 HA.out.size))
 have R2 := hidP (R3.out.below hb2 R3.out.lt)
 have T2 := hidP (told12 (HG.out.below B2.out))
 clear DP HA R3 hb2
 rcases hdd : deepB 60 t with _ | _
 ·have HFT := hidP (deepB_fit hdd)
  clear hdd T2
  have hws := hidP R2.out.lt
  go_wp2_with fail
  refine region_cut3 (A := ?_) (F := fun g1 g2 g3 w' => w2.heap.size <= g1 /\ w2.heap.size <= g2 /\ w2.heap.size <= g3 /\ g1 ≠ g2 /\ g1 ≠ g3 /\ g2 ≠ g3 /\ Row w' g1 3 Z16 /\ Row w' g2 3 Z16 /\ Row w' g3 3 Z16 /\ Below w2.heap.size w2 w') ?_ ?_
  rotate_left
  ·have hSS : True := trivial
   have BX := hidP (show Below w2.heap.size w2 w2.drew from (Below.refl _ _).drew)
   refine beginL (fun _ => True) 6 (by kernel_rfl) hSS (fun hSS => ?_)
   generalize w2.drew = wS at *
   refine readyL (rs := [0, 1, 2]) (by kernel_rfl) (by simp) ?_
   refine ReadyL.cons rfl (fun KK hK => ?_) (ReadyL.cons rfl (fun KK hK => ?_) (ReadyL.cons rfl (fun KK hK => ?_) ReadyL.nil))
   ·refine wantR (by rfl) ?_
    have MK := make16
    go_simp
    clear MK
    have RA1 := hidP (Row.new wS 3 Z16)
    have BX2 := hidP (BX.out.trans (below_le (alloc_one wS (.cells Z16.toArray 3)) BX.out.size))
    have o1 := hidP (show w2.heap.size <= wS.heap.size from BX.out.size)
    refine hK.out _ _ (fun _ => trivial) (fun _ => ?_)
    clear hK KK BX
    have BX := BX2
    clear BX2
    generalize wS.alloc (.cells Z16.toArray 3) = w31 at *
    generalize wS.heap.size = g1 at *
    try simp only [Act.put]
    try simp only [List.setIfInBounds_toArray]
    try simp only [List.set_cons_succ]
    try simp only [List.set_cons_zero]
    refine takeL 3 (v := ?_) rfl (some 7) rfl (by decide) (by kernel_rfl) (by kernel_rfl) (by kernel_rfl) (by kernel_rfl) (fun _ _ _ h => by obtain ⟨_, _, _, h, _⟩ := h; cases h) (Or.inl ⟨by rfl, ?_⟩) hSS ?_
    rotate_left
    ·(intro y hy; go_simp; with_reducible rfl)
    try simp only [Act.put]
    try simp only [List.setIfInBounds_toArray]
    try simp only [List.set_cons_succ]
    try simp only [List.set_cons_zero]
    refine readyL (rs := [1, 2]) (by kernel_rfl) (by simp) ?_
    refine ReadyL.cons rfl (fun KK hK => ?_) (ReadyL.cons rfl (fun KK hK => ?_) ReadyL.nil)
    ·refine wantR (by rfl) ?_
     have MK := make16
     go_simp
     clear MK
     have RA2 := hidP (Row.new w31 3 Z16)
     have BX2 := hidP (BX.out.trans (below_le (alloc_one w31 (.cells Z16.toArray 3)) BX.out.size))
     have RB1 := hidP (RA1.out.alloc (.cells Z16.toArray 3))
     have o2 := hidP (show g1 < w31.heap.size from RA1.out.lt)
     refine hK.out _ _ (fun _ => trivial) (fun _ => ?_)
     clear hK KK BX
     have BX := BX2
     clear BX2
     clear RA1
     have RA1 := RB1
     clear RB1
     generalize w31.alloc (.cells Z16.toArray 3) = w312 at *
     generalize w31.heap.size = g2 at *
     try simp only [Act.put]
     try simp only [List.setIfInBounds_toArray]
     try simp only [List.set_cons_succ]
     try simp only [List.set_cons_zero]
     refine takeL 4 (v := ?_) rfl (some 8) rfl (by decide) (by kernel_rfl) (by kernel_rfl) (by kernel_rfl) (by kernel_rfl) (fun _ _ _ h => by obtain ⟨_, _, _, h, _⟩ := h; cases h) (Or.inl ⟨by rfl, ?_⟩) hSS ?_
     rotate_left
     ·(intro y hy; go_simp; with_reducible rfl)
     try simp only [Act.put]
     try simp only [List.setIfInBounds_toArray]
     try simp only [List.set_cons_succ]
     try simp only [List.set_cons_zero]
     refine readyL (rs := [2]) (by kernel_rfl) (by simp) ?_
     refine ReadyL.cons rfl (fun KK hK => ?_) ReadyL.nil
     ·refine wantR (by rfl) ?_
      have MK := make16
      go_simp
      clear MK
      have RA3 := hidP (Row.new w312 3 Z16)
      have BX2 := hidP (BX.out.trans (below_le (alloc_one w312 (.cells Z16.toArray 3)) BX.out.size))
      have RB1 := hidP (RA1.out.alloc (.cells Z16.toArray 3))
      have RB2 := hidP (RA2.out.alloc (.cells Z16.toArray 3))
      have o3 := hidP (show g2 < w312.heap.size from RA2.out.lt)
      refine hK.out _ _ (fun _ => trivial) (fun _ => ?_)
      clear hK KK BX
      have BX := BX2
      clear BX2
      clear RA1
      have RA1 := RB1
      clear RB1
      clear RA2
      have RA2 := RB2
      clear RB2
      generalize w312.alloc (.cells Z16.toArray 3) = w3123 at *
      generalize w312.heap.size = g3 at *
      try simp only [Act.put]
      try simp only [List.setIfInBounds_toArray]
      try simp only [List.set_cons_succ]
      try simp only [List.set_cons_zero]
      refine takeL 5 (v := ?_) rfl (some 9) rfl (by decide) (by kernel_rfl) (by kernel_rfl) (by kernel_rfl) (by kernel_rfl) (fun _ _ _ h => by obtain ⟨_, _, _, h, _⟩ := h; cases h) (Or.inl ⟨by rfl, ?_⟩) hSS ?_
      rotate_left
      ·(intro y hy; go_simp; with_reducible rfl)
      try simp only [Act.put]
      try simp only [List.setIfInBounds_toArray]
      try simp only [List.set_cons_succ]
      try simp only [List.set_cons_zero]
      refine doneL (by kernel_rfl) ?_ _
      refine ⟨g1, g2, g3, rfl, ?_, by have := o1.out; have := o2.out; have := o3.out; omega, by have := o1.out; have := o2.out; have := o3.out; omega, by have := o1.out; have := o2.out; have := o3.out; omega, by have := o1.out; have := o2.out; have := o3.out; omega, by have := o1.out; have := o2.out; have := o3.out; omega, by have := o1.out; have := o2.out; have := o3.out; omega, RA1.out, RA2.out, RA3.out, BX.out⟩
      with_reducible rfl
    ·refine wantR (by rfl) ?_
     have MK := make16
     go_simp
     clear MK
     have RA3 := hidP (Row.new w31 3 Z16)
     have BX2 := hidP (BX.out.trans (below_le (alloc_one w31 (.cells Z16.toArray 3)) BX.out.size))
     have RB1 := hidP (RA1.out.alloc (.cells Z16.toArray 3))
     have o2 := hidP (show g1 < w31.heap.size from RA1.out.lt)
     refine hK.out _ _ (fun _ => trivial) (fun _ => ?_)
     clear hK KK BX
     have BX := BX2
     clear BX2
     clear RA1
     have RA1 := RB1
     clear RB1
     generalize w31.alloc (.cells Z16.toArray 3) = w313 at *
     generalize w31.heap.size = g3 at *
     try simp only [Act.put]
     try simp only [List.setIfInBounds_toArray]
     try simp only [List.set_cons_succ]
     try simp only [List.set_cons_zero]
     refine readyL (rs := [1]) (by kernel_rfl) (by simp) ?_
     refine ReadyL.cons rfl (fun KK hK => ?_) ReadyL.nil
     ·refine wantR (by rfl) ?_
      have MK := make16
      go_simp
      clear MK
      have RA2 := hidP (Row.new w313 3 Z16)
      have BX2 := hidP (BX.out.trans (below_le (alloc_one w313 (.cells Z16.toArray 3)) BX.out.size))
      have RB1 := hidP (RA1.out.alloc (.cells Z16.toArray 3))
      have RB3 := hidP (RA3.out.alloc (.cells Z16.toArray 3))
      have o3 := hidP (show g3 < w313.heap.size from RA3.out.lt)
      refine hK.out _ _ (fun _ => trivial) (fun _ => ?_)
      clear hK KK BX
      have BX := BX2
      clear BX2
      clear RA1
      have RA1 := RB1
      clear RB1
      clear RA3
      have RA3 := RB3
      clear RB3
      generalize w313.alloc (.cells Z16.toArray 3) = w3132 at *
      generalize w313.heap.size = g2 at *
      try simp only [Act.put]
      try simp only [List.setIfInBounds_toArray]
      try simp only [List.set_cons_succ]
      try simp only [List.set_cons_zero]
      refine takeL 4 (v := ?_) rfl (some 8) rfl (by decide) (by kernel_rfl) (by kernel_rfl) (by kernel_rfl) (by kernel_rfl) (fun _ _ _ h => by obtain ⟨_, _, _, h, _⟩ := h; cases h) (Or.inl ⟨by rfl, ?_⟩) hSS ?_
      rotate_left
      ·(intro y hy; go_simp; with_reducible rfl)
      try simp only [Act.put]
      try simp only [List.setIfInBounds_toArray]
      try simp only [List.set_cons_succ]
      try simp only [List.set_cons_zero]
      refine takeL 5 (v := ?_) rfl (some 9) rfl (by decide) (by kernel_rfl) (by kernel_rfl) (by kernel_rfl) (by kernel_rfl) (fun _ _ _ h => by obtain ⟨_, _, _, h, _⟩ := h; cases h) (Or.inl ⟨by rfl, ?_⟩) hSS ?_
      rotate_left
      ·(intro y hy; go_simp; with_reducible rfl)
      try simp only [Act.put]
      try simp only [List.setIfInBounds_toArray]
      try simp only [List.set_cons_succ]
      try simp only [List.set_cons_zero]
      refine doneL (by kernel_rfl) ?_ _
      refine ⟨g1, g2, g3, rfl, ?_, by have := o1.out; have := o2.out; have := o3.out; omega, by have := o1.out; have := o2.out; have := o3.out; omega, by have := o1.out; have := o2.out; have := o3.out; omega, by have := o1.out; have := o2.out; have := o3.out; omega, by have := o1.out; have := o2.out; have := o3.out; omega, by have := o1.out; have := o2.out; have := o3.out; omega, RA1.out, RA2.out, RA3.out, BX.out⟩
      with_reducible rfl
   ·refine wantR (by rfl) ?_
    have MK := make16
    go_simp
    clear MK
    have RA2 := hidP (Row.new wS 3 Z16)
    have BX2 := hidP (BX.out.trans (below_le (alloc_one wS (.cells Z16.toArray 3)) BX.out.size))
    have o1 := hidP (show w2.heap.size <= wS.heap.size from BX.out.size)
    refine hK.out _ _ (fun _ => trivial) (fun _ => ?_)
    clear hK KK BX
    have BX := BX2
    clear BX2
    generalize wS.alloc (.cells Z16.toArray 3) = w32 at *
    generalize wS.heap.size = g2 at *
    try simp only [Act.put]
    try simp only [List.setIfInBounds_toArray]
    try simp only [List.set_cons_succ]
    try simp only [List.set_cons_zero]
    refine readyL (rs := [0, 2]) (by kernel_rfl) (by simp) ?_
    refine ReadyL.cons rfl (fun KK hK => ?_) (ReadyL.cons rfl (fun KK hK => ?_) ReadyL.nil)
    ·refine wantR (by rfl) ?_
     have MK := make16
     go_simp
     clear MK
     have RA1 := hidP (Row.new w32 3 Z16)
     have BX2 := hidP (BX.out.trans (below_le (alloc_one w32 (.cells Z16.toArray 3)) BX.out.size))
     have RB2 := hidP (RA2.out.alloc (.cells Z16.toArray 3))
     have o2 := hidP (show g2 < w32.heap.size from RA2.out.lt)
     refine hK.out _ _ (fun _ => trivial) (fun _ => ?_)
     clear hK KK BX
     have BX := BX2
     clear BX2
     clear RA2
     have RA2 := RB2
     clear RB2
     generalize w32.alloc (.cells Z16.toArray 3) = w321 at *
     generalize w32.heap.size = g1 at *
     try simp only [Act.put]
     try simp only [List.setIfInBounds_toArray]
     try simp only [List.set_cons_succ]
     try simp only [List.set_cons_zero]
     refine takeL 3 (v := ?_) rfl (some 7) rfl (by decide) (by kernel_rfl) (by kernel_rfl) (by kernel_rfl) (by kernel_rfl) (fun _ _ _ h => by obtain ⟨_, _, _, h, _⟩ := h; cases h) (Or.inl ⟨by rfl, ?_⟩) hSS ?_
     rotate_left
     ·(intro y hy; go_simp; with_reducible rfl)
     try simp only [Act.put]
     try simp only [List.setIfInBounds_toArray]
     try simp only [List.set_cons_succ]
     try simp only [List.set_cons_zero]
     refine takeL 4 (v := ?_) rfl (some 8) rfl (by decide) (by kernel_rfl) (by kernel_rfl) (by kernel_rfl) (by kernel_rfl) (fun _ _ _ h => by obtain ⟨_, _, _, h, _⟩ := h; cases h) (Or.inl ⟨by rfl, ?_⟩) hSS ?_
     rotate_left
     ·(intro y hy; go_simp; with_reducible rfl)
     try simp only [Act.put]
     try simp only [List.setIfInBounds_toArray]
     try simp only [List.set_cons_succ]
     try simp only [List.set_cons_zero]
     refine readyL (rs := [2]) (by kernel_rfl) (by simp) ?_
     refine ReadyL.cons rfl (fun KK hK => ?_) ReadyL.nil
     ·refine wantR (by rfl) ?_
      have MK := make16
      go_simp
      clear MK
      have RA3 := hidP (Row.new w321 3 Z16)
      have BX2 := hidP (BX.out.trans (below_le (alloc_one w321 (.cells Z16.toArray 3)) BX.out.size))
      have RB2 := hidP (RA2.out.alloc (.cells Z16.toArray 3))
      have RB1 := hidP (RA1.out.alloc (.cells Z16.toArray 3))
      have o3 := hidP (show g1 < w321.heap.size from RA1.out.lt)
      refine hK.out _ _ (fun _ => trivial) (fun _ => ?_)
      clear hK KK BX
      have BX := BX2
      clear BX2
      clear RA2
      have RA2 := RB2
      clear RB2
      clear RA1
      have RA1 := RB1
      clear RB1
      generalize w321.alloc (.cells Z16.toArray 3) = w3213 at *
      generalize w321.heap.size = g3 at *
      try simp only [Act.put]
      try simp only [List.setIfInBounds_toArray]
      try simp only [List.set_cons_succ]
      try simp only [List.set_cons_zero]
      refine takeL 5 (v := ?_) rfl (some 9) rfl (by decide) (by kernel_rfl) (by kernel_rfl) (by kernel_rfl) (by kernel_rfl) (fun _ _ _ h => by obtain ⟨_, _, _, h, _⟩ := h; cases h) (Or.inl ⟨by rfl, ?_⟩) hSS ?_
      rotate_left
      ·(intro y hy; go_simp; with_reducible rfl)
      try simp only [Act.put]
      try simp only [List.setIfInBounds_toArray]
      try simp only [List.set_cons_succ]
      try simp only [List.set_cons_zero]
      refine doneL (by kernel_rfl) ?_ _
      refine ⟨g1, g2, g3, rfl, ?_, by have := o1.out; have := o2.out; have := o3.out; omega, by have := o1.out; have := o2.out; have := o3.out; omega, by have := o1.out; have := o2.out; have := o3.out; omega, by have := o1.out; have := o2.out; have := o3.out; omega, by have := o1.out; have := o2.out; have := o3.out; omega, by have := o1.out; have := o2.out; have := o3.out; omega, RA1.out, RA2.out, RA3.out, BX.out⟩
      with_reducible rfl
    ·refine wantR (by rfl) ?_
     have MK := make16
     go_simp
     clear MK
     have RA3 := hidP (Row.new w32 3 Z16)
     have BX2 := hidP (BX.out.trans (below_le (alloc_one w32 (.cells Z16.toArray 3)) BX.out.size))
     have RB2 := hidP (RA2.out.alloc (.cells Z16.toArray 3))
     have o2 := hidP (show g2 < w32.heap.size from RA2.out.lt)
     refine hK.out _ _ (fun _ => trivial) (fun _ => ?_)
     clear hK KK BX
     have BX := BX2
     clear BX2
     clear RA2
     have RA2 := RB2
     clear RB2
     generalize w32.alloc (.cells Z16.toArray 3) = w323 at *
     generalize w32.heap.size = g3 at *
     try simp only [Act.put]
     try simp only [List.setIfInBounds_toArray]
     try simp only [List.set_cons_succ]
     try simp only [List.set_cons_zero]
     refine readyL (rs := [0]) (by kernel_rfl) (by simp) ?_
     refine ReadyL.cons rfl (fun KK hK => ?_) ReadyL.nil
     ·refine wantR (by rfl) ?_
      have MK := make16
      go_simp
      clear MK
      have RA1 := hidP (Row.new w323 3 Z16)
      have BX2 := hidP (BX.out.trans (below_le (alloc_one w323 (.cells Z16.toArray 3)) BX.out.size))
      have RB2 := hidP (RA2.out.alloc (.cells Z16.toArray 3))
      have RB3 := hidP (RA3.out.alloc (.cells Z16.toArray 3))
      have o3 := hidP (show g3 < w323.heap.size from RA3.out.lt)
      refine hK.out _ _ (fun _ => trivial) (fun _ => ?_)
      clear hK KK BX
      have BX := BX2
      clear BX2
      clear RA2
      have RA2 := RB2
      clear RB2
      clear RA3
      have RA3 := RB3
      clear RB3
      generalize w323.alloc (.cells Z16.toArray 3) = w3231 at *
      generalize w323.heap.size = g1 at *
      try simp only [Act.put]
      try simp only [List.setIfInBounds_toArray]
      try simp only [List.set_cons_succ]
      try simp only [List.set_cons_zero]
      refine takeL 3 (v := ?_) rfl (some 7) rfl (by decide) (by kernel_rfl) (by kernel_rfl) (by kernel_rfl) (by kernel_rfl) (fun _ _ _ h => by obtain ⟨_, _, _, h, _⟩ := h; cases h) (Or.inl ⟨by rfl, ?_⟩) hSS ?_
      rotate_left
      ·(intro y hy; go_simp; with_reducible rfl)
      try simp only [Act.put]
      try simp only [List.setIfInBounds_toArray]
      try simp only [List.set_cons_succ]
      try simp only [List.set_cons_zero]
      refine takeL 4 (v := ?_) rfl (some 8) rfl (by decide) (by kernel_rfl) (by kernel_rfl) (by kernel_rfl) (by kernel_rfl) (fun _ _ _ h => by obtain ⟨_, _, _, h, _⟩ := h; cases h) (Or.inl ⟨by rfl, ?_⟩) hSS ?_
      rotate_left
      ·(intro y hy; go_simp; with_reducible rfl)
      try simp only [Act.put]
      try simp only [List.setIfInBounds_toArray]
      try simp only [List.set_cons_succ]
      try simp only [List.set_cons_zero]
      refine takeL 5 (v := ?_) rfl (some 9) rfl (by decide) (by kernel_rfl) (by kernel_rfl) (by kernel_rfl) (by kernel_rfl) (fun _ _ _ h => by obtain ⟨_, _, _, h, _⟩ := h; cases h) (Or.inl ⟨by rfl, ?_⟩) hSS ?_
      rotate_left
      ·(intro y hy; go_simp; with_reducible rfl)
      try simp only [Act.put]
      try simp only [List.setIfInBounds_toArray]
      try simp only [List.set_cons_succ]
      try simp only [List.set_cons_zero]
      refine doneL (by kernel_rfl) ?_ _
      refine ⟨g1, g2, g3, rfl, ?_, by have := o1.out; have := o2.out; have := o3.out; omega, by have := o1.out; have := o2.out; have := o3.out; omega, by have := o1.out; have := o2.out; have := o3.out; omega, by have := o1.out; have := o2.out; have := o3.out; omega, by have := o1.out; have := o2.out; have := o3.out; omega, by have := o1.out; have := o2.out; have := o3.out; omega, RA1.out, RA2.out, RA3.out, BX.out⟩
      with_reducible rfl
   ·refine wantR (by rfl) ?_
    have MK := make16
    go_simp
    clear MK
    have RA3 := hidP (Row.new wS 3 Z16)
    have BX2 := hidP (BX.out.trans (below_le (alloc_one wS (.cells Z16.toArray 3)) BX.out.size))
    have o1 := hidP (show w2.heap.size <= wS.heap.size from BX.out.size)
    refine hK.out _ _ (fun _ => trivial) (fun _ => ?_)
    clear hK KK BX
    have BX := BX2
    clear BX2
    generalize wS.alloc (.cells Z16.toArray 3) = w33 at *
    generalize wS.heap.size = g3 at *
    try simp only [Act.put]
    try simp only [List.setIfInBounds_toArray]
    try simp only [List.set_cons_succ]
    try simp only [List.set_cons_zero]
    refine readyL (rs := [0, 1]) (by kernel_rfl) (by simp) ?_
    refine ReadyL.cons rfl (fun KK hK => ?_) (ReadyL.cons rfl (fun KK hK => ?_) ReadyL.nil)
    ·refine wantR (by rfl) ?_
     have MK := make16
     go_simp
     clear MK
     have RA1 := hidP (Row.new w33 3 Z16)
     have BX2 := hidP (BX.out.trans (below_le (alloc_one w33 (.cells Z16.toArray 3)) BX.out.size))
     have RB3 := hidP (RA3.out.alloc (.cells Z16.toArray 3))
     have o2 := hidP (show g3 < w33.heap.size from RA3.out.lt)
     refine hK.out _ _ (fun _ => trivial) (fun _ => ?_)
     clear hK KK BX
     have BX := BX2
     clear BX2
     clear RA3
     have RA3 := RB3
     clear RB3
     generalize w33.alloc (.cells Z16.toArray 3) = w331 at *
     generalize w33.heap.size = g1 at *
     try simp only [Act.put]
     try simp only [List.setIfInBounds_toArray]
     try simp only [List.set_cons_succ]
     try simp only [List.set_cons_zero]
     refine takeL 3 (v := ?_) rfl (some 7) rfl (by decide) (by kernel_rfl) (by kernel_rfl) (by kernel_rfl) (by kernel_rfl) (fun _ _ _ h => by obtain ⟨_, _, _, h, _⟩ := h; cases h) (Or.inl ⟨by rfl, ?_⟩) hSS ?_
     rotate_left
     ·(intro y hy; go_simp; with_reducible rfl)
     try simp only [Act.put]
     try simp only [List.setIfInBounds_toArray]
     try simp only [List.set_cons_succ]
     try simp only [List.set_cons_zero]
     refine readyL (rs := [1]) (by kernel_rfl) (by simp) ?_
     refine ReadyL.cons rfl (fun KK hK => ?_) ReadyL.nil
     ·refine wantR (by rfl) ?_
      have MK := make16
      go_simp
      clear MK
      have RA2 := hidP (Row.new w331 3 Z16)
      have BX2 := hidP (BX.out.trans (below_le (alloc_one w331 (.cells Z16.toArray 3)) BX.out.size))
      have RB3 := hidP (RA3.out.alloc (.cells Z16.toArray 3))
      have RB1 := hidP (RA1.out.alloc (.cells Z16.toArray 3))
      have o3 := hidP (show g1 < w331.heap.size from RA1.out.lt)
      refine hK.out _ _ (fun _ => trivial) (fun _ => ?_)
      clear hK KK BX
      have BX := BX2
      clear BX2
      clear RA3
      have RA3 := RB3
      clear RB3
      clear RA1
      have RA1 := RB1
      clear RB1
      generalize w331.alloc (.cells Z16.toArray 3) = w3312 at *
      generalize w331.heap.size = g2 at *
      try simp only [Act.put]
      try simp only [List.setIfInBounds_toArray]
      try simp only [List.set_cons_succ]
      try simp only [List.set_cons_zero]
      refine takeL 4 (v := ?_) rfl (some 8) rfl (by decide) (by kernel_rfl) (by kernel_rfl) (by kernel_rfl) (by kernel_rfl) (fun _ _ _ h => by obtain ⟨_, _, _, h, _⟩ := h; cases h) (Or.inl ⟨by rfl, ?_⟩) hSS ?_
      rotate_left
      ·(intro y hy; go_simp; with_reducible rfl)
      try simp only [Act.put]
      try simp only [List.setIfInBounds_toArray]
      try simp only [List.set_cons_succ]
      try simp only [List.set_cons_zero]
      refine takeL 5 (v := ?_) rfl (some 9) rfl (by decide) (by kernel_rfl) (by kernel_rfl) (by kernel_rfl) (by kernel_rfl) (fun _ _ _ h => by obtain ⟨_, _, _, h, _⟩ := h; cases h) (Or.inl ⟨by rfl, ?_⟩) hSS ?_
      rotate_left
      ·(intro y hy; go_simp; with_reducible rfl)
      try simp only [Act.put]
      try simp only [List.setIfInBounds_toArray]
      try simp only [List.set_cons_succ]
      try simp only [List.set_cons_zero]
      refine doneL (by kernel_rfl) ?_ _
      refine ⟨g1, g2, g3, rfl, ?_, by have := o1.out; have := o2.out; have := o3.out; omega, by have := o1.out; have := o2.out; have := o3.out; omega, by have := o1.out; have := o2.out; have := o3.out; omega, by have := o1.out; have := o2.out; have := o3.out; omega, by have := o1.out; have := o2.out; have := o3.out; omega, by have := o1.out; have := o2.out; have := o3.out; omega, RA1.out, RA2.out, RA3.out, BX.out⟩
      with_reducible rfl
    ·refine wantR (by rfl) ?_
     have MK := make16
     go_simp
     clear MK
     have RA2 := hidP (Row.new w33 3 Z16)
     have BX2 := hidP (BX.out.trans (below_le (alloc_one w33 (.cells Z16.toArray 3)) BX.out.size))
     have RB3 := hidP (RA3.out.alloc (.cells Z16.toArray 3))
     have o2 := hidP (show g3 < w33.heap.size from RA3.out.lt)
     refine hK.out _ _ (fun _ => trivial) (fun _ => ?_)
     clear hK KK BX
     have BX := BX2
     clear BX2
     clear RA3
     have RA3 := RB3
     clear RB3
     generalize w33.alloc (.cells Z16.toArray 3) = w332 at *
     generalize w33.heap.size = g2 at *
     try simp only [Act.put]
     try simp only [List.setIfInBounds_toArray]
     try simp only [List.set_cons_succ]
     try simp only [List.set_cons_zero]
     refine readyL (rs := [0]) (by kernel_rfl) (by simp) ?_
     refine ReadyL.cons rfl (fun KK hK => ?_) ReadyL.nil
     ·refine wantR (by rfl) ?_
      have MK := make16
      go_simp
      clear MK
      have RA1 := hidP (Row.new w332 3 Z16)
      have BX2 := hidP (BX.out.trans (below_le (alloc_one w332 (.cells Z16.toArray 3)) BX.out.size))
      have RB3 := hidP (RA3.out.alloc (.cells Z16.toArray 3))
      have RB2 := hidP (RA2.out.alloc (.cells Z16.toArray 3))
      have o3 := hidP (show g2 < w332.heap.size from RA2.out.lt)
      refine hK.out _ _ (fun _ => trivial) (fun _ => ?_)
      clear hK KK BX
      have BX := BX2
      clear BX2
      clear RA3
      have RA3 := RB3
      clear RB3
      clear RA2
      have RA2 := RB2
      clear RB2
      generalize w332.alloc (.cells Z16.toArray 3) = w3321 at *
      generalize w332.heap.size = g1 at *
      try simp only [Act.put]
      try simp only [List.setIfInBounds_toArray]
      try simp only [List.set_cons_succ]
      try simp only [List.set_cons_zero]
      refine takeL 3 (v := ?_) rfl (some 7) rfl (by decide) (by kernel_rfl) (by kernel_rfl) (by kernel_rfl) (by kernel_rfl) (fun _ _ _ h => by obtain ⟨_, _, _, h, _⟩ := h; cases h) (Or.inl ⟨by rfl, ?_⟩) hSS ?_
      rotate_left
      ·(intro y hy; go_simp; with_reducible rfl)
      try simp only [Act.put]
      try simp only [List.setIfInBounds_toArray]
      try simp only [List.set_cons_succ]
      try simp only [List.set_cons_zero]
      refine takeL 4 (v := ?_) rfl (some 8) rfl (by decide) (by kernel_rfl) (by kernel_rfl) (by kernel_rfl) (by kernel_rfl) (fun _ _ _ h => by obtain ⟨_, _, _, h, _⟩ := h; cases h) (Or.inl ⟨by rfl, ?_⟩) hSS ?_
      rotate_left
      ·(intro y hy; go_simp; with_reducible rfl)
      try simp only [Act.put]
      try simp only [List.setIfInBounds_toArray]
      try simp only [List.set_cons_succ]
      try simp only [List.set_cons_zero]
      refine takeL 5 (v := ?_) rfl (some 9) rfl (by decide) (by kernel_rfl) (by kernel_rfl) (by kernel_rfl) (by kernel_rfl) (fun _ _ _ h => by obtain ⟨_, _, _, h, _⟩ := h; cases h) (Or.inl ⟨by rfl, ?_⟩) hSS ?_
      rotate_left
      ·(intro y hy; go_simp; with_reducible rfl)
      try simp only [Act.put]
      try simp only [List.setIfInBounds_toArray]
      try simp only [List.set_cons_succ]
      try simp only [List.set_cons_zero]
      refine doneL (by kernel_rfl) ?_ _
      refine ⟨g1, g2, g3, rfl, ?_, by have := o1.out; have := o2.out; have := o3.out; omega, by have := o1.out; have := o2.out; have := o3.out; omega, by have := o1.out; have := o2.out; have := o3.out; omega, by have := o1.out; have := o2.out; have := o3.out; omega, by have := o1.out; have := o2.out; have := o3.out; omega, by have := o1.out; have := o2.out; have := o3.out; omega, RA1.out, RA2.out, RA3.out, BX.out⟩
      with_reducible rfl
  ·rintro g1 g2 g3 w3 ⟨hg1, hg2, hg3, h12, h13, h23, ra, rb, rc, hb3⟩
   have B3 := hidP (B2.out.trans (below_le hb3 B2.out.size))
   have R3 := hidP (R2.out.below hb3 R2.out.lt)
   have PA := hidP (⟨rfl, fun x hx => by rw [List.eq_of_mem_replicate hx]; exact ⟨by decide, by decide⟩, ra⟩ : Nibs w3 g1 (List.replicate 16 0))
   have PB := hidP (⟨rfl, fun x hx => by rw [List.eq_of_mem_replicate hx]; exact ⟨by decide, by decide⟩, rb⟩ : Nibs w3 g2 (List.replicate 16 0))
   have RC := hidP rc
   have HS := hidP (show w.heap.size < w2.heap.size from hws.out)
   have G1 := hidP (show w.heap.size < g1 from Nat.lt_of_lt_of_le hws.out hg1)
   have G2 := hidP (show w.heap.size < g2 from Nat.lt_of_lt_of_le hws.out hg2)
   have G3 := hidP (show w.heap.size < g3 from Nat.lt_of_lt_of_le hws.out hg3)
   have N12 := hidP h12
   have N13 := hidP h13
   have N23 := hidP h23
   clear hg1 hg2 hg3 h12 h13 h23 ra rb rc hb3 B2 R2 hws
   go_wp2_with fail
   go_loopg [10] 16 (fun q v10 wr => ∃ (i : Nat) (la lb : List Int), i + q = 16 /\ v10 = .int .i64 (i : Int) /\ Nibs wr g1 la /\ Nibs wr g2 lb /\ Row wr g3 3 Z16 /\ Row wr w.heap.size 25 [c0, cb, cc, cd] /\ Below w.heap.size w wr)
   case atStart => exact ⟨0, _, _, rfl, rfl, PA.out, PB.out, RC.out, R3.out, B3.out⟩
   case round =>
    obtain ⟨i, la, lb, hi, rfl, pa, pb, rc, rt, hB⟩ := hrel
    clear PA PB RC R3 B3
    have PA := hidP pa
    have PB := hidP pb
    have RC := hidP rc
    have RT := hidP rt
    have Bwr := hidP hB
    clear pa pb rc rt hB
    by_cases h16 : i < 16
    ·have l16 : (i : Int) < 16 := by omega
     by_cases hm1 : i < nm
     ·obtain ⟨bm, om, rfl, _, cm⟩ := AM.out wr Bwr.out i hm1
      have lm : (i : Int) < (nm : Int) := by omega
      generalize m.getD i 0 = xm at cm
      have Em := and15 xm
      have him : (iv la)[i]? = some (.int .i64 (la.getD i 0)) := iv_at (by rw [PA.out.len]; exact h16)
      go_wp2_with (first | (refine stC (v := .int .i64 (xm % 16)) rfl 3 (.tmp 36) (.tmp 35) rfl rfl rfl PA.out.row (sv3 PA.out.row him _) ?_; intro wA RwA SwA; apply shut))
      show wpList _ _ _ _ _ _
      have PA2 := hidP (⟨by rw [List.length_set]; exact PA.out.len, nib_set PA.out.nib, by rw [← iv_set]; exact RwA⟩ : Nibs wA g1 (la.set i (xm % 16)))
      have PB2 := hidP (⟨PB.out.len, PB.out.nib, SwA.row PB.out.row (by have := N12.out; omega)⟩ : Nibs wA g2 lb)
      have RC2 := hidP (SwA.row RC.out (by have := N13.out; have := N23.out; omega))
      have RT2 := hidP (SwA.row RT.out (by have := G1.out; have := G2.out; omega))
      have BwA := hidP (Bwr.out.trans (SwA.below (C := w.heap.size) Bwr.out.size (fun q hq => by have : q = g1 := hq; have := G1.out; have := G2.out; omega)))
      clear PA PB RC RT RwA SwA him cm Bwr Em
      generalize la.set i (xm % 16) = la2 at *
      have PA := PA2
      have PB := PB2
      have RC := RC2
      have RT := RT2
      clear PA2 PB2 RC2 RT2
      by_cases hn1 : i < nn
      ·obtain ⟨bn, on, rfl, _, cn⟩ := AN.out wA BwA.out i hn1
       have ln : (i : Int) < (nn : Int) := by omega
       generalize l.getD i 0 = xn at cn
       have En := and15 xn
       have hin : (iv lb)[i]? = some (.int .i64 (lb.getD i 0)) := iv_at (by rw [PB.out.len]; exact h16)
       go_wp2_with (first | (refine stC (v := .int .i64 (xn % 16)) rfl 3 (.tmp 48) (.tmp 47) rfl rfl rfl PB.out.row (sv3 PB.out.row hin _) ?_; intro wB RwB SwB; apply shut))
       show wpList _ _ _ _ _ _
       have PB2 := hidP (⟨by rw [List.length_set]; exact PB.out.len, nib_set PB.out.nib, by rw [← iv_set]; exact RwB⟩ : Nibs wB g2 (lb.set i (xn % 16)))
       have PA2 := hidP (⟨PA.out.len, PA.out.nib, SwB.row PA.out.row (by have := N12.out; omega)⟩ : Nibs wB g1 la2)
       have RC2 := hidP (SwB.row RC.out (by have := N13.out; have := N23.out; omega))
       have RT2 := hidP (SwB.row RT.out (by have := G1.out; have := G2.out; omega))
       have BwB := hidP (BwA.out.trans (SwB.below (C := w.heap.size) BwA.out.size (fun q hq => by have : q = g2 := hq; have := G1.out; have := G2.out; omega)))
       clear PA PB RC RT RwB SwB hin cn BwA En
       generalize lb.set i (xn % 16) = lb2 at *
       have PA := PA2
       have PB := PB2
       have RC := RC2
       have RT := RT2
       clear PA2 PB2 RC2 RT2
       go_wp2_with fail
       go_roundg (gk - 1)
       case measure => omega
       case rel => exact ⟨i + 1, la2, lb2, by omega, by go_num, PA.out, PB.out, RC.out, RT.out, BwB.out⟩
      ·have ln : ¬ (i : Int) < (nn : Int) := by omega
       go_wp2_with fail
       go_roundg (gk - 1)
       case measure => omega
       case rel => exact ⟨i + 1, la2, lb, by omega, by go_num, PA.out, PB.out, RC.out, RT.out, BwA.out⟩
     ·have lm : ¬ (i : Int) < (nm : Int) := by omega
      by_cases hn1 : i < nn
      ·obtain ⟨bn, on, rfl, _, cn⟩ := AN.out wr Bwr.out i hn1
       have ln : (i : Int) < (nn : Int) := by omega
       generalize l.getD i 0 = xn at cn
       have En := and15 xn
       have hin : (iv lb)[i]? = some (.int .i64 (lb.getD i 0)) := iv_at (by rw [PB.out.len]; exact h16)
       go_wp2_with (first | (refine stC (v := .int .i64 (xn % 16)) rfl 3 (.tmp 48) (.tmp 47) rfl rfl rfl PB.out.row (sv3 PB.out.row hin _) ?_; intro wB RwB SwB; apply shut))
       show wpList _ _ _ _ _ _
       have PB2 := hidP (⟨by rw [List.length_set]; exact PB.out.len, nib_set PB.out.nib, by rw [← iv_set]; exact RwB⟩ : Nibs wB g2 (lb.set i (xn % 16)))
       have PA2 := hidP (⟨PA.out.len, PA.out.nib, SwB.row PA.out.row (by have := N12.out; omega)⟩ : Nibs wB g1 la)
       have RC2 := hidP (SwB.row RC.out (by have := N13.out; have := N23.out; omega))
       have RT2 := hidP (SwB.row RT.out (by have := G1.out; have := G2.out; omega))
       have BwB := hidP (Bwr.out.trans (SwB.below (C := w.heap.size) Bwr.out.size (fun q hq => by have : q = g2 := hq; have := G1.out; have := G2.out; omega)))
       clear PA PB RC RT RwB SwB hin cn Bwr En
       generalize lb.set i (xn % 16) = lb2 at *
       have PA := PA2
       have PB := PB2
       have RC := RC2
       have RT := RT2
       clear PA2 PB2 RC2 RT2
       go_wp2_with fail
       go_roundg (gk - 1)
       case measure => omega
       case rel => exact ⟨i + 1, la, lb2, by omega, by go_num, PA.out, PB.out, RC.out, RT.out, BwB.out⟩
      ·have ln : ¬ (i : Int) < (nn : Int) := by omega
       go_wp2_with fail
       go_roundg (gk - 1)
       case measure => omega
       case rel => exact ⟨i + 1, la, lb, by omega, by go_num, PA.out, PB.out, RC.out, RT.out, Bwr.out⟩
    ·have hi16 : i = 16 := by omega
     subst hi16
     clear h16 hi AM AN
     go_wp2_with fail
     go_loopg [11] 16 (fun q v11 wr2 => ∃ (j : Nat) (lc : List Int), j + q = 16 /\ v11 = .int .i64 (j : Int) /\ lc.length = 16 /\ (∀ k, k < j -> lc.getD k 0 = (comp la lb).getD k 0) /\ Row wr2 g1 3 (iv la) /\ Row wr2 g2 3 (iv lb) /\ Row wr2 g3 3 (iv lc) /\ Row wr2 w.heap.size 25 [c0, cb, cc, cd] /\ Below w.heap.size w wr2)
     case atStart => exact ⟨0, List.replicate 16 0, rfl, rfl, rfl, (fun k h => absurd h (Nat.not_lt_zero k)), PA.out.row, PB.out.row, RC.out, RT.out, Bwr.out⟩
     case round =>
      obtain ⟨j, lc, hj, rfl, hlc, hcc, ra, rb, rc, rt, hB⟩ := hrel
      have LA := hidP PA.out.len
      have LB := hidP PB.out.len
      have NA := hidP PA.out.nib
      clear PA PB RC RT Bwr
      have RA := hidP ra
      have RB := hidP rb
      have RC := hidP rc
      have RT := hidP rt
      have BQ := hidP hB
      have HLC := hidP hlc
      have HCC := hidP hcc
      clear ra rb rc rt hB hlc hcc
      by_cases h16 : j < 16
      ·have l16 : (j : Int) < 16 := by omega
       have hja : j < la.length := by rw [LA.out]; exact h16
       have ca := (RA.out.cell j).trans (iv_at hja)
       obtain ⟨xn, hx1, hx2⟩ : ∃ xn : Nat, la.getD j 0 = (xn : Int) /\ xn < 16 := by
        obtain ⟨h1, h2⟩ := NA.out _ (getD_mem hja)
        exact ⟨(la.getD j 0).toNat, by omega, by omega⟩
       have cb' := (RB.out.cell xn).trans (iv_at (by rw [LB.out]; exact hx2))
       have HCM := hidP (show (comp la lb).getD j 0 = lb.getD xn 0 by rw [comp_get hja, hx1, Int.toNat_natCast])
       rw [hx1] at ca
       generalize lb.getD xn 0 = yv at *
       have lx : (xn : Int) < 16 := by omega
       have hic : (iv lc)[j]? = some (.int .i64 (lc.getD j 0)) := iv_at (by rw [HLC.out]; exact h16)
       clear hx1 hja
       go_wp2_with (first | (refine stC (v := .int .i64 yv) rfl 3 (.tmp 62) (.tmp 61) rfl rfl rfl RC.out (sv3 RC.out hic _) ?_; intro wC RQ SQ; apply shut))
       show wpList _ _ _ _ _ _
       have RC2 := hidP (show Row wC g3 3 (iv (lc.set j yv)) by rw [← iv_set]; exact RQ)
       have RA2 := hidP (SQ.row RA.out (by have := N13.out; omega))
       have RB2 := hidP (SQ.row RB.out (by have := N23.out; omega))
       have RT2 := hidP (SQ.row RT.out (by have := G3.out; omega))
       have BQ2 := hidP (BQ.out.trans (SQ.below (C := w.heap.size) BQ.out.size (fun q hq => by have : q = g3 := hq; have := G3.out; omega)))
       have HCC2 := hidP (show ∀ k, k < j + 1 -> (lc.set j yv).getD k 0 = (comp la lb).getD k 0 from fun k hk => by
        by_cases hkj : k = j
        ·subst hkj
         rw [HCM.out, List.getD_eq_getElem?_getD, List.getElem?_set_self (by rw [HLC.out]; exact h16)]
         rfl
        ·rw [← HCC.out k (by omega), List.getD_eq_getElem?_getD, List.getElem?_set_ne (fun e => hkj e.symm), List.getD_eq_getElem?_getD])
       have HL2 := hidP (show (lc.set j yv).length = 16 by rw [List.length_set]; exact HLC.out)
       clear RQ SQ RC RA RB RT BQ HCC ca cb' hic
       go_wp2_with fail
       go_roundg (gk - 1)
       case measure => omega
       case rel => exact ⟨j + 1, _, by omega, by go_num, HL2.out, HCC2.out, RA2.out, RB2.out, RC2.out, RT2.out, BQ2.out⟩
      ·have hj16 : j = 16 := by omega
       subst hj16
       have hce : lc = comp la lb := by
        apply List.ext_getElem?
        intro k
        by_cases hk : k < 16
        ·have h1 := HCC.out k hk
         have e1 : k < lc.length := by rw [HLC.out]; exact hk
         have e2 : k < (comp la lb).length := by unfold comp; rw [List.length_map, LA.out]; exact hk
         rw [List.getD_eq_getElem?_getD, List.getElem?_eq_getElem e1, List.getD_eq_getElem?_getD, List.getElem?_eq_getElem e2] at h1
         rw [List.getElem?_eq_getElem e1, List.getElem?_eq_getElem e2]
         exact congrArg some h1
        ·rw [List.getElem?_eq_none (by rw [HLC.out]; omega), List.getElem?_eq_none (by unfold comp; rw [List.length_map, LA.out]; omega)]
       subst hce
       clear h16 hj HCC
       have RG := hidP (regions14 60 ((HT.out _ BQ.out).fit HFT.out) (Nat.le_trans HC.out BQ.out.size) (by have := regL_le HFT.out; omega))
       have y0 := RT.out.cell 0
       have y1 := RT.out.cell 1
       have y2 := RT.out.cell 2
       have y3 := RT.out.cell 3
       simp only [List.getElem?_cons_zero, List.getElem?_cons_succ] at y0 y1 y2 y3
       go_wp2_with fail
       refine RG.out.mono ?_
       rintro _ w4 ⟨v4, rfl, hb4, ho4⟩
       have B4 := hidP (BQ.out.trans (below_le hb4 BQ.out.size))
       have RT4 := hidP (RT.out.below hb4 RT.out.lt)
       have RA4 := hidP (RA.out.below hb4 RA.out.lt)
       have RB4 := hidP (RB.out.below hb4 RB.out.lt)
       have RC4 := hidP (RC.out.below hb4 RC.out.lt)
       have HRL := hidP (regL_le HFT.out)
       have N4 := hidP (own_nms (K := K.up w4.heap.size) (l := regL 60 t) ho4 (Nat.le_refl _) (by have := HRL.out; omega))
       obtain ⟨a4, p4, rfl⟩ := own_slice ho4
       clear RG RT RA RB RC BQ hb4 ho4 y0 y1 y2 y3
       have HSL := hidP (fun m => same_len (same_sub (m := m) HFT.out))
       generalize hnr : (regL 60 t).length = nr at *
       have HNR := hidP hnr
       clear hnr
       go_wp2_with fail
       go_loopg [13] nr (fun q v13 wr3 => ∃ (k : Nat), k + q = nr /\ v13 = .int .i64 (k : Int) /\ (∀ z, z < k -> Nib ((regL 60 t).getD z 0)) /\ Below w4.heap.size w4 wr3)
       case atStart => exact ⟨0, by omega, rfl, (fun z h => absurd h (Nat.not_lt_zero z)), Below.refl _ _⟩
       case round =>
        obtain ⟨k, hk, rfl, hnb, hb⟩ := hrel
        have B5 := hidP (B4.out.trans (below_le hb B4.out.size))
        have BB := hidP hb
        have HNB := hidP hnb
        clear hnb
        by_cases hlt : k < nr
        ·obtain ⟨bn, on, rfl, hbn, hcn⟩ := nms_cell N4.out k (by rw [HNR.out]; exact hlt)
         have cx := (hb.cell (p := ⟨bn, on + k, none⟩) (World.block_lt_of_cell? w4 _ hcn)).trans hcn
         have T5 := hidP (told12 (HG.out.below B5.out))
         have l1 : (k : Int) < (nr : Int) := by omega
         clear hbn hcn hb
         generalize hxe : (regL 60 t).getD k 0 = x at *
         have HXE := hidP hxe
         clear hxe
         by_cases hx0 : x < 0
         ·go_wp2_with fail
          refine T5.out.mono ?_
          rintro _ wT ⟨rfl, hbT⟩
          have BT := hidP (B5.out.trans (below_le hbT B5.out.size))
          clear T5 hbT
          go_wp2_with fail
          go_ret
          exact ⟨rfl, BT.out⟩
         ·by_cases hx1 : 15 < x
          ·go_wp2_with fail
           refine T5.out.mono ?_
           rintro _ wT ⟨rfl, hbT⟩
           have BT := hidP (B5.out.trans (below_le hbT B5.out.size))
           clear T5 hbT
           go_wp2_with fail
           go_ret
           exact ⟨rfl, BT.out⟩
          ·have hnr5 : nr <= 70 * 60 := HRL.out
           have HN2 := hidP (show ∀ z, z < k + 1 -> Nib ((regL 60 t).getD z 0) from fun z hz => by
            by_cases e : z = k
            ·subst e; rw [HXE.out]; exact ⟨by omega, by omega⟩
            ·exact HNB.out z (by omega))
           clear T5
           go_wp2_with fail
           go_roundg (gk - 1)
           case measure => omega
           case rel => exact ⟨k + 1, by omega, by go_num, HN2.out, BB.out⟩
        ·have hkn : k = nr := by omega
         subst hkn
         have HNM := hidP (show ∀ x ∈ regL 60 t, Nib x from fun x hx => by
          obtain ⟨z, hz, rfl⟩ := List.getElem_of_mem hx
          have := HNB.out z (by rw [← HNR.out]; exact hz)
          rw [List.getD_eq_getElem?_getD, List.getElem?_eq_getElem hz] at this
          exact this)
         have RT5 := hidP (RT4.out.below hb RT4.out.lt)
         have RA5 := hidP (RA4.out.below hb RA4.out.lt)
         have RB5 := hidP (RB4.out.below hb RB4.out.lt)
         have RC5 := hidP (RC4.out.below hb RC4.out.lt)
         clear hlt hk HNB RT4 RA4 RB4 RC4 N4 B4 BB hb
         have PL := hidP (plain11 60 ((HT.out _ B5.out).fit HFT.out) (Nat.le_trans HC.out B5.out.size))
         have y0 := RT5.out.cell 0
         have y1 := RT5.out.cell 1
         have y2 := RT5.out.cell 2
         have y3 := RT5.out.cell 3
         simp only [List.getElem?_cons_zero, List.getElem?_cons_succ] at y0 y1 y2 y3
         go_wp2_with fail
         refine PL.out.mono ?_
         rintro _ w6 ⟨rfl, hb6⟩
         have B6 := hidP (B5.out.trans (below_le hb6 B5.out.size))
         have RT6 := hidP (RT5.out.below hb6 RT5.out.lt)
         have RA6 := hidP (RA5.out.below hb6 RA5.out.lt)
         have RB6 := hidP (RB5.out.below hb6 RB5.out.lt)
         have RC6 := hidP (RC5.out.below hb6 RC5.out.lt)
         clear PL RT5 RA5 RB5 RC5 B5 hb6 y0 y1 y2 y3
         rcases hpp : plainB 60 t with _ | _
         ·have T6 := hidP (told12 (HG.out.below B6.out))
          clear hpp
          go_wp2_with fail
          refine T6.out.mono ?_
          rintro _ wT ⟨rfl, hbT⟩
          have BT := hidP (B6.out.trans (below_le hbT B6.out.size))
          clear T6 hbT
          go_wp2_with fail
          go_ret
          exact ⟨rfl, BT.out⟩
         ·have HSC := hidP (sub_comp LA.out LB.out NA.out hpp HNM.out)
          clear hpp HNM
          have SA := hidP (subst23 (K := K.up w6.heap.size) 60 (RtAt.up (show K.C <= w6.heap.size from Nat.le_trans HC.out B6.out.size) ((HT.out w6 B6.out).fit HFT.out)) HFT.out (nms_row (K := K.up w6.heap.size) RA6.out RA6.out.lt LA.out) (Nat.le_refl _))
          have y0 := RT6.out.cell 0
          have y1 := RT6.out.cell 1
          have y2 := RT6.out.cell 2
          have y3 := RT6.out.cell 3
          simp only [List.getElem?_cons_zero, List.getElem?_cons_succ] at y0 y1 y2 y3
          go_wp2_with fail
          refine SA.out.mono ?_
          rintro _ wA ⟨d', rfl, hbA, hqA⟩
          obtain ⟨e0, e1, e2, e3, rfl⟩ : ∃ f0 f1 f2 f3, d' = [f0, f1, f2, f3] := by
           match d', hqA.len with
           | [f0, f1, f2, f3], _ => exact ⟨_, _, _, _, rfl⟩
          have BA := hidP (B6.out.trans (below_le hbA B6.out.size))
          have RTA := hidP (RT6.out.below hbA RT6.out.lt)
          have RCA := hidP (RC6.out.below hbA RC6.out.lt)
          have RBA := hidP (RB6.out.below hbA RB6.out.lt)
          have SB := subst23 (K := K.up wA.heap.size) 60 (RtQ.to (K := K.up wA.heap.size) rfl (fun k hk => hk.2) hqA) (Fit.sub HFT.out) (nms_row (K := K.up wA.heap.size) RBA.out RBA.out.lt LB.out) (Nat.le_refl _)
          rw [HSC.out] at SB
          have SB := hidP SB
          clear SA hbA hqA RT6 RA6 RB6 RC6 B6 y0 y1 y2 y3
          go_wp2_with fail
          refine SB.out.mono ?_
          rintro _ wB ⟨d', rfl, hbB, hqB⟩
          obtain ⟨d0, d1, d2, d3, rfl⟩ : ∃ f0 f1 f2 f3, d' = [f0, f1, f2, f3] := by
           match d', hqB.len with
           | [f0, f1, f2, f3], _ => exact ⟨_, _, _, _, rfl⟩
          have BB := hidP (BA.out.trans (below_le hbB BA.out.size))
          have RTB := hidP (RTA.out.below hbB RTA.out.lt)
          have RCB := hidP (RCA.out.below hbB RCA.out.lt)
          have QB := hidP hqB
          have RN := hidP (Row.new wB 25 [.int .i64 0, .string ⟨#[]⟩, .slice none 0 0, .slice none 0 0])
          have BN := hidP (alloc_one wB (.cells #[.int .i64 0, .string ⟨#[]⟩, .slice none 0 0, .slice none 0 0] 25))
          clear SB hbB hqB RTA RBA RCA BA
          go_wp2_with (first | (refine stR rfl 25 (.tmp 14) (.tmp 92) rfl (cs := [d0, d1, d2, d3]) rfl rfl RN.out Tryz.sz25 rfl QB.out.ones ?_; intro w7 R14 S14; apply shut))
          show wpList _ _ _ _ _ _
          have BX := hidP (BN.out.trans (S14.below (C := wB.heap.size) BN.out.size (fun q hq => Nat.le_of_eq hq.symm)))
          have B7 := hidP (BB.out.trans (below_le BX.out BB.out.size))
          have RT7 := hidP (RTB.out.below BX.out RTB.out.lt)
          have RC7 := hidP (RCB.out.below BX.out RCB.out.lt)
          have Q7 := hidP (show RtQ 60 (Fr wA w7) K.B w7 [d0, d1, d2, d3] (subN 60 (comp la lb) t) from QB.out.mono (kp_stay (X := fun _ => False) (Stay.of_below BX.out) (fun _ h => h.elim) (Nat.le_refl _)))
          have RG7 := hidP R14
          have HGW := hidP (show w.heap.size < wB.heap.size from RTB.out.lt)
          clear RN BN R14 S14 RTB RCB QB BX BB
          generalize wB.heap.size = g at *
          go_wp2_with fail
          have HCP : ∃ cp : Bool, (t.kind == 1 || t.kind == 2 || t.kind == 4) = cp := ⟨_, rfl⟩
          obtain ⟨cp, hcp⟩ := HCP
          have HCP := hidP hcp
          clear hcp
          have hS0 : Row w7.drew w.heap.size 25 [c0, cb, cc, cd] /\ Row w7.drew g 25 [d0, d1, d2, d3] := ⟨RT7.out.drew, RG7.out.drew⟩
          have BX := hidP (show Below w7.heap.size w7 w7.drew from (Below.refl _ _).drew)
          refine beginL (fun y => Row y w.heap.size 25 [c0, cb, cc, cd] /\ Row y g 25 [d0, d1, d2, d3]) 29 (by kernel_rfl) hS0 (fun hSS => ?_)
          generalize w7.drew = wS at *
          refine readyL (rs := [0]) (by kernel_rfl) (by simp) ?_
          refine ReadyL.cons rfl (fun KK hK => ?_) ReadyL.nil
          refine wantR (by rfl) ?_
          have CC := told12 (HG.out.below (B7.out.trans (below_le BX.out B7.out.size)))
          go_simp
          refine CC.mono ?_
          rintro _ y0wS ⟨rfl, hbz⟩
          have hSS2 := (⟨hSS.1.below hbz hSS.1.lt, hSS.2.below hbz hSS.2.lt⟩ : Row y0wS w.heap.size 25 [c0, cb, cc, cd] /\ Row y0wS g 25 [d0, d1, d2, d3])
          have BX2 := hidP (BX.out.trans (below_le hbz BX.out.size))
          refine hK.out _ _ (fun _ => hSS2) (fun _ => ?_)
          clear hK KK hSS BX hbz CC
          have hSS := hSS2
          have BX := BX2
          clear hSS2 BX2
          try simp only [Act.put]
          try simp only [List.setIfInBounds_toArray]
          try simp only [List.set_cons_succ]
          try simp only [List.set_cons_zero]
          refine takeL 1 (v := ?_) rfl (some 94) rfl (by decide) (by kernel_rfl) (by kernel_rfl) (by kernel_rfl) (by kernel_rfl) (fun _ _ _ h => h) (Or.inl ⟨by rfl, ?_⟩) hSS ?_
          rotate_left
          ·(intro y hy; have j0 := hy.1.cell 0; have j1 := hy.1.cell 1; have j2 := hy.1.cell 2; have j3 := hy.1.cell 3; have q0 := hy.2.cell 0; have q1 := hy.2.cell 1; have q2 := hy.2.cell 2; have q3 := hy.2.cell 3; simp only [List.getElem?_cons_zero, List.getElem?_cons_succ] at j0 j1 j2 j3 q0 q1 q2 q3; go_simp; with_reducible rfl)
          try simp only [Act.put]
          try simp only [List.setIfInBounds_toArray]
          try simp only [List.set_cons_succ]
          try simp only [List.set_cons_zero]
          refine takeL 2 (v := ?_) rfl (some 95) rfl (by decide) (by kernel_rfl) (by kernel_rfl) (by kernel_rfl) (by kernel_rfl) (fun _ _ _ h => h) (Or.inl ⟨by rfl, ?_⟩) hSS ?_
          rotate_left
          ·(intro y hy; have j0 := hy.1.cell 0; have j1 := hy.1.cell 1; have j2 := hy.1.cell 2; have j3 := hy.1.cell 3; have q0 := hy.2.cell 0; have q1 := hy.2.cell 1; have q2 := hy.2.cell 2; have q3 := hy.2.cell 3; simp only [List.getElem?_cons_zero, List.getElem?_cons_succ] at j0 j1 j2 j3 q0 q1 q2 q3; go_simp; with_reducible rfl)
          try simp only [Act.put]
          try simp only [List.setIfInBounds_toArray]
          try simp only [List.set_cons_succ]
          try simp only [List.set_cons_zero]
          refine takeL 3 (v := ?_) rfl (some 96) rfl (by decide) (by kernel_rfl) (by kernel_rfl) (by kernel_rfl) (by kernel_rfl) (fun _ _ _ h => h) (Or.inl ⟨by rfl, ?_⟩) hSS ?_
          rotate_left
          ·(intro y hy; have j0 := hy.1.cell 0; have j1 := hy.1.cell 1; have j2 := hy.1.cell 2; have j3 := hy.1.cell 3; have q0 := hy.2.cell 0; have q1 := hy.2.cell 1; have q2 := hy.2.cell 2; have q3 := hy.2.cell 3; simp only [List.getElem?_cons_zero, List.getElem?_cons_succ] at j0 j1 j2 j3 q0 q1 q2 q3; go_simp; with_reducible rfl)
          try simp only [Act.put]
          try simp only [List.setIfInBounds_toArray]
          try simp only [List.set_cons_succ]
          try simp only [List.set_cons_zero]
          refine takeL 4 (v := ?_) rfl (some 97) rfl (by decide) (by kernel_rfl) (by kernel_rfl) (by kernel_rfl) (by kernel_rfl) (fun _ _ _ h => h) (Or.inl ⟨by rfl, ?_⟩) hSS ?_
          rotate_left
          ·(intro y hy; have j0 := hy.1.cell 0; have j1 := hy.1.cell 1; have j2 := hy.1.cell 2; have j3 := hy.1.cell 3; have q0 := hy.2.cell 0; have q1 := hy.2.cell 1; have q2 := hy.2.cell 2; have q3 := hy.2.cell 3; simp only [List.getElem?_cons_zero, List.getElem?_cons_succ] at j0 j1 j2 j3 q0 q1 q2 q3; go_simp; with_reducible rfl)
          try simp only [Act.put]
          try simp only [List.setIfInBounds_toArray]
          try simp only [List.set_cons_succ]
          try simp only [List.set_cons_zero]
          refine readyL (rs := [5]) (by kernel_rfl) (by simp) ?_
          refine ReadyL.cons rfl (fun KK hK => ?_) ReadyL.nil
          refine wantR (by rfl) ?_
          have CC := subst23 (K := K.up y0wS.heap.size) 60 (RtAt.up (show K.C <= y0wS.heap.size from Nat.le_trans HC.out (B7.out.trans (below_le BX.out B7.out.size)).size) ((HT.out y0wS (B7.out.trans (below_le BX.out B7.out.size))).fit HFT.out)) HFT.out (nms_row (K := K.up y0wS.heap.size) (RC7.out.below BX.out RC7.out.lt) (RC7.out.below BX.out RC7.out.lt).lt HLC.out) (Nat.le_refl _)
          go_simp
          refine CC.mono ?_
          rintro _ y5y0wS ⟨dd, rfl, hbz, hqz⟩
          obtain ⟨f0, f1, f2, f3, rfl⟩ : ∃ e0 e1 e2 e3, dd = [e0, e1, e2, e3] := by
           match dd, hqz.len with
           | [e0, e1, e2, e3], _ => exact ⟨_, _, _, _, rfl⟩
          have QY := hidP hqz
          have hSS2 := (⟨hSS.1.below hbz hSS.1.lt, hSS.2.below hbz hSS.2.lt⟩ : Row y5y0wS w.heap.size 25 [c0, cb, cc, cd] /\ Row y5y0wS g 25 [d0, d1, d2, d3])
          have BX2 := hidP (BX.out.trans (below_le hbz BX.out.size))
          refine hK.out _ _ (fun _ => hSS2) (fun _ => ?_)
          clear hK KK hSS BX hbz CC hqz
          have hSS := hSS2
          have BX := BX2
          clear hSS2 BX2
          try simp only [Act.put]
          try simp only [List.setIfInBounds_toArray]
          try simp only [List.set_cons_succ]
          try simp only [List.set_cons_zero]
          refine readyL (rs := [6]) (by kernel_rfl) (by simp) ?_
          refine ReadyL.cons rfl (fun KK hK => ?_) ReadyL.nil
          refine wantR (by rfl) ?_
          have CC := exact19 (K := K.up y5y0wS.heap.size) 60 (m := 60) (RtAt.up (K := K.up w7.heap.size) (show w7.heap.size <= y5y0wS.heap.size from BX.out.size) (RtAt.below (K := K.up w7.heap.size) (below_le BX.out (Nat.le_refl _)) (RtQ.to (K := K.up w7.heap.size) rfl (fun k hk => hk.2) Q7.out))) (RtQ.to (K := K.up y5y0wS.heap.size) rfl (fun k hk => hk.2) QY.out) (Nat.le_refl _)
          go_simp
          refine CC.mono ?_
          rintro _ y6y5y0wS ⟨rfl, hbz⟩
          have hSS2 := (⟨hSS.1.below hbz hSS.1.lt, hSS.2.below hbz hSS.2.lt⟩ : Row y6y5y0wS w.heap.size 25 [c0, cb, cc, cd] /\ Row y6y5y0wS g 25 [d0, d1, d2, d3])
          have BX2 := hidP (BX.out.trans (below_le hbz BX.out.size))
          refine hK.out _ _ (fun _ => hSS2) (fun _ => ?_)
          clear hK KK hSS BX hbz CC
          have hSS := hSS2
          have BX := BX2
          clear hSS2 BX2
          clear QY
          try simp only [Act.put]
          try simp only [List.setIfInBounds_toArray]
          try simp only [List.set_cons_succ]
          try simp only [List.set_cons_zero]
          refine takeL 7 (v := ?_) rfl (some 100) rfl (by decide) (by kernel_rfl) (by kernel_rfl) (by kernel_rfl) (by kernel_rfl) (fun _ _ _ h => h) (Or.inl ⟨by rfl, ?_⟩) hSS ?_
          rotate_left
          ·(intro y hy; have j0 := hy.1.cell 0; have j1 := hy.1.cell 1; have j2 := hy.1.cell 2; have j3 := hy.1.cell 3; have q0 := hy.2.cell 0; have q1 := hy.2.cell 1; have q2 := hy.2.cell 2; have q3 := hy.2.cell 3; simp only [List.getElem?_cons_zero, List.getElem?_cons_succ] at j0 j1 j2 j3 q0 q1 q2 q3; go_simp; with_reducible rfl)
          try simp only [Act.put]
          try simp only [List.setIfInBounds_toArray]
          try simp only [List.set_cons_succ]
          try simp only [List.set_cons_zero]
          refine takeL 8 (v := ?_) rfl (some 101) rfl (by decide) (by kernel_rfl) (by kernel_rfl) (by kernel_rfl) (by kernel_rfl) (fun _ _ _ h => h) (Or.inl ⟨by rfl, ?_⟩) hSS ?_
          rotate_left
          ·(intro y hy; have j0 := hy.1.cell 0; have j1 := hy.1.cell 1; have j2 := hy.1.cell 2; have j3 := hy.1.cell 3; have q0 := hy.2.cell 0; have q1 := hy.2.cell 1; have q2 := hy.2.cell 2; have q3 := hy.2.cell 3; simp only [List.getElem?_cons_zero, List.getElem?_cons_succ] at j0 j1 j2 j3 q0 q1 q2 q3; go_simp; with_reducible rfl)
          try simp only [Act.put]
          try simp only [List.setIfInBounds_toArray]
          try simp only [List.set_cons_succ]
          try simp only [List.set_cons_zero]
          refine takeL 9 (v := ?_) rfl (some 102) rfl (by decide) (by kernel_rfl) (by kernel_rfl) (by kernel_rfl) (by kernel_rfl) (fun _ _ _ h => h) (Or.inl ⟨by rfl, ?_⟩) hSS ?_
          rotate_left
          ·(intro y hy; have j0 := hy.1.cell 0; have j1 := hy.1.cell 1; have j2 := hy.1.cell 2; have j3 := hy.1.cell 3; have q0 := hy.2.cell 0; have q1 := hy.2.cell 1; have q2 := hy.2.cell 2; have q3 := hy.2.cell 3; simp only [List.getElem?_cons_zero, List.getElem?_cons_succ] at j0 j1 j2 j3 q0 q1 q2 q3; go_simp; with_reducible rfl)
          try simp only [Act.put]
          try simp only [List.setIfInBounds_toArray]
          try simp only [List.set_cons_succ]
          try simp only [List.set_cons_zero]
          refine takeL 10 (v := ?_) rfl (some 103) rfl (by decide) (by kernel_rfl) (by kernel_rfl) (by kernel_rfl) (by kernel_rfl) (fun _ _ _ h => h) (Or.inl ⟨by rfl, ?_⟩) hSS ?_
          rotate_left
          ·(intro y hy; have j0 := hy.1.cell 0; have j1 := hy.1.cell 1; have j2 := hy.1.cell 2; have j3 := hy.1.cell 3; have q0 := hy.2.cell 0; have q1 := hy.2.cell 1; have q2 := hy.2.cell 2; have q3 := hy.2.cell 3; simp only [List.getElem?_cons_zero, List.getElem?_cons_succ] at j0 j1 j2 j3 q0 q1 q2 q3; go_simp; with_reducible rfl)
          try simp only [Act.put]
          try simp only [List.setIfInBounds_toArray]
          try simp only [List.set_cons_succ]
          try simp only [List.set_cons_zero]
          refine readyL (rs := [11]) (by kernel_rfl) (by simp) ?_
          refine ReadyL.cons rfl (fun KK hK => ?_) ReadyL.nil
          refine wantR (by rfl) ?_
          have CC := same27 (K := K.up w7.heap.size) 60 (m := 60) (RtAt.below (K := K.up w7.heap.size) (below_le BX.out (Nat.le_refl _)) (RtQ.to (K := K.up w7.heap.size) rfl (fun k hk => hk.2) Q7.out)) (RtAt.up (show K.C <= w7.heap.size from Nat.le_trans HC.out B7.out.size) ((HT.out y6y5y0wS (B7.out.trans (below_le BX.out B7.out.size))).fit HFT.out)) (show w7.heap.size <= y6y5y0wS.heap.size from BX.out.size)
          rw [same_sub HFT.out] at CC
          go_simp
          refine CC.mono ?_
          rintro _ y11y6y5y0wS ⟨rfl, hbz⟩
          have hSS2 := (⟨hSS.1.below hbz hSS.1.lt, hSS.2.below hbz hSS.2.lt⟩ : Row y11y6y5y0wS w.heap.size 25 [c0, cb, cc, cd] /\ Row y11y6y5y0wS g 25 [d0, d1, d2, d3])
          have BX2 := hidP (BX.out.trans (below_le hbz BX.out.size))
          refine hK.out _ _ (fun _ => hSS2) (fun _ => ?_)
          clear hK KK hSS BX hbz CC
          have hSS := hSS2
          have BX := BX2
          clear hSS2 BX2
          try simp only [Act.put]
          try simp only [List.setIfInBounds_toArray]
          try simp only [List.set_cons_succ]
          try simp only [List.set_cons_zero]
          refine takeL 12 (v := ?_) rfl (some 105) rfl (by decide) (by kernel_rfl) (by kernel_rfl) (by kernel_rfl) (by kernel_rfl) (fun _ _ _ h => h) (Or.inl ⟨by rfl, ?_⟩) hSS ?_
          rotate_left
          ·(intro y hy; have j0 := hy.1.cell 0; have j1 := hy.1.cell 1; have j2 := hy.1.cell 2; have j3 := hy.1.cell 3; have q0 := hy.2.cell 0; have q1 := hy.2.cell 1; have q2 := hy.2.cell 2; have q3 := hy.2.cell 3; simp only [List.getElem?_cons_zero, List.getElem?_cons_succ] at j0 j1 j2 j3 q0 q1 q2 q3; go_simp; with_reducible rfl)
          try simp only [Act.put]
          try simp only [List.setIfInBounds_toArray]
          try simp only [List.set_cons_succ]
          try simp only [List.set_cons_zero]
          refine takeL 13 (v := ?_) rfl (some 106) rfl (by decide) (by kernel_rfl) (by kernel_rfl) (by kernel_rfl) (by kernel_rfl) (fun _ _ _ h => h) (Or.inl ⟨by rfl, ?_⟩) hSS ?_
          rotate_left
          ·(intro y hy; have j0 := hy.1.cell 0; have j1 := hy.1.cell 1; have j2 := hy.1.cell 2; have j3 := hy.1.cell 3; have q0 := hy.2.cell 0; have q1 := hy.2.cell 1; have q2 := hy.2.cell 2; have q3 := hy.2.cell 3; simp only [List.getElem?_cons_zero, List.getElem?_cons_succ] at j0 j1 j2 j3 q0 q1 q2 q3; go_simp; with_reducible rfl)
          try simp only [Act.put]
          try simp only [List.setIfInBounds_toArray]
          try simp only [List.set_cons_succ]
          try simp only [List.set_cons_zero]
          refine takeL 14 (v := ?_) rfl (some 107) rfl (by decide) (by kernel_rfl) (by kernel_rfl) (by kernel_rfl) (by kernel_rfl) (fun _ _ _ h => h) (Or.inl ⟨by rfl, ?_⟩) hSS ?_
          rotate_left
          ·(intro y hy; have j0 := hy.1.cell 0; have j1 := hy.1.cell 1; have j2 := hy.1.cell 2; have j3 := hy.1.cell 3; have q0 := hy.2.cell 0; have q1 := hy.2.cell 1; have q2 := hy.2.cell 2; have q3 := hy.2.cell 3; simp only [List.getElem?_cons_zero, List.getElem?_cons_succ] at j0 j1 j2 j3 q0 q1 q2 q3; go_simp; with_reducible rfl)
          try simp only [Act.put]
          try simp only [List.setIfInBounds_toArray]
          try simp only [List.set_cons_succ]
          try simp only [List.set_cons_zero]
          refine takeL 16 (v := ?_) rfl (some 109) rfl (by decide) (by kernel_rfl) (by kernel_rfl) (by kernel_rfl) (by kernel_rfl) (fun _ _ _ h => h) (Or.inl ⟨by rfl, ?_⟩) hSS ?_
          rotate_left
          ·(intro y hy; have j0 := hy.1.cell 0; have j1 := hy.1.cell 1; have j2 := hy.1.cell 2; have j3 := hy.1.cell 3; have q0 := hy.2.cell 0; have q1 := hy.2.cell 1; have q2 := hy.2.cell 2; have q3 := hy.2.cell 3; simp only [List.getElem?_cons_zero, List.getElem?_cons_succ] at j0 j1 j2 j3 q0 q1 q2 q3; go_simp; with_reducible rfl)
          try simp only [Act.put]
          try simp only [List.setIfInBounds_toArray]
          try simp only [List.set_cons_succ]
          try simp only [List.set_cons_zero]
          refine readyL (rs := [15]) (by kernel_rfl) (by simp) ?_
          refine ReadyL.cons rfl (fun KK hK => ?_) ReadyL.nil
          refine wantR (by rfl) ?_
          have CC := copy29 (K := K.up w7.heap.size) (n := 59) (RtAt.below (K := K.up w7.heap.size) (below_le BX.out (Nat.le_refl _)) (RtQ.to (K := K.up w7.heap.size) rfl (fun k hk => hk.2) Q7.out))
          rw [sub_kind] at CC
          rw [HCP.out] at CC
          go_simp
          refine CC.mono ?_
          rintro _ y15y11y6y5y0wS ⟨rfl, hbz⟩
          have hSS2 := (⟨hSS.1.below hbz hSS.1.lt, hSS.2.below hbz hSS.2.lt⟩ : Row y15y11y6y5y0wS w.heap.size 25 [c0, cb, cc, cd] /\ Row y15y11y6y5y0wS g 25 [d0, d1, d2, d3])
          have BX2 := hidP (BX.out.trans (below_le hbz BX.out.size))
          refine hK.out _ _ (fun _ => hSS2) (fun _ => ?_)
          clear hK KK hSS BX hbz CC
          have hSS := hSS2
          have BX := BX2
          clear hSS2 BX2
          try simp only [Act.put]
          try simp only [List.setIfInBounds_toArray]
          try simp only [List.set_cons_succ]
          try simp only [List.set_cons_zero]
          refine readyL (rs := [17]) (by kernel_rfl) (by simp) ?_
          refine ReadyL.cons rfl (fun KK hK => ?_) ReadyL.nil
          refine wantR (by rfl) ?_
          have CC := copy29 (K := K.up w7.heap.size) (n := 59) (RtAt.up (show K.C <= w7.heap.size from Nat.le_trans HC.out B7.out.size) ((HT.out y15y11y6y5y0wS (B7.out.trans (below_le BX.out B7.out.size))).fit HFT.out))
          rw [HCP.out] at CC
          go_simp
          refine CC.mono ?_
          rintro _ y17y15y11y6y5y0wS ⟨rfl, hbz⟩
          have hSS2 := (⟨hSS.1.below hbz hSS.1.lt, hSS.2.below hbz hSS.2.lt⟩ : Row y17y15y11y6y5y0wS w.heap.size 25 [c0, cb, cc, cd] /\ Row y17y15y11y6y5y0wS g 25 [d0, d1, d2, d3])
          have BX2 := hidP (BX.out.trans (below_le hbz BX.out.size))
          refine hK.out _ _ (fun _ => hSS2) (fun _ => ?_)
          clear hK KK hSS BX hbz CC
          have hSS := hSS2
          have BX := BX2
          clear hSS2 BX2
          try simp only [Act.put]
          try simp only [List.setIfInBounds_toArray]
          try simp only [List.set_cons_succ]
          try simp only [List.set_cons_zero]
          refine takeL 18 (v := ?_) rfl (some 111) rfl (by decide) (by kernel_rfl) (by kernel_rfl) (by kernel_rfl) (by kernel_rfl) (fun _ _ _ h => h) (Or.inl ⟨by rfl, ?_⟩) hSS ?_
          rotate_left
          ·(intro y hy; have j0 := hy.1.cell 0; have j1 := hy.1.cell 1; have j2 := hy.1.cell 2; have j3 := hy.1.cell 3; have q0 := hy.2.cell 0; have q1 := hy.2.cell 1; have q2 := hy.2.cell 2; have q3 := hy.2.cell 3; simp only [List.getElem?_cons_zero, List.getElem?_cons_succ] at j0 j1 j2 j3 q0 q1 q2 q3; go_simp; with_reducible rfl)
          try simp only [Act.put]
          try simp only [List.setIfInBounds_toArray]
          try simp only [List.set_cons_succ]
          try simp only [List.set_cons_zero]
          refine takeL 19 (v := ?_) rfl (some 112) rfl (by decide) (by kernel_rfl) (by kernel_rfl) (by kernel_rfl) (by kernel_rfl) (fun _ _ _ h => h) (Or.inl ⟨by rfl, ?_⟩) hSS ?_
          rotate_left
          ·(intro y hy; have j0 := hy.1.cell 0; have j1 := hy.1.cell 1; have j2 := hy.1.cell 2; have j3 := hy.1.cell 3; have q0 := hy.2.cell 0; have q1 := hy.2.cell 1; have q2 := hy.2.cell 2; have q3 := hy.2.cell 3; simp only [List.getElem?_cons_zero, List.getElem?_cons_succ] at j0 j1 j2 j3 q0 q1 q2 q3; go_simp; with_reducible rfl)
          try simp only [Act.put]
          try simp only [List.setIfInBounds_toArray]
          try simp only [List.set_cons_succ]
          try simp only [List.set_cons_zero]
          refine takeL 20 (v := ?_) rfl (some 113) rfl (by decide) (by kernel_rfl) (by kernel_rfl) (by kernel_rfl) (by kernel_rfl) (fun _ _ _ h => h) (Or.inl ⟨by rfl, ?_⟩) hSS ?_
          rotate_left
          ·(intro y hy; have j0 := hy.1.cell 0; have j1 := hy.1.cell 1; have j2 := hy.1.cell 2; have j3 := hy.1.cell 3; have q0 := hy.2.cell 0; have q1 := hy.2.cell 1; have q2 := hy.2.cell 2; have q3 := hy.2.cell 3; simp only [List.getElem?_cons_zero, List.getElem?_cons_succ] at j0 j1 j2 j3 q0 q1 q2 q3; go_simp; with_reducible rfl)
          try simp only [Act.put]
          try simp only [List.setIfInBounds_toArray]
          try simp only [List.set_cons_succ]
          try simp only [List.set_cons_zero]
          refine takeL 21 (v := ?_) rfl (some 114) rfl (by decide) (by kernel_rfl) (by kernel_rfl) (by kernel_rfl) (by kernel_rfl) (fun _ _ _ h => h) (Or.inl ⟨by rfl, ?_⟩) hSS ?_
          rotate_left
          ·(intro y hy; have j0 := hy.1.cell 0; have j1 := hy.1.cell 1; have j2 := hy.1.cell 2; have j3 := hy.1.cell 3; have q0 := hy.2.cell 0; have q1 := hy.2.cell 1; have q2 := hy.2.cell 2; have q3 := hy.2.cell 3; simp only [List.getElem?_cons_zero, List.getElem?_cons_succ] at j0 j1 j2 j3 q0 q1 q2 q3; go_simp; with_reducible rfl)
          try simp only [Act.put]
          try simp only [List.setIfInBounds_toArray]
          try simp only [List.set_cons_succ]
          try simp only [List.set_cons_zero]
          refine takeL 24 (v := ?_) rfl (some 117) rfl (by decide) (by kernel_rfl) (by kernel_rfl) (by kernel_rfl) (by kernel_rfl) (fun _ _ _ h => h) (Or.inl ⟨by rfl, ?_⟩) hSS ?_
          rotate_left
          ·(intro y hy; have j0 := hy.1.cell 0; have j1 := hy.1.cell 1; have j2 := hy.1.cell 2; have j3 := hy.1.cell 3; have q0 := hy.2.cell 0; have q1 := hy.2.cell 1; have q2 := hy.2.cell 2; have q3 := hy.2.cell 3; simp only [List.getElem?_cons_zero, List.getElem?_cons_succ] at j0 j1 j2 j3 q0 q1 q2 q3; go_simp; with_reducible rfl)
          try simp only [Act.put]
          try simp only [List.setIfInBounds_toArray]
          try simp only [List.set_cons_succ]
          try simp only [List.set_cons_zero]
          refine takeL 25 (v := ?_) rfl (some 118) rfl (by decide) (by kernel_rfl) (by kernel_rfl) (by kernel_rfl) (by kernel_rfl) (fun _ _ _ h => h) (Or.inl ⟨by rfl, ?_⟩) hSS ?_
          rotate_left
          ·(intro y hy; have j0 := hy.1.cell 0; have j1 := hy.1.cell 1; have j2 := hy.1.cell 2; have j3 := hy.1.cell 3; have q0 := hy.2.cell 0; have q1 := hy.2.cell 1; have q2 := hy.2.cell 2; have q3 := hy.2.cell 3; simp only [List.getElem?_cons_zero, List.getElem?_cons_succ] at j0 j1 j2 j3 q0 q1 q2 q3; go_simp; with_reducible rfl)
          try simp only [Act.put]
          try simp only [List.setIfInBounds_toArray]
          try simp only [List.set_cons_succ]
          try simp only [List.set_cons_zero]
          refine readyL (rs := [22]) (by kernel_rfl) (by simp) ?_
          refine ReadyL.cons rfl (fun KK hK => ?_) ReadyL.nil
          refine wantR (by rfl) ?_
          have CC := regions26 (K := K.up w7.heap.size) (n := 60) (RtAt.below (K := K.up w7.heap.size) (below_le BX.out (Nat.le_refl _)) (RtQ.to (K := K.up w7.heap.size) rfl (fun k hk => hk.2) Q7.out)) (show w7.heap.size <= y17y15y11y6y5y0wS.heap.size from BX.out.size) (by rw [HSL.out]; have := HRL.out; omega)
          rw [HSL.out] at CC
          go_simp
          refine CC.mono ?_
          rintro _ y22y17y15y11y6y5y0wS ⟨vv, rfl, hbz, hov⟩
          obtain ⟨av, pv, rfl⟩ := own_slice hov
          clear hov
          have hSS2 := (⟨hSS.1.below hbz hSS.1.lt, hSS.2.below hbz hSS.2.lt⟩ : Row y22y17y15y11y6y5y0wS w.heap.size 25 [c0, cb, cc, cd] /\ Row y22y17y15y11y6y5y0wS g 25 [d0, d1, d2, d3])
          have BX2 := hidP (BX.out.trans (below_le hbz BX.out.size))
          refine hK.out _ _ (fun _ => hSS2) (fun _ => ?_)
          clear hK KK hSS BX hbz CC
          have hSS := hSS2
          have BX := BX2
          clear hSS2 BX2
          try simp only [Act.put]
          try simp only [List.setIfInBounds_toArray]
          try simp only [List.set_cons_succ]
          try simp only [List.set_cons_zero]
          refine takeL 23 (v := ?_) rfl (some 116) rfl (by decide) (by kernel_rfl) (by kernel_rfl) (by kernel_rfl) (by kernel_rfl) (fun _ _ _ h => h) (Or.inl ⟨by rfl, ?_⟩) hSS ?_
          rotate_left
          ·(intro y hy; have j0 := hy.1.cell 0; have j1 := hy.1.cell 1; have j2 := hy.1.cell 2; have j3 := hy.1.cell 3; have q0 := hy.2.cell 0; have q1 := hy.2.cell 1; have q2 := hy.2.cell 2; have q3 := hy.2.cell 3; simp only [List.getElem?_cons_zero, List.getElem?_cons_succ] at j0 j1 j2 j3 q0 q1 q2 q3; go_simp; with_reducible rfl)
          try simp only [Act.put]
          try simp only [List.setIfInBounds_toArray]
          try simp only [List.set_cons_succ]
          try simp only [List.set_cons_zero]
          refine takeL 26 (v := ?_) rfl (some 119) rfl (by decide) (by kernel_rfl) (by kernel_rfl) (by kernel_rfl) (by kernel_rfl) (fun _ _ _ h => h) (Or.inl ⟨by rfl, ?_⟩) hSS ?_
          rotate_left
          ·(intro y hy; have j0 := hy.1.cell 0; have j1 := hy.1.cell 1; have j2 := hy.1.cell 2; have j3 := hy.1.cell 3; have q0 := hy.2.cell 0; have q1 := hy.2.cell 1; have q2 := hy.2.cell 2; have q3 := hy.2.cell 3; simp only [List.getElem?_cons_zero, List.getElem?_cons_succ] at j0 j1 j2 j3 q0 q1 q2 q3; go_simp; with_reducible rfl)
          try simp only [Act.put]
          try simp only [List.setIfInBounds_toArray]
          try simp only [List.set_cons_succ]
          try simp only [List.set_cons_zero]
          refine takeL 27 (v := ?_) rfl (some 120) rfl (by decide) (by kernel_rfl) (by kernel_rfl) (by kernel_rfl) (by kernel_rfl) (fun _ _ _ h => h) (Or.inl ⟨by rfl, ?_⟩) hSS ?_
          rotate_left
          ·(intro y hy; have j0 := hy.1.cell 0; have j1 := hy.1.cell 1; have j2 := hy.1.cell 2; have j3 := hy.1.cell 3; have q0 := hy.2.cell 0; have q1 := hy.2.cell 1; have q2 := hy.2.cell 2; have q3 := hy.2.cell 3; simp only [List.getElem?_cons_zero, List.getElem?_cons_succ] at j0 j1 j2 j3 q0 q1 q2 q3; go_simp; with_reducible rfl)
          try simp only [Act.put]
          try simp only [List.setIfInBounds_toArray]
          try simp only [List.set_cons_succ]
          try simp only [List.set_cons_zero]
          refine takeL 28 (v := ?_) rfl (some 6) rfl (by decide) (by kernel_rfl) (by kernel_rfl) (by kernel_rfl) (by kernel_rfl) (fun _ _ _ h => h) (Or.inl ⟨by rfl, ?_⟩) hSS ?_
          rotate_left
          ·(intro y hy; have j0 := hy.1.cell 0; have j1 := hy.1.cell 1; have j2 := hy.1.cell 2; have j3 := hy.1.cell 3; have q0 := hy.2.cell 0; have q1 := hy.2.cell 1; have q2 := hy.2.cell 2; have q3 := hy.2.cell 3; simp only [List.getElem?_cons_zero, List.getElem?_cons_succ] at j0 j1 j2 j3 q0 q1 q2 q3; go_simp; with_reducible rfl)
          try simp only [Act.put]
          try simp only [List.setIfInBounds_toArray]
          try simp only [List.set_cons_succ]
          try simp only [List.set_cons_zero]
          refine doneL (by kernel_rfl) ?_ _
          go_wp2_with fail
          go_ret
          exact ⟨rfl, (B7.out.trans (below_le BX.out B7.out.size))⟩
 ·clear hdd
  go_wp2_with fail
  refine T2.out.mono ?_
  rintro _ wT ⟨rfl, hbT⟩
  have BT := hidP (B2.out.trans (below_le hbT B2.out.size))
  clear T2 hbT
  go_wp2_with fail
  go_ret
  exact ⟨rfl, BT.out⟩
end Go.Proofs.YtldbbkheemnnhaaGreatDoor
