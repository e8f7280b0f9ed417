/-
  types.At: the step to a field.
-/
import Derived.Test.YtldbbkheemnnhaaGreatDoorJpLk82
namespace Go.Proofs.YtldbbkheemnnhaaGreatDoor
open Go.RowKit Go.Maps
theorem idxK_find {nm : Bs} : ∀ {l : List Fld} {i : Nat}, (idxK nm i l = -1 /\ l.find? (fun f => f.name == nm) = none) ∨ ∃ k f, idxK nm i l = ((i + k : Nat) : Int) /\ l[k]? = some f /\ l.find? (fun f => f.name == nm) = some f
 | [], i => .inl ⟨rfl, rfl⟩
 | f :: l, i => by
  by_cases h : f.name = nm
  ·exact .inr ⟨0, f, by rw [idxK, if_pos h, Nat.add_zero], rfl, by simp [h]⟩
  ·have hf : (f.name == nm) = false := by simpa using h
   rcases idxK_find (nm := nm) (l := l) (i := i + 1) with ⟨h1, h2⟩ | ⟨k, g, h1, h2, h3⟩
   ·exact .inl ⟨by rw [idxK, if_neg h, h1], by rw [List.find?_cons, hf]; exact h2⟩
   ·exact .inr ⟨k + 1, g, by rw [idxK, if_neg h, h1]; congr 1; omega, by simpa using h2, by rw [List.find?_cons, hf]; exact h3⟩
def zR : RTy := ⟨0, [], [], []⟩
def fldR (L : List Sct) (D : Nat) (t : RTy) (nm : Bs) : RTy × Int :=
 if t.kind = 3 then
  match L.find? (fun x => x.name == t.name) with
  | none => (zR, 25)
  | some x => match x.fields.find? (fun f => f.name == nm) with
   | none => (zR, 22)
   | some f => (subN D t.regs (liftN L x.lives D f.ty (x.lives.length : Int)).1, 0)
 else (zR, 25)
section
variable {L : List Sct} {D : Nat} {t : RTy} {nm : Bs}
theorem fld_no (h : t.kind ≠ 3) : fldR L D t nm = (zR, 25) := if_neg h
theorem fld_none (h : t.kind = 3) (hf : L.find? (fun x => x.name == t.name) = none) : fldR L D t nm = (zR, 25) := by
 unfold fldR; rw [if_pos h]; simp only [hf]
theorem fld_bad {x : Sct} (h : t.kind = 3) (hf : L.find? (fun x => x.name == t.name) = some x) (hg : x.fields.find? (fun f => f.name == nm) = none) : fldR L D t nm = (zR, 22) := by
 unfold fldR; rw [if_pos h]; simp only [hf, hg]
theorem fld_yes {x : Sct} {f : Fld} (h : t.kind = 3) (hf : L.find? (fun x => x.name == t.name) = some x) (hg : x.fields.find? (fun f => f.name == nm) = some f) : fldR L D t nm = (subN D t.regs (liftN L x.lives D f.ty (x.lives.length : Int)).1, 0) := by
 unfold fldR; rw [if_pos h]; simp only [hf, hg]
end
theorem region_cut2 {P : Program} {c : Code} {Q : Exit -> Act -> World -> Prop} {a : Act} {w : World} {A : Nat -> List Value -> Act} {F : Nat -> List Value -> World -> Prop} (h : c.wp P (fun e a' w' => ∃ g d, e = .normal /\ a' = A g d /\ F g d w') a w) (k : ∀ g d w', F g d w' -> Q .normal (A g d) w') : c.wp P Q a w :=
 Code.wp_mono (by rintro e a' w' ⟨g, d, rfl, rfl, hf⟩; exact k g d w' hf) h
def Fit70 : Nat -> Ty -> Prop
 | 0, _ => False
 | n + 1, t => t.lives.length <= 70 /\ ∀ e ∈ t.elem, Fit70 n e
theorem Fit70.fitT : ∀ {n : Nat} {t : Ty}, Fit70 n t -> FitT n t
 | 0, _, h => h.elim
 | n + 1, t, h => ⟨by have := h.1; omega, fun e he => (h.2 e (List.mem_of_mem_head? he)).fitT⟩
theorem lift_fit {L : List Sct} (hL : ∀ x ∈ L, x.lives.length <= 70) {lives : List Bs} : ∀ {n : Nat} {t : Ty} {nx : Int}, Fit70 n t -> Fit n (liftN L lives n t nx).1
 | 0, _, _, h => h.elim
 | n + 1, t, nx, h => by
  have hl : livN L t.name <= 70 := by
   unfold livN
   rcases hf : L.find? (fun x => x.name == t.name) with _ | x
   ·rw [hf]; exact Nat.zero_le _
   ·rw [hf]; exact hL x (List.mem_of_find?_eq_some hf)
  have h1 := h.1
  unfold liftN
  split
  ·split
   ·exact ⟨by simp only [loL_len]; exact hl, by simp, fun e he => by simp at he⟩
   ·exact ⟨by simp only [List.length_map]; exact h1, by simp, fun e he => by simp at he⟩
  ·split
   ·split
    ·refine ⟨?_, by simp, fun e he => by simp at he⟩
     simp only
     split <;> simp <;> omega
    ·rename_i e es he
     refine ⟨?_, by simp, fun e' he' => ?_⟩
     ·simp only
      split <;> simp <;> omega
     ·simp only [List.mem_singleton] at he'
      rw [he']
      exact lift_fit hL (h.2 e (by rw [he]; exact List.mem_cons_self))
   ·exact ⟨by simp, by simp, fun e he => by simp at he⟩
theorem TyAt.fit {K : Ctx} {w : World} : ∀ {k n : Nat} {cs : List Value} {t : Ty}, Fit70 k t -> TyAt n K w cs t -> TyAt k K w cs t
 | 0, _, _, _, h, _ => h.elim
 | _ + 1, 0, _, _, _, h => h.elim
 | k + 1, n + 1, _, _, hf, h => by
  obtain ⟨v2, v3, e, h1, h2, h3⟩ := h
  exact ⟨v2, v3, e, h1, h2, h3.mono (Below.refl _ _) fun _ x hx h => TyAt.fit (hf.2 x hx) h⟩
theorem RtQ.wide {Q : Nat -> Prop} {B B' : Nat} {w : World} (hB : B <= B') : ∀ {n : Nat} {cs : List Value} {t : RTy}, RtQ n Q B w cs t -> RtQ n Q B' w cs t
 | 0, _, _, h => h.elim
 | n + 1, _, _, h => by
  obtain ⟨v2, v3, e, h1, h2, h3⟩ := h
  exact ⟨v2, v3, e, Nat.le_trans h1 hB, h2, h3.mono (⟨fun _ h => h, fun _ _ => rfl⟩ : Kp Q Q w w) fun _ _ _ h => RtQ.wide hB h⟩
theorem RtAt.more {K : Ctx} {w : World} : ∀ {n : Nat} {cs : List Value} {t : RTy}, RtAt n K w cs t -> RtAt (n + 1) K w cs t
 | 0, _, _, h => h.elim
 | n + 1, _, _, h => by
  obtain ⟨v2, v3, e, h1, h2, h3⟩ := h
  exact ⟨v2, v3, e, h1, h2, h3.mono (Below.refl _ _) fun _ _ _ h => RtAt.more h⟩
theorem RtAt.upto {K : Ctx} {w : World} {n m : Nat} {cs : List Value} {t : RTy} (h : RtAt n K w cs t) (hm : n <= m) : RtAt m K w cs t := by
 induction hm with
 | refl => exact h
 | step _ ih => exact ih.more
theorem rt_zero {n B : Nat} {Q : Nat -> Prop} {w : World} : RtQ (n + 1) Q B w z25 zR := ⟨_, _, rfl, Nat.zero_le _, nil_arQ, nil_arQ⟩
theorem RtQ.more {Q : Nat -> Prop} {B : Nat} {w : World} : ∀ {n : Nat} {cs : List Value} {t : RTy}, RtQ n Q B w cs t -> RtQ (n + 1) Q B w cs t
 | 0, _, _, h => h.elim
 | n + 1, _, _, h => by
  obtain ⟨v2, v3, e, h1, h2, h3⟩ := h
  exact ⟨v2, v3, e, h1, h2, h3.mono (⟨fun _ h => h, fun _ _ => rfl⟩ : Kp Q Q w w) fun _ _ _ h => RtQ.more h⟩
theorem RtQ.upto {Q : Nat -> Prop} {B : Nat} {w : World} {n m : Nat} {cs : List Value} {t : RTy} (h : RtQ n Q B w cs t) (hm : n <= m) : RtQ m Q B w cs t := by
 induction hm with
 | refl => exact h
 | step _ ih => exact ih.more
structure OkL (L : List Sct) (D : Nat) : Prop where
 lives : ∀ x ∈ L, x.lives.length <= 70
 fields : ∀ x ∈ L, ∀ f ∈ x.fields, Fit70 D f.ty
 small : D <= 1000
set_option maxHeartbeats 32000000 in
set_option maxRecDepth 20000 in
theorem field76 {K : Ctx} {Q : Nat -> Prop} {B : Nat} {gs b c : Nat} {L : List Sct} {D n : Nat} {w : World} {cs : List Value} {t : RTy} {nm : Bs} (hBB : B <= 1048576) (hKB : B <= K.B) (hOL : OkL L D) (hD : D <= n) (hs : Scp Q B w gs b c L) (ht : RtAt n K w cs t) (hC : K.C <= w.heap.size) :
  Calls Tryz.prog 76 #[.pointer (some ⟨gs, 0, none⟩), .agg cs.toArray, .string (str nm)] w fun ev w' => ∃ d, ev = .returned (.tuple #[.agg d.toArray, .int .i64 (fldR L D t nm).2]) /\ Below w.heap.size w w' /\ RtQ n (Fr w w') K.B w' d (fldR L D t nm).1 := by
 obtain ⟨n, rfl⟩ : ∃ j, n = j + 1 := by
  cases n with
  | zero => exact ht.elim
  | succ j => exact ⟨j, rfl⟩
 have HT := hidP (fun (y : World) (hy : Below w.heap.size w y) => ht.below (below_le hy hC))
 obtain ⟨v2, v3, rfl, hB, h2, h3⟩ := ht
 obtain ⟨a2, p2, rfl⟩ := Ar.form h2
 obtain ⟨a3, p3, rfl⟩ := Ar.form h3
 have HC := hidP hC
 have HRG := hidP (fun (y : World) (hy : Below w.heap.size w y) => h2.mono (below_le hy hC) fun _ _ _ h => h)
 have hsm := K.small
 have hgs := hidP hs.row.lt
 have HS := hidP (fun (y : World) (hy : Below w.heap.size w y) => hs.past hy)
 have HNN := hidP (show t.name.length <= 140737488355328 by omega)
 clear h2 h3 hs hC hB
 generalize hnr : t.regs.length = nr at *
 clear hnr
 generalize t.elem.length = ne at *
 generalize hkd : t.kind = kd at *
 have HKD := hidP hkd
 clear hkd
 generalize hsn : str t.name = SN at *
 have HSN := hidP hsn
 clear hsn
 generalize hsm : str nm = SM at *
 have HSM := hidP hsm
 clear hsm
 have R4 := hidP (((Row.new w 25 [.int .i64 kd, .string SN, .slice a2 nr p2, .slice a3 ne p3]).alloc (.cells #[.string SM] 9)).alloc (.cells z25.toArray 25))
 have R5 := hidP ((Row.new (w.alloc (.cells #[.int .i64 kd, .string SN, .slice a2 nr p2, .slice a3 ne p3] 25)) 9 [.string SM]).alloc (.cells z25.toArray 25))
 have R6 := hidP (Row.new ((w.alloc (.cells #[.int .i64 kd, .string SN, .slice a2 nr p2, .slice a3 ne p3] 25)).alloc (.cells #[.string SM] 9)) 25 z25)
 have HA := hidP ((alloc_two w (.cells #[.int .i64 kd, .string SN, .slice a2 nr p2, .slice a3 ne p3] 25) (.cells #[.string SM] 9)).trans (below_le (alloc_one _ (.cells z25.toArray 25)) (by rw [size_two]; omega)))
 have HZ : Hid ((((w.alloc (.cells #[.int .i64 kd, .string SN, .slice a2 nr p2, .slice a3 ne p3] 25)).alloc (.cells #[.string SM] 9)).alloc (.cells z25.toArray 25)).heap.size = w.heap.size + 3) := by
  show _ = _
  rw [size_alloc, size_two]
 rw [size_alloc] at R5
 rw [size_two] at R6
 have y0 := R4.out.cell 0
 have y1 := R4.out.cell 1
 simp only [List.getElem?_cons_zero, List.getElem?_cons_succ] at y0 y1
 rw [show w.heap.size + 2 = w.heap.size + 1 + 1 from rfl] at R6
 unfold z25 at R4 R5 R6 HA HZ y0 y1
 generalize hW : ((w.alloc (.cells #[.int .i64 kd, .string SN, .slice a2 nr p2, .slice a3 ne p3] 25)).alloc (.cells #[.string SM] 9)).alloc (.cells [Value.int .i64 0, .string ⟨#[]⟩, .slice none 0 0, .slice none 0 0].toArray 25) = W at R4 R5 R6 HA HZ y0 y1
 have HW := hidP hW
 clear hW
 by_cases hk : kd = 3
 ·subst hk
  rcases hfx : L.find? (fun x => x.name == t.name) with _ | x
  ·have HQ := hidP (fld_none (D := D) (nm := nm) HKD.out hfx)
   have ST := hidP (show Calls Tryz.prog 113 #[.pointer (some ⟨gs, 0, none⟩), .string SN] W _ from by
    rw [← HSN.out]
    exact struct_no (HS.out W HA.out) (n := t.name) (fun hm => by
     obtain ⟨y, hy, e⟩ := List.mem_map.1 hm
     have := List.find?_eq_none.1 hfx y hy
     simp at this
     exact this e) HNN.out)
   clear hfx HS HT HRG
   go_enter Tryz.func76, Tryz.ntmps76
   go_wp2_with fail
   first
    | rw [HW.out]
    | rw [show ((w.alloc (.cells #[.int .i64 3, .string SN, .slice a2 nr p2, .slice a3 ne p3] 25)).alloc (.cells #[.string SM] 9)).alloc (.cells #[.int .i64 0, .string ⟨#[]⟩, .slice none 0 0, .slice none 0 0] 25) = W from HW.out]
   clear HW
   refine ST.out.mono ?_
   rintro _ w1 ⟨rfl, hb1⟩
   have B1 := hidP (HA.out.trans (below_le hb1 HA.out.size))
   have R61 := hidP (R6.out.below hb1 R6.out.lt)
   have RN := hidP (Row.new w1 84 z84)
   have BN := hidP (alloc_one w1 (.cells z84.toArray 84))
   unfold z84 at RN BN
   clear ST R4 R5 R6 HA hb1 y0 y1
   unfold z84
   go_wp2_with (first | (refine stR rfl 84 (.tmp 8) (.tmp 22) rfl (cs := [.bool false, .string ⟨#[]⟩, .slice none 0 0, .slice none 0 0, .int .i64 0]) rfl rfl RN.out Tryz.sz84 rfl (ones_cons rfl (ones_cons rfl (ones_cons rfl (ones_cons rfl (ones_cons rfl ones_nil))))) ?_; intro w2 R2 S2; apply shut))
   show wpList _ _ _ _ _ _
   have BS := hidP (BN.out.trans (S2.below (C := w1.heap.size) BN.out.size (fun q hq => Nat.le_of_eq hq.symm)))
   have B2 := hidP (B1.out.trans (below_le BS.out B1.out.size))
   have R62 := hidP (R61.out.below BS.out R61.out.lt)
   clear RN BN R2 S2 BS R61 B1
   go_wp2_with (first | (refine stR rfl 25 (.tmp 6) (.tmp 26) rfl (cs := [.int .i64 0, .string ⟨#[]⟩, .slice none 0 0, .slice none 0 0]) rfl rfl R62.out Tryz.sz25 rfl (ones_cons rfl (ones_cons rfl (ones_cons rfl (ones_cons rfl ones_nil)))) ?_; intro wF RF SF; apply shut))
   show wpList _ _ _ _ _ _
   have BF := hidP (B2.out.trans (SF.below (C := w.heap.size) B2.out.size (fun q hq => by have : q = w.heap.size + 1 + 1 := hq; omega)))
   replace RF := hidP RF
   clear SF
   go_wp2_with fail
   exact bodyPost_ret (v := .tuple #[.agg #[.int .i64 0, .string ⟨#[]⟩, .slice none 0 0, .slice none 0 0], .int .i64 25]) (results_cell_row2 Tryz.results76 _ _ (w.heap.size + 1 + 1) 25 _ (0, 0) _ rfl RF.out.heap Tryz.underlying25 rfl (by kernel_rfl)) rfl ⟨[.int .i64 0, .string ⟨#[]⟩, .slice none 0 0, .slice none 0 0], by rw [HQ.out], BF.out, by rw [HQ.out]; exact rt_zero⟩
  ·have hx := List.mem_of_find?_eq_some hfx
   have hxn : x.name = t.name := by have := List.find?_some hfx; simpa using this
   have HX := hidP hx
   have ST := hidP (show Calls Tryz.prog 113 #[.pointer (some ⟨gs, 0, none⟩), .string SN] W _ from by
    rw [← HSN.out, ← hxn]
    exact struct_yes (HS.out W HA.out) hx (by rw [hxn]; exact HNN.out) hBB)
   have HFX := hidP hfx
   clear hfx hx hxn HT
   go_enter Tryz.func76, Tryz.ntmps76
   go_wp2_with fail
   first
    | rw [HW.out]
    | rw [show ((w.alloc (.cells #[.int .i64 3, .string SN, .slice a2 nr p2, .slice a3 ne p3] 25)).alloc (.cells #[.string SM] 9)).alloc (.cells #[.int .i64 0, .string ⟨#[]⟩, .slice none 0 0, .slice none 0 0] 25) = W from HW.out]
   clear HW
   refine ST.out.mono ?_
   rintro _ w1 ⟨cs1, rfl, hb1, hq1⟩
   have o5 := hidP hq1.parts.2
   have Q1 := hidP hq1
   obtain ⟨vL, vF, rfl, _, hqL, hqF⟩ := hq1
   have B1 := hidP (HA.out.trans (below_le hb1 HA.out.size))
   have R41 := hidP (R4.out.below hb1 R4.out.lt)
   have R51 := hidP (R5.out.below hb1 R5.out.lt)
   have R61 := hidP (R6.out.below hb1 R6.out.lt)
   have RN := hidP (Row.new w1 84 z84)
   have BN := hidP (alloc_one w1 (.cells z84.toArray 84))
   unfold z84 at RN BN
   obtain ⟨aF, pF, rfl⟩ := hqF.form
   obtain ⟨aL, pL, rfl⟩ := ArQ.form hqL
   have QL := hidP hqL
   have QF := hidP hqF
   clear ST R4 R5 R6 hb1 y0 y1 hqL hqF
   generalize str x.name = SX at *
   generalize hnf : x.fields.length = nf at *
   have HNF := hidP hnf
   clear hnf
   generalize hnv : x.lives.length = nv at *
   have HNV := hidP hnv
   clear hnv
   go_wp2_with (first | (refine stR rfl 84 (.tmp 8) (.tmp 22) rfl (cs := [.bool x.pub, .string SX, .slice aL nv pL, .slice aF nf pF, .int .i64 x.pos]) rfl rfl RN.out Tryz.sz84 rfl o5.out ?_; intro w2 R2 S2; apply shut))
   show wpList _ _ _ _ _ _
   have BS := hidP (BN.out.trans (S2.below (C := w1.heap.size) BN.out.size (fun q hq => Nat.le_of_eq hq.symm)))
   have B2 := hidP (B1.out.trans (below_le BS.out B1.out.size))
   have R42 := hidP (R41.out.below BS.out R41.out.lt)
   have R52 := hidP (R51.out.below BS.out R51.out.lt)
   have R62 := hidP (R61.out.below BS.out R61.out.lt)
   have hz1 := hidP BS.out.size
   have KP := hidP (show Kp (Fr W w1) (fun k => k < w2.heap.size) w1 w2 from ⟨fun k hk => Nat.lt_of_lt_of_le hk.2 hz1.out, fun k hk => BS.out.block k hk.2⟩)
   have FS2 := hidP (show Ar 6 96 (FldAt ⟨w2.heap.size, B, by omega⟩ w2) ⟨w2.heap.size, B, by omega⟩ w2 (.slice aF nf pF) x.fields from ((QF.out.mono KP.out fun _ _ _ h => h.mono KP.out).to (K := ⟨w2.heap.size, B, by omega⟩) (fun k hk => hk) fun _ _ _ h => h.to (K := ⟨w2.heap.size, B, by omega⟩) (fun k hk => hk)))
   have LS2 := hidP (show Strs ⟨w2.heap.size, B, by omega⟩ w2 (.slice aL nv pL) x.lives from (StrQ.mono QL.out KP.out).to (K := ⟨w2.heap.size, B, by omega⟩) (fun k hk => hk))
   have IX := hidP (idx115 (K := ⟨w2.heap.size, B, by omega⟩) (g := w.heap.size + 1) (nm := nm) FS2.out (by have := R52.out.cell 0; rw [HSM.out]; simpa using this) (Nat.le_refl _))
   have x3 := R2.cell 3
   simp only [List.getElem?_cons_zero, List.getElem?_cons_succ] at x3
   have R8 := hidP R2
   have hg8 := hidP (show w.heap.size + 3 <= w1.heap.size by have := R61.out.lt; omega)
   clear RN BN R2 S2 BS R41 R51 R61 B1 Q1 QL QF KP o5
   go_wp2_with fail
   refine IX.out.mono ?_
   rintro _ w3 ⟨rfl, hb3⟩
   have B3 := hidP (B2.out.trans (below_le hb3 B2.out.size))
   have R43 := hidP (R42.out.below hb3 R42.out.lt)
   have R63 := hidP (R62.out.below hb3 R62.out.lt)
   have R83 := hidP (R8.out.below hb3 R8.out.lt)
   have FS3 := hidP (FS2.out.mono (K := ⟨w2.heap.size, B, by omega⟩) hb3 fun _ _ _ h => h.below hb3)
   have LS3 := hidP (LS2.out.below (K := ⟨w2.heap.size, B, by omega⟩) hb3)
   have hz3 := hidP hb3.size
   clear IX R42 R52 R62 R8 FS2 LS2 hb3 x3
   rcases idxK_find (nm := nm) (l := x.fields) (i := 0) with ⟨hi, hfn⟩ | ⟨k, f, hi, hkf, hff⟩
   ·have HQ := hidP (fld_bad (D := D) HKD.out HFX.out hfn)
    rw [hi]
    clear hi hfn R83 FS3 LS3
    go_wp2_with (first | (refine stR rfl 25 (.tmp 6) (.tmp 33) rfl (cs := [.int .i64 0, .string ⟨#[]⟩, .slice none 0 0, .slice none 0 0]) rfl rfl R63.out Tryz.sz25 rfl (ones_cons rfl (ones_cons rfl (ones_cons rfl (ones_cons rfl ones_nil)))) ?_; intro wF RF SF; apply shut))
    show wpList _ _ _ _ _ _
    have BF := hidP (B3.out.trans (SF.below (C := w.heap.size) B3.out.size (fun q hq => by have : q = w.heap.size + 1 + 1 := hq; omega)))
    replace RF := hidP RF
    clear SF
    go_wp2_with fail
    exact bodyPost_ret (v := .tuple #[.agg #[.int .i64 0, .string ⟨#[]⟩, .slice none 0 0, .slice none 0 0], .int .i64 22]) (results_cell_row2 Tryz.results76 _ _ (w.heap.size + 1 + 1) 25 _ (0, 0) _ rfl RF.out.heap Tryz.underlying25 rfl (by kernel_rfl)) rfl ⟨[.int .i64 0, .string ⟨#[]⟩, .slice none 0 0, .slice none 0 0], by rw [HQ.out], BF.out, by rw [HQ.out]; exact rt_zero⟩
   ·have HQ := hidP (fld_yes (D := D) HKD.out HFX.out hff)
    rw [hi, Nat.zero_add]
    have hkl : k < nf := by
     rcases Nat.lt_or_ge k x.fields.length with h | h
     ·have := HNF.out; omega
     ·rw [List.getElem?_eq_none h] at hkf; cases hkf
    have hfm : f ∈ x.fields := List.mem_of_getElem? hkf
    obtain ⟨f', hf', b1, o1, e1, hb1, c1, hl1, hr1, hp1⟩ := Ar.nth (K := ⟨w2.heap.size, B, by omega⟩) FS3.out k (by rw [HNF.out]; exact hkl)
    have hff' : f' = f := by rw [hkf] at hf'; exact (Option.some.inj hf').symm
    subst hff'
    subst e1
    obtain ⟨ts, rfl, hfn, n9, hty⟩ := hp1
    obtain ⟨t0, t1, t2, t3, rfl⟩ : ∃ d0 d1 d2 d3, ts = [d0, d1, d2, d3] := by
     match ts, hty.len with
     | [d0, d1, d2, d3], _ => exact ⟨_, _, _, _, rfl⟩
    have hr2 : w3.rangeAt b1 (o1 + k * 6 + 2) [t0, t1, t2, t3] := fun j u hj => by
     have := hr1 (j + 2) u hj
     rw [show o1 + k * 6 + (j + 2) = o1 + k * 6 + 2 + j by omega] at this; exact this
    have HF70 := hidP (hOL.fields x HX.out f' hfm)
    have HTY := hidP (show TyAt D ⟨w2.heap.size, B, by omega⟩ w3 [t0, t1, t2, t3] f'.ty from TyAt.fit HF70.out hty)
    have hn7 := hidP (hOL.lives x HX.out)
    have LFT := hidP (fun (y : World) (hy : Below w3.heap.size w3 y) => lift17 (K := ⟨w2.heap.size, B, by omega⟩) (nx := (nv : Int)) hBB (fun z hz => by have := hOL.lives z hz; omega) (HS.out y (B3.out.trans (below_le hy B3.out.size))) (HTY.out.below (K := ⟨w2.heap.size, B, by omega⟩) (below_le hy hz3.out)) (LS3.out.below (K := ⟨w2.heap.size, B, by omega⟩) (below_le hy hz3.out)) (show w2.heap.size <= y.heap.size from Nat.le_trans hz3.out hy.size) (by have := hn7.out; omega) HF70.out.fitT (by omega) (by have := hOL.small; have := hn7.out; have := HNV.out; omega))
    generalize hnx2 : (liftN L x.lives D f'.ty (nv : Int)).2 = nx2 at LFT
    clear hnx2
    have hnv : nv <= 70 := by have := hn7.out; have := HNV.out; omega
    have RGE := hidP (fun (y : World) (hy : Below w3.heap.size w3 y) => range_le hr2 hy (Nat.lt_of_lt_of_le hb1 hz3.out))
    have y2 := R43.out.cell 2
    have l1 : (k : Int) < (nf : Int) := by omega
    have FITL := hidP (lift_fit hOL.lives (lives := x.lives) (nx := (x.lives.length : Int)) HF70.out)
    clear hkf hf' hfn hty hr1 hr2 hl1 hb1 hfm FS3 LS3 HTY HF70 hn7 hi hff
    go_wp2_with fail
    refine region_cut2 (A := ?_) (F := fun g d w' => w3.heap.size <= g /\ Below w3.heap.size w3 w' /\ Row w' g 25 d /\ RtQ D (Fr w3 w') B w' d (liftN L x.lives D f'.ty (nv : Int)).1) ?_ ?_
    rotate_left
    ·have hS0 : Row w3.drew w1.heap.size 84 [.bool x.pub, .string SX, .slice aL nv pL, .slice (some ⟨b1, o1, none⟩) nf pF, .int .i64 x.pos] /\ w3.drew.rangeAt b1 (o1 + k * 6 + 2) [t0, t1, t2, t3] := ⟨R83.out.drew, RGE.out _ (Below.refl _ _).drew⟩
     have HWD := hidP (show Below w3.heap.size w3 w3.drew from (Below.refl _ _).drew)
     refine beginL (fun y => Row y w1.heap.size 84 [.bool x.pub, .string SX, .slice aL nv pL, .slice (some ⟨b1, o1, none⟩) nf pF, .int .i64 x.pos] /\ y.rangeAt b1 (o1 + k * 6 + 2) [t0, t1, t2, t3]) 19 (by kernel_rfl) hS0 (fun hSS => ?_)
     refine takeL 0 (v := ?_) rfl (some 35) rfl (by decide) (by kernel_rfl) (by kernel_rfl) (by kernel_rfl) (by kernel_rfl) (fun _ _ _ h => by obtain ⟨_, _, h, _⟩ := h; cases h) (Or.inl ⟨by rfl, ?_⟩) hSS ?_
     rotate_left
     ·(intro y hy; have j2 := hy.1.cell 2; have j3 := hy.1.cell 3; have q0 := hy.2 0 _ rfl; have q1 := hy.2 1 _ rfl; have q2 := hy.2 2 _ rfl; have q3 := hy.2 3 _ rfl; simp only [List.getElem?_cons_zero, List.getElem?_cons_succ, Nat.add_zero] at j2 j3 q0 q1 q2 q3; go_simp; with_reducible rfl)
     try simp only [Act.put]
     try simp only [List.setIfInBounds_toArray]
     try simp only [List.set_cons_succ]
     try simp only [List.set_cons_zero]
     refine takeL 1 (v := ?_) rfl (some 36) rfl (by decide) (by kernel_rfl) (by kernel_rfl) (by kernel_rfl) (by kernel_rfl) (fun _ _ _ h => by obtain ⟨_, _, h, _⟩ := h; cases h) (Or.inl ⟨by rfl, ?_⟩) hSS ?_
     rotate_left
     ·(intro y hy; have j2 := hy.1.cell 2; have j3 := hy.1.cell 3; have q0 := hy.2 0 _ rfl; have q1 := hy.2 1 _ rfl; have q2 := hy.2 2 _ rfl; have q3 := hy.2 3 _ rfl; simp only [List.getElem?_cons_zero, List.getElem?_cons_succ, Nat.add_zero] at j2 j3 q0 q1 q2 q3; go_simp; with_reducible rfl)
     try simp only [Act.put]
     try simp only [List.setIfInBounds_toArray]
     try simp only [List.set_cons_succ]
     try simp only [List.set_cons_zero]
     refine takeL 2 (v := ?_) rfl (some 37) rfl (by decide) (by kernel_rfl) (by kernel_rfl) (by kernel_rfl) (by kernel_rfl) (fun _ _ _ h => by obtain ⟨_, _, h, _⟩ := h; cases h) (Or.inl ⟨by rfl, ?_⟩) hSS ?_
     rotate_left
     ·(intro y hy; have j2 := hy.1.cell 2; have j3 := hy.1.cell 3; have q0 := hy.2 0 _ rfl; have q1 := hy.2 1 _ rfl; have q2 := hy.2 2 _ rfl; have q3 := hy.2 3 _ rfl; simp only [List.getElem?_cons_zero, List.getElem?_cons_succ, Nat.add_zero] at j2 j3 q0 q1 q2 q3; go_simp; with_reducible rfl)
     try simp only [Act.put]
     try simp only [List.setIfInBounds_toArray]
     try simp only [List.set_cons_succ]
     try simp only [List.set_cons_zero]
     refine takeL 3 (v := ?_) rfl (some 38) rfl (by decide) (by kernel_rfl) (by kernel_rfl) (by kernel_rfl) (by kernel_rfl) (fun _ _ _ h => by obtain ⟨_, _, h, _⟩ := h; cases h) (Or.inl ⟨by rfl, ?_⟩) hSS ?_
     rotate_left
     ·(intro y hy; have j2 := hy.1.cell 2; have j3 := hy.1.cell 3; have q0 := hy.2 0 _ rfl; have q1 := hy.2 1 _ rfl; have q2 := hy.2 2 _ rfl; have q3 := hy.2 3 _ rfl; simp only [List.getElem?_cons_zero, List.getElem?_cons_succ, Nat.add_zero] at j2 j3 q0 q1 q2 q3; go_simp; with_reducible rfl)
     try simp only [Act.put]
     try simp only [List.setIfInBounds_toArray]
     try simp only [List.set_cons_succ]
     try simp only [List.set_cons_zero]
     refine takeL 4 (v := ?_) rfl (some 39) rfl (by decide) (by kernel_rfl) (by kernel_rfl) (by kernel_rfl) (by kernel_rfl) (fun _ _ _ h => by obtain ⟨_, _, h, _⟩ := h; cases h) (Or.inl ⟨by rfl, ?_⟩) hSS ?_
     rotate_left
     ·(intro y hy; have j2 := hy.1.cell 2; have j3 := hy.1.cell 3; have q0 := hy.2 0 _ rfl; have q1 := hy.2 1 _ rfl; have q2 := hy.2 2 _ rfl; have q3 := hy.2 3 _ rfl; simp only [List.getElem?_cons_zero, List.getElem?_cons_succ, Nat.add_zero] at j2 j3 q0 q1 q2 q3; go_simp; with_reducible rfl)
     try simp only [Act.put]
     try simp only [List.setIfInBounds_toArray]
     try simp only [List.set_cons_succ]
     try simp only [List.set_cons_zero]
     refine takeL 5 (v := ?_) rfl (some 40) rfl (by decide) (by kernel_rfl) (by kernel_rfl) (by kernel_rfl) (by kernel_rfl) (fun _ _ _ h => by obtain ⟨_, _, h, _⟩ := h; cases h) (Or.inl ⟨by rfl, ?_⟩) hSS ?_
     rotate_left
     ·(intro y hy; have j2 := hy.1.cell 2; have j3 := hy.1.cell 3; have q0 := hy.2 0 _ rfl; have q1 := hy.2 1 _ rfl; have q2 := hy.2 2 _ rfl; have q3 := hy.2 3 _ rfl; simp only [List.getElem?_cons_zero, List.getElem?_cons_succ, Nat.add_zero] at j2 j3 q0 q1 q2 q3; go_simp; with_reducible rfl)
     try simp only [Act.put]
     try simp only [List.setIfInBounds_toArray]
     try simp only [List.set_cons_succ]
     try simp only [List.set_cons_zero]
     refine takeL 6 (v := ?_) rfl (some 41) rfl (by decide) (by kernel_rfl) (by kernel_rfl) (by kernel_rfl) (by kernel_rfl) (fun _ _ _ h => by obtain ⟨_, _, h, _⟩ := h; cases h) (Or.inl ⟨by rfl, ?_⟩) hSS ?_
     rotate_left
     ·(intro y hy; have j2 := hy.1.cell 2; have j3 := hy.1.cell 3; have q0 := hy.2 0 _ rfl; have q1 := hy.2 1 _ rfl; have q2 := hy.2 2 _ rfl; have q3 := hy.2 3 _ rfl; simp only [List.getElem?_cons_zero, List.getElem?_cons_succ, Nat.add_zero] at j2 j3 q0 q1 q2 q3; go_simp; with_reducible rfl)
     try simp only [Act.put]
     try simp only [List.setIfInBounds_toArray]
     try simp only [List.set_cons_succ]
     try simp only [List.set_cons_zero]
     refine takeL 7 (v := ?_) rfl (some 42) rfl (by decide) (by kernel_rfl) (by kernel_rfl) (by kernel_rfl) (by kernel_rfl) (fun _ _ _ h => by obtain ⟨_, _, h, _⟩ := h; cases h) (Or.inl ⟨by rfl, ?_⟩) hSS ?_
     rotate_left
     ·(intro y hy; have j2 := hy.1.cell 2; have j3 := hy.1.cell 3; have q0 := hy.2 0 _ rfl; have q1 := hy.2 1 _ rfl; have q2 := hy.2 2 _ rfl; have q3 := hy.2 3 _ rfl; simp only [List.getElem?_cons_zero, List.getElem?_cons_succ, Nat.add_zero] at j2 j3 q0 q1 q2 q3; go_simp; with_reducible rfl)
     try simp only [Act.put]
     try simp only [List.setIfInBounds_toArray]
     try simp only [List.set_cons_succ]
     try simp only [List.set_cons_zero]
     refine takeL 8 (v := ?_) rfl (some 43) rfl (by decide) (by kernel_rfl) (by kernel_rfl) (by kernel_rfl) (by kernel_rfl) (fun _ _ _ h => by obtain ⟨_, _, h, _⟩ := h; cases h) (Or.inl ⟨by rfl, ?_⟩) hSS ?_
     rotate_left
     ·(intro y hy; have j2 := hy.1.cell 2; have j3 := hy.1.cell 3; have q0 := hy.2 0 _ rfl; have q1 := hy.2 1 _ rfl; have q2 := hy.2 2 _ rfl; have q3 := hy.2 3 _ rfl; simp only [List.getElem?_cons_zero, List.getElem?_cons_succ, Nat.add_zero] at j2 j3 q0 q1 q2 q3; go_simp; with_reducible rfl)
     try simp only [Act.put]
     try simp only [List.setIfInBounds_toArray]
     try simp only [List.set_cons_succ]
     try simp only [List.set_cons_zero]
     refine takeL 9 (v := ?_) rfl (some 44) rfl (by decide) (by kernel_rfl) (by kernel_rfl) (by kernel_rfl) (by kernel_rfl) (fun _ _ _ h => by obtain ⟨_, _, h, _⟩ := h; cases h) (Or.inl ⟨by rfl, ?_⟩) hSS ?_
     rotate_left
     ·(intro y hy; have j2 := hy.1.cell 2; have j3 := hy.1.cell 3; have q0 := hy.2 0 _ rfl; have q1 := hy.2 1 _ rfl; have q2 := hy.2 2 _ rfl; have q3 := hy.2 3 _ rfl; simp only [List.getElem?_cons_zero, List.getElem?_cons_succ, Nat.add_zero] at j2 j3 q0 q1 q2 q3; go_simp; with_reducible rfl)
     try simp only [Act.put]
     try simp only [List.setIfInBounds_toArray]
     try simp only [List.set_cons_succ]
     try simp only [List.set_cons_zero]
     refine takeL 10 (v := ?_) rfl (some 45) rfl (by decide) (by kernel_rfl) (by kernel_rfl) (by kernel_rfl) (by kernel_rfl) (fun _ _ _ h => by obtain ⟨_, _, h, _⟩ := h; cases h) (Or.inl ⟨by rfl, ?_⟩) hSS ?_
     rotate_left
     ·(intro y hy; have j2 := hy.1.cell 2; have j3 := hy.1.cell 3; have q0 := hy.2 0 _ rfl; have q1 := hy.2 1 _ rfl; have q2 := hy.2 2 _ rfl; have q3 := hy.2 3 _ rfl; simp only [List.getElem?_cons_zero, List.getElem?_cons_succ, Nat.add_zero] at j2 j3 q0 q1 q2 q3; go_simp; with_reducible rfl)
     try simp only [Act.put]
     try simp only [List.setIfInBounds_toArray]
     try simp only [List.set_cons_succ]
     try simp only [List.set_cons_zero]
     refine takeL 11 (v := ?_) rfl (some 46) rfl (by decide) (by kernel_rfl) (by kernel_rfl) (by kernel_rfl) (by kernel_rfl) (fun _ _ _ h => by obtain ⟨_, _, h, _⟩ := h; cases h) (Or.inl ⟨by rfl, ?_⟩) hSS ?_
     rotate_left
     ·(intro y hy; have j2 := hy.1.cell 2; have j3 := hy.1.cell 3; have q0 := hy.2 0 _ rfl; have q1 := hy.2 1 _ rfl; have q2 := hy.2 2 _ rfl; have q3 := hy.2 3 _ rfl; simp only [List.getElem?_cons_zero, List.getElem?_cons_succ, Nat.add_zero] at j2 j3 q0 q1 q2 q3; go_simp; with_reducible rfl)
     try simp only [Act.put]
     try simp only [List.setIfInBounds_toArray]
     try simp only [List.set_cons_succ]
     try simp only [List.set_cons_zero]
     refine readyL (rs := [12, 16]) (by kernel_rfl) (by simp) ?_
     refine ReadyL.cons rfl (fun KK hK => ?_) (ReadyL.cons rfl (fun KK hK => ?_) ReadyL.nil)
     ·refine wantR (by rfl) ?_
      go_simp
      refine (LFT.out _ HWD.out).mono ?_
      rintro _ w4q ⟨d, rfl, hbq, hqq⟩
      have hSS2 := (⟨hSS.1.below hbq hSS.1.lt, RGE.out _ (HWD.out.trans (below_le hbq HWD.out.size))⟩ : Row w4q w1.heap.size 84 [.bool x.pub, .string SX, .slice aL nv pL, .slice (some ⟨b1, o1, none⟩) nf pF, .int .i64 x.pos] /\ w4q.rangeAt b1 (o1 + k * 6 + 2) [t0, t1, t2, t3])
      have HBq := hidP (HWD.out.trans (below_le hbq HWD.out.size))
      refine hK.out _ _ (fun _ => hSS2) (fun _ => ?_)
      clear hK KK hSS
      have hSS := hSS2
      clear hSS2
      try simp only [Act.put]
      try simp only [List.setIfInBounds_toArray]
      try simp only [List.set_cons_succ]
      try simp only [List.set_cons_zero]
      refine takeL 13 (v := ?_) rfl (some 34) rfl (by decide) (by kernel_rfl) (by kernel_rfl) (by kernel_rfl) (by kernel_rfl) (fun _ _ _ h => by obtain ⟨_, _, h, _⟩ := h; cases h) (Or.inl ⟨by rfl, ?_⟩) hSS ?_
      rotate_left
      ·(intro y hy; have j2 := hy.1.cell 2; have j3 := hy.1.cell 3; have q0 := hy.2 0 _ rfl; have q1 := hy.2 1 _ rfl; have q2 := hy.2 2 _ rfl; have q3 := hy.2 3 _ rfl; simp only [List.getElem?_cons_zero, List.getElem?_cons_succ, Nat.add_zero] at j2 j3 q0 q1 q2 q3; go_simp; with_reducible rfl)
      try simp only [Act.put]
      try simp only [List.setIfInBounds_toArray]
      try simp only [List.set_cons_succ]
      try simp only [List.set_cons_zero]
      refine takeL 14 (v := ?_) rfl (some 48) rfl (by decide) (by kernel_rfl) (by kernel_rfl) (by kernel_rfl) (by kernel_rfl) (fun _ _ _ h => by obtain ⟨_, _, h, _⟩ := h; cases h) (Or.inl ⟨by rfl, ?_⟩) hSS ?_
      rotate_left
      ·(intro y hy; have j2 := hy.1.cell 2; have j3 := hy.1.cell 3; have q0 := hy.2 0 _ rfl; have q1 := hy.2 1 _ rfl; have q2 := hy.2 2 _ rfl; have q3 := hy.2 3 _ rfl; simp only [List.getElem?_cons_zero, List.getElem?_cons_succ, Nat.add_zero] at j2 j3 q0 q1 q2 q3; go_simp; with_reducible rfl)
      try simp only [Act.put]
      try simp only [List.setIfInBounds_toArray]
      try simp only [List.set_cons_succ]
      try simp only [List.set_cons_zero]
      refine takeL 15 (v := ?_) rfl (some 49) rfl (by decide) (by kernel_rfl) (by kernel_rfl) (by kernel_rfl) (by kernel_rfl) (fun _ _ _ h => by obtain ⟨_, _, h, _⟩ := h; cases h) (Or.inl ⟨by rfl, ?_⟩) hSS ?_
      rotate_left
      ·(intro y hy; have j2 := hy.1.cell 2; have j3 := hy.1.cell 3; have q0 := hy.2 0 _ rfl; have q1 := hy.2 1 _ rfl; have q2 := hy.2 2 _ rfl; have q3 := hy.2 3 _ rfl; simp only [List.getElem?_cons_zero, List.getElem?_cons_succ, Nat.add_zero] at j2 j3 q0 q1 q2 q3; go_simp; with_reducible rfl)
      try simp only [Act.put]
      try simp only [List.setIfInBounds_toArray]
      try simp only [List.set_cons_succ]
      try simp only [List.set_cons_zero]
      refine readyL (rs := [16]) (by kernel_rfl) (by simp) ?_
      refine ReadyL.cons rfl (fun KK hK => ?_) ReadyL.nil
      refine wantR (by rfl) ?_
      refine wpo_al25 rfl ?_
      intro w5q RAq BAq ZAq
      have hSS2 := (⟨hSS.1.below BAq hSS.1.lt, RGE.out _ (HBq.out.trans (below_le BAq HBq.out.size))⟩ : Row w5q w1.heap.size 84 [.bool x.pub, .string SX, .slice aL nv pL, .slice (some ⟨b1, o1, none⟩) nf pF, .int .i64 x.pos] /\ w5q.rangeAt b1 (o1 + k * 6 + 2) [t0, t1, t2, t3])
      have HBA := hidP (HBq.out.trans (below_le BAq HBq.out.size))
      have Q11 := hidP (show RtQ D (fun k => Fr w3 w5q k /\ k ≠ w4q.heap.size) B w5q d (liftN L x.lives D f'.ty (nv : Int)).1 from hqq.mono ⟨fun k hk => ⟨⟨Nat.le_trans HWD.out.size hk.1, Nat.lt_of_lt_of_le hk.2 BAq.size⟩, Nat.ne_of_lt hk.2⟩, fun k hk => BAq.block k hk.2⟩)
      have HB11 := HBA
      have RG11 := hidP RAq
      have hg11 := hidP (show w3.heap.size <= w4q.heap.size from HBq.out.size)
      refine hK.out (Act.put _ (some 11) _) _ (fun _ => hSS2) (fun _ => ?_)
      clear hK KK hSS
      have hSS := hSS2
      clear hSS2
      generalize hgg : w4q.heap.size = g11 at *
      try simp only [Act.put]
      try simp only [List.setIfInBounds_toArray]
      try simp only [List.set_cons_succ]
      try simp only [List.set_cons_zero]
      refine readyL (rs := [17]) (by kernel_rfl) (by simp) ?_
      refine ReadyL.cons rfl (fun KK hK => ?_) ReadyL.nil
      refine wantR (by rfl) ?_
      refine wpo_stR 25 (.tmp 11) (.tmp 48) rfl (cs := d) rfl rfl RG11.out (by rw [Q11.out.len]; exact Tryz.sz25) (by rw [Q11.out.len]; rfl) Q11.out.ones ?_
      intro wF RF SF
      have BF := hidP (HB11.out.trans (SF.below (C := w3.heap.size) HB11.out.size (fun q hq => by have : q = g11 := hq; have := hg11.out; omega)))
      have hSS2 := (⟨SF.row hSS.1 (by have := hg11.out; have := hz3.out; have := R83.out.lt; omega), RGE.out _ BF.out⟩ : Row wF w1.heap.size 84 [.bool x.pub, .string SX, .slice aL nv pL, .slice (some ⟨b1, o1, none⟩) nf pF, .int .i64 x.pos] /\ wF.rangeAt b1 (o1 + k * 6 + 2) [t0, t1, t2, t3])
      refine hK.out (Act.put _ none _) _ (fun _ => hSS2) (fun _ => ?_)
      clear hK KK hSS
      have hSS := hSS2
      clear hSS2
      try simp only [Act.put]
      try simp only [List.setIfInBounds_toArray]
      try simp only [List.set_cons_succ]
      try simp only [List.set_cons_zero]
      refine takeL 18 (v := ?_) rfl (some 12) rfl (by decide) (by kernel_rfl) (by kernel_rfl) (by kernel_rfl) (by kernel_rfl) (fun _ _ _ h => by obtain ⟨_, _, h, _⟩ := h; cases h) (Or.inl ⟨by rfl, ?_⟩) hSS ?_
      rotate_left
      ·(intro y hy; have j2 := hy.1.cell 2; have j3 := hy.1.cell 3; have q0 := hy.2 0 _ rfl; have q1 := hy.2 1 _ rfl; have q2 := hy.2 2 _ rfl; have q3 := hy.2 3 _ rfl; simp only [List.getElem?_cons_zero, List.getElem?_cons_succ, Nat.add_zero] at j2 j3 q0 q1 q2 q3; go_simp; with_reducible rfl)
      try simp only [Act.put]
      try simp only [List.setIfInBounds_toArray]
      try simp only [List.set_cons_succ]
      try simp only [List.set_cons_zero]
      have KF : Kp (fun k => Fr w3 w5q k /\ k ≠ g11) (Fr w3 wF) w5q wF := ⟨fun k hk => ⟨hk.1.1, Nat.lt_of_lt_of_le hk.1.2 SF.size⟩, fun k hk => SF.block k hk.1.2 hk.2⟩
      refine doneL (by kernel_rfl) ?_ _
      refine ⟨g11, d, rfl, ?_, hg11.out, BF.out, RF, Q11.out.mono KF⟩
      with_reducible rfl
     ·refine wantR (by rfl) ?_
      refine wpo_al25 rfl ?_
      intro w4q RAq BAq ZAq
      have hSS2 := (⟨hSS.1.below BAq hSS.1.lt, RGE.out _ (HWD.out.trans (below_le BAq HWD.out.size))⟩ : Row w4q w1.heap.size 84 [.bool x.pub, .string SX, .slice aL nv pL, .slice (some ⟨b1, o1, none⟩) nf pF, .int .i64 x.pos] /\ w4q.rangeAt b1 (o1 + k * 6 + 2) [t0, t1, t2, t3])
      have HBA := hidP (HWD.out.trans (below_le BAq HWD.out.size))
      have RG0 := hidP RAq
      have hg11 := hidP (show w3.heap.size <= w3.drew.heap.size from HWD.out.size)
      refine hK.out (Act.put _ (some 11) _) _ (fun _ => hSS2) (fun _ => ?_)
      clear hK KK hSS
      have hSS := hSS2
      clear hSS2
      generalize hgg : w3.drew.heap.size = g11 at *
      try simp only [Act.put]
      try simp only [List.setIfInBounds_toArray]
      try simp only [List.set_cons_succ]
      try simp only [List.set_cons_zero]
      refine readyL (rs := [12]) (by kernel_rfl) (by simp) ?_
      refine ReadyL.cons rfl (fun KK hK => ?_) ReadyL.nil
      refine wantR (by rfl) ?_
      go_simp
      refine (LFT.out _ HBA.out).mono ?_
      rintro _ w5q ⟨d, rfl, hbq, hqq⟩
      have hSS2 := (⟨hSS.1.below hbq hSS.1.lt, RGE.out _ (HBA.out.trans (below_le hbq HBA.out.size))⟩ : Row w5q w1.heap.size 84 [.bool x.pub, .string SX, .slice aL nv pL, .slice (some ⟨b1, o1, none⟩) nf pF, .int .i64 x.pos] /\ w5q.rangeAt b1 (o1 + k * 6 + 2) [t0, t1, t2, t3])
      have HBq := hidP (HBA.out.trans (below_le hbq HBA.out.size))
      have RG11 := hidP (RG0.out.below hbq RG0.out.lt)
      have HB11 := HBq
      have Q11 := hidP (show RtQ D (fun k => Fr w3 w5q k /\ k ≠ g11) B w5q d (liftN L x.lives D f'.ty (nv : Int)).1 from hqq.mono ⟨fun k hk => ⟨⟨Nat.le_trans HBA.out.size hk.1, hk.2⟩, fun e => by have := hk.1; have := RG0.out.lt; omega⟩, fun _ _ => rfl⟩)
      refine hK.out _ _ (fun _ => hSS2) (fun _ => ?_)
      clear hK KK hSS
      have hSS := hSS2
      clear hSS2
      try simp only [Act.put]
      try simp only [List.setIfInBounds_toArray]
      try simp only [List.set_cons_succ]
      try simp only [List.set_cons_zero]
      refine takeL 13 (v := ?_) rfl (some 34) rfl (by decide) (by kernel_rfl) (by kernel_rfl) (by kernel_rfl) (by kernel_rfl) (fun _ _ _ h => by obtain ⟨_, _, h, _⟩ := h; cases h) (Or.inl ⟨by rfl, ?_⟩) hSS ?_
      rotate_left
      ·(intro y hy; have j2 := hy.1.cell 2; have j3 := hy.1.cell 3; have q0 := hy.2 0 _ rfl; have q1 := hy.2 1 _ rfl; have q2 := hy.2 2 _ rfl; have q3 := hy.2 3 _ rfl; simp only [List.getElem?_cons_zero, List.getElem?_cons_succ, Nat.add_zero] at j2 j3 q0 q1 q2 q3; go_simp; with_reducible rfl)
      try simp only [Act.put]
      try simp only [List.setIfInBounds_toArray]
      try simp only [List.set_cons_succ]
      try simp only [List.set_cons_zero]
      refine takeL 14 (v := ?_) rfl (some 48) rfl (by decide) (by kernel_rfl) (by kernel_rfl) (by kernel_rfl) (by kernel_rfl) (fun _ _ _ h => by obtain ⟨_, _, h, _⟩ := h; cases h) (Or.inl ⟨by rfl, ?_⟩) hSS ?_
      rotate_left
      ·(intro y hy; have j2 := hy.1.cell 2; have j3 := hy.1.cell 3; have q0 := hy.2 0 _ rfl; have q1 := hy.2 1 _ rfl; have q2 := hy.2 2 _ rfl; have q3 := hy.2 3 _ rfl; simp only [List.getElem?_cons_zero, List.getElem?_cons_succ, Nat.add_zero] at j2 j3 q0 q1 q2 q3; go_simp; with_reducible rfl)
      try simp only [Act.put]
      try simp only [List.setIfInBounds_toArray]
      try simp only [List.set_cons_succ]
      try simp only [List.set_cons_zero]
      refine takeL 15 (v := ?_) rfl (some 49) rfl (by decide) (by kernel_rfl) (by kernel_rfl) (by kernel_rfl) (by kernel_rfl) (fun _ _ _ h => by obtain ⟨_, _, h, _⟩ := h; cases h) (Or.inl ⟨by rfl, ?_⟩) hSS ?_
      rotate_left
      ·(intro y hy; have j2 := hy.1.cell 2; have j3 := hy.1.cell 3; have q0 := hy.2 0 _ rfl; have q1 := hy.2 1 _ rfl; have q2 := hy.2 2 _ rfl; have q3 := hy.2 3 _ rfl; simp only [List.getElem?_cons_zero, List.getElem?_cons_succ, Nat.add_zero] at j2 j3 q0 q1 q2 q3; go_simp; with_reducible rfl)
      try simp only [Act.put]
      try simp only [List.setIfInBounds_toArray]
      try simp only [List.set_cons_succ]
      try simp only [List.set_cons_zero]
      refine readyL (rs := [17]) (by kernel_rfl) (by simp) ?_
      refine ReadyL.cons rfl (fun KK hK => ?_) ReadyL.nil
      refine wantR (by rfl) ?_
      refine wpo_stR 25 (.tmp 11) (.tmp 48) rfl (cs := d) rfl rfl RG11.out (by rw [Q11.out.len]; exact Tryz.sz25) (by rw [Q11.out.len]; rfl) Q11.out.ones ?_
      intro wF RF SF
      have BF := hidP (HB11.out.trans (SF.below (C := w3.heap.size) HB11.out.size (fun q hq => by have : q = g11 := hq; have := hg11.out; omega)))
      have hSS2 := (⟨SF.row hSS.1 (by have := hg11.out; have := hz3.out; have := R83.out.lt; omega), RGE.out _ BF.out⟩ : Row wF w1.heap.size 84 [.bool x.pub, .string SX, .slice aL nv pL, .slice (some ⟨b1, o1, none⟩) nf pF, .int .i64 x.pos] /\ wF.rangeAt b1 (o1 + k * 6 + 2) [t0, t1, t2, t3])
      refine hK.out (Act.put _ none _) _ (fun _ => hSS2) (fun _ => ?_)
      clear hK KK hSS
      have hSS := hSS2
      clear hSS2
      try simp only [Act.put]
      try simp only [List.setIfInBounds_toArray]
      try simp only [List.set_cons_succ]
      try simp only [List.set_cons_zero]
      refine takeL 18 (v := ?_) rfl (some 12) rfl (by decide) (by kernel_rfl) (by kernel_rfl) (by kernel_rfl) (by kernel_rfl) (fun _ _ _ h => by obtain ⟨_, _, h, _⟩ := h; cases h) (Or.inl ⟨by rfl, ?_⟩) hSS ?_
      rotate_left
      ·(intro y hy; have j2 := hy.1.cell 2; have j3 := hy.1.cell 3; have q0 := hy.2 0 _ rfl; have q1 := hy.2 1 _ rfl; have q2 := hy.2 2 _ rfl; have q3 := hy.2 3 _ rfl; simp only [List.getElem?_cons_zero, List.getElem?_cons_succ, Nat.add_zero] at j2 j3 q0 q1 q2 q3; go_simp; with_reducible rfl)
      try simp only [Act.put]
      try simp only [List.setIfInBounds_toArray]
      try simp only [List.set_cons_succ]
      try simp only [List.set_cons_zero]
      have KF : Kp (fun k => Fr w3 w5q k /\ k ≠ g11) (Fr w3 wF) w5q wF := ⟨fun k hk => ⟨hk.1.1, Nat.lt_of_lt_of_le hk.1.2 SF.size⟩, fun k hk => SF.block k hk.1.2 hk.2⟩
      refine doneL (by kernel_rfl) ?_ _
      refine ⟨g11, d, rfl, ?_, hg11.out, BF.out, RF, Q11.out.mono KF⟩
      with_reducible rfl
    ·rintro g11 d w4 ⟨hg11, hb4, hr4, hq4⟩
     have B4 := hidP (B3.out.trans (below_le hb4 B3.out.size))
     have R44 := hidP (R43.out.below hb4 R43.out.lt)
     have R64 := hidP (R63.out.below hb4 R63.out.lt)
     have R11 := hidP hr4
     have s11 := hidP (show (Tryz.prog.info? 25).map (·.size) = some d.length by rw [hq4.len]; exact Tryz.sz25)
     rw [HNV.out] at HQ FITL
     have y2 := R44.out.cell 2
     simp only [List.getElem?_cons_zero, List.getElem?_cons_succ] at y2
     generalize (liftN L x.lives D f'.ty (nv : Int)).1 = LT at *
     have SUB := hidP (subst23 D (K := K.up w4.heap.size) (RtQ.to (K := K.up w4.heap.size) rfl (fun k hk => hk.2) (hq4.wide hKB)) FITL.out (Ar.up (HRG.out w4 B4.out) (show K.C <= w4.heap.size from Nat.le_trans HC.out B4.out.size) fun _ _ _ h => h) (Nat.le_refl _))
     clear R43 R63 R83 hb4 hr4 hq4 hg11 LFT RGE FITL HRG HS
     go_wp2_with (first | (refine ldR rfl 25 (.tmp 11) rfl rfl R11.out Tryz.underlying25 rfl s11.out ?_))
     refine SUB.out.mono ?_
     rintro _ w5 ⟨cc, rfl, hb5, hq5⟩
     obtain ⟨c0, c1, c2, c3, rfl⟩ : ∃ d0 d1 d2 d3, cc = [d0, d1, d2, d3] := by
      match cc, hq5.len with
      | [d0, d1, d2, d3], _ => exact ⟨_, _, _, _, rfl⟩
     have B5 := hidP (B4.out.trans (below_le hb5 B4.out.size))
     have R65 := hidP (R64.out.below hb5 R64.out.lt)
     have Q5 := hidP hq5
     have hlt6 := hidP R64.out.lt
     have sc := hidP (show (Tryz.prog.info? 25).map (·.size) = some [c0, c1, c2, c3].length from Tryz.sz25)
     clear SUB R44 R64 R11 s11 hb5 hq5 y2
     go_wp2_with (first | (refine stR rfl 25 (.tmp 6) (.tmp 53) rfl (cs := [c0, c1, c2, c3]) rfl rfl R65.out Tryz.sz25 rfl Q5.out.ones ?_; intro wF RF SF; apply shut))
     show wpList _ _ _ _ _ _
     have BF := hidP (B5.out.trans (SF.below (C := w.heap.size) B5.out.size (fun q hq => by have : q = w.heap.size + 1 + 1 := hq; omega)))
     have QF := hidP (show RtQ (n + 1) (Fr w wF) K.B wF [c0, c1, c2, c3] (subN D t.regs LT) from (Q5.out.mono (kp_stay (w0 := w) SF (fun k e => by have : k = w.heap.size + 1 + 1 := e; have := hlt6.out; omega) B4.out.size)).upto hD)
     replace RF := hidP RF
     clear SF
     go_wp2_with fail
     exact bodyPost_ret (v := .tuple #[.agg #[c0, c1, c2, c3], .int .i64 0]) (results_cell_row2 Tryz.results76 _ _ (w.heap.size + 1 + 1) 25 _ (0, 0) _ rfl RF.out.heap Tryz.underlying25 rfl (by kernel_rfl)) rfl ⟨[c0, c1, c2, c3], by rw [HQ.out], BF.out, by rw [HQ.out]; exact QF.out⟩
 ·have HQ := hidP (fld_no (L := L) (D := D) (nm := nm) (by rw [HKD.out]; exact hk))
  have e3 : (kd == 3) = false := by simpa using hk
  clear HT HS HRG hk R4 R5 HZ
  have hw := HW.out
  subst hw
  clear HW
  go_enter Tryz.func76, Tryz.ntmps76
  go_wp2_with (first | (refine stR rfl 25 (.tmp 6) (.tmp 16) rfl (cs := [.int .i64 0, .string ⟨#[]⟩, .slice none 0 0, .slice none 0 0]) rfl rfl R6.out Tryz.sz25 rfl (ones_cons rfl (ones_cons rfl (ones_cons rfl (ones_cons rfl ones_nil)))) ?_; intro wF RF SF; apply shut))
  show wpList _ _ _ _ _ _
  have BF := hidP (HA.out.trans (SF.below (C := w.heap.size) HA.out.size (fun q hq => by have : q = w.heap.size + 1 + 1 := hq; omega)))
  replace RF := hidP RF
  clear SF
  go_wp2_with fail
  exact bodyPost_ret (v := .tuple #[.agg #[.int .i64 0, .string ⟨#[]⟩, .slice none 0 0, .slice none 0 0], .int .i64 25]) (results_cell_row2 Tryz.results76 _ _ (w.heap.size + 1 + 1) 25 _ (0, 0) _ rfl RF.out.heap Tryz.underlying25 rfl (by kernel_rfl)) rfl ⟨[.int .i64 0, .string ⟨#[]⟩, .slice none 0 0, .slice none 0 0], by rw [HQ.out], BF.out, by rw [HQ.out]; exact rt_zero⟩
end Go.Proofs.YtldbbkheemnnhaaGreatDoor
