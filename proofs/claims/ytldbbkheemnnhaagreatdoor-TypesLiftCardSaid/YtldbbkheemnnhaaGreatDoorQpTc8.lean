/-
  What a scope says of types that are right.
-/
import Derived.Test.YtldbbkheemnnhaaGreatDoorJpMp84
import Derived.Deep.LoopGhost
namespace Go.Proofs.YtldbbkheemnnhaaGreatDoor
open Go.RowKit Go.Maps
theorem Tryz.sz36 : (Tryz.prog.info? 36).map (·.size) = some 4 := by kernel_rfl
set_option maxHeartbeats 2000000 in
theorem refers_yes (k : Int) (h : k = 4 ∨ k = 5) (w : World) : Calls Tryz.prog 134 #[.int .i64 k] w fun ev w' => ev = .returned (.bool true) /\ w' = w := by
 rcases h with rfl | rfl
 all_goals
  go_enter Tryz.func134, Tryz.ntmps134
  go_wp2_with fail
  go_ret
  exact ⟨by simp, rfl⟩
set_option maxHeartbeats 2000000 in
theorem refers_no (k : Int) (h : k ≠ 4 /\ k ≠ 5) (w : World) : Calls Tryz.prog 134 #[.int .i64 k] w fun ev w' => ev = .returned (.bool false) /\ w' = w := by
 obtain ⟨h1, h2⟩ := h
 have e1 : (k == 4) = false := by simpa using h1
 have e2 : (k == 5) = false := by simpa using h2
 go_enter Tryz.func134, Tryz.ntmps134
 go_wp2_with fail
 go_ret
 exact ⟨by simp_all, rfl⟩
set_option maxHeartbeats 2000000 in
theorem as_nil (v : Value) (w : World) : Calls Tryz.prog 207 #[.nilIface, v] w fun ev w' => ev = .returned (.bool false) /\ w' = w := by
 go_enter Tryz.func207, Tryz.ntmps207
 go_wp2_with fail
 go_ret
 exact ⟨rfl, rfl⟩
set_option maxHeartbeats 2000000 in
theorem new_ok (n : Int) (w : World) : Calls Tryz.prog 47 #[.int .i64 0, .int .i64 n] w fun ev w' => ev = .returned .nilIface /\ w' = w := by
 go_enter Tryz.func47, Tryz.ntmps47
 go_wp2_with fail
 go_ret
 exact ⟨rfl, rfl⟩
set_option maxHeartbeats 2000000 in
theorem codeOf_nil (w : World) : Calls Tryz.prog 181 #[.nilIface] w fun ev w' => ev = .returned (.int .i64 0) /\ Below w.heap.size w w' := by
 have C := fun v w => as_nil v w
 go_enter Tryz.func181, Tryz.ntmps181
 go_wp2_with fail
 refine (C _ _).mono ?_
 rintro _ _ ⟨rfl, rfl⟩
 go_wp2_with fail
 go_ret
 exact ⟨rfl, alloc_one _ _⟩
set_option maxHeartbeats 2000000 in
theorem isSame_yes (S : ByteArray) (w : World) : Calls Tryz.prog 136 #[.string S, .string S] w fun ev w' => ev = .returned (.bool true) /\ w' = w := by
 go_enter Tryz.func136, Tryz.ntmps136
 go_wp2_with fail
 go_ret
 exact ⟨by simp, rfl⟩
def okT (L : List Sct) (lv : List Bs) : Nat -> Ty -> Prop
 | 0, _ => False
 | n + 1, t => (t.kind = 1 ∨ t.kind = 2) ∨ (t.kind = 3 /\ ∃ x ∈ L, x.name = t.name /\ t.lives.length = x.lives.length /\ ∀ l ∈ t.lives, l ∈ lv) ∨ ((t.kind = 4 ∨ t.kind = 5) /\ ∃ a e, t.lives = [a] /\ t.elem = [e] /\ a ∈ lv /\ (∀ l ∈ e.lives, l = a) /\ okT L lv n e)
def okT0 (L : List Sct) (lv : List Bs) (n : Nat) (t : Ty) : Prop := okT L lv n t
section
variable {Q : Nat -> Prop} {B : Nat} {w : World} {g b c : Nat} {L : List Sct}
set_option maxHeartbeats 8000000 in
set_option maxRecDepth 20000 in
theorem structCode_yes {K : Ctx} {n : Nat} (H : Scp Q B w g b c L) {sb : Nat} {l : List Bs} (hs : Mp w sb (un l)) {cs : List Value} {t : Ty} (ht : TyAt n K w cs t) (hC : K.C <= w.heap.size) {x : Sct} (hx : x ∈ L) (hn : x.name = t.name) (hl : t.lives.length = x.lives.length) (hin : ∀ y ∈ t.lives, y ∈ l) (h70 : t.lives.length <= 1000) :
  Calls Tryz.prog 236 #[.pointer (some ⟨g, 0, none⟩), .agg cs.toArray, .map (some sb), .bool false] w fun ev w' => ev = .returned (.int .i64 0) /\ Below w.heap.size w w' := by
 have hsm := K.small
 obtain ⟨n, rfl⟩ : ∃ m, n = m + 1 := by
  cases n with
  | zero => exact ht.elim
  | succ m => exact ⟨m, rfl⟩
 obtain ⟨v2, v3, rfl, hB, h2, h3⟩ := ht
 obtain ⟨a2, p2, rfl⟩ := Ar.form h2
 obtain ⟨a3, p3, rfl⟩ := Ar.form h3
 have hA := alloc_one w (.cells #[.int .i64 t.kind, .string (str t.name), .slice a2 t.lives.length p2, .slice a3 t.elem.length p3] 36)
 obtain ⟨cx, qx, FX⟩ := find_yes (H.past hA) hx (by rw [hn]; omega)
 rw [hn] at FX
 obtain ⟨x2, x3, rfl, _, q2, q3⟩ := qx
 obtain ⟨a4, p4, rfl⟩ := ArQ.form q2
 obtain ⟨a5, p5, rfl⟩ := ArQ.form q3
 have FX' := hidP FX
 have RT : Hid (Row (w.alloc (.cells #[.int .i64 t.kind, .string (str t.name), .slice a2 t.lives.length p2, .slice a3 t.elem.length p3] 36)) w.heap.size 36 [.int .i64 t.kind, .string (str t.name), .slice a2 t.lives.length p2, .slice a3 t.elem.length p3]) := Row.new w 36 _
 have HA := hidP hA
 have HH : Hid (∀ y, Below w.heap.size w y -> Calls Tryz.prog 178 #[.map (some sb), .slice a2 t.lives.length p2] y fun ev w' => ev = .returned (.bool true) /\ Below y.heap.size y w') := fun y hy => hasAll_any (K := K) (hs.below hy) (h2.below (below_le hy hC)) (Nat.le_trans hC hy.size) hin (by omega)
 have hsz0 : Hid ((w.alloc (.cells #[.int .i64 t.kind, .string (str t.name), .slice a2 t.lives.length p2, .slice a3 t.elem.length p3] 36)).heap.size = w.heap.size + 1) := size_alloc _ _
 have one5 : ∀ u ∈ [Value.bool x.pub, .string (str x.name), .slice a4 x.lives.length p4, .slice a5 x.fields.length p5, .int .i64 x.pos], u.oneCell' = true := by intro u hu; simp only [List.mem_cons, List.not_mem_nil, or_false] at hu; rcases hu with rfl | rfl | rfl | rfl | rfl <;> rfl
 have one5 := hidP one5
 have hne : ((t.lives.length : Int) != (x.lives.length : Int)) = false := by rw [hl]; simp
 clear H hs hx hin h2 h3 q2 q3 hA FX hn hB
 rw [hl] at hne HH RT HA hsz0 FX' h70 ⊢
 generalize x.lives.length = nl at *
 generalize t.elem.length = ne at *
 generalize x.fields.length = nf at *
 generalize str t.name = SN at *
 generalize str x.name = SX at *
 generalize t.kind = kd at *
 clear hl
 go_enter Tryz.func236, Tryz.ntmps236
 go_wp2_with fail
 refine FX'.out.mono ?_
 rintro _ w1 ⟨rfl, hb1⟩
 have R1 := hidP (RT.out.below hb1 RT.out.lt)
 have HB1 := hidP (HA.out.trans (below_le hb1 (by rw [hsz0.out]; omega)))
 have RN : Hid (Row (w1.alloc (.cells z84.toArray 84)) w1.heap.size 84 z84) := Row.new w1 84 z84
 have HBN := hidP (alloc_one w1 (.cells z84.toArray 84))
 have hz1 := hb1.size
 clear FX' hb1 RT HA
 unfold z84 at *
 go_wp2_with (first | (refine stR rfl 84 (.tmp 9) (.tmp 17) rfl (cs := [.bool x.pub, .string SX, .slice a4 nl p4, .slice a5 nf p5, .int .i64 x.pos]) rfl rfl RN.out Tryz.sz84 rfl one5.out ?_; intro w2 R2 S2; apply shut))
 show wpList _ _ _ _ _ _
 have R3 := hidP (S2.row (R1.out.below HBN.out R1.out.lt) (by have := R1.out.lt; omega))
 have HB2 := hidP (HB1.out.trans (below_le (HBN.out.trans (S2.below (C := w1.heap.size) HBN.out.size (fun q hq => by omega))) HB1.out.size))
 have c2 := R2.cell 2
 have d2 := R3.out.cell 2
 simp only [List.getElem?_cons_zero, List.getElem?_cons_succ] at c2 d2
 have HC := hidP (HH.out w2 HB2.out)
 clear R1 RN HBN S2 R2 R3 HB1
 go_wp2_with fail
 refine HC.out.mono ?_
 rintro _ w3 ⟨rfl, hb3⟩
 have HB3 := hidP (HB2.out.trans (below_le hb3 HB2.out.size))
 clear HC hb3 HB2
 go_wp2_with fail
 go_ret
 exact ⟨rfl, HB3.out⟩
theorem ar_one {α : Type} {z bz : Nat} {P : List Value -> α -> Prop} {K : Ctx} {w : World} {a : Option Addr} {n p : Nat} {x : α} (h : Ar z bz P K w (.slice a n p) [x]) : ∃ b o, a = some ⟨b, o, none⟩ /\ b < K.C /\ ∃ cs, cs.length = z /\ w.rangeAt b o cs /\ P cs x := by
 obtain ⟨ao, cap, e, _, _, h3⟩ := h.shape
 cases e
 obtain ⟨b, o, e1, hb, cs, hl, hc, hp⟩ := h3 0 (by simp)
 refine ⟨b, o, e1, hb, cs, hl, fun j u hj => ?_, hp⟩
 have hj2 : j < z := by
  rcases Nat.lt_or_ge j z with h' | h'
  ·exact h'
  ·rw [List.getElem?_eq_none (by omega)] at hj; cases hj
 have := hc j hj2
 rw [Nat.zero_mul, Nat.add_zero] at this
 rw [this]; exact hj
set_option maxHeartbeats 16000000 in
set_option maxRecDepth 20000 in
theorem typeCode_yes {K : Ctx} {n : Nat} (H : Scp Q B w g b c L) {sb : Nat} {l : List Bs} (hs : Mp w sb (un l)) {cs : List Value} {t : Ty} (ht : TyAt n K w cs t) (hC : K.C <= w.heap.size) (hL : ∀ x ∈ L, x.lives.length <= 1000) {d : Nat} (hok : okT L l d t) :
  Calls Tryz.prog 208 #[.pointer (some ⟨g, 0, none⟩), .agg cs.toArray, .map (some sb), .bool false] w fun ev w' => ev = .returned (.int .i64 0) /\ Below w.heap.size w w' := by
 have hsm := K.small
 have HA := hidP (alloc_one w (.cells cs.toArray 36))
 have R0 : Hid (Row (w.alloc (.cells cs.toArray 36)) w.heap.size 36 cs) := Row.new w 36 cs
 have hsz0 : Hid ((w.alloc (.cells cs.toArray 36)).heap.size = w.heap.size + 1) := size_alloc _ _
 have HT0 : Hid (TyAt n K (w.alloc (.cells cs.toArray 36)) cs t) := ht.below (below_le HA.out hC)
 have HSC : Hid (∀ y, Below w.heap.size w y -> ∀ (n' : Nat) (cs' : List Value) (t' : Ty), TyAt n' K y cs' t' -> t'.kind = 3 -> (∃ x ∈ L, x.name = t'.name /\ t'.lives.length = x.lives.length /\ ∀ z ∈ t'.lives, z ∈ l) -> Calls Tryz.prog 236 #[.pointer (some ⟨g, 0, none⟩), .agg cs'.toArray, .map (some sb), .bool false] y fun ev w' => ev = .returned (.int .i64 0) /\ Below y.heap.size y w') := by
  rintro y hy n' cs' t' ht' _ ⟨x, hx, h1, h2, h3⟩
  exact structCode_yes (H.past hy) (hs.below hy) ht' (Nat.le_trans hC hy.size) hx h1 h2 h3 (by rw [h2]; exact hL x hx)
 have HHA : Hid (∀ y, Below w.heap.size w y -> ∀ v a, Strs K y v [a] -> a ∈ l -> Calls Tryz.prog 178 #[.map (some sb), v] y fun ev w' => ev = .returned (.bool true) /\ Below y.heap.size y w') := fun y hy v a hv ha => hasAll_any (K := K) (hs.below hy) hv (Nat.le_trans hC hy.size) (by intro x hx; rw [List.mem_singleton] at hx; rw [hx]; exact ha) (by simp)
 have HC := hidP hC
 clear ht H hs
 go_enter Tryz.func208, Tryz.ntmps208
 go_wp2_with fail
 go_loopg [9] d (fun k _ wr => ∃ (t' : Ty) (cs' : List Value) (n' : Nat), Row wr w.heap.size 36 cs' /\ TyAt n' K wr cs' t' /\ okT L l k t' /\ Below w.heap.size w wr)
 case atStart => exact ⟨t, cs, n, R0.out, HT0.out, hok, HA.out⟩
 case round =>
  obtain ⟨t', cs', n', hr, htt, hkk, hb⟩ := hrel
  clear R0 HT0 HA hok hsz0
  obtain ⟨k', rfl⟩ : ∃ k', gk = k' + 1 := by
   cases gk with
   | zero => exact hkk.elim
   | succ k => exact ⟨k, rfl⟩
  obtain ⟨n', rfl⟩ : ∃ m, n' = m + 1 := by
   cases n' with
   | zero => exact htt.elim
   | succ m => exact ⟨m, rfl⟩
  have HTT := hidP htt
  obtain ⟨v2, v3, rfl, hB, h2, h3⟩ := htt
  obtain ⟨a2, p2, rfl⟩ := Ar.form h2
  obtain ⟨a3, p3, rfl⟩ := Ar.form h3
  have x0 := hr.cell 0
  have x2 := hr.cell 2
  have x3 := hr.cell 3
  simp only [List.getElem?_cons_zero, List.getElem?_cons_succ] at x0 x2 x3
  rcases hkk with hk | ⟨hk, hx⟩ | ⟨hk, a, e, e1, e2, ha, he, hke⟩
  ·have RN := hidP (refers_no t'.kind (by rcases hk with h | h <;> rw [h] <;> decide) wr)
   have hb' := hidP hb
   have hbool : (t'.kind == 1) = true ∨ (t'.kind == 1) = false /\ (t'.kind == 2) = true := by rcases hk with h | h <;> rw [h] <;> decide
   clear h2 h3 HTT hk hr hb
   generalize t'.kind = kd at *
   generalize str t'.name = SN at *
   rcases hbool with q1 | ⟨q1, q2⟩
   ·go_wp2_with fail
    refine RN.out.mono ?_
    rintro _ _ ⟨rfl, rfl⟩
    go_wp2_with fail
    go_ret
    exact ⟨rfl, hb'.out⟩
   ·go_wp2_with fail
    refine RN.out.mono ?_
    rintro _ _ ⟨rfl, rfl⟩
    go_wp2_with fail
    go_ret
    exact ⟨rfl, hb'.out⟩
  ·have RN := hidP (refers_no t'.kind (by rw [hk]; decide) wr)
   have hb' := hidP hb
   have q1 : (t'.kind == 1) = false := by rw [hk]; rfl
   have q2 : (t'.kind == 2) = false := by rw [hk]; rfl
   have q3 : (t'.kind == 3) = true := by rw [hk]; rfl
   have SC := hidP (HSC.out wr hb _ _ _ HTT.out hk hx)
   have hr' := hidP hr
   clear h2 h3 HTT hk hr hb hx
   generalize t'.kind = kd at *
   generalize str t'.name = SN at *
   generalize t'.lives.length = nl at *
   generalize t'.elem.length = ne at *
   go_wp2_with fail
   refine RN.out.mono ?_
   rintro _ _ ⟨rfl, rfl⟩
   go_wp2_with (first | (refine ldR rfl 36 (.tmp 5) rfl rfl hr'.out Tryz.underlying36 rfl Tryz.sz36 ?_; apply shut))
   show wpList _ _ _ _ _ _
   go_wp2_with fail
   refine SC.out.mono ?_
   rintro _ w2 ⟨rfl, hb2⟩
   have HB2 := hidP (hb'.out.trans (below_le hb2 hb'.out.size))
   clear SC hb2 hb'
   go_wp2_with fail
   go_ret
   exact ⟨rfl, HB2.out⟩
  ·have RN := hidP (refers_yes t'.kind hk wr)
   have HA := hidP (HHA.out wr hb (.slice a2 t'.lives.length p2) a (by rw [← e1]; exact h2) ha)
   rw [e1] at HA x2
   rw [e2] at x3
   rw [e1, e2] at hr
   have hr : Row wr w.heap.size 36 [.int .i64 t'.kind, .string (str t'.name), .slice a2 1 p2, .slice a3 1 p3] := hr
   have h3' : Ar 4 72 (TyAt n' K wr) K wr (.slice a3 [e].length p3) [e] := by rw [← e2]; exact h3
   obtain ⟨b', o', rfl, hbC, ce, hcl, hrg, hte⟩ := ar_one h3'
   have hb' := hidP hb
   have HR := hidP hr
   have HTE := hidP hte
   have HKE := hidP hke
   have i1 : (0 : Int) < (([e].length : Nat) : Int) := by simp
   have i2 : ((([a].length : Nat) : Int) == 0) = false := by simp
   have i3 : ((([e].length : Nat) : Int) == 0) = false := by simp
   have HRG := hidP hrg
   have hcl' := hidP hcl
   have hone := hidP hte.one
   have hszr := hidP (Nat.le_trans hC hb.size)
   clear h2 h3 HTT hk hr hb h3' hte hke hrg hcl he e1 e2 hbC
   have hnl : [a].length = 1 := rfl
   have hne : [e].length = 1 := rfl
   rw [hnl] at i2 x2 HA
   rw [hne] at i1 i3 x3
   clear hnl hne
   generalize t'.kind = kd at *
   generalize str t'.name = SN at *
   go_wp2_with fail
   refine RN.out.mono ?_
   rintro _ _ ⟨rfl, rfl⟩
   go_wp2_with fail
   refine HA.out.mono ?_
   rintro _ w2 ⟨rfl, hb2⟩
   have HB2 := hidP (hb'.out.trans (below_le hb2 hb'.out.size))
   have R2 := HR.out.below hb2 HR.out.lt
   have y3 := R2.cell 3
   simp only [List.getElem?_cons_zero, List.getElem?_cons_succ] at y3
   have RG2 := hidP (range_below HRG.out hb2)
   have R2' := hidP R2
   have hB2 := hidP hb2
   clear HA hb2 HR HRG hb' R2 x0 x2 x3
   go_wp2_with (first | (refine wpList_load_mid rfl 36 (.tmp 33) rfl b' o' rfl ce _ RG2.out Tryz.underlying36 rfl (by rw [Tryz.sz36, hcl'.out]) ?_; apply shut))
   show wpList _ _ _ _ _ _
   refine stR rfl 36 (.tmp 5) (.tmp 34) rfl (cs := ce) rfl rfl R2'.out (by rw [Tryz.sz36, hcl'.out]) (by rw [hcl'.out]; rfl) hone.out ?_
   intro w3 R3 S3
   have HB3 := hidP (HB2.out.trans (S3.below (C := w.heap.size) HB2.out.size (fun q hq => by omega)))
   have HT3 := hidP (HTE.out.below ((below_le hB2.out hszr.out).trans (S3.below (C := K.C) (by have := HC.out; have := HB2.out.size; omega) (fun q hq => by have := HC.out; omega))))
   replace R3 := hidP R3
   clear R2' RG2 S3 HB2 hB2
   go_wp2_with fail
   go_roundg (k')
   case measure => omega
   case rel => exact ⟨e, ce, n', R3.out, HT3.out, HKE.out, HB3.out⟩
end
set_option maxHeartbeats 16000000 in
set_option maxRecDepth 20000 in
theorem isWell_yes {w : World} {K : Ctx} {n : Nat} {cs : List Value} {t : Ty} (ht : TyAt n K w cs t) (hC : K.C <= w.heap.size) {L : List Sct} {l : List Bs} {d : Nat} (hok : okT L l d t) :
  Calls Tryz.prog 183 #[.agg cs.toArray, .func (.func 136) #[] #[]] w fun ev w' => ev = .returned (.bool true) /\ Below w.heap.size w w' := by
 have hsm := K.small
 have HA := hidP (alloc_one w (.cells cs.toArray 36))
 have R0 : Hid (Row (w.alloc (.cells cs.toArray 36)) w.heap.size 36 cs) := Row.new w 36 cs
 have HT0 : Hid (TyAt n K (w.alloc (.cells cs.toArray 36)) cs t) := ht.below (below_le HA.out hC)
 have HC := hidP hC
 have HIS := hidP isSame_yes
 clear ht
 go_enter Tryz.func183, Tryz.ntmps183
 go_wp2_with fail
 go_loopg [11] d (fun k _ wr => ∃ (t' : Ty) (cs' : List Value) (n' : Nat), Row wr w.heap.size 36 cs' /\ TyAt n' K wr cs' t' /\ okT L l k t' /\ Below w.heap.size w wr)
 case atStart => exact ⟨t, cs, n, R0.out, HT0.out, hok, HA.out⟩
 case round =>
  obtain ⟨t', cs', n', hr, htt, hkk, hb⟩ := hrel
  clear R0 HT0 HA hok
  obtain ⟨k', rfl⟩ : ∃ k', gk = k' + 1 := by
   cases gk with
   | zero => exact hkk.elim
   | succ k => exact ⟨k, rfl⟩
  obtain ⟨n', rfl⟩ : ∃ m, n' = m + 1 := by
   cases n' with
   | zero => exact htt.elim
   | succ m => exact ⟨m, rfl⟩
  obtain ⟨v2, v3, rfl, hB', h2, h3⟩ := htt
  obtain ⟨a2, p2, rfl⟩ := Ar.form h2
  obtain ⟨a3, p3, rfl⟩ := Ar.form h3
  have hcase : (t'.kind ≠ 4 /\ t'.kind ≠ 5) ∨ ((t'.kind = 4 ∨ t'.kind = 5) /\ ∃ a e, t'.lives = [a] /\ t'.elem = [e] /\ a ∈ l /\ (∀ z ∈ e.lives, z = a) /\ okT L l k' e) := by
   rcases hkk with h | ⟨h, _⟩ | h
   ·left; rcases h with h | h <;> rw [h] <;> decide
   ·left; rw [h]; decide
   ·exact .inr h
  clear hkk
  rcases hcase with hk | ⟨hk, a, e, e1, e2, ha, he, hke⟩
  ·have RN := hidP (refers_no t'.kind hk wr)
   have x0 := hr.cell 0
   simp only [List.getElem?_cons_zero] at x0
   have hb' := hidP hb
   clear h2 h3 hk hr hb
   generalize t'.kind = kd at *
   go_wp2_with fail
   refine RN.out.mono ?_
   rintro _ _ ⟨rfl, rfl⟩
   go_wp2_with fail
   go_ret
   exact ⟨rfl, hb'.out⟩
  ·have RN := hidP (refers_yes t'.kind hk wr)
   rw [e1, e2] at hr
   have hr : Row wr w.heap.size 36 [.int .i64 t'.kind, .string (str t'.name), .slice a2 1 p2, .slice a3 1 p3] := hr
   rw [e1] at h2
   rw [e2] at h3
   obtain ⟨b2, o2, rfl, hbC2, c2, hc2, hrg2, htx⟩ := ar_one h2
   obtain ⟨b', o', rfl, hbC, ce, hcl, hrg, hte⟩ := ar_one h3
   obtain ⟨rfl, hBa⟩ := htx
   have y2 := hrg2 0 (.string (str a)) rfl
   rw [Nat.add_zero] at y2
   have x0 := hr.cell 0
   have x2 := hr.cell 2
   have x3 := hr.cell 3
   simp only [List.getElem?_cons_zero, List.getElem?_cons_succ] at x0 x2 x3
   have hb' := hidP hb
   have HR := hidP hr
   have HTE := hidP hte
   have HKE := hidP hke
   have HRG := hidP hrg
   have hcl' := hidP hcl
   have hone := hidP hte.one
   have hszr := hidP (Nat.le_trans hC hb.size)
   have HE := hidP he
   clear h2 h3 hk hr hb hte hke hrg hcl he e1 e2 hbC hrg2 hbC2 hc2
   generalize t'.kind = kd at *
   generalize str t'.name = SN at *
   go_wp2_with fail
   refine RN.out.mono ?_
   rintro _ _ ⟨rfl, rfl⟩
   go_wp2_with (first | (refine wpList_load_mid rfl 36 (.tmp 17) rfl b' o' rfl ce _ HRG.out Tryz.underlying36 rfl (by rw [Tryz.sz36, hcl'.out]) ?_; apply shut))
   show wpList _ _ _ _ _ _
   refine stR rfl 36 (.tmp 2) (.tmp 18) rfl (cs := ce) rfl rfl HR.out (by rw [Tryz.sz36, hcl'.out]) (by rw [hcl'.out]; rfl) hone.out ?_
   intro w3 R3 S3
   have HB3 := hidP (hb'.out.trans (S3.below (C := w.heap.size) hb'.out.size (fun q hq => by omega)))
   have HT3 := hidP (HTE.out.below (S3.below (C := K.C) hszr.out (fun q hq => by have := HC.out; omega)))
   have HT4 := hidP (HT3.out)
   obtain ⟨n2, rfl⟩ : ∃ m, n' = m + 1 := by
    cases n' with
    | zero => exact HT3.out.elim
    | succ m => exact ⟨m, rfl⟩
   obtain ⟨f2, f3, rfl, hBe, g2, g3⟩ := HT3.out
   obtain ⟨q2, r2, rfl⟩ := Ar.form g2
   have z2 := R3.cell 2
   simp only [List.getElem?_cons_zero, List.getElem?_cons_succ] at z2
   have HCell := hidP (fun i (hi : i < e.lives.length) => Strs.cellAt g2 hi)
   have HEA : Hid (∀ i, i < e.lives.length -> e.lives.getD i [] = a) := fun i hi => HE.out _ (by simp [List.getD, List.getElem?_eq_getElem hi])
   have hbig : e.lives.length <= 140737488355328 := by
    obtain ⟨_, _, h1, _, h5, _⟩ := g2.shape
    omega
   replace R3 := hidP R3
   clear HR HRG S3 hb' x0 x2 x3 HTE HT3 g2 g3 RN HE y2
   generalize hne : e.lives.length = ne at *
   generalize hSA : str a = SA at *
   have HSA := hidP hSA
   clear hne hSA
   go_wp2_with fail
   go_loopw [22] (fun i wq => ∃ (k : Nat), k <= ne /\ i = .int .i64 k /\ wq = w3) (fun i _ => ne - (intOf i).toNat)
   case atStart => exact ⟨0, by omega, rfl, rfl⟩
   case round =>
    obtain ⟨k, hk, rfl, rfl⟩ := hrel
    by_cases h3 : k < ne
    ·have l1 : (k : Int) < (ne : Int) := by omega
     obtain ⟨b9, o9, rfl, hbC9, c9, -⟩ := HCell.out k h3
     rw [HEA.out k h3, HSA.out] at c9
     go_wp2_with fail
     refine (HIS.out SA _).mono ?_
     rintro _ _ ⟨rfl, rfl⟩
     go_wp2_with fail
     go_roundw
     case rel => exact ⟨k + 1, by omega, by go_num, by trivial⟩
     case measure => simp [intOf]; omega
    ·obtain rfl : k = ne := by omega
     go_wp2_with fail
     go_roundg (k')
     case measure => omega
     case rel => exact ⟨e, _, _, R3.out, HT4.out, HKE.out, HB3.out⟩
end Go.Proofs.YtldbbkheemnnhaaGreatDoor
