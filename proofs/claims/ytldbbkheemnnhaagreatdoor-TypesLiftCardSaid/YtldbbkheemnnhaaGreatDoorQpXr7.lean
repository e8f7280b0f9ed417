/-
  The document's scope is made of a crate of structs that are right.
-/
import Derived.Test.YtldbbkheemnnhaaGreatDoorQpXr6
import Derived.Test.YtldbbkheemnnhaaGreatDoorJpXr52
namespace Go.Proofs.YtldbbkheemnnhaaGreatDoor
open Go.RowKit
theorem StrsToQ {K : Ctx} {Q : Nat -> Prop} (hk : ∀ b, b < K.C -> Q b) {w : World} {v : Value} {l : List Bs} (h : Strs K w v l) : StrQ Q K.B w v l := Ar.toQ h hk fun _ _ _ h => h
theorem TyAtToQ {K : Ctx} {Q : Nat -> Prop} (hk : ∀ b, b < K.C -> Q b) {w : World} : ∀ {n : Nat} {cs : List Value} {t : Ty}, TyAt n K w cs t -> TyQ n Q K.B w cs t
 | 0, _, _, h => h.elim
 | _ + 1, _, _, h => by
  obtain ⟨v2, v3, e, h1, h2, h3⟩ := h
  exact ⟨v2, v3, e, h1, StrsToQ hk h2, Ar.toQ h3 hk fun _ _ _ h => TyAtToQ hk h⟩
theorem SctAtToQ {K : Ctx} {Q : Nat -> Prop} (hk : ∀ b, b < K.C -> Q b) {w : World} {cs : List Value} {x : Sct} (h : SctAt K w cs x) : SctQ Q K.B w cs x := by
 obtain ⟨v2, v3, e, h1, h2, h3⟩ := h
 refine ⟨v2, v3, e, h1, StrsToQ hk h2, Ar.toQ h3 hk fun _ _ _ h => ?_⟩
 obtain ⟨ts, e, h4, n, h5⟩ := h
 exact ⟨ts, e, h4, n, TyAtToQ hk h5⟩
theorem xsc_of {K : Ctx} {w wr : World} {B0 g : Nat} {v u : Value} {L : List Sct} (h : Rws 5 84 (SctAt K w) B0 wr v L) (hb : Below K.C w wr) (hC : K.C <= wr.heap.size) (hr : Row wr g 130 [v, u, .slice none 0 0]) (hn : (L.map (·.name)).Nodup) (hl : L.length <= 1000) :
  XSc (fun b => b < wr.heap.size) K.B wr g L := by
 obtain ⟨Lc, hc, ho⟩ := h
 have ha : Ar 5 80 (SctAt K w) ⟨wr.heap.size, K.B, K.small⟩ wr v L := ar_own hc ho (Nat.le_refl _) (by omega)
 exact ⟨⟨v, u, hr, Ar.toQ ha (fun _ h => h) fun _ _ _ h => SctAtToQ (fun b hb => Nat.lt_of_lt_of_le hb hC) (h.below hb)⟩, fun _ h => h, hn⟩
theorem wpo_add7 {α : Type} {o : Oper} {a : Act} {Kt : Act -> World -> Prop} {Q : Exit -> Act -> World -> Prop} {w : World} {B t e z bz g : Nat} {Z : Value} {v : Value} {P : List Value -> α -> Prop} {l : List α} {x : α} {cs : List Value} (s y : Operand) (ho : o.op = .call { callee := .builtin .append, args := #[s, y], argTypes := #[t, t] })
  (hu : Tryz.prog.underlying t = some (.slice e)) (hz : (Tryz.prog.info? e).map (fun i => (i.zero, i.size, i.bytes)) = some (some Z, z, bz)) (hZ : Z.cells.size = z) (h0 : 0 < z) (hs : a.eval s = v) (hy : a.eval y = .slice (some ⟨g, 0, none⟩) 1 1)
  (hr : Rws z e P B w v l) (hB : B <= w.heap.size) (hg : Row w g e cs) (hl : cs.length = z) (h1 : ∀ x ∈ cs, x.oneCell' = true) (hp : P cs x) (hn : l.length <= 90000) (hbz : bz <= 1000)
  (k : ∀ ao c w', Rws z e P B w' (.slice ao (l.length + 1) c) (l ++ [x]) -> Below B w w' -> Kt (a.put o.dst (.slice ao (l.length + 1) c)) w') : Oper.wp Tryz.prog o a w Kt Q := by
 obtain ⟨L, hc, hown⟩ := hr
 refine wpo_appS s y ho hu hz hZ h0 hs hy hown hB (m := 1) (news := cs) ⟨some ⟨g, 0, none⟩, 1, rfl, (by simp), fun j u hj => ⟨g, 0, rfl, by rw [Nat.zero_add, hg.cell]; exact hj⟩⟩ (by omega) h1 (by omega) hbz ?_
 intro v' w' ho' hgr
 obtain ⟨ao, c, rfl⟩ := own_slice ho'
 refine k ao c w' ⟨L ++ [cs], hc.app (Cel.one hl hp h1), ?_⟩ (grown_le hgr hB (fun k e => (hown.lt k e).1))
 rw [List.length_append, List.length_singleton, List.flatten_append, List.flatten_cons, List.flatten_nil, List.append_nil]
 exact ho'
theorem sv67 {g t : Nat} {w : World} {j : Nat} {L : List Value} {u : Value} (r : Row w g t L) (hj : L[j]? = some u) (ao : Option Addr) (n c : Nat) : (storeVar 67 ⟨g, j, none⟩ (.slice ao n c)).run Tryz.prog w = .ok () (w.setCell ⟨g, j, none⟩ (.slice ao n c)) := by
 have c0 := r.cell j
 have f0 := r.fz j
 rw [hj] at c0
 go_simp
theorem okL_names {d : Nat} {Ls : List Sct} (h : okL d Ls) : ∀ k, k <= Ls.length -> ((Ls.take k).map (·.name)).Nodup
 | 0, _ => by simp
 | k + 1, hk => by
  have h1 := okL_names h k (by omega)
  have h2 := (h k (by omega)).new
  rw [take_next (by omega), List.map_append, List.nodup_append]
  refine ⟨h1, by simp, fun a ha b hb e => ?_⟩
  simp only [List.map_cons, List.map_nil, List.mem_singleton] at hb
  rw [e, hb] at ha
  exact h2 ha
set_option maxHeartbeats 16000000 in
set_option maxRecDepth 20000 in
theorem xnew_yes {K : Ctx} {w : World} (he : Env K w) {s : Bs} (hnm : nameB s = true) (hs9 : s.length <= 1000) {Ls : List Sct} {v0 : Value} {a1 : Option Addr} {p1 : Nat} (hs : Ar 5 80 (SctAt K w) K w v0 Ls) (hall : ∀ x ∈ Ls, MaySct x) (hn : Ls.length <= 256) {d : Nat} (hd : d <= 70) (hok : okL d Ls) (hf : ∀ x ∈ Ls, ∀ f ∈ x.fields, flT d f.ty) :
  Calls Tryz.prog 41 #[.string (str s), .slice none 0 0, .agg #[v0, .slice a1 0 p1]] w fun ev w' => ∃ g, ev = .returned (.tuple #[.pointer (some ⟨g, 0, none⟩), .int .i64 0, .int .i64 0]) /\ Below w.heap.size w w' /\ XSc (fun b => b < w'.heap.size) K.B w' g Ls := by
 have hsm := K.small
 obtain ⟨a0, p0, rfl⟩ := hs.form
 have hA := alloc_one w (.cells #[.slice a0 Ls.length p0, .slice a1 0 p1] 69)
 have hK := below_le hA he.C
 have R0 : Hid (Row (w.alloc (.cells #[.slice a0 Ls.length p0, .slice a1 0 p1] 69)) w.heap.size 69 [.slice a0 Ls.length p0, .slice a1 0 p1]) := Row.new w 69 _
 have hsz : Hid ((w.alloc (.cells #[.slice a0 Ls.length p0, .slice a1 0 p1] 69)).heap.size = w.heap.size + 1) := size_alloc _ _
 have HA := hidP hA
 have NM : Hid (∀ y, Calls Tryz.prog 65 #[.string (str s)] y fun ev w' => ev = .returned (.bool true) /\ Below y.heap.size y w') := fun y => by
  have := xname_any s (by omega) y
  rwa [hnm] at this
 have MY : Hid (∀ y, Below w.heap.size w y -> Calls Tryz.prog 67 #[.agg #[.slice a0 Ls.length p0, .slice a1 0 p1]] y fun ev w' => ev = .returned (.bool true) /\ Below y.heap.size y w') := fun y hy => xmayS_yes (he.below (below_le hy he.C)) (hs.mono (below_le hy he.C) fun _ _ _ q => q.below (below_le hy he.C)) hall hn
 have HS := hidP hs
 have HC := hidP he.C
 have HOK := hidP hok
 have HF := hidP hf
 have HLL : Hid (∀ k, k <= Ls.length -> ∀ y ∈ Ls.take k, y.lives.length <= 1000) := fun k h y hy => by
  obtain ⟨i, hi, e⟩ := List.mem_iff_getElem.1 hy
  rw [List.getElem_take] at e
  rw [← e]; exact (hok i _).few
 obtain ⟨n, hnn⟩ : ∃ n, n = Ls.length := ⟨_, rfl⟩
 have HNN := hidP hnn
 rw [← hnn] at hn R0 hsz HA MY ⊢
 clear he hs hall hA hK hok hnm hf hnn
 generalize str s = SN at *
 go_enter Tryz.func41, Tryz.ntmps41
 go_wp2_with fail
 refine (NM.out _).mono ?_
 rintro _ w1 ⟨rfl, hb1⟩
 have R1 := hidP (R0.out.below hb1 R0.out.lt)
 have HB1 := hidP (HA.out.trans (below_le hb1 (by rw [hsz.out]; omega)))
 clear NM R0 HA hb1 hsz
 go_wp2_with fail
 refine wp_loop_rounds 1 ?_
 rw [rounds_succ]
 go_wp2_with (first | (refine ldR rfl 69 (.tmp 5) rfl rfl R1.out Tryz.underlying69 rfl Tryz.sz69 ?_; apply shut))
 show wpList _ _ _ _ _ _
 go_wp2_with fail
 refine (MY.out _ HB1.out).mono ?_
 rintro _ w2 ⟨rfl, hb2⟩
 have hz1 := HB1.out.size
 have hz2 := hb2.size
 have HB2 := hidP (HB1.out.trans (below_le hb2 HB1.out.size))
 have R2 := hidP (R1.out.below hb2 R1.out.lt)
 have HLW := hidP R2.out.lt
 have RG : Hid (Row (w2.alloc (.cells #[.slice none 0 0, .slice none 0 0, .slice none 0 0] 130)) w2.heap.size 130 [.slice none 0 0, .slice none 0 0, .slice none 0 0]) := Row.new w2 130 _
 have hA3 := alloc_one w2 (.cells #[.slice none 0 0, .slice none 0 0, .slice none 0 0] 130)
 have HB3 := hidP (HB2.out.trans (below_le hA3 HB2.out.size))
 have R3 := hidP (R2.out.below hA3 R2.out.lt)
 have hsz3 : Hid ((w2.alloc (.cells #[.slice none 0 0, .slice none 0 0, .slice none 0 0] 130)).heap.size = w2.heap.size + 1) := size_alloc _ _
 clear MY R1 R2 HB1 hb2 hA3 HB2
 go_wp2_with fail
 go_loopw [12] (fun i wr => ∃ (k : Nat) (v : Value), k <= n /\ i = .int .i64 k /\ Row wr w.heap.size 69 [.slice a0 n p0, .slice a1 0 p1] /\ Row wr w2.heap.size 130 [v, .slice none 0 0, .slice none 0 0] /\ Rws 5 84 (SctAt K w) (w2.heap.size + 1) wr v (Ls.take k) /\ Below w.heap.size w wr /\ w2.heap.size + 1 <= wr.heap.size) (fun i _ => n - (intOf i).toNat)
 case atStart => exact ⟨0, _, by omega, rfl, R3.out, RG.out, Rws.nil, HB3.out, Nat.le_of_eq hsz3.out.symm⟩
 case round =>
  clear R3 RG HB3
  obtain ⟨k, v, hk, rfl, hr, hg, hw, hb, hsz⟩ := hrel
  have x0 := hr.cell 0
  have x1 := hr.cell 1
  simp only [List.getElem?_cons_zero, List.getElem?_cons_succ] at x0 x1
  obtain ⟨av, cv, hv⟩ := hw.form
  have hkn : k <= Ls.length := by have := HNN.out; omega
  rw [List.length_take, Nat.min_eq_left hkn] at hv
  by_cases h3 : k < n
  ·have l1 : (k : Int) < (n : Int) := by omega
   have hk' : k < Ls.length := by have := HNN.out; omega
   have hCC := HC.out
   have XS := xsc_of hw (below_le hb hCC) (Nat.le_trans hCC hb.size) hg (okL_names HOK.out k hkn) (by rw [List.length_take]; omega)
   obtain ⟨ao, cap, e, _, _, hall⟩ := HS.out.shape
   cases e
   obtain ⟨b', o, rfl, hbC, cs, hcl, hcs, hfa⟩ := hall k hk'
   have hrg : ∀ y, Below w.heap.size w y -> y.rangeAt b' (o + k * 5) cs := fun y hy j u hj => by
    have hj2 : j < 5 := by
     rcases Nat.lt_or_ge j 5 with h' | h'
     ·exact h'
     ·rw [List.getElem?_eq_none (by omega)] at hj; cases hj
    rw [hy.cell (p := ⟨b', o + k * 5 + j, none⟩) (show b' < w.heap.size by omega), hcs j hj2]; exact hj
   have ASK := hidP (xstructs_yes XS (by rw [List.length_take]; omega) (HLL.out k hkn) (hfa.below (below_le hb hCC)) (Nat.le_trans hCC hb.size) hd (HOK.out k hk') (HF.out _ (List.getElem_mem hk')))
   have HFA := hidP hfa
   obtain ⟨c2, c3, rfl, hnB, q2, q3⟩ := hfa
   obtain ⟨e2, f2, rfl⟩ := Ar.form q2
   obtain ⟨e3, f3, rfl⟩ := Ar.form q3
   have HT := hidP (take_next hk')
   have hone := hidP HFA.out.one
   have HRG := hidP hrg
   have HR := hidP hr
   have HG := hidP hg
   have HW := hidP hw
   have HB := hidP hb
   have HSZ := hidP hsz
   have hltk : (Ls.take k).length = k := by rw [List.length_take]; omega
   have HLT := hidP hltk
   clear hall hcs hcl hbC hnB q2 q3 hrg hr hg hw hb hsz hltk XS hkn
   subst hv
   generalize hX : Ls[k] = X at *
   clear hX
   generalize str X.name = SX at *
   generalize X.lives.length = nl at *
   generalize X.fields.length = nf at *
   generalize X.pos = ps at *
   generalize X.pub = pb at *
   go_wp2_with (first | (refine wpList_load_mid rfl 84 (.tmp 73) rfl b' (o + k * 5) rfl [.bool pb, .string SX, .slice e2 nl f2, .slice e3 nf f3, .int .i64 ps] _ (HRG.out _ HB.out) Tryz.underlying84 rfl Tryz.sz84 ?_; apply shut))
   show wpList _ _ _ _ _ _
   go_wp2_with fail
   refine ASK.out.mono ?_
   rintro _ w4 ⟨rfl, hb4⟩
   have hs4 := HSZ.out
   have hl0 := HR.out.lt
   have hz4 := hb4.size
   have HB4 := hidP (HB.out.trans (below_le hb4 HB.out.size))
   have R4 := hidP (HR.out.below hb4 HR.out.lt)
   have G4 := hidP (HG.out.below hb4 HG.out.lt)
   have W4 := hidP (HW.out.past hb4)
   clear ASK HR HG HW HB hb4 HSZ x0 x1
   go_wp2_with fail
   have hS0 : Row w4.drew w.heap.size 69 [.slice (some ⟨b', o, none⟩) n p0, .slice a1 0 p1] /\ Row w4.drew w2.heap.size 130 [.slice av k cv, .slice none 0 0, .slice none 0 0] /\ w4.drew.rangeAt b' (o + k * 5) [.bool pb, .string SX, .slice e2 nl f2, .slice e3 nf f3, .int .i64 ps] := ⟨R4.out.drew, G4.out.drew, HRG.out _ HB4.out.drew⟩
   refine beginL (fun y => Row y w.heap.size 69 [.slice (some ⟨b', o, none⟩) n p0, .slice a1 0 p1] /\ Row y w2.heap.size 130 [.slice av k cv, .slice none 0 0, .slice none 0 0] /\ y.rangeAt b' (o + k * 5) [.bool pb, .string SX, .slice e2 nl f2, .slice e3 nf f3, .int .i64 ps]) 16 (by kernel_rfl) hS0 (fun hSS => ?_)
   refine takeL 0 (v := ?_) rfl (some 85) rfl (by decide) (by kernel_rfl) (by kernel_rfl) (by kernel_rfl) (by kernel_rfl) (fun _ _ _ h => h) (Or.inl ⟨by rfl, ?_⟩) hSS ?_
   rotate_left
   ·(intro y hy; have hk0 := hy.1.cell 0; have hj0 := hy.2.1.cell 0; have r0 := hy.2.2 0 _ rfl; have r1 := hy.2.2 1 _ rfl; have r2 := hy.2.2 2 _ rfl; have r3 := hy.2.2 3 _ rfl; have r4 := hy.2.2 4 _ rfl; simp only [List.getElem?_cons_zero, Nat.add_zero] at hk0 hj0 r0 r1 r2 r3 r4; go_simp; with_reducible rfl)
   try simp only [Act.put]
   try simp only [List.setIfInBounds_toArray]
   try simp only [List.set_cons_succ]
   try simp only [List.set_cons_zero]
   refine takeL 1 (v := ?_) rfl (some 86) rfl (by decide) (by kernel_rfl) (by kernel_rfl) (by kernel_rfl) (by kernel_rfl) (fun _ _ _ h => h) (Or.inl ⟨by rfl, ?_⟩) hSS ?_
   rotate_left
   ·(intro y hy; have hk0 := hy.1.cell 0; have hj0 := hy.2.1.cell 0; have r0 := hy.2.2 0 _ rfl; have r1 := hy.2.2 1 _ rfl; have r2 := hy.2.2 2 _ rfl; have r3 := hy.2.2 3 _ rfl; have r4 := hy.2.2 4 _ rfl; simp only [List.getElem?_cons_zero, Nat.add_zero] at hk0 hj0 r0 r1 r2 r3 r4; go_simp; with_reducible rfl)
   try simp only [Act.put]
   try simp only [List.setIfInBounds_toArray]
   try simp only [List.set_cons_succ]
   try simp only [List.set_cons_zero]
   refine takeL 2 (v := ?_) rfl (some 87) rfl (by decide) (by kernel_rfl) (by kernel_rfl) (by kernel_rfl) (by kernel_rfl) (fun _ _ _ h => h) (Or.inl ⟨by rfl, ?_⟩) hSS ?_
   rotate_left
   ·(intro y hy; have hk0 := hy.1.cell 0; have hj0 := hy.2.1.cell 0; have r0 := hy.2.2 0 _ rfl; have r1 := hy.2.2 1 _ rfl; have r2 := hy.2.2 2 _ rfl; have r3 := hy.2.2 3 _ rfl; have r4 := hy.2.2 4 _ rfl; simp only [List.getElem?_cons_zero, Nat.add_zero] at hk0 hj0 r0 r1 r2 r3 r4; go_simp; with_reducible rfl)
   try simp only [Act.put]
   try simp only [List.setIfInBounds_toArray]
   try simp only [List.set_cons_succ]
   try simp only [List.set_cons_zero]
   refine takeL 3 (v := ?_) rfl (some 88) rfl (by decide) (by kernel_rfl) (by kernel_rfl) (by kernel_rfl) (by kernel_rfl) (fun _ _ _ h => h) (Or.inl ⟨by rfl, ?_⟩) hSS ?_
   rotate_left
   ·(intro y hy; have hk0 := hy.1.cell 0; have hj0 := hy.2.1.cell 0; have r0 := hy.2.2 0 _ rfl; have r1 := hy.2.2 1 _ rfl; have r2 := hy.2.2 2 _ rfl; have r3 := hy.2.2 3 _ rfl; have r4 := hy.2.2 4 _ rfl; simp only [List.getElem?_cons_zero, Nat.add_zero] at hk0 hj0 r0 r1 r2 r3 r4; go_simp; with_reducible rfl)
   try simp only [Act.put]
   try simp only [List.setIfInBounds_toArray]
   try simp only [List.set_cons_succ]
   try simp only [List.set_cons_zero]
   refine takeL 4 (v := ?_) rfl (some 89) rfl (by decide) (by kernel_rfl) (by kernel_rfl) (by kernel_rfl) (by kernel_rfl) (fun _ _ _ h => h) (Or.inl ⟨by rfl, ?_⟩) hSS ?_
   rotate_left
   ·(intro y hy; have hk0 := hy.1.cell 0; have hj0 := hy.2.1.cell 0; have r0 := hy.2.2 0 _ rfl; have r1 := hy.2.2 1 _ rfl; have r2 := hy.2.2 2 _ rfl; have r3 := hy.2.2 3 _ rfl; have r4 := hy.2.2 4 _ rfl; simp only [List.getElem?_cons_zero, Nat.add_zero] at hk0 hj0 r0 r1 r2 r3 r4; go_simp; with_reducible rfl)
   try simp only [Act.put]
   try simp only [List.setIfInBounds_toArray]
   try simp only [List.set_cons_succ]
   try simp only [List.set_cons_zero]
   refine takeL 5 (v := ?_) rfl (some 90) rfl (by decide) (by kernel_rfl) (by kernel_rfl) (by kernel_rfl) (by kernel_rfl) (fun _ _ _ h => h) (Or.inl ⟨by rfl, ?_⟩) hSS ?_
   rotate_left
   ·(intro y hy; have hk0 := hy.1.cell 0; have hj0 := hy.2.1.cell 0; have r0 := hy.2.2 0 _ rfl; have r1 := hy.2.2 1 _ rfl; have r2 := hy.2.2 2 _ rfl; have r3 := hy.2.2 3 _ rfl; have r4 := hy.2.2 4 _ rfl; simp only [List.getElem?_cons_zero, Nat.add_zero] at hk0 hj0 r0 r1 r2 r3 r4; go_simp; with_reducible rfl)
   try simp only [Act.put]
   try simp only [List.setIfInBounds_toArray]
   try simp only [List.set_cons_succ]
   try simp only [List.set_cons_zero]
   refine takeL 6 (v := ?_) rfl (some 91) rfl (by decide) (by kernel_rfl) (by kernel_rfl) (by kernel_rfl) (by kernel_rfl) (fun _ _ _ h => h) (Or.inl ⟨by rfl, ?_⟩) hSS ?_
   rotate_left
   ·(intro y hy; have hk0 := hy.1.cell 0; have hj0 := hy.2.1.cell 0; have r0 := hy.2.2 0 _ rfl; have r1 := hy.2.2 1 _ rfl; have r2 := hy.2.2 2 _ rfl; have r3 := hy.2.2 3 _ rfl; have r4 := hy.2.2 4 _ rfl; simp only [List.getElem?_cons_zero, Nat.add_zero] at hk0 hj0 r0 r1 r2 r3 r4; go_simp; with_reducible rfl)
   try simp only [Act.put]
   try simp only [List.setIfInBounds_toArray]
   try simp only [List.set_cons_succ]
   try simp only [List.set_cons_zero]
   refine takeL 7 (v := ?_) rfl (some 92) rfl (by decide) (by kernel_rfl) (by kernel_rfl) (by kernel_rfl) (by kernel_rfl) (fun _ _ _ h => h) (Or.inl ⟨by rfl, ?_⟩) hSS ?_
   rotate_left
   ·(intro y hy; have hk0 := hy.1.cell 0; have hj0 := hy.2.1.cell 0; have r0 := hy.2.2 0 _ rfl; have r1 := hy.2.2 1 _ rfl; have r2 := hy.2.2 2 _ rfl; have r3 := hy.2.2 3 _ rfl; have r4 := hy.2.2 4 _ rfl; simp only [List.getElem?_cons_zero, Nat.add_zero] at hk0 hj0 r0 r1 r2 r3 r4; go_simp; with_reducible rfl)
   try simp only [Act.put]
   try simp only [List.setIfInBounds_toArray]
   try simp only [List.set_cons_succ]
   try simp only [List.set_cons_zero]
   refine takeL 8 (v := ?_) rfl (some 93) rfl (by decide) (by kernel_rfl) (by kernel_rfl) (by kernel_rfl) (by kernel_rfl) (fun _ _ _ h => h) (Or.inl ⟨by rfl, ?_⟩) hSS ?_
   rotate_left
   ·(intro y hy; have hk0 := hy.1.cell 0; have hj0 := hy.2.1.cell 0; have r0 := hy.2.2 0 _ rfl; have r1 := hy.2.2 1 _ rfl; have r2 := hy.2.2 2 _ rfl; have r3 := hy.2.2 3 _ rfl; have r4 := hy.2.2 4 _ rfl; simp only [List.getElem?_cons_zero, Nat.add_zero] at hk0 hj0 r0 r1 r2 r3 r4; go_simp; with_reducible rfl)
   try simp only [Act.put]
   try simp only [List.setIfInBounds_toArray]
   try simp only [List.set_cons_succ]
   try simp only [List.set_cons_zero]
   refine takeL 9 (v := ?_) rfl (some 94) rfl (by decide) (by kernel_rfl) (by kernel_rfl) (by kernel_rfl) (by kernel_rfl) (fun _ _ _ h => h) (Or.inl ⟨by rfl, ?_⟩) hSS ?_
   rotate_left
   ·(intro y hy; have hk0 := hy.1.cell 0; have hj0 := hy.2.1.cell 0; have r0 := hy.2.2 0 _ rfl; have r1 := hy.2.2 1 _ rfl; have r2 := hy.2.2 2 _ rfl; have r3 := hy.2.2 3 _ rfl; have r4 := hy.2.2 4 _ rfl; simp only [List.getElem?_cons_zero, Nat.add_zero] at hk0 hj0 r0 r1 r2 r3 r4; go_simp; with_reducible rfl)
   try simp only [Act.put]
   try simp only [List.setIfInBounds_toArray]
   try simp only [List.set_cons_succ]
   try simp only [List.set_cons_zero]
   refine takeL 10 (v := ?_) rfl (some 95) rfl (by decide) (by kernel_rfl) (by kernel_rfl) (by kernel_rfl) (by kernel_rfl) (fun _ _ _ h => h) (Or.inl ⟨by rfl, ?_⟩) hSS ?_
   rotate_left
   ·(intro y hy; have hk0 := hy.1.cell 0; have hj0 := hy.2.1.cell 0; have r0 := hy.2.2 0 _ rfl; have r1 := hy.2.2 1 _ rfl; have r2 := hy.2.2 2 _ rfl; have r3 := hy.2.2 3 _ rfl; have r4 := hy.2.2 4 _ rfl; simp only [List.getElem?_cons_zero, Nat.add_zero] at hk0 hj0 r0 r1 r2 r3 r4; go_simp; with_reducible rfl)
   try simp only [Act.put]
   try simp only [List.setIfInBounds_toArray]
   try simp only [List.set_cons_succ]
   try simp only [List.set_cons_zero]
   refine readyL (rs := [11]) (by kernel_rfl) (by simp) ?_
   refine ReadyL.cons rfl (fun KK hK => ?_) ReadyL.nil
   refine wantR (by rfl) ?_
   refine wpo_bsU 66 84 5 80 _ (.agg [.bool pb, .string SX, .slice e2 nl f2, .slice e3 nf f3, .int .i64 ps].toArray) (.tmp 95) rfl Tryz.underlying66 Tryz.info84S (by decide) (by decide) rfl [.bool pb, .string SX, .slice e2 nl f2, .slice e3 nf f3, .int .i64 ps] rfl rfl rfl ?_
   intro wG hRG hBG hzG
   have hB5 := hidP (HB4.out.drew.trans (below_le hBG HB4.out.size))
   have W5 := hidP ((W4.out.past ((Below.refl _ _).drew)).past hBG)
   have hSS2 : Row wG w.heap.size 69 [.slice (some ⟨b', o, none⟩) n p0, .slice a1 0 p1] /\ Row wG w2.heap.size 130 [.slice av k cv, .slice none 0 0, .slice none 0 0] /\ wG.rangeAt b' (o + k * 5) [.bool pb, .string SX, .slice e2 nl f2, .slice e3 nf f3, .int .i64 ps] := ⟨hSS.1.below hBG hSS.1.lt, hSS.2.1.below hBG hSS.2.1.lt, HRG.out _ hB5.out⟩
   have hz5 : w4.heap.size <= wG.heap.size := hBG.size
   replace hRG := hidP hRG
   refine hK.out (Act.put _ (some 96) _) _ (fun _ => hSS2) (fun _ => ?_)
   clear hK KK hSS W4 hBG
   have hSS := hSS2
   clear hSS2
   try simp only [Act.put]
   try simp only [List.setIfInBounds_toArray]
   try simp only [List.set_cons_succ]
   try simp only [List.set_cons_zero]
   refine readyL (rs := [12]) (by kernel_rfl) (by simp) ?_
   refine ReadyL.cons rfl (fun KK hK => ?_) ReadyL.nil
   refine wantR (by rfl) ?_
   refine wpo_add7 (x := X) (.tmp 90) (.tmp 96) rfl Tryz.underlying66 Tryz.info84S rfl (by decide) rfl rfl W5.out (by omega) hRG.out rfl hone.out HFA.out (by rw [HLT.out]; omega) (by decide) ?_
   rw [HLT.out]
   intro eo ep wH hW6 hB6
   have hB7 := hidP (hB5.out.trans (below_le hB6 (by omega)))
   have W6 := hidP hW6
   have hz6 := hB6.size
   have hSS2 : Row wH w.heap.size 69 [.slice (some ⟨b', o, none⟩) n p0, .slice a1 0 p1] /\ Row wH w2.heap.size 130 [.slice av k cv, .slice none 0 0, .slice none 0 0] /\ wH.rangeAt b' (o + k * 5) [.bool pb, .string SX, .slice e2 nl f2, .slice e3 nf f3, .int .i64 ps] := ⟨hSS.1.below hB6 (by omega), hSS.2.1.below hB6 (Nat.lt_succ_self _), HRG.out _ hB7.out⟩
   refine hK.out (Act.put _ (some 97) _) _ (fun _ => hSS2) (fun _ => ?_)
   clear hK KK hSS W5 hRG hW6 hB6 hB5
   have hSS := hSS2
   clear hSS2
   try simp only [Act.put]
   try simp only [List.setIfInBounds_toArray]
   try simp only [List.set_cons_succ]
   try simp only [List.set_cons_zero]
   refine readyL (rs := [13]) (by kernel_rfl) (by simp) ?_
   refine ReadyL.cons rfl (fun KK hK => ?_) ReadyL.nil
   refine wantR (by rfl) ?_
   have hk0 := hSS.1.cell 0; have hj0 := hSS.2.1.cell 0; have r0 := hSS.2.2 0 _ rfl; have r1 := hSS.2.2 1 _ rfl; have r2 := hSS.2.2 2 _ rfl; have r3 := hSS.2.2 3 _ rfl; have r4 := hSS.2.2 4 _ rfl; simp only [List.getElem?_cons_zero, Nat.add_zero] at hk0 hj0 r0 r1 r2 r3 r4; go_simp
   refine hK.out _ _ (fun _ => hSS) (fun _ => ?_)
   clear hK KK
   try simp only [Act.put]
   try simp only [List.setIfInBounds_toArray]
   try simp only [List.set_cons_succ]
   try simp only [List.set_cons_zero]
   refine readyL (rs := [14]) (by kernel_rfl) (by simp) ?_
   refine ReadyL.cons rfl (fun KK hK => ?_) ReadyL.nil
   refine wantR (by rfl) ?_
   have hk0 := hSS.1.cell 0; have hj0 := hSS.2.1.cell 0; have r0 := hSS.2.2 0 _ rfl; have r1 := hSS.2.2 1 _ rfl; have r2 := hSS.2.2 2 _ rfl; have r3 := hSS.2.2 3 _ rfl; have r4 := hSS.2.2 4 _ rfl; simp only [List.getElem?_cons_zero, Nat.add_zero] at hk0 hj0 r0 r1 r2 r3 r4; go_simp
   refine hK.out _ _ (fun _ => hSS) (fun _ => ?_)
   clear hK KK
   try simp only [Act.put]
   try simp only [List.setIfInBounds_toArray]
   try simp only [List.set_cons_succ]
   try simp only [List.set_cons_zero]
   refine takeL 15 (v := ?_) rfl (some 100) rfl (by decide) (by kernel_rfl) (by kernel_rfl) (by kernel_rfl) (by kernel_rfl) (fun _ _ _ h => h) (Or.inl ⟨by rfl, ?_⟩) hSS ?_
   rotate_left
   ·(intro y hy; have hk0 := hy.1.cell 0; have hj0 := hy.2.1.cell 0; have r0 := hy.2.2 0 _ rfl; have r1 := hy.2.2 1 _ rfl; have r2 := hy.2.2 2 _ rfl; have r3 := hy.2.2 3 _ rfl; have r4 := hy.2.2 4 _ rfl; simp only [List.getElem?_cons_zero, Nat.add_zero] at hk0 hj0 r0 r1 r2 r3 r4; go_simp; with_reducible rfl)
   try simp only [Act.put]
   try simp only [List.setIfInBounds_toArray]
   try simp only [List.set_cons_succ]
   try simp only [List.set_cons_zero]
   refine readyL (rs := [16]) (by kernel_rfl) (by simp) ?_
   refine ReadyL.cons rfl (fun KK hK => ?_) ReadyL.nil
   refine wantR (by rfl) ?_
   refine wpo_stC (v := .slice eo (k + 1) ep) 66 (.tmp 100) (.tmp 97) rfl rfl rfl hSS.2.1 (sv66 hSS.2.1 rfl _ _ _) ?_
   intro wI sI stI
   simp only [List.set_cons_zero] at sI
   have hlw := HLW.out
   have SI := hidP sI
   have RI := hidP (stI.row hSS.1 (by omega))
   have WI := hidP (W6.out.stay stI (fun k e => by omega))
   have BI := hidP (hB7.out.trans (stI.below (C := w.heap.size) hB7.out.size (fun q hq => by omega)))
   have ZI := hidP (Nat.le_trans (show w2.heap.size + 1 <= wH.heap.size by omega) stI.size)
   refine hK.out (Act.put _ none _) _ (fun h => absurd rfl h) (fun _ => ?_)
   try simp only [Act.put]
   clear hK KK hSS W6 sI stI hS0
   refine doneL (by kernel_rfl) ?_ _
   go_wp2_with fail
   go_roundw
   case rel => exact ⟨k + 1, _, by omega, by go_num, RI.out, SI.out, by rw [HT.out]; exact WI.out, BI.out, ZI.out⟩
   case measure => simp [intOf]; omega
  ·obtain rfl : k = n := by omega
   have hw' : Rws 5 84 (SctAt K w) (w2.heap.size + 1) wr v Ls := by have := HNN.out; rw [List.take_of_length_le (by omega)] at hw; exact hw
   have HR := hidP hr
   have HG := hidP hg
   have HW := hidP hw'
   have HB := hidP hb
   have HSZ := hidP hsz
   have ON := hidP (by have := okL_names HOK.out Ls.length (Nat.le_refl _); rwa [List.take_length] at this : (Ls.map (·.name)).Nodup)
   clear hr hg hw hw' hb hsz
   subst hv
   go_wp2_with (first | (refine stC (v := .slice a1 0 p1) rfl 67 (.tmp 106) (.tmp 103) rfl rfl rfl HG.out (sv67 HG.out rfl _ _ _) ?_; intro w7 r7 s7; apply shut))
   show wpList _ _ _ _ _ _
   simp only [List.set_cons_zero, List.set_cons_succ] at r7
   have hs8 := HSZ.out
   have hlw := HLW.out
   have R7 := s7.row HR.out (by omega)
   have z1 := R7.cell 1
   simp only [List.getElem?_cons_zero, List.getElem?_cons_succ] at z1
   have B7 := hidP (HB.out.trans (s7.below (C := w.heap.size) HB.out.size (fun q hq => by omega)))
   have W7 := hidP (HW.out.stay s7 (fun k e => by omega))
   have XS7 := hidP (xsc_of W7.out (below_le B7.out HC.out) (Nat.le_trans HC.out B7.out.size) r7 ON.out (by have := HNN.out; omega))
   clear HR HG HW HB R7 r7 s7 W7
   go_wp2_with fail
   refine wp_loop_rounds 1 ?_
   rw [rounds_succ]
   go_wp2_with fail
   go_ret3
   exact ⟨_, rfl, B7.out, XS7.out⟩
end Go.Proofs.YtldbbkheemnnhaaGreatDoor
