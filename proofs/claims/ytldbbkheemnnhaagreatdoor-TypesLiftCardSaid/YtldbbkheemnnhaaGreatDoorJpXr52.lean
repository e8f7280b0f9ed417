/-
  The texts Xr5, Add8, joined.
-/
import Derived.Test.YtldbbkheemnnhaaGreatDoorQpXr4
import Derived.Test.YtldbbkheemnnhaaGreatDoorQpAsks8
import Derived.Test.YtldbbkheemnnhaaGreatDoorQpCr8
namespace Go.Proofs.YtldbbkheemnnhaaGreatDoor
open Go.RowKit
section
variable {Q : Nat -> Prop} {B : Nat} {w : World} {g : Nat} {L : List Sct}
set_option maxHeartbeats 16000000 in
set_option maxRecDepth 20000 in
theorem xpart_yes {K : Ctx} {n : Nat} (H : XSc Q B w g L) (hL : L.length <= 1000) (hLL : ∀ x ∈ L, x.lives.length <= 1000) {cs : List Value} {t : Ty} (ht : TyAt n K w cs t) {v : Value} {l : List Bs} (hv : Strs K w v l) (hl : l.length <= 1000) (hC : K.C <= w.heap.size) {d : Nat} (hd : d <= 70) (hok : okT L l d t) (hf : flT d t) :
  Calls Tryz.prog 111 #[.pointer (some ⟨g, 0, none⟩), .agg cs.toArray, v, .agg zf.toArray, .bool true, .bool false] w fun ev w' => ev = .returned (.int .i64 0) /\ Below w.heap.size w w' := by
 have HA := hidP (alloc_two w (.cells cs.toArray 36) (.cells zf.toArray 114))
 have R0 : Hid (Row ((w.alloc (.cells cs.toArray 36)).alloc (.cells zf.toArray 114)) w.heap.size 36 cs) := (Row.new w 36 cs).alloc _
 have R1 : Hid (Row ((w.alloc (.cells cs.toArray 36)).alloc (.cells zf.toArray 114)) (w.heap.size + 1) 114 zf) := by
  have := Row.new (w.alloc (.cells cs.toArray 36)) 114 zf
  rw [size_alloc] at this; exact this
 have hsz : Hid (((w.alloc (.cells cs.toArray 36)).alloc (.cells zf.toArray 114)).heap.size = w.heap.size + 2) := size_two w _ _
 have TY : Hid (∀ y, Below w.heap.size w y -> Calls Tryz.prog 146 #[.pointer (some ⟨g, 0, none⟩), .agg cs.toArray, v, .bool false] y fun ev w' => ev = .returned (.int .i64 0) /\ Below y.heap.size y w') := fun y hy => xtype_yes hL hLL hl d (H.past hy) (ht.below (below_le hy hC)) (hv.below (below_le hy hC)) (Nat.le_trans hC hy.size) hok
 have WE : Hid (∀ y, Below w.heap.size w y -> Calls Tryz.prog 147 #[.agg cs.toArray, .agg zf.toArray, .bool true] y fun ev w' => ev = .returned (.bool true) /\ Below y.heap.size y w') := fun y hy => xwell_yes d hd (ht.below (below_le hy hC)) (Nat.le_trans hC hy.size) hok hf
 obtain ⟨n, rfl⟩ : ∃ m, n = m + 1 := by
  cases n with
  | zero => exact ht.elim
  | succ m => exact ⟨m, rfl⟩
 obtain ⟨v2, v3, rfl, hB, h2, h3⟩ := ht
 obtain ⟨a2, p2, rfl⟩ := Ar.form h2
 obtain ⟨a3, p3, rfl⟩ := Ar.form h3
 obtain ⟨a4, p4, rfl⟩ := Ar.form hv
 clear H h2 h3 hok hf hB hv
 generalize t.lives.length = nl at *
 generalize t.elem.length = ne at *
 generalize l.length = n4 at *
 generalize str t.name = SN at *
 generalize t.kind = kd at *
 generalize hW : (w.alloc (.cells [Value.int .i64 kd, .string SN, .slice a2 nl p2, .slice a3 ne p3].toArray 36)).alloc (.cells zf.toArray 114) = W at *
 have HW := hidP hW
 clear hW
 unfold zf at *
 have hsz114 : (Tryz.prog.info? 114).map (·.size) = some 10 := by kernel_rfl
 go_enter Tryz.func111, Tryz.ntmps111
 go_wp2_with (first | (rw [HW.out]; refine ldR rfl 36 (.tmp 7) rfl rfl R0.out Tryz.underlying36 rfl Tryz.sz36 ?_; apply shut))
 show wpList _ _ _ _ _ _
 clear HW
 go_wp2_with fail
 refine (TY.out _ HA.out).mono ?_
 rintro _ w1 ⟨rfl, hb1⟩
 have HB1 := hidP (HA.out.trans (below_le hb1 (by rw [hsz.out]; omega)))
 have R2 := hidP (R0.out.below hb1 R0.out.lt)
 have R3 := hidP (R1.out.below hb1 R1.out.lt)
 clear R0 R1 HA TY hb1
 go_wp2_with (first | (refine ldR rfl 36 (.tmp 7) rfl rfl R2.out Tryz.underlying36 rfl Tryz.sz36 ?_; refine ldR rfl 114 (.tmp 9) rfl rfl R3.out Tryz.underlying114 rfl hsz114 ?_; apply shut))
 show wpList _ _ _ _ _ _
 go_wp2_with fail
 refine (WE.out _ HB1.out).mono ?_
 rintro _ w2 ⟨rfl, hb2⟩
 have HB2 := hidP (HB1.out.trans (below_le hb2 HB1.out.size))
 clear R2 R3 HB1 WE hb2
 go_wp2_with fail
 go_ret
 exact ⟨rfl, HB2.out⟩
end
end Go.Proofs.YtldbbkheemnnhaaGreatDoor

namespace Go.Proofs.YtldbbkheemnnhaaGreatDoor
open Go.RowKit Go.Maps
def okL (d : Nat) (Ls : List Sct) : Prop := ∀ i (h : i < Ls.length), okS (Ls.take i) d Ls[i]
theorem take_next {α : Type} {l : List α} {k : Nat} (h : k < l.length) : l.take (k + 1) = l.take k ++ [l[k]] := by
 rw [List.take_add_one, List.getElem?_eq_getElem h]; rfl
section
variable {Q : Nat -> Prop} {B : Nat} {w : World} {g b c : Nat} {L : List Sct}
theorem ScM.add (h : ScM Q B w b L) {x : Sct} (hx : x.name ∉ L.map (·.name)) (hn : x.name.length <= 140737488355328) (hl : L.length <= 1000) {cs : List Value} (hc : SctQ Q B w cs x) (hQ : ∀ k, Q k -> k < w.heap.size /\ k ≠ b) :
  ∃ w', (Instr.mapUpdate 118 (.map (some b)) (.string (str x.name)) (.agg cs.toArray)).run Tryz.prog w = .ok () w' /\ ScM Q B w' b (L ++ [x]) /\ Stay (fun k => k = b) w w' := by
 obtain ⟨m, hm, h1, h2, h3⟩ := h.raw
 have hk : x.name ∉ m.map (·.1) := fun hh => hx ((h2 _).1 hh)
 obtain ⟨w', hrun, hm', hgr, hsz⟩ := hm.put (t := 118) (e := 84) Tryz.underlying118 (by omega) _ hn hk (.agg cs.toArray)
 have hS := stay_grown hgr hsz
 have kp : Kp Q Q w w' := ⟨fun _ h => h, fun k hk => hS.block k (hQ k hk).1 (hQ k hk).2⟩
 refine ⟨w', hrun, ⟨_, hm', by rw [List.length_cons, List.length_append, h1]; rfl, fun n => ?_, fun y hy => ?_⟩, hS⟩
 ·rw [List.map_cons, List.mem_cons, List.map_append, List.mem_append, h2 n]
  simp only [List.map_cons, List.map_nil, List.mem_singleton]
  exact Or.comm
 ·rcases List.mem_append.1 hy with hy | hy
  ·obtain ⟨cy, h4, h5⟩ := h3 y hy
   exact ⟨cy, List.mem_cons_of_mem _ h4, h5.mono kp⟩
  ·rw [List.mem_singleton] at hy
   subst hy
   exact ⟨cs, List.mem_cons_self, hc.mono kp⟩
set_option maxHeartbeats 16000000 in
set_option maxRecDepth 20000 in
theorem addCrate_yes (H : Scp Q B w g b c []) (hB : B <= 140737488355328) (hgb : g ≠ b) (hQ : ∀ k, Q k -> k ≠ b /\ k ≠ g) {u0 : Value} {Ls : List Sct} (hu : ArQ 5 80 (SctQ Q B w) Q w u0 Ls) {a1 : Option Addr} {p1 : Nat} {d : Nat} (hok : okL d Ls) (hl : Ls.length <= 1000) :
  Calls Tryz.prog 63 #[.pointer (some ⟨g, 0, none⟩), .agg #[u0, .slice a1 0 p1]] w fun ev w' => ev = .returned .nilIface /\ Scp Q B w' g b c Ls /\ Stay (fun k => k = b) w w' := by
 obtain ⟨a0, p0, rfl⟩ := ArQ.form hu
 have hA := alloc_one w (.cells #[.slice a0 Ls.length p0, .slice a1 0 p1] 69)
 have HS0 : Hid (Stay (fun k => k = b) w (w.alloc (.cells #[.slice a0 Ls.length p0, .slice a1 0 p1] 69))) := Stay.of_below hA
 have R0 : Hid (Row (w.alloc (.cells #[.slice a0 Ls.length p0, .slice a1 0 p1] 69)) w.heap.size 69 [.slice a0 Ls.length p0, .slice a1 0 p1]) := Row.new w 69 _
 have HH := hidP (H.past hA)
 have HU := hidP hu
 have HOK := hidP hok
 have HQ := hidP hQ
 have hglt := H.row.lt
 have hblt := H.map.lt
 have HQ0 := hidP H.sub
 have HLL : Hid (∀ k (h : k < Ls.length), ∀ y ∈ Ls.take k, y.lives.length <= 1000) := fun k h y hy => by
  obtain ⟨i, hi, e⟩ := List.mem_iff_getElem.1 hy
  rw [List.getElem_take] at e
  rw [← e]; exact (hok i _).few
 have x0 := R0.out.cell 0
 simp only [List.getElem?_cons_zero] at x0
 obtain ⟨n, hnl⟩ : ∃ n, n = Ls.length := ⟨_, rfl⟩
 have HNL := hidP hnl
 rw [← hnl] at hl x0 HS0 R0 HH ⊢
 clear H hu hok hQ hnl hA
 go_enter Tryz.func63, Tryz.ntmps63
 go_wp2_with fail
 go_loopw [14] (fun i wr => ∃ (k : Nat), k <= n /\ i = .int .i64 k /\ Scp Q B wr g b c (Ls.take k) /\ Row wr w.heap.size 69 [.slice a0 n p0, .slice a1 0 p1] /\ Stay (fun k => k = b) w wr) (fun i _ => n - (intOf i).toNat)
 case atStart => exact ⟨0, by omega, rfl, HH.out, R0.out, HS0.out⟩
 case round =>
  clear HS0 R0 HH x0
  obtain ⟨k, hk, rfl, hH, hr, hS⟩ := hrel
  by_cases h3 : k < n
  ·have l1 : (k : Int) < (n : Int) := by omega
   have hk' : k < Ls.length := by have := HNL.out; omega
   obtain ⟨ao, cap, e, _, _, hall⟩ := HU.out.shape
   cases e
   obtain ⟨b', o, rfl, hbQ, cs, hcl, hcs, hfa⟩ := hall k hk'
   have kp : Kp Q Q w wr := ⟨fun _ h => h, fun q hq => hS.block q (HQ0.out q hq) (fun e => (HQ.out q hq).1 e)⟩
   have hcq := hfa.mono kp
   have hrg : wr.rangeAt b' (o + k * 5) cs := fun j u hj => by
    have hj2 : j < 5 := by
     rcases Nat.lt_or_ge j 5 with h' | h'
     ·exact h'
     ·rw [List.getElem?_eq_none (by omega)] at hj; cases hj
    rw [kp.cell hbQ, hcs j hj2]; exact hj
   have hok := HOK.out k hk'
   obtain ⟨c2, c3, rfl, hnB, q2, q3⟩ := hcq
   obtain ⟨e2, f2, rfl⟩ := ArQ.form q2
   obtain ⟨e3, f3, rfl⟩ := ArQ.form q3
   have hcq : SctQ Q B wr [.bool Ls[k].pub, .string (str Ls[k].name), .slice e2 Ls[k].lives.length f2, .slice e3 Ls[k].fields.length f3, .int .i64 Ls[k].pos] Ls[k] := ⟨_, _, rfl, hnB, q2, q3⟩
   have HT := hidP (take_next hk')
   have hglt' := hidP (Nat.lt_of_lt_of_le hglt hS.size)
   have hblt' := hidP (Nat.lt_of_lt_of_le hblt hS.size)
   have hwlt := hidP hr.lt
   -- what is asked
   have ASK : Hid (∀ y, Below wr.heap.size wr y -> Calls Tryz.prog 104 #[.pointer (some ⟨g, 0, none⟩), .agg #[.bool Ls[k].pub, .string (str Ls[k].name), .slice e2 Ls[k].lives.length f2, .slice e3 Ls[k].fields.length f3, .int .i64 Ls[k].pos]] y fun ev w' => ev = .returned (.int .i64 0) /\ Below y.heap.size y w') := fun y hy =>
    askStruct_yes (K := ⟨wr.heap.size, B, hB⟩) (hH.past hy) ((SctQ.to (K := ⟨wr.heap.size, B, hB⟩) hcq (fun q hq => hH.sub q hq)).below hy) hy.size (HLL.out k hk') hok
   have ADD : Hid (∀ y, Scp Q B y g b c (Ls.take k) -> SctQ Q B y [.bool Ls[k].pub, .string (str Ls[k].name), .slice e2 Ls[k].lives.length f2, .slice e3 Ls[k].fields.length f3, .int .i64 Ls[k].pos] Ls[k] -> ∃ w', (Instr.mapUpdate 118 (.map (some b)) (.string (str Ls[k].name)) (.agg #[.bool Ls[k].pub, .string (str Ls[k].name), .slice e2 Ls[k].lives.length f2, .slice e3 Ls[k].fields.length f3, .int .i64 Ls[k].pos])).run Tryz.prog y = .ok () w' /\ Scp Q B w' g b c (Ls.take (k + 1)) /\ Stay (fun k => k = b) y w') := fun y hy hcy => by
    obtain ⟨w', h1, h2, h3⟩ := hy.map.add hok.new (by omega) (by rw [List.length_take]; omega) hcy (fun q hq => ⟨hy.sub q hq, (HQ.out q hq).1⟩)
    refine ⟨w', h1, ⟨h3.row hy.row hgb, by rw [HT.out]; exact h2, fun q hq => Nat.lt_of_lt_of_le (hy.sub q hq) h3.size⟩, h3⟩
   have RN : Hid (Row (wr.alloc (.cells z84.toArray 84)) wr.heap.size 84 z84) := Row.new wr 84 z84
   have HA := hidP (alloc_one wr (.cells z84.toArray 84))
   have hone := hidP hcq.parts.2
   have HH := hidP hH
   have HR := hidP hr
   have HRG := hidP hrg
   have HCQ := hidP hcq
   have HS := hidP hS
   have hk'' := hidP hk'
   clear hall hcs hcl hbQ kp hfa hcq hrg hok hH hr hS hnB q2 q3 HT
   generalize str Ls[k].name = SX at *
   generalize Ls[k].lives.length = nl at *
   generalize Ls[k].fields.length = nf at *
   generalize hps : Ls[k].pos = ps at *
   generalize hpb : Ls[k].pub = pb at *
   have HX := hidP (⟨hps, hpb⟩ : _ /\ _)
   clear hps hpb
   unfold z84 at *
   go_wp2_with (first | (refine wpList_load_mid rfl 84 (.tmp 16) rfl b' (o + k * 5) rfl [.bool pb, .string SX, .slice e2 nl f2, .slice e3 nf f3, .int .i64 ps] _ HRG.out Tryz.underlying84 rfl Tryz.sz84 ?_; apply shut))
   show wpList _ _ _ _ _ _
   go_wp2_with (first | (refine stR rfl 84 (.tmp 6) (.tmp 17) rfl (cs := [.bool pb, .string SX, .slice e2 nl f2, .slice e3 nf f3, .int .i64 ps]) rfl rfl RN.out Tryz.sz84 rfl hone.out ?_; intro w2 R2 S2; apply shut))
   show wpList _ _ _ _ _ _
   have hb2 : Below wr.heap.size wr w2 := HA.out.trans (S2.below (C := wr.heap.size) HA.out.size (fun q hq => by omega))
   have hg2 := hglt'.out
   have hb3 := hblt'.out
   have hw3 := hwlt.out
   have HB2 := hidP hb2
   have HASK := hidP (ASK.out w2 hb2)
   replace R2 := hidP R2
   clear RN S2 HA hb2 ASK HRG
   go_wp2_with (first | (refine ldR rfl 84 (.tmp 6) rfl rfl R2.out Tryz.underlying84 rfl Tryz.sz84 ?_; apply shut))
   show wpList _ _ _ _ _ _
   go_wp2_with fail
   refine HASK.out.mono ?_
   rintro _ w3 ⟨rfl, hb4⟩
   have HB3 := hidP (HB2.out.trans (below_le hb4 HB2.out.size))
   have R3 := hidP (R2.out.below hb4 R2.out.lt)
   have HD := hidP ((Below.refl w3.heap.size w3).drew)
   have HHD := hidP ((HH.out.past HB3.out).past HD.out)
   have CQD : Hid (SctQ Q B w3.drew [.bool pb, .string SX, .slice e2 nl f2, .slice e3 nf f3, .int .i64 ps] Ls[k]) := HCQ.out.mono ⟨fun _ h => h, fun q hq => (HB3.out.block q (HH.out.sub q hq))⟩
   obtain ⟨w5, hrun, hH5, hS5⟩ := ADD.out w3.drew HHD.out CQD.out
   have HH5 := hidP hH5
   have HS5 := hidP (HS.out.trans ((Stay.of_below HB3.out).trans (((Stay.refl (fun k => k = b) w3).drew).trans hS5)))
   have R5 := hidP (hS5.row ((HR.out.below HB3.out hw3).drew) (by omega))
   have hS0 : Row w3.drew wr.heap.size 84 [.bool pb, .string SX, .slice e2 nl f2, .slice e3 nf f3, .int .i64 ps] /\ Row w3.drew g 121 [.map (some b), .map (some c)] := ⟨R3.out.drew, HHD.out.row⟩
   clear HASK hb4 HB2 R2 HD HHD CQD hH5 hS5 HB3 R3 ADD HCQ HH HR HS
   go_wp2_with fail
   refine beginL (fun y => Row y wr.heap.size 84 [.bool pb, .string SX, .slice e2 nl f2, .slice e3 nf f3, .int .i64 ps] /\ Row y g 121 [.map (some b), .map (some c)]) 7 (by kernel_rfl) hS0 (fun hSS => ?_)
   refine takeL 0 (v := ?_) rfl (some 27) rfl (by decide) (by kernel_rfl) (by kernel_rfl) (by kernel_rfl) (by kernel_rfl) (fun _ _ _ h => h) (Or.inl ⟨by rfl, ?_⟩) hSS ?_
   rotate_left
   ·(intro y hy; have hk0 := hy.1.cell 0; have hk1 := hy.1.cell 1; have hk2 := hy.1.cell 2; have hk3 := hy.1.cell 3; have hk4 := hy.1.cell 4; have hj0 := hy.2.cell 0; simp only [List.getElem?_cons_zero, List.getElem?_cons_succ] at hk0 hk1 hk2 hk3 hk4 hj0; go_simp; with_reducible rfl)
   try simp only [Act.put]
   try simp only [List.setIfInBounds_toArray]
   try simp only [List.set_cons_succ]
   try simp only [List.set_cons_zero]
   refine takeL 1 (v := ?_) rfl (some 28) rfl (by decide) (by kernel_rfl) (by kernel_rfl) (by kernel_rfl) (by kernel_rfl) (fun _ _ _ h => h) (Or.inl ⟨by rfl, ?_⟩) hSS ?_
   rotate_left
   ·(intro y hy; have hk0 := hy.1.cell 0; have hk1 := hy.1.cell 1; have hk2 := hy.1.cell 2; have hk3 := hy.1.cell 3; have hk4 := hy.1.cell 4; have hj0 := hy.2.cell 0; simp only [List.getElem?_cons_zero, List.getElem?_cons_succ] at hk0 hk1 hk2 hk3 hk4 hj0; go_simp; with_reducible rfl)
   try simp only [Act.put]
   try simp only [List.setIfInBounds_toArray]
   try simp only [List.set_cons_succ]
   try simp only [List.set_cons_zero]
   refine takeL 2 (v := ?_) rfl (some 29) rfl (by decide) (by kernel_rfl) (by kernel_rfl) (by kernel_rfl) (by kernel_rfl) (fun _ _ _ h => h) (Or.inl ⟨by rfl, ?_⟩) hSS ?_
   rotate_left
   ·(intro y hy; have hk0 := hy.1.cell 0; have hk1 := hy.1.cell 1; have hk2 := hy.1.cell 2; have hk3 := hy.1.cell 3; have hk4 := hy.1.cell 4; have hj0 := hy.2.cell 0; simp only [List.getElem?_cons_zero, List.getElem?_cons_succ] at hk0 hk1 hk2 hk3 hk4 hj0; go_simp; with_reducible rfl)
   try simp only [Act.put]
   try simp only [List.setIfInBounds_toArray]
   try simp only [List.set_cons_succ]
   try simp only [List.set_cons_zero]
   refine takeL 3 (v := ?_) rfl (some 30) rfl (by decide) (by kernel_rfl) (by kernel_rfl) (by kernel_rfl) (by kernel_rfl) (fun _ _ _ h => h) (Or.inl ⟨by rfl, ?_⟩) hSS ?_
   rotate_left
   ·(intro y hy; have hk0 := hy.1.cell 0; have hk1 := hy.1.cell 1; have hk2 := hy.1.cell 2; have hk3 := hy.1.cell 3; have hk4 := hy.1.cell 4; have hj0 := hy.2.cell 0; simp only [List.getElem?_cons_zero, List.getElem?_cons_succ] at hk0 hk1 hk2 hk3 hk4 hj0; go_simp; with_reducible rfl)
   try simp only [Act.put]
   try simp only [List.setIfInBounds_toArray]
   try simp only [List.set_cons_succ]
   try simp only [List.set_cons_zero]
   refine takeL 4 (v := ?_) rfl (some 31) rfl (by decide) (by kernel_rfl) (by kernel_rfl) (by kernel_rfl) (by kernel_rfl) (fun _ _ _ h => h) (Or.inl ⟨by rfl, ?_⟩) hSS ?_
   rotate_left
   ·(intro y hy; have hk0 := hy.1.cell 0; have hk1 := hy.1.cell 1; have hk2 := hy.1.cell 2; have hk3 := hy.1.cell 3; have hk4 := hy.1.cell 4; have hj0 := hy.2.cell 0; simp only [List.getElem?_cons_zero, List.getElem?_cons_succ] at hk0 hk1 hk2 hk3 hk4 hj0; go_simp; with_reducible rfl)
   try simp only [Act.put]
   try simp only [List.setIfInBounds_toArray]
   try simp only [List.set_cons_succ]
   try simp only [List.set_cons_zero]
   refine takeL 5 (v := ?_) rfl (some 32) rfl (by decide) (by kernel_rfl) (by kernel_rfl) (by kernel_rfl) (by kernel_rfl) (fun _ _ _ h => h) (Or.inl ⟨by rfl, ?_⟩) hSS ?_
   rotate_left
   ·(intro y hy; have hk0 := hy.1.cell 0; have hk1 := hy.1.cell 1; have hk2 := hy.1.cell 2; have hk3 := hy.1.cell 3; have hk4 := hy.1.cell 4; have hj0 := hy.2.cell 0; simp only [List.getElem?_cons_zero, List.getElem?_cons_succ] at hk0 hk1 hk2 hk3 hk4 hj0; go_simp; with_reducible rfl)
   try simp only [Act.put]
   try simp only [List.setIfInBounds_toArray]
   try simp only [List.set_cons_succ]
   try simp only [List.set_cons_zero]
   refine takeL 6 (v := ?_) rfl (some 33) rfl (by decide) (by kernel_rfl) (by kernel_rfl) (by kernel_rfl) (by kernel_rfl) (fun _ _ _ h => h) (Or.inl ⟨by rfl, ?_⟩) hSS ?_
   rotate_left
   ·(intro y hy; have hk0 := hy.1.cell 0; have hk1 := hy.1.cell 1; have hk2 := hy.1.cell 2; have hk3 := hy.1.cell 3; have hk4 := hy.1.cell 4; have hj0 := hy.2.cell 0; simp only [List.getElem?_cons_zero, List.getElem?_cons_succ] at hk0 hk1 hk2 hk3 hk4 hj0; go_simp; with_reducible rfl)
   try simp only [Act.put]
   try simp only [List.setIfInBounds_toArray]
   try simp only [List.set_cons_succ]
   try simp only [List.set_cons_zero]
   refine readyL (rs := [7]) (by kernel_rfl) (by simp) ?_
   refine ReadyL.cons rfl (fun KK hK => ?_) ReadyL.nil
   refine wantR (by rfl) ?_
   go_simp
   refine hK.out _ _ (fun h => absurd rfl h) (fun _ => ?_)
   clear hK KK hSS hS0
   refine doneL (by kernel_rfl) ?_ _
   clear hrun
   go_wp2_with fail
   go_roundw
   case rel => exact ⟨k + 1, by omega, by go_num, HH5.out, R5.out, HS5.out⟩
   case measure => simp [intOf]; omega
  ·obtain rfl : k = n := by omega
   have y1 := hr.cell 1
   simp only [List.getElem?_cons_zero, List.getElem?_cons_succ] at y1
   have hH' := hidP (show Scp Q B wr g b c Ls by have := HNL.out; rw [List.take_of_length_le (by omega)] at hH; exact hH)
   have hS' := hidP hS
   clear hH hr hS
   go_wp2_with fail
   refine wp_loop_rounds 1 ?_
   rw [rounds_succ]
   go_wp2_with fail
   go_ret
   exact ⟨rfl, hH'.out, hS'.out⟩
end
end Go.Proofs.YtldbbkheemnnhaaGreatDoor
