/-
  The texts Rg8, Pr8, So8, joined.
-/
import Derived.Test.YtldbbkheemnnhaaGreatDoorJpXr23
import Derived.Deep.LoopGhost
import Derived.ChangeKeysEq
namespace Go.Proofs.YtldbbkheemnnhaaGreatDoor
open Go.RowKit
theorem Tryz.info3I : (Tryz.prog.info? 3).map (fun i => (i.zero, i.size, i.bytes)) = some (some (.int .i64 0), 1, 8) := by kernel_rfl
def iv (l : List Int) : List Value := l.map (.int .i64)
theorem iv_len (l : List Int) : (iv l).length = l.length := List.length_map ..
theorem iv_app (l m : List Int) : iv (l ++ m) = iv l ++ iv m := List.map_append ..
theorem iv_ones (l : List Int) : ∀ u ∈ iv l, u.oneCell' = true := by
 intro u hu
 obtain ⟨x, _, rfl⟩ := List.mem_map.mp hu
 rfl
theorem nms_sou {K : Ctx} {w : World} {v : Value} {l : List Int} (h : Nms K w v l) : Sou w v l.length (iv l) := by
 obtain ⟨ao, cap, rfl, _, _, hA⟩ := h.shape
 refine ⟨ao, cap, rfl, fun e => ?_, fun j u hj => ?_⟩
 ·rcases Nat.eq_zero_or_pos l.length with h | h
  ·exact h
  ·obtain ⟨b, o, e1, _⟩ := hA 0 h
   rw [e] at e1; cases e1
 ·have hjl : j < l.length := by
   rcases Nat.lt_or_ge j l.length with h | h
   ·exact h
   ·rw [List.getElem?_eq_none (by rw [iv_len]; exact h)] at hj; cases hj
  obtain ⟨b, o, e1, _, cs, hl, hc, hp⟩ := hA j hjl
  refine ⟨b, o, e1, ?_⟩
  have := hc 0 (by decide)
  rw [Nat.mul_one, Nat.add_zero] at this
  rw [this]
  have hp' : cs = [.int .i64 l[j]] := hp
  rw [hp']
  rw [← hj]
  simp [iv, List.getElem?_eq_getElem hjl]
theorem RtAt.up {K : Ctx} {w : World} {C : Nat} (hb : K.C <= C) : ∀ {n : Nat} {cs : List Value} {t : RTy}, RtAt n K w cs t -> RtAt n (K.up C) w cs t
 | 0, _, _, h => h.elim
 | n + 1, _, _, h => by
  obtain ⟨v2, v3, e, h1, h2, h3⟩ := h
  exact ⟨v2, v3, e, h1, Ar.up h2 hb fun _ _ _ h => h, h3.up hb fun _ _ _ h => RtAt.up hb h⟩
def resL (m : Nat) : Option RTy -> List Int
 | some e => regL m e
 | none => []
theorem regL_succ (n : Nat) (t : RTy) : regL (n + 1) t = ownR t ++ resL n (nxtR t) := by
 simp only [regL]
 cases nxtR t <;> rfl
theorem PtR.below {n : Nat} {K : Ctx} {w w' : World} (hb : Below K.C w w') : ∀ {o : Option RTy} {v : Value}, PtR n K w v o -> PtR n K w' v o
 | none, _, h => h
 | some t, v, h => by
  obtain ⟨b, o, cs, rfl, h1, h2, h3⟩ := h
  exact ⟨b, o, cs, rfl, h1, fun j u hj => by rw [hb.cell (p := ⟨b, o + j, none⟩) h1]; exact h2 j u hj, h3.below hb⟩
set_option maxHeartbeats 8000000 in
theorem regions26 {K : Ctx} {w : World} {n : Nat} {cs : List Value} {t : RTy} (ht : RtAt n K w cs t) (hC : K.C <= w.heap.size) (hn : (regL n t).length <= 50000) :
  Calls Tryz.prog 26 #[.agg cs.toArray] w fun ev w' => ∃ v, ev = .returned v /\ Below w.heap.size w w' /\ w'.ownsRow w.heap.size 3 1 v (regL n t).length (iv (regL n t)) := by
 have hA := alloc_one w (.cells cs.toArray 25)
 have HA := hidP hA
 have R0 : Hid (Row (w.alloc (.cells cs.toArray 25)) w.heap.size 25 cs) := Row.new w 25 cs
 have hl4 := ht.len
 have P0 := hidP (show PtR n (K.up (w.heap.size + 1)) (w.alloc (.cells cs.toArray 25)) (.pointer (some ⟨w.heap.size, 0, none⟩)) (some t) from
  ⟨w.heap.size, 0, cs, rfl, Nat.lt_succ_self _, R0.out.range, (ht.below (below_le hA hC)).up (by omega)⟩)
 have HN := hidP hn
 have HL := hidP hl4
 have hsz := hidP (size_alloc w (.cells cs.toArray 25))
 clear ht hA hn hl4
 go_enter Tryz.func26, Tryz.ntmps26
 go_wp2_with fail
 go_loopg [3, 4] n (fun k v3 v4 wr => ∃ (cur : Option RTy) (m : Nat) (acc : List Int), PtR m (K.up (w.heap.size + 1)) wr v4 cur /\ acc ++ resL m cur = regL n t /\ m <= k /\ wr.ownsRow (w.heap.size + 1) 3 1 v3 acc.length (iv acc) /\ Below w.heap.size w wr /\ w.heap.size + 1 <= wr.heap.size)
 case atStart => exact ⟨some t, n, [], P0.out, rfl, Nat.le_refl _, ⟨rfl, .inl ⟨rfl, rfl⟩⟩, HA.out, Nat.le_of_eq hsz.out.symm⟩
 case round =>
  obtain ⟨cur, m, acc, hp, he, hm, ho, hb, hz⟩ := hrel
  clear P0 R0 HA hsz
  cases cur with
  | none =>
   have hp' : _ = _ := hp
   subst hp'
   have HE := hidP he
   have HO := hidP ho
   have HB := hidP hb
   clear hp he ho hb
   go_wp2_with fail
   go_ret
   have e : acc = regL n t := by have := HE.out; simpa [resL] using this
   exact ⟨_, rfl, HB.out, by rw [← e]; exact own_base HO.out (Nat.le_succ _)⟩
  | some t' =>
   obtain ⟨b, o, cs', rfl, hbC, hr, hT⟩ := hp
   obtain ⟨m', rfl⟩ : ∃ j, m = j + 1 := by
    cases m with
    | zero => exact hT.elim
    | succ j => exact ⟨j, rfl⟩
   have OWN := hidP (own37 hT hr)
   have HWI := hidP (fun (y : World) (hy : Below (w.heap.size + 1) wr y) => within36 (hT.below hy) (fun j u hj => by rw [hy.cell (p := ⟨b, o + j, none⟩) hbC]; exact hr j u hj))
   have HE := hidP he
   have hle : acc.length + (ownR t').length <= 50000 := by
    have := congrArg List.length he
    rw [show resL (m' + 1) (some t') = regL (m' + 1) t' from rfl, regL_succ] at this
    simp only [List.length_append] at this
    have := HN.out
    omega
   have HLE := hidP hle
   have HO := hidP ho
   have HB := hidP hb
   have HZ := hidP hz
   obtain ⟨a3, p3, rfl⟩ := own_slice ho
   clear he hr hT hle ho hb hz
   go_wp2_with fail
   refine OWN.out.mono ?_
   rintro _ _ ⟨u, rfl, rfl, hu⟩
   have HS := hidP (nms_sou hu)
   obtain ⟨a5, p5, rfl⟩ := Ar.form hu
   clear OWN hu
   have HIL := hidP (show (iv (ownR t')).length = (ownR t').length * 1 by rw [iv_len, Nat.mul_one])
   have HI1 := hidP (iv_ones (ownR t'))
   go_wp2_with (first | (refine wpl_appS (bz := 8) rfl (.tmp 9) (.tmp 11) rfl Tryz.underlying22 Tryz.info3I rfl (by decide) rfl rfl HO.out HZ.out HS.out HIL.out HI1.out (by have := HLE.out; omega) (by decide) ?_; intro v6 w6 ho6 hb6 hf6; apply shut))
   show wpList _ _ _ _ _ _
   have hz6 := hb6.size
   have HO6 := hidP ho6
   have HB6 := hidP (HB.out.trans (below_le hb6 (Nat.le_trans (Nat.le_succ _) (Nat.le_refl _))))
   have HZ6 := hidP (Nat.le_trans HZ.out hz6)
   have WI := hidP (HWI.out w6 hb6)
   clear HO HS HB HZ HWI ho6 hb6 hz6 hf6 HIL HI1
   go_wp2_with fail
   refine WI.out.mono ?_
   rintro _ _ ⟨u, rfl, rfl, hu⟩
   have HU := hidP hu
   clear hu WI
   go_wp2_with fail
   go_roundg (gk - 1)
   case measure => omega
   case rel =>
    refine ⟨nxtR t', m', acc ++ ownR t', HU.out, ?_, by omega, ?_, HB6.out, HZ6.out⟩
    ·rw [List.append_assoc, ← regL_succ]; exact HE.out
    ·rw [List.length_append, iv_app]; exact HO6.out
end Go.Proofs.YtldbbkheemnnhaaGreatDoor

namespace Go.Proofs.YtldbbkheemnnhaaGreatDoor
open Go.RowKit
def PrAt (cs : List Value) (x : Int × Int) : Prop := cs = [.int .i64 x.1, .int .i64 x.2]
def Prs (K : Ctx) (w : World) (v : Value) (l : List (Int × Int)) : Prop := Ar 2 16 PrAt K w v l
set_option maxHeartbeats 4000000 in
theorem copy29 {K : Ctx} {w : World} {n : Nat} {cs : List Value} {t : RTy} (ht : RtAt (n + 1) K w cs t) :
  Calls Tryz.prog 29 #[.agg cs.toArray] w fun ev w' => ev = .returned (.bool (t.kind == 1 || t.kind == 2 || t.kind == 4)) /\ Below w.heap.size w w' := by
 obtain ⟨v2, v3, rfl, _, _, _⟩ := ht
 have HA := hidP (alloc_one w (.cells #[.int .i64 t.kind, .string (str t.name), v2, v3] 25))
 have R0 : Row (w.alloc (.cells #[.int .i64 t.kind, .string (str t.name), v2, v3] 25)) w.heap.size 25 [.int .i64 t.kind, .string (str t.name), v2, v3] := Row.new w 25 _
 have y0 := R0.cell 0
 simp only [List.getElem?_cons_zero] at y0
 clear R0
 generalize t.kind = kd at *
 generalize str t.name = sn at *
 rcases h1 : kd == 1 with _ | _
 all_goals rcases h2 : kd == 2 with _ | _
 all_goals rcases h4 : kd == 4 with _ | _
 all_goals
  go_enter Tryz.func29, Tryz.ntmps29
  go_wp2_with fail
  go_ret
  exact ⟨rfl, HA.out⟩
theorem run_neq32 (w : World) (a b c d : Int) : (binOp .neq 32 (.agg #[.int .i64 a, .int .i64 b]) (.agg #[.int .i64 c, .int .i64 d])).run Tryz.prog w = .ok (.bool (!(a == c && b == d))) w := by
 obtain ⟨i, hi⟩ : ∃ i, Tryz.prog.info? 3 = some i := by
  rcases h : Tryz.prog.info? 3 with _ | i
  ·have := Tryz.info3I; rw [h] at this; cases this
  ·exact ⟨i, rfl⟩
 rw [run_neq_struct, show (10000 : Nat) = 9999 + 1 from rfl, run_equalIn_array w 9999 _ _ Tryz.underlying32 hi]
 have hc : Tryz.prog.cellsOf 3 = 1 := by kernel_rfl
 rw [hc, show List.range 2 = [0, 1] from rfl]
 simp only [Op.eqItems]
 go_simp
 by_cases h1 : a = c <;> by_cases h2 : b = d <;> simp [h1, h2]
set_option maxHeartbeats 8000000 in
theorem pairs31 {K : Ctx} {w : World} {v u : Value} {l : List (Int × Int)} (hv : Prs K w v l) (hu : Prs K w u l) :
  Calls Tryz.prog 31 #[v, u] w fun ev w' => ev = .returned (.bool true) /\ Below w.heap.size w w' := by
 obtain ⟨a1, p1, rfl, q1, z1, A1⟩ := hv.shape
 obtain ⟨a2, p2, rfl, q2, z2, A2⟩ := hu.shape
 have A1 := hidP A1
 have A2 := hidP A2
 have hlen : l.length <= 140737488355328 := by omega
 generalize hnl : l.length = nl at q1 q2 hlen ⊢
 have HNL := hidP hnl
 clear hnl z1 z2 hv hu
 go_enter Tryz.func31, Tryz.ntmps31
 go_wp2_with fail
 go_loopg [5] nl (fun k v5 wr => ∃ i : Nat, i + k = nl /\ v5 = .int .i64 (i : Int) /\ Below w.heap.size w wr)
 case atStart => exact ⟨0, by omega, rfl, Below.refl _ _⟩
 case round =>
  obtain ⟨i, hi, rfl, hb⟩ := hrel
  have HB := hidP hb
  clear hb
  by_cases hlt : i < nl
  ·obtain ⟨b1, o1, rfl, hb1, c1, hl1, hc1, hp1⟩ := A1.out i (by have := HNL.out; omega)
   obtain ⟨b2, o2, rfl, hb2, c2, hl2, hc2, hp2⟩ := A2.out i (by have := HNL.out; omega)
   have hp1' : c1 = [.int .i64 (l[i]'(by have := HNL.out; omega)).1, .int .i64 (l[i]'(by have := HNL.out; omega)).2] := hp1
   have hp2' : c2 = c1 := hp1'.symm ▸ hp2
   generalize (l[i]'(by have := HNL.out; omega)).1 = x1 at hp1'
   generalize (l[i]'(by have := HNL.out; omega)).2 = x2 at hp1'
   subst hp1' hp2'
   have r10 := (HB.out.cell (p := ⟨b1, o1 + i * 2 + 0, none⟩) (World.block_lt_of_cell? w _ (hc1 0 (by decide)))).trans (hc1 0 (by decide))
   have r11 := (HB.out.cell (p := ⟨b1, o1 + i * 2 + 1, none⟩) (World.block_lt_of_cell? w _ (hc1 1 (by decide)))).trans (hc1 1 (by decide))
   have r20 := (HB.out.cell (p := ⟨b2, o2 + i * 2 + 0, none⟩) (World.block_lt_of_cell? w _ (hc2 0 (by decide)))).trans (hc2 0 (by decide))
   have r21 := (HB.out.cell (p := ⟨b2, o2 + i * 2 + 1, none⟩) (World.block_lt_of_cell? w _ (hc2 1 (by decide)))).trans (hc2 1 (by decide))
   simp only [List.getElem?_cons_zero, List.getElem?_cons_succ, Nat.add_zero] at r10 r11 r20 r21
   have l1 : (i : Int) < (nl : Int) := by omega
   clear hp1 hp2 hc1 hc2 hl1 hl2 hb1 hb2
   have NQ := run_neq32
   go_wp2_with fail
   go_quiet (fail)
   go_wp2_with fail
   go_roundg (gk - 1)
   case measure => omega
   case rel => exact ⟨i + 1, by omega, by go_num, HB.out.trans ⟨rfl, rfl, rfl, Nat.le_refl _, fun _ _ => rfl⟩⟩
  ·have e : i = nl := by omega
   subst e
   clear hlt
   go_wp2_with fail
   go_ret
   exact ⟨rfl, HB.out⟩
end Go.Proofs.YtldbbkheemnnhaaGreatDoor

namespace Go.Proofs.YtldbbkheemnnhaaGreatDoor
open Go.RowKit
def allS (p : RTy -> RTy -> Bool) : List RTy -> List RTy -> Bool
 | [], [] => true
 | x :: l, y :: m => p x y && allS p l m
 | _, _ => false
def sameN : Nat -> RTy -> RTy -> Bool
 | 0, _, _ => false
 | n + 1, a, b => (a.kind == b.kind) && (decide (a.name = b.name) && ((a.regs.length == b.regs.length) && allS (sameN n) a.elem b.elem))
theorem allS_len {p : RTy -> RTy -> Bool} : ∀ {l m : List RTy}, l.length ≠ m.length -> allS p l m = false
 | [], [], h => absurd rfl h
 | [], _ :: _, _ => rfl
 | _ :: _, [], _ => rfl
 | x :: l, y :: m, h => by
  simp only [allS]
  rw [allS_len (l := l) (m := m) (fun e => h (by simp [e])), Bool.and_false]
theorem allS_drop {p : RTy -> RTy -> Bool} {l m : List RTy} {i : Nat} (h : i < l.length) (h' : i < m.length) : allS p (l.drop i) (m.drop i) = (p l[i] m[i] && allS p (l.drop (i + 1)) (m.drop (i + 1))) := by
 rw [List.drop_eq_getElem_cons h, List.drop_eq_getElem_cons h']
 rfl
theorem Tryz.sz25 : (Tryz.prog.info? 25).map (·.size) = some 4 := by kernel_rfl
def z25 : List Value := [.int .i64 0, .string ⟨#[]⟩, .slice none 0 0, .slice none 0 0]
theorem RtAt.ones {K : Ctx} {w : World} : ∀ {n : Nat} {cs : List Value} {t : RTy}, RtAt n K w cs t -> ∀ u ∈ cs, u.oneCell' = true
 | 0, _, _, h => h.elim
 | n + 1, _, _, h => by
  obtain ⟨v2, v3, rfl, _, h2, h3⟩ := h
  exact ones_cons rfl (ones_cons rfl (ones_cons h2.one (ones_cons h3.one ones_nil)))
theorem Ar.each {α : Type} {z bz : Nat} {P : List Value -> α -> Prop} {K : Ctx} {w : World} {a : Option Addr} {n p : Nat} {l : List α} (h : Ar z bz P K w (.slice a n p) l) (i : Nat) (hi : i < l.length) :
  ∃ b o, a = some ⟨b, o, none⟩ /\ b < K.C /\ ∃ cs, cs.length = z /\ w.rangeAt b (o + i * z) cs /\ P cs l[i] := by
 obtain ⟨ao, cap, e, _, _, hA⟩ := h.shape
 cases e
 obtain ⟨b, o, e1, hb, cs, hl, hc, hp⟩ := hA i hi
 refine ⟨b, o, e1, hb, cs, hl, fun j u hj => ?_, hp⟩
 rw [hc j ?_, hj]
 rcases Nat.lt_or_ge j z with h | h
 ·exact h
 ·rw [List.getElem?_eq_none (by omega)] at hj; cases hj
theorem range_le {w w' : World} {C b o : Nat} {cs : List Value} (h : w.rangeAt b o cs) (hb : Below C w w') (hC : b < C) : w'.rangeAt b o cs := fun j u hj => by
 rw [hb.cell (p := ⟨b, o + j, none⟩) hC]; exact h j u hj
theorem retB {a b : Bool} (h : a = b) : Ending.returned (Value.bool b) = Ending.returned (.bool a) := by rw [h]
set_option maxHeartbeats 16000000 in
set_option maxRecDepth 20000 in
theorem eqf52 {K : Ctx} {w : World} {n m : Nat} {p : RTy -> RTy -> Bool} {v u : Value} {l k : List RTy} (hv : Ar 4 72 (RtAt n K w) K w v l) (hu : Ar 4 72 (RtAt m K w) K w u k) (hC : K.C <= w.heap.size)
  (IH : ∀ y, Below w.heap.size w y -> ∀ cs ds t u, RtAt n K y cs t -> RtAt m K y ds u -> Calls Tryz.prog 27 #[.agg cs.toArray, .agg ds.toArray] y fun ev w' => ev = .returned (.bool (p t u)) /\ Below y.heap.size y w') :
  Calls Tryz.prog 52 #[v, u, .func (.func 27) #[] #[]] w fun ev w' => ev = .returned (.bool (allS p l k)) /\ Below w.heap.size w w' := by
 obtain ⟨a1, p1, rfl⟩ := Ar.form hv
 obtain ⟨a2, p2, rfl⟩ := Ar.form hu
 have hlen : l.length <= 140737488355328 := by
  obtain ⟨_, _, _, _, z1, _⟩ := hv.shape
  omega
 have A1 := hidP (fun i hi => Ar.each hv i hi)
 have A2 := hidP (fun i hi => Ar.each hu i hi)
 have HIH := hidP IH
 have HC := hidP hC
 clear hv hu IH hC
 by_cases hl : l.length = k.length
 ·rw [← hl]
  have HNK := hidP hl
  clear hl
  generalize hnl : l.length = nl at hlen ⊢
  have HNL := hidP hnl
  clear hnl
  go_enter Tryz.func52, Tryz.ntmps52
  go_wp2_with fail
  go_loopg [17] nl (fun r v17 wr => ∃ i : Nat, i + r = nl /\ v17 = .int .i64 (i : Int) /\ Below w.heap.size w wr /\ allS p (l.drop i) (k.drop i) = allS p l k)
  case atStart => exact ⟨0, by omega, rfl, Below.refl _ _, rfl⟩
  case round =>
   obtain ⟨i, hi, rfl, hb, hd⟩ := hrel
   have HB := hidP hb
   have HD := hidP hd
   clear hb hd
   by_cases hlt : i < nl
   ·have hil : i < l.length := by have := HNL.out; omega
    have hik : i < k.length := by have := HNL.out; have := HNK.out; omega
    obtain ⟨b1, o1, rfl, hb1, c1, hl1, hc1, hp1⟩ := A1.out i hil
    obtain ⟨b2, o2, rfl, hb2, c2, hl2, hc2, hp2⟩ := A2.out i hik
    have hBA := hidP (HB.out.trans (below_le (alloc_one wr (.cells c1.toArray 25)) HB.out.size))
    have hBB := hidP (HB.out.trans (below_le (alloc_two wr (.cells c1.toArray 25) (.cells z25.toArray 25)) HB.out.size))
    have r1 := hidP (range_le hc1 HB.out (Nat.lt_of_lt_of_le hb1 HC.out))
    have r2 := hidP (range_le hc2 hBA.out (Nat.lt_of_lt_of_le hb2 HC.out))
    have s1 := hidP (show (Tryz.prog.info? 25).map (·.size) = some c1.length by rw [hl1]; exact Tryz.sz25)
    have s2 := hidP (show (Tryz.prog.info? 25).map (·.size) = some c2.length by rw [hl2]; exact Tryz.sz25)
    have s1' := hidP (show (Tryz.prog.info? 25).map (·.size) = some c1.toArray.size by rw [List.size_toArray]; exact s1.out)
    have e1 := hidP (show (4 : Nat) = c1.toArray.size by rw [List.size_toArray]; exact hl1.symm)
    have e2 := hidP (show z25.length = c2.length from hl2.symm)
    have n1 := hidP (one_mem hp1.ones)
    have n2 := hidP hp2.ones
    have CALL := hidP (fun y (hy : Below w.heap.size w y) => HIH.out y hy c1 c2 _ _ (hp1.below (below_le hy HC.out)) (hp2.below (below_le hy HC.out)))
    have HDD := hidP (allS_drop (p := p) hil hik)
    generalize l[i] = x at CALL HDD
    generalize k[i] = y at CALL HDD
    clear hp1 hp2 hc1 hc2 hl1 hl2 hb1 hb2 hBA hil hik
    have l1 : (i : Int) < (nl : Int) := by omega
    have R8 := hidP ((Row.new wr 25 c1).alloc (.cells z25.toArray 25))
    have R9 := hidP (Row.new (wr.alloc (.cells c1.toArray 25)) 25 z25)
    rw [size_alloc] at R9
    go_wp2_with (first | (refine wpList_load_mid rfl 25 (.tmp 20) rfl b1 (o1 + i * 4) rfl c1 _ r1.out Tryz.underlying25 rfl s1.out ?_) | (refine store_new rfl 25 (.tmp 8) (.tmp 21) rfl c1.toArray _ 25 rfl rfl s1'.out e1.out n1.out ?_) | (refine wpList_load_mid rfl 25 (.tmp 24) rfl b2 (o2 + i * 4) rfl c2 _ r2.out Tryz.underlying25 rfl s2.out ?_) | (refine stR rfl 25 (.tmp 9) (.tmp 25) rfl rfl rfl R9.out s2.out e2.out n2.out ?_; intro W RW SW; apply shut))
    show wpList _ _ _ _ _ _
    have R8W := hidP (SW.row R8.out (by show wr.heap.size ≠ wr.heap.size + 1; omega))
    have R9W := hidP RW
    have hBW := hidP (hBB.out.trans (SW.below (C := w.heap.size) hBB.out.size (fun q hq => by have := HB.out.size; show w.heap.size <= q; have : q = wr.heap.size + 1 := hq; omega)))
    have CW := hidP (CALL.out W hBW.out)
    clear r1 r2 s1' e1 e2 n1 n2 R8 R9 RW SW CALL hBB
    go_wp2_with (first | (refine ldR rfl 25 (.tmp 8) rfl rfl R8W.out Tryz.underlying25 rfl s1.out ?_) | (refine ldR rfl 25 (.tmp 9) rfl rfl R9W.out Tryz.underlying25 rfl s2.out ?_))
    refine CW.out.mono ?_
    rintro _ w5 ⟨rfl, hb5⟩
    have HB5 := hidP (hBW.out.trans (below_le hb5 hBW.out.size))
    clear CW R8W R9W hBW HB hb5
    rcases hpp : p x y with _ | _
    ·have HP := hidP hpp
     clear hpp
     go_wp2_with fail
     go_ret
     exact ⟨retB (by rw [← HD.out, HDD.out, HP.out, Bool.false_and]), HB5.out⟩
    ·have HP := hidP hpp
     clear hpp
     go_wp2_with fail
     go_roundg (gk - 1)
     case measure => omega
     case rel => exact ⟨i + 1, by omega, by go_num, HB5.out, by rw [← HD.out, HDD.out, HP.out, Bool.true_and]⟩
   ·have e : i = nl := by omega
    have HT := hidP (show allS p l k = true by
     rw [← HD.out, List.drop_eq_nil_of_le (by have := HNL.out; omega), List.drop_eq_nil_of_le (by have := HNL.out; have := HNK.out; omega)]
     rfl)
    subst e
    clear hlt
    go_wp2_with fail
    go_ret
    exact ⟨retB HT.out, HB.out⟩
 ·have HF := hidP (allS_len (p := p) hl)
  rw [HF.out]
  have l1 : ((l.length : Int) == (k.length : Int)) = false := by simp; omega
  have l2 : (l.length : Int) ≠ (k.length : Int) := by omega
  clear hl A1 A2 HIH HF
  generalize l.length = nl at *
  generalize k.length = nk at *
  go_enter Tryz.func52, Tryz.ntmps52
  go_wp2_with fail
  go_ret
  exact ⟨rfl, Below.refl _ _⟩
set_option maxHeartbeats 16000000 in
set_option maxRecDepth 20000 in
theorem same27 {K : Ctx} : ∀ (n : Nat) {m : Nat} {w : World} {cs ds : List Value} {t u : RTy}, RtAt n K w cs t -> RtAt m K w ds u -> K.C <= w.heap.size ->
  Calls Tryz.prog 27 #[.agg cs.toArray, .agg ds.toArray] w fun ev w' => ev = .returned (.bool (sameN n t u)) /\ Below w.heap.size w w'
 | 0, _, _, _, _, _, _, h, _, _ => h.elim
 | n + 1, m, w, cs, ds, t, u, ht, hu, hC => by
  obtain ⟨m, rfl⟩ : ∃ j, m = j + 1 := by
   cases m with
   | zero => exact hu.elim
   | succ j => exact ⟨j, rfl⟩
  obtain ⟨v2, v3, rfl, _, h2, h3⟩ := ht
  obtain ⟨u2, u3, rfl, _, k2, k3⟩ := hu
  obtain ⟨a2, p2, rfl⟩ := Ar.form h2
  obtain ⟨f2, g2, rfl⟩ := Ar.form k2
  have HA := hidP (alloc_two w (.cells #[.int .i64 t.kind, .string (str t.name), .slice a2 t.regs.length p2, v3] 25) (.cells #[.int .i64 u.kind, .string (str u.name), .slice f2 u.regs.length g2, u3] 25))
  have R0 := hidP ((Row.new w 25 [.int .i64 t.kind, .string (str t.name), .slice a2 t.regs.length p2, v3]).alloc (.cells #[.int .i64 u.kind, .string (str u.name), .slice f2 u.regs.length g2, u3] 25))
  have R1 := hidP (Row.new (w.alloc (.cells #[.int .i64 t.kind, .string (str t.name), .slice a2 t.regs.length p2, v3] 25)) 25 [.int .i64 u.kind, .string (str u.name), .slice f2 u.regs.length g2, u3])
  have HB := HA.out
  have EQ := hidP (eqf52 (p := sameN n) (h3.mono (below_le HB hC) fun _ _ _ h => h.below (below_le HB hC)) (k3.mono (below_le HB hC) fun _ _ _ h => h.below (below_le HB hC)) (Nat.le_trans hC HB.size)
   (fun y hy cs ds t u ht hu => same27 n ht hu (Nat.le_trans hC (HB.trans (below_le hy HB.size)).size)))
  have HS := hidP (show sameN (n + 1) t u = ((t.kind == u.kind) && (decide (t.name = u.name) && ((t.regs.length == u.regs.length) && allS (sameN n) t.elem u.elem))) from rfl)
  have hsb := str_beq t.name u.name
  clear h2 h3 k2 k3 HB hC
  generalize str t.name = S0 at *
  generalize str u.name = S1 at *
  have y0 := R0.out.cell 0
  have y1 := R0.out.cell 1
  have y2 := R0.out.cell 2
  have y3 := R0.out.cell 3
  have x0 := R1.out.cell 0
  have x1 := R1.out.cell 1
  have x2 := R1.out.cell 2
  have x3 := R1.out.cell 3
  rw [size_alloc] at x0 x1 x2 x3
  simp only [List.getElem?_cons_zero, List.getElem?_cons_succ] at y0 y1 y2 y3 x0 x1 x2 x3
  clear R0 R1
  generalize t.kind = k1 at *
  generalize u.kind = k2 at *
  generalize t.regs.length = r1 at *
  generalize u.regs.length = r2 at *
  generalize allS (sameN n) t.elem u.elem = bb at *
  by_cases h1 : k1 = k2
  ·subst h1
   by_cases h2 : t.name = u.name
   ·rw [decide_eq_true h2] at hsb
    by_cases h3 : r1 = r2
    ·subst h3
     have HQ := hidP (show sameN (n + 1) t u = bb by rw [HS.out, h2]; simp)
     clear HS h2
     go_enter Tryz.func27, Tryz.ntmps27
     go_wp2_with fail
     refine EQ.out.mono ?_
     rintro _ w5 ⟨rfl, hb5⟩
     have HB5 := hidP (HA.out.trans (below_le hb5 HA.out.size))
     clear EQ HA hb5 y0 y1 y2 y3 x0 x1 x2 x3
     go_wp2_with fail
     go_ret
     exact ⟨retB HQ.out, HB5.out⟩
    ·have HQ := hidP (show sameN (n + 1) t u = false by rw [HS.out, show (r1 == r2) = false by simpa using h3]; simp)
     have l1 : ((r1 : Int) == (r2 : Int)) = false := by simp; omega
     clear HS h2 EQ h3
     go_enter Tryz.func27, Tryz.ntmps27
     go_wp2_with fail
     go_ret
     exact ⟨retB HQ.out, HA.out⟩
   ·have HQ := hidP (show sameN (n + 1) t u = false by rw [HS.out, decide_eq_false h2]; simp)
    rw [decide_eq_false h2] at hsb
    clear HS h2 EQ
    go_enter Tryz.func27, Tryz.ntmps27
    go_wp2_with fail
    go_ret
    exact ⟨retB HQ.out, HA.out⟩
  ·have HQ := hidP (show sameN (n + 1) t u = false by rw [HS.out, show (k1 == k2) = false by simpa using h1]; simp)
   have l1 : (k1 == k2) = false := by simpa using h1
   clear HS EQ h1 hsb
   go_enter Tryz.func27, Tryz.ntmps27
   go_wp2_with fail
   go_ret
   exact ⟨retB HQ.out, HA.out⟩
end Go.Proofs.YtldbbkheemnnhaaGreatDoor
