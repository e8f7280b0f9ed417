/-
  The texts Rq8, Wl8, Wk8, joined.
-/
import Derived.Test.YtldbbkheemnnhaaGreatDoorJpRg83
import Derived.Test.YtldbbkheemnnhaaGreatDoorQpAsks8
import Derived.Test.YtldbbkheemnnhaaGreatDoorQpPt8
import Derived.Test.YtldbbkheemnnhaaGreatDoorQpPv8
namespace Go.Proofs.YtldbbkheemnnhaaGreatDoor
open Go.RowKit
def RtQ : Nat -> (Nat -> Prop) -> Nat -> World -> List Value -> RTy -> Prop
 | 0, _, _, _, _, _ => False
 | n + 1, Q, B, w, cs, t => ∃ v2 v3, cs = [.int .i64 t.kind, .string (str t.name), v2, v3] /\ t.name.length <= B /\ ArQ 1 8 NmAt Q w v2 t.regs /\ ArQ 4 72 (RtQ n Q B w) Q w v3 t.elem
section
variable {Q Q' : Nat -> Prop} {B : Nat} {w w' : World}
theorem RtQ.mono (hk : Kp Q Q' w w') : ∀ {n : Nat} {cs : List Value} {t : RTy}, RtQ n Q B w cs t -> RtQ n Q' B w' cs t
 | 0, _, _, h => h.elim
 | n + 1, _, _, h => by
  obtain ⟨v2, v3, e, h1, h2, h3⟩ := h
  exact ⟨v2, v3, e, h1, h2.mono hk fun _ _ _ h => h, h3.mono hk fun _ _ _ h => RtQ.mono hk h⟩
theorem RtQ.to {K : Ctx} (hB : B = K.B) (hk : ∀ b, Q b -> b < K.C) : ∀ {n : Nat} {cs : List Value} {t : RTy}, RtQ n Q B w cs t -> RtAt n K w cs t
 | 0, _, _, h => h.elim
 | n + 1, _, _, h => by
  obtain ⟨v2, v3, e, h1, h2, h3⟩ := h
  exact ⟨v2, v3, e, hB ▸ h1, h2.to hk fun _ _ _ h => h, h3.to hk fun _ _ _ h => RtQ.to hB hk h⟩
theorem RtQ.len : ∀ {n : Nat} {cs : List Value} {t : RTy}, RtQ n Q B w cs t -> cs.length = 4
 | 0, _, _, h => h.elim
 | n + 1, _, _, h => by obtain ⟨v2, v3, rfl, _⟩ := h; rfl
theorem RtQ.ones : ∀ {n : Nat} {cs : List Value} {t : RTy}, RtQ n Q B w cs t -> ∀ u ∈ cs, u.oneCell' = true
 | 0, _, _, h => h.elim
 | n + 1, _, _, h => by
  obtain ⟨v2, v3, rfl, _, h2, h3⟩ := h
  obtain ⟨_, _, rfl⟩ := h2.form
  obtain ⟨_, _, rfl⟩ := h3.form
  exact ones_cons rfl (ones_cons rfl (ones_cons rfl (ones_cons rfl ones_nil)))
end
theorem RtAt.four {K : Ctx} {w : World} : ∀ {n : Nat} {cs : List Value} {t : RTy}, RtAt n K w cs t -> ∃ c0 c1 c2 c3, cs = [c0, c1, c2, c3]
 | 0, _, _, h => h.elim
 | n + 1, _, _, h => by obtain ⟨v2, v3, rfl, _⟩ := h; exact ⟨_, _, _, _, rfl⟩
def Fit : Nat -> RTy -> Prop
 | 0, _ => False
 | n + 1, t => t.regs.length <= 70 /\ t.elem.length <= 2 /\ ∀ e ∈ t.elem, Fit n e
theorem RtAt.fit {K : Ctx} {w : World} : ∀ {k n : Nat} {cs : List Value} {t : RTy}, Fit k t -> RtAt n K w cs t -> RtAt k K w cs t
 | 0, _, _, _, h, _ => h.elim
 | _ + 1, 0, _, _, _, h => h.elim
 | k + 1, n + 1, _, _, hf, h => by
  obtain ⟨v2, v3, e, h1, h2, h3⟩ := h
  exact ⟨v2, v3, e, h1, h2, h3.mono (Below.refl _ _) fun _ x hx h => RtAt.fit (hf.2.2 x hx) h⟩
def putN (m : List Int) (x : Int) : Int := if 0 <= x /\ x < (m.length : Int) then m.getD x.toNat 0 else x
def subN : Nat -> List Int -> RTy -> RTy
 | 0, _, t => t
 | n + 1, m, t => ⟨t.kind, t.name, t.regs.map (putN m), t.elem.map (subN n m)⟩
def PNm : (Nat -> Prop) -> World -> List Value -> Int -> Prop := fun _ _ cs x => NmAt cs x
theorem moNm : Mo PNm := ⟨fun h _ => h⟩
def PRt (n B : Nat) : (Nat -> Prop) -> World -> List Value -> RTy -> Prop := fun Q w cs t => RtQ n Q B w cs t
theorem moRt (n B : Nat) : Mo (PRt n B) := ⟨fun h hk => RtQ.mono hk h⟩
theorem Tryz.info25S : (Tryz.prog.info? 25).map (fun i => (i.zero, i.size, i.bytes)) = some (some (.agg z25.toArray), 4, 72) := by kernel_rfl
section
variable {w : World} {g t : Nat}
theorem sv23 {j : Nat} {L : List Value} {u : Value} (r : Row w g t L) (hj : L[j]? = some u) (ao : Option Addr) (n c : Nat) : (storeVar 23 ⟨g, j, none⟩ (.slice ao n c)).run Tryz.prog w = .ok () (w.setCell ⟨g, j, none⟩ (.slice ao n c)) := by
 have c0 := r.cell j
 have f0 := r.fz j
 rw [hj] at c0
 go_simp
theorem svN {j : Nat} {L : List Value} {u : Value} (r : Row w g t L) (hj : L[j]? = some u) (ao : Option Addr) (n c : Nat) : (storeVar 22 ⟨g, j, none⟩ (.slice ao n c)).run Tryz.prog w = .ok () (w.setCell ⟨g, j, none⟩ (.slice ao n c)) := by
 have c0 := r.cell j
 have f0 := r.fz j
 rw [hj] at c0
 go_simp
end
theorem wpo_al25 {o : Oper} {a : Act} {w : World} {K : Act -> World -> Prop} {Q : Exit -> Act -> World -> Prop} (ho : o.op = .alloc 25)
  (k : ∀ w', Row w' w.heap.size 25 z25 -> Below w.heap.size w w' -> w.heap.size < w'.heap.size -> K (a.put o.dst (.pointer (some ⟨w.heap.size, 0, none⟩))) w') : Oper.wp Tryz.prog o a w K Q := by
 have hk := k (w.alloc (.cells z25.toArray 25)) (Row.new w 25 z25) (alloc_one w _) (by rw [size_alloc]; omega)
 obtain ⟨dst, op, ty, pos, after, guard⟩ := o
 simp only at ho
 subst ho
 unfold Oper.wp execOp
 go_simp
 exact hk
section
variable {α : Type} {z e : Nat} {PQ : (Nat -> Prop) -> World -> List Value -> α -> Prop} {w0 w w' : World} {v : Value} {l : List α}
theorem wpo_groK {o : Oper} {a : Act} {K : Act -> World -> Prop} {Q : Exit -> Act -> World -> Prop} {t bz g : Nat} {Z : Value} {x : α} {cs : List Value} (s y : Operand) (M : Mo PQ) (ho : o.op = .call { callee := .builtin .append, args := #[s, y], argTypes := #[t, t] })
  (hu : Tryz.prog.underlying t = some (.slice e)) (hz : (Tryz.prog.info? e).map (fun i => (i.zero, i.size, i.bytes)) = some (some Z, z, bz)) (hZ : Z.cells.size = z) (h0 : 0 < z) (hs : a.eval s = v) (hy : a.eval y = .slice (some ⟨g, 0, none⟩) 1 1)
  (hr : Gro z e PQ w0 w v l) (hB : w0.heap.size <= w.heap.size) (hg : Row w g e cs) (hl : cs.length = z) (h1 : ∀ x ∈ cs, x.oneCell' = true) (hp : PQ (Qv w0 w v) w cs x) (hn : l.length <= 90000) (hbz : bz <= 1000)
  (k : ∀ ao c w', Gro z e PQ w0 w' (.slice ao (l.length + 1) c) (l ++ [x]) -> Below w0.heap.size w w' -> (∀ b, b < w.heap.size -> v.ownBlock ≠ some b -> w'.heap[b]? = w.heap[b]?) -> K (a.put o.dst (.slice ao (l.length + 1) c)) w') : Oper.wp Tryz.prog o a w K Q := by
 obtain ⟨L, hc, hown⟩ := hr.ex
 obtain ⟨i0, hi, hz0, hz1, hz2⟩ := info_parts hz
 obtain ⟨v', w', hrr, h2, h3, _, h5⟩ := run_append_own_at (P := Tryz.prog) w w0.heap.size t o.type e i0 Z z bz hu hi hz0 hz1 hz2 hZ h0 v l.length L.flatten hown ⟨g, 0, none⟩ 1 1 cs (by omega) (fun j u hj => by
   rw [addr_add, Nat.zero_add, hg.cell]; exact hj) h1 (by unfold maxLen; omega) (by
    have : (l.length + 1) * bz <= 100000 * 1000 := Nat.mul_le_mul (by omega) hbz
    omega) hB
 obtain ⟨ao, c, rfl⟩ := own_slice h2
 have hk : Kp (Qv w0 w v) (Qv w0 w' (.slice ao (l.length + 1) c)) w w' := ⟨fun b hb => ⟨⟨hb.1.1, Nat.lt_of_lt_of_le hb.1.2 h3.size⟩, fun he => by
   rcases h5 with h5 | h5
   ·rw [h5] at he; exact hb.2 he
   ·rw [h5] at he; cases he; exact absurd hb.1.2 (Nat.lt_irrefl _)⟩, fun b hb => h3.block b hb.1.2 (fun e => hb.2 e.symm)⟩
 have hG : Gro z e PQ w0 w' (.slice ao (l.length + 1) c) (l ++ [x]) := by
  refine ⟨L ++ [cs], (hc.mono fun _ _ h => M.mono h hk).app (Cel.one hl (M.mono hp hk) h1), ?_⟩
  rw [List.length_append, List.length_singleton, List.flatten_append, List.flatten_cons, List.flatten_nil, List.append_nil]
  exact h2
 unfold Oper.wp execOp
 simp only [ho, resolve, invoke, builtin, Sem.run_bind, Sem.run_pure, Result.andThen_ok, List.map_toArray, List.map_cons, List.map_nil, hs, hy, hrr]
 exact k ao c w' hG (grown_le h3 hB (fun k e => (hown.lt k e).1)) (fun b hb hn => h3.block b hb (fun e => hn e.symm))
theorem Gro.own_lt (h : Gro z e PQ w0 w v l) {b : Nat} (hb : v.ownBlock = some b) : b < w.heap.size := by
 obtain ⟨L, _, ho⟩ := h.ex
 exact (ho.lt b hb).2
end
theorem Row.keep {w w' : World} {g t : Nat} {L : List Value} (h : Row w g t L) (hb : w'.heap[g]? = w.heap[g]?) : Row w' g t L := ⟨hb.trans h.heap⟩
end Go.Proofs.YtldbbkheemnnhaaGreatDoor

namespace Go.Proofs.YtldbbkheemnnhaaGreatDoor
open Go.RowKit
def ivs (l : List Int) : List (List Value) := l.map fun x => [.int .i64 x]
theorem ivs_flat (l : List Int) : (ivs l).flatten = iv l := by
 induction l with
 | nil => rfl
 | cons x l ih =>
  have : ivs (x :: l) = [.int .i64 x] :: ivs l := rfl
  rw [this, List.flatten_cons, ih]
  rfl
theorem ivs_cel (l : List Int) : Cel 1 NmAt (ivs l) l := by
 refine ⟨List.length_map .., fun i h h' => ?_⟩
 have e : (ivs l)[i] = [.int .i64 l[i]] := by simp [ivs]
 rw [e]
 exact ⟨rfl, rfl, fun u hu => by rw [List.mem_singleton] at hu; rw [hu]; rfl⟩
theorem own_nms {K : Ctx} {w : World} {B : Nat} {v : Value} {l : List Int} (h : w.ownsRow B 3 1 v l.length (iv l)) (hK : w.heap.size <= K.C) (hl : l.length <= 50000) : Nms K w v l :=
 ar_own (ivs_cel l) (by rw [ivs_flat]; exact h) hK (by omega)
theorem Ar.drop {α : Type} {bz : Nat} {P : List Value -> α -> Prop} {K : Ctx} {w : World} {b o n p : Nat} {l m : List α} (h : Ar 1 bz P K w (.slice (some ⟨b, o, none⟩) n p) (l ++ m)) :
  Ar 1 bz P K w (.slice (some ⟨b, o + l.length, none⟩) m.length (p - l.length)) m := by
 obtain ⟨ao, cap, e, h1, h2, h3⟩ := h.shape
 simp only [Value.slice.injEq, List.length_append] at e h1 h2
 obtain ⟨rfl, rfl, rfl⟩ := e
 refine ⟨_, _, rfl, by omega, ?_, fun i hi => ?_⟩
 ·have : (l.length + m.length) * bz = l.length * bz + m.length * bz := Nat.add_mul _ _ _
  omega
 ·obtain ⟨b', o', e, hb, cs, hl, hc, hp⟩ := h3 (l.length + i) (by rw [List.length_append]; omega)
  cases e
  refine ⟨b, o + l.length, rfl, hb, cs, hl, fun j hj => ?_, ?_⟩
  ·rw [← hc j hj]
   congr 2
   omega
  ·rw [List.getElem_append_right (Nat.le_add_right _ _)] at hp
   simpa using hp
def wellL : Nat -> RTy -> List (Int × Int)
 | 0, _ => []
 | n + 1, t => match nxtR t with
  | none => []
  | some e => ((ownR t).flatMap fun a => (regL n e).map fun v => (v, a)) ++ wellL n e
end Go.Proofs.YtldbbkheemnnhaaGreatDoor

namespace Go.Proofs.YtldbbkheemnnhaaGreatDoor
open Go.RowKit
theorem Tryz.info32 : (Tryz.prog.info? 32).map (fun i => (i.zero, i.size, i.bytes)) = some (some (.agg #[.int .i64 0, .int .i64 0]), 2, 16) := by kernel_rfl
def pvs (l : List (Int × Int)) : List Value := l.flatMap fun x => [.int .i64 x.1, .int .i64 x.2]
theorem pvs_app (l m : List (Int × Int)) : pvs (l ++ m) = pvs l ++ pvs m := List.flatMap_append ..
theorem pvs_ones (l : List (Int × Int)) : ∀ u ∈ pvs l, u.oneCell' = true := by
 intro u hu
 obtain ⟨x, _, hx⟩ := List.mem_flatMap.1 hu
 simp at hx
 rcases hx with rfl | rfl <;> rfl
theorem nms_cell {K : Ctx} {w : World} {a : Option Addr} {n p : Nat} {l : List Int} (h : Nms K w (.slice a n p) l) (i : Nat) (hi : i < l.length) : ∃ b o, a = some ⟨b, o, none⟩ /\ b < K.C /\ w.cell? ⟨b, o + i, none⟩ = some (.int .i64 (l.getD i 0)) := by
 obtain ⟨ao, cap, e, _, _, hA⟩ := h.shape
 cases e
 obtain ⟨b, o, e1, hb, cs, _, hc, hp⟩ := hA i hi
 refine ⟨b, o, e1, hb, ?_⟩
 have := hc 0 (by decide)
 rw [Nat.mul_one, Nat.add_zero] at this
 rw [this, show cs = [.int .i64 l[i]] from hp]
 simp [List.getD, List.getElem?_eq_getElem hi]
theorem nms_none {K : Ctx} {w : World} {a : Option Addr} {p : Nat} : Nms K w (.slice a 0 p) [] := ⟨a, p, rfl, Nat.zero_le _, by simp, fun _ h => by cases h⟩
theorem sou_row2 {w : World} {g : Nat} {x y : Value} {c : Nat} (h : Row w g 32 [x, y]) : Sou w (.slice (some ⟨g, 0, none⟩) 1 c) 1 [x, y] :=
 ⟨some ⟨g, 0, none⟩, c, rfl, (fun e => by cases e), fun j u hj => ⟨g, 0, rfl, h.range j u hj⟩⟩
set_option maxHeartbeats 16000000 in
theorem well13 {K : Ctx} {w : World} {n : Nat} {cs : List Value} {t : RTy} (ht : RtAt n K w cs t) (hC : K.C <= w.heap.size) (hn : (regL n t).length <= 50000) (hw : (wellL n t).length <= 50000) :
  Calls Tryz.prog 13 #[.agg cs.toArray] w fun ev w' => ∃ v, ev = .returned v /\ Below w.heap.size w w' /\ w'.ownsRow w.heap.size 32 2 v (wellL n t).length (pvs (wellL n t)) := by
 obtain ⟨c0, c1, c2, c3, rfl⟩ : ∃ c0 c1 c2 c3, cs = [c0, c1, c2, c3] := by
  cases n with
  | zero => exact ht.elim
  | succ n => obtain ⟨v2, v3, rfl, _⟩ := ht; exact ⟨_, _, _, _, rfl⟩
 have hA := alloc_one w (.cells #[c0, c1, c2, c3] 25)
 have HA := hidP hA
 have R0 : Hid (Row (w.alloc (.cells #[c0, c1, c2, c3] 25)) w.heap.size 25 [c0, c1, c2, c3]) := Row.new w 25 _
 have RG := hidP (regions26 (ht.below (below_le hA hC)) (by rw [size_alloc]; omega) hn)
 have HT := hidP (fun (y : World) (hy : Below w.heap.size w y) => ht.below (below_le hy hC))
 have HC := hidP hC
 have HN := hidP hn
 have HW := hidP hw
 have hsz := hidP (size_alloc w (.cells #[c0, c1, c2, c3] 25))
 have y0 := R0.out.cell 0
 have y1 := R0.out.cell 1
 have y2 := R0.out.cell 2
 have y3 := R0.out.cell 3
 simp only [List.getElem?_cons_zero, List.getElem?_cons_succ] at y0 y1 y2 y3
 clear ht hA hn hw hC
 go_enter Tryz.func13, Tryz.ntmps13
 go_wp2_with fail
 refine RG.out.mono ?_
 rintro _ w1 ⟨v4, rfl, hb1, ho1⟩
 have hz1 := hb1.size
 have HB1 := hidP (HA.out.trans (below_le hb1 HA.out.size))
 have R1 := hidP (R0.out.below hb1 R0.out.lt)
 have N1 := hidP (own_nms (K := K.up w1.heap.size) ho1 (Nat.le_refl _) HN.out)
 have P1 := hidP (show PtR n (K.up w1.heap.size) w1 (.pointer (some ⟨w.heap.size, 0, none⟩)) (some t) from
  ⟨w.heap.size, 0, _, rfl, by show w.heap.size < w1.heap.size; have := hsz.out; omega, R1.out.range, (HT.out w1 HB1.out).up (by have := HC.out; have := hsz.out; omega)⟩)
 have hz2 := hidP (show w.heap.size <= w1.heap.size by have := hsz.out; omega)
 clear R0 RG HA y0 y1 y2 y3 hb1 ho1 hz1 hsz R1 HT
 go_wp2_with fail
 go_loopg [3, 4, 5] n (fun k v3 v4 v5 wr => ∃ (t' : RTy) (m : Nat) (acc : List (Int × Int)), PtR m (K.up w1.heap.size) wr v5 (some t') /\ acc ++ wellL m t' = wellL n t /\ m <= k /\ (regL m t').length <= 50000 /\ Nms (K.up w1.heap.size) wr v4 (regL m t') /\ wr.ownsRow w1.heap.size 32 2 v3 acc.length (pvs acc) /\ Below w1.heap.size w1 wr)
 case atStart => exact ⟨t, n, [], P1.out, rfl, Nat.le_refl _, HN.out, N1.out, ⟨rfl, .inl ⟨rfl, rfl⟩⟩, Below.refl _ _⟩
 case round =>
  obtain ⟨t', m, acc, hp, he, hm, hrl, hr, ho, hb⟩ := hrel
  clear N1 P1
  obtain ⟨b, o, cs', rfl, hbC, hrg, hT⟩ := hp
  obtain ⟨m', rfl⟩ : ∃ j, m = j + 1 := by
   cases m with
   | zero => exact hT.elim
   | succ j => exact ⟨j, rfl⟩
  have WI := hidP (fun (y : World) (hy : Below w1.heap.size wr y) => within36 (hT.below hy) (fun j u hj => by rw [hy.cell (p := ⟨b, o + j, none⟩) hbC]; exact hrg j u hj))
  have OWN := hidP (own37 hT hrg)
  have WI0 := hidP (WI.out wr (Below.refl _ _))
  have HE := hidP he
  have HO := hidP ho
  have HB := hidP hb
  have HR := hidP hr
  have HRL := hidP hrl
  obtain ⟨a3, p3, rfl⟩ := own_slice ho
  obtain ⟨a4, p4, rfl⟩ := Ar.form hr
  clear he ho hb hr hrg hT hrl
  rcases hnx : nxtR t' with _ | e
  ·have HNX := hidP hnx
   clear hnx
   go_wp2_with fail
   refine WI0.out.mono ?_
   rintro _ _ ⟨u, rfl, rfl, hu⟩
   rw [HNX.out] at hu
   have hu' : u = _ := hu
   subst hu'
   clear WI0 WI OWN hu
   go_wp2_with fail
   go_ret
   have hq : acc = wellL n t := by
    have := HE.out
    simp only [wellL, HNX.out, List.append_nil] at this
    exact this
   exact ⟨_, rfl, HB1.out.trans (below_le HB.out hz2.out), by rw [← hq]; exact own_base HO.out hz2.out⟩
  ·have HNX := hidP hnx
   clear hnx
   go_wp2_with fail
   refine WI0.out.mono ?_
   rintro _ _ ⟨u, rfl, rfl, hu⟩
   rw [HNX.out] at hu
   obtain ⟨bu, ou, cu, rfl, hbu, hru, hTu⟩ := hu
   clear WI0 hru hTu
   go_wp2_with fail
   refine OWN.out.mono ?_
   rintro _ wo ⟨u, rfl, rfl, hu⟩
   obtain ⟨a6, p6, rfl⟩ := Ar.form hu
   have HU := hidP (fun i hi => nms_cell hu i hi)
   clear OWN hu
   have hrr : regL (m' + 1) t' = ownR t' ++ regL m' e := by rw [regL_succ, HNX.out]; rfl
   have hll : (regL (m' + 1) t').length = (ownR t').length + (regL m' e).length := by rw [hrr, List.length_append]
   have HRR := hidP hrr
   have hcap : (regL (m' + 1) t').length <= p4 := by
    obtain ⟨_, _, e1, e2, _⟩ := HR.out.shape
    cases e1
    exact e2
   have hq4 : (ownR t').length <= p4 := by omega
   have hq5 : (ownR t').length <= (regL (m' + 1) t').length := by omega
   have HLL := hidP hll
   have HCAP := hidP hcap
   have HW1 := hidP (show acc.length <= 50000 by have := congrArg List.length HE.out; rw [List.length_append] at this; have := HW.out; omega)
   have HWE := hidP (show wellL (m' + 1) t' = ((ownR t').flatMap fun a => (regL m' e).map fun v => (v, a)) ++ wellL m' e by simp only [wellL, HNX.out])
   have hzo := hidP (show w1.heap.size <= wo.heap.size from HB.out.size)
   clear hrr hll hcap
   rcases hre : regL m' e with _ | ⟨x0, xs0⟩
   ·have HRE := hidP hre
    have hq0 : (regL (m' + 1) t').length = (ownR t').length := by have h1 := HLL.out; rw [hre] at h1; exact h1
    clear hre
    rw [hq0] at hq5 HR HRL HCAP
    rw [hq0]
    have hnq5 : (ownR t').length <= 50000 := HRL.out
    clear hq5 HLL hq0
    generalize hnq : (ownR t').length = nq at *
    have HNQ := hidP hnq
    clear hnq
    have hor : (∃ x, a4 = some x /\ ¬ p4 = nq) ∨ (∃ x, a4 = some x /\ nq = p4) ∨ a4 = none := by
     rcases a4 with _ | x
     ·exact .inr (.inr rfl)
     ·by_cases h : p4 = nq
      ·exact .inr (.inl ⟨x, rfl, h.symm⟩)
      ·exact .inl ⟨x, rfl, h⟩
    rcases hor with ⟨x4, rfl, hp4⟩ | ⟨x4, rfl, rfl⟩ | rfl
    all_goals
     go_wp2_with fail
     go_loopg [3, 26] nq (fun k v3 v26 w2 => ∃ (i : Nat), i + k = nq /\ v26 = .int .i64 (i : Int) /\ w2.ownsRow w1.heap.size 32 2 v3 acc.length (pvs acc) /\ Below w1.heap.size wo w2)
     case atStart => exact ⟨0, by omega, rfl, HO.out, Below.refl _ _⟩
     case round =>
      obtain ⟨i, hi, rfl, ho2, hb2⟩ := hrel
      have HO2 := hidP ho2
      have HB2 := hidP hb2
      obtain ⟨aa2, pp2, rfl⟩ := own_slice ho2
      clear ho2 hb2
      by_cases hlt : i < nq
      ·obtain ⟨b6, o6, rfl, hb6, hc6⟩ := HU.out i hlt
       have hc6' := (HB2.out.cell (p := ⟨b6, o6 + i, none⟩) hb6).trans hc6
       have l1 : (i : Int) < (nq : Int) := by omega
       generalize (ownR t').getD i 0 = x at *
       clear hc6 hb6
       go_wp2_with fail
       go_loopg [3, 32] 1 (fun k v3 v32 w3 => v32 = .int .i64 0 /\ w3.ownsRow w1.heap.size 32 2 v3 acc.length (pvs acc) /\ Below w1.heap.size wo w3)
       case atStart => exact ⟨rfl, HO2.out, HB2.out⟩
       case round =>
        obtain ⟨rfl, ho3, hb3⟩ := hrel
        have HO3 := hidP ho3
        have HB3 := hidP hb3
        clear ho3 hb3 HO2 HB2 hc6'
        go_wp2_with fail
        go_roundg (nq - (i + 1))
        case measure => omega
        case rel => exact ⟨i + 1, by omega, by go_num, HO3.out, HB3.out⟩
      ·have hi2 : nq = i := by omega
       clear hlt
       have HP := hidP (HB.out.trans HB2.out)
       have WIx := hidP (WI.out _ HB2.out)
       go_wp2_with fail
       refine WIx.out.mono ?_
       rintro _ wz ⟨u, rfl, rfl, hu⟩
       rw [HNX.out] at hu
       have HU2 := hidP hu
       clear hu WIx
       go_wp2_with fail
       go_roundg (m')
       case measure => omega
       case rel =>
        refine ⟨e, m', acc, HU2.out, ?_, by omega, by rw [HRE.out]; simp, by rw [HRE.out]; exact nms_none, HO2.out, HP.out⟩
        rw [← HE.out, HWE.out, HRE.out]
        simp
   ·have hne : 0 < (regL m' e).length := by rw [hre]; simp
    have HNE := hidP hne
    clear hre hne
    obtain ⟨b4, o4, rfl, hb4, -⟩ := nms_cell HR.out 0 (by have := HLL.out; have := HNE.out; omega)
    have HD := hidP (Ar.drop (l := ownR t') (m := regL m' e) (by have := HR.out; rw [HRR.out] at this; exact this))
    have HDC := hidP (fun i hi => nms_cell HD.out i hi)
    have hlt4 : ¬ p4 = (ownR t').length := by have := HCAP.out; have := HLL.out; have := HNE.out; omega
    have hrl2 : (regL (m' + 1) t').length - (ownR t').length = (regL m' e).length := by have := HLL.out; omega
    have HRL2 := hidP hrl2
    clear hrl2 hb4
    generalize hnq : (ownR t').length = nq at *
    generalize hnr : (regL (m' + 1) t').length = nr at *
    have HNQ := hidP hnq
    have HNR := hidP hnr
    clear hnq hnr
    go_wp2_with fail
    have HRL3 := HRL2.out
    rw [HRL3]
    generalize hrn : (regL m' e).length = rl at *
    have HRN := hidP hrn
    clear hrn
    have hrl5 : rl <= 50000 := by have := HRL.out; have := HLL.out; omega
    have hnq5 : nq <= 50000 := by have := HRL.out; have := HLL.out; omega
    go_loopg [3, 26] nq (fun k v3 v26 w2 => ∃ (i : Nat) (acc2 : List (Int × Int)), i + k = nq /\ v26 = .int .i64 (i : Int) /\ acc2 = acc ++ ((ownR t').take i).flatMap (fun a => (regL m' e).map fun v => (v, a)) /\ w2.ownsRow w1.heap.size 32 2 v3 acc2.length (pvs acc2) /\ Below w1.heap.size wo w2)
    case atStart => exact ⟨0, acc, by omega, rfl, by simp, HO.out, Below.refl _ _⟩
    case round =>
     obtain ⟨i, acc2, hi, rfl, ha2, ho2, hb2⟩ := hrel
     have HA2 := hidP ha2
     have HO2 := hidP ho2
     have HB2 := hidP hb2
     obtain ⟨aa2, pp2, rfl⟩ := own_slice ho2
     clear ha2 ho2 hb2
     by_cases hlt : i < nq
     ·obtain ⟨b6, o6, rfl, hb6, hc6⟩ := HU.out i hlt
      have hc6' := (HB2.out.cell (p := ⟨b6, o6 + i, none⟩) hb6).trans hc6
      have l1 : (i : Int) < (nq : Int) := by omega
      generalize hx : (ownR t').getD i 0 = x at *
      have HX := hidP hx
      clear hx hc6 hb6
      go_wp2_with fail
      have HL2 := hidP (show acc2.length <= 50000 by
       have h1 := congrArg List.length HE.out
       have h2 := congrArg List.length HWE.out
       have h3 := congrArg List.length HA2.out
       have h4 : ((ownR t').flatMap fun a => (regL m' e).map fun v => (v, a)).length = (((ownR t').take i).flatMap fun a => (regL m' e).map fun v => (v, a)).length + (((ownR t').drop i).flatMap fun a => (regL m' e).map fun v => (v, a)).length := by
        rw [← List.length_append, ← List.flatMap_append, List.take_append_drop]
       rw [List.length_append] at h1 h2 h3
       have := HW.out
       omega)
      go_loopg [3, 32] rl (fun k v3 v32 w3 => ∃ (j : Nat) (acc3 : List (Int × Int)), j + k = rl /\ v32 = .int .i64 (j : Int) /\ acc3 = acc2 ++ ((regL m' e).take j).map (fun v => (v, x)) /\ w3.ownsRow w1.heap.size 32 2 v3 acc3.length (pvs acc3) /\ Below w1.heap.size wo w3)
      case atStart => exact ⟨0, acc2, by omega, rfl, by simp, HO2.out, HB2.out⟩
      case round =>
       obtain ⟨j, acc3, hj, rfl, ha3, ho3, hb3⟩ := hrel
       have HA3 := hidP ha3
       have HO3 := hidP ho3
       have HB3 := hidP hb3
       obtain ⟨aa3, pp3, rfl⟩ := own_slice ho3
       clear ha3 ho3 hb3 HO2 HB2 hc6'
       by_cases hltj : j < rl
       ·obtain ⟨b7, o7, hb7e, hb7, hc7⟩ := HDC.out j hltj
        cases hb7e
        have hc7' := (HB3.out.cell (p := ⟨b4, o4 + nq + j, none⟩) hb7).trans hc7
        have l2 : (j : Int) < (rl : Int) := by omega
        generalize hy : (regL m' e).getD j 0 = y at *
        have HY := hidP hy
        have HL3 := hidP (show acc3.length + 1 <= 100000 by
         have h3 := congrArg List.length HA3.out
         rw [List.length_append, List.length_map, List.length_take] at h3
         have := HL2.out; have := HRN.out; have := HRL.out; have := HLL.out
         omega)
        have hz3 := hidP HB3.out.size
        clear hy hc7 hb7
        go_wp2_with (first | (refine bsliceU rfl 29 32 2 16 _ (.agg #[.int .i64 y, .int .i64 x]) (.tmp 39) rfl Tryz.underlying29 Tryz.info32 (by decide) (by decide) rfl [.int .i64 y, .int .i64 x] rfl rfl rfl ?_; intro w7 hR7 hB7 hz7; apply shut))
        show wpList _ _ _ _ _ _
        have hOW := hidP (own_sameR HO3.out (fun q eq => hB7.block q (HO3.out.lt q eq).2))
        have hSR := hidP (sou_row2 (c := 1) hR7)
        have HB7 := hidP (HB3.out.trans (below_le hB7 (by have := hzo.out; have := HB3.out.size; omega)))
        have hz8 := hidP (show w1.heap.size <= _ from Nat.le_trans hzo.out HB7.out.size)
        clear hR7 hB7 hz7 HO3 HB3
        go_wp2_with (first | (refine wpl_appS (bz := 16) rfl (.tmp 36) (.tmp 40) rfl Tryz.underlying29 Tryz.info32 rfl (by decide) rfl rfl hOW.out hz8.out hSR.out rfl (by intro u hu; simp at hu; rcases hu with rfl | rfl <;> rfl) HL3.out (by decide) ?_; intro v9 w9 ho9 hb9 hf9; apply shut))
        show wpList _ _ _ _ _ _
        have HO9 := hidP ho9
        have HB9 := hidP (HB7.out.trans hb9)
        clear hOW hSR HB7 ho9 hb9 hf9
        go_wp2_with fail
        go_roundg (rl - (j + 1))
        case measure => omega
        case rel =>
         have hq9 : acc3 ++ [(y, x)] = acc2 ++ ((regL m' e).take (j + 1)).map (fun v => (v, x)) := by
          have hjj : j < (regL m' e).length := HRN.out.symm ▸ hltj
          have hgy : (regL m' e)[j] = y := by rw [← HY.out]; simp [List.getD, List.getElem?_eq_getElem hjj]
          rw [HA3.out, List.take_succ_eq_append_getElem hjj, List.map_append, List.append_assoc, hgy]
          rfl
         refine ⟨j + 1, acc3 ++ [(y, x)], by omega, by go_num, hq9, ?_, HB9.out⟩
         rw [List.length_append, pvs_app]
         exact HO9.out
       ·have hj2 : rl = j := by omega
        subst hj2
        clear hltj
        go_wp2_with fail
        go_roundg (nq - (i + 1))
        case measure => omega
        case rel =>
         refine ⟨i + 1, acc3, by omega, by go_num, ?_, HO3.out, HB3.out⟩
         have hii : i < (ownR t').length := HNQ.out.symm ▸ hlt
         have hgx : (ownR t')[i] = x := by rw [← HX.out]; simp [List.getD, List.getElem?_eq_getElem hii]
         rw [HA3.out, HA2.out, List.take_succ_eq_append_getElem hii, List.flatMap_append, hgx, ← HRN.out, List.take_length, List.append_assoc]
         simp
     ·have hi2 : nq = i := by omega
      subst hi2
      have HP := hidP (HB.out.trans HB2.out)
      have WIx := hidP (WI.out _ HB2.out)
      go_wp2_with fail
      refine WIx.out.mono ?_
      rintro _ wz ⟨u, rfl, rfl, hu⟩
      rw [HNX.out] at hu
      have HU2 := hidP hu
      have HR2 := hidP (Ar.mono HD.out HB2.out (fun _ _ _ h => h))
      clear hu WIx
      go_wp2_with fail
      go_roundg (m')
      case measure => omega
      case rel =>
       refine ⟨e, m', acc2, HU2.out, ?_, by omega, ?_, HR2.out, HO2.out, HP.out⟩
       ·rw [← HE.out, HWE.out, HA2.out, List.append_assoc, ← HNQ.out, List.take_length]
       ·have := HRL.out; have := HLL.out; have := HRN.out; omega
end Go.Proofs.YtldbbkheemnnhaaGreatDoor
