/-
  The texts Xr2, Xr3, Rt8, joined.
-/
import Derived.Test.YtldbbkheemnnhaaGreatDoorJpMp84
import Derived.Test.YtldbbkheemnnhaaGreatDoorQpTc8
namespace Go.Proofs.YtldbbkheemnnhaaGreatDoor
open Go.RowKit
structure XSc (Q : Nat -> Prop) (B : Nat) (w : World) (g : Nat) (L : List Sct) : Prop where
 ex : ∃ v0 v1, Row w g 130 [v0, v1, .slice none 0 0] /\ ArQ 5 80 (SctQ Q B w) Q w v0 L
 sub : ∀ k, Q k -> k < w.heap.size
 apart : (L.map (·.name)).Nodup
section
variable {Q : Nat -> Prop} {B : Nat} {w w' : World} {g : Nat} {L : List Sct}
theorem XSc.stay {X : Nat -> Prop} (h : XSc Q B w g L) (hs : Stay X w w') (hg : ¬ X g) (hq : ∀ k, Q k -> ¬ X k) : XSc Q B w' g L := by
 have hk : Kp Q Q w w' := ⟨fun _ h => h, fun k hk => hs.block k (h.sub k hk) (hq k hk)⟩
 obtain ⟨v0, v1, hr, ha⟩ := h.ex
 exact ⟨⟨v0, v1, hs.row hr hg, ha.mono hk fun _ _ _ q => q.mono hk⟩, fun k hk => Nat.lt_of_lt_of_le (h.sub k hk) hs.size, h.apart⟩
theorem XSc.past (h : XSc Q B w g L) (hb : Below w.heap.size w w') : XSc Q B w' g L :=
 h.stay (X := fun _ => False) (Stay.of_below hb) (fun h => h) (fun _ _ h => h)
set_option maxHeartbeats 16000000 in
set_option maxRecDepth 20000 in
theorem xstruct_yes (H : XSc Q B w g L) (_hL : L.length <= 1000) {x : Sct} (hx : x ∈ L) :
  ∃ cs : List Value, SctQ Q B w cs x /\ Calls Tryz.prog 45 #[.pointer (some ⟨g, 0, none⟩), .string (str x.name)] w fun ev w' => ev = .returned (.tuple #[.agg cs.toArray, .bool true]) /\ Below w.heap.size w w' := by
 obtain ⟨i, hi, rfl⟩ := List.mem_iff_getElem.1 hx
 obtain ⟨v0, v1, hr, ha⟩ := H.ex
 obtain ⟨ao, cap, rfl, _, _, hall⟩ := id ha.shape
 obtain ⟨b', o, rfl, hbQ, cs, hcl, hcs, hfa⟩ := hall i hi
 refine ⟨cs, hfa, ?_⟩
 have HN : Hid (∀ j (h : j < L.length), w.cell? ⟨b', o + j * 5 + 1, none⟩ = some (.string (str L[j].name))) := fun j h => by
  obtain ⟨b2, o2, e, _, c2, _, hc2, h2⟩ := hall j h
  cases e
  obtain ⟨_, _, rfl, _⟩ := h2
  exact hc2 1 (by decide)
 have HD : Hid (∀ j (h : j < L.length), j ≠ i -> ((str L[j].name).toList == (str L[i].name).toList) = false) := fun j h hne => by
  rw [str_beq, decide_eq_false]
  intro e
  have h1 := H.apart
  have h2 : (L.map (·.name))[j]'(by simpa using h) = (L.map (·.name))[i]'(by simpa using hi) := by simpa using e
  exact hne ((List.getElem_inj h1).1 h2)
 have hrg : w.rangeAt b' (o + i * 5) cs := fun j u hj => by
  have hj2 : j < 5 := by
   rcases Nat.lt_or_ge j 5 with h' | h'
   ·exact h'
   ·rw [List.getElem?_eq_none (by omega)] at hj; cases hj
  rw [hcs j hj2]; exact hj
 have hone := hidP hfa.parts.2
 have hbl : b' < w.heap.size := H.sub b' hbQ
 have hA := alloc_one w (.cells z84.toArray 84)
 have R0 : Hid (Row (w.alloc (.cells z84.toArray 84)) w.heap.size 84 z84) := Row.new w 84 z84
 have x0 := (hr.alloc (.cells z84.toArray 84)).cell 0
 simp only [List.getElem?_cons_zero] at x0
 have hRG := hidP (range_below hrg hA)
 have HN2 : Hid (∀ j (h : j < L.length), (w.alloc (.cells z84.toArray 84)).cell? ⟨b', o + j * 5 + 1, none⟩ = some (.string (str L[j].name))) := fun j h => (hA.cell (p := ⟨b', o + j * 5 + 1, none⟩) hbl).trans (HN.out j h)
 have HA := hidP hA
 have hsz : Hid ((w.alloc (.cells z84.toArray 84)).heap.size = w.heap.size + 1) := size_alloc _ _
 have HCL := hidP hcl
 obtain ⟨n, hnl⟩ : ∃ n, n = L.length := ⟨_, rfl⟩
 have HNL := hidP hnl
 rw [← hnl] at x0
 have hin : i < n := by omega
 generalize hSX : str L[i].name = SX at *
 have HSX := hidP hSX
 clear H hr ha hall hcs hfa hrg hA HN hnl hx hbQ hcl hSX
 unfold z84 at *
 generalize hWA : w.alloc (.cells [Value.bool false, .string ⟨#[]⟩, .slice none 0 0, .slice none 0 0, .int .i64 0].toArray 84) = WA at *
 have HWA := hidP hWA
 clear hWA
 go_enter Tryz.func45, Tryz.ntmps45
 go_wp2_with fail
 rw [HWA.out]
 clear HWA
 go_loopw [6] (fun q wr => ∃ (k : Nat), k <= i /\ q = .int .i64 k /\ wr = WA) (fun q _ => n - (intOf q).toNat)
 case atStart => exact ⟨0, by omega, rfl, rfl⟩
 case round =>
  obtain ⟨k, hk, rfl, rfl⟩ := hrel
  have hkL : k < L.length := by have := HNL.out; omega
  have l1 : (k : Int) < (n : Int) := by omega
  have c1 := HN2.out k hkL
  by_cases h3 : k < i
  ·have hd := HD.out k hkL (by omega)
   have x0' := hidP x0
   generalize str L[k].name = SK at *
   go_wp2_with fail
   go_roundw
   case rel => exact ⟨k + 1, by omega, by go_num, by trivial⟩
   case measure => simp [intOf]; omega
  ·obtain rfl : k = i := by omega
   rw [HSX.out] at c1
   clear HN2 HD HSX
   go_wp2_with (first | (refine wpList_load_mid rfl 84 (.tmp 38) rfl b' (o + k * 5) rfl cs _ hRG.out Tryz.underlying84 rfl (by rw [Tryz.sz84, HCL.out]) ?_; apply shut))
   show wpList _ _ _ _ _ _
   refine stR rfl 84 (.tmp 4) (.tmp 39) rfl (cs := cs) rfl rfl R0.out (by rw [Tryz.sz84, HCL.out]) (by rw [HCL.out]; rfl) hone.out ?_
   intro w2 R2 S2
   have HB2 := hidP (HA.out.trans (S2.below (C := w.heap.size) HA.out.size (fun q hq => by omega)))
   have R2' := hidP R2
   have hi84 : Hid ((Tryz.prog.info? 84).map (·.size) = some cs.toArray.size) := by rw [Tryz.sz84, List.size_toArray, HCL.out]; exact rfl
   clear R2 S2 HA R0 hRG c1 x0
   go_wp2_with fail
   exact bodyPost_ret (v := .tuple #[.agg cs.toArray, .bool true]) (results_cell_row2 Tryz.results45 _ _ w.heap.size 84 _ (0, 0) _ rfl R2'.out.heap Tryz.underlying84 rfl hi84.out) rfl ⟨rfl, HB2.out⟩
set_option maxHeartbeats 16000000 in
set_option maxRecDepth 20000 in
theorem xtype_yes {K : Ctx} {v : Value} {l : List Bs} (hL : L.length <= 1000) (hLL : ∀ x ∈ L, x.lives.length <= 1000) (hl7 : l.length <= 1000) : ∀ (d : Nat) {w : World} {n : Nat} {cs : List Value} {t : Ty}, XSc Q B w g L -> TyAt n K w cs t -> Strs K w v l -> K.C <= w.heap.size -> okT L l d t ->
  Calls Tryz.prog 146 #[.pointer (some ⟨g, 0, none⟩), .agg cs.toArray, v, .bool false] w fun ev w' => ev = .returned (.int .i64 0) /\ Below w.heap.size w w'
 | 0, _, _, _, _, _, _, _, _, hok => hok.elim
 | d + 1, w, n, cs, t, H, ht, hv, hC, hok => by
  have IH := hidP (fun (y : World) (hy : Below w.heap.size w y) (n : Nat) (cs : List Value) (t : Ty) (ht : TyAt n K y cs t) (hk : okT L l d t) => xtype_yes hL hLL hl7 d (H.past hy) ht (hv.below (below_le hy hC)) (Nat.le_trans hC hy.size) hk)
  have hsm := K.small
  obtain ⟨n, rfl⟩ : ∃ m, n = m + 1 := by
   cases n with
   | zero => exact ht.elim
   | succ m => exact ⟨m, rfl⟩
  obtain ⟨v2, v3, rfl, hB, h2, h3⟩ := ht
  obtain ⟨a2, p2, rfl⟩ := Ar.form h2
  obtain ⟨a3, p3, rfl⟩ := Ar.form h3
  have hA := alloc_one w (.cells #[.int .i64 t.kind, .string (str t.name), .slice a2 t.lives.length p2, .slice a3 t.elem.length p3] 36)
  have HA := hidP hA
  have R0 : Hid (Row (w.alloc (.cells #[.int .i64 t.kind, .string (str t.name), .slice a2 t.lives.length p2, .slice a3 t.elem.length p3] 36)) w.heap.size 36 [.int .i64 t.kind, .string (str t.name), .slice a2 t.lives.length p2, .slice a3 t.elem.length p3]) := Row.new w 36 _
  have hsz0 : Hid ((w.alloc (.cells #[.int .i64 t.kind, .string (str t.name), .slice a2 t.lives.length p2, .slice a3 t.elem.length p3] 36)).heap.size = w.heap.size + 1) := size_alloc _ _
  rcases hok with hk | ⟨hk, x, hx, hn, hlen, hin⟩ | ⟨hk, a, e, e1, e2, ha, he, hke⟩
  ·have hbool : (t.kind == 1) = true ∨ (t.kind == 1) = false /\ (t.kind == 2) = true := by rcases hk with h | h <;> rw [h] <;> decide
   have y0 := R0.out.cell 0
   simp only [List.getElem?_cons_zero] at y0
   clear H hv h2 h3 hA hk IH hB
   generalize t.kind = kd at *
   generalize str t.name = SN at *
   generalize t.lives.length = nl at *
   generalize t.elem.length = ne at *
   rcases hbool with q1 | ⟨q1, q2⟩
   ·go_enter Tryz.func146, Tryz.ntmps146
    go_wp2_with fail
    go_ret
    exact ⟨rfl, HA.out⟩
   ·go_enter Tryz.func146, Tryz.ntmps146
    go_wp2_with fail
    go_ret
    exact ⟨rfl, HA.out⟩
  ·have q1 : (t.kind == 1) = false := by rw [hk]; rfl
   have q2 : (t.kind == 2) = false := by rw [hk]; rfl
   have q3 : (t.kind == 3) = true := by rw [hk]; rfl
   obtain ⟨cx, qx, FX⟩ := xstruct_yes (H.past hA) hL hx
   rw [hn] at FX
   obtain ⟨x2, x3, rfl, _, qq2, qq3⟩ := qx
   obtain ⟨a4, p4, rfl⟩ := ArQ.form qq2
   obtain ⟨a5, p5, rfl⟩ := ArQ.form qq3
   have FX' := hidP FX
   have one5 : ∀ u ∈ [Value.bool x.pub, .string (str x.name), .slice a4 x.lives.length p4, .slice a5 x.fields.length p5, .int .i64 x.pos], u.oneCell' = true := by intro u hu; simp only [List.mem_cons, List.not_mem_nil, or_false] at hu; rcases hu with rfl | rfl | rfl | rfl | rfl <;> rfl
   have one5 := hidP one5
   have hne : ((t.lives.length : Int) != (x.lives.length : Int)) = false := by rw [hlen]; simp
   have HHA : Hid (∀ y, Below w.heap.size w y -> ∀ i, i < t.lives.length -> Calls Tryz.prog 110 #[v, .string (str (t.lives.getD i []))] y fun ev w' => ev = .returned (.bool true) /\ w' = y) := fun y hy i hi => has_any (K := K) (hv.below (below_le hy hC)) _ (by omega) true ⟨fun _ => hin _ (by simp [List.getD, List.getElem?_eq_getElem hi]), fun _ => rfl⟩
   have HCell := hidP (fun i (hi : i < t.lives.length) => h2.cellAt hi)
   have HC := hidP hC
   have h10 := hLL x hx
   rw [← hlen] at h10
   have y0 := R0.out.cell 0
   have y1 := R0.out.cell 1
   simp only [List.getElem?_cons_zero, List.getElem?_cons_succ] at y0 y1
   obtain ⟨av, pv, rfl⟩ := Ar.form hv
   clear H hv h2 h3 hA hk IH hB FX qq2 qq3 hx hn hin
   rw [← hlen] at hne one5 FX'
   clear hlen
   generalize l.length = nlv at *
   generalize t.kind = kd at *
   generalize str t.name = SN at *
   generalize hnl : t.lives.length = nl at *
   clear hnl
   generalize t.elem.length = ne at *
   generalize x.fields.length = nf at *
   generalize str x.name = SX at *
   generalize x.pub = pb at *
   generalize x.pos = ps at *
   go_enter Tryz.func146, Tryz.ntmps146
   go_wp2_with fail
   refine FX'.out.mono ?_
   rintro _ w1 ⟨rfl, hb1⟩
   have R1 := hidP (R0.out.below hb1 R0.out.lt)
   have HB1 := hidP (HA.out.trans (below_le hb1 (by rw [hsz0.out]; omega)))
   have RN : Hid (Row (w1.alloc (.cells z84.toArray 84)) w1.heap.size 84 z84) := Row.new w1 84 z84
   have HBN := hidP (alloc_one w1 (.cells z84.toArray 84))
   have hz1 := hb1.size
   have hl1 := R1.out.lt
   clear FX' hb1 R0 HA y0 y1
   unfold z84 at *
   go_wp2_with (first | (refine stR rfl 84 (.tmp 9) (.tmp 24) rfl (cs := [.bool pb, .string SX, .slice a4 nl p4, .slice a5 nf p5, .int .i64 ps]) rfl rfl RN.out Tryz.sz84 rfl one5.out ?_; intro w2 R2 S2; apply shut))
   show wpList _ _ _ _ _ _
   have R3 := hidP (S2.row (R1.out.below HBN.out R1.out.lt) (by omega))
   have HB2 := hidP (HB1.out.trans (below_le (HBN.out.trans (S2.below (C := w1.heap.size) HBN.out.size (fun q hq => by omega))) HB1.out.size))
   have c2 := R2.cell 2
   have d2 := R3.out.cell 2
   simp only [List.getElem?_cons_zero, List.getElem?_cons_succ] at c2 d2
   clear R1 RN HBN S2 R2 HB1
   go_wp2_with fail
   go_loopw [11] (fun i wr => ∃ (k : Nat), k <= nl /\ i = .int .i64 k /\ wr = w2) (fun i _ => nl - (intOf i).toNat)
   case atStart => exact ⟨0, by omega, rfl, rfl⟩
   case round =>
    obtain ⟨k, hk, rfl, rfl⟩ := hrel
    by_cases h3 : k < nl
    ·have l1 : (k : Int) < (nl : Int) := by omega
     obtain ⟨b9, o9, rfl, hbC9, c9, -⟩ := HCell.out k h3
     have HS := hidP (fun y hy => HHA.out y hy k h3)
     have hCC := HC.out
     have c9' := (HB2.out.cell (p := ⟨b9, o9 + k, none⟩) (show b9 < w.heap.size by omega)).trans c9
     clear c9
     generalize str (t.lives.getD k []) = SK at *
     go_wp2_with fail
     refine (HS.out _ HB2.out).mono ?_
     rintro _ _ ⟨rfl, rfl⟩
     go_wp2_with fail
     go_roundw
     case rel => exact ⟨k + 1, by omega, by go_num, by trivial⟩
     case measure => simp [intOf]; omega
    ·obtain rfl : k = nl := by omega
     go_wp2_with fail
     go_ret
     exact ⟨rfl, HB2.out⟩
  ·have q1 : (t.kind == 1) = false := by rcases hk with h | h <;> rw [h] <;> rfl
   have q2 : (t.kind == 2) = false := by rcases hk with h | h <;> rw [h] <;> rfl
   have q3 : (t.kind == 3) = false := by rcases hk with h | h <;> rw [h] <;> rfl
   have hbool : (t.kind == 4) = true ∨ (t.kind == 4) = false /\ (t.kind == 5) = true := by rcases hk with h | h <;> rw [h] <;> decide
   rw [e1] at h2
   rw [e2] at h3
   obtain ⟨b2, o2, rfl, hbC2, c2, hc2, hrg2, htx⟩ := ar_one h2
   obtain ⟨b', o', rfl, hbC, ce, hcl, hrg, hte⟩ := ar_one h3
   obtain ⟨rfl, hBa⟩ := htx
   have z2 := hrg2 0 (.string (str a)) rfl
   rw [Nat.add_zero] at z2
   rw [e1, e2] at R0 HA hsz0
   have R0 : Hid (Row (w.alloc (.cells #[.int .i64 t.kind, .string (str t.name), .slice (some ⟨b2, o2, none⟩) 1 p2, .slice (some ⟨b', o', none⟩) 1 p3] 36)) w.heap.size 36 [.int .i64 t.kind, .string (str t.name), .slice (some ⟨b2, o2, none⟩) 1 p2, .slice (some ⟨b', o', none⟩) 1 p3]) := R0
   have HA : Hid (Below w.heap.size w (w.alloc (.cells #[.int .i64 t.kind, .string (str t.name), .slice (some ⟨b2, o2, none⟩) 1 p2, .slice (some ⟨b', o', none⟩) 1 p3] 36))) := HA
   rw [e1, e2, show [a].length = 1 from rfl, show [e].length = 1 from rfl]
   have HHA : Hid (∀ y, Below w.heap.size w y -> Calls Tryz.prog 110 #[v, .string (str a)] y fun ev w' => ev = .returned (.bool true) /\ w' = y) := fun y hy => has_any (K := K) (hv.below (below_le hy hC)) _ (by omega) true ⟨fun _ => ha, fun _ => rfl⟩
   have HI := hidP (fun y (hy : Below w.heap.size w y) => IH.out y hy n ce e (hte.below (below_le hy hC)) hke)
   have z2' := (HA.out.cell (p := ⟨b2, o2, none⟩) (show b2 < w.heap.size by omega)).trans z2
   have y0 := R0.out.cell 0
   have y2 := R0.out.cell 2
   have y3 := R0.out.cell 3
   simp only [List.getElem?_cons_zero, List.getElem?_cons_succ] at y0 y2 y3
   have HRG := hidP (range_below hrg HA.out)
   have HCL := hidP hcl
   obtain ⟨av, pv, rfl⟩ := Ar.form hv
   clear H hv h2 h3 hA hk IH hB hte hke hrg hcl he e1 e2 hbC hrg2 hbC2 hc2 z2 hsz0 ha
   generalize l.length = nlv at *
   generalize t.kind = kd at *
   generalize str t.name = SN at *
   generalize str a = SA at *
   rcases hbool with q4 | ⟨q4, q5⟩
   all_goals
    go_enter Tryz.func146, Tryz.ntmps146
    go_wp2_with fail
    refine (HHA.out _ HA.out).mono ?_
    rintro _ _ ⟨rfl, rfl⟩
    go_wp2_with (first | (refine wpList_load_mid rfl 36 (.tmp 93) rfl b' o' rfl ce _ HRG.out Tryz.underlying36 rfl (by rw [Tryz.sz36, HCL.out]) ?_; apply shut))
    show wpList _ _ _ _ _ _
    go_wp2_with fail
    refine (HI.out _ HA.out).mono ?_
    rintro _ w3 ⟨rfl, hb3⟩
    have HB3 := hidP (HA.out.trans (below_le hb3 HA.out.size))
    clear hb3
    go_wp2_with fail
    go_ret
    exact ⟨rfl, HB3.out⟩
end
end Go.Proofs.YtldbbkheemnnhaaGreatDoor

namespace Go.Proofs.YtldbbkheemnnhaaGreatDoor
open Go.RowKit
def witL : Nat -> Ty -> List Bs
 | 0, _ => []
 | n + 1, t => t.lives ++ (match t.elem with | e :: _ => witL n e | [] => [])
def flT : Nat -> Ty -> Prop
 | 0, _ => False
 | n + 1, t => t.lives.length <= 64 /\ (t.elem = [] ∨ ((t.kind = 4 ∨ t.kind = 5) /\ ∃ e, t.elem = [e] /\ flT n e))
theorem witL_len : ∀ {n : Nat} {t : Ty}, flT n t -> (witL n t).length <= n * 64
 | 0, _, h => h.elim
 | n + 1, t, h => by
  obtain ⟨h1, h | ⟨_, e, he, h2⟩⟩ := h
  ·simp only [witL, h, List.append_nil]; omega
  ·have := witL_len h2
   simp only [witL, he, List.length_append]
   omega
theorem strs_sou {K : Ctx} {w : World} {v : Value} {l : List Bs} (h : Strs K w v l) : ∃ L, Cel 1 (TxAt K) L l /\ Sou w v l.length L.flatten := by
 obtain ⟨L, hc, ao, cap, e, _, hn, hcell⟩ := Ar.cel (by decide) h (fun cs x hx u hu => by rw [hx.1] at hu; simp at hu; subst hu; rfl)
 refine ⟨L, hc, ao, cap, e, hn, fun j u hj => ?_⟩
 obtain ⟨b, o, e1, _, e2⟩ := hcell j u hj
 exact ⟨b, o, e1, e2⟩
theorem own_sou {w : World} {B e n : Nat} {v : Value} {xs : List Value} (h : w.ownsRow B e 1 v n xs) : Sou w v n xs := by
 obtain ⟨ao, cap, rfl⟩ := own_slice h
 refine ⟨ao, cap, rfl, fun e0 => ?_, fun j u hj => ?_⟩
 ·rcases h.2 with ⟨_, h0⟩ | ⟨g, cap', cur, e1, _⟩
  ·exact h0
  ·subst e0; cases e1
 ·rcases h.2 with ⟨_, h0⟩ | ⟨g, cap', cur, e1, _⟩
  ·have := h.1
   rw [List.getElem?_eq_none (by omega)] at hj; cases hj
  ·cases e1
   exact ⟨g, 0, rfl, own_range h j u hj⟩
theorem own_base {w : World} {B C e z n : Nat} {v : Value} {xs : List Value} (h : w.ownsRow B e z v n xs) (hC : C <= B) : w.ownsRow C e z v n xs := by
 refine ⟨h.1, ?_⟩
 rcases h.2 with h | ⟨g, cap, cur, e1, hb, hr⟩
 ·exact .inl h
 ·exact .inr ⟨g, cap, cur, e1, Nat.le_trans hC hb, hr⟩
theorem own_empty {w : World} {B : Nat} (hB : B <= w.heap.size) : (w.alloc (.cells #[] 9)).ownsRow B 9 1 (.slice (some ⟨w.heap.size, 0, none⟩) 0 0) 0 [] :=
 ⟨rfl, .inr ⟨w.heap.size, 0, #[], rfl, hB, heap_alloc_new w _, Nat.le_refl _, Nat.zero_le _, rfl, rfl⟩⟩
set_option maxHeartbeats 16000000 in
set_option maxRecDepth 20000 in
theorem within_any {K : Ctx} : ∀ (d : Nat) {w : World} {n : Nat} {cs : List Value} {t : Ty}, d <= 70 -> TyAt n K w cs t -> K.C <= w.heap.size -> flT d t ->
  Calls Tryz.prog 191 #[.agg cs.toArray] w fun ev w' => ∃ v, ev = .returned v /\ Below w.heap.size w w' /\ ∃ L, Cel 1 (TxAt K) L (witL d t) /\ w'.ownsRow w.heap.size 9 1 v (witL d t).length L.flatten
 | 0, _, _, _, _, _, _, _, hf => hf.elim
 | d + 1, w, n, cs, t, hd, ht, hC, hf => by
  have IH := hidP (fun (y : World) (hy : Below w.heap.size w y) (n : Nat) (cs : List Value) (t : Ty) (ht : TyAt n K y cs t) (hk : flT d t) => within_any d (by omega) ht (Nat.le_trans hC hy.size) hk)
  obtain ⟨n, rfl⟩ : ∃ m, n = m + 1 := by
   cases n with
   | zero => exact ht.elim
   | succ m => exact ⟨m, rfl⟩
  have hl := hidP (witL_len hf)
  obtain ⟨v2, v3, rfl, hB, h2, h3⟩ := ht
  obtain ⟨a2, p2, rfl⟩ := Ar.form h2
  obtain ⟨a3, p3, rfl⟩ := Ar.form h3
  have hA := alloc_one w (.cells #[.int .i64 t.kind, .string (str t.name), .slice a2 t.lives.length p2, .slice a3 t.elem.length p3] 36)
  have R0 : Row (w.alloc (.cells #[.int .i64 t.kind, .string (str t.name), .slice a2 t.lives.length p2, .slice a3 t.elem.length p3] 36)) w.heap.size 36 [.int .i64 t.kind, .string (str t.name), .slice a2 t.lives.length p2, .slice a3 t.elem.length p3] := Row.new w 36 _
  have hA2 := alloc_one (w.alloc (.cells #[.int .i64 t.kind, .string (str t.name), .slice a2 t.lives.length p2, .slice a3 t.elem.length p3] 36)) (.cells #[] 9)
  have HA := hidP (hA.trans (below_le hA2 hA.size))
  have R1 := hidP (R0.below hA2 R0.lt)
  have OW := hidP (own_empty (B := w.heap.size + 1) (w := w.alloc (.cells #[.int .i64 t.kind, .string (str t.name), .slice a2 t.lives.length p2, .slice a3 t.elem.length p3] 36)) (by rw [size_alloc]; exact Nat.le_refl _))
  obtain ⟨L1, hc1, hs1⟩ := strs_sou (h2.below (below_le HA.out hC))
  have HS1 := hidP hs1
  have HC1 := hidP hc1
  have h64 := hf.1
  have y2 := R1.out.cell 2
  have y3 := R1.out.cell 3
  simp only [List.getElem?_cons_zero, List.getElem?_cons_succ] at y2 y3
  rw [size_alloc] at OW
  clear hA hA2 R0 hc1 hs1 h2 hB
  generalize hnl : t.lives.length = nl at *
  generalize hne : t.elem.length = ne at *
  have HNL := hidP hnl
  have HNE := hidP hne
  clear hnl hne
  generalize str t.name = SN at *
  generalize t.kind = kd at *
  have one1 := HC1.out.ones
  have HO1 := hidP one1
  have hlen1 : L1.flatten.length = nl * 1 := by rw [flat_lenS HC1.out.all, HC1.out.len, HNL.out]
  have HLN := hidP hlen1
  clear one1 hlen1
  go_enter Tryz.func191, Tryz.ntmps191
  go_wp2_with (first | (refine wpl_appS (bz := 16) rfl (.tmp 4) (.tmp 6) rfl Tryz.underlying33 Tryz.info9S rfl (by decide) rfl rfl OW.out (by rw [size_two]; omega) HS1.out HLN.out HO1.out (by omega) (by decide) ?_; intro v4 w4 ho4 hb4 hf4; apply shut))
  show wpList _ _ _ _ _ _
  obtain ⟨a4, p4, rfl⟩ := hf4
  rw [Nat.zero_add, List.nil_append] at ho4
  rw [Nat.zero_add]
  have R4 := hidP (R1.out.below hb4 (by omega))
  have hz4 := hb4.size
  rw [size_two] at hz4
  have HB4 := hidP (HA.out.trans (below_le hb4 (by omega)))
  have x3 := R4.out.cell 3
  simp only [List.getElem?_cons_zero, List.getElem?_cons_succ] at x3
  have HO4 := hidP ho4
  clear OW HS1 HA R1 y2 y3 hb4 ho4 HLN HO1
  obtain ⟨hf1, hf2⟩ := hf
  rcases hf2 with he | ⟨_, e, he, hfe⟩
  ·have hne : ne = 0 := by have := HNE.out; rw [he] at this; exact this.symm
   subst hne
   have HW := hidP (show witL (d + 1) t = t.lives by simp [witL, he])
   have HOF := hidP (own_base HO4.out (Nat.le_succ _))
   clear h3 hf1 he HO4
   go_wp2_with fail
   go_ret
   exact ⟨_, rfl, HB4.out, L1, by rw [HW.out]; exact HC1.out, by rw [HW.out, HNL.out]; exact HOF.out⟩
  ·have hne : ne = 1 := by have := HNE.out; rw [he] at this; exact this.symm
   subst hne
   have HW := hidP (show witL (d + 1) t = t.lives ++ witL d e by simp [witL, he])
   rw [he] at h3
   obtain ⟨b', o', rfl, hbC, ce, hcl, hrg, hte⟩ := ar_one h3
   have HCL := hidP hcl
   have HRG := hidP (fun (y : World) (hy : Below w.heap.size w y) => (range_below hrg hy))
   have WI := hidP (IH.out w4 HB4.out n ce e (hte.below (below_le HB4.out hC)) hfe)
   have HRG4 := hidP (HRG.out w4 HB4.out)
   have hwl := witL_len hfe
   clear h3 hf1 he hrg hte HRG IH hfe hcl
   go_wp2_with (first | (refine wpList_load_mid rfl 36 (.tmp 15) rfl b' o' rfl ce _ HRG4.out Tryz.underlying36 rfl (by rw [Tryz.sz36, HCL.out]) ?_; apply shut))
   show wpList _ _ _ _ _ _
   go_wp2_with fail
   refine WI.out.mono ?_
   rintro _ w5 ⟨v5, rfl, hb5, L5, hc5, ho5⟩
   have hz5 := hb5.size
   have HO5 := hidP (own_sameR HO4.out (fun k e => hb5.block k (HO4.out.lt k e).2))
   have HS5 := hidP (own_sou ho5)
   have HC5 := hidP hc5
   have HB5 := hidP (HB4.out.trans (below_le hb5 HB4.out.size))
   have HO5' := hidP hc5.ones
   have HL5 : Hid (L5.flatten.length = (witL d e).length * 1) := by show _ = _; rw [flat_lenS hc5.all, hc5.len]
   obtain ⟨a5, p5, rfl⟩ := own_slice ho5
   clear WI HO4 hc5 hb5 ho5 HRG4 R4 HB4 x3
   generalize hwn : (witL d e).length = wn at *
   have HWN := hidP hwn
   clear hwn
   go_wp2_with (first | (refine wpl_appS (bz := 16) rfl (.tmp 12) (.tmp 17) rfl Tryz.underlying33 Tryz.info9S rfl (by decide) rfl rfl HO5.out (by omega) HS5.out HL5.out HO5'.out (by omega) (by decide) ?_; intro v6 w6 ho6 hb6 hf6; apply shut))
   show wpList _ _ _ _ _ _
   obtain ⟨a6, p6, rfl⟩ := hf6
   have HO6 := hidP (own_base ho6 (Nat.le_succ _))
   have HB6 := hidP (HB5.out.trans (below_le hb6 (Nat.le_succ _)))
   clear HO5 HS5 HB5 ho6 hb6
   go_wp2_with fail
   go_ret
   exact ⟨_, rfl, HB6.out, L1 ++ L5, by rw [HW.out]; exact HC1.out.app HC5.out, by rw [HW.out, List.length_append, HNL.out, HWN.out, List.flatten_append]; exact HO6.out⟩
end Go.Proofs.YtldbbkheemnnhaaGreatDoor

namespace Go.Proofs.YtldbbkheemnnhaaGreatDoor
open Go.RowKit
structure RTy where
 kind : Int
 name : Bs
 regs : List Int
 elem : List RTy
def NmAt (cs : List Value) (x : Int) : Prop := cs = [.int .i64 x]
def Nms (K : Ctx) (w : World) (v : Value) (l : List Int) : Prop := Ar 1 8 NmAt K w v l
def RtAt : Nat -> Ctx -> World -> List Value -> RTy -> Prop
 | 0, _, _, _, _ => False
 | n + 1, K, w, cs, t => ∃ v2 v3, cs = [.int .i64 t.kind, .string (str t.name), v2, v3] /\ t.name.length <= K.B /\ Nms K w v2 t.regs /\ Ar 4 72 (RtAt n K w) K w v3 t.elem
theorem RtAt.below {K : Ctx} {w w' : World} (hb : Below K.C w w') : ∀ {n : Nat} {cs : List Value} {t : RTy}, RtAt n K w cs t -> RtAt n K w' cs t
 | 0, _, _, h => h.elim
 | n + 1, _, _, h => by
  obtain ⟨v2, v3, e, h1, h2, h3⟩ := h
  exact ⟨v2, v3, e, h1, h2.mono hb fun _ _ _ h => h, h3.mono hb fun _ _ _ h => RtAt.below hb h⟩
theorem RtAt.len {K : Ctx} {w : World} : ∀ {n : Nat} {cs : List Value} {t : RTy}, RtAt n K w cs t -> cs.length = 4
 | 0, _, _, h => h.elim
 | n + 1, _, _, h => by obtain ⟨v2, v3, rfl, _⟩ := h; rfl
def PtR (n : Nat) (K : Ctx) (w : World) (v : Value) : Option RTy -> Prop
 | none => v = .pointer none
 | some t => ∃ b o cs, v = .pointer (some ⟨b, o, none⟩) /\ b < K.C /\ w.rangeAt b o cs /\ RtAt n K w cs t
def nxtR (t : RTy) : Option RTy := if t.kind = 4 ∨ t.kind = 5 then t.elem.head? else none
def ownR (t : RTy) : List Int := if t.kind = 3 then t.regs else if t.kind = 4 ∨ t.kind = 5 then t.regs.take 1 else []
def regL : Nat -> RTy -> List Int
 | 0, _ => []
 | n + 1, t => ownR t ++ (match nxtR t with | some e => regL n e | none => [])
theorem Ar.take1 {α : Type} {z bz : Nat} {P : List Value -> α -> Prop} {K : Ctx} {w : World} {a : Option Addr} {n p : Nat} {x : α} {l : List α} (h : Ar z bz P K w (.slice a n p) (x :: l)) : Ar z bz P K w (.slice a 1 p) [x] := by
 obtain ⟨ao, cap, e, h1, h2, h3⟩ := h.shape
 simp only [List.length_cons, Value.slice.injEq] at e h1 h2
 obtain ⟨rfl, rfl, rfl⟩ := e
 refine ⟨_, _, rfl, by simp only [List.length_cons, List.length_nil]; omega, ?_, fun i hi => ?_⟩
 ·have : (l.length + 1) * bz = l.length * bz + bz := Nat.succ_mul _ _
  simp only [List.length_cons, List.length_nil]
  omega
 ·have hi0 : i = 0 := by simpa using hi
  subst hi0
  exact h3 0 (by simp)
theorem Ar.head1 {α : Type} {z bz : Nat} {P : List Value -> α -> Prop} {K : Ctx} {w : World} {a : Option Addr} {n p : Nat} {x : α} {l : List α} (h : Ar z bz P K w (.slice a n p) (x :: l)) : ∃ b o, a = some ⟨b, o, none⟩ /\ b < K.C /\ ∃ cs, cs.length = z /\ w.rangeAt b o cs /\ P cs x :=
 ar_one h.take1
set_option maxHeartbeats 4000000 in
theorem first54 {K : Ctx} {w : World} {v : Value} {l : List Int} (h : Nms K w v l) :
  Calls Tryz.prog 54 #[v] w fun ev w' => ∃ u, ev = .returned u /\ w' = w /\ Nms K w u (l.take 1) := by
 obtain ⟨a, p, rfl⟩ := Ar.form h
 have hs := h.shape
 obtain ⟨ao, cap, e, h1, h2, -⟩ := hs
 cases e
 cases l with
 | nil =>
  simp only [List.length_nil] at *
  have H := hidP h
  clear h
  go_enter Tryz.func54, Tryz.ntmps54
  go_wp2_with fail
  go_ret
  exact ⟨_, rfl, rfl, H.out⟩
 | cons x l =>
  have H := hidP (h.take1)
  have h8 : 1 <= (x :: l).length := by simp
  clear h
  generalize (x :: l).length = n at *
  go_enter Tryz.func54, Tryz.ntmps54
  go_wp2_with fail
  go_ret
  exact ⟨.slice a (min 1 (n : Int)).toNat p, rfl, rfl, by rw [show (min 1 (n : Int)).toNat = 1 by omega]; exact H.out⟩
set_option maxHeartbeats 8000000 in
theorem own37 {K : Ctx} {w : World} {n : Nat} {b o : Nat} {cs : List Value} {t : RTy} (ht : RtAt (n + 1) K w cs t) (hr : w.rangeAt b o cs) :
  Calls Tryz.prog 37 #[.pointer (some ⟨b, o, none⟩)] w fun ev w' => ∃ u, ev = .returned u /\ w' = w /\ Nms K w u (ownR t) := by
 obtain ⟨v2, v3, rfl, _, h2, _⟩ := ht
 have F := hidP (first54 h2)
 have H2 := hidP h2
 have c0 := hr 0 _ rfl
 have c2 := hr 2 _ rfl
 rw [Nat.add_zero] at c0
 clear hr h2
 have hO := hidP (show ownR t = if t.kind = 3 then t.regs else if t.kind = 4 ∨ t.kind = 5 then t.regs.take 1 else [] from rfl)
 generalize t.kind = kd at *
 by_cases h3 : kd = 3
 ·subst h3
  have hO' := hidP (show ownR t = t.regs from hO.out.trans (if_pos rfl))
  clear hO F
  go_enter Tryz.func37, Tryz.ntmps37
  go_wp2_with fail
  go_ret
  exact ⟨_, rfl, rfl, by rw [hO'.out]; exact H2.out⟩
 ·by_cases h4 : kd = 4 ∨ kd = 5
  ·have hO' := hidP (show ownR t = t.regs.take 1 from hO.out.trans ((if_neg h3).trans (if_pos h4)))
   clear hO H2
   rcases h4 with rfl | rfl
   all_goals
    go_enter Tryz.func37, Tryz.ntmps37
    go_wp2_with fail
    refine F.out.mono ?_
    rintro _ _ ⟨u, rfl, rfl, hu⟩
    have HU := hidP hu
    clear hu
    go_wp2_with fail
    go_ret
    exact ⟨_, rfl, rfl, by rw [hO'.out]; exact HU.out⟩
  ·have hO' := hidP (show ownR t = [] from hO.out.trans ((if_neg h3).trans (if_neg h4)))
   have e3 : (kd == 3) = false := by simpa using h3
   have e4 : (kd == 4) = false := by simp; omega
   have e5 : (kd == 5) = false := by simp; omega
   clear hO H2 F
   go_enter Tryz.func37, Tryz.ntmps37
   go_wp2_with fail
   go_ret
   exact ⟨_, rfl, rfl, by rw [hO'.out]; exact ⟨none, 0, rfl, Nat.le_refl _, by simp, fun _ h => by cases h⟩⟩
set_option maxHeartbeats 8000000 in
theorem within36 {K : Ctx} {w : World} {n : Nat} {b o : Nat} {cs : List Value} {t : RTy} (ht : RtAt (n + 1) K w cs t) (hr : w.rangeAt b o cs) :
  Calls Tryz.prog 36 #[.pointer (some ⟨b, o, none⟩)] w fun ev w' => ∃ u, ev = .returned u /\ w' = w /\ PtR n K w u (nxtR t) := by
 obtain ⟨v2, v3, rfl, _, _, h3⟩ := ht
 obtain ⟨a, p, rfl⟩ := Ar.form h3
 have c0 := hr 0 _ rfl
 have c3 := hr 3 _ rfl
 rw [Nat.add_zero] at c0
 clear hr
 have hO := hidP (show nxtR t = if t.kind = 4 ∨ t.kind = 5 then t.elem.head? else none from rfl)
 generalize t.kind = kd at *
 generalize t.elem = el at *
 by_cases h4 : kd = 4 ∨ kd = 5
 ·have hO' := hidP (hO.out.trans (if_pos h4))
  clear hO
  cases el with
  | nil =>
   simp only [List.length_nil] at *
   clear h3
   rcases h4 with rfl | rfl
   all_goals
    go_enter Tryz.func36, Tryz.ntmps36
    go_wp2_with fail
    go_ret
    exact ⟨_, rfl, rfl, by rw [hO'.out]; exact rfl⟩
  | cons x l =>
   obtain ⟨b', o', rfl, hb', cx, hl, hrg, hx⟩ := Ar.head1 h3
   have X := hidP (show PtR n K w (.pointer (some ⟨b', o', none⟩)) (some x) from ⟨b', o', cx, rfl, hb', hrg, hx⟩)
   have h1 : 1 <= (x :: l).length := by simp
   clear h3 hrg hx hl
   simp only [List.head?_cons] at hO'
   generalize hnl : (x :: l).length = nl at *
   clear hnl
   have e0 : ((nl : Int) == 0) = false := by simp; omega
   rcases h4 with rfl | rfl
   all_goals
    go_enter Tryz.func36, Tryz.ntmps36
    go_wp2_with fail
    go_ret
    exact ⟨_, rfl, rfl, by rw [hO'.out]; exact X.out⟩
 ·have hO' := hidP (hO.out.trans (if_neg h4))
  have e4 : (kd == 4) = false := by simp; omega
  have e5 : (kd == 5) = false := by simp; omega
  clear hO h3
  go_enter Tryz.func36, Tryz.ntmps36
  go_wp2_with fail
  go_ret
  exact ⟨_, rfl, rfl, by rw [hO'.out]; exact rfl⟩
end Go.Proofs.YtldbbkheemnnhaaGreatDoor
