/-
  The texts Lg8, Lh8, joined.
-/
import Derived.Test.YtldbbkheemnnhaaGreatDoorJpRh82
import Derived.Test.YtldbbkheemnnhaaGreatDoorJpBar82
import Derived.Test.YtldbbkheemnnhaaGreatDoorQpSu8
namespace Go.Proofs.YtldbbkheemnnhaaGreatDoor
open Go.RowKit Go.Maps
theorem sou_row1 {w : World} {g t : Nat} {x : Value} {c : Nat} (h : Row w g t [x]) : Sou w (.slice (some ⟨g, 0, none⟩) 1 c) 1 [x] :=
 ⟨some ⟨g, 0, none⟩, c, rfl, (fun e => by cases e), fun j u hj => ⟨g, 0, rfl, h.range j u hj⟩⟩
set_option maxHeartbeats 8000000 in
set_option maxRecDepth 20000 in
theorem written70 {K : Ctx} {w : World} {gl gm : Nat} {p0 v : Value} {nx : Int} {lives ls : List Bs} (hR : Row w gl 79 [p0, .map (some gm), .int .i64 nx]) (hM : Mp w gm (plK [] 0 lives)) (h : Strs K w v ls) (hC : K.C <= w.heap.size) (hL : ls.length <= 1000) :
  Calls Tryz.prog 70 #[.pointer (some ⟨gl, 0, none⟩), v] w fun ev w' => ∃ u, ev = .returned u /\ Below w.heap.size w w' /\ w'.ownsRow w.heap.size 3 1 u ls.length (iv (ls.map (numL lives))) := by
 obtain ⟨ao, cap, rfl⟩ := Ar.form h
 have HC := hidP hC
 have hsm := K.small
 have CE := hidP (fun i (hi : i < ls.length) => h.cellAt hi)
 have HR := hidP hR
 have HM := hidP hM
 clear h hC hR hM
 generalize hnl : ls.length = nl at *
 have HNL := hidP hnl
 clear hnl
 go_enter Tryz.func70, Tryz.ntmps70
 go_wp2_with fail
 go_loopg [5, 12] nl (fun k v5 v12 wr => ∃ (i : Nat), i + k = nl /\ v12 = .int .i64 (i : Int) /\ wr.ownsRow w.heap.size 3 1 v5 i (iv ((ls.take i).map (numL lives))) /\ Below w.heap.size w wr)
 case atStart => exact ⟨0, by omega, rfl, ⟨rfl, .inl ⟨rfl, rfl⟩⟩, Below.refl _ _⟩
 case round =>
  obtain ⟨i, hi, rfl, ho, hb⟩ := hrel
  have HO := hidP ho
  have HB := hidP hb
  obtain ⟨a5, p5, rfl⟩ := own_slice ho
  clear ho hb
  by_cases hlt : i < nl
  ·obtain ⟨b1, o1, rfl, hb1, hc1, hl1⟩ := CE.out i hlt
   have hc2 := (HB.out.cell (p := ⟨b1, o1 + i, none⟩) (by have := HC.out; show b1 < _; omega)).trans hc1
   have l1 : (i : Int) < (nl : Int) := by omega
   have HG := hidP (show iv ((ls.take (i + 1)).map (numL lives)) = iv ((ls.take i).map (numL lives)) ++ [.int .i64 (numL lives (ls.getD i []))] by
    rw [getD_take (by have := HNL.out; omega), List.map_append, iv_app]; rfl)
   generalize ls.getD i [] = x at *
   have hx9 : x.length <= 140737488355328 := by omega
   obtain ⟨j, lk, hj⟩ := places_look (HM.out.below HB.out) x hx9
   have RW := HR.out.below HB.out HR.out.lt
   have x1 := RW.cell 1
   simp only [List.getElem?_cons_zero, List.getElem?_cons_succ] at x1
   clear RW hc1 hx9 hl1 hb1
   have HX : Hid ((decide (x ∈ lives) = true /\ j = numL lives x) ∨ (decide (x ∈ lives) = false /\ -1 = numL lives x)) := by
    show _ ∨ _
    by_cases hm : x ∈ lives
    ·exact .inl ⟨decide_eq_true hm, hj hm⟩
    ·exact .inr ⟨decide_eq_false hm, by rw [numL, if_neg hm]⟩
   clear hj
   generalize str x = SX at *
   generalize decide (x ∈ lives) = dd at *
   generalize numL lives x = nn at *
   have hz := hidP HB.out.size
   rcases HX.out with ⟨rfl, rfl⟩ | ⟨rfl, rfl⟩
   ·clear HX
    go_wp2_with (first | (refine bsliceU rfl 22 3 1 8 _ (.int .i64 j) (.tmp 28) rfl Tryz.underlying22 Tryz.info3I (by decide) (by decide) rfl [.int .i64 j] rfl rfl rfl ?_; intro w7 hR7 hB7 hz7; apply shut))
    show wpList _ _ _ _ _ _
    have hOW := hidP (own_sameR HO.out (fun q eq => hB7.block q (HO.out.lt q eq).2))
    have hSR := hidP (sou_row1 (c := 1) hR7)
    have HB7 := hidP (HB.out.trans (below_le hB7 hz.out))
    have hz8 := hidP (Nat.le_trans hz.out hB7.size)
    clear hR7 hB7 hz7 HO HB lk x1 hc2
    go_wp2_with (first | (refine wpl_appS (bz := 8) rfl (.tmp 27) (.tmp 29) rfl Tryz.underlying22 Tryz.info3I rfl (by decide) rfl rfl hOW.out hz8.out hSR.out rfl (ones_cons rfl ones_nil) (by omega) (by decide) ?_; intro v9 w9 ho9 hb9 hf9; apply shut))
    show wpList _ _ _ _ _ _
    have HO9 := hidP ho9
    have HB9 := hidP (HB7.out.trans hb9)
    clear hOW hSR HB7 ho9 hb9 hf9
    go_wp2_with fail
    go_roundg (gk - 1)
    case measure => omega
    case rel => exact ⟨i + 1, by omega, by go_num, by rw [HG.out]; exact HO9.out, HB9.out⟩
   ·clear HX
    go_wp2_with (first | (refine bsliceU rfl 22 3 1 8 _ (.int .i64 (-1)) (.tmp 28) rfl Tryz.underlying22 Tryz.info3I (by decide) (by decide) rfl [.int .i64 (-1)] rfl rfl rfl ?_; intro w7 hR7 hB7 hz7; apply shut))
    show wpList _ _ _ _ _ _
    have hOW := hidP (own_sameR HO.out (fun q eq => hB7.block q (HO.out.lt q eq).2))
    have hSR := hidP (sou_row1 (c := 1) hR7)
    have HB7 := hidP (HB.out.trans (below_le hB7 hz.out))
    have hz8 := hidP (Nat.le_trans hz.out hB7.size)
    clear hR7 hB7 hz7 HO HB lk x1 hc2
    go_wp2_with (first | (refine wpl_appS (bz := 8) rfl (.tmp 27) (.tmp 29) rfl Tryz.underlying22 Tryz.info3I rfl (by decide) rfl rfl hOW.out hz8.out hSR.out rfl (ones_cons rfl ones_nil) (by omega) (by decide) ?_; intro v9 w9 ho9 hb9 hf9; apply shut))
    show wpList _ _ _ _ _ _
    have HO9 := hidP ho9
    have HB9 := hidP (HB7.out.trans hb9)
    clear hOW hSR HB7 ho9 hb9 hf9
    go_wp2_with fail
    go_roundg (gk - 1)
    case measure => omega
    case rel => exact ⟨i + 1, by omega, by go_num, by rw [HG.out]; exact HO9.out, HB9.out⟩
  ·have e : i = nl := by omega
   have HF := hidP (show ls.take i = ls by rw [e, ← HNL.out, List.take_length])
   subst e
   clear hlt
   rw [HF.out] at HO
   go_wp2_with fail
   go_ret
   exact ⟨_, rfl, HB.out, HO.out⟩
def loL (nx : Int) (k : Nat) : List Int := (List.range k).map fun (i : Nat) => nx + (i : Int)
theorem loL_len (nx : Int) (k : Nat) : (loL nx k).length = k := by simp [loL]
theorem loL_succ (nx : Int) (k : Nat) : loL nx (k + 1) = loL nx k ++ [nx + (k : Int)] := by simp [loL, List.range_succ]
set_option maxHeartbeats 8000000 in
set_option maxRecDepth 20000 in
theorem leftOut71 {w : World} {gl : Nat} {p0 p1 : Value} {nx : Int} {c : Nat} (hR : Row w gl 79 [p0, p1, .int .i64 nx]) (hc : c <= 1000) (h1 : -9223372036854775808 <= nx) (h2 : nx <= 4611686018427387904) :
  Calls Tryz.prog 71 #[.pointer (some ⟨gl, 0, none⟩), .int .i64 (c : Int)] w fun ev w' => ∃ u, ev = .returned u /\ Stay (fun k => k = gl) w w' /\ Row w' gl 79 [p0, p1, .int .i64 (nx + c)] /\ w'.ownsRow w.heap.size 3 1 u c (iv (loL nx c)) := by
 have HR := hidP hR
 clear hR
 go_enter Tryz.func71, Tryz.ntmps71
 go_wp2_with fail
 go_loopg [5, 7] c (fun k v5 v7 wr => ∃ (i : Nat), i + k = c /\ v7 = .int .i64 (i : Int) /\ wr.ownsRow w.heap.size 3 1 v5 i (iv (loL nx i)) /\ Stay (fun k => k = gl) w wr /\ Row wr gl 79 [p0, p1, .int .i64 (nx + i)])
 case atStart => exact ⟨0, by omega, rfl, ⟨rfl, .inl ⟨rfl, rfl⟩⟩, Stay.refl _ _, by have := HR.out; rwa [show nx + ((0 : Nat) : Int) = nx by omega]⟩
 case round =>
  obtain ⟨i, hi, rfl, ho, hst, hro⟩ := hrel
  have HO := hidP ho
  have ST := hidP hst
  have RO := hidP hro
  obtain ⟨a5, p5, rfl⟩ := own_slice ho
  have hlt0 := hidP HR.out.lt
  clear ho hst hro
  by_cases hlt : i < c
  ·have l1 : (i : Int) < (c : Int) := by omega
   have HG := hidP (show iv (loL nx (i + 1)) = iv (loL nx i) ++ [.int .i64 (nx + i)] by rw [loL_succ, iv_app]; rfl)
   have hn1 : -9223372036854775808 <= nx + (i : Int) := by omega
   have hn2 : nx + (i : Int) <= 4611686018427388904 := by omega
   have HN := hidP (show nx + ((i + 1 : Nat) : Int) = (nx + i) + 1 by omega)
   have x2 := RO.out.cell 2
   have f2 := RO.out.fz 2
   simp only [List.getElem?_cons_zero, List.getElem?_cons_succ] at x2
   generalize hq : nx + (i : Int) = q at *
   clear h1 h2 hq
   have hz := hidP ST.out.size
   go_wp2_with (first | (refine bsliceU rfl 22 3 1 8 _ (.int .i64 q) (.tmp 13) rfl Tryz.underlying22 Tryz.info3I (by decide) (by decide) rfl [.int .i64 q] rfl rfl rfl ?_; intro w7 hR7 hB7 hz7; apply shut))
   show wpList _ _ _ _ _ _
   have hOW := hidP (own_sameR HO.out (fun q eq => hB7.block q (HO.out.lt q eq).2))
   have hSR := hidP (sou_row1 (c := 1) hR7)
   have R7 := hidP (RO.out.below hB7 RO.out.lt)
   have S7 := hidP (ST.out.trans (Stay.of_below hB7))
   have hz8 := hidP (Nat.le_trans hz.out hB7.size)
   clear hR7 hB7 hz7 HO ST RO x2 f2
   go_wp2_with (first | (refine wpl_appS (bz := 8) rfl (.tmp 9) (.tmp 14) rfl Tryz.underlying22 Tryz.info3I rfl (by decide) rfl rfl hOW.out hz8.out hSR.out rfl (ones_cons rfl ones_nil) (by omega) (by decide) ?_; intro v9 w9 ho9 hb9 hf9; apply shut))
   show wpList _ _ _ _ _ _
   have HO9 := hidP ho9
   have R9 := hidP (R7.out.below hb9 hlt0.out)
   have S9 := hidP (S7.out.step (stay_up hb9) (fun i hi hy => absurd hi (Nat.not_lt.2 hy)))
   have x2 := R9.out.cell 2
   simp only [List.getElem?_cons_zero, List.getElem?_cons_succ] at x2
   clear hOW hSR S7 R7 ho9 hb9 hf9
   go_wp2_with (first | (refine stC rfl 3 (.tmp 22) (.tmp 20) rfl (v := .int .i64 (q + 1)) rfl rfl R9.out (sv3 R9.out rfl _) ?_; intro w10 R10 S10; apply shut))
   show wpList _ _ _ _ _ _
   simp only [List.set_cons_zero, List.set_cons_succ] at R10
   have HO10 := hidP (own_sameR HO9.out (fun k eq => S10.block k (HO9.out.lt k eq).2 (fun e => by have h1 := (HO9.out.lt k eq).1; have : k = gl := e; have := hlt0.out; omega)))
   have ST10 := hidP (S9.out.trans S10)
   replace R10 := hidP R10
   clear R9 S9 HO9 S10 x2
   go_wp2_with fail
   go_roundg (gk - 1)
   case measure => omega
   case rel => exact ⟨i + 1, by omega, by go_num, by rw [HG.out]; exact HO10.out, ST10.out, by rw [HN.out]; exact R10.out⟩
  ·have e : i = c := by omega
   subst e
   clear hlt
   go_wp2_with fail
   go_ret
   exact ⟨_, rfl, ST.out, RO.out, HO.out⟩
theorem field69 (w : World) (v u : Value) : (Instr.field 69 (.agg #[v, u]) 0).run Tryz.prog w = .ok v w := by
 unfold Instr.field asAgg
 go_simp
theorem Tryz.info84Q : (Tryz.prog.info? 84).map (fun i => (i.zero, i.size, i.bytes)) = some (some (.agg z84.toArray), 5, 80) := by kernel_rfl
section
variable {Q : Nat -> Prop} {B : Nat} {w : World} {g b c : Nat} {L : List Sct}
set_option maxHeartbeats 8000000 in
set_option maxRecDepth 20000 in
theorem struct_yes (H : Scp Q B w g b c L) {x : Sct} (hx : x ∈ L) (hn : x.name.length <= 140737488355328) (hB : B <= 1048576) :
  Calls Tryz.prog 113 #[.pointer (some ⟨g, 0, none⟩), .string (str x.name)] w fun ev w' => ∃ cs, ev = .returned (.tuple #[.agg cs.toArray, .bool true]) /\ Below w.heap.size w w' /\ SctQ (Fr w w') B w' cs x := by
 have hA := alloc_one w (.cells z84.toArray 84)
 obtain ⟨cs, hq, hfind⟩ := find_yes (H.past hA) hx hn
 have FD := hidP hfind
 have HQ := hidP hq
 have HA := hidP hA
 have RT := hidP (Row.new w 84 z84)
 have HS := hidP (fun k (hk : Q k) => H.sub k hk)
 have SN := hidP (show ∀ k, Q k -> k < (w.alloc (.cells z84.toArray 84)).heap.size from (H.past hA).sub)
 obtain ⟨c0, c1, c2, c3, c4, rfl⟩ : ∃ c0 c1 c2 c3 c4, cs = [c0, c1, c2, c3, c4] := by
  match cs, hq.parts.1 with
  | [c0, c1, c2, c3, c4], _ => exact ⟨_, _, _, _, _, rfl⟩
 have O1 := hidP hq.parts.2
 clear H hx hn hA hfind hq
 generalize str x.name = SX at *
 go_enter Tryz.func113, Tryz.ntmps113
 unfold z84 at *
 go_wp2_with fail
 refine FD.out.mono ?_
 rintro _ w1 ⟨rfl, hb1⟩
 have R1 := hidP (RT.out.below hb1 RT.out.lt)
 have B1 := hidP (HA.out.trans (below_le hb1 HA.out.size))
 have Q1 := hidP (HQ.out.mono (⟨fun _ h => h, fun k hk => hb1.block k (SN.out k hk)⟩ : Kp Q Q _ w1))
 have RN := hidP (Row.new w1 84 z84)
 have BN := hidP (alloc_one w1 (.cells z84.toArray 84))
 unfold z84 at RN BN
 clear FD HA HQ RT SN hb1
 go_wp2_with (first | (refine stR rfl 84 (.tmp 6) (.tmp 12) rfl (cs := [c0, c1, c2, c3, c4]) rfl rfl RN.out Tryz.sz84 rfl O1.out ?_; intro w2 R2 S2; apply shut))
 show wpList _ _ _ _ _ _
 have B2 := hidP (BN.out.trans (S2.below (C := w1.heap.size) BN.out.size (fun q hq => Nat.le_of_eq hq.symm)))
 have R12 := hidP (R1.out.below B2.out R1.out.lt)
 replace R2 := hidP R2
 clear RN BN S2 R1
 go_wp2_with (first | (refine ldR rfl 84 (.tmp 6) rfl rfl R2.out Tryz.underlying84 rfl Tryz.sz84 ?_; apply shut))
 show wpList _ _ _ _ _ _
 go_wp2_with (first | (refine bsliceU rfl 66 84 5 80 _ (.agg #[c0, c1, c2, c3, c4]) (.tmp 17) rfl Tryz.underlying66 Tryz.info84Q (by decide) (by decide) rfl [c0, c1, c2, c3, c4] rfl rfl rfl ?_; intro w3 hR3 hB3 hz3; apply shut))
 show wpList _ _ _ _ _ _
 have R13 := hidP (R12.out.below hB3 R12.out.lt)
 have B3 := hidP (B1.out.trans (below_le (B2.out.trans (below_le hB3 B2.out.size)) B1.out.size))
 have Q3 := hidP (Q1.out.mono (⟨fun _ h => h, fun k hk => by
  have h1 := HS.out k hk
  rw [hB3.block k (Nat.lt_of_lt_of_le h1 (Nat.le_trans B1.out.size B2.out.size)), B2.out.block k (Nat.lt_of_lt_of_le h1 B1.out.size)]⟩ : Kp Q Q w1 w3))
 have hz2 := hidP (Nat.le_trans B1.out.size B2.out.size)
 have CP := hidP (copyOf_any (K := ⟨w3.heap.size, B, by omega⟩) (w := w3) (Nat.le_refl _) (Ls := [x]) (v0 := .slice (some ⟨w2.heap.size, 0, none⟩) 1 1) (a1 := none) (p1 := 0)
  ⟨some ⟨w2.heap.size, 0, none⟩, 1, rfl, Nat.le_refl _, by simp, fun i hi => ⟨w2.heap.size, 0, rfl, hz3, [c0, c1, c2, c3, c4], rfl, fun j hj => by
   have hi0 : i = 0 := by simpa using hi
   subst hi0
   have := hR3.cell j
   rw [show (0 : Nat) + 0 * 5 + j = j by omega]
   exact this, by
   have hi0 : i = 0 := by simpa using hi
   subst hi0
   exact Q3.out.to (K := ⟨w3.heap.size, B, by omega⟩) (fun k hk => by have h1 := HS.out k hk; have := hB3.size; have := hz2.out; show k < w3.heap.size; omega)⟩⟩)
 clear R2 R12 Q1 Q3 hR3 hB3 hz3 B1 B2
 go_wp2_with fail
 refine CP.out.mono ?_
 rintro _ w4 ⟨u0, rfl, hb4, hA4⟩
 have B4 := hidP (B3.out.trans (below_le hb4 B3.out.size))
 have R4 := hidP (R13.out.below hb4 R13.out.lt)
 obtain ⟨ao, cp, e0, _, _, hE⟩ := hA4.arQ.shape
 subst e0
 obtain ⟨b5, o5, rfl, hF5, ds, hl5, hc5, hq5⟩ := hE 0 (by simp)
 have RG := hidP (show w4.rangeAt b5 o5 ds from fun j u hj => by
  have := hc5 j (by rcases Nat.lt_or_ge j 5 with h | h; exact h; rw [List.getElem?_eq_none (by omega)] at hj; cases hj)
  rw [show o5 + 0 * 5 + j = o5 + j by omega] at this
  rw [this, hj])
 have Q5 := hidP (show SctQ (Fr w3 w4) B w4 ds x from hq5)
 have hz5 := hidP R13.out.lt
 obtain ⟨d0, d1, d2, d3, d4, rfl⟩ : ∃ c0 c1 c2 c3 c4, ds = [c0, c1, c2, c3, c4] := by
  match ds, hl5 with
  | [c0, c1, c2, c3, c4], _ => exact ⟨_, _, _, _, _, rfl⟩
 have O5 := hidP Q5.out.parts.2
 clear CP B3 R13 hb4 hA4 hE hF5 hl5 hc5 hq5
 simp only [List.length_singleton]
 have f69 := field69 w4 (.slice (some ⟨b5, o5, none⟩) 1 cp) (.slice none 0 0)
 go_wp2_with (first | (refine wpList_load_mid rfl 84 (.tmp 22) rfl b5 o5 rfl [d0, d1, d2, d3, d4] _ RG.out Tryz.underlying84 rfl Tryz.sz84 ?_) | (refine stR rfl 84 (.tmp 4) (.tmp 23) rfl (cs := [d0, d1, d2, d3, d4]) rfl rfl R4.out Tryz.sz84 rfl O5.out ?_; intro w6 R6 S6; apply shut))
 show wpList _ _ _ _ _ _
 have B6 := hidP (B4.out.trans (S6.below (C := w.heap.size) B4.out.size (fun q hq => Nat.le_of_eq hq.symm)))
 have Q6 := hidP (show SctQ (Fr w w6) B w6 [d0, d1, d2, d3, d4] x from Q5.out.mono ⟨fun k hk => ⟨by have := hk.1; have := hz5.out; omega, Nat.lt_of_lt_of_le hk.2 S6.size⟩, fun k hk => S6.block k hk.2 (fun e => by have := hk.1; have := hz5.out; have : k = w.heap.size := e; omega)⟩)
 replace R6 := hidP R6
 clear R4 B4 S6
 go_wp2_with fail
 exact bodyPost_ret (v := .tuple #[.agg #[d0, d1, d2, d3, d4], .bool true]) (results_cell_row2 Tryz.results113 _ _ w.heap.size 84 _ (0, 0) _ rfl R6.out.heap Tryz.underlying84 rfl (by kernel_rfl)) rfl ⟨_, rfl, B6.out, Q6.out⟩
end
end Go.Proofs.YtldbbkheemnnhaaGreatDoor

namespace Go.Proofs.YtldbbkheemnnhaaGreatDoor
open Go.RowKit Go.Maps
def livN (L : List Sct) (n : Bs) : Nat := match L.find? (fun x => x.name == n) with
 | some x => x.lives.length
 | none => 0
def liftN (L : List Sct) (lives : List Bs) : Nat -> Ty -> Int -> RTy × Int
 | 0, t, nx => (⟨t.kind, t.name, [], []⟩, nx)
 | n + 1, t, nx =>
  if t.kind = 3 then (if t.lives = [] then (⟨t.kind, t.name, loL nx (livN L t.name), []⟩, nx + (livN L t.name : Int)) else (⟨t.kind, t.name, t.lives.map (numL lives), []⟩, nx))
  else if t.kind = 4 ∨ t.kind = 5 then
   match t.elem with
   | [] => (⟨t.kind, t.name, if t.lives = [] then [nx] else (t.lives.take 1).map (numL lives), []⟩, if t.lives = [] then nx + 1 else nx)
   | e :: _ => (⟨t.kind, t.name, if t.lives = [] then [nx] else (t.lives.take 1).map (numL lives), [(liftN L lives n e (if t.lives = [] then nx + 1 else nx)).1]⟩, (liftN L lives n e (if t.lives = [] then nx + 1 else nx)).2)
  else (⟨t.kind, t.name, [], []⟩, nx)
def FitT : Nat -> Ty -> Prop
 | 0, _ => False
 | n + 1, t => t.lives.length <= 1000 /\ ∀ e, t.elem.head? = some e -> FitT n e
structure Lif (Q : Nat -> Prop) (B : Nat) (w : World) (gl gs b c gm : Nat) (L : List Sct) (lives : List Bs) (nx : Int) : Prop where
 row : Row w gl 79 [.pointer (some ⟨gs, 0, none⟩), .map (some gm), .int .i64 nx]
 mp : Mp w gm (plK [] 0 lives)
 scp : Scp Q B w gs b c L
 a1 : gs < gl
 a2 : b < gl
 a3 : ∀ k, Q k -> k < gl
 a4 : gm < gl
section
variable {Q : Nat -> Prop} {B : Nat} {w w' : World} {gl gs b c gm : Nat} {L : List Sct} {lives : List Bs} {nx nx' : Int}
theorem Lif.next (h : Lif Q B w gl gs b c gm L lives nx) (hs : Stay (fun k => k = gl) w w') (hr : Row w' gl 79 [.pointer (some ⟨gs, 0, none⟩), .map (some gm), .int .i64 nx']) : Lif Q B w' gl gs b c gm L lives nx' :=
 ⟨hr, h.mp.stay hs (fun e => by have := h.a4; have : gm = gl := e; omega), h.scp.stay hs (fun e => by have := h.a1; have : gs = gl := e; omega) (fun e => by have := h.a2; have : b = gl := e; omega) (fun k hk e => by have := h.a3 k hk; have : k = gl := e; omega), h.a1, h.a2, h.a3, h.a4⟩
theorem Lif.stay (h : Lif Q B w gl gs b c gm L lives nx) {X : Nat -> Prop} (hs : Stay X w w') (hX : ∀ k, X k -> gl < k) : Lif Q B w' gl gs b c gm L lives nx :=
 ⟨hs.row h.row (fun e => by have := hX _ e; omega), h.mp.stay hs (fun e => by have := h.a4; have := hX _ e; omega), h.scp.stay hs (fun e => by have := h.a1; have := hX _ e; omega) (fun e => by have := h.a2; have := hX _ e; omega) (fun k hk e => by have := h.a3 k hk; have := hX _ e; omega), h.a1, h.a2, h.a3, h.a4⟩
theorem Lif.past (h : Lif Q B w gl gs b c gm L lives nx) (hb : Below w.heap.size w w') : Lif Q B w' gl gs b c gm L lives nx := h.stay (X := fun _ => False) (Stay.of_below hb) (fun _ h => h.elim)
theorem own_gro {w0 : World} {v : Value} {l : List Int} (h : w.ownsRow w0.heap.size 3 1 v l.length (iv l)) : Gro 1 3 PNm w0 w v l := ⟨ivs l, ivs_cel l, by rw [ivs_flat]; exact h⟩
set_option maxHeartbeats 8000000 in
set_option maxRecDepth 20000 in
theorem struct_no (H : Scp Q B w gs b c L) {n : Bs} (hx : n ∉ L.map (·.name)) (hn : n.length <= 140737488355328) :
  Calls Tryz.prog 113 #[.pointer (some ⟨gs, 0, none⟩), .string (str n)] w fun ev w' => ev = .returned (.tuple #[.agg z84.toArray, .bool false]) /\ Below w.heap.size w w' := by
 have hA := alloc_one w (.cells z84.toArray 84)
 have FD := hidP (find_no (H.past hA) hx hn)
 have HA := hidP hA
 have RT := hidP (Row.new w 84 z84)
 clear H hx hn hA
 generalize str n = SX at *
 go_enter Tryz.func113, Tryz.ntmps113
 unfold z84 at *
 go_wp2_with fail
 refine FD.out.mono ?_
 rintro _ w1 ⟨rfl, hb1⟩
 have R1 := hidP (RT.out.below hb1 RT.out.lt)
 have B1 := hidP (HA.out.trans (below_le hb1 HA.out.size))
 have RN := hidP (Row.new w1 84 z84)
 have BN := hidP (alloc_one w1 (.cells z84.toArray 84))
 unfold z84 at RN BN
 clear FD HA RT hb1
 go_wp2_with (first | (refine stR rfl 84 (.tmp 6) (.tmp 12) rfl (cs := [.bool false, .string ⟨#[]⟩, .slice none 0 0, .slice none 0 0, .int .i64 0]) rfl rfl RN.out Tryz.sz84 rfl (ones_cons rfl (ones_cons rfl (ones_cons rfl (ones_cons rfl (ones_cons rfl ones_nil))))) ?_; intro w2 R2 S2; apply shut))
 show wpList _ _ _ _ _ _
 have B2 := hidP (BN.out.trans (S2.below (C := w1.heap.size) BN.out.size (fun q hq => Nat.le_of_eq hq.symm)))
 have R12 := hidP (R1.out.below B2.out R1.out.lt)
 clear RN BN S2 R1 R2
 go_wp2_with (first | (refine stR rfl 84 (.tmp 4) (.tmp 16) rfl (cs := [.bool false, .string ⟨#[]⟩, .slice none 0 0, .slice none 0 0, .int .i64 0]) rfl rfl R12.out Tryz.sz84 rfl (ones_cons rfl (ones_cons rfl (ones_cons rfl (ones_cons rfl (ones_cons rfl ones_nil))))) ?_; intro w3 R3 S3; apply shut))
 show wpList _ _ _ _ _ _
 have B3 := hidP ((B1.out.trans (below_le B2.out B1.out.size)).trans (S3.below (C := w.heap.size) (Nat.le_trans B1.out.size B2.out.size) (fun q hq => Nat.le_of_eq hq.symm)))
 replace R3 := hidP R3
 clear B1 B2 R12 S3
 go_wp2_with fail
 exact bodyPost_ret (v := .tuple #[.agg #[.bool false, .string ⟨#[]⟩, .slice none 0 0, .slice none 0 0, .int .i64 0], .bool false]) (results_cell_row2 Tryz.results113 _ _ w.heap.size 84 _ (0, 0) _ rfl R3.out.heap Tryz.underlying84 rfl (by kernel_rfl)) rfl ⟨rfl, B3.out⟩
set_option maxHeartbeats 8000000 in
set_option maxRecDepth 20000 in
theorem livesOf72 (h : Lif Q B w gl gs b c gm L lives nx) {n : Bs} (hn : n.length <= 140737488355328) (hB : B <= 1048576) :
  Calls Tryz.prog 72 #[.pointer (some ⟨gl, 0, none⟩), .string (str n)] w fun ev w' => ev = .returned (.int .i64 (livN L n : Int)) /\ Below w.heap.size w w' := by
 have x0 := h.row.cell 0
 simp only [List.getElem?_cons_zero] at x0
 have STR : Calls Tryz.prog 113 #[.pointer (some ⟨gs, 0, none⟩), .string (str n)] w fun ev w' => ∃ (c0 c1 c3 c4 : Value) (ao : Option Addr) (cp : Nat) (is : Bool), ev = .returned (.tuple #[.agg #[c0, c1, .slice ao (livN L n) cp, c3, c4], .bool is]) /\ Below w.heap.size w w' /\ ∀ u ∈ [c0, c1, .slice ao (livN L n) cp, c3, c4], u.oneCell' = true := by
  rcases hf : L.find? (fun x => x.name == n) with _ | x
  ·have hl : livN L n = 0 := by unfold livN; rw [hf]
   rw [hl]
   refine (struct_no h.scp (n := n) (fun hm => ?_) hn).mono ?_
   ·obtain ⟨y, hy, e⟩ := List.mem_map.1 hm
    have := List.find?_eq_none.1 hf y hy
    simp at this
    exact this e
   ·rintro _ w1 ⟨rfl, hb⟩
    exact ⟨.bool false, .string ⟨#[]⟩, .slice none 0 0, .int .i64 0, none, 0, false, rfl, hb, ones_cons rfl (ones_cons rfl (ones_cons rfl (ones_cons rfl (ones_cons rfl ones_nil))))⟩
  ·have hl : livN L n = x.lives.length := by unfold livN; rw [hf]
   rw [hl]
   have hx := List.mem_of_find?_eq_some hf
   have hxn : x.name = n := by have := List.find?_some hf; simpa using this
   rw [← hxn]
   refine (struct_yes h.scp hx (by rw [hxn]; exact hn) hB).mono ?_
   rintro _ w1 ⟨cs, rfl, hb, hq⟩
   have ho := hq.parts.2
   obtain ⟨v2, v3, rfl, _, h2, _⟩ := hq
   obtain ⟨ao, cp, rfl⟩ := ArQ.form h2
   exact ⟨_, _, _, _, ao, cp, true, rfl, hb, ho⟩
 have ST := hidP STR
 clear STR h hn hB
 generalize str n = SX at *
 generalize livN L n = k at *
 go_enter Tryz.func72, Tryz.ntmps72
 go_wp2_with fail
 refine ST.out.mono ?_
 rintro _ w1 ⟨c0, c1, c3, c4, ao, cp, is, rfl, hb1, ho⟩
 have RN := hidP (Row.new w1 84 z84)
 have BN := hidP (alloc_one w1 (.cells z84.toArray 84))
 unfold z84 at RN BN
 have B1 := hidP hb1
 have O1 := hidP ho
 clear ST hb1 ho x0
 go_wp2_with (first | (refine stR rfl 84 (.tmp 5) (.tmp 14) rfl (cs := [c0, c1, .slice ao k cp, c3, c4]) rfl rfl RN.out Tryz.sz84 rfl O1.out ?_; intro w2 R2 S2; apply shut))
 show wpList _ _ _ _ _ _
 have B2 := hidP (B1.out.trans (below_le (BN.out.trans (S2.below (C := w1.heap.size) BN.out.size (fun q hq => Nat.le_of_eq hq.symm))) B1.out.size))
 have x2 := R2.cell 2
 simp only [List.getElem?_cons_zero, List.getElem?_cons_succ] at x2
 clear RN BN S2 R2 B1
 go_wp2_with fail
 go_ret
 exact ⟨rfl, B2.out⟩
end
end Go.Proofs.YtldbbkheemnnhaaGreatDoor
