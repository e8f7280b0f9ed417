/-
  The document's parser: crates of structs alone.
-/
import Derived.Test.YtldbbkheemnnhaaGreatDoorQpPs8
import Derived.Test.YtldbbkheemnnhaaGreatDoorQpLxx
import Derived.Laws.ResultCell
namespace Go.Proofs.YtldbbkheemnnhaaGreatDoor
open Go.RowKit
def itemsL (T : List Tok) : Nat -> List Sct -> Ps -> Option (List Sct × Ps)
 | 0, _, _ => none
 | f + 1, out, s =>
  if s.code = 0 then
   if kindF T 0 s = true then some (out, s)
   else if 256 <= out.length then none
   else
    if (optF T [115, 116, 114, 117, 99, 116] (optF T [112, 117, 98] { s with item := -1 }).2).1 = true then
     itemsL T f (out ++ [(structF T (optF T [112, 117, 98] { s with item := -1 }).1 (tk T (optF T [112, 117, 98] { s with item := -1 }).2.i).place { (optF T [115, 116, 114, 117, 99, 116] (optF T [112, 117, 98] { s with item := -1 }).2).2 with item := (tk T (optF T [112, 117, 98] { s with item := -1 }).2.i).place }).1])
      (structF T (optF T [112, 117, 98] { s with item := -1 }).1 (tk T (optF T [112, 117, 98] { s with item := -1 }).2.i).place { (optF T [115, 116, 114, 117, 99, 116] (optF T [112, 117, 98] { s with item := -1 }).2).2 with item := (tk T (optF T [112, 117, 98] { s with item := -1 }).2.i).place }).2
    else none
  else none
theorem itemsL_parts {T : List Tok} {f : Nat} {out L : List Sct} {s sE : Ps} (h : itemsL T f out s = some (L, sE)) : s.code = 0 /\ ∃ f', f = f' + 1 /\ ((kindF T 0 s = true /\ L = out /\ sE = s) ∨ (kindF T 0 s = false /\ out.length < 256 /\
  ∃ p k, p = optF T [112, 117, 98] { s with item := -1 } /\ k = optF T [115, 116, 114, 117, 99, 116] p.2 /\ k.1 = true /\
   itemsL T f' (out ++ [(structF T p.1 (tk T p.2.i).place { k.2 with item := (tk T p.2.i).place }).1]) (structF T p.1 (tk T p.2.i).place { k.2 with item := (tk T p.2.i).place }).2 = some (L, sE))) := by
 cases f with
 | zero => cases h
 | succ f =>
  rw [itemsL] at h
  by_cases hc : s.code = 0
  ·rw [if_pos hc] at h
   refine ⟨hc, f, rfl, ?_⟩
   by_cases hk : kindF T 0 s = true
   ·rw [if_pos hk] at h
    cases h
    exact .inl ⟨hk, rfl, rfl⟩
   ·rw [if_neg hk] at h
    by_cases hl : 256 <= out.length
    ·rw [if_pos hl] at h; cases h
    ·rw [if_neg hl] at h
     refine .inr ⟨by simpa using hk, by omega, _, _, rfl, rfl, ?_⟩
     by_cases hs : (optF T [115, 116, 114, 117, 99, 116] (optF T [112, 117, 98] { s with item := -1 }).2).1 = true
     ·rw [if_pos hs] at h
      exact ⟨hs, h⟩
     ·rw [if_neg hs] at h; cases h
  ·rw [if_neg hc] at h; cases h
theorem Stay.wide {X Y : Nat -> Prop} {a b : World} (h : Stay X a b) (hX : ∀ k, X k -> Y k) : Stay Y a b := ⟨h.os, h.tape, h.output, h.size, fun k hk hn => h.block k hk (fun hx => hn (hX k hx))⟩
theorem PAt.rw {T : List Tok} {tb cap g : Nat} {w w' : World} {s s' : Ps} (h : PAt T tb cap g w s) (hs : Stay (fun k => k = g) w w') (hr : Row w' g 104 [.slice (some ⟨tb, 0, none⟩) T.length cap, .int .i64 (s'.i : Int), .int .i64 (s'.code : Int), .int .i64 (s'.pos : Int), .int .i64 s'.item, .int .i64 (s'.st : Int)]) (hi : s'.i < T.length) (hc : s'.code <= 100) (hst : s'.st <= 3000) : PAt T tb cap g w' s' :=
 ⟨hr, fun j u hj => by
  have := h.toks j u hj
  rw [World.cell?_of_block (a := ⟨tb, 0 + j, none⟩) (hs.block tb h.tlt h.ne)]; exact this, h.ne, hi, h.ok, hc, hst⟩
theorem results_cell_row4 {P : Program} {fn : Func} {p u v x : Tmp} {ty : TypeId} (h : fn.results = #[.cell p ty, .tmp u, .tmp v, .tmp x]) (tmps : Array Value) (w : World) (g : Nat) (t : TypeId) (cs : Array Value) (fr : Nat × Nat) (d : TypeDesc)
  (hp : tmps.getD p undef = .pointer (some ⟨g, 0, none⟩)) (hg : w.heap[g]? = some (.cells cs t fr))
  (hu : P.underlying ty = some d) (hd : (match d with | .struct _ | .array _ _ => true | _ => false) = true) (hi : (P.info? ty).map (·.size) = some cs.size) :
  (results fn tmps).run P w = .ok (.tuple #[.agg cs, tmps.getD u undef, tmps.getD v undef, tmps.getD x undef]) w := by
 have e : (results fn tmps).run P w = ((asAddr (tmps.getD p undef)).run P w).andThen fun a w₁ => ((loadVar ty a).run P w₁).andThen fun z w₂ => .ok (.tuple #[z, tmps.getD u undef, tmps.getD v undef, tmps.getD x undef]) w₂ := by
  simp only [results, h]
  simp [Sem.run_bind, Result.andThen]
 rw [e, hp]
 simp [asAddr, run_loadVar_row w g t ty cs fr d hg hu hd hi]
def PSc (Q : Nat -> Prop) (w : World) (cs : List Value) (x : Sct) : Prop := SctQ Q 100 w cs x
theorem moSc : Mo PSc := ⟨fun h hk => SctQ.mono h hk⟩
theorem Tryz.sz69 : (Tryz.prog.info? 69).map (·.size) = some 2 := by kernel_rfl
theorem Tryz.info84S : (Tryz.prog.info? 84).map (fun i => (i.zero, i.size, i.bytes)) = some (some (.agg [Value.bool false, .string ⟨#[]⟩, .slice none 0 0, .slice none 0 0, .int .i64 0].toArray), 5, 80) := by kernel_rfl
theorem sv66 {g t : Nat} {w : World} {j : Nat} {L : List Value} {u : Value} (r : Row w g t L) (hj : L[j]? = some u) (ao : Option Addr) (n c : Nat) : (storeVar 66 ⟨g, j, none⟩ (.slice ao n c)).run Tryz.prog w = .ok () (w.setCell ⟨g, j, none⟩ (.slice ao n c)) := by
 have c0 := r.cell j
 have f0 := r.fz j
 rw [hj] at c0
 go_simp
theorem PSt.setItem {T : List Tok} {tb cap g : Nat} {w w1 w2 : World} {s : Ps} (h : PSt T tb cap g w w1 s) (x : Int) (hs : Stay (fun k => k = g) w1 w2) (hr : Row w2 g 104 [.slice (some ⟨tb, 0, none⟩) T.length cap, .int .i64 (s.i : Int), .int .i64 (s.code : Int), .int .i64 (s.pos : Int), .int .i64 x, .int .i64 (s.st : Int)]) : PSt T tb cap g w w2 { s with item := x } :=
 ⟨h.1.rw hs hr h.1.lt h.1.cs h.1.ss, h.2.trans hs⟩
abbrev N2 : List Value := [.slice none 0 0, .slice none 0 0]
set_option maxHeartbeats 16000000 in
set_option maxRecDepth 20000 in
theorem crate_any {l : Bs} (hl : l.length <= 1048576) {T : List Tok} (hT : lexF l = (T, none)) (hok : TokOk T) (hT0 : 0 < T.length) {L : List Sct} {sE : Ps} (hL : itemsL T 300 [] ⟨0, 0, 0, -1, 0⟩ = some (L, sE)) (w : World) :
  Calls Tryz.prog 39 #[.string (str l)] w fun ev w' => ∃ u0, ev = .returned (.tuple #[.agg #[u0, .slice none 0 0], .int .i64 0, .int .i64 0, .int .i64 (-1)]) /\ Below w.heap.size w w' /\ ArQ 5 80 (SctQ (Fr w w') 100 w') (Fr w w') w' u0 L := by
 have hA := alloc_one w (.cells #[.slice none 0 0, .slice none 0 0] 69)
 have r0 : Hid (Row (w.alloc (.cells #[.slice none 0 0, .slice none 0 0] 69)) w.heap.size 69 N2) := Row.new w 69 N2
 have sz0 : Hid ((w.alloc (.cells #[.slice none 0 0, .slice none 0 0] 69)).heap.size = w.heap.size + 1) := size_alloc _ _
 have LX := hidP (xlex_any l hl (w.alloc (.cells #[.slice none 0 0, .slice none 0 0] 69)))
 rw [hT] at LX
 replace hL := hidP hL
 replace hA := hidP hA
 generalize str l = SL at *
 clear hT
 go_enter Tryz.func39, Tryz.ntmps39
 go_wp2_with fail
 refine LX.out.mono ?_
 rintro _ w1 ⟨v, c, p, rfl, ho, hb⟩
 obtain ⟨rfl, rfl, tb, cap, rfl, hTs⟩ : c = 0 /\ p = 0 /\ ∃ tb cap, v = .slice (some ⟨tb, 0, none⟩) T.length cap /\ w1.rangeAt tb 0 (tvs T) := by
  rcases ho with ⟨T', e, hc, hp, ts⟩ | ⟨T', q, e, _⟩
  ·cases e
   rcases ts.shape with ⟨cap, _, e⟩ | ⟨b, cap, e, _, h⟩
   ·rw [e] at hT0; exact absurd hT0 (by simp)
   ·exact ⟨hc, hp, b, cap, e, h⟩
  ·cases e
 clear ho LX
 have hb1 : Below w.heap.size w w1 := hA.out.trans (hb.mono (by have := sz0.out; omega))
 have r1 := hidP (r0.out.below hb r0.out.lt)
 have sz1 : w.heap.size + 1 <= w1.heap.size := by have := hb.size; have := sz0.out; omega
 obtain ⟨W1, hW1⟩ : ∃ W1, W1 = (w1.alloc (.cells #[.slice (some ⟨tb, 0, none⟩) T.length cap, .int .i64 0, .int .i64 0, .int .i64 0, .int .i64 (-1), .int .i64 0] 104)).alloc (.cells #[.slice none 0 0, .slice none 0 0] 69) := ⟨_, rfl⟩
 have hB2 : Below w1.heap.size w1 W1 := by rw [hW1]; exact alloc_two w1 _ _
 have szW : W1.heap.size = w1.heap.size + 2 := by rw [hW1, size_alloc, size_alloc]
 have rP : Row W1 w1.heap.size 104 [.slice (some ⟨tb, 0, none⟩) T.length cap, .int .i64 0, .int .i64 0, .int .i64 0, .int .i64 (-1), .int .i64 0] := by rw [hW1]; exact (Row.new w1 104 [.slice (some ⟨tb, 0, none⟩) T.length cap, .int .i64 0, .int .i64 0, .int .i64 0, .int .i64 (-1), .int .i64 0]).alloc _
 have rC : Hid (Row W1 (w1.heap.size + 1) 69 N2) := by
  have := Row.new (w1.alloc (.cells #[.slice (some ⟨tb, 0, none⟩) T.length cap, .int .i64 0, .int .i64 0, .int .i64 0, .int .i64 (-1), .int .i64 0] 104)) 69 N2
  rw [size_alloc] at this; rw [hW1]; exact this
 have htb : tb < w1.heap.size := by
  have h0 := hTs 0 (.int .i64 ((tk T 0).kind : Int)) (by
   have := tvs_get T 0 0 (by decide)
   rw [Nat.zero_mul, Nat.zero_add, tk_at hT0] at this
   rw [this]; rfl)
  exact World.block_lt_of_cell? w1 _ h0
 obtain ⟨WP, hWP⟩ : ∃ WP, WP = w1.alloc (.cells #[.slice (some ⟨tb, 0, none⟩) T.length cap, .int .i64 0, .int .i64 0, .int .i64 0, .int .i64 (-1), .int .i64 0] 104) := ⟨_, rfl⟩
 have szP : WP.heap.size = w1.heap.size + 1 := by rw [hWP, size_alloc]
 have bWP : Below WP.heap.size WP W1 := by rw [hW1, ← hWP]; exact alloc_one WP _
 have hg : w1.heap.size < WP.heap.size := by omega
 have htb2 : tb < WP.heap.size := by omega
 have z1 : Hid (PSt T tb cap w1.heap.size WP W1 ⟨0, 0, 0, -1, 0⟩) := ⟨⟨rP, range_below hTs hB2, by omega, hT0, hok, by decide, by decide⟩, Stay.of_below bWP⟩
 replace r1 := hidP (r1.out.below hB2 r1.out.lt)
 have HW1 := hidP hW1
 have hbP : Hid (Below w.heap.size w WP) := by
  rw [hWP]; exact hb1.trans ((alloc_one w1 _).mono (by omega))
 replace sz1 := hidP sz1
 replace szW := hidP szW
 replace hok := hidP hok
 clear r0 sz0 hA hb hb1 hB2 rP hTs hW1 hT0 hl hWP bWP
 replace szP := hidP szP
 go_wp2_with fail
 rw [← HW1.out]
 clear HW1
 go_loopw [38] (fun _ wr => ∃ (f : Nat) (out : List Sct) (s : Ps) (v : Value), Row wr (w1.heap.size + 1) 69 [v, .slice none 0 0] /\ Row wr w.heap.size 69 N2 /\ Gro 5 84 PSc W1 wr v out /\ PSt T tb cap w1.heap.size WP wr s /\ W1.heap.size <= wr.heap.size /\ itemsL T f out s = some (L, sE) /\ f + out.length = 300 /\ out.length <= 256) (fun _ wr => 300 - lenV ((wr.cell? ⟨w1.heap.size + 1, 0, none⟩).getD undef))
 case atStart => exact ⟨300, [], _, _, rC.out, r1.out, Gro.nil, z1.out, Nat.le_refl _, hL.out, rfl, by simp⟩
 case round =>
  clear rC r1 z1 hL
  obtain ⟨f, out, s, v, hs, hr, hG, hp, hsz, he, hf, ho⟩ := hrel
  obtain ⟨ao, cp, rfl⟩ := hG.form
  have hm0 : Hid (wr.cell? ⟨w1.heap.size + 1, 0, none⟩ = some (.slice ao out.length cp)) := hs.cell 0
  obtain ⟨hc0, f', rfl, hcase⟩ := itemsL_parts he
  have q0 : ((s.code : Int) == 0) = true := by rw [hc0]; rfl
  have q1 : ((s.code : Int) != 0) = false := by rw [hc0]; rfl
  have x2 := hp.1.row.cell 2
  have K0 := hidP (kind_any hp.1 0)
  simp only [List.getElem?_cons_zero, List.getElem?_cons_succ] at x2
  replace hs := hidP hs
  replace hr := hidP hr
  replace hG := hidP hG
  replace hp := hidP hp
  replace hcase := hidP hcase
  replace hc0 := hidP hc0
  have s1 := sz1.out
  have s2 := szW.out
  have s3 := szP.out
  clear he
  cases hk : kindF T 0 s with
  | true =>
   rw [hk] at K0
   have hLo : L = out := by
    rcases hcase.out with h | h
    ·exact h.2.1
    ·rw [hk] at h; cases h.1
   subst hLo
   clear hcase hk
   generalize hco : s.code = co at q0 q1 x2
   have HCO := hidP hco
   clear hco
   go_wp2_with fail
   refine K0.out.mono ?_
   rintro _ wA ⟨rfl, hbA⟩
   have sA := hidP (hs.out.below hbA hs.out.lt)
   have rA := hidP (hr.out.below hbA hr.out.lt)
   have gA := hidP (hG.out.past moSc hbA)
   have zA := hidP (hp.out.low hg htb2 (below_le hbA (by omega)))
   have szA := hidP (Nat.le_trans hsz hbA.size)
   have x2 := zA.out.1.row.cell 2
   simp only [List.getElem?_cons_zero, List.getElem?_cons_succ] at x2
   rw [HCO.out] at x2
   clear K0 hs hr hG hp hbA HCO hsz hc0
   go_wp2_with (first | (refine ldR rfl 69 (.tmp 10) rfl rfl sA.out Tryz.underlying69 rfl Tryz.sz69 ?_; apply shut))
   show wpList _ _ _ _ _ _
   refine stR rfl 69 (.tmp 2) (.tmp 115) rfl (cs := [.slice ao L.length cp, .slice none 0 0]) rfl rfl rA.out Tryz.sz69 rfl (by intro u hu; simp only [List.mem_cons, List.not_mem_nil, or_false] at hu; rcases hu with rfl | rfl <;> rfl) ?_
   intro wF FN stN
   have HG := hidP (gA.out.stay moSc stN (fun k e => by omega))
   have HB := hidP (hbP.out.trans (zA.out.2.below (C := w.heap.size) (by omega) (fun q hq => by omega)) : Below w.heap.size w wA)
   replace FN := hidP FN
   clear zA rA sA gA x2
   go_wp2_with fail
   exact bodyPost_ret (v := .tuple #[.agg #[.slice ao L.length cp, .slice none 0 0], .int .i64 0, .int .i64 0, .int .i64 (-1)]) (results_cell_row4 Tryz.results39 _ _ w.heap.size 69 _ (0, 0) _ rfl FN.out.heap Tryz.underlying69 rfl (by kernel_rfl)) rfl ⟨_, rfl, HB.out.trans ((stN.below (C := w.heap.size) (by have := szA.out; omega) (fun q hq => by omega))), (HG.out.done (bz := 80) moSc (by omega)).mono (⟨fun b hb => ⟨by have := hb.1; omega, hb.2⟩, fun _ _ => rfl⟩) (fun _ _ _ h => SctQ.mono h ⟨fun b hb => ⟨by have := hb.1; omega, hb.2⟩, fun _ _ => rfl⟩)⟩
  | false =>
   obtain ⟨hlt, p, k, hp_, hk_, hk1, he⟩ : out.length < 256 /\ ∃ p k, p = optF T [112, 117, 98] { s with item := -1 } /\ k = optF T [115, 116, 114, 117, 99, 116] p.2 /\ k.1 = true /\ itemsL T f' (out ++ [(structF T p.1 (tk T p.2.i).place { k.2 with item := (tk T p.2.i).place }).1]) (structF T p.1 (tk T p.2.i).place { k.2 with item := (tk T p.2.i).place }).2 = some (L, sE) := by
    rcases hcase.out with h | h
    ·rw [hk] at h; cases h.1
    ·exact h.2
   rw [hk] at K0
   have O1 : Hid (∀ y, PSt T tb cap w1.heap.size WP y { s with item := -1 } -> Calls Tryz.prog 58 #[.pointer (some ⟨w1.heap.size, 0, none⟩), .string ⟨#[112, 117, 98]⟩] y fun ev w' => ev = .returned (.bool p.1) /\ PSt T tb cap w1.heap.size y w' p.2) := fun y hy => by rw [hp_]; exact opt_any hy.1 [112, 117, 98]
   have O2 : Hid (∀ y, PSt T tb cap w1.heap.size WP y p.2 -> Calls Tryz.prog 58 #[.pointer (some ⟨w1.heap.size, 0, none⟩), .string ⟨#[115, 116, 114, 117, 99, 116]⟩] y fun ev w' => ev = .returned (.bool true) /\ PSt T tb cap w1.heap.size y w' k.2) := fun y hy => by rw [← hk1, hk_]; exact opt_any hy.1 [115, 116, 114, 117, 99, 116]
   have O3 : Hid (∀ y, PSt T tb cap w1.heap.size WP y { k.2 with item := (tk T p.2.i).place } -> Calls Tryz.prog 59 #[.pointer (some ⟨w1.heap.size, 0, none⟩), .bool p.1, .int .i64 ((tk T p.2.i).place : Int)] y fun ev w' => ∃ c : List Value, ev = .returned (.agg c.toArray) /\ PSt T tb cap w1.heap.size y w' (structF T p.1 (tk T p.2.i).place { k.2 with item := (tk T p.2.i).place }).2 /\ SctQ (Fr y w') 100 w' c (structF T p.1 (tk T p.2.i).place { k.2 with item := (tk T p.2.i).place }).1) := fun y hy => structs_any hy.1 p.1 _
   have HE := hidP he
   clear hcase hk hp_ hk_ hk1 he
   obtain ⟨p1, p2⟩ := p
   obtain ⟨k1, k2⟩ := k
   simp only at O1 O2 O3 HE
   have HP2 := hidP (fun (y : World) (h : PSt T tb cap w1.heap.size WP y p2) => h.1.tok)
   generalize (tk T p2.i).place = pl at *
   generalize structF T p1 pl { k2 with item := (pl : Int) } = st at *
   obtain ⟨sct, s9⟩ := st
   simp only at O3 HE
   generalize hco : s.code = co at q0 q1 x2
   clear hco
   go_wp2_with fail
   refine K0.out.mono ?_
   rintro _ wA ⟨rfl, hbA⟩
   have sA := hidP (hs.out.below hbA hs.out.lt)
   have rA := hidP (hr.out.below hbA hr.out.lt)
   have gA := hidP (hG.out.past moSc hbA)
   have zA := hidP (hp.out.low hg htb2 (below_le hbA (by omega)))
   have szA := hidP (Nat.le_trans hsz hbA.size)
   clear K0 hs hr hG hp hbA hsz hc0 x2 q0 q1
   go_wp2_with (first | (refine stC (v := .int .i64 (-1)) rfl 3 (.tmp 39) (.const (.int .i64 (-1))) rfl rfl rfl zA.out.1.row (sv3 zA.out.1.row rfl _) ?_; intro wB lB stB; apply shut))
   show wpList _ _ _ _ _ _
   simp only [List.set_cons_zero, List.set_cons_succ] at lB
   have zB := hidP (zA.out.setItem (-1) stB lB)
   have sB := hidP (stB.row sA.out (by omega))
   have rB := hidP (stB.row rA.out (by omega))
   have gB := hidP (gA.out.stay moSc stB (fun k e => by omega))
   have szB := hidP (Nat.le_trans szA.out stB.size)
   have y0 := sB.out.cell 0
   have y1 := sB.out.cell 1
   simp only [List.getElem?_cons_zero, List.getElem?_cons_succ] at y0 y1
   have h256 : (decide (256 <= out.length)) = false := by simp; omega
   have OO1 := hidP (O1.out wB zB.out)
   clear zA sA rA gA szA lB stB O1
   go_wp2_with fail
   refine OO1.out.mono ?_
   rintro _ wC ⟨rfl, zC0⟩
   have stC0 := zC0.2
   have zC := hidP (zB.out.trans zC0)
   have sC := hidP (stC0.row sB.out (by omega))
   have rC := hidP (stC0.row rB.out (by omega))
   have gC := hidP (gB.out.stay moSc stC0 (fun k e => by omega))
   have szC := hidP (Nat.le_trans szB.out stC0.size)
   have x0 := zC.out.1.row.cell 0
   have x1 := zC.out.1.row.cell 1
   simp only [List.getElem?_cons_zero, List.getElem?_cons_succ] at x0 x1
   obtain ⟨-, -, t2⟩ := HP2.out wC zC.out
   have hl2 := zC.out.1.lt
   have i1 : (p2.i : Int) < (T.length : Int) := by omega
   clear OO1 zC0 stC0 zB sB rB gB szB y0 y1 h256 HP2
   obtain ⟨nT, hnT⟩ : ∃ nT, nT = T.length := ⟨_, rfl⟩
   rw [← hnT] at x0 i1 hl2
   clear hnT
   generalize p2.i = pi at x1 t2 i1 hl2
   go_wp2_with fail
   go_quiet (fail)
   go_wp2_with fail
   refine (O2.out _ (zC.out.low hg htb2 (below_le (below_drewN wC _) (by have := szC.out; omega)))).mono ?_
   rintro _ wD ⟨rfl, zD0⟩
   have stD : Stay (fun k => k = w1.heap.size) wC wD := ((Stay.refl _ wC).drewN _).trans zD0.2
   have zD : Hid (PSt T tb cap w1.heap.size WP wD k2) := ⟨zD0.1, zC.out.2.trans stD⟩
   have sD := hidP (stD.row sC.out (by omega))
   have rD := hidP (stD.row rC.out (by omega))
   have gD := hidP (gC.out.stay moSc stD (fun k e => by omega))
   have szD := hidP (Nat.le_trans szC.out stD.size)
   clear zD0 stD zC sC rC gC szC x0 x1 t2 i1 hl2 O2
   go_wp2_with (first | (refine stC (v := .int .i64 (pl : Int)) rfl 3 (.tmp 71) (.tmp 69) rfl rfl rfl zD.out.1.row (sv3 zD.out.1.row rfl _) ?_; intro wE lE stE; apply shut))
   show wpList _ _ _ _ _ _
   simp only [List.set_cons_zero, List.set_cons_succ] at lE
   have zE := hidP (zD.out.setItem (pl : Int) stE lE)
   have sE' := hidP (stE.row sD.out (by omega))
   have rE := hidP (stE.row rD.out (by omega))
   have gE := hidP (gD.out.stay moSc stE (fun k e => by omega))
   have szE := hidP (Nat.le_trans szD.out stE.size)
   have szK := hidP szE.out
   clear zD sD rD gD szD lE stE
   go_wp2_with fail
   have hS0 : Row wE.drew (w1.heap.size + 1) 69 [.slice ao out.length cp, .slice none 0 0] := sE'.out.drew
   refine beginL (fun y => Row y (w1.heap.size + 1) 69 [.slice ao out.length cp, .slice none 0 0]) 9 (by kernel_rfl) hS0 (fun hSS => ?_)
   refine takeL 0 (v := ?_) rfl (some 72) rfl (by decide) (by kernel_rfl) (by kernel_rfl) (by kernel_rfl) (by kernel_rfl) (fun _ _ _ h => h) (Or.inl ⟨by rfl, ?_⟩) hSS ?_
   rotate_left
   ·(intro y hy; have hk0 := hy.cell 0; have hk1 := hy.cell 1; simp only [List.getElem?_cons_zero, List.getElem?_cons_succ] at hk0 hk1; go_simp; with_reducible rfl)
   try simp only [Act.put]
   try simp only [List.setIfInBounds_toArray]
   try simp only [List.set_cons_succ]
   try simp only [List.set_cons_zero]
   refine takeL 1 (v := ?_) rfl (some 73) rfl (by decide) (by kernel_rfl) (by kernel_rfl) (by kernel_rfl) (by kernel_rfl) (fun _ _ _ h => h) (Or.inl ⟨by rfl, ?_⟩) hSS ?_
   rotate_left
   ·(intro y hy; have hk0 := hy.cell 0; have hk1 := hy.cell 1; simp only [List.getElem?_cons_zero, List.getElem?_cons_succ] at hk0 hk1; go_simp; with_reducible rfl)
   try simp only [Act.put]
   try simp only [List.setIfInBounds_toArray]
   try simp only [List.set_cons_succ]
   try simp only [List.set_cons_zero]
   refine takeL 2 (v := ?_) rfl (some 74) rfl (by decide) (by kernel_rfl) (by kernel_rfl) (by kernel_rfl) (by kernel_rfl) (fun _ _ _ h => h) (Or.inl ⟨by rfl, ?_⟩) hSS ?_
   rotate_left
   ·(intro y hy; have hk0 := hy.cell 0; have hk1 := hy.cell 1; simp only [List.getElem?_cons_zero, List.getElem?_cons_succ] at hk0 hk1; go_simp; with_reducible rfl)
   try simp only [Act.put]
   try simp only [List.setIfInBounds_toArray]
   try simp only [List.set_cons_succ]
   try simp only [List.set_cons_zero]
   refine takeL 3 (v := ?_) rfl (some 75) rfl (by decide) (by kernel_rfl) (by kernel_rfl) (by kernel_rfl) (by kernel_rfl) (fun _ _ _ h => h) (Or.inl ⟨by rfl, ?_⟩) hSS ?_
   rotate_left
   ·(intro y hy; have hk0 := hy.cell 0; have hk1 := hy.cell 1; simp only [List.getElem?_cons_zero, List.getElem?_cons_succ] at hk0 hk1; go_simp; with_reducible rfl)
   try simp only [Act.put]
   try simp only [List.setIfInBounds_toArray]
   try simp only [List.set_cons_succ]
   try simp only [List.set_cons_zero]
   refine takeL 4 (v := ?_) rfl (some 76) rfl (by decide) (by kernel_rfl) (by kernel_rfl) (by kernel_rfl) (by kernel_rfl) (fun _ _ _ h => h) (Or.inl ⟨by rfl, ?_⟩) hSS ?_
   rotate_left
   ·(intro y hy; have hk0 := hy.cell 0; have hk1 := hy.cell 1; simp only [List.getElem?_cons_zero, List.getElem?_cons_succ] at hk0 hk1; go_simp; with_reducible rfl)
   try simp only [Act.put]
   try simp only [List.setIfInBounds_toArray]
   try simp only [List.set_cons_succ]
   try simp only [List.set_cons_zero]
   refine readyL (rs := [5]) (by kernel_rfl) (by simp) ?_
   refine ReadyL.cons rfl (fun KK hK => ?_) ReadyL.nil
   refine wantR (by rfl) ?_
   go_simp
   refine (O3.out _ (zE.out.low hg htb2 ((Below.refl _ _).drew))).mono ?_
   rintro _ wF ⟨c, rfl, zF0, qF⟩
   have stF := ((Stay.refl (fun k => k = w1.heap.size) wE).drew).trans zF0.2
   have zF : Hid (PSt T tb cap w1.heap.size WP wF s9) := ⟨zF0.1, zE.out.2.trans stF⟩
   have gF := hidP (gE.out.stay moSc stF (fun k e => by omega))
   have rF := hidP (stF.row rE.out (by omega))
   have szF := Nat.le_trans szE.out stF.size
   have hSS2 := stF.row sE'.out (by omega)
   obtain ⟨cv2, cv3, rfl, qn, q2, q3⟩ := qF
   obtain ⟨ca, cn, rfl⟩ := ArQ.form q2
   obtain ⟨cb, cm, rfl⟩ := ArQ.form q3
   have qF := hidP (show SctQ (Fr wE wF) 100 wF [.bool sct.pub, .string (str sct.name), .slice ca sct.lives.length cn, .slice cb sct.fields.length cm, .int .i64 sct.pos] sct from ⟨_, _, rfl, qn, q2, q3⟩)
   have gsz := hidP (show wE.heap.size <= wF.heap.size from stF.size)
   have kE := hidP (gE.out)
   refine hK.out _ _ (fun _ => hSS2) (fun _ => ?_)
   clear hK KK hSS zF0 stF zE gE rE szE sE' O3 qn q2 q3
   have hSS := hSS2
   clear hSS2
   try simp only [Act.put]
   try simp only [List.setIfInBounds_toArray]
   try simp only [List.set_cons_succ]
   try simp only [List.set_cons_zero]
   refine readyL (rs := [6]) (by kernel_rfl) (by simp) ?_
   refine ReadyL.cons rfl (fun KK hK => ?_) ReadyL.nil
   refine wantR (by rfl) ?_
   refine wpo_bsU 66 84 5 80 _ (.agg [.bool sct.pub, .string (str sct.name), .slice ca sct.lives.length cn, .slice cb sct.fields.length cm, .int .i64 sct.pos].toArray) (.tmp 77) rfl Tryz.underlying66 Tryz.info84S (by decide) (by decide) rfl [.bool sct.pub, .string (str sct.name), .slice ca sct.lives.length cn, .slice cb sct.fields.length cm, .int .i64 sct.pos] rfl rfl rfl ?_
   intro wG hRG hBG hzG
   have zG := hidP (zF.out.low hg htb2 (below_le hBG (by omega)))
   have gG := hidP (gF.out.past moSc hBG)
   have rG := hidP (rF.out.below hBG rF.out.lt)
   have szG := Nat.le_trans szF hBG.size
   have hSS2 := hSS.below hBG hSS.lt
   have qG := hidP (SctQ.mono qF.out (⟨fun b hb => ⟨hb.1, Nat.lt_of_lt_of_le hb.2 hBG.size⟩, fun b hb => hBG.block b hb.2⟩ : Kp (Fr wE wF) (Fr wE wG) wF wG))
   replace hRG := hidP hRG
   refine hK.out (Act.put _ (some 78) _) _ (fun _ => hSS2) (fun _ => ?_)
   clear hK KK hSS zF gF rF szF hBG qF
   have hSS := hSS2
   clear hSS2
   try simp only [Act.put]
   try simp only [List.setIfInBounds_toArray]
   try simp only [List.set_cons_succ]
   try simp only [List.set_cons_zero]
   refine readyL (rs := [7]) (by kernel_rfl) (by simp) ?_
   refine ReadyL.cons rfl (fun KK hK => ?_) ReadyL.nil
   refine wantR (by rfl) ?_
   refine wpo_gro (.tmp 73) (.tmp 78) moSc rfl Tryz.underlying66 Tryz.info84S rfl (by decide) rfl rfl gG.out szG hRG.out rfl (by intro u hu; simp only [List.mem_cons, List.not_mem_nil, or_false] at hu; rcases hu with rfl | rfl | rfl | rfl | rfl <;> rfl) (x := sct) ?_ (by omega) (by decide) ?_
   ·refine SctQ.mono qG.out ⟨fun b hb => ⟨⟨by have := hb.1; have := szK.out; omega, hb.2⟩, fun e => ?_⟩, fun _ _ => rfl⟩
    obtain ⟨Lx, _, hox⟩ := kE.out.ex
    have h3 := (hox.lt b e).2
    have h2 := hb.1
    omega
   intro eo ep wH hGH hBH
   have zH := hidP (zG.out.low hg htb2 (below_le hBH (by omega)))
   have rH := hidP (rG.out.below hBH (by omega))
   have szH := Nat.le_trans szG hBH.size
   have hSS2 := hSS.below hBH (by omega)
   replace hGH := hidP hGH
   refine hK.out (Act.put _ (some 79) _) _ (fun _ => hSS2) (fun _ => ?_)
   clear hK KK hSS zG gG rG szG hBH hRG qG kE
   have hSS := hSS2
   clear hSS2
   try simp only [Act.put]
   try simp only [List.setIfInBounds_toArray]
   try simp only [List.set_cons_succ]
   try simp only [List.set_cons_zero]
   refine takeL 8 (v := ?_) rfl (some 80) rfl (by decide) (by kernel_rfl) (by kernel_rfl) (by kernel_rfl) (by kernel_rfl) (fun _ _ _ h => h) (Or.inl ⟨by rfl, ?_⟩) hSS ?_
   rotate_left
   ·(intro y hy; have hk0 := hy.cell 0; have hk1 := hy.cell 1; simp only [List.getElem?_cons_zero, List.getElem?_cons_succ] at hk0 hk1; go_simp; with_reducible rfl)
   try simp only [Act.put]
   try simp only [List.setIfInBounds_toArray]
   try simp only [List.set_cons_succ]
   try simp only [List.set_cons_zero]
   refine readyL (rs := [9]) (by kernel_rfl) (by simp) ?_
   refine ReadyL.cons rfl (fun KK hK => ?_) ReadyL.nil
   refine wantR (by rfl) ?_
   refine wpo_stC (v := .slice eo (out.length + 1) ep) 66 (.tmp 80) (.tmp 79) rfl rfl rfl hSS (sv66 hSS rfl _ _ _) ?_
   intro wI sI stI
   simp only [List.set_cons_zero] at sI
   have d1 : Hid (wI.cell? ⟨w1.heap.size + 1, 0, none⟩ = some (.slice eo (out.length + 1) ep)) := sI.cell 0
   have rI := hidP (stI.row rH.out (by omega))
   have zI : Hid (PSt T tb cap w1.heap.size WP wI s9) := ⟨zH.out.1.stay stI (by omega) (by omega), zH.out.2.step stI (fun i hi hy => by omega)⟩
   have szI := hidP (Nat.le_trans szH stI.size)
   have gI := hidP (hGH.out.stay moSc stI (fun k e => by omega))
   replace sI := hidP sI
   refine hK.out (Act.put _ none _) _ (fun h => absurd rfl h) (fun _ => ?_)
   try simp only [Act.put]
   clear hK KK hSS zH rH szH hGH stI hS0
   refine doneL (by kernel_rfl) ?_ _
   go_wp2_with fail
   go_roundw
   case rel =>
    exact ⟨f', out ++ [sct], s9, _, sI.out, rI.out, gI.out, zI.out, szI.out, HE.out, by rw [List.length_append]; simp; omega, by rw [List.length_append]; simp; omega⟩
   case measure =>
    show 300 - lenV ((wI.cell? ⟨w1.heap.size + 1, 0, none⟩).getD undef) < 300 - lenV ((wr.cell? ⟨w1.heap.size + 1, 0, none⟩).getD undef)
    rw [d1.out, hm0.out]
    show 300 - (out.length + 1) < 300 - out.length
    omega
end Go.Proofs.YtldbbkheemnnhaaGreatDoor
