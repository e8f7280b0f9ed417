/-
  WireReads answers true, whatever the bytes and the readings.
-/
import Derived.Test.YtkgmjhchefkmaaaRde
namespace Go.Proofs.Ytkgmjhchefkmaaa
open Go.RowKit

/-- What came in, copied onto an empty slice. -/
theorem append_by {ops : Array Oper} {rest : List Oper} {o : Oper} {a : Act} {Q : Exit → Act → World → Prop} {w : World} {vb : Value} {l : List UInt8} (hgd : o.guard = none) (s x : Operand)
    (ho : o.op = .call { callee := .builtin .append, args := #[s, x], argTypes := #[32, 32] }) (hs : a.eval s = .slice (some ⟨w.heap.size, 0, none⟩) 0 0) (hx : a.eval x = vb) (hBy : By w vb l) (hl : l.length ≤ 2000)
    (h : ∀ g cap w', w'.ownsRow w.heap.size 5 1 (.slice (some ⟨g, 0, none⟩) l.length cap) l.length (bys l) → Below w.heap.size w w' → wpList Try.prog ops Q rest (a.put o.dst (.slice (some ⟨g, 0, none⟩) l.length cap)) w') :
    wpList Try.prog ops Q (o :: rest) a (w.alloc (.cells #[] 5)) := by
  obtain ⟨i0, hi, hz0, hz1, hz2⟩ := info_parts Try.info5
  have hA : Below w.heap.size w (w.alloc (.cells #[] 5)) := (Below.refl _ _).alloc (Nat.le_refl _) _
  have hm : (w.alloc (.cells #[] 5)).ownsRow w.heap.size 5 1 (.slice (some ⟨w.heap.size, 0, none⟩) 0 0) 0 [] := World.ownsRow_made w #[] 0 (Nat.le_refl _) (by decide) rfl
  have key : ∀ (ad : Addr) (c : Nat), vb = .slice (some ad) l.length c → (∀ j u, (bys l)[j]? = some u → (w.alloc (.cells #[] 5)).cell? (ad.add j) = some u) → wpList Try.prog ops Q (o :: rest) a (w.alloc (.cells #[] 5)) := by
    intro ad c hv hc
    refine wpList_append_own_at (w := w.alloc (.cells #[] 5)) hgd s x 32 ho w.heap.size 5 i0 (.int .u8 0) 1 1 Try.underlying32 hi hz0 hz1 hz2 rfl (by decide) _ 0 [] hs hm ad l.length c (bys l) (hx.trans hv) (by simp [bys_len]) hc (bys_one l) (by unfold maxLen; omega) (by omega) (by simp) ?_
    intro v' w' hown hgrow hnil _
    have R : Below w.heap.size w w' := hA.grown hgrow (by simp) (fun k e => by simp [Value.ownBlock] at e; omega)
    rw [Nat.zero_add, List.nil_append] at hown
    rcases hown.2 with ⟨hv', h0⟩ | ⟨g, cap, cur, rfl, _⟩
    · exfalso
      rw [hv'] at hnil
      have := (hnil.1 rfl).1
      cases this
    · exact h g cap w' hown R
  rcases hBy.shape with ⟨ao, cap, hv, rfl, h0⟩ | ⟨b, of, cap, hv, _, _, hc⟩
  · cases ao with
    | none =>
      refine wpList_plain hgd fun K hK => ?_
      have hr : (Builtin.append_ #[32, 32] o.type #[.slice (some ⟨w.heap.size, 0, none⟩) 0 0, .slice none 0 cap]).run Try.prog (w.alloc (.cells #[] 5)) = .ok (.slice (some ⟨w.heap.size, 0, none⟩) 0 0) (w.alloc (.cells #[] 5)) := by
        simp [Builtin.append_, run_underlying Try.underlying32, sizeOf, typeInfo, hi, storeCells, Builtin.lenOf, Builtin.firstCells]
      unfold Oper.wp execOp
      simp only [ho, resolve, invoke, builtin, Sem.run_bind, Sem.run_pure, Result.andThen_ok, List.map_toArray, List.map_cons, List.map_nil, hs, hx, hv, hr]
      exact hK _ _ (h w.heap.size 0 _ hm hA)
    | some ad => exact key ad cap hv (fun j u hj => by simp [bys] at hj)
  · refine key ⟨b, of, none⟩ cap hv (fun j u hj => ?_)
    have hlt : j < l.length := by
      rcases Nat.lt_or_ge j l.length with h | h
      · exact h
      · rw [List.getElem?_eq_none (by rw [bys_len]; exact h)] at hj; cases hj
    rw [addr_add, hA.cell (p := ⟨b, of + j, none⟩) (World.block_lt_of_cell? w _ (hc j hlt)), hc j hlt]
    rw [bys_get l j hlt] at hj
    exact hj

/-- What came in, as a string. -/
theorem conv_by {w w' : World} {vb : Value} {l : List UInt8} (h : By w vb l) (hb : Below w.heap.size w w') : (convert 32 9 vb).run Try.prog w' = .ok (.string (str l)) w' := by
  rcases h.shape with ⟨ao, cap, rfl, rfl, _⟩ | ⟨b, of, cap, rfl, _, _, hc⟩
  · cases ao with
    | none => exact run_convert_bytes_nil w' 32 5 Try.underlying32 Try.underlying5 0 cap 9 Try.underlying9
    | some ad => exact run_convert_bytes_back w' 32 9 5 ad cap [] Try.underlying32 Try.underlying5 Try.underlying9 (by intro j hj; simp at hj)
  · refine conv_sl w' _ l ⟨.inr ⟨b, of, cap, rfl, fun i hi => ?_⟩⟩
    rw [hb.cell (p := ⟨b, of + i, none⟩) (World.block_lt_of_cell? w _ (hc i hi))]
    exact hc i hi

/-- What the statement's last answer asks. -/
structure Ends (w7 : World) (rb xb c a : Nat) : Prop where
  told : ∀ y, (Below w7.heap.size w7 y ∧ y.cell? ⟨xb, 2, none⟩ = some (.int .i64 (c : Int)) ∧ y.cell? ⟨xb, 3, none⟩ = some (.int .i64 (a : Int))) → Calls Try.prog 11 #[] y fun ev y' => ev = .returned (.bool true) ∧ (Below w7.heap.size w7 y' ∧ y'.cell? ⟨xb, 2, none⟩ = some (.int .i64 (c : Int)) ∧ y'.cell? ⟨xb, 3, none⟩ = some (.int .i64 (a : Int)))
  end_ : ∀ y, (Below w7.heap.size w7 y ∧ y.cell? ⟨xb, 2, none⟩ = some (.int .i64 (c : Int)) ∧ y.cell? ⟨xb, 3, none⟩ = some (.int .i64 (a : Int))) → Calls Try.prog 18 #[.pointer (some ⟨rb, 0, none⟩)] y fun ev y' => ∃ e, ev = .returned e ∧ (Below w7.heap.size w7 y' ∧ y'.cell? ⟨xb, 2, none⟩ = some (.int .i64 (c : Int)) ∧ y'.cell? ⟨xb, 3, none⟩ = some (.int .i64 (a : Int))) ∧ ((c = 0 ∧ a = 0 ∧ e = .nilIface) ∨ Er y' e c a)
  is_ : ∀ y e, (Below w7.heap.size w7 y ∧ y.cell? ⟨xb, 2, none⟩ = some (.int .i64 (c : Int)) ∧ y.cell? ⟨xb, 3, none⟩ = some (.int .i64 (a : Int))) → ((c = 0 ∧ a = 0 ∧ e = .nilIface) ∨ Er y e c a) → Calls Try.prog 17 #[e, .int .i64 (c : Int), .int .i64 (a : Int)] y fun ev y' => ev = .returned (.bool true) ∧ (Below w7.heap.size w7 y' ∧ y'.cell? ⟨xb, 2, none⟩ = some (.int .i64 (c : Int)) ∧ y'.cell? ⟨xb, 3, none⟩ = some (.int .i64 (a : Int)))
  start : Below w7.heap.size w7 w7.drew ∧ w7.drew.cell? ⟨xb, 2, none⟩ = some (.int .i64 (c : Int)) ∧ w7.drew.cell? ⟨xb, 3, none⟩ = some (.int .i64 (a : Int))

theorem ends_make {w7 : World} {rb xb p : Nat} {v : Value} {l : List UInt8} (hr : Rd w7 rb v l p) (hx : Rf w7 xb l p (if p < l.length then 4 else 0) (if (if p < l.length then 4 else 0) = 0 then 0 else p)) :
    Ends w7 rb xb (if p < l.length then 4 else 0) (if (if p < l.length then 4 else 0) = 0 then 0 else p) := by
  have hK : ∀ y, Below w7.heap.size w7 y → (Below w7.heap.size w7 y ∧ y.cell? ⟨xb, 2, none⟩ = some (.int .i64 ((if p < l.length then 4 else 0 : Nat) : Int)) ∧ y.cell? ⟨xb, 3, none⟩ = some (.int .i64 ((if (if p < l.length then 4 else 0) = 0 then 0 else p : Nat) : Int))) := fun y hy => ⟨hy, (hx.past hy).c2, (hx.past hy).c3⟩
  refine ⟨fun y hy => ?_, fun y hy => ?_, fun y e hy he => ?_, hK _ (Below.refl _ _).drew⟩
  · refine (tell_any y).mono ?_
    rintro ev y' ⟨rfl, hb⟩
    exact ⟨rfl, hK y' (hy.1.trans (hb.mono hy.1.size))⟩
  · refine (end_any y rb v l p (hr.past hy.1)).mono ?_
    rintro ev y' ⟨e, rfl, hE, hb⟩
    refine ⟨e, rfl, hK y' (hy.1.trans (hb.mono hy.1.size)), ?_⟩
    by_cases hp : p < l.length
    · rw [if_pos hp] at hE
      right
      simpa [hp] using hE
    · rw [if_neg hp] at hE
      left
      simp [hp, hE]
  · refine (is_any y e _ _ _ _ he rfl rfl).mono ?_
    rintro ev y' ⟨rfl, hb⟩
    exact ⟨rfl, hK y' (hy.1.trans (hb.mono hy.1.size))⟩

/-- Where the loop stands that spoils the copy. -/
structure SRel (w : World) (g n gcap : Nat) (rb : Nat) (v : Value) (l : List UInt8) (ws : World) : Prop where
  own : ∃ xs, ws.ownsRow w.heap.size 5 1 (.slice (some ⟨g, 0, none⟩) n gcap) n xs
  rd : Rd ws rb v l 0
  below : Below w.heap.size w ws

/-- Where the loop of the readings stands. -/
structure TRel (B : Nat) (w : World) (rb : Nat) (v : Value) (l : List UInt8) (xb : Nat) (ws : World) : Prop where
  both : ∃ p c a, Rd ws rb v l p ∧ Rf ws xb l p c a
  below : Below B w ws

attribute [local go_sem ↓] Go.wp_at_zero Go.wp_at_succ
set_option maxHeartbeats 8000000 in
set_option maxRecDepth 20000 in
theorem reads_walk (vb v0 : Value) (l : List UInt8) (n : Nat) (f : Nat → Opv) (w : World) (hb : By w vb l) (h : Ops w v0 n f) (hl63 : l.length ≤ 9223372036854775807) :
    Calls Try.prog 4 #[vb, v0] w fun ev w' => ev = .returned (.bool true) ∧ Below w.heap.size w w' := by
  obtain ⟨ao, cap, rfl⟩ : ∃ ao cap, v0 = .slice ao n cap := by
    rcases h.shape with ⟨ao, cap, rfl, _⟩ | ⟨b, off, cap, rfl, _⟩
    · exact ⟨_, _, rfl⟩
    · exact ⟨_, _, rfl⟩
  have hmax := h.max
  have HO : Hid (∀ wr, Below w.heap.size w wr → ∀ k, k < n → ∃ b off, ao = some ⟨b, off, none⟩ ∧ wr.rangeAt b (off + k * 38) (f k).cells) := by
    intro wr hb k hk
    rcases (h.below hb).shape with ⟨_, c, _, h0⟩ | ⟨b, off, c, hv, hc⟩
    · omega
    · cases hv
      exact ⟨b, off, rfl, hc k hk⟩
  have HK : Hid (∀ i, i < n → (f i).ok ∧ (f i).s.size ≤ 9223372036854775807) := h.ok
  clear h
  have ABy : Aside (By w vb l) := hb
  obtain ⟨bo, bcap, rfl⟩ : ∃ bo bcap, vb = .slice bo l.length bcap := by
    rcases hb.shape with ⟨bo, cap, rfl, rfl, _⟩ | ⟨b, o, cap, rfl, h1, h2, hc⟩
    · exact ⟨bo, cap, rfl⟩
    · exact ⟨_, cap, rfl⟩
  have HCV : Hid (∀ w', Below w.heap.size w w' → (convert 32 9 (.slice bo l.length bcap)).run Try.prog w' = .ok (.string (str l)) w') := fun w' hw => conv_by hb hw
  clear hb
  by_cases hbig : 2000 < l.length
  · clear HO HK HCV ABy
    go_enter Try.func4, Try.ntmps4
    go_wp2_with fail
    refine (tell_any w).mono ?_
    rintro ev w2 ⟨rfl, hb2⟩
    go_wp2_with fail
    go_ret
    exact ⟨rfl, hb2⟩
  · go_enter Try.func4, Try.ntmps4
    go_wp2_with (at_builtin; refine append_by rfl _ _ rfl rfl rfl ABy.out (by omega) ?_; intro g gcap w1 hown hb1)
    have hgl := (hown.lt g rfl)
    have C1 := newReader_any w1 _ l (Sl.ofOwn hown) (by intro cap e; cases e) (by omega)
    have ASl : Aside (Sl w1 (.slice (some ⟨g, 0, none⟩) l.length gcap) l) := Sl.ofOwn hown
    have AOw : Aside (w1.ownsRow w.heap.size 5 1 (.slice (some ⟨g, 0, none⟩) l.length gcap) l.length (bys l)) := hown
    clear hown
    refine C1.mono ?_
    rintro ev w2 ⟨rb, v6, rfl, hR2, hrb, hv6, hb2⟩
    clear C1
    have kc1 := conv_sl w2 _ l (ASl.out.below hb2)
    have hB2 := hb1.trans (hb2.mono hb1.size)
    have kc2 := HCV.out w2 hB2
    have hgr : g ≠ rb := by omega
    have hgv : v6.ownBlock ≠ some g := fun e => by have := hv6 g e; omega
    have hwr : w.heap.size ≤ rb := by have := hb1.size; omega
    have AS : Aside (SRel w g l.length gcap rb v6 l w2) := ⟨⟨_, own_same AOw.out (fun k e => by cases e; exact hb2.block _ hgl.2)⟩, hR2, hB2⟩
    clear hR2 hb2 hB2 ASl AOw hb1 hrb hv6
    generalize hSS : str l = SS at *
    go_wp2_with fail
    clear kc1 kc2
    go_loopw [7] (fun i ws => ∃ j : Nat, j ≤ l.length ∧ i = .int .i64 j ∧ SRel w g l.length gcap rb v6 l ws) (fun i _ => l.length - (intOf i).toNat)
    case atStart => exact ⟨0, by omega, rfl, AS.out⟩
    case round =>
      obtain ⟨j, hj, rfl, hSR⟩ := hrel
      clear AS
      by_cases hjl : j < l.length
      · obtain ⟨xs, hown⟩ := hSR.own
        have hxl : xs.length = l.length := by have := hown.1; omega
        have q1 := hown.cellAt j (by omega)
        rw [List.getElem?_eq_getElem (by omega)] at q1
        have q2 := hown.frozenAt j
        have AR : Aside (SRel w g l.length gcap rb v6 l (wr.setCell ⟨g, j, none⟩ (.int .u8 1))) :=
          ⟨⟨_, (hown.stored j (.int .u8 1)).1⟩, hSR.rd.same (Below.heap_setCell _ _ _ _ (fun e => hgr e.symm)) (fun k e => Below.heap_setCell _ _ _ _ (fun e' => hgv (by rw [e, e']))), hSR.below.setCell (p := ⟨g, j, none⟩) hgl.1 _⟩
        clear hown hSR
        generalize xs[j] = y at q1
        go_wp2_with fail
        go_roundw
        case rel => exact ⟨j + 1, by omega, by go_num, AR.out⟩
        case measure => simp [intOf]; omega
      · have kc := HCV.out wr hSR.below
        have hrl := hSR.rd.lt
        have hvl : v6.ownBlock ≠ some wr.heap.size := fun e => by have := (hSR.rd.own.lt _ e).2; omega
        have hwl := hSR.below.size
        have AS : Aside (TRel w.heap.size w rb v6 l wr.heap.size (wr.alloc (.cells #[.string SS, .int .i64 0, .int .i64 0, .int .i64 0] 39))) := by
          have hA : Below wr.heap.size wr (wr.alloc (.cells #[.string SS, .int .i64 0, .int .i64 0, .int .i64 0] 39)) := (Below.refl _ _).alloc (Nat.le_refl _) _
          refine ⟨⟨0, 0, 0, hSR.rd.past hA, ⟨?_, ?_, ?_, ?_, ?_, Nat.zero_le _, by omega⟩⟩, hSR.below.trans (hA.mono hwl)⟩
          · rw [hSS]; simp
          · simp
          · simp
          · simp
          · intro j; simp
        clear hSR
        go_wp2_with fail
        clear kc
        generalize wr.heap.size = xb at *
        generalize wr.alloc (.cells #[.string SS, .int .i64 0, .int .i64 0, .int .i64 0] 39) = w4 at *
        have hxr : xb ≠ rb := by omega
        clear HCV ABy hSS hgr hgv
        go_loopw [9] (fun i ws => ∃ k : Nat, k ≤ n ∧ i = .int .i64 k ∧ TRel w.heap.size w rb v6 l xb ws) (fun i _ => n - (intOf i).toNat)
        case atStart => exact ⟨0, by omega, rfl, AS.out⟩
        case round =>
          obtain ⟨k, hk, rfl, hT⟩ := hrel
          clear AS
          obtain ⟨p, c, a, hRd, hRf⟩ := hT.both
          by_cases hlt : k < n ∧ k < 30
          · obtain ⟨hkn, hk3⟩ := hlt
            obtain ⟨b, off, rfl, hrow⟩ := HO.out _ hT.below k hkn
            have HRow : Hid (wr.rangeAt b (off + k * 38) (f k).cells) := hrow
            have hi := Try.sz29' (f k) (HK.out k hkn).1
            have C2 : Calls Try.prog 15 #[.pointer (some ⟨rb, 0, none⟩), .pointer (some ⟨xb, 0, none⟩), .agg (f k).cells.toArray] wr fun ev w' => ev = .returned (.bool true) ∧ TRel w.heap.size w rb v6 l xb w' := by
              refine (read_any w.heap.size wr rb v6 l p xb c a (f k) (HK.out k hkn).1 hRd hRf hxr hvl hwr hwl).mono ?_
              rintro ev w' ⟨rfl, hN⟩
              exact ⟨rfl, hN.both, hT.below.trans hN.below⟩
            clear hrow hT hRd hRf
            generalize hCC : (f k).cells = CC at *
            go_wp2_with (refine wpList_load_mid rfl 29 _ rfl b (off + k * 38) rfl CC _ HRow.out Try.underlying29 rfl hi ?_)
            refine C2.mono ?_
            rintro ev w5 ⟨rfl, hT5⟩
            clear C2
            go_wp2_with fail
            go_roundw
            case rel => exact ⟨k + 1, by omega, by go_num, hT5⟩
            case measure => simp [intOf]; omega
          · have c2 := hRf.c2
            have c3 := hRf.c3
            have f2 := hRf.fz 2
            have f3 := hRf.fz 3
            have C7 : Calls Try.prog 16 #[.pointer (some ⟨xb, 0, none⟩)] ((wr.setCell ⟨xb, 2, none⟩ (.int .i64 0)).setCell ⟨xb, 3, none⟩ (.int .i64 0)) fun ev w7 => ev = .returned (.tuple #[]) ∧ (∃ c a : Nat, Ends w7 rb xb c a) ∧ Below w.heap.size w w7 := by
              refine (xEnd_any _ xb l p ((hRf.atC 0).atA 0)).mono ?_
              rintro ev w7 ⟨rfl, hO⟩
              have hg : wr.grownBy w7 (some xb) := ((grown_set wr xb 2 _).trans (grown_set _ xb 3 _)).trans hO.grown
              have hR7 : Rd w7 rb v6 l p := hRd.same (hg.block rb hRd.lt (by intro e; cases e; exact hxr rfl)) (fun k e => hg.block k (hRd.own.lt k e).2 (by intro e'; cases e'; exact hvl e))
              exact ⟨rfl, ⟨_, _, ends_make hR7 hO.rf⟩, hT.below.trans (below_grown hg hT.below.size (fun k e => by cases e; exact hwl))⟩
            clear hT hRd hRf HO HK
            have hkk : (k < n ∧ ¬ k < 30) ∨ ¬ k < n := by omega
            clear hlt
            rcases hkk with ⟨hkn, hk3⟩ | hkn
            all_goals
              go_wp2_with fail
              refine C7.mono ?_
              rintro ev w7 ⟨rfl, ⟨c', a', hE⟩, hB7⟩
              have HTd : Hid _ := hE.told
              have HEn : Hid _ := hE.end_
              have HIs : Hid _ := hE.is_
              have HSt := hE.start
              clear C7 hE c2 c3 f2 f3
              go_wp2_with fail
              go_region_held (fun y => Below w7.heap.size w7 y ∧ y.cell? ⟨xb, 2, none⟩ = some (.int .i64 (c' : Int)) ∧ y.cell? ⟨xb, 3, none⟩ = some (.int .i64 (a' : Int))) (assumption)
                (first
                | (go_at_call 11; refine (HTd.out _ (by assumption)).mono ?_; rintro ev w8 ⟨rfl, hS8⟩)
                | (go_at_call 18; refine (HEn.out _ (by assumption)).mono ?_; rintro ev w9 ⟨e, rfl, hS9, hE9⟩)
                | (go_at_call 17; refine (HIs.out _ _ (by assumption) (by assumption)).mono ?_; rintro ev w10 ⟨rfl, hS10⟩))
              go_wp2_with fail
              go_ret
              exact ⟨rfl, hB7.trans (hS10.1.mono hB7.size)⟩
end Go.Proofs.Ytkgmjhchefkmaaa
