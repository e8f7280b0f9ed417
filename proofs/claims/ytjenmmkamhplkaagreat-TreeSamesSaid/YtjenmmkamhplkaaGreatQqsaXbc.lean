/-
  A crate without its places, as the document makes it.
-/
import Derived.Test.YtjenmmkamhplkaaGreatJqsaXbr2
namespace Go.Proofs.YtjenmmkamhplkaaGreat
open Go.RowKit
theorem SctAt.toQ {Q : Nat -> Prop} {K : Ctx} {w : World} {cs : List Value} {t : Sct} (h : SctAt K w cs t) (hk : ∀ b, b < K.C -> Q b) : SctQ Q K.B w cs t := by
  obtain ⟨v2, v3, e, h1, h2, h3⟩ := h; exact ⟨v2, v3, e, h1, h2.toQ hk, h3.toQ hk fun _ _ _ h => h.toQ hk⟩
def OutBC (n : Nat) (K : Ctx) (c : Crt) (w : World) (ev : Ending) (w' : World) : Prop :=
  ∃ u0 u1, ev = .returned (.agg #[u0, u1]) /\ Below w.heap.size w w' /\ CrtQ n (QK K w w') K.B w' [u0, u1] (bareC n c)
set_option maxHeartbeats 16000000 in
set_option maxRecDepth 20000 in
theorem xbareC_any {n : Nat} {K : Ctx} {w : World} (hC : K.C <= w.heap.size) {c : Crt} {cs : List Value} (hx : CrtAt n K w cs c) :
    Calls Tryz.prog 14 #[.agg cs.toArray] w fun ev w' => OutBC n K c w ev w' := by
  obtain ⟨v0, v1, rfl, h0, h1⟩ := hx
  obtain ⟨ax, cx, rfl, hcx, hbx, Hax⟩ := h0.shape
  obtain ⟨ay, cy, rfl, hcy, hby, Hay⟩ := h1.shape
  have hl9 : c.structs.length <= 9223372036854775807 := by omega
  have hl8 : c.funcs.length <= 9223372036854775807 := by omega
  obtain ⟨w3, hw3⟩ : ∃ w3, w3 = (((w.alloc (.cells #[.slice ax c.structs.length cx, .slice ay c.funcs.length cy] 25)).alloc (.cells #[.slice none 0 0, .slice none 0 0] 25)).alloc (.cells #[.slice none 0 0, .slice none 0 0] 25)) := ⟨_, rfl⟩
  have hsz : w3.heap.size = w.heap.size + 3 := by rw [hw3, size_alloc, size_alloc, size_alloc]
  have hA3 : Below w.heap.size w w3 := by rw [hw3]; exact (alloc_two w _ _).trans (below_le (alloc_one _ _) (by rw [size_alloc, size_alloc]; omega))
  have R0 : Row w3 w.heap.size 25 [.slice ax c.structs.length cx, .slice ay c.funcs.length cy] := by rw [hw3]; exact ((Row.new w 25 _).alloc _).alloc _
  have R1 : Row w3 (w.heap.size + 1) 25 [.slice none 0 0, .slice none 0 0] := by
    have := (Row.new (w.alloc (.cells #[.slice ax c.structs.length cx, .slice ay c.funcs.length cy] 25)) 25 [.slice none 0 0, .slice none 0 0]).alloc (.cells #[.slice none 0 0, .slice none 0 0] 25)
    rw [size_alloc] at this; rw [hw3]; exact this
  have R2 : Row w3 (w.heap.size + 1 + 1) 25 [.slice none 0 0, .slice none 0 0] := by
    have := Row.new ((w.alloc (.cells #[.slice ax c.structs.length cx, .slice ay c.funcs.length cy] 25)).alloc (.cells #[.slice none 0 0, .slice none 0 0] 25)) 25 [.slice none 0 0, .slice none 0 0]
    rw [size_alloc, size_alloc] at this; rw [hw3]; exact this
  have AW : Aside (w3 = (((w.alloc (.cells #[.slice ax c.structs.length cx, .slice ay c.funcs.length cy] 25)).alloc (.cells #[.slice none 0 0, .slice none 0 0] 25)).alloc (.cells #[.slice none 0 0, .slice none 0 0] 25))) := hw3
  have HCC : Hid (K.C <= w.heap.size) := hC
  have HSZ : Hid (w3.heap.size = w.heap.size + 3) := hsz
  have HB3 : Hid (Below w.heap.size w w3) := hA3
  have HBX : Hid (c.structs.length * 80 <= 140737488355328) := hbx
  have HBY : Hid (c.funcs.length * 176 <= 140737488355328) := hby
  have HRW : Hid (∀ wr, Stay (fun q => q = w.heap.size + 1 + 1) w3 wr -> Row wr w.heap.size 25 [.slice ax c.structs.length cx, .slice ay c.funcs.length cy] /\ Row wr (w.heap.size + 1) 25 [.slice none 0 0, .slice none 0 0] /\ Below w.heap.size w wr) := fun wr hs => ⟨hs.row R0 (by omega), hs.row R1 (by omega), hA3.trans (hs.below (by omega) (fun q hq => by omega))⟩
  have I0 : Hid (InG 5 54 SctQ bareSc K c.structs w3 (w.heap.size + 1 + 1) 0 (.slice none 0 0) w3 /\ Row w3 (w.heap.size + 1 + 1) 25 [.slice none 0 0, .slice none 0 0]) := ⟨InG.start _ _, R2⟩
  have HAX : Hid (∀ i (h : i < c.structs.length) (y : World), Below K.C w y -> ∃ b o, ax = some ⟨b, o, none⟩ /\ ∃ v2 v3, y.rangeAt b (o + i * 5) [.bool (c.structs[i]).pub, .string (str (c.structs[i]).name), v2, v3, .int .i64 (c.structs[i]).pos] /\ (∃ p n m, v2 = .slice p n m) /\ (∃ p n m, v3 = .slice p n m) /\ SctAt K y [.bool (c.structs[i]).pub, .string (str (c.structs[i]).name), v2, v3, .int .i64 (c.structs[i]).pos] (c.structs[i])) := by
    intro i h y hy
    obtain ⟨b, o, e, hbC, cs, hl, hcs, hx⟩ := Hax i h
    have hx' := hx.below hy
    obtain ⟨v2, v3, rfl, hn, k2, k3⟩ := hx
    obtain ⟨p2, m2, f2⟩ := k2.form
    obtain ⟨p3, m3, f3⟩ := k3.form
    refine ⟨b, o, e, v2, v3, fun j u hj => ?_, ⟨_, _, _, f2⟩, ⟨_, _, _, f3⟩, hx'⟩
    have hj' : j < 5 := (List.getElem?_eq_some_iff.1 hj).1
    rw [hy.cell (p := ⟨b, o + i * 5 + j, none⟩) hbC, hcs j hj']
    exact hj
  have HAY : Hid (∀ i (h : i < c.funcs.length) (y : World), Below K.C w y -> ∃ b o, ay = some ⟨b, o, none⟩ /\ ∃ cs, cs.length = 10 /\ y.rangeAt b (o + i * 10) cs /\ FncAt n K y cs c.funcs[i]) := by
    intro i h y hy
    obtain ⟨b, o, e, hbC, cs, hl, hcs, hx⟩ := Hay i h
    refine ⟨b, o, e, cs, hl, fun j u hj => ?_, hx.below hy⟩
    have hj' : j < 10 := by rw [← hl]; exact (List.getElem?_eq_some_iff.1 hj).1
    rw [hy.cell (p := ⟨b, o + i * 10 + j, none⟩) hbC, hcs j hj']
    exact hj
  clear hw3 hsz hA3 R0 R1 R2 h0 h1 Hax Hay hbx hby hcx hcy hC
  go_enter Tryz.func14, Tryz.ntmps14
  go_wp2_with fail
  refine wp_at_world AW.out ?_
  go_loopw [4] (fun i wr => ∃ k : Nat, k <= c.structs.length /\ i = .int .i64 k /\ ∃ o0, InG 5 54 SctQ bareSc K c.structs w3 (w.heap.size + 1 + 1) k o0 wr /\ Row wr (w.heap.size + 1 + 1) 25 [o0, .slice none 0 0]) (fun i _ => c.structs.length - (intOf i).toNat)
  case atStart => exact ⟨0, by omega, rfl, _, I0.out⟩
  case round =>
    obtain ⟨k, hk, rfl, o0, hi, hrow⟩ := hrel
    obtain ⟨av, cv, ev⟩ := hi.form
    subst ev
    clear I0
    obtain ⟨r0, r1, hbw⟩ := HRW.out wr hi.stay
    have f0 := r0.cell 0
    have f1 := r0.cell 1
    simp only [List.getElem?_cons_zero, List.getElem?_cons_succ] at f0 f1
    by_cases h3 : k < c.structs.length
    . have i1 : (k : Int) < (c.structs.length : Int) := by omega
      have hst := hi.stay
      obtain ⟨dn, d1, d2, d3, d4⟩ := hi.ex
      have hKr : Below K.C w wr := below_le hbw HCC.out
      have hzr := hst.size
      have hz3 := HSZ.out
      have hCC := HCC.out
      have hBX := HBX.out
      obtain ⟨b, o, e, v2, v3, hr, ⟨p2, n2, m2, e2⟩, ⟨p3, n3, m3, e3⟩, hx⟩ := HAX.out k h3 wr hKr
      subst e e2 e3
      have hR := hidO hr
      have P1 : Hid (∀ w1, Row w1 wr.heap.size 54 [.bool (c.structs[k]).pub, .string (str (c.structs[k]).name), .slice p2 n2 m2, .slice p3 n3 m3, .int .i64 (c.structs[k]).pos] -> Below wr.heap.size wr w1 ->
          w1.cell? ⟨wr.heap.size, 4, none⟩ = some (.int .i64 (c.structs[k]).pos) /\ w1.frozen? ⟨wr.heap.size, 4, none⟩ = false /\ (w1.setCell ⟨wr.heap.size, 4, none⟩ (.int .i64 0)).cell? ⟨w.heap.size + 1 + 1, 0, none⟩ = some (.slice av k cv) /\
          (w1.setCell ⟨wr.heap.size, 4, none⟩ (.int .i64 0)).rangeAt wr.heap.size 0 [.bool (c.structs[k]).pub, .string (str (c.structs[k]).name), .slice p2 n2 m2, .slice p3 n3 m3, .int .i64 0] /\
          ∀ w5, Row w5 (w1.setCell ⟨wr.heap.size, 4, none⟩ (.int .i64 0)).heap.size 54 [.bool (c.structs[k]).pub, .string (str (c.structs[k]).name), .slice p2 n2 m2, .slice p3 n3 m3, .int .i64 0] -> Below (w1.setCell ⟨wr.heap.size, 4, none⟩ (.int .i64 0)).heap.size (w1.setCell ⟨wr.heap.size, 4, none⟩ (.int .i64 0)) w5 ->
            (w5.ownsRow w3.heap.size 54 5 (.slice av k cv) k dn.flatten /\ w3.heap.size <= w5.heap.size /\ Row w5 (w1.setCell ⟨wr.heap.size, 4, none⟩ (.int .i64 0)).heap.size 54 [.bool (c.structs[k]).pub, .string (str (c.structs[k]).name), .slice p2 n2 m2, .slice p3 n3 m3, .int .i64 0] /\ [Value.bool (c.structs[k]).pub, .string (str (c.structs[k]).name), .slice p2 n2 m2, .slice p3 n3 m3, .int .i64 0].length = 5 /\ (∀ u ∈ [Value.bool (c.structs[k]).pub, .string (str (c.structs[k]).name), .slice p2 n2 m2, .slice p3 n3 m3, .int .i64 0], u.oneCell' = true) /\ k <= 4611686018427387903 /\ (k + 1) * 80 <= 140737488355328) /\
            ∀ g' cp w', w'.ownsRow w3.heap.size 54 5 (.slice (some ⟨g', 0, none⟩) (k + 1) cp) (k + 1) (dn.flatten ++ [.bool (c.structs[k]).pub, .string (str (c.structs[k]).name), .slice p2 n2 m2, .slice p3 n3 m3, .int .i64 0]) -> w5.grownBy w' (Value.slice av k cv).ownBlock -> (some g' = (Value.slice av k cv).ownBlock ∨ g' = w5.heap.size) ->
              w'.cell? ⟨w.heap.size + 1 + 1, 0, none⟩ = some (.slice av k cv) /\ w'.frozen? ⟨w.heap.size + 1 + 1, 0, none⟩ = false /\ InG 5 54 SctQ bareSc K c.structs w3 (w.heap.size + 1 + 1) (k + 1) (.slice (some ⟨g', 0, none⟩) (k + 1) cp) (w'.setCell ⟨w.heap.size + 1 + 1, 0, none⟩ (.slice (some ⟨g', 0, none⟩) (k + 1) cp)) /\ Row (w'.setCell ⟨w.heap.size + 1 + 1, 0, none⟩ (.slice (some ⟨g', 0, none⟩) (k + 1) cp)) (w.heap.size + 1 + 1) 25 [.slice (some ⟨g', 0, none⟩) (k + 1) cp, .slice none 0 0]) := by
        intro w1 q1 hb1
        have r2 := q1.set 4 (.int .i64 0)
        have s2 : Stay (fun q => q = wr.heap.size) w1 (w1.setCell ⟨wr.heap.size, 4, none⟩ (.int .i64 0)) := stay_one
        have z2 := s2.size
        have z1 := q1.lt
        have hbW : Below wr.heap.size wr (w1.setCell ⟨wr.heap.size, 4, none⟩ (.int .i64 0)) := hb1.trans (s2.below (by omega) (fun q hq => by omega))
        refine ⟨q1.cell 4, q1.fz 4, (hrow.below hbW hrow.lt).cell 0, r2.range, ?_⟩
        generalize (w1.setCell ⟨wr.heap.size, 4, none⟩ (.int .i64 0)) = w4 at *
        intro w5 r5 hb5
        have z5 := r5.lt
        have hb45 : Below wr.heap.size wr w5 := hbW.trans (below_le hb5 (by omega))
        have hrow5 := hrow.below hb45 hrow.lt
        refine ⟨⟨own_past' d3 hb45, by omega, r5, rfl, ones_cons rfl (ones_cons rfl (ones_cons rfl (ones_cons rfl (ones_cons rfl ones_nil)))), by omega, by omega⟩, ?_⟩
        intro g' cp w' how hg hg'
        have hne : some (w.heap.size + 1 + 1) ≠ (Value.slice av k cv).ownBlock := fun e => by
          have := (d3.lt _ e.symm).1
          omega
        have hrow6 : Row w' (w.heap.size + 1 + 1) 25 [.slice av k cv, .slice none 0 0] := ⟨(hg.block _ hrow5.lt hne).trans hrow5.heap⟩
        refine ⟨hrow6.cell 0, hrow6.fz 0, ?_, hrow6.set 0 _⟩
        have hK5 : Below K.C wr w5 := below_le hb45 (by omega)
        refine InG.step (P := SctAt) kinSct hst dn d1 d2 d3 d4 (by omega) (by omega) hb45 rfl h3 ?_ how hg hg' stay_one
        obtain ⟨y2, y3, ee, hn, k2, k3⟩ := hx
        have e2 : Value.slice p2 n2 m2 = y2 := by injection ee with _ ee; injection ee with _ ee; injection ee with e _
        have e3 : Value.slice p3 n3 m3 = y3 := by injection ee with _ ee; injection ee with _ ee; injection ee with _ ee; injection ee with e _
        subst e2 e3
        exact SctAt.toQ (t := bareSc c.structs[k]) ⟨_, _, rfl, hn, k2.below hK5, k3.mono hK5 fun _ _ _ h => h.below hK5⟩ (fun q hq => .inl hq)
      clear hi hst d1 d2 d3 d4 hKr hzr hz3 hCC hBX hr hx hbw r0 r1 hrow HRW HAX HAY
      generalize (c.structs[k]).pub = pb at *
      generalize str (c.structs[k]).name = nm at *
      generalize (c.structs[k]).pos = ps at *
      have ON : Hid ([Value.bool pb, .string nm, .slice p2 n2 m2, .slice p3 n3 m3, .int .i64 ps].toArray.all (·.oneCell') = true) := all_one (ones_cons rfl (ones_cons rfl (ones_cons rfl (ones_cons rfl (ones_cons rfl ones_nil)))))
      go_wp2_with (first | (refine wpList_load_mid rfl 54 (.tmp 18) rfl b (o + k * 5) rfl _ _ hR.out Tryz.underlying54 rfl (by kernel_rfl) ?_) | (refine store_newL rfl 54 (.tmp 5) (.tmp 19) rfl _ _ 54 rfl rfl (by kernel_rfl) rfl ON.out ?_; intro w1 t1 hb1; obtain ⟨q1, q2, q3, q4, AF⟩ := P1.out w1 t1 hb1; replace q4 := hidO q4; replace AF := hidO AF; clear t1 hb1 P1) | (refine wpList_load_mid rfl 54 (.tmp 5) rfl wr.heap.size 0 rfl _ _ q4.out Tryz.underlying54 rfl (by kernel_rfl) ?_) | (refine bsliceL rfl 22 54 5 80 _ (.tmp 23) rfl Tryz.underlying22 Tryz.info54z (by decide) (by decide) _ rfl rfl ?_; intro w5 r5 hb5 hz5; obtain ⟨hh, FIN⟩ := AF.out w5 r5 hb5; replace hh := hidO hh; replace FIN := hidO FIN; clear r5 hb5 AF) | (at_builtin; refine app_one rfl (.tmp 22) (.tmp 24) 22 54 5 80 _ rfl Tryz.underlying22 Tryz.info54z rfl (by decide) (.slice av k cv) rfl _ rfl w3.heap.size k _ _ hh.out ?_; intro g' cp w6 how hg hg'; obtain ⟨y1, y2, y3, y4⟩ := FIN.out g' cp w6 how hg hg'; replace y3 := hidO y3; replace y4 := hidO y4; clear how hg hg' FIN hh))
      go_roundw
      case rel => exact ⟨k + 1, by omega, by go_num, _, y3.out, y4.out⟩
      case measure => simp [intOf]; omega
    . have i1 : ¬ (k : Int) < (c.structs.length : Int) := by omega
      obtain rfl : k = c.structs.length := by omega
      obtain ⟨wB, hwB⟩ : ∃ wB : World, wB = wr := ⟨_, rfl⟩
      rw [← hwB] at hi hrow r0 r1 hbw f0 f1 ⊢
      clear hwB
      have HSB : Hid (Stay (fun q => q = w.heap.size + 1 + 1) w3 wB) := hi.stay
      have HST : Hid (ArQ 5 80 (SctQ (QK K w3 wB) K.B wB) (QK K w3 wB) wB (.slice av c.structs.length cv) (c.structs.map bareSc)) := hi.done (P := SctAt) kinSct HBX.out
      have J0 : Hid (InG 10 40 (FncQ n) (bareFn n) K c.funcs wB (w.heap.size + 1 + 1) 0 (.slice none 0 0) wB /\ Row wB (w.heap.size + 1 + 1) 25 [.slice av c.structs.length cv, .slice none 0 0]) := ⟨InG.start _ _, hrow⟩
      clear hi hrow r0 r1 hbw HAX
      go_wp2_with fail
      go_loopw [6] (fun i wr => ∃ k : Nat, k <= c.funcs.length /\ i = .int .i64 k /\ ∃ o1, InG 10 40 (FncQ n) (bareFn n) K c.funcs wB (w.heap.size + 1 + 1) k o1 wr /\ Row wr (w.heap.size + 1 + 1) 25 [.slice av c.structs.length cv, o1]) (fun i _ => c.funcs.length - (intOf i).toNat)
      case atStart => exact ⟨0, by omega, rfl, _, J0.out⟩
      case round =>
        obtain ⟨k, hk, rfl, o1, hi, hrow⟩ := hrel
        obtain ⟨bv, dv, ev⟩ := hi.form
        subst ev
        clear J0 f0 f1
        have hs3 := HSB.out.trans hi.stay
        obtain ⟨r0, r1, hbw⟩ := HRW.out wr hs3
        have f1 := r0.cell 1
        simp only [List.getElem?_cons_zero, List.getElem?_cons_succ] at f1
        by_cases h3 : k < c.funcs.length
        . have i1 : (k : Int) < (c.funcs.length : Int) := by omega
          have hst := hi.stay
          obtain ⟨dn, d1, d2, d3, d4⟩ := hi.ex
          have hKr : Below K.C w wr := below_le hbw HCC.out
          have hzr := hst.size
          have hzB := HSB.out.size
          have hz3 := HSZ.out
          have hCC := HCC.out
          have hBY := HBY.out
          obtain ⟨b, o, e, cs, hl, hr, hx⟩ := HAY.out k h3 wr hKr
          subst e
          have h1 : Hid (cs.toArray.all (·.oneCell') = true) := one_mem hx.one
          obtain ⟨x2, x3, ts, x8, ecs, hn, k2, k3, kt, k8⟩ := hx
          have hlen : (pre8 c.funcs[k] x2 x3 ts).length = 8 := by simp [pre8, kt.len]
          have pe : ∀ (v p : Value), pre8 c.funcs[k] x2 x3 ts ++ [v, p] = .bool (c.funcs[k]).pub :: .string (str (c.funcs[k]).name) :: x2 :: x3 :: (ts ++ [v, p]) := fun v p => by simp [pre8]
          obtain ⟨a8, c8, e8⟩ := k8.form
          have hi40 : Hid ((Tryz.prog.info? 40).map (·.size) = some cs.length) := by show _ = _; rw [hl]; kernel_rfl
          have hi40' : Hid ((Tryz.prog.info? 40).map (·.size) = some cs.toArray.size) := by show _ = _; rw [List.size_toArray]; exact hi40.out
          have hl' : Hid (10 = cs.toArray.size) := by show _ = _; rw [List.size_toArray]; exact hl.symm
          have hR := hidO hr
          have P1 : Hid (∀ w1, Row w1 wr.heap.size 40 cs -> Below wr.heap.size wr w1 -> w1.cell? ⟨wr.heap.size, 9, none⟩ = some (.int .i64 (c.funcs[k]).pos) /\ w1.frozen? ⟨wr.heap.size, 9, none⟩ = false /\ (w1.setCell ⟨wr.heap.size, 9, none⟩ (.int .i64 0)).cell? ⟨wr.heap.size, 8, none⟩ = some (.slice a8 (c.funcs[k]).body.length c8) /\
              Calls Tryz.prog 40 #[.slice a8 (c.funcs[k]).body.length c8] (w1.setCell ⟨wr.heap.size, 9, none⟩ (.int .i64 0)) fun ev w2 => ∃ ao cap, ev = .returned (.slice ao (c.funcs[k]).body.length cap) /\ Row w2 wr.heap.size 40 (pre8 c.funcs[k] x2 x3 ts ++ [.slice a8 (c.funcs[k]).body.length c8, .int .i64 0]) /\ Below wr.heap.size wr w2 /\
                ∃ W1 : World, wr.heap.size < W1.heap.size /\ W1.heap.size <= w2.heap.size /\ ArQ 32 496 (StQ n (QK K W1 w2) K.B w2) (QK K W1 w2) w2 (.slice ao (c.funcs[k]).body.length cap) ((c.funcs[k]).body.map (bareS n))) := by
            intro w1 q1 hb1
            have hz1 := q1.lt
            rw [ecs, e8, ← pe] at q1
            have r2 := row_set9 q1 hlen (.int .i64 0)
            have s2 : Stay (fun q => q = wr.heap.size) w1 (w1.setCell ⟨wr.heap.size, 9, none⟩ (.int .i64 0)) := stay_one
            have z2 := s2.size
            have hbW : Below wr.heap.size wr (w1.setCell ⟨wr.heap.size, 9, none⟩ (.int .i64 0)) := hb1.trans (s2.below (by omega) (fun q hq => by omega))
            have hKW : Below K.C wr (w1.setCell ⟨wr.heap.size, 9, none⟩ (.int .i64 0)) := below_le hbW (by omega)
            refine ⟨(row_at8 q1 hlen).2, q1.fz 9, (row_at8 r2 hlen).1, ?_⟩
            rw [e8] at k8
            refine (xbare_any n (K := K) (by omega) (k8.mono hKW fun _ _ _ h => h.below hKW)).mono ?_
            rintro ev w2 ⟨a, cc, rfl, hb2, hq⟩
            exact ⟨a, cc, rfl, r2.below hb2 r2.lt, hbW.trans (below_le hb2 (by omega)), _, r2.lt, hb2.size, hq⟩
          have P2 : Hid (∀ w2 a cc, Row w2 wr.heap.size 40 (pre8 c.funcs[k] x2 x3 ts ++ [.slice a8 (c.funcs[k]).body.length c8, .int .i64 0]) -> Below wr.heap.size wr w2 ->
              (∃ W1 : World, wr.heap.size < W1.heap.size /\ W1.heap.size <= w2.heap.size /\ ArQ 32 496 (StQ n (QK K W1 w2) K.B w2) (QK K W1 w2) w2 (.slice a (c.funcs[k]).body.length cc) ((c.funcs[k]).body.map (bareS n))) ->
              w2.cell? ⟨wr.heap.size, 8, none⟩ = some (.slice a8 (c.funcs[k]).body.length c8) /\ w2.frozen? ⟨wr.heap.size, 8, none⟩ = false /\ (w2.setCell ⟨wr.heap.size, 8, none⟩ (.slice a (c.funcs[k]).body.length cc)).cell? ⟨w.heap.size + 1 + 1, 1, none⟩ = some (.slice bv k dv) /\
              ∃ cs2 : List Value, cs2.length = 10 /\ (w2.setCell ⟨wr.heap.size, 8, none⟩ (.slice a (c.funcs[k]).body.length cc)).rangeAt wr.heap.size 0 cs2 /\ (Tryz.prog.info? 40).map (·.size) = some cs2.length /\
                ∀ w5, Row w5 (w2.setCell ⟨wr.heap.size, 8, none⟩ (.slice a (c.funcs[k]).body.length cc)).heap.size 40 cs2 -> Below (w2.setCell ⟨wr.heap.size, 8, none⟩ (.slice a (c.funcs[k]).body.length cc)).heap.size (w2.setCell ⟨wr.heap.size, 8, none⟩ (.slice a (c.funcs[k]).body.length cc)) w5 ->
                  (w5.ownsRow wB.heap.size 40 10 (.slice bv k dv) k dn.flatten /\ wB.heap.size <= w5.heap.size /\ Row w5 (w2.setCell ⟨wr.heap.size, 8, none⟩ (.slice a (c.funcs[k]).body.length cc)).heap.size 40 cs2 /\ cs2.length = 10 /\ (∀ u ∈ cs2, u.oneCell' = true) /\ k <= 4611686018427387903 /\ (k + 1) * 176 <= 140737488355328) /\
                  ∀ g' cp w', w'.ownsRow wB.heap.size 40 10 (.slice (some ⟨g', 0, none⟩) (k + 1) cp) (k + 1) (dn.flatten ++ cs2) -> w5.grownBy w' (Value.slice bv k dv).ownBlock -> (some g' = (Value.slice bv k dv).ownBlock ∨ g' = w5.heap.size) ->
                    w'.cell? ⟨w.heap.size + 1 + 1, 1, none⟩ = some (.slice bv k dv) /\ w'.frozen? ⟨w.heap.size + 1 + 1, 1, none⟩ = false /\ InG 10 40 (FncQ n) (bareFn n) K c.funcs wB (w.heap.size + 1 + 1) (k + 1) (.slice (some ⟨g', 0, none⟩) (k + 1) cp) (w'.setCell ⟨w.heap.size + 1 + 1, 1, none⟩ (.slice (some ⟨g', 0, none⟩) (k + 1) cp)) /\ Row (w'.setCell ⟨w.heap.size + 1 + 1, 1, none⟩ (.slice (some ⟨g', 0, none⟩) (k + 1) cp)) (w.heap.size + 1 + 1) 25 [.slice av c.structs.length cv, .slice (some ⟨g', 0, none⟩) (k + 1) cp]) := by
            intro w2 a cc r2 hb2 ⟨W1, hW1, hW1', q1⟩
            have z2 := r2.lt
            have r3 := row_set8 r2 hlen (.slice a (c.funcs[k]).body.length cc)
            have s3 : Stay (fun q => q = wr.heap.size) w2 (w2.setCell ⟨wr.heap.size, 8, none⟩ (.slice a (c.funcs[k]).body.length cc)) := stay_one
            have z3 := s3.size
            have hbW : Below wr.heap.size wr (w2.setCell ⟨wr.heap.size, 8, none⟩ (.slice a (c.funcs[k]).body.length cc)) := hb2.trans (s3.below (by omega) (fun q hq => by omega))
            have hl2 : (pre8 c.funcs[k] x2 x3 ts ++ [Value.slice a (c.funcs[k]).body.length cc, .int .i64 0]).length = 10 := by rw [List.length_append, hlen]; rfl
            refine ⟨(row_at8 r2 hlen).1, r2.fz 8, (hrow.below hbW hrow.lt).cell 1, _, hl2, r3.range, by rw [hl2]; kernel_rfl, ?_⟩
            generalize (w2.setCell ⟨wr.heap.size, 8, none⟩ (.slice a (c.funcs[k]).body.length cc)) = w4 at *
            intro w5 r5 hb5
            have z5 := r5.lt
            have hb45 : Below wr.heap.size wr w5 := hbW.trans (below_le hb5 (by omega))
            have s25 : Stay (fun q => q = wr.heap.size) w2 w5 := s3.trans (Stay.of_below hb5)
            have hrow5 := hrow.below hb45 hrow.lt
            have hK5 : Below K.C wr w5 := below_le hb45 (by omega)
            have ones : ∀ u ∈ pre8 c.funcs[k] x2 x3 ts ++ [Value.slice a (c.funcs[k]).body.length cc, .int .i64 0], u.oneCell' = true := by
              rw [pe]
              exact ones_cons rfl (ones_cons rfl (ones_cons k2.one (ones_cons k3.one (ones_app kt.one (ones_cons rfl (ones_cons rfl ones_nil))))))
            refine ⟨⟨own_past' d3 hb45, by omega, r5, hl2, ones, by omega, by omega⟩, ?_⟩
            intro g' cp w' how hg hg'
            have hne : some (w.heap.size + 1 + 1) ≠ (Value.slice bv k dv).ownBlock := fun e => by
              have := (d3.lt _ e.symm).1
              omega
            have hrow6 : Row w' (w.heap.size + 1 + 1) 25 [.slice av c.structs.length cv, .slice bv k dv] := ⟨(hg.block _ hrow5.lt hne).trans hrow5.heap⟩
            refine ⟨hrow6.cell 1, hrow6.fz 1, ?_, hrow6.set 1 _⟩
            have hvb : ∀ g, (Value.slice bv k dv).ownBlock = some g -> g < wr.heap.size := fun g e => (d3.lt g e).2
            have kq : Kp (QK K W1 w2) (Qx K wB w5 (.slice bv k dv)) w2 w5 := by
              have z25 := s25.size
              refine ⟨fun q hq => ?_, fun q hq => ?_⟩
              . rcases hq with hq | ⟨hq1, hq2⟩
                . exact .inl hq
                . refine .inr ⟨by omega, by omega, fun e => ?_⟩
                  have := hvb q e
                  omega
              . rcases hq with hq | ⟨hq1, hq2⟩
                . exact s25.block q (by omega) (by omega)
                . exact s25.block q hq2 (by omega)
            refine InG.step (P := FncAt n) (kinFnc n) hst dn d1 d2 d3 d4 (by omega) (by omega) hb45 hl2 h3 ?_ how hg hg' stay_one
            have toQ : ∀ q, q < K.C -> Qx K wB w5 (.slice bv k dv) q := fun q hq => .inl hq
            refine ⟨x2, x3, ts, _, pe _ _, hn, (k2.mono hK5 fun _ _ _ h => h.below hK5).toQ toQ fun _ _ _ h => h.toQ toQ, (k3.mono hK5 fun _ _ _ h => h.below hK5).toQ toQ fun _ _ _ h => h.toQ toQ, (kt.below hK5).toQ toQ, ?_⟩
            have := q1.mono kq fun _ _ _ h => h.mono kq
            exact this
          subst e8
          clear hi hst d1 d2 d3 d4 hKr hzr hzB hz3 hCC hBY hl hr hbw r0 r1 hrow HRW HAY hs3 ecs hn k2 k3 kt k8 hlen pe HST
          generalize (c.funcs[k]).body.length = n8 at *
          go_wp2_with (first | (refine wpList_load_mid rfl 40 (.tmp 37) rfl b (o + k * 10) rfl cs _ hR.out Tryz.underlying40 rfl hi40.out ?_) | (refine store_newL rfl 40 (.tmp 7) (.tmp 38) rfl cs _ 40 rfl rfl hi40'.out hl'.out h1.out ?_; intro w1 t1 hb1; obtain ⟨q1, q2, q3, D1⟩ := P1.out w1 t1 hb1; replace D1 := hidO D1; clear t1 hb1 P1))
          refine D1.out.mono ?_
          rintro _ w2 ⟨a, cc, rfl, t2, hb2, hq1⟩
          obtain ⟨y1, y2, y3, cs2, l2, rg, hif, AF⟩ := P2.out w2 a cc t2 hb2 hq1
          replace rg := hidO rg
          replace hif := hidO hif
          replace AF := hidO AF
          replace l2 := hidO l2
          clear t2 hb2 hq1 D1 q1 q2 q3 P2
          go_wp2_with (first | (refine wpList_load_mid rfl 40 (.tmp 7) rfl wr.heap.size 0 rfl cs2 _ rg.out Tryz.underlying40 rfl hif.out ?_) | (refine bsliceL rfl 23 40 10 176 _ (.tmp 46) rfl Tryz.underlying23 Tryz.info40z (by decide) (by decide) cs2 l2.out rfl ?_; intro w5 r5 hb5 hz5; obtain ⟨hh, FIN⟩ := AF.out w5 r5 hb5; replace hh := hidO hh; replace FIN := hidO FIN; clear r5 hb5 AF) | (at_builtin; refine app_one rfl (.tmp 45) (.tmp 47) 23 40 10 176 _ rfl Tryz.underlying23 Tryz.info40z rfl (by decide) (.slice bv k dv) rfl _ rfl wB.heap.size k _ cs2 hh.out ?_; intro g' cp w6 how hg hg'; obtain ⟨t1, t2, t3, t4⟩ := FIN.out g' cp w6 how hg hg'; replace t3 := hidO t3; replace t4 := hidO t4; clear how hg hg' FIN hh))
          go_roundw
          case rel => exact ⟨k + 1, by omega, by go_num, _, t3.out, t4.out⟩
          case measure => simp [intOf]; omega
        . have i1 : ¬ (k : Int) < (c.funcs.length : Int) := by omega
          obtain rfl : k = c.funcs.length := by omega
          have y0 := hrow.cell 0
          have y1 := hrow.cell 1
          have u0 := r1.cell 0
          have u1 := r1.cell 1
          have z0 := r1.fz 0
          have z1 := r1.fz 1
          simp only [List.getElem?_cons_zero, List.getElem?_cons_succ] at y0 y1 u0 u1
          have HF : Hid (∀ W, W = (wr.setCell ⟨w.heap.size + 1, 0, none⟩ (.slice av c.structs.length cv)).setCell ⟨w.heap.size + 1, 1, none⟩ (.slice bv c.funcs.length dv) -> W.heap[w.heap.size + 1]? = some (.cells #[.slice av c.structs.length cv, .slice bv c.funcs.length dv] 25 (0, 0)) /\ ∀ e, e = Ending.returned (.agg #[.slice av c.structs.length cv, .slice bv c.funcs.length dv]) -> OutBC n K c w e W) := by
            rintro W rfl
            have hz3 := HSZ.out
            have hCC := HCC.out
            have zB := HSB.out.size
            have zr := hi.stay.size
            have R5 := (r1.set 0 (.slice av c.structs.length cv)).set 1 (.slice bv c.funcs.length dv)
            have s5 : Stay (fun q => q = w.heap.size + 1) wr ((wr.setCell ⟨w.heap.size + 1, 0, none⟩ (.slice av c.structs.length cv)).setCell ⟨w.heap.size + 1, 1, none⟩ (.slice bv c.funcs.length dv)) :=
              Stay.set (X := fun q => q = w.heap.size + 1) (Stay.set (X := fun q => q = w.heap.size + 1) (Stay.refl _ _) (fun _ => rfl) _ _) (fun _ => rfl) _ _
            have z5 := s5.size
            have qf := hi.done (P := FncAt n) (kinFnc n) HBY.out
            have ka : Kp (QK K w3 wB) (QK K w ((wr.setCell ⟨w.heap.size + 1, 0, none⟩ (.slice av c.structs.length cv)).setCell ⟨w.heap.size + 1, 1, none⟩ (.slice bv c.funcs.length dv))) wB ((wr.setCell ⟨w.heap.size + 1, 0, none⟩ (.slice av c.structs.length cv)).setCell ⟨w.heap.size + 1, 1, none⟩ (.slice bv c.funcs.length dv)) := by
              refine ⟨fun q hq => ?_, fun q hq => ?_⟩
              . rcases hq with hq | ⟨h1, h2⟩
                . exact .inl hq
                . exact .inr ⟨by omega, by omega⟩
              . rcases hq with hq | ⟨h1, h2⟩
                . rw [s5.block q (by omega) (by omega), hi.stay.block q (by omega) (by omega)]
                . rw [s5.block q (by omega) (by omega), hi.stay.block q (by omega) (by omega)]
            have kb : Kp (QK K wB wr) (QK K w ((wr.setCell ⟨w.heap.size + 1, 0, none⟩ (.slice av c.structs.length cv)).setCell ⟨w.heap.size + 1, 1, none⟩ (.slice bv c.funcs.length dv))) wr ((wr.setCell ⟨w.heap.size + 1, 0, none⟩ (.slice av c.structs.length cv)).setCell ⟨w.heap.size + 1, 1, none⟩ (.slice bv c.funcs.length dv)) := by
              refine ⟨fun q hq => ?_, fun q hq => ?_⟩
              . rcases hq with hq | ⟨h1, h2⟩
                . exact .inl hq
                . exact .inr ⟨by omega, by omega⟩
              . rcases hq with hq | ⟨h1, h2⟩
                . rw [s5.block q (by omega) (by omega)]
                . rw [s5.block q (by omega) (by omega)]
            refine ⟨R5.heap, fun e he => ⟨_, _, he, hbw.trans (s5.below (by omega) (fun q hq => by omega)), _, _, rfl, HST.out.mono ka fun _ _ _ h => h.mono ka, qf.mono kb fun _ _ _ h => h.mono kb⟩⟩
          clear hi hrow r0 r1 hbw hs3 HRW HAY HST
          go_wp2_with fail
          obtain ⟨t1, t2⟩ := HF.out _ rfl
          refine bodyPost_ret (v := .agg #[.slice av c.structs.length cv, .slice bv c.funcs.length dv]) (results_cell_row Tryz.results14 _ _ (w.heap.size + 1) 25 _ (0, 0) _ rfl t1 Tryz.underlying25 rfl (by kernel_rfl)) rfl (t2 _ rfl)
end Go.Proofs.YtjenmmkamhplkaaGreat
