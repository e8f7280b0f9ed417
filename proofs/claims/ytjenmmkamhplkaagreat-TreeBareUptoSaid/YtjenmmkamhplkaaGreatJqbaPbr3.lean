/-
  The texts Pbr, Tk2, Hav, joined.
-/
import Derived.Test.YtjenmmkamhplkaaGreatQqbaPwi
import Derived.Test.YtjenmmkamhplkaaGreatQqbaMfd
import Derived.Test.YtjenmmkamhplkaaGreatJqbaVal2
namespace Go.Proofs.YtjenmmkamhplkaaGreat
open Go.RowKit
set_option maxHeartbeats 8000000 in
theorem bare_any {n : Nat} {K : Ctx} {w : World} (hC : K.C <= w.heap.size) {c : Crt} {cs : List Value} (hx : CrtAt n K w cs c) :
  Calls Tryz.prog 11 #[.agg cs.toArray] w fun ev w' => ∃ u0 u1, ev = .returned (.agg #[u0, u1]) /\ Below w.heap.size w w' /\ CrtQ n (Fr w w') K.B w' [u0, u1] (bareC n c) := by
 obtain ⟨v0, v1, rfl, h0, h1⟩ := hx
 obtain ⟨w2, hw2⟩ : ∃ w2, w2 = (w.alloc (.cells #[v0, v1] 25)).alloc (.cells #[.slice none 0 0, .slice none 0 0] 25) := ⟨_, rfl⟩
 have hA : Below w.heap.size w w2 := by rw [hw2]; exact alloc_two w _ _
 have hsz : w2.heap.size = w.heap.size + 2 := by rw [hw2, size_alloc, size_alloc]
 have R1 : Row w2 w.heap.size 25 [v0, v1] := by rw [hw2]; exact (Row.new w 25 [v0, v1]).alloc _
 have R2 : Row w2 (w.heap.size + 1) 25 [.slice none 0 0, .slice none 0 0] := by
  have := Row.new (w.alloc (.cells #[v0, v1] 25)) 25 [.slice none 0 0, .slice none 0 0]
  rw [size_alloc] at this; rw [hw2]; exact this
 have hK := below_le hA hC
 have T0 : Hid (Calls Tryz.prog 30 #[.pointer (some ⟨w.heap.size, 0, none⟩), .func (.func 31) #[] #[]] ((w.alloc (.cells #[v0, v1] 25)).alloc (.cells #[.slice none 0 0, .slice none 0 0] 25)) fun ev w' => ev = .returned (.tuple #[]) /\ ∃ u0, Stay (fun k => k = w.heap.size) w2 w' /\ Row w' w.heap.size 25 [u0, v1] /\ ArQ 5 80 (SctQ (Fr w2 w') K.B w') (Fr w2 w') w' u0 (c.structs.map bareSc)) := by
  rw [← hw2]
  refine (ownScts_any (A := []) (R := [v1]) R1 rfl (h0.mono hK fun _ _ _ h => h.below hK) hC).mono ?_
  rintro _ w' ⟨rfl, u0, s1, r1, q1⟩
  exact ⟨rfl, u0, s1, r1, q1⟩
 have T1 : Hid (∀ w3 u0, Stay (fun k => k = w.heap.size) w2 w3 -> Row w3 w.heap.size 25 [u0, v1] -> ArQ 5 80 (SctQ (Fr w2 w3) K.B w3) (Fr w2 w3) w3 u0 (c.structs.map bareSc) -> Calls Tryz.prog 32 #[.pointer (some ⟨w.heap.size, 1, none⟩), .func (.func 33) #[] #[]] w3 fun ev w' => ev = .returned (.tuple #[]) /\
   ∃ a0 n0 p0 a1 n1 p1, w'.cell? ⟨w.heap.size, 0, none⟩ = some (.slice a0 n0 p0) /\ w'.cell? ⟨w.heap.size, 1, none⟩ = some (.slice a1 n1 p1) /\ Row w' (w.heap.size + 1) 25 [.slice none 0 0, .slice none 0 0] /\ Below w.heap.size w w' /\ w.heap.size + 2 <= w'.heap.size /\ CrtQ n (Fr w2 w') K.B w' [.slice a0 n0 p0, .slice a1 n1 p1] (bareC n c)) := by
  intro w3 u0 s1 r1 q1
  have hb3 : Below K.C w w3 := hK.trans (s1.below (by omega) (fun q hq => by omega))
  have z3 := s1.size
  refine (ownFncs_any n (A := [u0]) (R := []) r1 rfl (h1.mono hb3 fun _ _ _ h => h.below hb3) hC).mono ?_
  rintro _ w' ⟨rfl, u1, s2, r2, q2⟩
  have z4 := s2.size
  have R2' := s2.row (s1.row R2 (by omega)) (by omega)
  have k1 : Kp (Fr w2 w3) (Fr w2 w') w3 w' := Kp.fr s2 (by omega) (Nat.le_refl _)
  have k2 : Kp (Fr w3 w') (Fr w2 w') w' w' := Kp.fr' z3
  obtain ⟨a0, p0, e0⟩ := q1.form
  obtain ⟨a1, p1, e1⟩ := q2.form
  subst e0 e1
  exact ⟨rfl, a0, _, p0, a1, _, p1, r2.cell 0, r2.cell 1, R2', hA.trans ((s1.trans s2).below (by omega) (fun q hq => by omega)), by omega, _, _, rfl, q1.mono k1 fun _ _ _ h => h.mono k1, q2.mono k2 fun _ _ _ h => h.mono k2⟩
 obtain ⟨a0, c0, e0⟩ := h0.form
 obtain ⟨a1, c1, e1⟩ := h1.form
 subst e0 e1
 clear h0 h1 hA hK R1 R2
 generalize c.structs.length = n0, c.funcs.length = n1 at *
 have HSZ : Hid (w2.heap.size = w.heap.size + 2) := hsz
 clear hw2 hsz
 go_enter Tryz.func11, Tryz.ntmps11
 go_wp2_with fail
 refine T0.out.mono ?_
 rintro _ w3 ⟨rfl, u0, s1, r1, q1⟩
 have D := hidO (T1.out w3 u0 s1 r1 q1)
 clear T0 T1 s1 r1 q1
 go_wp2_with fail
 refine D.out.mono ?_
 rintro _ w4 ⟨rfl, b0, m0, p0, b1, m1, p1, k0, k1, R4, hb, hz, hq⟩
 clear D
 have z0 := R4.fz 0
 have z1 := R4.fz 1
 have y0 := R4.cell 0
 have y1 := R4.cell 1
 simp only [List.getElem?_cons_zero, List.getElem?_cons_succ] at y0 y1
 have HF : Hid (∀ W, W = (w4.setCell ⟨w.heap.size + 1, 0, none⟩ (.slice b0 m0 p0)).setCell ⟨w.heap.size + 1, 1, none⟩ (.slice b1 m1 p1) -> W.heap[w.heap.size + 1]? = some (.cells #[.slice b0 m0 p0, .slice b1 m1 p1] 25 (0, 0)) /\ Below w.heap.size w W /\ CrtQ n (Fr w W) K.B W [.slice b0 m0 p0, .slice b1 m1 p1] (bareC n c)) := by
  rintro W rfl
  have hs2 := HSZ.out
  have R5 := (R4.set 0 (.slice b0 m0 p0)).set 1 (.slice b1 m1 p1)
  have s5 : Stay (fun k => k = w.heap.size + 1) w4 ((w4.setCell ⟨w.heap.size + 1, 0, none⟩ (.slice b0 m0 p0)).setCell ⟨w.heap.size + 1, 1, none⟩ (.slice b1 m1 p1)) :=
   Stay.set (X := fun k => k = w.heap.size + 1) (Stay.set (X := fun k => k = w.heap.size + 1) (Stay.refl _ _) (fun _ => rfl) _ _) (fun _ => rfl) _ _
  exact ⟨R5.heap, hb.trans (s5.below (by omega) (fun q hq => by omega)), hq.mono (Kp.fr s5 (by omega) (by omega))⟩
 clear R4 hb hq hz
 go_wp2_with fail
 obtain ⟨g1, g2, g3⟩ := HF.out _ rfl
 refine bodyPost_ret (v := .agg #[.slice b0 m0 p0, .slice b1 m1 p1]) (results_cell_row Tryz.results11 _ _ (w.heap.size + 1) 25 _ (0, 0) _ rfl g1 Tryz.underlying25 rfl (by kernel_rfl)) rfl ⟨_, _, rfl, g2, g3⟩

set_option maxHeartbeats 4000000
set_option maxRecDepth 20000
theorem mayCall_any {K : Ctx} {w : World} (he : Env K w) {x : Va} {cs : List Value} (hx : VaAt K w cs x) (B : Bool) (hB : B = true ↔ MayCal x) :
  Calls Tryz.prog 116 #[.agg cs.toArray] w fun ev w' => ev = .returned (.bool B) /\ Below w.heap.size w w' := by
 have hA := alloc_one w (.cells cs.toArray 47)
 have hK := below_le hA he.C
 have T0 := fun B hB => mayValue_any (he.below hK) (hx.below hK) B hB
 obtain ⟨pa, pb, pp, pn, pv, na, nb, np, ca, cb, cp, cn, cv, rfl, h1, h2, h3, hl, h4, h5⟩ := hx.open
 clear hx h1 h2 h3 h4 h5 hl hK he
 by_cases k6 : x.kind = 6
 ·have b6 : (x.kind == 6) = true := by rw [k6]; rfl
  have D : Hid (Calls Tryz.prog 112 #[.agg #[.int .i64 x.kind, .int .i64 x.a.kind, .int .i64 x.a.n, .string (str x.a.place.name), .slice pa na ca, .int .i64 x.b.kind, .int .i64 x.b.n, .string (str x.b.place.name), .slice pb nb cb, .int .i64 x.op, .string (str x.place.name), .slice pp np cp, .string (str x.name), .slice pn x.names.length cn, .slice pv x.args.length cv]] (w.alloc (.cells #[.int .i64 x.kind, .int .i64 x.a.kind, .int .i64 x.a.n, .string (str x.a.place.name), .slice pa na ca, .int .i64 x.b.kind, .int .i64 x.b.n, .string (str x.b.place.name), .slice pb nb cb, .int .i64 x.op, .string (str x.place.name), .slice pp np cp, .string (str x.name), .slice pn x.names.length cn, .slice pv x.args.length cv] 47)) fun ev w' => ev = .returned (.bool B) /\ Below w.heap.size w w') :=
   (T0 B (by rw [hB]; exact ⟨fun h => h.2, fun h => ⟨k6, h⟩⟩)).mono fun _ _ h => ⟨h.1, hA.trans (below_le h.2 hA.size)⟩
  clear T0 hA hB k6
  generalize x.kind = kd, x.op = oo, x.a.kind = ak, x.a.n = an, str x.a.place.name = as1, x.b.kind = bk, x.b.n = bn, str x.b.place.name = bs1, str x.place.name = ps1, str x.name = ns1, x.names.length = l1, x.args.length = l2 at *
  go_enter Tryz.func116, Tryz.ntmps116
  go_wp2_with (go_at_call 112; refine D.out.mono ?_; rintro ev w2 ⟨rfl, hb2⟩)
  go_ret
  exact ⟨rfl, hb2⟩
 ·have b6 : (x.kind == 6) = false := by simpa using k6
  obtain rfl := bool_false hB (fun h => k6 h.1)
  have HA := hid0 hA
  clear T0 hA hB k6
  generalize x.kind = kd, x.op = oo, x.a.kind = ak, x.a.n = an, str x.a.place.name = as1, x.b.kind = bk, x.b.n = bn, str x.b.place.name = bs1, str x.place.name = ps1, str x.name = ns1, x.names.length = l1, x.args.length = l2 at *
  go_enter Tryz.func116, Tryz.ntmps116
  go_wp2_with fail
  go_ret
  exact ⟨rfl, HA.out⟩
theorem takeValue_any {K : Ctx} {w : World} (he : Env K w) {x : Va} {cs A R : List Value} {g t o : Nat} (hr : Row w g t (A ++ (cs ++ R))) (ho : A.length = o) (hx : VaAt K w cs x) (B : Bool) (hB : B = true ↔ MayVa x) :
  Calls Tryz.prog 115 #[.pointer (some ⟨g, o, none⟩), .func (.func 112) #[] #[]] w fun ev w' => ev = .returned (.bool B) /\ Row w' g t (A ++ (vaCells 0 ++ R)) /\ Stay (fun k => k = g) w w' := by
 have hlen := hx.len
 have hA := alloc_one w (.cells #[.int .i64 0, .int .i64 0, .int .i64 0, .string ⟨#[]⟩, .slice none 0 0, .int .i64 0, .int .i64 0, .string ⟨#[]⟩, .slice none 0 0, .int .i64 0, .string ⟨#[]⟩, .slice none 0 0, .string ⟨#[]⟩, .slice none 0 0, .slice none 0 0] 47)
 have hK := below_le hA he.C
 have D : Hid (Calls Tryz.prog 112 #[.agg cs.toArray] (w.alloc (.cells #[.int .i64 0, .int .i64 0, .int .i64 0, .string ⟨#[]⟩, .slice none 0 0, .int .i64 0, .int .i64 0, .string ⟨#[]⟩, .slice none 0 0, .int .i64 0, .string ⟨#[]⟩, .slice none 0 0, .string ⟨#[]⟩, .slice none 0 0, .slice none 0 0] 47)) fun ev w' => ev = .returned (.bool B) /\ Below (w.heap.size + 1) (w.alloc (.cells #[.int .i64 0, .int .i64 0, .int .i64 0, .string ⟨#[]⟩, .slice none 0 0, .int .i64 0, .int .i64 0, .string ⟨#[]⟩, .slice none 0 0, .int .i64 0, .string ⟨#[]⟩, .slice none 0 0, .string ⟨#[]⟩, .slice none 0 0, .slice none 0 0] 47)) w') := by
  refine (mayValue_any (he.below hK) (hx.below hK) B hB).mono ?_
  rw [size_alloc]
  exact fun _ _ h => h
 have HR : Hid (Row w g t (A ++ (cs ++ R))) := hr
 have hlt := hr.lt
 have HZ : Hid (∀ w2, Below (w.heap.size + 1) (w.alloc (.cells #[.int .i64 0, .int .i64 0, .int .i64 0, .string ⟨#[]⟩, .slice none 0 0, .int .i64 0, .int .i64 0, .string ⟨#[]⟩, .slice none 0 0, .int .i64 0, .string ⟨#[]⟩, .slice none 0 0, .string ⟨#[]⟩, .slice none 0 0, .slice none 0 0] 47)) w2 -> Row w2 w.heap.size 47 [.int .i64 0, .int .i64 0, .int .i64 0, .string ⟨#[]⟩, .slice none 0 0, .int .i64 0, .int .i64 0, .string ⟨#[]⟩, .slice none 0 0, .int .i64 0, .string ⟨#[]⟩, .slice none 0 0, .string ⟨#[]⟩, .slice none 0 0, .slice none 0 0] /\ Row w2 g t (A ++ (cs ++ R)) /\ Stay (fun k => k = g) w w2) := by
  intro w2 hb
  refine ⟨(Row.new w 47 [.int .i64 0, .int .i64 0, .int .i64 0, .string ⟨#[]⟩, .slice none 0 0, .int .i64 0, .int .i64 0, .string ⟨#[]⟩, .slice none 0 0, .int .i64 0, .string ⟨#[]⟩, .slice none 0 0, .string ⟨#[]⟩, .slice none 0 0, .slice none 0 0]).below hb (by omega), (hr.alloc _).below hb (by omega), ?_⟩
  exact (Stay.of_below hA).step (Stay.of_below (by rw [size_alloc]; exact hb)) (X := fun k => k = g) (Y := fun k => k = g) fun _ _ h => h
 have hrg : Hid ((w.alloc (.cells #[.int .i64 0, .int .i64 0, .int .i64 0, .string ⟨#[]⟩, .slice none 0 0, .int .i64 0, .int .i64 0, .string ⟨#[]⟩, .slice none 0 0, .int .i64 0, .string ⟨#[]⟩, .slice none 0 0, .string ⟨#[]⟩, .slice none 0 0, .slice none 0 0] 47)).rangeAt g o cs) := range_alloc (hr.mid ho) _
 have hi : Hid ((Tryz.prog.info? 47).map (·.size) = some cs.length) := by show _ = _; rw [hlen]; kernel_rfl
 have hi2 : Hid ((Tryz.prog.info? 47).map (·.size) = some ([.int .i64 0, .int .i64 0, .int .i64 0, .string ⟨#[]⟩, .slice none 0 0, .int .i64 0, .int .i64 0, .string ⟨#[]⟩, .slice none 0 0, .int .i64 0, .string ⟨#[]⟩, .slice none 0 0, .string ⟨#[]⟩, .slice none 0 0, .slice none 0 0] : List Value).length) := by show _ = _; kernel_rfl
 have hi3 : Hid ((Tryz.prog.info? 47).map (·.size) = some (#[.int .i64 0, .int .i64 0, .int .i64 0, .string ⟨#[]⟩, .slice none 0 0, .int .i64 0, .int .i64 0, .string ⟨#[]⟩, .slice none 0 0, .int .i64 0, .string ⟨#[]⟩, .slice none 0 0, .string ⟨#[]⟩, .slice none 0 0, .slice none 0 0] : Array Value).size) := by show _ = _; kernel_rfl
 have h1 : Hid ((#[.int .i64 0, .int .i64 0, .int .i64 0, .string ⟨#[]⟩, .slice none 0 0, .int .i64 0, .int .i64 0, .string ⟨#[]⟩, .slice none 0 0, .int .i64 0, .string ⟨#[]⟩, .slice none 0 0, .string ⟨#[]⟩, .slice none 0 0, .slice none 0 0] : Array Value).all (·.oneCell') = true) := by show _ = _; kernel_rfl
 have HO : Hid (A.length = o) := ho
 have HL : Hid (cs.length = 15) := hlen
 clear hr hx hB he hA hK hlen ho hlt
 go_enter Tryz.func115, Tryz.ntmps115
 go_wp2_with (first | (refine wpList_load_mid rfl 47 (.tmp 9) rfl g o rfl cs _ hrg.out Tryz.underlying47 rfl hi.out ?_) | (go_at_call 112; refine D.out.mono ?_; rintro ev w2 ⟨rfl, hb2⟩; obtain ⟨r1, r2, hs⟩ := HZ.out w2 hb2; clear hb2 HZ hrg D HR; have R2 : Hid (Row w2 g t (A ++ (cs ++ R))) := r2; have R1 : Hid (Row w2 w.heap.size 47 [.int .i64 0, .int .i64 0, .int .i64 0, .string ⟨#[]⟩, .slice none 0 0, .int .i64 0, .int .i64 0, .string ⟨#[]⟩, .slice none 0 0, .int .i64 0, .string ⟨#[]⟩, .slice none 0 0, .string ⟨#[]⟩, .slice none 0 0, .slice none 0 0]) := r1; have HS : Hid (Stay (fun k => k = g) w w2) := hs; clear r1 r2 hs) | (refine wpList_load_mid rfl 47 (.tmp 5) rfl w.heap.size 0 rfl [.int .i64 0, .int .i64 0, .int .i64 0, .string ⟨#[]⟩, .slice none 0 0, .int .i64 0, .int .i64 0, .string ⟨#[]⟩, .slice none 0 0, .int .i64 0, .string ⟨#[]⟩, .slice none 0 0, .string ⟨#[]⟩, .slice none 0 0, .slice none 0 0] _ R1.out.range Tryz.underlying47 rfl hi2.out ?_) | (refine wpList_store_mid rfl 47 (.tmp 14) (.tmp 13) rfl g o #[.int .i64 0, .int .i64 0, .int .i64 0, .string ⟨#[]⟩, .slice none 0 0, .int .i64 0, .int .i64 0, .string ⟨#[]⟩, .slice none 0 0, .int .i64 0, .string ⟨#[]⟩, .slice none 0 0, .string ⟨#[]⟩, .slice none 0 0, .slice none 0 0] rfl rfl (R2.out.there o 15 (by have := HO.out; have := HL.out; simp; omega)) hi3.out h1.out ?_))
 go_ret
 exact ⟨rfl, Row.setCells [.int .i64 0, .int .i64 0, .int .i64 0, .string ⟨#[]⟩, .slice none 0 0, .int .i64 0, .int .i64 0, .string ⟨#[]⟩, .slice none 0 0, .int .i64 0, .string ⟨#[]⟩, .slice none 0 0, .string ⟨#[]⟩, .slice none 0 0, .slice none 0 0] cs A R w2 o R2.out HO.out HL.out, stay_setCells _ _ _ _ HS.out (fun _ => rfl)⟩
theorem takeCall_any {K : Ctx} {w : World} (he : Env K w) {x : Va} {cs A R : List Value} {g t o : Nat} (hr : Row w g t (A ++ (cs ++ R))) (ho : A.length = o) (hx : VaAt K w cs x) (B : Bool) (hB : B = true ↔ MayCal x) :
  Calls Tryz.prog 115 #[.pointer (some ⟨g, o, none⟩), .func (.func 116) #[] #[]] w fun ev w' => ev = .returned (.bool B) /\ Row w' g t (A ++ (vaCells 0 ++ R)) /\ Stay (fun k => k = g) w w' := by
 have hlen := hx.len
 have hA := alloc_one w (.cells #[.int .i64 0, .int .i64 0, .int .i64 0, .string ⟨#[]⟩, .slice none 0 0, .int .i64 0, .int .i64 0, .string ⟨#[]⟩, .slice none 0 0, .int .i64 0, .string ⟨#[]⟩, .slice none 0 0, .string ⟨#[]⟩, .slice none 0 0, .slice none 0 0] 47)
 have hK := below_le hA he.C
 have D : Hid (Calls Tryz.prog 116 #[.agg cs.toArray] (w.alloc (.cells #[.int .i64 0, .int .i64 0, .int .i64 0, .string ⟨#[]⟩, .slice none 0 0, .int .i64 0, .int .i64 0, .string ⟨#[]⟩, .slice none 0 0, .int .i64 0, .string ⟨#[]⟩, .slice none 0 0, .string ⟨#[]⟩, .slice none 0 0, .slice none 0 0] 47)) fun ev w' => ev = .returned (.bool B) /\ Below (w.heap.size + 1) (w.alloc (.cells #[.int .i64 0, .int .i64 0, .int .i64 0, .string ⟨#[]⟩, .slice none 0 0, .int .i64 0, .int .i64 0, .string ⟨#[]⟩, .slice none 0 0, .int .i64 0, .string ⟨#[]⟩, .slice none 0 0, .string ⟨#[]⟩, .slice none 0 0, .slice none 0 0] 47)) w') := by
  refine (mayCall_any (he.below hK) (hx.below hK) B hB).mono ?_
  rw [size_alloc]
  exact fun _ _ h => h
 have HR : Hid (Row w g t (A ++ (cs ++ R))) := hr
 have hlt := hr.lt
 have HZ : Hid (∀ w2, Below (w.heap.size + 1) (w.alloc (.cells #[.int .i64 0, .int .i64 0, .int .i64 0, .string ⟨#[]⟩, .slice none 0 0, .int .i64 0, .int .i64 0, .string ⟨#[]⟩, .slice none 0 0, .int .i64 0, .string ⟨#[]⟩, .slice none 0 0, .string ⟨#[]⟩, .slice none 0 0, .slice none 0 0] 47)) w2 -> Row w2 w.heap.size 47 [.int .i64 0, .int .i64 0, .int .i64 0, .string ⟨#[]⟩, .slice none 0 0, .int .i64 0, .int .i64 0, .string ⟨#[]⟩, .slice none 0 0, .int .i64 0, .string ⟨#[]⟩, .slice none 0 0, .string ⟨#[]⟩, .slice none 0 0, .slice none 0 0] /\ Row w2 g t (A ++ (cs ++ R)) /\ Stay (fun k => k = g) w w2) := by
  intro w2 hb
  refine ⟨(Row.new w 47 [.int .i64 0, .int .i64 0, .int .i64 0, .string ⟨#[]⟩, .slice none 0 0, .int .i64 0, .int .i64 0, .string ⟨#[]⟩, .slice none 0 0, .int .i64 0, .string ⟨#[]⟩, .slice none 0 0, .string ⟨#[]⟩, .slice none 0 0, .slice none 0 0]).below hb (by omega), (hr.alloc _).below hb (by omega), ?_⟩
  exact (Stay.of_below hA).step (Stay.of_below (by rw [size_alloc]; exact hb)) (X := fun k => k = g) (Y := fun k => k = g) fun _ _ h => h
 have hrg : Hid ((w.alloc (.cells #[.int .i64 0, .int .i64 0, .int .i64 0, .string ⟨#[]⟩, .slice none 0 0, .int .i64 0, .int .i64 0, .string ⟨#[]⟩, .slice none 0 0, .int .i64 0, .string ⟨#[]⟩, .slice none 0 0, .string ⟨#[]⟩, .slice none 0 0, .slice none 0 0] 47)).rangeAt g o cs) := range_alloc (hr.mid ho) _
 have hi : Hid ((Tryz.prog.info? 47).map (·.size) = some cs.length) := by show _ = _; rw [hlen]; kernel_rfl
 have hi2 : Hid ((Tryz.prog.info? 47).map (·.size) = some ([.int .i64 0, .int .i64 0, .int .i64 0, .string ⟨#[]⟩, .slice none 0 0, .int .i64 0, .int .i64 0, .string ⟨#[]⟩, .slice none 0 0, .int .i64 0, .string ⟨#[]⟩, .slice none 0 0, .string ⟨#[]⟩, .slice none 0 0, .slice none 0 0] : List Value).length) := by show _ = _; kernel_rfl
 have hi3 : Hid ((Tryz.prog.info? 47).map (·.size) = some (#[.int .i64 0, .int .i64 0, .int .i64 0, .string ⟨#[]⟩, .slice none 0 0, .int .i64 0, .int .i64 0, .string ⟨#[]⟩, .slice none 0 0, .int .i64 0, .string ⟨#[]⟩, .slice none 0 0, .string ⟨#[]⟩, .slice none 0 0, .slice none 0 0] : Array Value).size) := by show _ = _; kernel_rfl
 have h1 : Hid ((#[.int .i64 0, .int .i64 0, .int .i64 0, .string ⟨#[]⟩, .slice none 0 0, .int .i64 0, .int .i64 0, .string ⟨#[]⟩, .slice none 0 0, .int .i64 0, .string ⟨#[]⟩, .slice none 0 0, .string ⟨#[]⟩, .slice none 0 0, .slice none 0 0] : Array Value).all (·.oneCell') = true) := by show _ = _; kernel_rfl
 have HO : Hid (A.length = o) := ho
 have HL : Hid (cs.length = 15) := hlen
 clear hr hx hB he hA hK hlen ho hlt
 go_enter Tryz.func115, Tryz.ntmps115
 go_wp2_with (first | (refine wpList_load_mid rfl 47 (.tmp 9) rfl g o rfl cs _ hrg.out Tryz.underlying47 rfl hi.out ?_) | (go_at_call 116; refine D.out.mono ?_; rintro ev w2 ⟨rfl, hb2⟩; obtain ⟨r1, r2, hs⟩ := HZ.out w2 hb2; clear hb2 HZ hrg D HR; have R2 : Hid (Row w2 g t (A ++ (cs ++ R))) := r2; have R1 : Hid (Row w2 w.heap.size 47 [.int .i64 0, .int .i64 0, .int .i64 0, .string ⟨#[]⟩, .slice none 0 0, .int .i64 0, .int .i64 0, .string ⟨#[]⟩, .slice none 0 0, .int .i64 0, .string ⟨#[]⟩, .slice none 0 0, .string ⟨#[]⟩, .slice none 0 0, .slice none 0 0]) := r1; have HS : Hid (Stay (fun k => k = g) w w2) := hs; clear r1 r2 hs) | (refine wpList_load_mid rfl 47 (.tmp 5) rfl w.heap.size 0 rfl [.int .i64 0, .int .i64 0, .int .i64 0, .string ⟨#[]⟩, .slice none 0 0, .int .i64 0, .int .i64 0, .string ⟨#[]⟩, .slice none 0 0, .int .i64 0, .string ⟨#[]⟩, .slice none 0 0, .string ⟨#[]⟩, .slice none 0 0, .slice none 0 0] _ R1.out.range Tryz.underlying47 rfl hi2.out ?_) | (refine wpList_store_mid rfl 47 (.tmp 14) (.tmp 13) rfl g o #[.int .i64 0, .int .i64 0, .int .i64 0, .string ⟨#[]⟩, .slice none 0 0, .int .i64 0, .int .i64 0, .string ⟨#[]⟩, .slice none 0 0, .int .i64 0, .string ⟨#[]⟩, .slice none 0 0, .string ⟨#[]⟩, .slice none 0 0, .slice none 0 0] rfl rfl (R2.out.there o 15 (by have := HO.out; have := HL.out; simp; omega)) hi3.out h1.out ?_))
 go_ret
 exact ⟨rfl, Row.setCells [.int .i64 0, .int .i64 0, .int .i64 0, .string ⟨#[]⟩, .slice none 0 0, .int .i64 0, .int .i64 0, .string ⟨#[]⟩, .slice none 0 0, .int .i64 0, .string ⟨#[]⟩, .slice none 0 0, .string ⟨#[]⟩, .slice none 0 0, .slice none 0 0] cs A R w2 o R2.out HO.out HL.out, stay_setCells _ _ _ _ HS.out (fun _ => rfl)⟩

theorem below_set {K : Ctx} {w : World} {g : Nat} (hg : K.C <= g) (j : Nat) (v : Value) (hC : K.C <= w.heap.size) : Below K.C w (w.setCell ⟨g, j, none⟩ v) :=
 ((Stay.refl (fun k => k = g) w).set (fun _ => rfl) j v).below hC (fun k hk => by omega)
theorem have_rows {w : World} {g t : Nat} {h : Bool} {A M cs R : List Value} (hr : Row w g t (A ++ ([.bool h] ++ (M ++ (cs ++ R))))) (hA : A.length = 8) (v : Bool) :
  Row (w.setCell ⟨g, 8, none⟩ (.bool v)) g t (A ++ ([.bool v] ++ (M ++ (cs ++ R)))) := by
 have := Row.setCells [.bool v] [.bool h] A (M ++ (cs ++ R)) w 8 hr hA rfl
 exact this
set_option maxHeartbeats 4000000 in
theorem haveValue_any {K : Ctx} {w : World} (he : Env K w) {x : Va} {h : Bool} {A M cs R : List Value} {g t : Nat} (hr : Row w g t (A ++ ([.bool h] ++ (M ++ (cs ++ R))))) (hA : A.length = 8) (hM : M.length = 2) (hg : K.C <= g)
  (hx : VaAt K w cs x) (B : Bool) (hB : B = true ↔ (h = true -> MayVa x)) :
  Calls Tryz.prog 111 #[.pointer (some ⟨g, 0, none⟩), .pointer (some ⟨g, 11, none⟩), .func (.func 112) #[] #[]] w fun ev w' => ev = .returned (.bool B) /\ Row w' g t (A ++ ([.bool false] ++ (M ++ ((if h then vaCells 0 else cs) ++ R)))) /\ Stay (fun k => k = g) w w' := by
 have c8 : w.cell? ⟨g, 8, none⟩ = some (.bool h) := by
  rw [hr.cell 8]
  exact sub_of A [.bool h] (M ++ (cs ++ R)) hA 0 (by simp)
 have z8 := hr.fz 8
 have hr2 := have_rows hr hA false
 have hS := (Stay.refl (fun k => k = g) w).set (fun _ => rfl) 8 (.bool false)
 have hb := below_set hg 8 (.bool false) he.C
 cases h
 ·obtain rfl := bool_true hB (fun h => by cases h)
  have HR := hid0 hr2
  have HS := hid0 hS
  clear hr hr2 hS hb hB he hx
  go_enter Tryz.func111, Tryz.ntmps111
  go_wp2_with fail
  go_ret
  exact ⟨rfl, HR.out, HS.out⟩
 ·have hr3 : Row (w.setCell ⟨g, 8, none⟩ (.bool false)) g t ((A ++ ([.bool false] ++ M)) ++ (cs ++ R)) := by
   have := hr2
   simp only [List.append_assoc] at this ⊢
   exact this
  have D : Hid (Calls Tryz.prog 115 #[.pointer (some ⟨g, 11, none⟩), .func (.func 112) #[] #[]] (w.setCell ⟨g, 8, none⟩ (.bool false)) fun ev w' => ev = .returned (.bool B) /\ Row w' g t (A ++ ([.bool false] ++ (M ++ (vaCells 0 ++ R)))) /\ Stay (fun k => k = g) w w') := by
   refine (takeValue_any (he.below hb) hr3 (by simp [hA, hM]) (hx.below hb) B (by rw [hB]; exact ⟨fun h => h rfl, fun h _ => h⟩)).mono ?_
   rintro _ _ ⟨rfl, hr4, hs4⟩
   refine ⟨rfl, ?_, hS.trans hs4⟩
   simp only [List.append_assoc] at hr4
   exact hr4
  clear hr hr2 hr3 hS hb hB he hx
  go_enter Tryz.func111, Tryz.ntmps111
  go_wp2_with (go_at_call 115; refine D.out.mono ?_; rintro ev w2 ⟨rfl, h2, h3⟩)
  go_ret
  exact ⟨rfl, h2, h3⟩
end Go.Proofs.YtjenmmkamhplkaaGreat
