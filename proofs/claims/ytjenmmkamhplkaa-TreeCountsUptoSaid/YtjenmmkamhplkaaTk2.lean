/-
  Values and blocks are asked and blanked; what a statement has if it says so.
-/
import Derived.Test.YtjenmmkamhplkaaJVal2
namespace Go.Proofs.Ytjenmmkamhplkaa
open Go.RowKit

set_option maxHeartbeats 4000000 in
set_option maxRecDepth 20000 in
theorem mayCall_any {K : Ctx} {w : World} (he : Env K w) {x : Va} {cs : List Value} (hx : VaAt K w cs x) (B : Bool) (hB : B = true ↔ MayCal x) :
    Calls Try.prog 71 #[.agg cs.toArray] w fun ev w' => ev = .returned (.bool B) ∧ Below w.heap.size w w' := by
  have hA := alloc_one w (.cells cs.toArray 48)
  have hK := below_le hA he.C
  have T0 := fun B hB => mayValue_any (he.below hK) (hx.below hK) B hB
  obtain ⟨pa, pb, pp, pn, pv, na, nb, np, ca, cb, cp, cn, cv, rfl, h1, h2, h3, hl, h4, h5⟩ := hx.open
  clear hx h1 h2 h3 h4 h5 hl hK he
  by_cases k6 : x.kind = 6
  · have b6 : (x.kind == 6) = true := by rw [k6]; rfl
    have D : Hid (Calls Try.prog 67 #[.agg #[.int .i64 x.kind, .int .i64 x.a.kind, .int .i64 x.a.n, .string (str x.a.place.name), .slice pa na ca, .int .i64 x.b.kind, .int .i64 x.b.n, .string (str x.b.place.name), .slice pb nb cb, .int .i64 x.op, .string (str x.place.name), .slice pp np cp, .string (str x.name), .slice pn x.names.length cn, .slice pv x.args.length cv]] (w.alloc (.cells #[.int .i64 x.kind, .int .i64 x.a.kind, .int .i64 x.a.n, .string (str x.a.place.name), .slice pa na ca, .int .i64 x.b.kind, .int .i64 x.b.n, .string (str x.b.place.name), .slice pb nb cb, .int .i64 x.op, .string (str x.place.name), .slice pp np cp, .string (str x.name), .slice pn x.names.length cn, .slice pv x.args.length cv] 48)) fun ev w' => ev = .returned (.bool B) ∧ Below w.heap.size w w') :=
      (T0 B (by rw [hB]; exact ⟨fun h => h.2, fun h => ⟨k6, h⟩⟩)).mono fun _ _ h => ⟨h.1, hA.trans (below_le h.2 hA.size)⟩
    clear T0 hA hB k6
    generalize x.kind = kd at *
    generalize x.op = oo at *
    generalize x.a.kind = ak at *
    generalize x.a.n = an at *
    generalize str x.a.place.name = as1 at *
    generalize x.b.kind = bk at *
    generalize x.b.n = bn at *
    generalize str x.b.place.name = bs1 at *
    generalize str x.place.name = ps1 at *
    generalize str x.name = ns1 at *
    generalize x.names.length = l1 at *
    generalize x.args.length = l2 at *
    go_enter Try.func71, Try.ntmps71
    go_wp2_with (go_at_call 67; refine D.out.mono ?_; rintro ev w2 ⟨rfl, hb2⟩)
    go_ret
    exact ⟨rfl, hb2⟩
  · have b6 : (x.kind == 6) = false := by simpa using k6
    obtain rfl := bool_false hB (fun h => k6 h.1)
    have HA : Hid (Below w.heap.size w (w.alloc (.cells #[.int .i64 x.kind, .int .i64 x.a.kind, .int .i64 x.a.n, .string (str x.a.place.name), .slice pa na ca, .int .i64 x.b.kind, .int .i64 x.b.n, .string (str x.b.place.name), .slice pb nb cb, .int .i64 x.op, .string (str x.place.name), .slice pp np cp, .string (str x.name), .slice pn x.names.length cn, .slice pv x.args.length cv] 48))) := hA
    clear T0 hA hB k6
    generalize x.kind = kd at *
    generalize x.op = oo at *
    generalize x.a.kind = ak at *
    generalize x.a.n = an at *
    generalize str x.a.place.name = as1 at *
    generalize x.b.kind = bk at *
    generalize x.b.n = bn at *
    generalize str x.b.place.name = bs1 at *
    generalize str x.place.name = ps1 at *
    generalize str x.name = ns1 at *
    generalize x.names.length = l1 at *
    generalize x.args.length = l2 at *
    go_enter Try.func71, Try.ntmps71
    go_wp2_with fail
    go_ret
    exact ⟨rfl, HA.out⟩

set_option maxHeartbeats 4000000 in
theorem takeValue_any {K : Ctx} {w : World} (he : Env K w) {x : Va} {cs A R : List Value} {g t o : Nat} (hr : Row w g t (A ++ (cs ++ R))) (ho : A.length = o) (hx : VaAt K w cs x) (B : Bool) (hB : B = true ↔ MayVa x) :
    Calls Try.prog 70 #[.pointer (some ⟨g, o, none⟩), .func (.func 67) #[] #[]] w fun ev w' => ev = .returned (.bool B) ∧ Row w' g t (A ++ (vaCells 0 ++ R)) ∧ Stay (fun k => k = g) w w' := by
  have hlen := hx.len
  have hA := alloc_one w (.cells #[.int .i64 0, .int .i64 0, .int .i64 0, .string ⟨#[]⟩, .slice none 0 0, .int .i64 0, .int .i64 0, .string ⟨#[]⟩, .slice none 0 0, .int .i64 0, .string ⟨#[]⟩, .slice none 0 0, .string ⟨#[]⟩, .slice none 0 0, .slice none 0 0] 48)
  have hK := below_le hA he.C
  have D : Hid (Calls Try.prog 67 #[.agg cs.toArray] (w.alloc (.cells #[.int .i64 0, .int .i64 0, .int .i64 0, .string ⟨#[]⟩, .slice none 0 0, .int .i64 0, .int .i64 0, .string ⟨#[]⟩, .slice none 0 0, .int .i64 0, .string ⟨#[]⟩, .slice none 0 0, .string ⟨#[]⟩, .slice none 0 0, .slice none 0 0] 48)) fun ev w' => ev = .returned (.bool B) ∧ Below (w.heap.size + 1) (w.alloc (.cells #[.int .i64 0, .int .i64 0, .int .i64 0, .string ⟨#[]⟩, .slice none 0 0, .int .i64 0, .int .i64 0, .string ⟨#[]⟩, .slice none 0 0, .int .i64 0, .string ⟨#[]⟩, .slice none 0 0, .string ⟨#[]⟩, .slice none 0 0, .slice none 0 0] 48)) w') := by
    refine (mayValue_any (he.below hK) (hx.below hK) B hB).mono ?_
    rw [size_alloc]
    exact fun _ _ h => h
  have HR : Hid (Row w g t (A ++ (cs ++ R))) := hr
  have hlt := hr.lt
  have HZ : Hid (∀ w2, Below (w.heap.size + 1) (w.alloc (.cells #[.int .i64 0, .int .i64 0, .int .i64 0, .string ⟨#[]⟩, .slice none 0 0, .int .i64 0, .int .i64 0, .string ⟨#[]⟩, .slice none 0 0, .int .i64 0, .string ⟨#[]⟩, .slice none 0 0, .string ⟨#[]⟩, .slice none 0 0, .slice none 0 0] 48)) w2 → Row w2 w.heap.size 48 [.int .i64 0, .int .i64 0, .int .i64 0, .string ⟨#[]⟩, .slice none 0 0, .int .i64 0, .int .i64 0, .string ⟨#[]⟩, .slice none 0 0, .int .i64 0, .string ⟨#[]⟩, .slice none 0 0, .string ⟨#[]⟩, .slice none 0 0, .slice none 0 0] ∧ Row w2 g t (A ++ (cs ++ R)) ∧ Stay (fun k => k = g) w w2) := by
    intro w2 hb
    refine ⟨(Row.new w 48 [.int .i64 0, .int .i64 0, .int .i64 0, .string ⟨#[]⟩, .slice none 0 0, .int .i64 0, .int .i64 0, .string ⟨#[]⟩, .slice none 0 0, .int .i64 0, .string ⟨#[]⟩, .slice none 0 0, .string ⟨#[]⟩, .slice none 0 0, .slice none 0 0]).below hb (by omega), (hr.alloc _).below hb (by omega), ?_⟩
    exact (Stay.of_below hA).step (Stay.of_below (by rw [size_alloc]; exact hb)) (X := fun k => k = g) (Y := fun k => k = g) fun _ _ h => h
  have hrg : Hid ((w.alloc (.cells #[.int .i64 0, .int .i64 0, .int .i64 0, .string ⟨#[]⟩, .slice none 0 0, .int .i64 0, .int .i64 0, .string ⟨#[]⟩, .slice none 0 0, .int .i64 0, .string ⟨#[]⟩, .slice none 0 0, .string ⟨#[]⟩, .slice none 0 0, .slice none 0 0] 48)).rangeAt g o cs) := range_alloc (hr.mid ho) _
  have hi : Hid ((Try.prog.info? 48).map (·.size) = some cs.length) := by show _ = _; rw [hlen]; kernel_rfl
  have hi2 : Hid ((Try.prog.info? 48).map (·.size) = some ([.int .i64 0, .int .i64 0, .int .i64 0, .string ⟨#[]⟩, .slice none 0 0, .int .i64 0, .int .i64 0, .string ⟨#[]⟩, .slice none 0 0, .int .i64 0, .string ⟨#[]⟩, .slice none 0 0, .string ⟨#[]⟩, .slice none 0 0, .slice none 0 0] : List Value).length) := by show _ = _; kernel_rfl
  have hi3 : Hid ((Try.prog.info? 48).map (·.size) = some (#[.int .i64 0, .int .i64 0, .int .i64 0, .string ⟨#[]⟩, .slice none 0 0, .int .i64 0, .int .i64 0, .string ⟨#[]⟩, .slice none 0 0, .int .i64 0, .string ⟨#[]⟩, .slice none 0 0, .string ⟨#[]⟩, .slice none 0 0, .slice none 0 0] : Array Value).size) := by show _ = _; kernel_rfl
  have h1 : Hid ((#[.int .i64 0, .int .i64 0, .int .i64 0, .string ⟨#[]⟩, .slice none 0 0, .int .i64 0, .int .i64 0, .string ⟨#[]⟩, .slice none 0 0, .int .i64 0, .string ⟨#[]⟩, .slice none 0 0, .string ⟨#[]⟩, .slice none 0 0, .slice none 0 0] : Array Value).all (·.oneCell') = true) := by show _ = _; kernel_rfl
  have HO : Hid (A.length = o) := ho
  have HL : Hid (cs.length = 15) := hlen
  clear hr hx hB he hA hK hlen ho hlt
  go_enter Try.func70, Try.ntmps70
  go_wp2_with (first | (refine wpList_load_mid rfl 48 (.tmp 9) rfl g o rfl cs _ hrg.out Try.underlying48 rfl hi.out ?_) | (go_at_call 67; refine D.out.mono ?_; rintro ev w2 ⟨rfl, hb2⟩; obtain ⟨r1, r2, hs⟩ := HZ.out w2 hb2; clear hb2 HZ hrg D HR; have R2 : Hid (Row w2 g t (A ++ (cs ++ R))) := r2; have R1 : Hid (Row w2 w.heap.size 48 [.int .i64 0, .int .i64 0, .int .i64 0, .string ⟨#[]⟩, .slice none 0 0, .int .i64 0, .int .i64 0, .string ⟨#[]⟩, .slice none 0 0, .int .i64 0, .string ⟨#[]⟩, .slice none 0 0, .string ⟨#[]⟩, .slice none 0 0, .slice none 0 0]) := r1; have HS : Hid (Stay (fun k => k = g) w w2) := hs; clear r1 r2 hs) | (refine wpList_load_mid rfl 48 (.tmp 5) rfl w.heap.size 0 rfl [.int .i64 0, .int .i64 0, .int .i64 0, .string ⟨#[]⟩, .slice none 0 0, .int .i64 0, .int .i64 0, .string ⟨#[]⟩, .slice none 0 0, .int .i64 0, .string ⟨#[]⟩, .slice none 0 0, .string ⟨#[]⟩, .slice none 0 0, .slice none 0 0] _ R1.out.range Try.underlying48 rfl hi2.out ?_) | (refine wpList_store_mid rfl 48 (.tmp 14) (.tmp 13) rfl g o #[.int .i64 0, .int .i64 0, .int .i64 0, .string ⟨#[]⟩, .slice none 0 0, .int .i64 0, .int .i64 0, .string ⟨#[]⟩, .slice none 0 0, .int .i64 0, .string ⟨#[]⟩, .slice none 0 0, .string ⟨#[]⟩, .slice none 0 0, .slice none 0 0] rfl rfl (R2.out.there o 15 (by have := HO.out; have := HL.out; simp; omega)) hi3.out h1.out ?_))
  go_ret
  exact ⟨rfl, Row.setCells [.int .i64 0, .int .i64 0, .int .i64 0, .string ⟨#[]⟩, .slice none 0 0, .int .i64 0, .int .i64 0, .string ⟨#[]⟩, .slice none 0 0, .int .i64 0, .string ⟨#[]⟩, .slice none 0 0, .string ⟨#[]⟩, .slice none 0 0, .slice none 0 0] cs A R w2 o R2.out HO.out HL.out, stay_setCells _ _ _ _ HS.out (fun _ => rfl)⟩

set_option maxHeartbeats 4000000 in
theorem takeCall_any {K : Ctx} {w : World} (he : Env K w) {x : Va} {cs A R : List Value} {g t o : Nat} (hr : Row w g t (A ++ (cs ++ R))) (ho : A.length = o) (hx : VaAt K w cs x) (B : Bool) (hB : B = true ↔ MayCal x) :
    Calls Try.prog 70 #[.pointer (some ⟨g, o, none⟩), .func (.func 71) #[] #[]] w fun ev w' => ev = .returned (.bool B) ∧ Row w' g t (A ++ (vaCells 0 ++ R)) ∧ Stay (fun k => k = g) w w' := by
  have hlen := hx.len
  have hA := alloc_one w (.cells #[.int .i64 0, .int .i64 0, .int .i64 0, .string ⟨#[]⟩, .slice none 0 0, .int .i64 0, .int .i64 0, .string ⟨#[]⟩, .slice none 0 0, .int .i64 0, .string ⟨#[]⟩, .slice none 0 0, .string ⟨#[]⟩, .slice none 0 0, .slice none 0 0] 48)
  have hK := below_le hA he.C
  have D : Hid (Calls Try.prog 71 #[.agg cs.toArray] (w.alloc (.cells #[.int .i64 0, .int .i64 0, .int .i64 0, .string ⟨#[]⟩, .slice none 0 0, .int .i64 0, .int .i64 0, .string ⟨#[]⟩, .slice none 0 0, .int .i64 0, .string ⟨#[]⟩, .slice none 0 0, .string ⟨#[]⟩, .slice none 0 0, .slice none 0 0] 48)) fun ev w' => ev = .returned (.bool B) ∧ Below (w.heap.size + 1) (w.alloc (.cells #[.int .i64 0, .int .i64 0, .int .i64 0, .string ⟨#[]⟩, .slice none 0 0, .int .i64 0, .int .i64 0, .string ⟨#[]⟩, .slice none 0 0, .int .i64 0, .string ⟨#[]⟩, .slice none 0 0, .string ⟨#[]⟩, .slice none 0 0, .slice none 0 0] 48)) w') := by
    refine (mayCall_any (he.below hK) (hx.below hK) B hB).mono ?_
    rw [size_alloc]
    exact fun _ _ h => h
  have HR : Hid (Row w g t (A ++ (cs ++ R))) := hr
  have hlt := hr.lt
  have HZ : Hid (∀ w2, Below (w.heap.size + 1) (w.alloc (.cells #[.int .i64 0, .int .i64 0, .int .i64 0, .string ⟨#[]⟩, .slice none 0 0, .int .i64 0, .int .i64 0, .string ⟨#[]⟩, .slice none 0 0, .int .i64 0, .string ⟨#[]⟩, .slice none 0 0, .string ⟨#[]⟩, .slice none 0 0, .slice none 0 0] 48)) w2 → Row w2 w.heap.size 48 [.int .i64 0, .int .i64 0, .int .i64 0, .string ⟨#[]⟩, .slice none 0 0, .int .i64 0, .int .i64 0, .string ⟨#[]⟩, .slice none 0 0, .int .i64 0, .string ⟨#[]⟩, .slice none 0 0, .string ⟨#[]⟩, .slice none 0 0, .slice none 0 0] ∧ Row w2 g t (A ++ (cs ++ R)) ∧ Stay (fun k => k = g) w w2) := by
    intro w2 hb
    refine ⟨(Row.new w 48 [.int .i64 0, .int .i64 0, .int .i64 0, .string ⟨#[]⟩, .slice none 0 0, .int .i64 0, .int .i64 0, .string ⟨#[]⟩, .slice none 0 0, .int .i64 0, .string ⟨#[]⟩, .slice none 0 0, .string ⟨#[]⟩, .slice none 0 0, .slice none 0 0]).below hb (by omega), (hr.alloc _).below hb (by omega), ?_⟩
    exact (Stay.of_below hA).step (Stay.of_below (by rw [size_alloc]; exact hb)) (X := fun k => k = g) (Y := fun k => k = g) fun _ _ h => h
  have hrg : Hid ((w.alloc (.cells #[.int .i64 0, .int .i64 0, .int .i64 0, .string ⟨#[]⟩, .slice none 0 0, .int .i64 0, .int .i64 0, .string ⟨#[]⟩, .slice none 0 0, .int .i64 0, .string ⟨#[]⟩, .slice none 0 0, .string ⟨#[]⟩, .slice none 0 0, .slice none 0 0] 48)).rangeAt g o cs) := range_alloc (hr.mid ho) _
  have hi : Hid ((Try.prog.info? 48).map (·.size) = some cs.length) := by show _ = _; rw [hlen]; kernel_rfl
  have hi2 : Hid ((Try.prog.info? 48).map (·.size) = some ([.int .i64 0, .int .i64 0, .int .i64 0, .string ⟨#[]⟩, .slice none 0 0, .int .i64 0, .int .i64 0, .string ⟨#[]⟩, .slice none 0 0, .int .i64 0, .string ⟨#[]⟩, .slice none 0 0, .string ⟨#[]⟩, .slice none 0 0, .slice none 0 0] : List Value).length) := by show _ = _; kernel_rfl
  have hi3 : Hid ((Try.prog.info? 48).map (·.size) = some (#[.int .i64 0, .int .i64 0, .int .i64 0, .string ⟨#[]⟩, .slice none 0 0, .int .i64 0, .int .i64 0, .string ⟨#[]⟩, .slice none 0 0, .int .i64 0, .string ⟨#[]⟩, .slice none 0 0, .string ⟨#[]⟩, .slice none 0 0, .slice none 0 0] : Array Value).size) := by show _ = _; kernel_rfl
  have h1 : Hid ((#[.int .i64 0, .int .i64 0, .int .i64 0, .string ⟨#[]⟩, .slice none 0 0, .int .i64 0, .int .i64 0, .string ⟨#[]⟩, .slice none 0 0, .int .i64 0, .string ⟨#[]⟩, .slice none 0 0, .string ⟨#[]⟩, .slice none 0 0, .slice none 0 0] : Array Value).all (·.oneCell') = true) := by show _ = _; kernel_rfl
  have HO : Hid (A.length = o) := ho
  have HL : Hid (cs.length = 15) := hlen
  clear hr hx hB he hA hK hlen ho hlt
  go_enter Try.func70, Try.ntmps70
  go_wp2_with (first | (refine wpList_load_mid rfl 48 (.tmp 9) rfl g o rfl cs _ hrg.out Try.underlying48 rfl hi.out ?_) | (go_at_call 71; refine D.out.mono ?_; rintro ev w2 ⟨rfl, hb2⟩; obtain ⟨r1, r2, hs⟩ := HZ.out w2 hb2; clear hb2 HZ hrg D HR; have R2 : Hid (Row w2 g t (A ++ (cs ++ R))) := r2; have R1 : Hid (Row w2 w.heap.size 48 [.int .i64 0, .int .i64 0, .int .i64 0, .string ⟨#[]⟩, .slice none 0 0, .int .i64 0, .int .i64 0, .string ⟨#[]⟩, .slice none 0 0, .int .i64 0, .string ⟨#[]⟩, .slice none 0 0, .string ⟨#[]⟩, .slice none 0 0, .slice none 0 0]) := r1; have HS : Hid (Stay (fun k => k = g) w w2) := hs; clear r1 r2 hs) | (refine wpList_load_mid rfl 48 (.tmp 5) rfl w.heap.size 0 rfl [.int .i64 0, .int .i64 0, .int .i64 0, .string ⟨#[]⟩, .slice none 0 0, .int .i64 0, .int .i64 0, .string ⟨#[]⟩, .slice none 0 0, .int .i64 0, .string ⟨#[]⟩, .slice none 0 0, .string ⟨#[]⟩, .slice none 0 0, .slice none 0 0] _ R1.out.range Try.underlying48 rfl hi2.out ?_) | (refine wpList_store_mid rfl 48 (.tmp 14) (.tmp 13) rfl g o #[.int .i64 0, .int .i64 0, .int .i64 0, .string ⟨#[]⟩, .slice none 0 0, .int .i64 0, .int .i64 0, .string ⟨#[]⟩, .slice none 0 0, .int .i64 0, .string ⟨#[]⟩, .slice none 0 0, .string ⟨#[]⟩, .slice none 0 0, .slice none 0 0] rfl rfl (R2.out.there o 15 (by have := HO.out; have := HL.out; simp; omega)) hi3.out h1.out ?_))
  go_ret
  exact ⟨rfl, Row.setCells [.int .i64 0, .int .i64 0, .int .i64 0, .string ⟨#[]⟩, .slice none 0 0, .int .i64 0, .int .i64 0, .string ⟨#[]⟩, .slice none 0 0, .int .i64 0, .string ⟨#[]⟩, .slice none 0 0, .string ⟨#[]⟩, .slice none 0 0, .slice none 0 0] cs A R w2 o R2.out HO.out HL.out, stay_setCells _ _ _ _ HS.out (fun _ => rfl)⟩
end Go.Proofs.Ytjenmmkamhplkaa
