/-
  A field is asked and blanked: the program take.
-/
import Derived.Test.YtjenmmkamhplkaaMop
namespace Go.Proofs.Ytjenmmkamhplkaa
open Go.RowKit

theorem Row.setCells {g t : Nat} : ∀ (vs cs A R : List Value) (w : World) (o : Nat), Row w g t (A ++ (cs ++ R)) → A.length = o → cs.length = vs.length → Row (w.setCells g o vs) g t (A ++ (vs ++ R))
  | [], cs, A, R, w, o, h, _, hl => by
    obtain rfl : cs = [] := List.length_eq_zero_iff.1 hl
    exact h
  | v :: vs, cs, A, R, w, o, h, ho, hl => by
    cases cs with
    | nil => cases hl
    | cons c cs =>
      have h1 := h.set o v
      have e : (A ++ (c :: cs ++ R)).set o v = (A ++ [v]) ++ (cs ++ R) := by
        subst ho
        rw [List.set_append_right _ _ (Nat.le_refl _)]
        simp
      rw [e] at h1
      have h2 := Row.setCells vs cs (A ++ [v]) R _ (o + 1) h1 (by simp [ho]) (by simpa using hl)
      rw [World.setCells]
      simpa using h2
theorem stay_setCells {X : Nat → Prop} {g : Nat} : ∀ (vs : List Value) (a w : World) (o : Nat), Stay X a w → (g < a.heap.size → X g) → Stay X a (w.setCells g o vs)
  | [], _, _, _, h, _ => h
  | v :: vs, a, w, o, h, hg => by
    rw [World.setCells]
    exact stay_setCells vs a _ (o + 1) (h.set hg o v) hg
theorem Row.there {w : World} {g t : Nat} {L : List Value} (h : Row w g t L) (o n : Nat) (hn : o + n ≤ L.length) : w.there g o n := by
  intro j hj
  refine ⟨?_, h.fz (o + j)⟩
  rw [h.cell (o + j), List.getElem?_eq_getElem (by omega)]; rfl
theorem Row.mid {w : World} {g t : Nat} {A cs R : List Value} (h : Row w g t (A ++ (cs ++ R))) {o : Nat} (ho : A.length = o) : w.rangeAt g o cs := by
  intro j u hj
  have hl : j < cs.length := (List.getElem?_eq_some_iff.1 hj).1
  rw [h.cell (o + j), sub_of A cs R ho j hl]; exact hj
theorem Row.lt' {w : World} {g t : Nat} {L : List Value} (h : Row w g t L) : g ≠ w.heap.size := by have := h.lt; omega
theorem range_alloc {w : World} {b o : Nat} {cs : List Value} (h : w.rangeAt b o cs) (ob : Obj) : (w.alloc ob).rangeAt b o cs := World.rangeAt_alloc h ob

set_option maxHeartbeats 4000000 in
theorem takeOper_any {K : Ctx} {w : World} (he : Env K w) {x : Opr} {cs A R : List Value} {g t o : Nat} (hr : Row w g t (A ++ (cs ++ R))) (ho : A.length = o) (hx : OprAt K w cs x) (B : Bool) (hB : B = true ↔ MayOpr x) :
    Calls Try.prog 73 #[.pointer (some ⟨g, o, none⟩), .func (.func 74) #[] #[]] w fun ev w' => ev = .returned (.bool B) ∧ Row w' g t (A ++ (oprCells ++ R)) ∧ Stay (fun k => k = g) w w' := by
  have hlen := hx.len
  have hA := alloc_one w (.cells #[.int .i64 0, .int .i64 0, .string ⟨#[]⟩, .slice none 0 0] 45)
  have hK := below_le hA he.C
  have D : Hid (Calls Try.prog 74 #[.agg cs.toArray] (w.alloc (.cells #[.int .i64 0, .int .i64 0, .string ⟨#[]⟩, .slice none 0 0] 45)) fun ev w' => ev = .returned (.bool B) ∧ Below (w.heap.size + 1) (w.alloc (.cells #[.int .i64 0, .int .i64 0, .string ⟨#[]⟩, .slice none 0 0] 45)) w') := by
    refine (mayOper_any (he.below hK) (hx.below hK) B hB).mono ?_
    rw [size_alloc]
    exact fun _ _ h => h
  have HR : Hid (Row w g t (A ++ (cs ++ R))) := hr
  have hlt := hr.lt
  have HZ : Hid (∀ w2, Below (w.heap.size + 1) (w.alloc (.cells #[.int .i64 0, .int .i64 0, .string ⟨#[]⟩, .slice none 0 0] 45)) w2 → Row w2 w.heap.size 45 [.int .i64 0, .int .i64 0, .string ⟨#[]⟩, .slice none 0 0] ∧ Row w2 g t (A ++ (cs ++ R)) ∧ Stay (fun k => k = g) w w2) := by
    intro w2 hb
    refine ⟨(Row.new w 45 [.int .i64 0, .int .i64 0, .string ⟨#[]⟩, .slice none 0 0]).below hb (by omega), (hr.alloc _).below hb (by omega), ?_⟩
    exact (Stay.of_below hA).step (Stay.of_below (by rw [size_alloc]; exact hb)) (X := fun k => k = g) (Y := fun k => k = g) fun _ _ h => h
  have hrg : Hid ((w.alloc (.cells #[.int .i64 0, .int .i64 0, .string ⟨#[]⟩, .slice none 0 0] 45)).rangeAt g o cs) := range_alloc (hr.mid ho) _
  have hi : Hid ((Try.prog.info? 45).map (·.size) = some cs.length) := by show _ = _; rw [hlen]; kernel_rfl
  have hi2 : Hid ((Try.prog.info? 45).map (·.size) = some ([.int .i64 0, .int .i64 0, .string ⟨#[]⟩, .slice none 0 0] : List Value).length) := by show _ = _; kernel_rfl
  have hi3 : Hid ((Try.prog.info? 45).map (·.size) = some (#[.int .i64 0, .int .i64 0, .string ⟨#[]⟩, .slice none 0 0] : Array Value).size) := by show _ = _; kernel_rfl
  have h1 : Hid ((#[.int .i64 0, .int .i64 0, .string ⟨#[]⟩, .slice none 0 0] : Array Value).all (·.oneCell') = true) := by show _ = _; kernel_rfl
  have HO : Hid (A.length = o) := ho
  have HL : Hid (cs.length = 4) := hlen
  clear hr hx hB he hA hK hlen ho hlt
  go_enter Try.func73, Try.ntmps73
  go_wp2_with (first | (refine wpList_load_mid rfl 45 (.tmp 9) rfl g o rfl cs _ hrg.out Try.underlying45 rfl hi.out ?_) | (go_at_call 74; refine D.out.mono ?_; rintro ev w2 ⟨rfl, hb2⟩; obtain ⟨r1, r2, hs⟩ := HZ.out w2 hb2; clear hb2 HZ hrg D HR; have R2 : Hid (Row w2 g t (A ++ (cs ++ R))) := r2; have R1 : Hid (Row w2 w.heap.size 45 [.int .i64 0, .int .i64 0, .string ⟨#[]⟩, .slice none 0 0]) := r1; have HS : Hid (Stay (fun k => k = g) w w2) := hs; clear r1 r2 hs) | (refine wpList_load_mid rfl 45 (.tmp 5) rfl w.heap.size 0 rfl [.int .i64 0, .int .i64 0, .string ⟨#[]⟩, .slice none 0 0] _ R1.out.range Try.underlying45 rfl hi2.out ?_) | (refine wpList_store_mid rfl 45 (.tmp 14) (.tmp 13) rfl g o #[.int .i64 0, .int .i64 0, .string ⟨#[]⟩, .slice none 0 0] rfl rfl (R2.out.there o 4 (by have := HO.out; have := HL.out; simp; omega)) hi3.out h1.out ?_))
  go_ret
  exact ⟨rfl, Row.setCells [.int .i64 0, .int .i64 0, .string ⟨#[]⟩, .slice none 0 0] cs A R w2 o R2.out HO.out HL.out, stay_setCells _ _ _ _ HS.out (fun _ => rfl)⟩

set_option maxHeartbeats 4000000 in
theorem takePlace_any {K : Ctx} {w : World} (he : Env K w) {x : Pl} {cs A R : List Value} {g t o : Nat} (hr : Row w g t (A ++ (cs ++ R))) (ho : A.length = o) (hx : PlAt K w cs x) (B : Bool) (hB : B = true ↔ MayPl x) :
    Calls Try.prog 68 #[.pointer (some ⟨g, o, none⟩), .func (.func 69) #[] #[]] w fun ev w' => ev = .returned (.bool B) ∧ Row w' g t (A ++ (plCells ++ R)) ∧ Stay (fun k => k = g) w w' := by
  have hlen := hx.len
  have hA := alloc_one w (.cells #[.string ⟨#[]⟩, .slice none 0 0] 43)
  have hK := below_le hA he.C
  have D : Hid (Calls Try.prog 69 #[.agg cs.toArray] (w.alloc (.cells #[.string ⟨#[]⟩, .slice none 0 0] 43)) fun ev w' => ev = .returned (.bool B) ∧ Below (w.heap.size + 1) (w.alloc (.cells #[.string ⟨#[]⟩, .slice none 0 0] 43)) w') := by
    refine (mayPlace_any (he.below hK) (hx.below hK) B hB).mono ?_
    rw [size_alloc]
    exact fun _ _ h => h
  have HR : Hid (Row w g t (A ++ (cs ++ R))) := hr
  have hlt := hr.lt
  have HZ : Hid (∀ w2, Below (w.heap.size + 1) (w.alloc (.cells #[.string ⟨#[]⟩, .slice none 0 0] 43)) w2 → Row w2 w.heap.size 43 [.string ⟨#[]⟩, .slice none 0 0] ∧ Row w2 g t (A ++ (cs ++ R)) ∧ Stay (fun k => k = g) w w2) := by
    intro w2 hb
    refine ⟨(Row.new w 43 [.string ⟨#[]⟩, .slice none 0 0]).below hb (by omega), (hr.alloc _).below hb (by omega), ?_⟩
    exact (Stay.of_below hA).step (Stay.of_below (by rw [size_alloc]; exact hb)) (X := fun k => k = g) (Y := fun k => k = g) fun _ _ h => h
  have hrg : Hid ((w.alloc (.cells #[.string ⟨#[]⟩, .slice none 0 0] 43)).rangeAt g o cs) := range_alloc (hr.mid ho) _
  have hi : Hid ((Try.prog.info? 43).map (·.size) = some cs.length) := by show _ = _; rw [hlen]; kernel_rfl
  have hi2 : Hid ((Try.prog.info? 43).map (·.size) = some ([.string ⟨#[]⟩, .slice none 0 0] : List Value).length) := by show _ = _; kernel_rfl
  have hi3 : Hid ((Try.prog.info? 43).map (·.size) = some (#[.string ⟨#[]⟩, .slice none 0 0] : Array Value).size) := by show _ = _; kernel_rfl
  have h1 : Hid ((#[.string ⟨#[]⟩, .slice none 0 0] : Array Value).all (·.oneCell') = true) := by show _ = _; kernel_rfl
  have HO : Hid (A.length = o) := ho
  have HL : Hid (cs.length = 2) := hlen
  clear hr hx hB he hA hK hlen ho hlt
  go_enter Try.func68, Try.ntmps68
  go_wp2_with (first | (refine wpList_load_mid rfl 43 (.tmp 9) rfl g o rfl cs _ hrg.out Try.underlying43 rfl hi.out ?_) | (go_at_call 69; refine D.out.mono ?_; rintro ev w2 ⟨rfl, hb2⟩; obtain ⟨r1, r2, hs⟩ := HZ.out w2 hb2; clear hb2 HZ hrg D HR; have R2 : Hid (Row w2 g t (A ++ (cs ++ R))) := r2; have R1 : Hid (Row w2 w.heap.size 43 [.string ⟨#[]⟩, .slice none 0 0]) := r1; have HS : Hid (Stay (fun k => k = g) w w2) := hs; clear r1 r2 hs) | (refine wpList_load_mid rfl 43 (.tmp 5) rfl w.heap.size 0 rfl [.string ⟨#[]⟩, .slice none 0 0] _ R1.out.range Try.underlying43 rfl hi2.out ?_) | (refine wpList_store_mid rfl 43 (.tmp 14) (.tmp 13) rfl g o #[.string ⟨#[]⟩, .slice none 0 0] rfl rfl (R2.out.there o 2 (by have := HO.out; have := HL.out; simp; omega)) hi3.out h1.out ?_))
  go_ret
  exact ⟨rfl, Row.setCells [.string ⟨#[]⟩, .slice none 0 0] cs A R w2 o R2.out HO.out HL.out, stay_setCells _ _ _ _ HS.out (fun _ => rfl)⟩

set_option maxHeartbeats 4000000 in
theorem takeType_any {K : Ctx} {w : World} (he : Env K w) {x : Ty} {cs A R : List Value} {g t o : Nat} (hr : Row w g t (A ++ (cs ++ R))) (ho : A.length = o) (hx : IsTy K w cs x) (B : Bool) (hB : B = true ↔ MayTy 64 x) :
    Calls Try.prog 65 #[.pointer (some ⟨g, o, none⟩), .func (.func 51) #[] #[]] w fun ev w' => ev = .returned (.bool B) ∧ Row w' g t (A ++ (tyCells 0 ++ R)) ∧ Stay (fun k => k = g) w w' := by
  have hlen := hx.len
  have hA := alloc_one w (.cells #[.int .i64 0, .string ⟨#[]⟩, .slice none 0 0, .slice none 0 0] 27)
  have hK := below_le hA he.C
  have D : Hid (Calls Try.prog 51 #[.agg cs.toArray] (w.alloc (.cells #[.int .i64 0, .string ⟨#[]⟩, .slice none 0 0, .slice none 0 0] 27)) fun ev w' => ev = .returned (.bool B) ∧ Below (w.heap.size + 1) (w.alloc (.cells #[.int .i64 0, .string ⟨#[]⟩, .slice none 0 0, .slice none 0 0] 27)) w') := by
    refine (mayType_any (he.below hK) (hx.below hK) B hB).mono ?_
    rw [size_alloc]
    exact fun _ _ h => h
  have HR : Hid (Row w g t (A ++ (cs ++ R))) := hr
  have hlt := hr.lt
  have HZ : Hid (∀ w2, Below (w.heap.size + 1) (w.alloc (.cells #[.int .i64 0, .string ⟨#[]⟩, .slice none 0 0, .slice none 0 0] 27)) w2 → Row w2 w.heap.size 27 [.int .i64 0, .string ⟨#[]⟩, .slice none 0 0, .slice none 0 0] ∧ Row w2 g t (A ++ (cs ++ R)) ∧ Stay (fun k => k = g) w w2) := by
    intro w2 hb
    refine ⟨(Row.new w 27 [.int .i64 0, .string ⟨#[]⟩, .slice none 0 0, .slice none 0 0]).below hb (by omega), (hr.alloc _).below hb (by omega), ?_⟩
    exact (Stay.of_below hA).step (Stay.of_below (by rw [size_alloc]; exact hb)) (X := fun k => k = g) (Y := fun k => k = g) fun _ _ h => h
  have hrg : Hid ((w.alloc (.cells #[.int .i64 0, .string ⟨#[]⟩, .slice none 0 0, .slice none 0 0] 27)).rangeAt g o cs) := range_alloc (hr.mid ho) _
  have hi : Hid ((Try.prog.info? 27).map (·.size) = some cs.length) := by show _ = _; rw [hlen]; kernel_rfl
  have hi2 : Hid ((Try.prog.info? 27).map (·.size) = some ([.int .i64 0, .string ⟨#[]⟩, .slice none 0 0, .slice none 0 0] : List Value).length) := by show _ = _; kernel_rfl
  have hi3 : Hid ((Try.prog.info? 27).map (·.size) = some (#[.int .i64 0, .string ⟨#[]⟩, .slice none 0 0, .slice none 0 0] : Array Value).size) := by show _ = _; kernel_rfl
  have h1 : Hid ((#[.int .i64 0, .string ⟨#[]⟩, .slice none 0 0, .slice none 0 0] : Array Value).all (·.oneCell') = true) := by show _ = _; kernel_rfl
  have HO : Hid (A.length = o) := ho
  have HL : Hid (cs.length = 4) := hlen
  clear hr hx hB he hA hK hlen ho hlt
  go_enter Try.func65, Try.ntmps65
  go_wp2_with (first | (refine wpList_load_mid rfl 27 (.tmp 9) rfl g o rfl cs _ hrg.out Try.underlying27 rfl hi.out ?_) | (go_at_call 51; refine D.out.mono ?_; rintro ev w2 ⟨rfl, hb2⟩; obtain ⟨r1, r2, hs⟩ := HZ.out w2 hb2; clear hb2 HZ hrg D HR; have R2 : Hid (Row w2 g t (A ++ (cs ++ R))) := r2; have R1 : Hid (Row w2 w.heap.size 27 [.int .i64 0, .string ⟨#[]⟩, .slice none 0 0, .slice none 0 0]) := r1; have HS : Hid (Stay (fun k => k = g) w w2) := hs; clear r1 r2 hs) | (refine wpList_load_mid rfl 27 (.tmp 5) rfl w.heap.size 0 rfl [.int .i64 0, .string ⟨#[]⟩, .slice none 0 0, .slice none 0 0] _ R1.out.range Try.underlying27 rfl hi2.out ?_) | (refine wpList_store_mid rfl 27 (.tmp 14) (.tmp 13) rfl g o #[.int .i64 0, .string ⟨#[]⟩, .slice none 0 0, .slice none 0 0] rfl rfl (R2.out.there o 4 (by have := HO.out; have := HL.out; simp; omega)) hi3.out h1.out ?_))
  go_ret
  exact ⟨rfl, Row.setCells [.int .i64 0, .string ⟨#[]⟩, .slice none 0 0, .slice none 0 0] cs A R w2 o R2.out HO.out HL.out, stay_setCells _ _ _ _ HS.out (fun _ => rfl)⟩

set_option maxHeartbeats 4000000 in
theorem takeName_any {w : World} {s : Bs} {A R : List Value} {g t o : Nat} (hr : Row w g t (A ++ ([.string (str s)] ++ R))) (ho : A.length = o) (hs : s.length ≤ 9223372036854775807) (B : Bool) (hB : B = true ↔ nameB s = true) :
    Calls Try.prog 64 #[.pointer (some ⟨g, o, none⟩), .func (.func 28) #[] #[]] w fun ev w' => ev = .returned (.bool B) ∧ Row w' g t (A ++ ([.string (str [])] ++ R)) ∧ Stay (fun k => k = g) w w' := by
  have D : Hid (Calls Try.prog 28 #[.string (str s)] w fun ev w' => ev = .returned (.bool B) ∧ ∃ m, w' = w.drewN m) := by
    obtain rfl : nameB s = B := by cases h : nameB s <;> cases B <;> simp_all
    exact (name_any s hs w).mono fun _ _ h => ⟨h.1, 0, h.2⟩
  have c0 : w.cell? ⟨g, o, none⟩ = some (.string (str s)) := by
    rw [hr.cell o, ← Nat.add_zero o, sub_of A [.string (str s)] R ho 0 (by simp)]; rfl
  have z0 := hr.fz o
  have HR : Hid (∀ m, Row ((w.drewN m).setCell ⟨g, o, none⟩ (.string (str []))) g t (A ++ ([.string (str [])] ++ R)) ∧ Stay (fun k => k = g) w ((w.drewN m).setCell ⟨g, o, none⟩ (.string (str [])))) := by
    intro m
    have h2 := Row.setCells [.string (str [])] [.string (str s)] A R (w.drewN m) o hr.drewN ho rfl
    exact ⟨h2, ((Stay.refl (fun k => k = g) w).drewN m).set (fun _ => rfl) _ _⟩
  clear hr hB ho
  generalize str s = S at *
  go_enter Try.func64, Try.ntmps64
  go_wp2_with (go_at_call 28; refine D.out.mono ?_; rintro ev w2 ⟨rfl, m, rfl⟩)
  go_ret
  exact ⟨rfl, HR.out m⟩

set_option maxHeartbeats 4000000 in
theorem takeFar_any {w : World} {s : Bs} {A R : List Value} {g t o : Nat} (hr : Row w g t (A ++ ([.string (str s)] ++ R))) (ho : A.length = o) (hs : s.length ≤ 1048576) (hm : ∃ m, w.cell? ⟨0, 0, none⟩ = some (.int .i64 m)) (B : Bool) (hB : B = true ↔ farB s = true) :
    Calls Try.prog 64 #[.pointer (some ⟨g, o, none⟩), .func (.func 62) #[] #[]] w fun ev w' => ev = .returned (.bool B) ∧ Row w' g t (A ++ ([.string (str [])] ++ R)) ∧ Stay (fun k => k = g) w w' := by
  have D : Hid (Calls Try.prog 62 #[.string (str s)] w fun ev w' => ev = .returned (.bool B) ∧ ∃ m, w' = w.drewN m) := by
    obtain rfl : farB s = B := by cases h : farB s <;> cases B <;> simp_all
    exact far_any s hs w hm
  have c0 : w.cell? ⟨g, o, none⟩ = some (.string (str s)) := by
    rw [hr.cell o, ← Nat.add_zero o, sub_of A [.string (str s)] R ho 0 (by simp)]; rfl
  have z0 := hr.fz o
  have HR : Hid (∀ m, Row ((w.drewN m).setCell ⟨g, o, none⟩ (.string (str []))) g t (A ++ ([.string (str [])] ++ R)) ∧ Stay (fun k => k = g) w ((w.drewN m).setCell ⟨g, o, none⟩ (.string (str [])))) := by
    intro m
    have h2 := Row.setCells [.string (str [])] [.string (str s)] A R (w.drewN m) o hr.drewN ho rfl
    exact ⟨h2, ((Stay.refl (fun k => k = g) w).drewN m).set (fun _ => rfl) _ _⟩
  clear hr hB ho
  generalize str s = S at *
  go_enter Try.func64, Try.ntmps64
  go_wp2_with (go_at_call 62; refine D.out.mono ?_; rintro ev w2 ⟨rfl, m, rfl⟩)
  go_ret
  exact ⟨rfl, HR.out m⟩

set_option maxHeartbeats 4000000 in
theorem takeOp_any {w : World} {k : Int} {A R : List Value} {g t o : Nat} (hr : Row w g t (A ++ ([.int .i64 k] ++ R))) (ho : A.length = o)  (B : Bool) (hB : B = true ↔ 1 ≤ k ∧ k ≤ 4) :
    Calls Try.prog 79 #[.pointer (some ⟨g, o, none⟩), .func (.func 80) #[] #[]] w fun ev w' => ev = .returned (.bool B) ∧ Row w' g t (A ++ ([.int .i64 0] ++ R)) ∧ Stay (fun k => k = g) w w' := by
  have D : Hid (Calls Try.prog 80 #[.int .i64 k] w fun ev w' => ev = .returned (.bool B) ∧ ∃ m, w' = w.drewN m) := by
    exact (mayOp_any k w B hB).mono fun _ _ h => ⟨h.1, 0, h.2⟩
  have c0 : w.cell? ⟨g, o, none⟩ = some (.int .i64 k) := by
    rw [hr.cell o, ← Nat.add_zero o, sub_of A [.int .i64 k] R ho 0 (by simp)]; rfl
  have z0 := hr.fz o
  have HR : Hid (∀ m, Row ((w.drewN m).setCell ⟨g, o, none⟩ (.int .i64 0)) g t (A ++ ([.int .i64 0] ++ R)) ∧ Stay (fun k => k = g) w ((w.drewN m).setCell ⟨g, o, none⟩ (.int .i64 0))) := by
    intro m
    have h2 := Row.setCells [.int .i64 0] [.int .i64 k] A R (w.drewN m) o hr.drewN ho rfl
    exact ⟨h2, ((Stay.refl (fun k => k = g) w).drewN m).set (fun _ => rfl) _ _⟩
  clear hr hB ho
  skip
  go_enter Try.func79, Try.ntmps79
  go_wp2_with (go_at_call 80; refine D.out.mono ?_; rintro ev w2 ⟨rfl, m, rfl⟩)
  go_ret
  exact ⟨rfl, HR.out m⟩
end Go.Proofs.Ytjenmmkamhplkaa
