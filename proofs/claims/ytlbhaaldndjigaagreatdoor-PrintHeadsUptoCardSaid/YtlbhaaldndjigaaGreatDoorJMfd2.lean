/-
  The texts Mfd, Lxb, joined.
-/
import Derived.Test.YtlbhaaldndjigaaGreatDoorMyt
import Derived.Test.YtlbhaaldndjigaaGreatDoorAlf
import Derived.Test.YtlbhaaldndjigaaGreatDoorJAlo2
import Derived.Test.YtlbhaaldndjigaaGreatDoorJSub4
namespace Go.Proofs.YtlbhaaldndjigaaGreatDoor
open Go.RowKit

theorem IsTy.open {K : Ctx} {w : World} {cs : List Value} {t : Ty} (h : IsTy K w cs t) :
    ∃ ao2 n2 c2 ao3 n3 c3, cs = [.int .i64 t.kind, .string (str t.name), .slice ao2 n2 c2, .slice ao3 n3 c3] := by
  obtain ⟨n, h⟩ := h
  cases n with
  | zero => exact h.elim
  | succ n =>
    obtain ⟨v2, v3, rfl, _, h2, h3⟩ := h
    obtain ⟨ao2, cap2, rfl, _⟩ := h2.shape
    obtain ⟨ao3, cap3, rfl, _⟩ := h3.shape
    exact ⟨_, _, _, _, _, _, rfl⟩
theorem Ar.form {α : Type} {z bz : Nat} {P : List Value → α → Prop} {K : Ctx} {w : World} {v : Value} {l : List α} (h : Ar z bz P K w v l) : ∃ ao cap, v = .slice ao l.length cap := by
  obtain ⟨ao, cap, e, _⟩ := h.shape; exact ⟨ao, cap, e⟩
theorem Strs.form {K : Ctx} {w : World} {v : Value} {l : List Bs} (h : Strs K w v l) : ∃ ao cap, v = .slice ao l.length cap := Ar.form h
def MayPar (x : Fld) : Prop := nameB x.name = true ∧ MayTy 64 x.ty
def MayFld (x : Fld) : Prop := x.mu = false ∧ MayPar x

set_option maxHeartbeats 4000000 in
theorem mayParam_any {K : Ctx} {w : World} (he : Env K w) {x : Fld} {cs : List Value} (hx : FldAt K w cs x) (B : Bool) (hB : B = true ↔ MayPar x) :
    Calls Tryz.prog 69 #[.agg cs.toArray] w fun ev w' => ev = .returned (.bool B) ∧ Below w.heap.size w w' := by
  obtain ⟨ts, rfl, hl, ht⟩ := hx
  obtain ⟨a2, n2, c2, a3, n3, c3, rfl⟩ := ht.open
  have N : Hid (∀ y, Calls Tryz.prog 62 #[.string (str x.name)] y fun ev w' => ev = .returned (.bool (nameB x.name)) ∧ w' = y) := fun y => name_any _ (by have := K.small; omega) y
  have hA := alloc_one w (.cells #[.bool x.mu, .string (str x.name), .int .i64 x.ty.kind, .string (str x.ty.name), .slice a2 n2 c2, .slice a3 n3 c3] 112)
  have T : Hid (∀ B, (B = true ↔ MayTy 64 x.ty) → Calls Tryz.prog 94 #[.agg #[.int .i64 x.ty.kind, .string (str x.ty.name), .slice a2 n2 c2, .slice a3 n3 c3]] (w.alloc (.cells #[.bool x.mu, .string (str x.name), .int .i64 x.ty.kind, .string (str x.ty.name), .slice a2 n2 c2, .slice a3 n3 c3] 112)) fun ev w' => ev = .returned (.bool B) ∧ Below w.heap.size w w') := by
    intro B hB
    refine (mayType_any (cs := [.int .i64 x.ty.kind, .string (str x.ty.name), .slice a2 n2 c2, .slice a3 n3 c3]) (he.below (below_le hA he.C)) (ht.below (below_le hA he.C)) B hB).mono ?_
    rintro _ _ ⟨rfl, hb⟩
    exact ⟨rfl, hA.trans (below_le hb hA.size)⟩
  have HA : Hid (Below w.heap.size w (w.alloc (.cells #[.bool x.mu, .string (str x.name), .int .i64 x.ty.kind, .string (str x.ty.name), .slice a2 n2 c2, .slice a3 n3 c3] 112))) := hA
  clear ht hA
  cases f1 : nameB x.name
  · obtain rfl := bool_false hB (fun h => by rw [h.1] at f1; cases f1)
    rw [f1] at N
    clear hB f1 T
    generalize x.ty.kind = k at *
    generalize str x.ty.name = S2 at *
    generalize str x.name = S at *
    go_enter Tryz.func69, Tryz.ntmps69
    go_wp2_with (go_at_call 62; refine (N.out _).mono ?_; rintro ev w2 ⟨rfl, rfl⟩)
    go_ret
    exact ⟨rfl, HA.out⟩
  · have D := T.out B (by rw [hB]; exact ⟨fun h => h.2, fun h => ⟨f1, h⟩⟩)
    rw [f1] at N
    clear hB f1 T
    generalize x.ty.kind = k at *
    generalize str x.ty.name = S2 at *
    generalize str x.name = S at *
    go_enter Tryz.func69, Tryz.ntmps69
    go_wp2_with (first | (go_at_call 62; refine (N.out _).mono ?_; rintro ev w2 ⟨rfl, rfl⟩) | (go_at_call 94; refine D.mono ?_; rintro ev w2 ⟨rfl, hb2⟩))
    go_ret
    exact ⟨rfl, hb2⟩

def MayRes (t : Ty) : Prop := t = Ty.zero ∨ MayTy 64 t
def MayLfe (x : Lfe) : Prop := lifeB x.name = true ∧ (decide (x.over.length ≤ 64) && x.over.all lifeB) = true
def MaySct (x : Sct) : Prop := nameB x.name = true ∧ (decide (x.lives.length ≤ 64) && x.lives.all lifeB) = true ∧ x.fields.length ≤ 64 ∧ ∀ f ∈ x.fields, MayFld f
def MayPl (x : Pl) : Prop := nameB x.name = true ∧ (decide (x.path.length ≤ 64) && x.path.all stepB) = true

set_option maxHeartbeats 4000000 in
theorem mayField_any {K : Ctx} {w : World} (he : Env K w) {x : Fld} {cs : List Value} (hx : FldAt K w cs x) (B : Bool) (hB : B = true ↔ MayFld x) :
    Calls Tryz.prog 66 #[.agg cs.toArray] w fun ev w' => ev = .returned (.bool B) ∧ Below w.heap.size w w' := by
  have hA := alloc_one w (.cells cs.toArray 112)
  have hKA := below_le hA he.C
  have T0 := fun B hB => mayParam_any (he.below hKA) (hx.below hKA) B hB
  obtain ⟨ts, rfl, hl, ht⟩ := hx
  obtain ⟨a2, n2, c2, a3, n3, c3, rfl⟩ := ht.open
  have HA : Hid (Below w.heap.size w (w.alloc (.cells #[.bool x.mu, .string (str x.name), .int .i64 x.ty.kind, .string (str x.ty.name), .slice a2 n2 c2, .slice a3 n3 c3] 112))) := hA
  cases f1 : x.mu
  · have D : Hid (Calls Tryz.prog 69 #[.agg #[.bool false, .string (str x.name), .int .i64 x.ty.kind, .string (str x.ty.name), .slice a2 n2 c2, .slice a3 n3 c3]] (w.alloc (.cells #[.bool false, .string (str x.name), .int .i64 x.ty.kind, .string (str x.ty.name), .slice a2 n2 c2, .slice a3 n3 c3] 112)) fun ev w' => ev = .returned (.bool B) ∧ Below w.heap.size w w') := by
      rw [f1] at T0 hA
      refine (T0 B (by rw [hB]; exact ⟨fun h => h.2, fun h => ⟨f1, h⟩⟩)).mono ?_
      rintro _ _ ⟨rfl, hb⟩
      exact ⟨rfl, hA.trans (below_le hb hA.size)⟩
    clear T0 hA hKA ht hB he f1 HA
    generalize x.ty.kind = k at *
    generalize str x.ty.name = S2 at *
    generalize str x.name = S at *
    go_enter Tryz.func66, Tryz.ntmps66
    go_wp2_with (go_at_call 69; refine D.out.mono ?_; rintro ev w2 ⟨rfl, hb2⟩)
    go_ret
    exact ⟨rfl, hb2⟩
  · obtain rfl := bool_false hB (fun h => by rw [h.1] at f1; cases f1)
    rw [f1] at HA
    clear T0 hA hKA ht hB he f1
    generalize x.ty.kind = k at *
    generalize str x.ty.name = S2 at *
    generalize str x.name = S at *
    go_enter Tryz.func66, Tryz.ntmps66
    go_wp2_with fail
    go_ret
    exact ⟨rfl, HA.out⟩

theorem res_zero {t : Ty} (h : t.kind = 0) : MayRes t ↔ t = Ty.zero := by
  constructor
  · rintro (h' | h')
    · exact h'
    · exact absurd h' (mayTy_none (n := 63) (by omega))
  · exact .inl
theorem res_not {t : Ty} (h : t.kind ≠ 0) : MayRes t ↔ MayTy 64 t := by
  constructor
  · rintro (rfl | h')
    · exact absurd rfl h
    · exact h'
  · exact .inr
set_option maxHeartbeats 4000000 in
theorem mayResult_any {K : Ctx} {w : World} (he : Env K w) {x : Ty} {cs : List Value} (hx : IsTy K w cs x) (B : Bool) (hB : B = true ↔ MayRes x) :
    Calls Tryz.prog 70 #[.agg cs.toArray] w fun ev w' => ev = .returned (.bool B) ∧ Below w.heap.size w w' := by
  have hA := alloc_one w (.cells cs.toArray 38)
  have hKA := below_le hA he.C
  have T0 := fun B hB => mayType_any (he.below hKA) (hx.below hKA) B hB
  have T1 := fun B hB => sameTypes2_any (he.below hKA).C (cs' := tyCells 0) (hx.below hKA) (kind_at K _ 0) B hB
  obtain ⟨a2, n2, c2, a3, n3, c3, rfl⟩ := hx.open
  by_cases f1 : x.kind = 0
  · have b1 : (x.kind == 0) = true := by rw [f1]; rfl
    have D : Hid (Calls Tryz.prog 95 #[.agg #[.int .i64 x.kind, .string (str x.name), .slice a2 n2 c2, .slice a3 n3 c3], .agg #[.int .i64 0, .string ⟨#[]⟩, .slice none 0 0, .slice none 0 0]] (w.alloc (.cells #[.int .i64 x.kind, .string (str x.name), .slice a2 n2 c2, .slice a3 n3 c3] 38)) fun ev w' => ev = .returned (.bool B) ∧ Below w.heap.size w w') := by
      refine (T1 B (by rw [hB, res_zero f1]; rfl)).mono ?_
      rintro _ _ ⟨rfl, hb⟩
      exact ⟨rfl, hA.trans (below_le hb hA.size)⟩
    clear T0 T1 hA hKA hx hB he f1
    generalize x.kind = k at *
    generalize str x.name = S at *
    go_enter Tryz.func70, Tryz.ntmps70
    go_wp2_with (go_at_call 95; refine D.out.mono ?_; rintro ev w2 ⟨rfl, hb2⟩)
    go_ret
    exact ⟨rfl, hb2⟩
  · have b1 : (x.kind == 0) = false := by simpa using f1
    have D : Hid (Calls Tryz.prog 94 #[.agg #[.int .i64 x.kind, .string (str x.name), .slice a2 n2 c2, .slice a3 n3 c3]] (w.alloc (.cells #[.int .i64 x.kind, .string (str x.name), .slice a2 n2 c2, .slice a3 n3 c3] 38)) fun ev w' => ev = .returned (.bool B) ∧ Below w.heap.size w w') := by
      refine (T0 B (by rw [hB, res_not f1])).mono ?_
      rintro _ _ ⟨rfl, hb⟩
      exact ⟨rfl, hA.trans (below_le hb hA.size)⟩
    clear T0 T1 hA hKA hx hB he f1
    generalize x.kind = k at *
    generalize str x.name = S at *
    go_enter Tryz.func70, Tryz.ntmps70
    go_wp2_with (go_at_call 94; refine D.out.mono ?_; rintro ev w2 ⟨rfl, hb2⟩)
    go_ret
    exact ⟨rfl, hb2⟩

set_option maxHeartbeats 4000000 in
theorem mayLife_any {K : Ctx} {w : World} (he : Env K w) {x : Lfe} {cs : List Value} (hx : LfeAt K w cs x) (B : Bool) (hB : B = true ↔ MayLfe x) :
    Calls Tryz.prog 68 #[.agg cs.toArray] w fun ev w' => ev = .returned (.bool B) ∧ Below w.heap.size w w' := by
  have hsm := K.small
  obtain ⟨v1, rfl, hl, hs⟩ := hx
  obtain ⟨ao, cap, rfl⟩ := hs.form
  have hA := alloc_one w (.cells #[.string (str x.name), .slice ao x.over.length cap] 50)
  have hKA := below_le hA he.C
  have N0 : Hid (Calls Tryz.prog 64 #[.string (str x.name)] (w.alloc (.cells #[.string (str x.name), .slice ao x.over.length cap] 50)) fun ev w' => ev = .returned (.bool (lifeB x.name)) ∧ w' = (w.alloc (.cells #[.string (str x.name), .slice ao x.over.length cap] 50))) := lifeB_calls_48 _ (by omega) _
  have N1 : Hid (Calls Tryz.prog 63 #[.slice ao x.over.length cap, .func (.func 64) #[] #[]] (w.alloc (.cells #[.string (str x.name), .slice ao x.over.length cap] 50)) fun ev w' => ev = .returned (.bool (decide (x.over.length ≤ 64) && x.over.all lifeB)) ∧ w' = (w.alloc (.cells #[.string (str x.name), .slice ao x.over.length cap] 50))) := partsLives (hs.below hKA)
  have HA : Hid (Below w.heap.size w (w.alloc (.cells #[.string (str x.name), .slice ao x.over.length cap] 50))) := hA
  have HB : Hid (B = true ↔ MayLfe x) := hB
  clear hA hKA hB he hs
  cases f0 : (lifeB x.name)
  · have HF : Hid (B = false) := bool_false HB.out (fun h => by have h' := h.1; rw [h'] at f0; cases f0)
    rw [f0] at N0
    clear HB f0 N1 
    generalize str x.name = S at *
    generalize x.over.length = len at *
    go_enter Tryz.func68, Tryz.ntmps68
    go_wp2_with (first | (go_at_call 64; refine N0.out.mono ?_; rintro ev w2 ⟨rfl, rfl⟩))
    go_ret
    exact ⟨by rw [HF.out]; rfl, HA.out⟩
  rw [f0] at N0
  cases f1 : (decide (x.over.length ≤ 64) && x.over.all lifeB)
  · have HF : Hid (B = false) := bool_false HB.out (fun h => by have h' := h.2; rw [h'] at f1; cases f1)
    rw [f1] at N1
    clear HB f0 f1  
    generalize str x.name = S at *
    generalize x.over.length = len at *
    go_enter Tryz.func68, Tryz.ntmps68
    go_wp2_with (first | (go_at_call 64; refine N0.out.mono ?_; rintro ev w2 ⟨rfl, rfl⟩) | (go_at_call 63; refine N1.out.mono ?_; rintro ev w2 ⟨rfl, rfl⟩))
    go_ret
    exact ⟨by rw [HF.out]; rfl, HA.out⟩
  rw [f1] at N1
  have HF : Hid (B = true) := HB.out.2 ⟨f0, f1⟩
  clear HB f0 f1
  generalize str x.name = S at *
  generalize x.over.length = len at *
  go_enter Tryz.func68, Tryz.ntmps68
  go_wp2_with (first | (go_at_call 64; refine N0.out.mono ?_; rintro ev w2 ⟨rfl, rfl⟩) | (go_at_call 63; refine N1.out.mono ?_; rintro ev w2 ⟨rfl, rfl⟩))
  go_ret
  exact ⟨by rw [HF.out]; rfl, HA.out⟩

set_option maxHeartbeats 4000000 in
theorem mayPlace_any {K : Ctx} {w : World} (he : Env K w) {x : Pl} {cs : List Value} (hx : PlAt K w cs x) (B : Bool) (hB : B = true ↔ MayPl x) :
    Calls Tryz.prog 120 #[.agg cs.toArray] w fun ev w' => ev = .returned (.bool B) ∧ Below w.heap.size w w' := by
  have hsm := K.small
  obtain ⟨v1, rfl, hl, hs⟩ := hx
  obtain ⟨ao, cap, rfl⟩ := hs.form
  have hA := alloc_one w (.cells #[.string (str x.name), .slice ao x.path.length cap] 79)
  have hKA := below_le hA he.C
  have N0 : Hid (Calls Tryz.prog 62 #[.string (str x.name)] (w.alloc (.cells #[.string (str x.name), .slice ao x.path.length cap] 79)) fun ev w' => ev = .returned (.bool (nameB x.name)) ∧ w' = (w.alloc (.cells #[.string (str x.name), .slice ao x.path.length cap] 79))) := name_any _ (by omega) _
  have N1 : Hid (Calls Tryz.prog 63 #[.slice ao x.path.length cap, .func (.func 143) #[] #[]] (w.alloc (.cells #[.string (str x.name), .slice ao x.path.length cap] 79)) fun ev w' => ev = .returned (.bool (decide (x.path.length ≤ 64) && x.path.all stepB)) ∧ w' = (w.alloc (.cells #[.string (str x.name), .slice ao x.path.length cap] 79))) := partsSteps (hs.below hKA)
  have HA : Hid (Below w.heap.size w (w.alloc (.cells #[.string (str x.name), .slice ao x.path.length cap] 79))) := hA
  have HB : Hid (B = true ↔ MayPl x) := hB
  clear hA hKA hB he hs
  cases f0 : (nameB x.name)
  · have HF : Hid (B = false) := bool_false HB.out (fun h => by have h' := h.1; rw [h'] at f0; cases f0)
    rw [f0] at N0
    clear HB f0 N1 
    generalize str x.name = S at *
    generalize x.path.length = len at *
    go_enter Tryz.func120, Tryz.ntmps120
    go_wp2_with (first | (go_at_call 62; refine N0.out.mono ?_; rintro ev w2 ⟨rfl, rfl⟩))
    go_ret
    exact ⟨by rw [HF.out]; rfl, HA.out⟩
  rw [f0] at N0
  cases f1 : (decide (x.path.length ≤ 64) && x.path.all stepB)
  · have HF : Hid (B = false) := bool_false HB.out (fun h => by have h' := h.2; rw [h'] at f1; cases f1)
    rw [f1] at N1
    clear HB f0 f1  
    generalize str x.name = S at *
    generalize x.path.length = len at *
    go_enter Tryz.func120, Tryz.ntmps120
    go_wp2_with (first | (go_at_call 62; refine N0.out.mono ?_; rintro ev w2 ⟨rfl, rfl⟩) | (go_at_call 63; refine N1.out.mono ?_; rintro ev w2 ⟨rfl, rfl⟩))
    go_ret
    exact ⟨by rw [HF.out]; rfl, HA.out⟩
  rw [f1] at N1
  have HF : Hid (B = true) := HB.out.2 ⟨f0, f1⟩
  clear HB f0 f1
  generalize str x.name = S at *
  generalize x.path.length = len at *
  go_enter Tryz.func120, Tryz.ntmps120
  go_wp2_with (first | (go_at_call 62; refine N0.out.mono ?_; rintro ev w2 ⟨rfl, rfl⟩) | (go_at_call 63; refine N1.out.mono ?_; rintro ev w2 ⟨rfl, rfl⟩))
  go_ret
  exact ⟨by rw [HF.out]; rfl, HA.out⟩

set_option maxHeartbeats 4000000 in
theorem mayStruct_any {K : Ctx} {w : World} (he : Env K w) {x : Sct} {cs : List Value} (hx : SctAt K w cs x) (B : Bool) (hB : B = true ↔ MaySct x) :
    Calls Tryz.prog 35 #[.agg cs.toArray] w fun ev w' => ev = .returned (.bool B) ∧ Below w.heap.size w w' := by
  have hsm := K.small
  obtain ⟨v1, v2, rfl, hl, hs, hf⟩ := hx
  obtain ⟨ao, cap, rfl⟩ := hs.form
  obtain ⟨ao2, cap2, rfl⟩ := hf.form
  have hA := alloc_one w (.cells #[.bool x.pub, .string (str x.name), .slice ao x.lives.length cap, .slice ao2 x.fields.length cap2, .int .i64 x.pos] 73)
  have hKA := below_le hA he.C
  have N0 : Hid (Calls Tryz.prog 62 #[.string (str x.name)] (w.alloc (.cells #[.bool x.pub, .string (str x.name), .slice ao x.lives.length cap, .slice ao2 x.fields.length cap2, .int .i64 x.pos] 73)) fun ev w' => ev = .returned (.bool (nameB x.name)) ∧ w' = (w.alloc (.cells #[.bool x.pub, .string (str x.name), .slice ao x.lives.length cap, .slice ao2 x.fields.length cap2, .int .i64 x.pos] 73))) := name_any _ (by omega) _
  have N1 : Hid (Calls Tryz.prog 63 #[.slice ao x.lives.length cap, .func (.func 64) #[] #[]] (w.alloc (.cells #[.bool x.pub, .string (str x.name), .slice ao x.lives.length cap, .slice ao2 x.fields.length cap2, .int .i64 x.pos] 73)) fun ev w' => ev = .returned (.bool (decide (x.lives.length ≤ 64) && x.lives.all lifeB)) ∧ w' = (w.alloc (.cells #[.bool x.pub, .string (str x.name), .slice ao x.lives.length cap, .slice ao2 x.fields.length cap2, .int .i64 x.pos] 73))) := partsLives (hs.below hKA)
  have T0 : Hid (∀ B, (B = true ↔ x.fields.length ≤ 64 ∧ ∀ f ∈ x.fields, MayFld f) → Calls Tryz.prog 65 #[.slice ao2 x.fields.length cap2, .func (.func 66) #[] #[]] (w.alloc (.cells #[.bool x.pub, .string (str x.name), .slice ao x.lives.length cap, .slice ao2 x.fields.length cap2, .int .i64 x.pos] 73)) fun ev w' => ev = .returned (.bool B) ∧ Below w.heap.size w w') := by
    intro B hB
    refine (partsFields (he.below hKA) (fun _ _ _ he hx B hB => mayField_any he hx B hB) (hf.mono hKA fun _ _ _ h => h.below hKA) B hB).mono ?_
    rintro _ _ ⟨rfl, hb⟩
    exact ⟨rfl, hA.trans (below_le hb hA.size)⟩
  have HA : Hid (Below w.heap.size w (w.alloc (.cells #[.bool x.pub, .string (str x.name), .slice ao x.lives.length cap, .slice ao2 x.fields.length cap2, .int .i64 x.pos] 73))) := hA
  have HB : Hid (B = true ↔ MaySct x) := hB
  clear hA hKA hB he hs hf
  cases f0 : (nameB x.name)
  · have HF : Hid (B = false) := bool_false HB.out (fun h => by have h' := h.1; rw [h'] at f0; cases f0)
    rw [f0] at N0
    clear HB f0 N1 T0
    generalize str x.name = S at *
    generalize x.lives.length = len at *
    generalize x.fields.length = len2 at *
    generalize x.pos = ps at *
    generalize x.pub = pb at *
    go_enter Tryz.func35, Tryz.ntmps35
    go_wp2_with (first | (go_at_call 62; refine N0.out.mono ?_; rintro ev w2 ⟨rfl, rfl⟩))
    go_ret
    exact ⟨by rw [HF.out]; rfl, HA.out⟩
  rw [f0] at N0
  cases f1 : (decide (x.lives.length ≤ 64) && x.lives.all lifeB)
  · have HF : Hid (B = false) := bool_false HB.out (fun h => by have h' := h.2.1; rw [h'] at f1; cases f1)
    rw [f1] at N1
    clear HB f0 f1  T0
    generalize str x.name = S at *
    generalize x.lives.length = len at *
    generalize x.fields.length = len2 at *
    generalize x.pos = ps at *
    generalize x.pub = pb at *
    go_enter Tryz.func35, Tryz.ntmps35
    go_wp2_with (first | (go_at_call 62; refine N0.out.mono ?_; rintro ev w2 ⟨rfl, rfl⟩) | (go_at_call 63; refine N1.out.mono ?_; rintro ev w2 ⟨rfl, rfl⟩))
    go_ret
    exact ⟨by rw [HF.out]; rfl, HA.out⟩
  rw [f1] at N1
  have D := T0.out B (by rw [HB.out]; exact ⟨fun h => h.2.2, fun h => ⟨f0, f1, h⟩⟩)
  clear HB T0 f0 f1
  generalize str x.name = S at *
  generalize x.lives.length = len at *
  generalize x.fields.length = len2 at *
  generalize x.pos = ps at *
  generalize x.pub = pb at *
  go_enter Tryz.func35, Tryz.ntmps35
  go_wp2_with (first | (go_at_call 62; refine N0.out.mono ?_; rintro ev w2 ⟨rfl, rfl⟩) | (go_at_call 63; refine N1.out.mono ?_; rintro ev w2 ⟨rfl, rfl⟩) | (go_at_call 65; refine D.mono ?_; rintro ev w2 ⟨rfl, hb2⟩))
  go_ret
  exact ⟨rfl, hb2⟩
end Go.Proofs.YtlbhaaldndjigaaGreatDoor

namespace Go.Proofs.YtlbhaaldndjigaaGreatDoor
open Go.RowKit
def ops1 (f : Func) : List Oper := match f.body with
  | some (.seq _ (.seq (.region _ ops _) _)) => ops.toList
  | _ => []
/-- The first so many steps of the check. -/
def lexTo (md : Region.Mode) (ops : Array Oper) : Nat → Nat → Array Bool → Bool
  | 0, _, _ => true
  | s + 1, k, listed => (Region.ready md ops listed).contains k && Region.free md ops listed k && lexTo md ops s (k + 1) (listed.setIfInBounds k true)
/-- What is listed behind them. -/
def listedTo : Nat → Nat → Array Bool → Array Bool
  | 0, _, listed => listed
  | s + 1, k, listed => listedTo s (k + 1) (listed.setIfInBounds k true)
theorem lex_split (md : Region.Mode) (ops : Array Oper) : ∀ (s f k : Nat) (listed : Array Bool), lexTo md ops s k listed = true → Region.lexFrom md ops f (k + s) (listedTo s k listed) = true → Region.lexFrom md ops (f + s) k listed = true
  | 0, f, k, listed, _, h => h
  | s + 1, f, k, listed, h1, h2 => by
    simp only [lexTo, Bool.and_eq_true] at h1
    simp only [listedTo] at h2
    have h3 := lex_split md ops s f (k + 1) _ h1.2 (by rw [Nat.add_right_comm, Nat.add_assoc]; exact h2)
    show Region.lexFrom md ops (f + s + 1) k listed = true
    simp only [Region.lexFrom, Bool.and_eq_true]
    exact ⟨h1.1, h3⟩
theorem listed_split : ∀ (s r k : Nat) (listed : Array Bool), listedTo r (k + s) (listedTo s k listed) = listedTo (s + r) k listed
  | 0, r, k, listed => by simp [listedTo]
  | s + 1, r, k, listed => by
    have := listed_split s r (k + 1) (listed.setIfInBounds k true)
    rw [show s + 1 + r = (s + r) + 1 by omega]
    simp only [listedTo]
    rw [← this, Nat.add_right_comm, Nat.add_assoc]
theorem lex75_0 : lexTo .any (ops1 Tryz.f127).toArray 8 0 (listedTo 0 0 (Array.replicate 112 false)) = true := by kernel_rfl
theorem lex75_8 : lexTo .any (ops1 Tryz.f127).toArray 8 8 (listedTo 8 0 (Array.replicate 112 false)) = true := by kernel_rfl
theorem lex75_16 : lexTo .any (ops1 Tryz.f127).toArray 8 16 (listedTo 16 0 (Array.replicate 112 false)) = true := by kernel_rfl
theorem lex75_24 : lexTo .any (ops1 Tryz.f127).toArray 8 24 (listedTo 24 0 (Array.replicate 112 false)) = true := by kernel_rfl
theorem lex75_32 : lexTo .any (ops1 Tryz.f127).toArray 8 32 (listedTo 32 0 (Array.replicate 112 false)) = true := by kernel_rfl
theorem lex75_40 : lexTo .any (ops1 Tryz.f127).toArray 8 40 (listedTo 40 0 (Array.replicate 112 false)) = true := by kernel_rfl
theorem lex75_48 : lexTo .any (ops1 Tryz.f127).toArray 8 48 (listedTo 48 0 (Array.replicate 112 false)) = true := by kernel_rfl
theorem lex75_56 : lexTo .any (ops1 Tryz.f127).toArray 8 56 (listedTo 56 0 (Array.replicate 112 false)) = true := by kernel_rfl
theorem lex75_64 : lexTo .any (ops1 Tryz.f127).toArray 8 64 (listedTo 64 0 (Array.replicate 112 false)) = true := by kernel_rfl
theorem lex75_72 : lexTo .any (ops1 Tryz.f127).toArray 8 72 (listedTo 72 0 (Array.replicate 112 false)) = true := by kernel_rfl
theorem lex75_80 : lexTo .any (ops1 Tryz.f127).toArray 8 80 (listedTo 80 0 (Array.replicate 112 false)) = true := by kernel_rfl
theorem lex75_88 : lexTo .any (ops1 Tryz.f127).toArray 8 88 (listedTo 88 0 (Array.replicate 112 false)) = true := by kernel_rfl
theorem lex75_96 : lexTo .any (ops1 Tryz.f127).toArray 8 96 (listedTo 96 0 (Array.replicate 112 false)) = true := by kernel_rfl
theorem lex75_104 : lexTo .any (ops1 Tryz.f127).toArray 8 104 (listedTo 104 0 (Array.replicate 112 false)) = true := by kernel_rfl
theorem lex75_end : Region.lexFrom .any (ops1 Tryz.f127).toArray 0 112 (listedTo 112 0 (Array.replicate 112 false)) = true := by kernel_rfl
theorem lex75_from104 : Region.lexFrom .any (ops1 Tryz.f127).toArray 8 104 (listedTo 104 0 (Array.replicate 112 false)) = true :=
  lex_split .any (ops1 Tryz.f127).toArray 8 0 104 (listedTo 104 0 (Array.replicate 112 false)) lex75_104 (by have h := listed_split 104 8 0 (Array.replicate 112 false); rw [Nat.zero_add] at h; rw [h]; exact lex75_end)
theorem lex75_from96 : Region.lexFrom .any (ops1 Tryz.f127).toArray 16 96 (listedTo 96 0 (Array.replicate 112 false)) = true :=
  lex_split .any (ops1 Tryz.f127).toArray 8 8 96 (listedTo 96 0 (Array.replicate 112 false)) lex75_96 (by have h := listed_split 96 8 0 (Array.replicate 112 false); rw [Nat.zero_add] at h; rw [h]; exact lex75_from104)
theorem lex75_from88 : Region.lexFrom .any (ops1 Tryz.f127).toArray 24 88 (listedTo 88 0 (Array.replicate 112 false)) = true :=
  lex_split .any (ops1 Tryz.f127).toArray 8 16 88 (listedTo 88 0 (Array.replicate 112 false)) lex75_88 (by have h := listed_split 88 8 0 (Array.replicate 112 false); rw [Nat.zero_add] at h; rw [h]; exact lex75_from96)
theorem lex75_from80 : Region.lexFrom .any (ops1 Tryz.f127).toArray 32 80 (listedTo 80 0 (Array.replicate 112 false)) = true :=
  lex_split .any (ops1 Tryz.f127).toArray 8 24 80 (listedTo 80 0 (Array.replicate 112 false)) lex75_80 (by have h := listed_split 80 8 0 (Array.replicate 112 false); rw [Nat.zero_add] at h; rw [h]; exact lex75_from88)
theorem lex75_from72 : Region.lexFrom .any (ops1 Tryz.f127).toArray 40 72 (listedTo 72 0 (Array.replicate 112 false)) = true :=
  lex_split .any (ops1 Tryz.f127).toArray 8 32 72 (listedTo 72 0 (Array.replicate 112 false)) lex75_72 (by have h := listed_split 72 8 0 (Array.replicate 112 false); rw [Nat.zero_add] at h; rw [h]; exact lex75_from80)
theorem lex75_from64 : Region.lexFrom .any (ops1 Tryz.f127).toArray 48 64 (listedTo 64 0 (Array.replicate 112 false)) = true :=
  lex_split .any (ops1 Tryz.f127).toArray 8 40 64 (listedTo 64 0 (Array.replicate 112 false)) lex75_64 (by have h := listed_split 64 8 0 (Array.replicate 112 false); rw [Nat.zero_add] at h; rw [h]; exact lex75_from72)
theorem lex75_from56 : Region.lexFrom .any (ops1 Tryz.f127).toArray 56 56 (listedTo 56 0 (Array.replicate 112 false)) = true :=
  lex_split .any (ops1 Tryz.f127).toArray 8 48 56 (listedTo 56 0 (Array.replicate 112 false)) lex75_56 (by have h := listed_split 56 8 0 (Array.replicate 112 false); rw [Nat.zero_add] at h; rw [h]; exact lex75_from64)
theorem lex75_from48 : Region.lexFrom .any (ops1 Tryz.f127).toArray 64 48 (listedTo 48 0 (Array.replicate 112 false)) = true :=
  lex_split .any (ops1 Tryz.f127).toArray 8 56 48 (listedTo 48 0 (Array.replicate 112 false)) lex75_48 (by have h := listed_split 48 8 0 (Array.replicate 112 false); rw [Nat.zero_add] at h; rw [h]; exact lex75_from56)
theorem lex75_from40 : Region.lexFrom .any (ops1 Tryz.f127).toArray 72 40 (listedTo 40 0 (Array.replicate 112 false)) = true :=
  lex_split .any (ops1 Tryz.f127).toArray 8 64 40 (listedTo 40 0 (Array.replicate 112 false)) lex75_40 (by have h := listed_split 40 8 0 (Array.replicate 112 false); rw [Nat.zero_add] at h; rw [h]; exact lex75_from48)
theorem lex75_from32 : Region.lexFrom .any (ops1 Tryz.f127).toArray 80 32 (listedTo 32 0 (Array.replicate 112 false)) = true :=
  lex_split .any (ops1 Tryz.f127).toArray 8 72 32 (listedTo 32 0 (Array.replicate 112 false)) lex75_32 (by have h := listed_split 32 8 0 (Array.replicate 112 false); rw [Nat.zero_add] at h; rw [h]; exact lex75_from40)
theorem lex75_from24 : Region.lexFrom .any (ops1 Tryz.f127).toArray 88 24 (listedTo 24 0 (Array.replicate 112 false)) = true :=
  lex_split .any (ops1 Tryz.f127).toArray 8 80 24 (listedTo 24 0 (Array.replicate 112 false)) lex75_24 (by have h := listed_split 24 8 0 (Array.replicate 112 false); rw [Nat.zero_add] at h; rw [h]; exact lex75_from32)
theorem lex75_from16 : Region.lexFrom .any (ops1 Tryz.f127).toArray 96 16 (listedTo 16 0 (Array.replicate 112 false)) = true :=
  lex_split .any (ops1 Tryz.f127).toArray 8 88 16 (listedTo 16 0 (Array.replicate 112 false)) lex75_16 (by have h := listed_split 16 8 0 (Array.replicate 112 false); rw [Nat.zero_add] at h; rw [h]; exact lex75_from24)
theorem lex75_from8 : Region.lexFrom .any (ops1 Tryz.f127).toArray 104 8 (listedTo 8 0 (Array.replicate 112 false)) = true :=
  lex_split .any (ops1 Tryz.f127).toArray 8 96 8 (listedTo 8 0 (Array.replicate 112 false)) lex75_8 (by have h := listed_split 8 8 0 (Array.replicate 112 false); rw [Nat.zero_add] at h; rw [h]; exact lex75_from16)
theorem lex75_from0 : Region.lexFrom .any (ops1 Tryz.f127).toArray 112 0 (listedTo 0 0 (Array.replicate 112 false)) = true :=
  lex_split .any (ops1 Tryz.f127).toArray 8 104 0 (listedTo 0 0 (Array.replicate 112 false)) lex75_0 (by have h := listed_split 0 8 0 (Array.replicate 112 false); rw [Nat.zero_add] at h; rw [h]; exact lex75_from8)
theorem lex75_size : (ops1 Tryz.f127).toArray.size = 112 := by kernel_rfl
theorem lex75_sel : Region.noSelect (ops1 Tryz.f127).toArray = true := by kernel_rfl
theorem lex75 : Region.lexB .any (ops1 Tryz.f127).toArray = true := by
  unfold Region.lexB
  rw [lex75_sel, lex75_size, Bool.true_and]
  exact lex75_from0
theorem lex100 : Region.lexB .any (ops1 Tryz.f142).toArray = true := by kernel_rfl
end Go.Proofs.YtlbhaaldndjigaaGreatDoor
