/-
  Results, parameters, fields, lifetimes, structs: may they be? The program says it.
-/
import Derived.Test.YtmopffaocamieaaGreatQapMyt
import Derived.Test.YtmopffaocamieaaGreatQapAlf
import Derived.Test.YtmopffaocamieaaGreatJapAlo2
namespace Go.Proofs.YtmopffaocamieaaGreat
open Go.RowKit

theorem IsTy.open {K : Ctx} {w : World} {cs : List Value} {t : Ty} (h : IsTy K w cs t) :
    ∃ ao2 n2 c2 ao3 n3 c3, cs = [.int .i64 t.kind, .string (str t.name), .slice ao2 n2 c2, .slice ao3 n3 c3] := by
  obtain ⟨n, h⟩ := h
  cases n with
  | zero => exact h.elim
  | succ n =>
    obtain ⟨v2, v3, rfl, _, h2, h3⟩ := h
    obtain ⟨ao2, cap2, rfl, _⟩ := h2.shape
    obtain ⟨ao3, cap3, rfl, _⟩ := h3.shape
    exact ⟨_, _, _, _, _, _, rfl⟩
theorem Ar.form {α : Type} {z bz : Nat} {P : List Value → α → Prop} {K : Ctx} {w : World} {v : Value} {l : List α} (h : Ar z bz P K w v l) : ∃ ao cap, v = .slice ao l.length cap := by
  obtain ⟨ao, cap, e, _⟩ := h.shape; exact ⟨ao, cap, e⟩
theorem Strs.form {K : Ctx} {w : World} {v : Value} {l : List Bs} (h : Strs K w v l) : ∃ ao cap, v = .slice ao l.length cap := Ar.form h
def MayPar (x : Fld) : Prop := nameB x.name = true ∧ MayTy 64 x.ty
def MayFld (x : Fld) : Prop := x.mu = false ∧ MayPar x

set_option maxHeartbeats 4000000 in
theorem mayParam_any {K : Ctx} {w : World} (he : Env K w) {x : Fld} {cs : List Value} (hx : FldAt K w cs x) (B : Bool) (hB : B = true ↔ MayPar x) :
    Calls Tryz.prog 132 #[.agg cs.toArray] w fun ev w' => ev = .returned (.bool B) ∧ Below w.heap.size w w' := by
  obtain ⟨ts, rfl, hl, ht⟩ := hx
  obtain ⟨a2, n2, c2, a3, n3, c3, rfl⟩ := ht.open
  have N : Hid (∀ y, Calls Tryz.prog 40 #[.string (str x.name)] y fun ev w' => ev = .returned (.bool (nameB x.name)) ∧ w' = y) := fun y => name_any _ (by have := K.small; omega) y
  have hA := alloc_one w (.cells #[.bool x.mu, .string (str x.name), .int .i64 x.ty.kind, .string (str x.ty.name), .slice a2 n2 c2, .slice a3 n3 c3] 82)
  have T : Hid (∀ B, (B = true ↔ MayTy 64 x.ty) → Calls Tryz.prog 168 #[.agg #[.int .i64 x.ty.kind, .string (str x.ty.name), .slice a2 n2 c2, .slice a3 n3 c3]] (w.alloc (.cells #[.bool x.mu, .string (str x.name), .int .i64 x.ty.kind, .string (str x.ty.name), .slice a2 n2 c2, .slice a3 n3 c3] 82)) fun ev w' => ev = .returned (.bool B) ∧ Below w.heap.size w w') := by
    intro B hB
    refine (mayType_any (cs := [.int .i64 x.ty.kind, .string (str x.ty.name), .slice a2 n2 c2, .slice a3 n3 c3]) (he.below (below_le hA he.C)) (ht.below (below_le hA he.C)) B hB).mono ?_
    rintro _ _ ⟨rfl, hb⟩
    exact ⟨rfl, hA.trans (below_le hb hA.size)⟩
  have HA : Hid (Below w.heap.size w (w.alloc (.cells #[.bool x.mu, .string (str x.name), .int .i64 x.ty.kind, .string (str x.ty.name), .slice a2 n2 c2, .slice a3 n3 c3] 82))) := hA
  clear ht hA
  cases f1 : nameB x.name
  · obtain rfl := bool_false hB (fun h => by rw [h.1] at f1; cases f1)
    rw [f1] at N
    clear hB f1 T
    generalize x.ty.kind = k at *
    generalize str x.ty.name = S2 at *
    generalize str x.name = S at *
    go_enter Tryz.func132, Tryz.ntmps132
    go_wp2_with (go_at_call 40; refine (N.out _).mono ?_; rintro ev w2 ⟨rfl, rfl⟩)
    go_ret
    exact ⟨rfl, HA.out⟩
  · have D := T.out B (by rw [hB]; exact ⟨fun h => h.2, fun h => ⟨f1, h⟩⟩)
    rw [f1] at N
    clear hB f1 T
    generalize x.ty.kind = k at *
    generalize str x.ty.name = S2 at *
    generalize str x.name = S at *
    go_enter Tryz.func132, Tryz.ntmps132
    go_wp2_with (first | (go_at_call 40; refine (N.out _).mono ?_; rintro ev w2 ⟨rfl, rfl⟩) | (go_at_call 168; refine D.mono ?_; rintro ev w2 ⟨rfl, hb2⟩))
    go_ret
    exact ⟨rfl, hb2⟩

def MayRes (t : Ty) : Prop := t = Ty.zero ∨ MayTy 64 t
def MayLfe (x : Lfe) : Prop := lifeB x.name = true ∧ (decide (x.over.length ≤ 64) && x.over.all lifeB) = true
def MaySct (x : Sct) : Prop := nameB x.name = true ∧ (decide (x.lives.length ≤ 64) && x.lives.all lifeB) = true ∧ x.fields.length ≤ 64 ∧ ∀ f ∈ x.fields, MayFld f
def MayPl (x : Pl) : Prop := nameB x.name = true ∧ (decide (x.path.length ≤ 64) && x.path.all stepB) = true

set_option maxHeartbeats 4000000 in
theorem mayField_any {K : Ctx} {w : World} (he : Env K w) {x : Fld} {cs : List Value} (hx : FldAt K w cs x) (B : Bool) (hB : B = true ↔ MayFld x) :
    Calls Tryz.prog 129 #[.agg cs.toArray] w fun ev w' => ev = .returned (.bool B) ∧ Below w.heap.size w w' := by
  have hA := alloc_one w (.cells cs.toArray 82)
  have hKA := below_le hA he.C
  have T0 := fun B hB => mayParam_any (he.below hKA) (hx.below hKA) B hB
  obtain ⟨ts, rfl, hl, ht⟩ := hx
  obtain ⟨a2, n2, c2, a3, n3, c3, rfl⟩ := ht.open
  have HA : Hid (Below w.heap.size w (w.alloc (.cells #[.bool x.mu, .string (str x.name), .int .i64 x.ty.kind, .string (str x.ty.name), .slice a2 n2 c2, .slice a3 n3 c3] 82))) := hA
  cases f1 : x.mu
  · have D : Hid (Calls Tryz.prog 132 #[.agg #[.bool false, .string (str x.name), .int .i64 x.ty.kind, .string (str x.ty.name), .slice a2 n2 c2, .slice a3 n3 c3]] (w.alloc (.cells #[.bool false, .string (str x.name), .int .i64 x.ty.kind, .string (str x.ty.name), .slice a2 n2 c2, .slice a3 n3 c3] 82)) fun ev w' => ev = .returned (.bool B) ∧ Below w.heap.size w w') := by
      rw [f1] at T0 hA
      refine (T0 B (by rw [hB]; exact ⟨fun h => h.2, fun h => ⟨f1, h⟩⟩)).mono ?_
      rintro _ _ ⟨rfl, hb⟩
      exact ⟨rfl, hA.trans (below_le hb hA.size)⟩
    clear T0 hA hKA ht hB he f1 HA
    generalize x.ty.kind = k at *
    generalize str x.ty.name = S2 at *
    generalize str x.name = S at *
    go_enter Tryz.func129, Tryz.ntmps129
    go_wp2_with (go_at_call 132; refine D.out.mono ?_; rintro ev w2 ⟨rfl, hb2⟩)
    go_ret
    exact ⟨rfl, hb2⟩
  · obtain rfl := bool_false hB (fun h => by rw [h.1] at f1; cases f1)
    rw [f1] at HA
    clear T0 hA hKA ht hB he f1
    generalize x.ty.kind = k at *
    generalize str x.ty.name = S2 at *
    generalize str x.name = S at *
    go_enter Tryz.func129, Tryz.ntmps129
    go_wp2_with fail
    go_ret
    exact ⟨rfl, HA.out⟩

theorem res_zero {t : Ty} (h : t.kind = 0) : MayRes t ↔ t = Ty.zero := by
  constructor
  · rintro (h' | h')
    · exact h'
    · exact absurd h' (mayTy_none (n := 63) (by omega))
  · exact .inl
theorem res_not {t : Ty} (h : t.kind ≠ 0) : MayRes t ↔ MayTy 64 t := by
  constructor
  · rintro (rfl | h')
    · exact absurd rfl h
    · exact h'
  · exact .inr
set_option maxHeartbeats 4000000 in
theorem mayResult_any {K : Ctx} {w : World} (he : Env K w) {x : Ty} {cs : List Value} (hx : IsTy K w cs x) (B : Bool) (hB : B = true ↔ MayRes x) :
    Calls Tryz.prog 133 #[.agg cs.toArray] w fun ev w' => ev = .returned (.bool B) ∧ Below w.heap.size w w' := by
  have hA := alloc_one w (.cells cs.toArray 62)
  have hKA := below_le hA he.C
  have T0 := fun B hB => mayType_any (he.below hKA) (hx.below hKA) B hB
  have T1 := fun B hB => sameTypes2_any (he.below hKA).C (cs' := tyCells 0) (hx.below hKA) (kind_at K _ 0) B hB
  obtain ⟨a2, n2, c2, a3, n3, c3, rfl⟩ := hx.open
  by_cases f1 : x.kind = 0
  · have b1 : (x.kind == 0) = true := by rw [f1]; rfl
    have D : Hid (Calls Tryz.prog 169 #[.agg #[.int .i64 x.kind, .string (str x.name), .slice a2 n2 c2, .slice a3 n3 c3], .agg #[.int .i64 0, .string ⟨#[]⟩, .slice none 0 0, .slice none 0 0]] (w.alloc (.cells #[.int .i64 x.kind, .string (str x.name), .slice a2 n2 c2, .slice a3 n3 c3] 62)) fun ev w' => ev = .returned (.bool B) ∧ Below w.heap.size w w') := by
      refine (T1 B (by rw [hB, res_zero f1]; rfl)).mono ?_
      rintro _ _ ⟨rfl, hb⟩
      exact ⟨rfl, hA.trans (below_le hb hA.size)⟩
    clear T0 T1 hA hKA hx hB he f1
    generalize x.kind = k at *
    generalize str x.name = S at *
    go_enter Tryz.func133, Tryz.ntmps133
    go_wp2_with (go_at_call 169; refine D.out.mono ?_; rintro ev w2 ⟨rfl, hb2⟩)
    go_ret
    exact ⟨rfl, hb2⟩
  · have b1 : (x.kind == 0) = false := by simpa using f1
    have D : Hid (Calls Tryz.prog 168 #[.agg #[.int .i64 x.kind, .string (str x.name), .slice a2 n2 c2, .slice a3 n3 c3]] (w.alloc (.cells #[.int .i64 x.kind, .string (str x.name), .slice a2 n2 c2, .slice a3 n3 c3] 62)) fun ev w' => ev = .returned (.bool B) ∧ Below w.heap.size w w') := by
      refine (T0 B (by rw [hB, res_not f1])).mono ?_
      rintro _ _ ⟨rfl, hb⟩
      exact ⟨rfl, hA.trans (below_le hb hA.size)⟩
    clear T0 T1 hA hKA hx hB he f1
    generalize x.kind = k at *
    generalize str x.name = S at *
    go_enter Tryz.func133, Tryz.ntmps133
    go_wp2_with (go_at_call 168; refine D.out.mono ?_; rintro ev w2 ⟨rfl, hb2⟩)
    go_ret
    exact ⟨rfl, hb2⟩

set_option maxHeartbeats 4000000 in
theorem mayLife_any {K : Ctx} {w : World} (he : Env K w) {x : Lfe} {cs : List Value} (hx : LfeAt K w cs x) (B : Bool) (hB : B = true ↔ MayLfe x) :
    Calls Tryz.prog 131 #[.agg cs.toArray] w fun ev w' => ev = .returned (.bool B) ∧ Below w.heap.size w w' := by
  have hsm := K.small
  obtain ⟨v1, rfl, hl, hs⟩ := hx
  obtain ⟨ao, cap, rfl⟩ := hs.form
  have hA := alloc_one w (.cells #[.string (str x.name), .slice ao x.over.length cap] 85)
  have hKA := below_le hA he.C
  have N0 : Hid (Calls Tryz.prog 127 #[.string (str x.name)] (w.alloc (.cells #[.string (str x.name), .slice ao x.over.length cap] 85)) fun ev w' => ev = .returned (.bool (lifeB x.name)) ∧ w' = (w.alloc (.cells #[.string (str x.name), .slice ao x.over.length cap] 85))) := lifeB_calls_48 _ (by omega) _
  have N1 : Hid (Calls Tryz.prog 126 #[.slice ao x.over.length cap, .func (.func 127) #[] #[]] (w.alloc (.cells #[.string (str x.name), .slice ao x.over.length cap] 85)) fun ev w' => ev = .returned (.bool (decide (x.over.length ≤ 64) && x.over.all lifeB)) ∧ w' = (w.alloc (.cells #[.string (str x.name), .slice ao x.over.length cap] 85))) := partsLives (hs.below hKA)
  have HA : Hid (Below w.heap.size w (w.alloc (.cells #[.string (str x.name), .slice ao x.over.length cap] 85))) := hA
  have HB : Hid (B = true ↔ MayLfe x) := hB
  clear hA hKA hB he hs
  cases f0 : (lifeB x.name)
  · have HF : Hid (B = false) := bool_false HB.out (fun h => by have h' := h.1; rw [h'] at f0; cases f0)
    rw [f0] at N0
    clear HB f0 N1 
    generalize str x.name = S at *
    generalize x.over.length = len at *
    go_enter Tryz.func131, Tryz.ntmps131
    go_wp2_with (first | (go_at_call 127; refine N0.out.mono ?_; rintro ev w2 ⟨rfl, rfl⟩))
    go_ret
    exact ⟨by rw [HF.out]; rfl, HA.out⟩
  rw [f0] at N0
  cases f1 : (decide (x.over.length ≤ 64) && x.over.all lifeB)
  · have HF : Hid (B = false) := bool_false HB.out (fun h => by have h' := h.2; rw [h'] at f1; cases f1)
    rw [f1] at N1
    clear HB f0 f1  
    generalize str x.name = S at *
    generalize x.over.length = len at *
    go_enter Tryz.func131, Tryz.ntmps131
    go_wp2_with (first | (go_at_call 127; refine N0.out.mono ?_; rintro ev w2 ⟨rfl, rfl⟩) | (go_at_call 126; refine N1.out.mono ?_; rintro ev w2 ⟨rfl, rfl⟩))
    go_ret
    exact ⟨by rw [HF.out]; rfl, HA.out⟩
  rw [f1] at N1
  have HF : Hid (B = true) := HB.out.2 ⟨f0, f1⟩
  clear HB f0 f1
  generalize str x.name = S at *
  generalize x.over.length = len at *
  go_enter Tryz.func131, Tryz.ntmps131
  go_wp2_with (first | (go_at_call 127; refine N0.out.mono ?_; rintro ev w2 ⟨rfl, rfl⟩) | (go_at_call 126; refine N1.out.mono ?_; rintro ev w2 ⟨rfl, rfl⟩))
  go_ret
  exact ⟨by rw [HF.out]; rfl, HA.out⟩

set_option maxHeartbeats 4000000 in
theorem mayPlace_any {K : Ctx} {w : World} (he : Env K w) {x : Pl} {cs : List Value} (hx : PlAt K w cs x) (B : Bool) (hB : B = true ↔ MayPl x) :
    Calls Tryz.prog 195 #[.agg cs.toArray] w fun ev w' => ev = .returned (.bool B) ∧ Below w.heap.size w w' := by
  have hsm := K.small
  obtain ⟨v1, rfl, hl, hs⟩ := hx
  obtain ⟨ao, cap, rfl⟩ := hs.form
  have hA := alloc_one w (.cells #[.string (str x.name), .slice ao x.path.length cap] 107)
  have hKA := below_le hA he.C
  have N0 : Hid (Calls Tryz.prog 40 #[.string (str x.name)] (w.alloc (.cells #[.string (str x.name), .slice ao x.path.length cap] 107)) fun ev w' => ev = .returned (.bool (nameB x.name)) ∧ w' = (w.alloc (.cells #[.string (str x.name), .slice ao x.path.length cap] 107))) := name_any _ (by omega) _
  have N1 : Hid (Calls Tryz.prog 126 #[.slice ao x.path.length cap, .func (.func 210) #[] #[]] (w.alloc (.cells #[.string (str x.name), .slice ao x.path.length cap] 107)) fun ev w' => ev = .returned (.bool (decide (x.path.length ≤ 64) && x.path.all stepB)) ∧ w' = (w.alloc (.cells #[.string (str x.name), .slice ao x.path.length cap] 107))) := partsSteps (hs.below hKA)
  have HA : Hid (Below w.heap.size w (w.alloc (.cells #[.string (str x.name), .slice ao x.path.length cap] 107))) := hA
  have HB : Hid (B = true ↔ MayPl x) := hB
  clear hA hKA hB he hs
  cases f0 : (nameB x.name)
  · have HF : Hid (B = false) := bool_false HB.out (fun h => by have h' := h.1; rw [h'] at f0; cases f0)
    rw [f0] at N0
    clear HB f0 N1 
    generalize str x.name = S at *
    generalize x.path.length = len at *
    go_enter Tryz.func195, Tryz.ntmps195
    go_wp2_with (first | (go_at_call 40; refine N0.out.mono ?_; rintro ev w2 ⟨rfl, rfl⟩))
    go_ret
    exact ⟨by rw [HF.out]; rfl, HA.out⟩
  rw [f0] at N0
  cases f1 : (decide (x.path.length ≤ 64) && x.path.all stepB)
  · have HF : Hid (B = false) := bool_false HB.out (fun h => by have h' := h.2; rw [h'] at f1; cases f1)
    rw [f1] at N1
    clear HB f0 f1  
    generalize str x.name = S at *
    generalize x.path.length = len at *
    go_enter Tryz.func195, Tryz.ntmps195
    go_wp2_with (first | (go_at_call 40; refine N0.out.mono ?_; rintro ev w2 ⟨rfl, rfl⟩) | (go_at_call 126; refine N1.out.mono ?_; rintro ev w2 ⟨rfl, rfl⟩))
    go_ret
    exact ⟨by rw [HF.out]; rfl, HA.out⟩
  rw [f1] at N1
  have HF : Hid (B = true) := HB.out.2 ⟨f0, f1⟩
  clear HB f0 f1
  generalize str x.name = S at *
  generalize x.path.length = len at *
  go_enter Tryz.func195, Tryz.ntmps195
  go_wp2_with (first | (go_at_call 40; refine N0.out.mono ?_; rintro ev w2 ⟨rfl, rfl⟩) | (go_at_call 126; refine N1.out.mono ?_; rintro ev w2 ⟨rfl, rfl⟩))
  go_ret
  exact ⟨by rw [HF.out]; rfl, HA.out⟩

set_option maxHeartbeats 4000000 in
theorem mayStruct_any {K : Ctx} {w : World} (he : Env K w) {x : Sct} {cs : List Value} (hx : SctAt K w cs x) (B : Bool) (hB : B = true ↔ MaySct x) :
    Calls Tryz.prog 83 #[.agg cs.toArray] w fun ev w' => ev = .returned (.bool B) ∧ Below w.heap.size w w' := by
  have hsm := K.small
  obtain ⟨v1, v2, rfl, hl, hs, hf⟩ := hx
  obtain ⟨ao, cap, rfl⟩ := hs.form
  obtain ⟨ao2, cap2, rfl⟩ := hf.form
  have hA := alloc_one w (.cells #[.bool x.pub, .string (str x.name), .slice ao x.lives.length cap, .slice ao2 x.fields.length cap2, .int .i64 x.pos] 58)
  have hKA := below_le hA he.C
  have N0 : Hid (Calls Tryz.prog 40 #[.string (str x.name)] (w.alloc (.cells #[.bool x.pub, .string (str x.name), .slice ao x.lives.length cap, .slice ao2 x.fields.length cap2, .int .i64 x.pos] 58)) fun ev w' => ev = .returned (.bool (nameB x.name)) ∧ w' = (w.alloc (.cells #[.bool x.pub, .string (str x.name), .slice ao x.lives.length cap, .slice ao2 x.fields.length cap2, .int .i64 x.pos] 58))) := name_any _ (by omega) _
  have N1 : Hid (Calls Tryz.prog 126 #[.slice ao x.lives.length cap, .func (.func 127) #[] #[]] (w.alloc (.cells #[.bool x.pub, .string (str x.name), .slice ao x.lives.length cap, .slice ao2 x.fields.length cap2, .int .i64 x.pos] 58)) fun ev w' => ev = .returned (.bool (decide (x.lives.length ≤ 64) && x.lives.all lifeB)) ∧ w' = (w.alloc (.cells #[.bool x.pub, .string (str x.name), .slice ao x.lives.length cap, .slice ao2 x.fields.length cap2, .int .i64 x.pos] 58))) := partsLives (hs.below hKA)
  have T0 : Hid (∀ B, (B = true ↔ x.fields.length ≤ 64 ∧ ∀ f ∈ x.fields, MayFld f) → Calls Tryz.prog 128 #[.slice ao2 x.fields.length cap2, .func (.func 129) #[] #[]] (w.alloc (.cells #[.bool x.pub, .string (str x.name), .slice ao x.lives.length cap, .slice ao2 x.fields.length cap2, .int .i64 x.pos] 58)) fun ev w' => ev = .returned (.bool B) ∧ Below w.heap.size w w') := by
    intro B hB
    refine (partsFields (he.below hKA) (fun _ _ _ he hx B hB => mayField_any he hx B hB) (hf.mono hKA fun _ _ _ h => h.below hKA) B hB).mono ?_
    rintro _ _ ⟨rfl, hb⟩
    exact ⟨rfl, hA.trans (below_le hb hA.size)⟩
  have HA : Hid (Below w.heap.size w (w.alloc (.cells #[.bool x.pub, .string (str x.name), .slice ao x.lives.length cap, .slice ao2 x.fields.length cap2, .int .i64 x.pos] 58))) := hA
  have HB : Hid (B = true ↔ MaySct x) := hB
  clear hA hKA hB he hs hf
  cases f0 : (nameB x.name)
  · have HF : Hid (B = false) := bool_false HB.out (fun h => by have h' := h.1; rw [h'] at f0; cases f0)
    rw [f0] at N0
    clear HB f0 N1 T0
    generalize str x.name = S at *
    generalize x.lives.length = len at *
    generalize x.fields.length = len2 at *
    generalize x.pos = ps at *
    generalize x.pub = pb at *
    go_enter Tryz.func83, Tryz.ntmps83
    go_wp2_with (first | (go_at_call 40; refine N0.out.mono ?_; rintro ev w2 ⟨rfl, rfl⟩))
    go_ret
    exact ⟨by rw [HF.out]; rfl, HA.out⟩
  rw [f0] at N0
  cases f1 : (decide (x.lives.length ≤ 64) && x.lives.all lifeB)
  · have HF : Hid (B = false) := bool_false HB.out (fun h => by have h' := h.2.1; rw [h'] at f1; cases f1)
    rw [f1] at N1
    clear HB f0 f1  T0
    generalize str x.name = S at *
    generalize x.lives.length = len at *
    generalize x.fields.length = len2 at *
    generalize x.pos = ps at *
    generalize x.pub = pb at *
    go_enter Tryz.func83, Tryz.ntmps83
    go_wp2_with (first | (go_at_call 40; refine N0.out.mono ?_; rintro ev w2 ⟨rfl, rfl⟩) | (go_at_call 126; refine N1.out.mono ?_; rintro ev w2 ⟨rfl, rfl⟩))
    go_ret
    exact ⟨by rw [HF.out]; rfl, HA.out⟩
  rw [f1] at N1
  have D := T0.out B (by rw [HB.out]; exact ⟨fun h => h.2.2, fun h => ⟨f0, f1, h⟩⟩)
  clear HB T0 f0 f1
  generalize str x.name = S at *
  generalize x.lives.length = len at *
  generalize x.fields.length = len2 at *
  generalize x.pos = ps at *
  generalize x.pub = pb at *
  go_enter Tryz.func83, Tryz.ntmps83
  go_wp2_with (first | (go_at_call 40; refine N0.out.mono ?_; rintro ev w2 ⟨rfl, rfl⟩) | (go_at_call 126; refine N1.out.mono ?_; rintro ev w2 ⟨rfl, rfl⟩) | (go_at_call 128; refine D.mono ?_; rintro ev w2 ⟨rfl, hb2⟩))
  go_ret
  exact ⟨rfl, hb2⟩
end Go.Proofs.YtmopffaocamieaaGreat
