/-
  The texts Alo, Alc, joined.
-/
import Derived.Test.YtmopffaocamieaaGreatJapSub4
namespace Go.Proofs.YtmopffaocamieaaGreat
open Go.RowKit

set_option maxHeartbeats 4000000 in
set_option maxRecDepth 20000 in
theorem allLifes {P : Lfe → Prop} {K : Ctx} {w : World} (he : Env K w)
    (ih : ∀ (x : Lfe) (cs : List Value) (y : World), Env K y → LfeAt K y cs x → ∀ (B : Bool), (B = true ↔ P x) → Calls Tryz.prog 131 #[.agg cs.toArray] y fun ev w' => ev = .returned (.bool B) ∧ Below y.heap.size y w')
    {v : Value} {l : List Lfe} (ha : Ar 2 40 (LfeAt K w) K w v l) (B : Bool) (hB : B = true ↔ ∀ x ∈ l, P x) :
    Calls Tryz.prog 167 #[v, .func (.func 131) #[] #[]] w fun ev w' => ev = .returned (.bool B) ∧ Below w.heap.size w w' := by
  obtain ⟨ao, cap, rfl, hc, hb, hA⟩ := ha.shape
  have hl9 : l.length ≤ 9223372036854775807 := by omega
  have HE : Hid (Env K w) := he
  have HA : Hid (∀ i (h : i < l.length) (y : World), Below K.C w y → ∃ b o, ao = some ⟨b, o, none⟩ ∧ ∃ cs, cs.length = 2 ∧ y.rangeAt b (o + i * 2) cs ∧ LfeAt K y cs l[i]) := by
    intro i h y hy
    obtain ⟨b, o, e, hbC, cs, hl, hcs, hx⟩ := hA i h
    refine ⟨b, o, e, cs, hl, fun j u hj => ?_, hx.below hy⟩
    have hj' : j < 2 := by rw [← hl]; exact (List.getElem?_eq_some_iff.1 hj).1
    rw [hy.cell (p := ⟨b, o + i * 2 + j, none⟩) hbC, hcs j hj']
    exact hj
  have HB : Hid (B = true ↔ ∀ x ∈ l, P x) := hB
  have HI : Hid (∀ (x : Lfe) (cs : List Value) (y : World), Env K y → LfeAt K y cs x → ∀ (B : Bool), (B = true ↔ P x) → Calls Tryz.prog 131 #[.agg cs.toArray] y fun ev w' => ev = .returned (.bool B) ∧ Below y.heap.size y w') := ih
  clear hA hB ha ih he hb
  go_enter Tryz.func167, Tryz.ntmps167
  go_wp2_with fail
  go_loopw [9] (fun i wr => ∃ k : Nat, k ≤ l.length ∧ i = .int .i64 k ∧ (∀ j (h : j < l.length), j < k → P l[j]) ∧ Below w.heap.size w wr) (fun i _ => l.length - (intOf i).toNat)
  case atStart => exact ⟨0, by omega, rfl, fun j _ h => by omega, Below.refl _ _⟩
  case round =>
    obtain ⟨k, hk, rfl, hj, hbw⟩ := hrel
    have HJ : Hid (∀ j (h : j < l.length), j < k → P l[j]) := hj
    have HW : Hid (Below w.heap.size w wr) := hbw
    clear hj hbw
    by_cases h3 : k < l.length
    · have hKC : Below K.C w wr := below_le HW.out HE.out.C
      obtain ⟨b, o, e, cs, hl, hr, hx⟩ := HA.out k h3 wr hKC
      subst e
      have hi : Hid ((Tryz.prog.info? 85).map (·.size) = some cs.length) := by show _ = _; rw [hl]; kernel_rfl
      have hi' : Hid ((Tryz.prog.info? 85).map (·.size) = some cs.toArray.size) := by show _ = _; rw [List.size_toArray]; exact hi.out
      have hl' : Hid (2 = cs.toArray.size) := by show _ = _; rw [List.size_toArray]; exact hl.symm
      have h1 : Hid (cs.toArray.all (·.oneCell') = true) := one_mem hx.one
      have hR : Hid (wr.rangeAt b (o + k * 2) cs) := hr
      have hA : Below wr.heap.size wr (wr.alloc (.cells cs.toArray 85)) := (Below.refl _ _).alloc (Nat.le_refl _) _
      have hKA : Below K.C w (wr.alloc (.cells cs.toArray 85)) := hKC.trans (below_le hA (Nat.le_trans HE.out.C HW.out.size))
      have hxA := (hx.below (below_le hA (Nat.le_trans HE.out.C HW.out.size)) : LfeAt K (wr.alloc (.cells cs.toArray 85)) cs l[k])
      have i1 : (k : Int) < (l.length : Int) := by omega
      by_cases hp : P l[k]
      · have HC : Hid (Calls Tryz.prog 131 #[.agg cs.toArray] (wr.alloc (.cells cs.toArray 85)) fun ev w' => ev = .returned (.bool true) ∧ Below wr.heap.size wr w') := (HI.out _ cs _ (HE.out.below hKA) hxA true ⟨fun _ => hp, fun _ => rfl⟩).mono fun _ _ h => ⟨h.1, hA.trans (below_le h.2 hA.size)⟩
        have HJ' : Hid (∀ j (h : j < l.length), j < k + 1 → P l[j]) := by
          intro j h hjk
          rcases Nat.lt_or_ge j k with h' | h'
          · exact HJ.out j h h'
          · obtain rfl : j = k := by omega
            exact hp
        clear hp hx HA HI hKC hxA hA hKA hl hr
        go_wp2_with (first | (refine wpList_load_mid rfl 85 (.tmp 11) rfl b (o + k * 2) rfl cs _ hR.out Tryz.underlying85 rfl hi.out ?_) | (refine store_new rfl 85 (.tmp 6) (.tmp 12) rfl cs.toArray _ 85 rfl rfl hi'.out hl'.out h1.out ?_) | (refine load_new rfl 85 (.tmp 6) rfl cs 85 _ rfl Tryz.underlying85 rfl hi.out ?_) | (go_at_call 131; refine HC.out.mono ?_; rintro ev w2 ⟨rfl, hb2⟩))
        go_roundw
        case rel => exact ⟨k + 1, by omega, by go_num, HJ'.out, HW.out.trans (below_le hb2 HW.out.size)⟩
        case measure => simp [intOf]; omega
      · have HC : Hid (Calls Tryz.prog 131 #[.agg cs.toArray] (wr.alloc (.cells cs.toArray 85)) fun ev w' => ev = .returned (.bool false) ∧ Below wr.heap.size wr w') := (HI.out _ cs _ (HE.out.below hKA) hxA false ⟨fun h => (by cases h), fun h => absurd h hp⟩).mono fun _ _ h => ⟨h.1, hA.trans (below_le h.2 hA.size)⟩
        have HF : Hid (B = false) := by
          show B = false
          cases hB : B
          · rfl
          · exact absurd (HB.out.1 hB _ (List.getElem_mem h3)) hp
        clear hp hx HA HI hKC hxA hA hKA hl hr
        go_wp2_with (first | (refine wpList_load_mid rfl 85 (.tmp 11) rfl b (o + k * 2) rfl cs _ hR.out Tryz.underlying85 rfl hi.out ?_) | (refine store_new rfl 85 (.tmp 6) (.tmp 12) rfl cs.toArray _ 85 rfl rfl hi'.out hl'.out h1.out ?_) | (refine load_new rfl 85 (.tmp 6) rfl cs 85 _ rfl Tryz.underlying85 rfl hi.out ?_) | (go_at_call 131; refine HC.out.mono ?_; rintro ev w2 ⟨rfl, hb2⟩))
        go_ret
        exact ⟨by rw [HF.out]; rfl, HW.out.trans (below_le hb2 HW.out.size)⟩
    · have HF : Hid (B = true) := HB.out.2 fun x hx => by
        obtain ⟨j, hj, rfl⟩ := List.getElem_of_mem hx
        exact HJ.out j hj (by omega)
      have i1 : ¬ (k : Int) < (l.length : Int) := by omega
      go_wp2_with fail
      go_ret
      exact ⟨by rw [HF.out]; rfl, HW.out⟩

set_option maxHeartbeats 4000000 in
theorem partsLifes {P : Lfe → Prop} {K : Ctx} {w : World} (he : Env K w)
    (ih : ∀ (x : Lfe) (cs : List Value) (y : World), Env K y → LfeAt K y cs x → ∀ (B : Bool), (B = true ↔ P x) → Calls Tryz.prog 131 #[.agg cs.toArray] y fun ev w' => ev = .returned (.bool B) ∧ Below y.heap.size y w')
    {v : Value} {l : List Lfe} (ha : Ar 2 40 (LfeAt K w) K w v l) (B : Bool) (hB : B = true ↔ l.length ≤ 64 ∧ ∀ x ∈ l, P x) :
    Calls Tryz.prog 130 #[v, .func (.func 131) #[] #[]] w fun ev w' => ev = .returned (.bool B) ∧ Below w.heap.size w w' := by
  by_cases h : l.length ≤ 64
  · have D := allLifes he ih ha B (by rw [hB]; exact ⟨fun h => h.2, fun h' => ⟨h, h'⟩⟩)
    obtain ⟨ao, cap, rfl, hc, hb, _⟩ := ha.shape
    have hl9 : l.length ≤ 9223372036854775807 := by omega
    have b1 : decide ((l.length : Int) ≤ 64) = true := by simp; omega
    have i1 : (l.length : Int) ≤ 64 := by omega
    clear hb ha ih hB he
    go_enter Tryz.func130, Tryz.ntmps130
    go_wp2_with (go_at_call 167; refine D.mono ?_; rintro ev w2 ⟨rfl, hb2⟩)
    go_ret
    exact ⟨rfl, hb2⟩
  · obtain rfl : B = false := by
      cases hB' : B
      · rfl
      · exact absurd (hB.1 hB').1 h
    obtain ⟨ao, cap, rfl, hc, hb, _⟩ := ha.shape
    have hl9 : l.length ≤ 9223372036854775807 := by omega
    have b1 : decide ((l.length : Int) ≤ 64) = false := by simp; omega
    have i1 : ¬ (l.length : Int) ≤ 64 := by omega
    clear hb ha ih hB he
    go_enter Tryz.func130, Tryz.ntmps130
    go_wp2_with fail
    go_ret
    exact ⟨rfl, Below.refl _ _⟩

set_option maxHeartbeats 4000000 in
set_option maxRecDepth 20000 in
theorem allOpers {P : Opr → Prop} {K : Ctx} {w : World} (he : Env K w)
    (ih : ∀ (x : Opr) (cs : List Value) (y : World), Env K y → OprAt K y cs x → ∀ (B : Bool), (B = true ↔ P x) → Calls Tryz.prog 200 #[.agg cs.toArray] y fun ev w' => ev = .returned (.bool B) ∧ Below y.heap.size y w')
    {v : Value} {l : List Opr} (ha : Ar 4 56 (OprAt K w) K w v l) (B : Bool) (hB : B = true ↔ ∀ x ∈ l, P x) :
    Calls Tryz.prog 215 #[v, .func (.func 200) #[] #[]] w fun ev w' => ev = .returned (.bool B) ∧ Below w.heap.size w w' := by
  obtain ⟨ao, cap, rfl, hc, hb, hA⟩ := ha.shape
  have hl9 : l.length ≤ 9223372036854775807 := by omega
  have HE : Hid (Env K w) := he
  have HA : Hid (∀ i (h : i < l.length) (y : World), Below K.C w y → ∃ b o, ao = some ⟨b, o, none⟩ ∧ ∃ cs, cs.length = 4 ∧ y.rangeAt b (o + i * 4) cs ∧ OprAt K y cs l[i]) := by
    intro i h y hy
    obtain ⟨b, o, e, hbC, cs, hl, hcs, hx⟩ := hA i h
    refine ⟨b, o, e, cs, hl, fun j u hj => ?_, hx.below hy⟩
    have hj' : j < 4 := by rw [← hl]; exact (List.getElem?_eq_some_iff.1 hj).1
    rw [hy.cell (p := ⟨b, o + i * 4 + j, none⟩) hbC, hcs j hj']
    exact hj
  have HB : Hid (B = true ↔ ∀ x ∈ l, P x) := hB
  have HI : Hid (∀ (x : Opr) (cs : List Value) (y : World), Env K y → OprAt K y cs x → ∀ (B : Bool), (B = true ↔ P x) → Calls Tryz.prog 200 #[.agg cs.toArray] y fun ev w' => ev = .returned (.bool B) ∧ Below y.heap.size y w') := ih
  clear hA hB ha ih he hb
  go_enter Tryz.func215, Tryz.ntmps215
  go_wp2_with fail
  go_loopw [9] (fun i wr => ∃ k : Nat, k ≤ l.length ∧ i = .int .i64 k ∧ (∀ j (h : j < l.length), j < k → P l[j]) ∧ Below w.heap.size w wr) (fun i _ => l.length - (intOf i).toNat)
  case atStart => exact ⟨0, by omega, rfl, fun j _ h => by omega, Below.refl _ _⟩
  case round =>
    obtain ⟨k, hk, rfl, hj, hbw⟩ := hrel
    have HJ : Hid (∀ j (h : j < l.length), j < k → P l[j]) := hj
    have HW : Hid (Below w.heap.size w wr) := hbw
    clear hj hbw
    by_cases h3 : k < l.length
    · have hKC : Below K.C w wr := below_le HW.out HE.out.C
      obtain ⟨b, o, e, cs, hl, hr, hx⟩ := HA.out k h3 wr hKC
      subst e
      have hi : Hid ((Tryz.prog.info? 109).map (·.size) = some cs.length) := by show _ = _; rw [hl]; kernel_rfl
      have hi' : Hid ((Tryz.prog.info? 109).map (·.size) = some cs.toArray.size) := by show _ = _; rw [List.size_toArray]; exact hi.out
      have hl' : Hid (4 = cs.toArray.size) := by show _ = _; rw [List.size_toArray]; exact hl.symm
      have h1 : Hid (cs.toArray.all (·.oneCell') = true) := one_mem hx.one
      have hR : Hid (wr.rangeAt b (o + k * 4) cs) := hr
      have hA : Below wr.heap.size wr (wr.alloc (.cells cs.toArray 109)) := (Below.refl _ _).alloc (Nat.le_refl _) _
      have hKA : Below K.C w (wr.alloc (.cells cs.toArray 109)) := hKC.trans (below_le hA (Nat.le_trans HE.out.C HW.out.size))
      have hxA := (hx.below (below_le hA (Nat.le_trans HE.out.C HW.out.size)) : OprAt K (wr.alloc (.cells cs.toArray 109)) cs l[k])
      have i1 : (k : Int) < (l.length : Int) := by omega
      by_cases hp : P l[k]
      · have HC : Hid (Calls Tryz.prog 200 #[.agg cs.toArray] (wr.alloc (.cells cs.toArray 109)) fun ev w' => ev = .returned (.bool true) ∧ Below wr.heap.size wr w') := (HI.out _ cs _ (HE.out.below hKA) hxA true ⟨fun _ => hp, fun _ => rfl⟩).mono fun _ _ h => ⟨h.1, hA.trans (below_le h.2 hA.size)⟩
        have HJ' : Hid (∀ j (h : j < l.length), j < k + 1 → P l[j]) := by
          intro j h hjk
          rcases Nat.lt_or_ge j k with h' | h'
          · exact HJ.out j h h'
          · obtain rfl : j = k := by omega
            exact hp
        clear hp hx HA HI hKC hxA hA hKA hl hr
        go_wp2_with (first | (refine wpList_load_mid rfl 109 (.tmp 11) rfl b (o + k * 4) rfl cs _ hR.out Tryz.underlying109 rfl hi.out ?_) | (refine store_new rfl 109 (.tmp 6) (.tmp 12) rfl cs.toArray _ 109 rfl rfl hi'.out hl'.out h1.out ?_) | (refine load_new rfl 109 (.tmp 6) rfl cs 109 _ rfl Tryz.underlying109 rfl hi.out ?_) | (go_at_call 200; refine HC.out.mono ?_; rintro ev w2 ⟨rfl, hb2⟩))
        go_roundw
        case rel => exact ⟨k + 1, by omega, by go_num, HJ'.out, HW.out.trans (below_le hb2 HW.out.size)⟩
        case measure => simp [intOf]; omega
      · have HC : Hid (Calls Tryz.prog 200 #[.agg cs.toArray] (wr.alloc (.cells cs.toArray 109)) fun ev w' => ev = .returned (.bool false) ∧ Below wr.heap.size wr w') := (HI.out _ cs _ (HE.out.below hKA) hxA false ⟨fun h => (by cases h), fun h => absurd h hp⟩).mono fun _ _ h => ⟨h.1, hA.trans (below_le h.2 hA.size)⟩
        have HF : Hid (B = false) := by
          show B = false
          cases hB : B
          · rfl
          · exact absurd (HB.out.1 hB _ (List.getElem_mem h3)) hp
        clear hp hx HA HI hKC hxA hA hKA hl hr
        go_wp2_with (first | (refine wpList_load_mid rfl 109 (.tmp 11) rfl b (o + k * 4) rfl cs _ hR.out Tryz.underlying109 rfl hi.out ?_) | (refine store_new rfl 109 (.tmp 6) (.tmp 12) rfl cs.toArray _ 109 rfl rfl hi'.out hl'.out h1.out ?_) | (refine load_new rfl 109 (.tmp 6) rfl cs 109 _ rfl Tryz.underlying109 rfl hi.out ?_) | (go_at_call 200; refine HC.out.mono ?_; rintro ev w2 ⟨rfl, hb2⟩))
        go_ret
        exact ⟨by rw [HF.out]; rfl, HW.out.trans (below_le hb2 HW.out.size)⟩
    · have HF : Hid (B = true) := HB.out.2 fun x hx => by
        obtain ⟨j, hj, rfl⟩ := List.getElem_of_mem hx
        exact HJ.out j hj (by omega)
      have i1 : ¬ (k : Int) < (l.length : Int) := by omega
      go_wp2_with fail
      go_ret
      exact ⟨by rw [HF.out]; rfl, HW.out⟩

set_option maxHeartbeats 4000000 in
theorem partsOpers {P : Opr → Prop} {K : Ctx} {w : World} (he : Env K w)
    (ih : ∀ (x : Opr) (cs : List Value) (y : World), Env K y → OprAt K y cs x → ∀ (B : Bool), (B = true ↔ P x) → Calls Tryz.prog 200 #[.agg cs.toArray] y fun ev w' => ev = .returned (.bool B) ∧ Below y.heap.size y w')
    {v : Value} {l : List Opr} (ha : Ar 4 56 (OprAt K w) K w v l) (B : Bool) (hB : B = true ↔ l.length ≤ 64 ∧ ∀ x ∈ l, P x) :
    Calls Tryz.prog 208 #[v, .func (.func 200) #[] #[]] w fun ev w' => ev = .returned (.bool B) ∧ Below w.heap.size w w' := by
  by_cases h : l.length ≤ 64
  · have D := allOpers he ih ha B (by rw [hB]; exact ⟨fun h => h.2, fun h' => ⟨h, h'⟩⟩)
    obtain ⟨ao, cap, rfl, hc, hb, _⟩ := ha.shape
    have hl9 : l.length ≤ 9223372036854775807 := by omega
    have b1 : decide ((l.length : Int) ≤ 64) = true := by simp; omega
    have i1 : (l.length : Int) ≤ 64 := by omega
    clear hb ha ih hB he
    go_enter Tryz.func208, Tryz.ntmps208
    go_wp2_with (go_at_call 215; refine D.mono ?_; rintro ev w2 ⟨rfl, hb2⟩)
    go_ret
    exact ⟨rfl, hb2⟩
  · obtain rfl : B = false := by
      cases hB' : B
      · rfl
      · exact absurd (hB.1 hB').1 h
    obtain ⟨ao, cap, rfl, hc, hb, _⟩ := ha.shape
    have hl9 : l.length ≤ 9223372036854775807 := by omega
    have b1 : decide ((l.length : Int) ≤ 64) = false := by simp; omega
    have i1 : ¬ (l.length : Int) ≤ 64 := by omega
    clear hb ha ih hB he
    go_enter Tryz.func208, Tryz.ntmps208
    go_wp2_with fail
    go_ret
    exact ⟨rfl, Below.refl _ _⟩
end Go.Proofs.YtmopffaocamieaaGreat

namespace Go.Proofs.YtmopffaocamieaaGreat
open Go.RowKit

set_option maxHeartbeats 4000000 in
set_option maxRecDepth 20000 in
theorem allStructs {P : Sct → Prop} {K : Ctx} {w : World} (he : Env K w)
    (ih : ∀ (x : Sct) (cs : List Value) (y : World), Env K y → SctAt K y cs x → ∀ (B : Bool), (B = true ↔ P x) → Calls Tryz.prog 83 #[.agg cs.toArray] y fun ev w' => ev = .returned (.bool B) ∧ Below y.heap.size y w')
    {v : Value} {l : List Sct} (ha : Ar 5 80 (SctAt K w) K w v l) (B : Bool) (hB : B = true ↔ ∀ x ∈ l, P x) :
    Calls Tryz.prog 82 #[v, .func (.func 83) #[] #[]] w fun ev w' => ev = .returned (.bool B) ∧ Below w.heap.size w w' := by
  obtain ⟨ao, cap, rfl, hc, hb, hA⟩ := ha.shape
  have hl9 : l.length ≤ 9223372036854775807 := by omega
  have HE : Hid (Env K w) := he
  have HA : Hid (∀ i (h : i < l.length) (y : World), Below K.C w y → ∃ b o, ao = some ⟨b, o, none⟩ ∧ ∃ cs, cs.length = 5 ∧ y.rangeAt b (o + i * 5) cs ∧ SctAt K y cs l[i]) := by
    intro i h y hy
    obtain ⟨b, o, e, hbC, cs, hl, hcs, hx⟩ := hA i h
    refine ⟨b, o, e, cs, hl, fun j u hj => ?_, hx.below hy⟩
    have hj' : j < 5 := by rw [← hl]; exact (List.getElem?_eq_some_iff.1 hj).1
    rw [hy.cell (p := ⟨b, o + i * 5 + j, none⟩) hbC, hcs j hj']
    exact hj
  have HB : Hid (B = true ↔ ∀ x ∈ l, P x) := hB
  have HI : Hid (∀ (x : Sct) (cs : List Value) (y : World), Env K y → SctAt K y cs x → ∀ (B : Bool), (B = true ↔ P x) → Calls Tryz.prog 83 #[.agg cs.toArray] y fun ev w' => ev = .returned (.bool B) ∧ Below y.heap.size y w') := ih
  clear hA hB ha ih he hb
  go_enter Tryz.func82, Tryz.ntmps82
  go_wp2_with fail
  go_loopw [9] (fun i wr => ∃ k : Nat, k ≤ l.length ∧ i = .int .i64 k ∧ (∀ j (h : j < l.length), j < k → P l[j]) ∧ Below w.heap.size w wr) (fun i _ => l.length - (intOf i).toNat)
  case atStart => exact ⟨0, by omega, rfl, fun j _ h => by omega, Below.refl _ _⟩
  case round =>
    obtain ⟨k, hk, rfl, hj, hbw⟩ := hrel
    have HJ : Hid (∀ j (h : j < l.length), j < k → P l[j]) := hj
    have HW : Hid (Below w.heap.size w wr) := hbw
    clear hj hbw
    by_cases h3 : k < l.length
    · have hKC : Below K.C w wr := below_le HW.out HE.out.C
      obtain ⟨b, o, e, cs, hl, hr, hx⟩ := HA.out k h3 wr hKC
      subst e
      have hi : Hid ((Tryz.prog.info? 58).map (·.size) = some cs.length) := by show _ = _; rw [hl]; kernel_rfl
      have hi' : Hid ((Tryz.prog.info? 58).map (·.size) = some cs.toArray.size) := by show _ = _; rw [List.size_toArray]; exact hi.out
      have hl' : Hid (5 = cs.toArray.size) := by show _ = _; rw [List.size_toArray]; exact hl.symm
      have h1 : Hid (cs.toArray.all (·.oneCell') = true) := one_mem hx.one
      have hR : Hid (wr.rangeAt b (o + k * 5) cs) := hr
      have hA : Below wr.heap.size wr (wr.alloc (.cells cs.toArray 58)) := (Below.refl _ _).alloc (Nat.le_refl _) _
      have hKA : Below K.C w (wr.alloc (.cells cs.toArray 58)) := hKC.trans (below_le hA (Nat.le_trans HE.out.C HW.out.size))
      have hxA := (hx.below (below_le hA (Nat.le_trans HE.out.C HW.out.size)) : SctAt K (wr.alloc (.cells cs.toArray 58)) cs l[k])
      have i1 : (k : Int) < (l.length : Int) := by omega
      by_cases hp : P l[k]
      · have HC : Hid (Calls Tryz.prog 83 #[.agg cs.toArray] (wr.alloc (.cells cs.toArray 58)) fun ev w' => ev = .returned (.bool true) ∧ Below wr.heap.size wr w') := (HI.out _ cs _ (HE.out.below hKA) hxA true ⟨fun _ => hp, fun _ => rfl⟩).mono fun _ _ h => ⟨h.1, hA.trans (below_le h.2 hA.size)⟩
        have HJ' : Hid (∀ j (h : j < l.length), j < k + 1 → P l[j]) := by
          intro j h hjk
          rcases Nat.lt_or_ge j k with h' | h'
          · exact HJ.out j h h'
          · obtain rfl : j = k := by omega
            exact hp
        clear hp hx HA HI hKC hxA hA hKA hl hr
        go_wp2_with (first | (refine wpList_load_mid rfl 58 (.tmp 11) rfl b (o + k * 5) rfl cs _ hR.out Tryz.underlying58 rfl hi.out ?_) | (refine store_new rfl 58 (.tmp 6) (.tmp 12) rfl cs.toArray _ 58 rfl rfl hi'.out hl'.out h1.out ?_) | (refine load_new rfl 58 (.tmp 6) rfl cs 58 _ rfl Tryz.underlying58 rfl hi.out ?_) | (go_at_call 83; refine HC.out.mono ?_; rintro ev w2 ⟨rfl, hb2⟩))
        go_roundw
        case rel => exact ⟨k + 1, by omega, by go_num, HJ'.out, HW.out.trans (below_le hb2 HW.out.size)⟩
        case measure => simp [intOf]; omega
      · have HC : Hid (Calls Tryz.prog 83 #[.agg cs.toArray] (wr.alloc (.cells cs.toArray 58)) fun ev w' => ev = .returned (.bool false) ∧ Below wr.heap.size wr w') := (HI.out _ cs _ (HE.out.below hKA) hxA false ⟨fun h => (by cases h), fun h => absurd h hp⟩).mono fun _ _ h => ⟨h.1, hA.trans (below_le h.2 hA.size)⟩
        have HF : Hid (B = false) := by
          show B = false
          cases hB : B
          · rfl
          · exact absurd (HB.out.1 hB _ (List.getElem_mem h3)) hp
        clear hp hx HA HI hKC hxA hA hKA hl hr
        go_wp2_with (first | (refine wpList_load_mid rfl 58 (.tmp 11) rfl b (o + k * 5) rfl cs _ hR.out Tryz.underlying58 rfl hi.out ?_) | (refine store_new rfl 58 (.tmp 6) (.tmp 12) rfl cs.toArray _ 58 rfl rfl hi'.out hl'.out h1.out ?_) | (refine load_new rfl 58 (.tmp 6) rfl cs 58 _ rfl Tryz.underlying58 rfl hi.out ?_) | (go_at_call 83; refine HC.out.mono ?_; rintro ev w2 ⟨rfl, hb2⟩))
        go_ret
        exact ⟨by rw [HF.out]; rfl, HW.out.trans (below_le hb2 HW.out.size)⟩
    · have HF : Hid (B = true) := HB.out.2 fun x hx => by
        obtain ⟨j, hj, rfl⟩ := List.getElem_of_mem hx
        exact HJ.out j hj (by omega)
      have i1 : ¬ (k : Int) < (l.length : Int) := by omega
      go_wp2_with fail
      go_ret
      exact ⟨by rw [HF.out]; rfl, HW.out⟩

set_option maxHeartbeats 4000000 in
set_option maxRecDepth 20000 in
theorem allFuncs {n : Nat} {P : Fnc → Prop} {K : Ctx} {w : World} (he : Env K w)
    (ih : ∀ (x : Fnc) (cs : List Value) (y : World), Env K y → FncAt n K y cs x → ∀ (B : Bool), (B = true ↔ P x) → Calls Tryz.prog 85 #[.agg cs.toArray] y fun ev w' => ev = .returned (.bool B) ∧ Below y.heap.size y w')
    {v : Value} {l : List Fnc} (ha : Ar 10 176 (FncAt n K w) K w v l) (B : Bool) (hB : B = true ↔ ∀ x ∈ l, P x) :
    Calls Tryz.prog 84 #[v, .func (.func 85) #[] #[]] w fun ev w' => ev = .returned (.bool B) ∧ Below w.heap.size w w' := by
  obtain ⟨ao, cap, rfl, hc, hb, hA⟩ := ha.shape
  have hl9 : l.length ≤ 9223372036854775807 := by omega
  have HE : Hid (Env K w) := he
  have HA : Hid (∀ i (h : i < l.length) (y : World), Below K.C w y → ∃ b o, ao = some ⟨b, o, none⟩ ∧ ∃ cs, cs.length = 10 ∧ y.rangeAt b (o + i * 10) cs ∧ FncAt n K y cs l[i]) := by
    intro i h y hy
    obtain ⟨b, o, e, hbC, cs, hl, hcs, hx⟩ := hA i h
    refine ⟨b, o, e, cs, hl, fun j u hj => ?_, hx.below hy⟩
    have hj' : j < 10 := by rw [← hl]; exact (List.getElem?_eq_some_iff.1 hj).1
    rw [hy.cell (p := ⟨b, o + i * 10 + j, none⟩) hbC, hcs j hj']
    exact hj
  have HB : Hid (B = true ↔ ∀ x ∈ l, P x) := hB
  have HI : Hid (∀ (x : Fnc) (cs : List Value) (y : World), Env K y → FncAt n K y cs x → ∀ (B : Bool), (B = true ↔ P x) → Calls Tryz.prog 85 #[.agg cs.toArray] y fun ev w' => ev = .returned (.bool B) ∧ Below y.heap.size y w') := ih
  clear hA hB ha ih he hb
  go_enter Tryz.func84, Tryz.ntmps84
  go_wp2_with fail
  go_loopw [9] (fun i wr => ∃ k : Nat, k ≤ l.length ∧ i = .int .i64 k ∧ (∀ j (h : j < l.length), j < k → P l[j]) ∧ Below w.heap.size w wr) (fun i _ => l.length - (intOf i).toNat)
  case atStart => exact ⟨0, by omega, rfl, fun j _ h => by omega, Below.refl _ _⟩
  case round =>
    obtain ⟨k, hk, rfl, hj, hbw⟩ := hrel
    have HJ : Hid (∀ j (h : j < l.length), j < k → P l[j]) := hj
    have HW : Hid (Below w.heap.size w wr) := hbw
    clear hj hbw
    by_cases h3 : k < l.length
    · have hKC : Below K.C w wr := below_le HW.out HE.out.C
      obtain ⟨b, o, e, cs, hl, hr, hx⟩ := HA.out k h3 wr hKC
      subst e
      have hi : Hid ((Tryz.prog.info? 65).map (·.size) = some cs.length) := by show _ = _; rw [hl]; kernel_rfl
      have hi' : Hid ((Tryz.prog.info? 65).map (·.size) = some cs.toArray.size) := by show _ = _; rw [List.size_toArray]; exact hi.out
      have hl' : Hid (10 = cs.toArray.size) := by show _ = _; rw [List.size_toArray]; exact hl.symm
      have h1 : Hid (cs.toArray.all (·.oneCell') = true) := one_mem hx.one
      have hR : Hid (wr.rangeAt b (o + k * 10) cs) := hr
      have hA : Below wr.heap.size wr (wr.alloc (.cells cs.toArray 65)) := (Below.refl _ _).alloc (Nat.le_refl _) _
      have hKA : Below K.C w (wr.alloc (.cells cs.toArray 65)) := hKC.trans (below_le hA (Nat.le_trans HE.out.C HW.out.size))
      have hxA := (hx.below (below_le hA (Nat.le_trans HE.out.C HW.out.size)) : FncAt n K (wr.alloc (.cells cs.toArray 65)) cs l[k])
      have i1 : (k : Int) < (l.length : Int) := by omega
      by_cases hp : P l[k]
      · have HC : Hid (Calls Tryz.prog 85 #[.agg cs.toArray] (wr.alloc (.cells cs.toArray 65)) fun ev w' => ev = .returned (.bool true) ∧ Below wr.heap.size wr w') := (HI.out _ cs _ (HE.out.below hKA) hxA true ⟨fun _ => hp, fun _ => rfl⟩).mono fun _ _ h => ⟨h.1, hA.trans (below_le h.2 hA.size)⟩
        have HJ' : Hid (∀ j (h : j < l.length), j < k + 1 → P l[j]) := by
          intro j h hjk
          rcases Nat.lt_or_ge j k with h' | h'
          · exact HJ.out j h h'
          · obtain rfl : j = k := by omega
            exact hp
        clear hp hx HA HI hKC hxA hA hKA hl hr
        go_wp2_with (first | (refine wpList_load_mid rfl 65 (.tmp 11) rfl b (o + k * 10) rfl cs _ hR.out Tryz.underlying65 rfl hi.out ?_) | (refine store_new rfl 65 (.tmp 6) (.tmp 12) rfl cs.toArray _ 65 rfl rfl hi'.out hl'.out h1.out ?_) | (refine load_new rfl 65 (.tmp 6) rfl cs 65 _ rfl Tryz.underlying65 rfl hi.out ?_) | (go_at_call 85; refine HC.out.mono ?_; rintro ev w2 ⟨rfl, hb2⟩))
        go_roundw
        case rel => exact ⟨k + 1, by omega, by go_num, HJ'.out, HW.out.trans (below_le hb2 HW.out.size)⟩
        case measure => simp [intOf]; omega
      · have HC : Hid (Calls Tryz.prog 85 #[.agg cs.toArray] (wr.alloc (.cells cs.toArray 65)) fun ev w' => ev = .returned (.bool false) ∧ Below wr.heap.size wr w') := (HI.out _ cs _ (HE.out.below hKA) hxA false ⟨fun h => (by cases h), fun h => absurd h hp⟩).mono fun _ _ h => ⟨h.1, hA.trans (below_le h.2 hA.size)⟩
        have HF : Hid (B = false) := by
          show B = false
          cases hB : B
          · rfl
          · exact absurd (HB.out.1 hB _ (List.getElem_mem h3)) hp
        clear hp hx HA HI hKC hxA hA hKA hl hr
        go_wp2_with (first | (refine wpList_load_mid rfl 65 (.tmp 11) rfl b (o + k * 10) rfl cs _ hR.out Tryz.underlying65 rfl hi.out ?_) | (refine store_new rfl 65 (.tmp 6) (.tmp 12) rfl cs.toArray _ 65 rfl rfl hi'.out hl'.out h1.out ?_) | (refine load_new rfl 65 (.tmp 6) rfl cs 65 _ rfl Tryz.underlying65 rfl hi.out ?_) | (go_at_call 85; refine HC.out.mono ?_; rintro ev w2 ⟨rfl, hb2⟩))
        go_ret
        exact ⟨by rw [HF.out]; rfl, HW.out.trans (below_le hb2 HW.out.size)⟩
    · have HF : Hid (B = true) := HB.out.2 fun x hx => by
        obtain ⟨j, hj, rfl⟩ := List.getElem_of_mem hx
        exact HJ.out j hj (by omega)
      have i1 : ¬ (k : Int) < (l.length : Int) := by omega
      go_wp2_with fail
      go_ret
      exact ⟨by rw [HF.out]; rfl, HW.out⟩
end Go.Proofs.YtmopffaocamieaaGreat
