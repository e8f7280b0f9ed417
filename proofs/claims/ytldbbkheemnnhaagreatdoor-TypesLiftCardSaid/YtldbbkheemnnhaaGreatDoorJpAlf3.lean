/-
  The texts Alf, Alo, Alc, joined.
-/
import Derived.Test.YtldbbkheemnnhaaGreatDoorJpBas5
namespace Go.Proofs.YtldbbkheemnnhaaGreatDoor
open Go.RowKit
set_option maxHeartbeats 4000000 in
set_option maxRecDepth 20000 in
theorem allFields {P : Fld -> Prop} {K : Ctx} {w : World} (he : Env K w)
  (ih : ∀ (x : Fld) (cs : List Value) (y : World), Env K y -> FldAt K y cs x -> ∀ (B : Bool), (B = true ↔ P x) -> Calls Tryz.prog 162 #[.agg cs.toArray] y fun ev w' => ev = .returned (.bool B) /\ Below y.heap.size y w')
  {v : Value} {l : List Fld} (ha : Ar 6 96 (FldAt K w) K w v l) (B : Bool) (hB : B = true ↔ ∀ x ∈ l, P x) :
  Calls Tryz.prog 196 #[v, .func (.func 162) #[] #[]] w fun ev w' => ev = .returned (.bool B) /\ Below w.heap.size w w' := by
 obtain ⟨ao, cap, rfl, hc, hb, hA⟩ := ha.shape
 have hl9 : l.length <= 9223372036854775807 := by omega
 have HE : Hid (Env K w) := he
 have HA : Hid (∀ i (h : i < l.length) (y : World), Below K.C w y -> ∃ b o, ao = some ⟨b, o, none⟩ /\ ∃ cs, cs.length = 6 /\ y.rangeAt b (o + i * 6) cs /\ FldAt K y cs l[i]) := by
  intro i h y hy
  obtain ⟨b, o, e, hbC, cs, hl, hcs, hx⟩ := hA i h
  refine ⟨b, o, e, cs, hl, fun j u hj => ?_, hx.below hy⟩
  have hj' : j < 6 := by rw [← hl]; exact (List.getElem?_eq_some_iff.1 hj).1
  rw [hy.cell (p := ⟨b, o + i * 6 + j, none⟩) hbC, hcs j hj']
  exact hj
 have HB : Hid (B = true ↔ ∀ x ∈ l, P x) := hB
 have HI : Hid (∀ (x : Fld) (cs : List Value) (y : World), Env K y -> FldAt K y cs x -> ∀ (B : Bool), (B = true ↔ P x) -> Calls Tryz.prog 162 #[.agg cs.toArray] y fun ev w' => ev = .returned (.bool B) /\ Below y.heap.size y w') := ih
 clear hA hB ha ih he hb
 go_enter Tryz.func196, Tryz.ntmps196
 go_wp2_with fail
 go_loopw [9] (fun i wr => ∃ k : Nat, k <= l.length /\ i = .int .i64 k /\ (∀ j (h : j < l.length), j < k -> P l[j]) /\ Below w.heap.size w wr) (fun i _ => l.length - (intOf i).toNat)
 case atStart => exact ⟨0, by omega, rfl, fun j _ h => by omega, Below.refl _ _⟩
 case round =>
  obtain ⟨k, hk, rfl, hj, hbw⟩ := hrel
  have HJ : Hid (∀ j (h : j < l.length), j < k -> P l[j]) := hj
  have HW : Hid (Below w.heap.size w wr) := hbw
  clear hj hbw
  by_cases h3 : k < l.length
  ·have hKC : Below K.C w wr := below_le HW.out HE.out.C
   obtain ⟨b, o, e, cs, hl, hr, hx⟩ := HA.out k h3 wr hKC
   subst e
   have hi : Hid ((Tryz.prog.info? 145).map (·.size) = some cs.length) := by show _ = _; rw [hl]; kernel_rfl
   have hi' : Hid ((Tryz.prog.info? 145).map (·.size) = some cs.toArray.size) := by show _ = _; rw [List.size_toArray]; exact hi.out
   have hl' : Hid (6 = cs.toArray.size) := by show _ = _; rw [List.size_toArray]; exact hl.symm
   have h1 : Hid (cs.toArray.all (·.oneCell') = true) := one_mem hx.one
   have hR : Hid (wr.rangeAt b (o + k * 6) cs) := hr
   have hA : Below wr.heap.size wr (wr.alloc (.cells cs.toArray 145)) := (Below.refl _ _).alloc (Nat.le_refl _) _
   have hKA : Below K.C w (wr.alloc (.cells cs.toArray 145)) := hKC.trans (below_le hA (Nat.le_trans HE.out.C HW.out.size))
   have hxA := (hx.below (below_le hA (Nat.le_trans HE.out.C HW.out.size)) : FldAt K (wr.alloc (.cells cs.toArray 145)) cs l[k])
   have i1 : (k : Int) < (l.length : Int) := by omega
   by_cases hp : P l[k]
   ·have HC : Hid (Calls Tryz.prog 162 #[.agg cs.toArray] (wr.alloc (.cells cs.toArray 145)) fun ev w' => ev = .returned (.bool true) /\ Below wr.heap.size wr w') := (HI.out _ cs _ (HE.out.below hKA) hxA true ⟨fun _ => hp, fun _ => rfl⟩).mono fun _ _ h => ⟨h.1, hA.trans (below_le h.2 hA.size)⟩
    have HJ' : Hid (∀ j (h : j < l.length), j < k + 1 -> P l[j]) := by
     intro j h hjk
     rcases Nat.lt_or_ge j k with h' | h'
     ·exact HJ.out j h h'
     ·obtain rfl : j = k := by omega
      exact hp
    clear hp hx HA HI hKC hxA hA hKA hl hr
    go_wp2_with (first | (refine wpList_load_mid rfl 145 (.tmp 11) rfl b (o + k * 6) rfl cs _ hR.out Tryz.underlying145 rfl hi.out ?_) | (refine store_new rfl 145 (.tmp 6) (.tmp 12) rfl cs.toArray _ 145 rfl rfl hi'.out hl'.out h1.out ?_) | (refine load_new rfl 145 (.tmp 6) rfl cs 145 _ rfl Tryz.underlying145 rfl hi.out ?_) | (go_at_call 162; refine HC.out.mono ?_; rintro ev w2 ⟨rfl, hb2⟩))
    go_roundw
    case rel => exact ⟨k + 1, by omega, by go_num, HJ'.out, HW.out.trans (below_le hb2 HW.out.size)⟩
    case measure => simp [intOf]; omega
   ·have HC : Hid (Calls Tryz.prog 162 #[.agg cs.toArray] (wr.alloc (.cells cs.toArray 145)) fun ev w' => ev = .returned (.bool false) /\ Below wr.heap.size wr w') := (HI.out _ cs _ (HE.out.below hKA) hxA false ⟨fun h => (by cases h), fun h => absurd h hp⟩).mono fun _ _ h => ⟨h.1, hA.trans (below_le h.2 hA.size)⟩
    have HF : Hid (B = false) := by
     show B = false
     cases hB : B
     ·rfl
     ·exact absurd (HB.out.1 hB _ (List.getElem_mem h3)) hp
    clear hp hx HA HI hKC hxA hA hKA hl hr
    go_wp2_with (first | (refine wpList_load_mid rfl 145 (.tmp 11) rfl b (o + k * 6) rfl cs _ hR.out Tryz.underlying145 rfl hi.out ?_) | (refine store_new rfl 145 (.tmp 6) (.tmp 12) rfl cs.toArray _ 145 rfl rfl hi'.out hl'.out h1.out ?_) | (refine load_new rfl 145 (.tmp 6) rfl cs 145 _ rfl Tryz.underlying145 rfl hi.out ?_) | (go_at_call 162; refine HC.out.mono ?_; rintro ev w2 ⟨rfl, hb2⟩))
    go_ret
    exact ⟨by rw [HF.out]; rfl, HW.out.trans (below_le hb2 HW.out.size)⟩
  ·have HF : Hid (B = true) := HB.out.2 fun x hx => by
    obtain ⟨j, hj, rfl⟩ := List.getElem_of_mem hx
    exact HJ.out j hj (by omega)
   have i1 : ¬ (k : Int) < (l.length : Int) := by omega
   go_wp2_with fail
   go_ret
   exact ⟨by rw [HF.out]; rfl, HW.out⟩
set_option maxHeartbeats 4000000 in
theorem partsFields {P : Fld -> Prop} {K : Ctx} {w : World} (he : Env K w)
  (ih : ∀ (x : Fld) (cs : List Value) (y : World), Env K y -> FldAt K y cs x -> ∀ (B : Bool), (B = true ↔ P x) -> Calls Tryz.prog 162 #[.agg cs.toArray] y fun ev w' => ev = .returned (.bool B) /\ Below y.heap.size y w')
  {v : Value} {l : List Fld} (ha : Ar 6 96 (FldAt K w) K w v l) (B : Bool) (hB : B = true ↔ l.length <= 64 /\ ∀ x ∈ l, P x) :
  Calls Tryz.prog 161 #[v, .func (.func 162) #[] #[]] w fun ev w' => ev = .returned (.bool B) /\ Below w.heap.size w w' := by
 by_cases h : l.length <= 64
 ·have D := allFields he ih ha B (by rw [hB]; exact ⟨fun h => h.2, fun h' => ⟨h, h'⟩⟩)
  obtain ⟨ao, cap, rfl, hc, hb, _⟩ := ha.shape
  have hl9 : l.length <= 9223372036854775807 := by omega
  have b1 : decide ((l.length : Int) <= 64) = true := by simp; omega
  have i1 : (l.length : Int) <= 64 := by omega
  clear hb ha ih hB he
  go_enter Tryz.func161, Tryz.ntmps161
  go_wp2_with (go_at_call 196; refine D.mono ?_; rintro ev w2 ⟨rfl, hb2⟩)
  go_ret
  exact ⟨rfl, hb2⟩
 ·obtain rfl : B = false := by
   cases hB' : B
   ·rfl
   ·exact absurd (hB.1 hB').1 h
  obtain ⟨ao, cap, rfl, hc, hb, _⟩ := ha.shape
  have hl9 : l.length <= 9223372036854775807 := by omega
  have b1 : decide ((l.length : Int) <= 64) = false := by simp; omega
  have i1 : ¬ (l.length : Int) <= 64 := by omega
  clear hb ha ih hB he
  go_enter Tryz.func161, Tryz.ntmps161
  go_wp2_with fail
  go_ret
  exact ⟨rfl, Below.refl _ _⟩
end Go.Proofs.YtldbbkheemnnhaaGreatDoor

namespace Go.Proofs.YtldbbkheemnnhaaGreatDoor
open Go.RowKit
end Go.Proofs.YtldbbkheemnnhaaGreatDoor

namespace Go.Proofs.YtldbbkheemnnhaaGreatDoor
open Go.RowKit
set_option maxHeartbeats 4000000 in
set_option maxRecDepth 20000 in
theorem allStructs {P : Sct -> Prop} {K : Ctx} {w : World} (he : Env K w)
  (ih : ∀ (x : Sct) (cs : List Value) (y : World), Env K y -> SctAt K y cs x -> ∀ (B : Bool), (B = true ↔ P x) -> Calls Tryz.prog 127 #[.agg cs.toArray] y fun ev w' => ev = .returned (.bool B) /\ Below y.heap.size y w')
  {v : Value} {l : List Sct} (ha : Ar 5 80 (SctAt K w) K w v l) (B : Bool) (hB : B = true ↔ ∀ x ∈ l, P x) :
  Calls Tryz.prog 126 #[v, .func (.func 127) #[] #[]] w fun ev w' => ev = .returned (.bool B) /\ Below w.heap.size w w' := by
 obtain ⟨ao, cap, rfl, hc, hb, hA⟩ := ha.shape
 have hl9 : l.length <= 9223372036854775807 := by omega
 have HE : Hid (Env K w) := he
 have HA : Hid (∀ i (h : i < l.length) (y : World), Below K.C w y -> ∃ b o, ao = some ⟨b, o, none⟩ /\ ∃ cs, cs.length = 5 /\ y.rangeAt b (o + i * 5) cs /\ SctAt K y cs l[i]) := by
  intro i h y hy
  obtain ⟨b, o, e, hbC, cs, hl, hcs, hx⟩ := hA i h
  refine ⟨b, o, e, cs, hl, fun j u hj => ?_, hx.below hy⟩
  have hj' : j < 5 := by rw [← hl]; exact (List.getElem?_eq_some_iff.1 hj).1
  rw [hy.cell (p := ⟨b, o + i * 5 + j, none⟩) hbC, hcs j hj']
  exact hj
 have HB : Hid (B = true ↔ ∀ x ∈ l, P x) := hB
 have HI : Hid (∀ (x : Sct) (cs : List Value) (y : World), Env K y -> SctAt K y cs x -> ∀ (B : Bool), (B = true ↔ P x) -> Calls Tryz.prog 127 #[.agg cs.toArray] y fun ev w' => ev = .returned (.bool B) /\ Below y.heap.size y w') := ih
 clear hA hB ha ih he hb
 go_enter Tryz.func126, Tryz.ntmps126
 go_wp2_with fail
 go_loopw [9] (fun i wr => ∃ k : Nat, k <= l.length /\ i = .int .i64 k /\ (∀ j (h : j < l.length), j < k -> P l[j]) /\ Below w.heap.size w wr) (fun i _ => l.length - (intOf i).toNat)
 case atStart => exact ⟨0, by omega, rfl, fun j _ h => by omega, Below.refl _ _⟩
 case round =>
  obtain ⟨k, hk, rfl, hj, hbw⟩ := hrel
  have HJ : Hid (∀ j (h : j < l.length), j < k -> P l[j]) := hj
  have HW : Hid (Below w.heap.size w wr) := hbw
  clear hj hbw
  by_cases h3 : k < l.length
  ·have hKC : Below K.C w wr := below_le HW.out HE.out.C
   obtain ⟨b, o, e, cs, hl, hr, hx⟩ := HA.out k h3 wr hKC
   subst e
   have hi : Hid ((Tryz.prog.info? 84).map (·.size) = some cs.length) := by show _ = _; rw [hl]; kernel_rfl
   have hi' : Hid ((Tryz.prog.info? 84).map (·.size) = some cs.toArray.size) := by show _ = _; rw [List.size_toArray]; exact hi.out
   have hl' : Hid (5 = cs.toArray.size) := by show _ = _; rw [List.size_toArray]; exact hl.symm
   have h1 : Hid (cs.toArray.all (·.oneCell') = true) := one_mem hx.one
   have hR : Hid (wr.rangeAt b (o + k * 5) cs) := hr
   have hA : Below wr.heap.size wr (wr.alloc (.cells cs.toArray 84)) := (Below.refl _ _).alloc (Nat.le_refl _) _
   have hKA : Below K.C w (wr.alloc (.cells cs.toArray 84)) := hKC.trans (below_le hA (Nat.le_trans HE.out.C HW.out.size))
   have hxA := (hx.below (below_le hA (Nat.le_trans HE.out.C HW.out.size)) : SctAt K (wr.alloc (.cells cs.toArray 84)) cs l[k])
   have i1 : (k : Int) < (l.length : Int) := by omega
   by_cases hp : P l[k]
   ·have HC : Hid (Calls Tryz.prog 127 #[.agg cs.toArray] (wr.alloc (.cells cs.toArray 84)) fun ev w' => ev = .returned (.bool true) /\ Below wr.heap.size wr w') := (HI.out _ cs _ (HE.out.below hKA) hxA true ⟨fun _ => hp, fun _ => rfl⟩).mono fun _ _ h => ⟨h.1, hA.trans (below_le h.2 hA.size)⟩
    have HJ' : Hid (∀ j (h : j < l.length), j < k + 1 -> P l[j]) := by
     intro j h hjk
     rcases Nat.lt_or_ge j k with h' | h'
     ·exact HJ.out j h h'
     ·obtain rfl : j = k := by omega
      exact hp
    clear hp hx HA HI hKC hxA hA hKA hl hr
    go_wp2_with (first | (refine wpList_load_mid rfl 84 (.tmp 11) rfl b (o + k * 5) rfl cs _ hR.out Tryz.underlying84 rfl hi.out ?_) | (refine store_new rfl 84 (.tmp 6) (.tmp 12) rfl cs.toArray _ 84 rfl rfl hi'.out hl'.out h1.out ?_) | (refine load_new rfl 84 (.tmp 6) rfl cs 84 _ rfl Tryz.underlying84 rfl hi.out ?_) | (go_at_call 127; refine HC.out.mono ?_; rintro ev w2 ⟨rfl, hb2⟩))
    go_roundw
    case rel => exact ⟨k + 1, by omega, by go_num, HJ'.out, HW.out.trans (below_le hb2 HW.out.size)⟩
    case measure => simp [intOf]; omega
   ·have HC : Hid (Calls Tryz.prog 127 #[.agg cs.toArray] (wr.alloc (.cells cs.toArray 84)) fun ev w' => ev = .returned (.bool false) /\ Below wr.heap.size wr w') := (HI.out _ cs _ (HE.out.below hKA) hxA false ⟨fun h => (by cases h), fun h => absurd h hp⟩).mono fun _ _ h => ⟨h.1, hA.trans (below_le h.2 hA.size)⟩
    have HF : Hid (B = false) := by
     show B = false
     cases hB : B
     ·rfl
     ·exact absurd (HB.out.1 hB _ (List.getElem_mem h3)) hp
    clear hp hx HA HI hKC hxA hA hKA hl hr
    go_wp2_with (first | (refine wpList_load_mid rfl 84 (.tmp 11) rfl b (o + k * 5) rfl cs _ hR.out Tryz.underlying84 rfl hi.out ?_) | (refine store_new rfl 84 (.tmp 6) (.tmp 12) rfl cs.toArray _ 84 rfl rfl hi'.out hl'.out h1.out ?_) | (refine load_new rfl 84 (.tmp 6) rfl cs 84 _ rfl Tryz.underlying84 rfl hi.out ?_) | (go_at_call 127; refine HC.out.mono ?_; rintro ev w2 ⟨rfl, hb2⟩))
    go_ret
    exact ⟨by rw [HF.out]; rfl, HW.out.trans (below_le hb2 HW.out.size)⟩
  ·have HF : Hid (B = true) := HB.out.2 fun x hx => by
    obtain ⟨j, hj, rfl⟩ := List.getElem_of_mem hx
    exact HJ.out j hj (by omega)
   have i1 : ¬ (k : Int) < (l.length : Int) := by omega
   go_wp2_with fail
   go_ret
   exact ⟨by rw [HF.out]; rfl, HW.out⟩
end Go.Proofs.YtldbbkheemnnhaaGreatDoor
