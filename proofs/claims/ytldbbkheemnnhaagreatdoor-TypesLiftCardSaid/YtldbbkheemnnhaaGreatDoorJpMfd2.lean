/-
  The texts Mfd, Ylv, joined.
-/
import Derived.Test.YtldbbkheemnnhaaGreatDoorQpMyt
import Derived.Test.YtldbbkheemnnhaaGreatDoorJpAlf3
namespace Go.Proofs.YtldbbkheemnnhaaGreatDoor
open Go.RowKit
theorem IsTy.open {K : Ctx} {w : World} {cs : List Value} {t : Ty} (h : IsTy K w cs t) :
  ∃ ao2 n2 c2 ao3 n3 c3, cs = [.int .i64 t.kind, .string (str t.name), .slice ao2 n2 c2, .slice ao3 n3 c3] := by
 obtain ⟨n, h⟩ := h
 cases n with
 | zero => exact h.elim
 | succ n =>
  obtain ⟨v2, v3, rfl, _, h2, h3⟩ := h
  obtain ⟨ao2, cap2, rfl, _⟩ := h2.shape
  obtain ⟨ao3, cap3, rfl, _⟩ := h3.shape
  exact ⟨_, _, _, _, _, _, rfl⟩
theorem Ar.form {α : Type} {z bz : Nat} {P : List Value -> α -> Prop} {K : Ctx} {w : World} {v : Value} {l : List α} (h : Ar z bz P K w v l) : ∃ ao cap, v = .slice ao l.length cap := by
 obtain ⟨ao, cap, e, _⟩ := h.shape; exact ⟨ao, cap, e⟩
theorem Strs.form {K : Ctx} {w : World} {v : Value} {l : List Bs} (h : Strs K w v l) : ∃ ao cap, v = .slice ao l.length cap := Ar.form h
def MayPar (x : Fld) : Prop := nameB x.name = true /\ MayTy 64 x.ty
def MayFld (x : Fld) : Prop := x.mu = false /\ MayPar x
set_option maxHeartbeats 4000000 in
theorem mayParam_any {K : Ctx} {w : World} (he : Env K w) {x : Fld} {cs : List Value} (hx : FldAt K w cs x) (B : Bool) (hB : B = true ↔ MayPar x) :
  Calls Tryz.prog 165 #[.agg cs.toArray] w fun ev w' => ev = .returned (.bool B) /\ Below w.heap.size w w' := by
 obtain ⟨ts, rfl, hl, ht⟩ := hx
 obtain ⟨a2, n2, c2, a3, n3, c3, rfl⟩ := ht.open
 have N : Hid (∀ y, Calls Tryz.prog 95 #[.string (str x.name)] y fun ev w' => ev = .returned (.bool (nameB x.name)) /\ w' = y) := fun y => name_any _ (by have := K.small; omega) y
 have hA := alloc_one w (.cells #[.bool x.mu, .string (str x.name), .int .i64 x.ty.kind, .string (str x.ty.name), .slice a2 n2 c2, .slice a3 n3 c3] 145)
 have T : Hid (∀ B, (B = true ↔ MayTy 64 x.ty) -> Calls Tryz.prog 198 #[.agg #[.int .i64 x.ty.kind, .string (str x.ty.name), .slice a2 n2 c2, .slice a3 n3 c3]] (w.alloc (.cells #[.bool x.mu, .string (str x.name), .int .i64 x.ty.kind, .string (str x.ty.name), .slice a2 n2 c2, .slice a3 n3 c3] 145)) fun ev w' => ev = .returned (.bool B) /\ Below w.heap.size w w') := by
  intro B hB
  refine (mayType_any (cs := [.int .i64 x.ty.kind, .string (str x.ty.name), .slice a2 n2 c2, .slice a3 n3 c3]) (he.below (below_le hA he.C)) (ht.below (below_le hA he.C)) B hB).mono ?_
  rintro _ _ ⟨rfl, hb⟩
  exact ⟨rfl, hA.trans (below_le hb hA.size)⟩
 have HA : Hid (Below w.heap.size w (w.alloc (.cells #[.bool x.mu, .string (str x.name), .int .i64 x.ty.kind, .string (str x.ty.name), .slice a2 n2 c2, .slice a3 n3 c3] 145))) := hA
 clear ht hA
 cases f1 : nameB x.name
 ·obtain rfl := bool_false hB (fun h => by rw [h.1] at f1; cases f1)
  rw [f1] at N
  clear hB f1 T
  generalize x.ty.kind = k at *
  generalize str x.ty.name = S2 at *
  generalize str x.name = S at *
  go_enter Tryz.func165, Tryz.ntmps165
  go_wp2_with (go_at_call 95; refine (N.out _).mono ?_; rintro ev w2 ⟨rfl, rfl⟩)
  go_ret
  exact ⟨rfl, HA.out⟩
 ·have D := T.out B (by rw [hB]; exact ⟨fun h => h.2, fun h => ⟨f1, h⟩⟩)
  rw [f1] at N
  clear hB f1 T
  generalize x.ty.kind = k at *
  generalize str x.ty.name = S2 at *
  generalize str x.name = S at *
  go_enter Tryz.func165, Tryz.ntmps165
  go_wp2_with (first | (go_at_call 95; refine (N.out _).mono ?_; rintro ev w2 ⟨rfl, rfl⟩) | (go_at_call 198; refine D.mono ?_; rintro ev w2 ⟨rfl, hb2⟩))
  go_ret
  exact ⟨rfl, hb2⟩
def MayRes (t : Ty) : Prop := t = Ty.zero ∨ MayTy 64 t
def MayLfe (x : Lfe) : Prop := lifeB x.name = true /\ (decide (x.over.length <= 64) && x.over.all lifeB) = true
def MaySct (x : Sct) : Prop := nameB x.name = true /\ (decide (x.lives.length <= 64) && x.lives.all lifeB) = true /\ x.fields.length <= 64 /\ ∀ f ∈ x.fields, MayFld f
def MayPl (x : Pl) : Prop := nameB x.name = true /\ (decide (x.path.length <= 64) && x.path.all stepB) = true
set_option maxHeartbeats 4000000 in
theorem mayField_any {K : Ctx} {w : World} (he : Env K w) {x : Fld} {cs : List Value} (hx : FldAt K w cs x) (B : Bool) (hB : B = true ↔ MayFld x) :
  Calls Tryz.prog 162 #[.agg cs.toArray] w fun ev w' => ev = .returned (.bool B) /\ Below w.heap.size w w' := by
 have hA := alloc_one w (.cells cs.toArray 145)
 have hKA := below_le hA he.C
 have T0 := fun B hB => mayParam_any (he.below hKA) (hx.below hKA) B hB
 obtain ⟨ts, rfl, hl, ht⟩ := hx
 obtain ⟨a2, n2, c2, a3, n3, c3, rfl⟩ := ht.open
 have HA : Hid (Below w.heap.size w (w.alloc (.cells #[.bool x.mu, .string (str x.name), .int .i64 x.ty.kind, .string (str x.ty.name), .slice a2 n2 c2, .slice a3 n3 c3] 145))) := hA
 cases f1 : x.mu
 ·have D : Hid (Calls Tryz.prog 165 #[.agg #[.bool false, .string (str x.name), .int .i64 x.ty.kind, .string (str x.ty.name), .slice a2 n2 c2, .slice a3 n3 c3]] (w.alloc (.cells #[.bool false, .string (str x.name), .int .i64 x.ty.kind, .string (str x.ty.name), .slice a2 n2 c2, .slice a3 n3 c3] 145)) fun ev w' => ev = .returned (.bool B) /\ Below w.heap.size w w') := by
   rw [f1] at T0 hA
   refine (T0 B (by rw [hB]; exact ⟨fun h => h.2, fun h => ⟨f1, h⟩⟩)).mono ?_
   rintro _ _ ⟨rfl, hb⟩
   exact ⟨rfl, hA.trans (below_le hb hA.size)⟩
  clear T0 hA hKA ht hB he f1 HA
  generalize x.ty.kind = k at *
  generalize str x.ty.name = S2 at *
  generalize str x.name = S at *
  go_enter Tryz.func162, Tryz.ntmps162
  go_wp2_with (go_at_call 165; refine D.out.mono ?_; rintro ev w2 ⟨rfl, hb2⟩)
  go_ret
  exact ⟨rfl, hb2⟩
 ·obtain rfl := bool_false hB (fun h => by rw [h.1] at f1; cases f1)
  rw [f1] at HA
  clear T0 hA hKA ht hB he f1
  generalize x.ty.kind = k at *
  generalize str x.ty.name = S2 at *
  generalize str x.name = S at *
  go_enter Tryz.func162, Tryz.ntmps162
  go_wp2_with fail
  go_ret
  exact ⟨rfl, HA.out⟩
set_option maxHeartbeats 4000000 in
theorem mayStruct_any {K : Ctx} {w : World} (he : Env K w) {x : Sct} {cs : List Value} (hx : SctAt K w cs x) (B : Bool) (hB : B = true ↔ MaySct x) :
  Calls Tryz.prog 127 #[.agg cs.toArray] w fun ev w' => ev = .returned (.bool B) /\ Below w.heap.size w w' := by
 have hsm := K.small
 obtain ⟨v1, v2, rfl, hl, hs, hf⟩ := hx
 obtain ⟨ao, cap, rfl⟩ := hs.form
 obtain ⟨ao2, cap2, rfl⟩ := hf.form
 have hA := alloc_one w (.cells #[.bool x.pub, .string (str x.name), .slice ao x.lives.length cap, .slice ao2 x.fields.length cap2, .int .i64 x.pos] 84)
 have hKA := below_le hA he.C
 have N0 : Hid (Calls Tryz.prog 95 #[.string (str x.name)] (w.alloc (.cells #[.bool x.pub, .string (str x.name), .slice ao x.lives.length cap, .slice ao2 x.fields.length cap2, .int .i64 x.pos] 84)) fun ev w' => ev = .returned (.bool (nameB x.name)) /\ w' = (w.alloc (.cells #[.bool x.pub, .string (str x.name), .slice ao x.lives.length cap, .slice ao2 x.fields.length cap2, .int .i64 x.pos] 84))) := name_any _ (by omega) _
 have N1 : Hid (Calls Tryz.prog 159 #[.slice ao x.lives.length cap, .func (.func 160) #[] #[]] (w.alloc (.cells #[.bool x.pub, .string (str x.name), .slice ao x.lives.length cap, .slice ao2 x.fields.length cap2, .int .i64 x.pos] 84)) fun ev w' => ev = .returned (.bool (decide (x.lives.length <= 64) && x.lives.all lifeB)) /\ w' = (w.alloc (.cells #[.bool x.pub, .string (str x.name), .slice ao x.lives.length cap, .slice ao2 x.fields.length cap2, .int .i64 x.pos] 84))) := partsLives (hs.below hKA)
 have T0 : Hid (∀ B, (B = true ↔ x.fields.length <= 64 /\ ∀ f ∈ x.fields, MayFld f) -> Calls Tryz.prog 161 #[.slice ao2 x.fields.length cap2, .func (.func 162) #[] #[]] (w.alloc (.cells #[.bool x.pub, .string (str x.name), .slice ao x.lives.length cap, .slice ao2 x.fields.length cap2, .int .i64 x.pos] 84)) fun ev w' => ev = .returned (.bool B) /\ Below w.heap.size w w') := by
  intro B hB
  refine (partsFields (he.below hKA) (fun _ _ _ he hx B hB => mayField_any he hx B hB) (hf.mono hKA fun _ _ _ h => h.below hKA) B hB).mono ?_
  rintro _ _ ⟨rfl, hb⟩
  exact ⟨rfl, hA.trans (below_le hb hA.size)⟩
 have HA : Hid (Below w.heap.size w (w.alloc (.cells #[.bool x.pub, .string (str x.name), .slice ao x.lives.length cap, .slice ao2 x.fields.length cap2, .int .i64 x.pos] 84))) := hA
 have HB : Hid (B = true ↔ MaySct x) := hB
 clear hA hKA hB he hs hf
 cases f0 : (nameB x.name)
 ·have HF : Hid (B = false) := bool_false HB.out (fun h => by have h' := h.1; rw [h'] at f0; cases f0)
  rw [f0] at N0
  clear HB f0 N1 T0
  generalize str x.name = S at *
  generalize x.lives.length = len at *
  generalize x.fields.length = len2 at *
  generalize x.pos = ps at *
  generalize x.pub = pb at *
  go_enter Tryz.func127, Tryz.ntmps127
  go_wp2_with (first | (go_at_call 95; refine N0.out.mono ?_; rintro ev w2 ⟨rfl, rfl⟩))
  go_ret
  exact ⟨by rw [HF.out]; rfl, HA.out⟩
 rw [f0] at N0
 cases f1 : (decide (x.lives.length <= 64) && x.lives.all lifeB)
 ·have HF : Hid (B = false) := bool_false HB.out (fun h => by have h' := h.2.1; rw [h'] at f1; cases f1)
  rw [f1] at N1
  clear HB f0 f1  T0
  generalize str x.name = S at *
  generalize x.lives.length = len at *
  generalize x.fields.length = len2 at *
  generalize x.pos = ps at *
  generalize x.pub = pb at *
  go_enter Tryz.func127, Tryz.ntmps127
  go_wp2_with (first | (go_at_call 95; refine N0.out.mono ?_; rintro ev w2 ⟨rfl, rfl⟩) | (go_at_call 159; refine N1.out.mono ?_; rintro ev w2 ⟨rfl, rfl⟩))
  go_ret
  exact ⟨by rw [HF.out]; rfl, HA.out⟩
 rw [f1] at N1
 have D := T0.out B (by rw [HB.out]; exact ⟨fun h => h.2.2, fun h => ⟨f0, f1, h⟩⟩)
 clear HB T0 f0 f1
 generalize str x.name = S at *
 generalize x.lives.length = len at *
 generalize x.fields.length = len2 at *
 generalize x.pos = ps at *
 generalize x.pub = pb at *
 go_enter Tryz.func127, Tryz.ntmps127
 go_wp2_with (first | (go_at_call 95; refine N0.out.mono ?_; rintro ev w2 ⟨rfl, rfl⟩) | (go_at_call 159; refine N1.out.mono ?_; rintro ev w2 ⟨rfl, rfl⟩) | (go_at_call 161; refine D.mono ?_; rintro ev w2 ⟨rfl, hb2⟩))
 go_ret
 exact ⟨rfl, hb2⟩
end Go.Proofs.YtldbbkheemnnhaaGreatDoor

namespace Go.Proofs.YtldbbkheemnnhaaGreatDoor
open Go.RowKit
def livesB (l : List Bs) : Bool := decide (l.length <= 64) && l.all lifeB
set_option maxHeartbeats 2000000 in
theorem xlives_any {K : Ctx} (hK : K.B <= 1048576) {w : World} {va : Value} {la : List Bs} (ha : Strs K w va la) :
  Calls Tryz.prog 107 #[va] w fun ev w' => ev = .returned (.bool (livesB la)) /\ w' = w := by
 obtain ⟨aoA, capA, rfl, hcA, hbA, hA⟩ := ha.shape
 have hl9 : la.length <= 9223372036854775807 := by omega
 have HA : Hid (∀ i (h : i < la.length), ∃ b o, aoA = some ⟨b, o, none⟩ /\ w.cell? ⟨b, o + i, none⟩ = some (.string (str la[i])) /\ la[i].length <= 9223372036854775807) := by
  intro i h
  obtain ⟨b, o, e, _, cs, hl, hc, hx⟩ := hA i h
  have := hc 0 (by omega)
  rw [hx.1] at this
  exact ⟨b, o, e, by simpa using this, Nat.le_trans hx.2 (Nat.le_trans hK (by omega))⟩
 have HB : Hid ((∀ j (h : j < la.length), j < 65 -> lifeB la[j] = true) -> livesB la = decide (la.length <= 64)) := by
  intro h
  unfold livesB
  by_cases h64 : la.length <= 64
  ·rw [decide_eq_true h64, Bool.true_and, List.all_eq_true]
   intro x hx
   obtain ⟨j, hj, rfl⟩ := List.getElem_of_mem hx
   exact h j hj (by omega)
  ·rw [decide_eq_false h64, Bool.false_and]
 have HF : Hid (∀ j (h : j < la.length), lifeB la[j] = false -> livesB la = false) := by
  intro j h hj
  unfold livesB
  have e : la.all lifeB = false := Bool.eq_false_iff.2 fun h' => by
   rw [List.all_eq_true.1 h' _ (List.getElem_mem h)] at hj
   cases hj
  rw [e, Bool.and_false]
 clear hA ha hbA
 generalize livesB la = R at *
 go_enter Tryz.func107, Tryz.ntmps107
 go_wp2_with fail
 go_loopw [3] (fun i wr => ∃ k : Nat, k <= la.length /\ k <= 65 /\ i = .int .i64 k /\ (∀ j (h : j < la.length), j < k -> lifeB la[j] = true) /\ wr = w) (fun i _ => la.length - (intOf i).toNat)
 case atStart => exact ⟨0, by omega, by omega, rfl, fun j _ h => by omega, rfl⟩
 case round =>
  obtain ⟨k, hk, hk5, rfl, hj, rfl⟩ := hrel
  have HJ : Hid (∀ j (h : j < la.length), j < k -> lifeB la[j] = true) := hj
  clear hj
  by_cases h3 : k < la.length
  ·by_cases h5 : k < 65
   ·obtain ⟨b, o, e, c1, hl⟩ := HA.out k h3
    subst e
    have i1 : (k : Int) < (la.length : Int) := by omega
    have i2 : (k : Int) < 65 := by omega
    have HC := hid (xlife_any la[k] hl)
    cases hv : lifeB la[k] with
    | true =>
     have HJ' : Hid (∀ j (h : j < la.length), j < k + 1 -> lifeB la[j] = true) := by
      intro j h hjk
      rcases Nat.lt_or_ge j k with h' | h'
      ·exact HJ.out j h h'
      ·obtain rfl : j = k := by omega
       exact hv
     rw [hv] at HC
     clear hv
     generalize str la[k] = SA at *
     go_wp2_with (go_at_call 83; refine (HC.out _).mono ?_; rintro _ _ ⟨rfl, rfl⟩)
     go_roundw
     case rel => exact ⟨k + 1, by omega, by omega, by go_num, HJ'.out, by trivial⟩
     case measure => simp [intOf]; omega
    | false =>
     have hR := HF.out k h3 hv
     rw [hv] at HC
     clear hv
     generalize str la[k] = SA at *
     subst hR
     go_wp2_with (go_at_call 83; refine (HC.out _).mono ?_; rintro _ _ ⟨rfl, rfl⟩)
     go_ret
     exact ⟨rfl, rfl⟩
   ·have hR := HB.out fun j h h' => HJ.out j h (by omega)
    have e : decide (la.length <= 64) = false := by rw [decide_eq_false]; omega
    rw [e] at hR
    subst hR
    have i1 : (k : Int) < (la.length : Int) := by omega
    have i2 : ¬ (k : Int) < 65 := by omega
    have i3 : ¬ (la.length : Int) <= 64 := by omega
    go_wp2_with fail
    go_ret
    exact ⟨rfl, rfl⟩
  ·have hR := HB.out fun j h h' => HJ.out j h (by omega)
   have i1 : ¬ (k : Int) < (la.length : Int) := by omega
   by_cases h4 : la.length <= 64
   ·rw [decide_eq_true h4] at hR
    subst hR
    have i3 : (la.length : Int) <= 64 := by omega
    go_wp2_with fail
    go_ret
    exact ⟨rfl, rfl⟩
   ·rw [decide_eq_false h4] at hR
    subst hR
    have i3 : ¬ (la.length : Int) <= 64 := by omega
    go_wp2_with fail
    go_ret
    exact ⟨rfl, rfl⟩
def colon (s : Bs) (i : Nat) : Bool := (s.drop i).take 2 == [58, 58]
theorem occ_colon (s : Bs) (i : Nat) : Lib.occAt s [58, 58] i = (decide (i + 2 <= s.length) && colon s i) := by
 by_cases h : i + 2 <= s.length
 ·rw [Lib.occAt_iff_take s [58, 58] i h, decide_eq_true h, Bool.true_and]; rfl
 ·rw [decide_eq_false h, Bool.false_and]
  refine Bool.eq_false_iff.2 fun h' => ?_
  rcases Lib.occAt_room h' with h2 | h2
  ·exact h h2
  ·cases h2
theorem cut_none (s : Bs) (h : ∀ j, j + 1 < s.length -> colon s j = false) : Lib.cut s [58, 58] = (s, [], false) := by
 have e : Lib.index s [58, 58] = -1 := Lib.index_none fun j _ => by
  rw [occ_colon]
  by_cases hj : j + 2 <= s.length
  ·rw [h j (by omega), Bool.and_false]
  ·rw [decide_eq_false hj, Bool.false_and]
 unfold Lib.cut
 rw [e, if_neg (by decide)]
theorem cut_some (s : Bs) (i : Nat) (hi : i + 1 < s.length) (hc : colon s i = true) (h : ∀ j, j < i -> colon s j = false) : Lib.cut s [58, 58] = (s.take i, s.drop (i + 2), true) := by
 have e : Lib.index s [58, 58] = i := Lib.index_first (by omega) (by rw [occ_colon, hc, decide_eq_true (by omega)]; rfl) fun j hj => by
  rw [occ_colon, h j hj, Bool.and_false]
 unfold Lib.cut
 rw [e, if_pos (by omega)]
 rfl
theorem colon_beq (s : Bs) (i : Nat) : ((str ((s.drop i).take 2)).toList == [58, 58]) = colon s i := by
 have := str_beq ((s.drop i).take 2) [58, 58]
 have e : (str [58, 58]).toList = [58, 58] := by unfold str; rw [ByteArray.toList_mk]
 rw [e] at this
 rw [this]
 unfold colon
 by_cases h : (s.drop i).take 2 = [58, 58]
 ·rw [h]; rfl
 ·rw [decide_eq_false h, beq_eq_false_iff_ne.2 h]
set_option maxHeartbeats 2000000 in
theorem xlong_any (s : Bs) (hs : s.length <= 1048576) (w : World) :
  Calls Tryz.prog 185 #[.string (str s)] w fun ev w' => ev = .returned (.bool (farB s)) /\ Below w.heap.size w w' := by
 have HM : Hid (∀ a : Nat, (str s).extract a (a + 2) = str ((s.drop a).take 2)) := fun a => by rw [str_mid]; congr 3; omega
 have HT : Hid (∀ b : Nat, (str s).extract 0 b = str (s.take b)) := fun b => str_to s b
 have HD : Hid (∀ b : Nat, (str s).extract b s.length = str (s.drop b)) := fun b => str_from s b
 have HN : Hid (∀ (l : Bs) (w : World), l.length <= s.length -> Calls Tryz.prog 65 #[.string (str l)] w fun ev w' => ev = .returned (.bool (nameB l)) /\ Below w.heap.size w w') := fun l w h => xname_any l (by omega) w
 have HB : Hid (∀ j, ((str ((s.drop j).take 2)).toList == [58, 58]) = colon s j) := colon_beq s
 have HR : Hid ((∀ j, j + 1 < s.length -> colon s j = false) -> farB s = nameB s) := fun h => by
  unfold farB
  rw [cut_none s h]
  simp
 have HS : Hid (∀ i, i + 1 < s.length -> colon s i = true -> (∀ j, j < i -> colon s j = false) -> farB s = (nameB (s.take i) && nameB (s.drop (i + 2)))) := fun i hi hc h => by
  unfold farB
  rw [cut_some s i hi hc h]
  simp
 have h0 := HN.out s w (Nat.le_refl _)
 obtain ⟨S, hS⟩ : ∃ S, S = str s := ⟨_, rfl⟩
 have hSs : S.size = s.length := by rw [hS, str_size]
 have H0 := hid h0
 clear h0
 rw [← hS] at HM HT HD H0 ⊢
 clear hS
 generalize farB s = R at *
 go_enter Tryz.func185, Tryz.ntmps185
 go_wp2_with fail
 go_loopw [3] (fun i wr => ∃ k : Nat, k <= s.length /\ i = .int .i64 k /\ (∀ j, j < k -> colon s j = false) /\ wr = w) (fun i _ => s.length - (intOf i).toNat)
 case atStart => exact ⟨0, by omega, rfl, fun j h => by omega, rfl⟩
 case round =>
  obtain ⟨k, hk, rfl, hj, rfl⟩ := hrel
  have HJ := hid hj
  clear hj
  by_cases h3 : k + 1 < s.length
  ·have i1 : (k : Int) + 1 < (s.length : Int) := by omega
   have hE := HM.out k
   have q := HB.out k
   cases hv : colon s k with
   | false =>
    rw [hv] at q
    have HJ' : Hid (∀ j, j < k + 1 -> colon s j = false) := by
     intro j hjk
     rcases Nat.lt_or_ge j k with h' | h'
     ·exact HJ.out j h'
     ·obtain rfl : j = k := by omega
      exact hv
    clear hv HM HT HD HB HN HR HS H0
    generalize str ((s.drop k).take 2) = S1 at *
    go_wp2_with fail
    go_roundw
    case rel => exact ⟨k + 1, by omega, by go_num, HJ'.out, by trivial⟩
    case measure => simp [intOf]; omega
   | true =>
    rw [hv] at q
    have hT := HT.out k
    have hD := HD.out (k + 2)
    have c1 := hid (HN.out (s.take k) · (by simp; omega))
    have c2 := hid (HN.out (s.drop (k + 2)) · (by simp))
    have hR := HS.out k h3 hv HJ.out
    have HE := hid hR
    clear hv HM HT HD HB HN HR HS H0 HJ hR
    generalize str ((s.drop k).take 2) = S1 at *
    generalize str (s.take k) = S2 at *
    generalize str (s.drop (k + 2)) = S3 at *
    generalize nameB (s.take k) = b1 at *
    generalize nameB (s.drop (k + 2)) = b2 at *
    cases b1 with
    | false =>
     go_wp2_with (go_at_call 65; refine (c1.out _).mono ?_; rintro _ _ ⟨rfl, hw⟩)
     go_ret
     exact ⟨by rw [HE.out]; rfl, hw⟩
    | true =>
     go_wp2_with fail
     go_at_call 65
     refine (c1.out _).mono ?_
     rintro _ w1 ⟨rfl, hw⟩
     go_wp2_with fail
     go_at_call 65
     refine (c2.out _).mono ?_
     rintro _ w2 ⟨rfl, hw2⟩
     go_wp2_with fail
     go_ret
     exact ⟨by rw [HE.out]; simp, hw.trans (below_le hw2 hw.size)⟩
  ·have i1 : ¬ (k : Int) + 1 < (s.length : Int) := by omega
   have HE := hid (HR.out fun j h => HJ.out j (by omega))
   generalize nameB s = b1 at *
   go_wp2_with (go_at_call 65; refine H0.out.mono ?_; rintro _ _ ⟨rfl, hw⟩)
   go_ret
   exact ⟨by rw [HE.out]; rfl, hw⟩
end Go.Proofs.YtldbbkheemnnhaaGreatDoor
