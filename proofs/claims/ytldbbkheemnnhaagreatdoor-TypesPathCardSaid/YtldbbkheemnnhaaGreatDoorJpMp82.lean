/-
  The texts Mp8, St8, joined.
-/
import Derived.Test.YtldbbkheemnnhaaGreatDoorJpBas5
import Derived.DeepKeys4
import Derived.Maps.RangeWalk
import Derived.Maps.OwnSet
import Derived.Test.YtldbbkheemnnhaaGreatDoorJpGro84
import Derived.Test.YtldbbkheemnnhaaGreatDoorJpPm82
namespace Go.Proofs.YtldbbkheemnnhaaGreatDoor
open Go.RowKit Go.Maps
theorem law : Keyed Tryz.prog 9 := string_keyed Tryz.underlying9
theorem str_list (l : List UInt8) : (str l).data.toList = l := by simp [str]
theorem keyOf_str (h : List UInt8) (hl : h.length <= 140737488355328) : keyOf Tryz.prog 9 (.string (str h)) = some (.string h) := by
 rw [keyOf_string Tryz.underlying9]
 have hs := str_size h
 simp [mapKey, Tryz.underlying9]
 exact ⟨by rw [hs]; unfold maxLen; omega, str_list h⟩
def rawE (v : Value) : Option (DataW Value × List MemPlace) := some (.held v, [])
structure Mp (w : World) (b : Nat) (m : List (List UInt8 × Value)) : Prop where
 raw : ∃ D : DataW Value, w.ownsMap Tryz.prog 9 rawE b m.length D /\ Maps.size D = m.length /\ (∀ h, Maps.has D (.string h) = decide (h ∈ m.map (·.1))) /\ ∀ p ∈ m, ∀ z, D.atKey (.string p.1) z = .held p.2
 apart : (m.map (·.1)).Nodup
theorem Mp.made (w : World) : Mp (w.alloc (.map #[] 0)) w.heap.size [] :=
 ⟨⟨.map [], World.ownsMap_made _ _ _ _, rfl, fun h => by simp [Maps.has], by simp⟩, by simp⟩
theorem Mp.lt {w : World} {b : Nat} {m : List (List UInt8 × Value)} (h : Mp w b m) : b < w.heap.size := by
 obtain ⟨D, ho, _⟩ := h.raw
 exact ho.lt
theorem Mp.kept {w w' : World} {b : Nat} {m : List (List UInt8 × Value)} {row : Option Nat} (h : Mp w b m) (hg : w.grownBy w' row) (hne : some b ≠ row) : Mp w' b m := by
 obtain ⟨D, ho, r⟩ := h.raw
 exact ⟨⟨D, ho.kept hg hne, r⟩, h.apart⟩
def findV (m : List (List UInt8 × Value)) (h : List UInt8) (z : Value) : Value := ((m.find? (·.1 == h)).map (·.2)).getD z
theorem findV_in {m : List (List UInt8 × Value)} {h : List UInt8} (hm : h ∈ m.map (·.1)) : ∃ v, (h, v) ∈ m /\ ∀ z, findV m h z = v := by
 obtain ⟨p, hp, rfl⟩ := List.mem_map.1 hm
 have : (m.find? (·.1 == p.1)).isSome := by rw [List.find?_isSome]; exact ⟨p, hp, by simp⟩
 obtain ⟨q, hq⟩ := Option.isSome_iff_exists.1 this
 have h1 := List.mem_of_find?_eq_some hq
 have h2 := List.find?_some hq
 have h3 : q.1 = p.1 := by simpa using h2
 refine ⟨q.2, ?_, fun z => by simp [findV, hq]⟩
 rw [← h3]; exact h1
theorem findV_out {m : List (List UInt8 × Value)} {h : List UInt8} (hm : h ∉ m.map (·.1)) (z : Value) : findV m h z = z := by
 have : m.find? (·.1 == h) = none := by
  rw [List.find?_eq_none]
  intro p hp
  simp
  rintro rfl
  exact hm (List.mem_map.2 ⟨p, hp, rfl⟩)
 simp [findV, this]
section
variable {w : World} {b : Nat} {m : List (List UInt8 × Value)}
theorem Mp.look (H : Mp w b m) {t e : TypeId} (ht : Tryz.prog.underlying t = some (.map 9 e)) {z : Value} (hz : (zeroValue e).run Tryz.prog w = .ok z w) (h : List UInt8) (hl : h.length <= 140737488355328) :
  (Instr.lookup t (.map (some b)) (.string (str h)) true).run Tryz.prog w = .ok (.tuple #[findV m h z, .bool (decide (h ∈ m.map (·.1)))]) w := by
 obtain ⟨D, ho, _, hhas, hat⟩ := H.raw
 obtain ⟨v, ps, hrun, hv'⟩ := ho.look_ok law ht hz (zd := .held z) (zp := []) rfl (keyOf_str h hl)
 rw [hrun, hhas h]
 have e1 : DataW.held v = D.atKey (.string h) (.held z) := by
  have := Option.some.inj hv'
  exact congrArg Prod.fst this
 have e2 : v = findV m h z := by
  by_cases hm : h ∈ m.map (·.1)
  ·obtain ⟨v', hin, hf⟩ := findV_in hm
   rw [hat _ hin] at e1
   rw [hf]
   exact DataW.held.inj e1
  ·have hh : Maps.has D (.string h) = false := by rw [hhas]; simpa using hm
   rw [Maps.atKey_of_not_has hh] at e1
   rw [findV_out hm]
   exact DataW.held.inj e1
 rw [e2]
theorem Mp.put (H : Mp w b m) {t e : TypeId} (ht : Tryz.prog.underlying t = some (.map 9 e)) (hn : m.length < 1000000) (h : List UInt8) (hl : h.length <= 140737488355328) (hm : h ∉ m.map (·.1)) (v : Value) :
  ∃ w', (Instr.mapUpdate t (.map (some b)) (.string (str h)) v).run Tryz.prog w = .ok () w' /\ Mp w' b ((h, v) :: m) /\ w.grownBy w' (some b) /\ w'.heap.size = w.heap.size := by
 obtain ⟨D, ho, hs, hhas, hat⟩ := H.raw
 obtain ⟨w', hrun, ho', hturn⟩ := ho.store law ht (by unfold maxLen; omega) (val := v) (d := .held v) (ps := []) (keyOf_str h hl) rfl
 have hno : Maps.has D (.string h) = false := by rw [hhas]; simpa using hm
 refine ⟨w', hrun, ⟨⟨_, ho', ?_, ?_, ?_⟩, ?_⟩, hturn.grown, ?_⟩
 ·rw [Maps.size_put (ho.tidy law), hno, hs]; simp
 ·intro h'
  by_cases he : h' = h
  ·subst he
   rw [Maps.has_put_same (k := .string h') ho.isMap trivial]; simp
  ·rw [Maps.has_put_other (by simpa using he), hhas]
   simp [he]
 ·intro p hp z
  rcases List.mem_cons.1 hp with rfl | hp
  ·exact Maps.atKey_put_same (k := .string h) ho.isMap trivial _ _
  ·rw [Maps.atKey_put_other, hat p hp]
   intro e
   apply hm
   have : p.1 = h := by simpa using e
   rw [← this]; exact List.mem_map.2 ⟨p, hp, rfl⟩
 ·rw [List.map_cons, List.nodup_cons]; exact ⟨hm, H.apart⟩
 ·obtain ⟨es, clock, es', clock', _, rfl⟩ := hturn
  simp [ChangeMaps.setBlock]
end
theorem below_by {w w' : World} (h : Below w.heap.size w w') : w.grownBy w' none := ⟨h.os, h.tape, h.output, h.size, fun k hk _ => h.block k hk⟩
theorem Mp.below {w w' : World} {b : Nat} {m : List (List UInt8 × Value)} (h : Mp w b m) (hb : Below w.heap.size w w') : Mp w' b m := h.kept (below_by hb) (by simp)
theorem Mp.len {w : World} {b : Nat} {m : List (List UInt8 × Value)} (H : Mp w b m) {t e : TypeId} (ht : Tryz.prog.underlying t = some (.map 9 e)) (ty : TypeId) : (Builtin.len_ #[t] ty #[.map (some b)]).run Tryz.prog w = .ok (.int .i64 (m.length : Int)) w := by
 obtain ⟨D, ho, hs, _⟩ := H.raw
 rw [ho.len ht ty, hs]
theorem Mp.stay {X : Nat -> Prop} {w w' : World} {b : Nat} {m : List (List UInt8 × Value)} (h : Mp w b m) (hs : Stay X w w') (hb : ¬ X b) : Mp w' b m := by
 obtain ⟨D, ⟨es, clock, h0, r1⟩, r⟩ := h.raw
 have hlt : b < w.heap.size := by
  rcases Nat.lt_or_ge b w.heap.size with h' | h'
  ·exact h'
  ·rw [Array.getElem?_eq_none h'] at h0; cases h0
 exact ⟨⟨D, ⟨es, clock, (hs.block b hlt hb).trans h0, r1⟩, r⟩, h.apart⟩
theorem stay_grown {w w' : World} {b : Nat} (h : w.grownBy w' (some b)) (hz : w'.heap.size = w.heap.size) : Stay (fun k => k = b) w w' :=
 ⟨h.os, h.tape, h.output, Nat.le_of_eq hz.symm, fun k hk hx => h.block k hk (fun e => hx (by cases e; rfl))⟩
end Go.Proofs.YtldbbkheemnnhaaGreatDoor

namespace Go.Proofs.YtldbbkheemnnhaaGreatDoor
open Go.RowKit Go.Maps
def un (l : List Bs) : List (Bs × Value) := l.map fun x => (x, .agg #[])
theorem un_keys (l : List Bs) : (un l).map (·.1) = l := by induction l <;> simp_all [un]
theorem un_len (l : List Bs) : (un l).length = l.length := by unfold un; simp
theorem un_find (l : List Bs) (x : Bs) : findV (un l) x (.agg #[]) = .agg #[] := by
 by_cases h : x ∈ (un l).map (·.1)
 ·obtain ⟨v, hv, hf⟩ := findV_in h
  rw [hf]
  unfold un at hv
  obtain ⟨y, _, e⟩ := List.mem_map.1 hv
  cases e; rfl
 ·exact findV_out h _
set_option maxHeartbeats 4000000 in
theorem add_any {w : World} {b : Nat} {m : List (Bs × Value)} (H : Mp w b m) (x : Bs) (hx : x.length <= 140737488355328) (hn : m.length < 1000000) (hm : x ∉ m.map (·.1)) :
  Calls Tryz.prog 96 #[.map (some b), .string (str x)] w fun ev w' => ev = .returned (.bool true) /\ Mp w' b ((x, .agg #[]) :: m) /\ Stay (fun k => k = b) w w' := by
 have l1 := H.len Tryz.underlying157 3
 obtain ⟨w', hrun, hMp', hgr, hsz⟩ := H.put (t := 157) (e := 190) Tryz.underlying157 hn _ hx hm (.agg #[])
 have l2 := hMp'.len Tryz.underlying157 3
 simp only [List.length_cons] at l2
 have HS := hidP (stay_grown hgr hsz)
 have HM := hidP hMp'
 have hd : decide (m.length < m.length + 1) = true := by simp
 clear H hMp' hgr hsz hn hm
 generalize str x = SX at *
 generalize m.length = n at *
 go_enter Tryz.func96, Tryz.ntmps96
 go_wp2_with fail
 go_ret
 exact ⟨by simp; omega, HM.out, HS.out⟩
theorem Strs.cellAt {K : Ctx} {w : World} {ao : Option Addr} {n cap : Nat} {L : List Bs} (h : Strs K w (.slice ao n cap) L) {i : Nat} (hi : i < L.length) : ∃ b o, ao = some ⟨b, o, none⟩ /\ b < K.C /\ w.cell? ⟨b, o + i, none⟩ = some (.string (str (L.getD i []))) /\ (L.getD i []).length <= K.B := by
 obtain ⟨ao', cap', e, _, _, h3⟩ := h.shape
 cases e
 obtain ⟨b, o, e1, hb, cs, _, hc, rfl, hB⟩ := h3 i hi
 have e2 : L.getD i [] = L[i] := by simp [List.getD, List.getElem?_eq_getElem hi]
 refine ⟨b, o, e1, hb, ?_, by rw [e2]; exact hB⟩
 have := hc 0 (by decide)
 rw [Nat.mul_one, Nat.add_zero] at this
 rw [this, e2]; rfl
theorem getD_take {L : List Bs} {i : Nat} (hi : i < L.length) : L.take (i + 1) = L.take i ++ [L.getD i []] := by
 rw [List.take_add_one, List.getElem?_eq_getElem hi]
 simp [List.getD, List.getElem?_eq_getElem hi]
theorem nodup_new {L : List Bs} {i : Nat} (hi : i < L.length) (h : L.Nodup) : L.getD i [] ∉ L.take i := by
 have h1 := h.sublist (List.take_sublist (i + 1) L)
 rw [getD_take hi, List.nodup_append] at h1
 intro hm
 exact h1.2.2 _ hm _ (by simp) rfl
set_option maxHeartbeats 8000000 in
set_option maxRecDepth 20000 in
theorem setOf_any {K : Ctx} {w : World} {v : Value} {L : List Bs} (h : Strs K w v L) (hC : K.C <= w.heap.size) (hn : L.Nodup) (hL : L.length <= 1000) :
  Calls Tryz.prog 177 #[v] w fun ev w' => ∃ b, ev = .returned (.map (some b)) /\ Mp w' b (un L.reverse) /\ Below w.heap.size w w' /\ w.heap.size <= b := by
 obtain ⟨ao, cap, rfl⟩ := Ar.form h
 have hsm := K.small
 have HM : Hid (Mp (w.alloc (.map #[] 0)) w.heap.size []) := Mp.made w
 have HB : Hid (Below w.heap.size w (w.alloc (.map #[] 0))) := (Below.refl _ _).alloc (Nat.le_refl _) _
 have HCell := hidP (fun i (hi : i < L.length) => h.cellAt hi)
 have HN := hidP (fun i (hi : i < L.length) => nodup_new hi hn)
 have HT := hidP (fun i (hi : i < L.length) => getD_take hi)
 have HE : Hid (∀ k, L.length <= k -> L.take k = L) := fun k hk => List.take_of_length_le hk
 obtain ⟨n, hnl⟩ : ∃ n, n = L.length := ⟨_, rfl⟩
 rw [← hnl] at hL HCell HN HT HE ⊢
 clear h hn hnl
 have hmm := @run_makeMap Tryz.prog
 go_enter Tryz.func177, Tryz.ntmps177
 go_wp2_with fail
 go_loopw [9] (fun i wr => ∃ (k : Nat), k <= n /\ i = .int .i64 k /\ Mp wr w.heap.size (un (L.take k).reverse) /\ Below w.heap.size w wr) (fun i _ => n - (intOf i).toNat)
 case atStart => exact ⟨0, by omega, rfl, HM.out, HB.out⟩
 case round =>
  obtain ⟨k, hk, rfl, hMp, hb⟩ := hrel
  by_cases h3 : k < n
  ·have l1 : (k : Int) < (n : Int) := by omega
   obtain ⟨b, o, rfl, hbC, hc, hlB⟩ := HCell.out k h3
   have c0 := (hb.cell (p := ⟨b, o + k, none⟩) (show b < w.heap.size by omega)).trans hc
   have AD := hidP (add_any hMp (L.getD k []) (by omega) (by rw [un_len, List.length_reverse, List.length_take]; omega) (by rw [un_keys, List.mem_reverse]; exact HN.out k h3))
   have hb' := hidP hb
   have HT1 := hidP (HT.out k h3)
   clear hMp hb hc hlB
   have HU : Hid (∀ y, (y, Value.agg #[]) :: un (L.take k).reverse = un (y :: (L.take k).reverse)) := fun _ => rfl
   generalize L.getD k [] = x at *
   generalize str x = SX at *
   go_wp2_with fail
   refine AD.out.mono ?_
   rintro _ w2 ⟨rfl, hM2, hS2⟩
   have HM2 := hidP hM2
   have HB2 := hidP (hb'.out.trans (hS2.below hb'.out.size (fun q hq => by omega)))
   clear AD hM2 hS2
   go_wp2_with fail
   go_roundw
   case rel => exact ⟨k + 1, by omega, by go_num, by rw [HT1.out, List.reverse_append, List.reverse_singleton, List.singleton_append, ← HU.out]; exact HM2.out, HB2.out⟩
   case measure => simp [intOf]; omega
  ·obtain rfl : k = n := by omega
   have HMp := hidP (show Mp wr w.heap.size (un L.reverse) by rw [HE.out k (Nat.le_refl _)] at hMp; exact hMp)
   have hb' := hidP hb
   clear hMp hb
   go_wp2_with fail
   go_ret
   exact ⟨_, rfl, HMp.out, hb'.out, Nat.le_refl _⟩
set_option maxHeartbeats 8000000 in
set_option maxRecDepth 20000 in
theorem hasAll_any {K : Ctx} {w : World} {b : Nat} {l : List Bs} (H : Mp w b (un l)) {v : Value} {L : List Bs} (h : Strs K w v L) (hC : K.C <= w.heap.size) (hin : ∀ x ∈ L, x ∈ l) (hL : L.length <= 1000000) :
  Calls Tryz.prog 178 #[.map (some b), v] w fun ev w' => ev = .returned (.bool true) /\ Below w.heap.size w w' := by
 obtain ⟨ao, cap, rfl⟩ := Ar.form h
 have hsm := K.small
 have HCell := hidP (fun i (hi : i < L.length) => h.cellAt hi)
 have HI : Hid (∀ i, i < L.length -> L.getD i [] ∈ l) := fun i hi => hin _ (by simp [List.getD, List.getElem?_eq_getElem hi])
 have HM := hidP H
 obtain ⟨n, hnl⟩ : ∃ n, n = L.length := ⟨_, rfl⟩
 rw [← hnl] at hL HCell HI ⊢
 clear h hnl H hin
 go_enter Tryz.func178, Tryz.ntmps178
 go_wp2_with fail
 go_loopw [11] (fun i wr => ∃ (k : Nat), k <= n /\ i = .int .i64 k /\ Below w.heap.size w wr) (fun i _ => n - (intOf i).toNat)
 case atStart => exact ⟨0, by omega, rfl, Below.refl _ _⟩
 case round =>
  obtain ⟨k, hk, rfl, hb⟩ := hrel
  by_cases h3 : k < n
  ·have l1 : (k : Int) < (n : Int) := by omega
   obtain ⟨b', o, rfl, hbC, hc, hlB⟩ := HCell.out k h3
   have c0 := (hb.cell (p := ⟨b', o + k, none⟩) (show b' < w.heap.size by omega)).trans hc
   have LK := (HM.out.below hb).look (t := 157) (e := 190) Tryz.underlying157 (z := .agg #[]) (Tryz.zeroValue190 wr) (L.getD k []) (by omega)
   rw [un_find, un_keys, decide_eq_true (HI.out k h3)] at LK
   have hb' := hidP hb
   clear hb hc hlB
   generalize L.getD k [] = x at *
   generalize str x = SX at *
   go_wp2_with fail
   go_roundw
   case rel => exact ⟨k + 1, by omega, by go_num, hb'.out.alloc hb'.out.size _⟩
   case measure => simp [intOf]; omega
  ·obtain rfl : k = n := by omega
   have hb' := hidP hb
   clear hb
   go_wp2_with fail
   go_ret
   exact ⟨rfl, hb'.out⟩
end Go.Proofs.YtldbbkheemnnhaaGreatDoor
