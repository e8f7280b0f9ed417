/-
  The texts Mp8, St8, Sf8, Xr1, joined.
-/
import Derived.Test.YtldbbkheemnnhaaGreatDoorJpBas5
import Derived.DeepKeys4
import Derived.Maps.RangeWalk
import Derived.Maps.OwnSet
import Derived.Test.YtldbbkheemnnhaaGreatDoorJpGro84
import Derived.Test.YtldbbkheemnnhaaGreatDoorJpPm82
import Derived.Laws.ResultCell
import Derived.Test.YtldbbkheemnnhaaGreatDoorJpYpa3
import Derived.Test.YtldbbkheemnnhaaGreatDoorQpCr8
namespace Go.Proofs.YtldbbkheemnnhaaGreatDoor
open Go.RowKit Go.Maps
theorem law : Keyed Tryz.prog 9 := string_keyed Tryz.underlying9
theorem str_list (l : List UInt8) : (str l).data.toList = l := by simp [str]
theorem keyOf_str (h : List UInt8) (hl : h.length <= 140737488355328) : keyOf Tryz.prog 9 (.string (str h)) = some (.string h) := by
 rw [keyOf_string Tryz.underlying9]
 have hs := str_size h
 simp [mapKey, Tryz.underlying9]
 exact ⟨by rw [hs]; unfold maxLen; omega, str_list h⟩
def rawE (v : Value) : Option (DataW Value × List MemPlace) := some (.held v, [])
structure Mp (w : World) (b : Nat) (m : List (List UInt8 × Value)) : Prop where
 raw : ∃ D : DataW Value, w.ownsMap Tryz.prog 9 rawE b m.length D /\ Maps.size D = m.length /\ (∀ h, Maps.has D (.string h) = decide (h ∈ m.map (·.1))) /\ ∀ p ∈ m, ∀ z, D.atKey (.string p.1) z = .held p.2
 apart : (m.map (·.1)).Nodup
theorem Mp.made (w : World) : Mp (w.alloc (.map #[] 0)) w.heap.size [] :=
 ⟨⟨.map [], World.ownsMap_made _ _ _ _, rfl, fun h => by simp [Maps.has], by simp⟩, by simp⟩
theorem Mp.lt {w : World} {b : Nat} {m : List (List UInt8 × Value)} (h : Mp w b m) : b < w.heap.size := by
 obtain ⟨D, ho, _⟩ := h.raw
 exact ho.lt
theorem Mp.kept {w w' : World} {b : Nat} {m : List (List UInt8 × Value)} {row : Option Nat} (h : Mp w b m) (hg : w.grownBy w' row) (hne : some b ≠ row) : Mp w' b m := by
 obtain ⟨D, ho, r⟩ := h.raw
 exact ⟨⟨D, ho.kept hg hne, r⟩, h.apart⟩
def findV (m : List (List UInt8 × Value)) (h : List UInt8) (z : Value) : Value := ((m.find? (·.1 == h)).map (·.2)).getD z
theorem findV_in {m : List (List UInt8 × Value)} {h : List UInt8} (hm : h ∈ m.map (·.1)) : ∃ v, (h, v) ∈ m /\ ∀ z, findV m h z = v := by
 obtain ⟨p, hp, rfl⟩ := List.mem_map.1 hm
 have : (m.find? (·.1 == p.1)).isSome := by rw [List.find?_isSome]; exact ⟨p, hp, by simp⟩
 obtain ⟨q, hq⟩ := Option.isSome_iff_exists.1 this
 have h1 := List.mem_of_find?_eq_some hq
 have h2 := List.find?_some hq
 have h3 : q.1 = p.1 := by simpa using h2
 refine ⟨q.2, ?_, fun z => by simp [findV, hq]⟩
 rw [← h3]; exact h1
theorem findV_out {m : List (List UInt8 × Value)} {h : List UInt8} (hm : h ∉ m.map (·.1)) (z : Value) : findV m h z = z := by
 have : m.find? (·.1 == h) = none := by
  rw [List.find?_eq_none]
  intro p hp
  simp
  rintro rfl
  exact hm (List.mem_map.2 ⟨p, hp, rfl⟩)
 simp [findV, this]
section
variable {w : World} {b : Nat} {m : List (List UInt8 × Value)}
theorem Mp.look (H : Mp w b m) {t e : TypeId} (ht : Tryz.prog.underlying t = some (.map 9 e)) {z : Value} (hz : (zeroValue e).run Tryz.prog w = .ok z w) (h : List UInt8) (hl : h.length <= 140737488355328) :
  (Instr.lookup t (.map (some b)) (.string (str h)) true).run Tryz.prog w = .ok (.tuple #[findV m h z, .bool (decide (h ∈ m.map (·.1)))]) w := by
 obtain ⟨D, ho, _, hhas, hat⟩ := H.raw
 obtain ⟨v, ps, hrun, hv'⟩ := ho.look_ok law ht hz (zd := .held z) (zp := []) rfl (keyOf_str h hl)
 rw [hrun, hhas h]
 have e1 : DataW.held v = D.atKey (.string h) (.held z) := by
  have := Option.some.inj hv'
  exact congrArg Prod.fst this
 have e2 : v = findV m h z := by
  by_cases hm : h ∈ m.map (·.1)
  ·obtain ⟨v', hin, hf⟩ := findV_in hm
   rw [hat _ hin] at e1
   rw [hf]
   exact DataW.held.inj e1
  ·have hh : Maps.has D (.string h) = false := by rw [hhas]; simpa using hm
   rw [Maps.atKey_of_not_has hh] at e1
   rw [findV_out hm]
   exact DataW.held.inj e1
 rw [e2]
theorem Mp.put (H : Mp w b m) {t e : TypeId} (ht : Tryz.prog.underlying t = some (.map 9 e)) (hn : m.length < 1000000) (h : List UInt8) (hl : h.length <= 140737488355328) (hm : h ∉ m.map (·.1)) (v : Value) :
  ∃ w', (Instr.mapUpdate t (.map (some b)) (.string (str h)) v).run Tryz.prog w = .ok () w' /\ Mp w' b ((h, v) :: m) /\ w.grownBy w' (some b) /\ w'.heap.size = w.heap.size := by
 obtain ⟨D, ho, hs, hhas, hat⟩ := H.raw
 obtain ⟨w', hrun, ho', hturn⟩ := ho.store law ht (by unfold maxLen; omega) (val := v) (d := .held v) (ps := []) (keyOf_str h hl) rfl
 have hno : Maps.has D (.string h) = false := by rw [hhas]; simpa using hm
 refine ⟨w', hrun, ⟨⟨_, ho', ?_, ?_, ?_⟩, ?_⟩, hturn.grown, ?_⟩
 ·rw [Maps.size_put (ho.tidy law), hno, hs]; simp
 ·intro h'
  by_cases he : h' = h
  ·subst he
   rw [Maps.has_put_same (k := .string h') ho.isMap trivial]; simp
  ·rw [Maps.has_put_other (by simpa using he), hhas]
   simp [he]
 ·intro p hp z
  rcases List.mem_cons.1 hp with rfl | hp
  ·exact Maps.atKey_put_same (k := .string h) ho.isMap trivial _ _
  ·rw [Maps.atKey_put_other, hat p hp]
   intro e
   apply hm
   have : p.1 = h := by simpa using e
   rw [← this]; exact List.mem_map.2 ⟨p, hp, rfl⟩
 ·rw [List.map_cons, List.nodup_cons]; exact ⟨hm, H.apart⟩
 ·obtain ⟨es, clock, es', clock', _, rfl⟩ := hturn
  simp [ChangeMaps.setBlock]
end
theorem below_by {w w' : World} (h : Below w.heap.size w w') : w.grownBy w' none := ⟨h.os, h.tape, h.output, h.size, fun k hk _ => h.block k hk⟩
theorem Mp.below {w w' : World} {b : Nat} {m : List (List UInt8 × Value)} (h : Mp w b m) (hb : Below w.heap.size w w') : Mp w' b m := h.kept (below_by hb) (by simp)
theorem Mp.len {w : World} {b : Nat} {m : List (List UInt8 × Value)} (H : Mp w b m) {t e : TypeId} (ht : Tryz.prog.underlying t = some (.map 9 e)) (ty : TypeId) : (Builtin.len_ #[t] ty #[.map (some b)]).run Tryz.prog w = .ok (.int .i64 (m.length : Int)) w := by
 obtain ⟨D, ho, hs, _⟩ := H.raw
 rw [ho.len ht ty, hs]
theorem Mp.stay {X : Nat -> Prop} {w w' : World} {b : Nat} {m : List (List UInt8 × Value)} (h : Mp w b m) (hs : Stay X w w') (hb : ¬ X b) : Mp w' b m := by
 obtain ⟨D, ⟨es, clock, h0, r1⟩, r⟩ := h.raw
 have hlt : b < w.heap.size := by
  rcases Nat.lt_or_ge b w.heap.size with h' | h'
  ·exact h'
  ·rw [Array.getElem?_eq_none h'] at h0; cases h0
 exact ⟨⟨D, ⟨es, clock, (hs.block b hlt hb).trans h0, r1⟩, r⟩, h.apart⟩
theorem stay_grown {w w' : World} {b : Nat} (h : w.grownBy w' (some b)) (hz : w'.heap.size = w.heap.size) : Stay (fun k => k = b) w w' :=
 ⟨h.os, h.tape, h.output, Nat.le_of_eq hz.symm, fun k hk hx => h.block k hk (fun e => hx (by cases e; rfl))⟩
end Go.Proofs.YtldbbkheemnnhaaGreatDoor

namespace Go.Proofs.YtldbbkheemnnhaaGreatDoor
open Go.RowKit Go.Maps
def un (l : List Bs) : List (Bs × Value) := l.map fun x => (x, .agg #[])
theorem un_keys (l : List Bs) : (un l).map (·.1) = l := by induction l <;> simp_all [un]
theorem un_len (l : List Bs) : (un l).length = l.length := by unfold un; simp
theorem un_find (l : List Bs) (x : Bs) : findV (un l) x (.agg #[]) = .agg #[] := by
 by_cases h : x ∈ (un l).map (·.1)
 ·obtain ⟨v, hv, hf⟩ := findV_in h
  rw [hf]
  unfold un at hv
  obtain ⟨y, _, e⟩ := List.mem_map.1 hv
  cases e; rfl
 ·exact findV_out h _
set_option maxHeartbeats 4000000 in
theorem add_any {w : World} {b : Nat} {m : List (Bs × Value)} (H : Mp w b m) (x : Bs) (hx : x.length <= 140737488355328) (hn : m.length < 1000000) (hm : x ∉ m.map (·.1)) :
  Calls Tryz.prog 96 #[.map (some b), .string (str x)] w fun ev w' => ev = .returned (.bool true) /\ Mp w' b ((x, .agg #[]) :: m) /\ Stay (fun k => k = b) w w' := by
 have l1 := H.len Tryz.underlying157 3
 obtain ⟨w', hrun, hMp', hgr, hsz⟩ := H.put (t := 157) (e := 190) Tryz.underlying157 hn _ hx hm (.agg #[])
 have l2 := hMp'.len Tryz.underlying157 3
 simp only [List.length_cons] at l2
 have HS := hidP (stay_grown hgr hsz)
 have HM := hidP hMp'
 have hd : decide (m.length < m.length + 1) = true := by simp
 clear H hMp' hgr hsz hn hm
 generalize str x = SX at *
 generalize m.length = n at *
 go_enter Tryz.func96, Tryz.ntmps96
 go_wp2_with fail
 go_ret
 exact ⟨by simp; omega, HM.out, HS.out⟩
theorem Strs.cellAt {K : Ctx} {w : World} {ao : Option Addr} {n cap : Nat} {L : List Bs} (h : Strs K w (.slice ao n cap) L) {i : Nat} (hi : i < L.length) : ∃ b o, ao = some ⟨b, o, none⟩ /\ b < K.C /\ w.cell? ⟨b, o + i, none⟩ = some (.string (str (L.getD i []))) /\ (L.getD i []).length <= K.B := by
 obtain ⟨ao', cap', e, _, _, h3⟩ := h.shape
 cases e
 obtain ⟨b, o, e1, hb, cs, _, hc, rfl, hB⟩ := h3 i hi
 have e2 : L.getD i [] = L[i] := by simp [List.getD, List.getElem?_eq_getElem hi]
 refine ⟨b, o, e1, hb, ?_, by rw [e2]; exact hB⟩
 have := hc 0 (by decide)
 rw [Nat.mul_one, Nat.add_zero] at this
 rw [this, e2]; rfl
theorem getD_take {L : List Bs} {i : Nat} (hi : i < L.length) : L.take (i + 1) = L.take i ++ [L.getD i []] := by
 rw [List.take_add_one, List.getElem?_eq_getElem hi]
 simp [List.getD, List.getElem?_eq_getElem hi]
theorem nodup_new {L : List Bs} {i : Nat} (hi : i < L.length) (h : L.Nodup) : L.getD i [] ∉ L.take i := by
 have h1 := h.sublist (List.take_sublist (i + 1) L)
 rw [getD_take hi, List.nodup_append] at h1
 intro hm
 exact h1.2.2 _ hm _ (by simp) rfl
set_option maxHeartbeats 8000000 in
set_option maxRecDepth 20000 in
theorem setOf_any {K : Ctx} {w : World} {v : Value} {L : List Bs} (h : Strs K w v L) (hC : K.C <= w.heap.size) (hn : L.Nodup) (hL : L.length <= 1000) :
  Calls Tryz.prog 177 #[v] w fun ev w' => ∃ b, ev = .returned (.map (some b)) /\ Mp w' b (un L.reverse) /\ Below w.heap.size w w' /\ w.heap.size <= b := by
 obtain ⟨ao, cap, rfl⟩ := Ar.form h
 have hsm := K.small
 have HM : Hid (Mp (w.alloc (.map #[] 0)) w.heap.size []) := Mp.made w
 have HB : Hid (Below w.heap.size w (w.alloc (.map #[] 0))) := (Below.refl _ _).alloc (Nat.le_refl _) _
 have HCell := hidP (fun i (hi : i < L.length) => h.cellAt hi)
 have HN := hidP (fun i (hi : i < L.length) => nodup_new hi hn)
 have HT := hidP (fun i (hi : i < L.length) => getD_take hi)
 have HE : Hid (∀ k, L.length <= k -> L.take k = L) := fun k hk => List.take_of_length_le hk
 obtain ⟨n, hnl⟩ : ∃ n, n = L.length := ⟨_, rfl⟩
 rw [← hnl] at hL HCell HN HT HE ⊢
 clear h hn hnl
 have hmm := @run_makeMap Tryz.prog
 go_enter Tryz.func177, Tryz.ntmps177
 go_wp2_with fail
 go_loopw [9] (fun i wr => ∃ (k : Nat), k <= n /\ i = .int .i64 k /\ Mp wr w.heap.size (un (L.take k).reverse) /\ Below w.heap.size w wr) (fun i _ => n - (intOf i).toNat)
 case atStart => exact ⟨0, by omega, rfl, HM.out, HB.out⟩
 case round =>
  obtain ⟨k, hk, rfl, hMp, hb⟩ := hrel
  by_cases h3 : k < n
  ·have l1 : (k : Int) < (n : Int) := by omega
   obtain ⟨b, o, rfl, hbC, hc, hlB⟩ := HCell.out k h3
   have c0 := (hb.cell (p := ⟨b, o + k, none⟩) (show b < w.heap.size by omega)).trans hc
   have AD := hidP (add_any hMp (L.getD k []) (by omega) (by rw [un_len, List.length_reverse, List.length_take]; omega) (by rw [un_keys, List.mem_reverse]; exact HN.out k h3))
   have hb' := hidP hb
   have HT1 := hidP (HT.out k h3)
   clear hMp hb hc hlB
   have HU : Hid (∀ y, (y, Value.agg #[]) :: un (L.take k).reverse = un (y :: (L.take k).reverse)) := fun _ => rfl
   generalize L.getD k [] = x at *
   generalize str x = SX at *
   go_wp2_with fail
   refine AD.out.mono ?_
   rintro _ w2 ⟨rfl, hM2, hS2⟩
   have HM2 := hidP hM2
   have HB2 := hidP (hb'.out.trans (hS2.below hb'.out.size (fun q hq => by omega)))
   clear AD hM2 hS2
   go_wp2_with fail
   go_roundw
   case rel => exact ⟨k + 1, by omega, by go_num, by rw [HT1.out, List.reverse_append, List.reverse_singleton, List.singleton_append, ← HU.out]; exact HM2.out, HB2.out⟩
   case measure => simp [intOf]; omega
  ·obtain rfl : k = n := by omega
   have HMp := hidP (show Mp wr w.heap.size (un L.reverse) by rw [HE.out k (Nat.le_refl _)] at hMp; exact hMp)
   have hb' := hidP hb
   clear hMp hb
   go_wp2_with fail
   go_ret
   exact ⟨_, rfl, HMp.out, hb'.out, Nat.le_refl _⟩
set_option maxHeartbeats 8000000 in
set_option maxRecDepth 20000 in
theorem hasAll_any {K : Ctx} {w : World} {b : Nat} {l : List Bs} (H : Mp w b (un l)) {v : Value} {L : List Bs} (h : Strs K w v L) (hC : K.C <= w.heap.size) (hin : ∀ x ∈ L, x ∈ l) (hL : L.length <= 1000000) :
  Calls Tryz.prog 178 #[.map (some b), v] w fun ev w' => ev = .returned (.bool true) /\ Below w.heap.size w w' := by
 obtain ⟨ao, cap, rfl⟩ := Ar.form h
 have hsm := K.small
 have HCell := hidP (fun i (hi : i < L.length) => h.cellAt hi)
 have HI : Hid (∀ i, i < L.length -> L.getD i [] ∈ l) := fun i hi => hin _ (by simp [List.getD, List.getElem?_eq_getElem hi])
 have HM := hidP H
 obtain ⟨n, hnl⟩ : ∃ n, n = L.length := ⟨_, rfl⟩
 rw [← hnl] at hL HCell HI ⊢
 clear h hnl H hin
 go_enter Tryz.func178, Tryz.ntmps178
 go_wp2_with fail
 go_loopw [11] (fun i wr => ∃ (k : Nat), k <= n /\ i = .int .i64 k /\ Below w.heap.size w wr) (fun i _ => n - (intOf i).toNat)
 case atStart => exact ⟨0, by omega, rfl, Below.refl _ _⟩
 case round =>
  obtain ⟨k, hk, rfl, hb⟩ := hrel
  by_cases h3 : k < n
  ·have l1 : (k : Int) < (n : Int) := by omega
   obtain ⟨b', o, rfl, hbC, hc, hlB⟩ := HCell.out k h3
   have c0 := (hb.cell (p := ⟨b', o + k, none⟩) (show b' < w.heap.size by omega)).trans hc
   have LK := (HM.out.below hb).look (t := 157) (e := 190) Tryz.underlying157 (z := .agg #[]) (Tryz.zeroValue190 wr) (L.getD k []) (by omega)
   rw [un_find, un_keys, decide_eq_true (HI.out k h3)] at LK
   have hb' := hidP hb
   clear hb hc hlB
   generalize L.getD k [] = x at *
   generalize str x = SX at *
   go_wp2_with fail
   go_roundw
   case rel => exact ⟨k + 1, by omega, by go_num, hb'.out.alloc hb'.out.size _⟩
   case measure => simp [intOf]; omega
  ·obtain rfl : k = n := by omega
   have hb' := hidP hb
   clear hb
   go_wp2_with fail
   go_ret
   exact ⟨rfl, hb'.out⟩
end Go.Proofs.YtldbbkheemnnhaaGreatDoor

namespace Go.Proofs.YtldbbkheemnnhaaGreatDoor
open Go.RowKit Go.Maps
theorem results_cell_row2 {P : Program} {fn : Func} {p u : Tmp} {ty : TypeId} (h : fn.results = #[.cell p ty, .tmp u]) (tmps : Array Value) (w : World) (g : Nat) (t : TypeId) (cs : Array Value) (fr : Nat × Nat) (d : TypeDesc)
  (hp : tmps.getD p undef = .pointer (some ⟨g, 0, none⟩)) (hg : w.heap[g]? = some (.cells cs t fr))
  (hu : P.underlying ty = some d) (hd : (match d with | .struct _ | .array _ _ => true | _ => false) = true) (hi : (P.info? ty).map (·.size) = some cs.size) :
  (results fn tmps).run P w = .ok (.tuple #[.agg cs, tmps.getD u undef]) w := by
 rw [results_cell_tmp h, hp]
 simp [asAddr, run_loadVar_row w g t ty cs fr d hg hu hd hi]
theorem size_two (w : World) (a b : Obj) : ((w.alloc a).alloc b).heap.size = w.heap.size + 2 := by rw [size_alloc, size_alloc]
theorem Tryz.sz84 : (Tryz.prog.info? 84).map (·.size) = some 5 := by kernel_rfl
def z84 : List Value := [.bool false, .string ⟨#[]⟩, .slice none 0 0, .slice none 0 0, .int .i64 0]
structure ScM (Q : Nat -> Prop) (B : Nat) (w : World) (b : Nat) (L : List Sct) : Prop where
 raw : ∃ m, Mp w b m /\ m.length = L.length /\ (∀ n, n ∈ m.map (·.1) ↔ n ∈ L.map (·.name)) /\ ∀ x ∈ L, ∃ cs : List Value, (x.name, .agg cs.toArray) ∈ m /\ SctQ Q B w cs x
structure Scp (Q : Nat -> Prop) (B : Nat) (w : World) (g b c : Nat) (L : List Sct) : Prop where
 row : Row w g 121 [.map (some b), .map (some c)]
 map : ScM Q B w b L
 sub : ∀ k, Q k -> k < w.heap.size
section
variable {Q : Nat -> Prop} {B : Nat} {w w' : World} {g b c : Nat} {L : List Sct}
theorem ScM.lt (h : ScM Q B w b L) : b < w.heap.size := by
 obtain ⟨m, hm, _⟩ := h.raw
 exact hm.lt
theorem Scp.stay {X : Nat -> Prop} (h : Scp Q B w g b c L) (hs : Stay X w w') (hg : ¬ X g) (hb : ¬ X b) (hq : ∀ k, Q k -> ¬ X k) : Scp Q B w' g b c L := by
 have hk : Kp Q Q w w' := ⟨fun _ h => h, fun k hk => hs.block k (h.sub k hk) (hq k hk)⟩
 refine ⟨hs.row h.row hg, ?_, fun k hk => Nat.lt_of_lt_of_le (h.sub k hk) hs.size⟩
 obtain ⟨m, hm, h1, h2, h3⟩ := h.map.raw
 refine ⟨m, hm.stay hs hb, h1, h2, fun x hx => ?_⟩
 obtain ⟨cs, h4, h5⟩ := h3 x hx
 exact ⟨cs, h4, h5.mono hk⟩
theorem Scp.past (h : Scp Q B w g b c L) (hb : Below w.heap.size w w') : Scp Q B w' g b c L :=
 h.stay (X := fun _ => False) (Stay.of_below hb) (fun h => h) (fun h => h) (fun _ _ h => h)
theorem find_zero (w : World) : (zeroValue 84).run Tryz.prog w = .ok (.agg z84.toArray) w := Tryz.zeroValue84 w
theorem ScM.yes (h : ScM Q B w b L) {x : Sct} (hx : x ∈ L) (hn : x.name.length <= 140737488355328) : ∃ cs : List Value, SctQ Q B w cs x /\ ∀ y, Below w.heap.size w y -> (Instr.lookup 118 (.map (some b)) (.string (str x.name)) true).run Tryz.prog y = .ok (.tuple #[.agg cs.toArray, .bool true]) y := by
 obtain ⟨m, hm, h1, h2, h3⟩ := h.raw
 obtain ⟨cs, h4, h5⟩ := h3 x hx
 refine ⟨cs, h5, fun y hy => ?_⟩
 have hk : x.name ∈ m.map (·.1) := List.mem_map.2 ⟨_, h4, rfl⟩
 rw [(hm.below hy).look (t := 118) (e := 84) Tryz.underlying118 (find_zero y) _ hn, decide_eq_true hk]
 obtain ⟨v, hv, hf⟩ := findV_in hk
 rw [hf]
 have : v = .agg cs.toArray := by
  have hp := hm.apart
  clear hf h2 h3 h5 hk h1 hm
  induction m with
  | nil => cases h4
  | cons p m ih =>
   rw [List.map_cons, List.nodup_cons] at hp
   rcases List.mem_cons.1 h4 with e | h4'
   ·rcases List.mem_cons.1 hv with e2 | hv'
    ·rw [← e] at e2; exact (Prod.mk.inj e2).2
    ·exact absurd (List.mem_map.2 ⟨_, hv', rfl⟩) (by rw [← e] at hp; exact hp.1)
   ·rcases List.mem_cons.1 hv with e2 | hv'
    ·exact absurd (List.mem_map.2 ⟨_, h4', rfl⟩) (by rw [← e2] at hp; exact hp.1)
    ·exact ih h4' hv' hp.2
 rw [this]
theorem ScM.no (h : ScM Q B w b L) {n : Bs} (hx : n ∉ L.map (·.name)) (hn : n.length <= 140737488355328) : ∀ y, Below w.heap.size w y -> (Instr.lookup 118 (.map (some b)) (.string (str n)) true).run Tryz.prog y = .ok (.tuple #[.agg z84.toArray, .bool false]) y := by
 intro y hy
 obtain ⟨m, hm, h1, h2, h3⟩ := h.raw
 have hk : n ∉ m.map (·.1) := fun h => hx ((h2 n).1 h)
 rw [(hm.below hy).look (t := 118) (e := 84) Tryz.underlying118 (find_zero y) _ hn, decide_eq_false hk, findV_out hk]
set_option maxHeartbeats 8000000 in
set_option maxRecDepth 20000 in
theorem find_run (H : Scp Q B w g b c L) (S : ByteArray) (cs : List Value) (is : Bool) (hcs : cs.length = 5) (h1 : ∀ u ∈ cs, u.oneCell' = true) (hl : ∀ y, Below w.heap.size w y -> (Instr.lookup 118 (.map (some b)) (.string S) true).run Tryz.prog y = .ok (.tuple #[.agg cs.toArray, .bool is]) y) :
  Calls Tryz.prog 149 #[.pointer (some ⟨g, 0, none⟩), .string S] w fun ev w' => ev = .returned (.tuple #[.agg cs.toArray, .bool is]) /\ Below w.heap.size w w' := by
 have hA := alloc_one w (.cells z84.toArray 84)
 have x0 := (H.row.alloc (.cells z84.toArray 84)).cell 0
 simp only [List.getElem?_cons_zero] at x0
 have lk := hl _ hA
 have RR : Hid (Row ((w.alloc (.cells z84.toArray 84)).alloc (.cells z84.toArray 84)) (w.heap.size + 1) 84 z84) := by
  have := Row.new (w.alloc (.cells z84.toArray 84)) 84 z84
  rw [size_alloc] at this; exact this
 have R0 : Hid (Row ((w.alloc (.cells z84.toArray 84)).alloc (.cells z84.toArray 84)) w.heap.size 84 z84) := (Row.new w 84 z84).alloc _
 have HB2 := hidP (alloc_two w (.cells z84.toArray 84) (.cells z84.toArray 84))
 obtain ⟨c0, c1, c2, c3, c4, rfl⟩ : ∃ c0 c1 c2 c3 c4, cs = [c0, c1, c2, c3, c4] := by
  match cs, hcs with
  | [c0, c1, c2, c3, c4], _ => exact ⟨_, _, _, _, _, rfl⟩
 have h1' := hidP h1
 have hN := hidP (size_two w (.cells z84.toArray 84) (.cells z84.toArray 84))
 unfold z84 at *
 clear H hl hA hcs h1
 go_enter Tryz.func149, Tryz.ntmps149
 go_wp2_with (first | (refine stR rfl 84 (.tmp 6) (.tmp 18) rfl (cs := [c0, c1, c2, c3, c4]) rfl rfl RR.out Tryz.sz84 rfl h1'.out ?_; intro w2 R2 S2; apply shut))
 show wpList _ _ _ _ _ _
 have R3 := hidP (S2.row R0.out (by omega))
 have HB3 := hidP (HB2.out.trans (S2.below (C := w.heap.size) (by rw [hN.out]; omega) (fun q hq => by omega)))
 replace R2 := hidP R2
 clear RR R0 HB2 S2 x0 lk hN
 go_wp2_with (first | (refine ldR rfl 84 (.tmp 6) rfl rfl R2.out Tryz.underlying84 rfl Tryz.sz84 ?_; apply shut))
 show wpList _ _ _ _ _ _
 go_wp2_with (first | (refine stR rfl 84 (.tmp 4) (.tmp 20) rfl (cs := [c0, c1, c2, c3, c4]) rfl rfl R3.out Tryz.sz84 rfl h1'.out ?_; intro w4 R4 S4; apply shut))
 show wpList _ _ _ _ _ _
 have HB4 := hidP (HB3.out.trans (S4.below (C := w.heap.size) HB3.out.size (fun q hq => by omega)))
 replace R4 := hidP R4
 clear R2 R3 HB3 S4
 go_wp2_with fail
 exact bodyPost_ret (v := .tuple #[.agg #[c0, c1, c2, c3, c4], .bool is]) (results_cell_row2 Tryz.results149 _ _ w.heap.size 84 _ (0, 0) _ rfl R4.out.heap Tryz.underlying84 rfl (by kernel_rfl)) rfl ⟨rfl, HB4.out⟩
theorem SctQ.parts {cs : List Value} {x : Sct} (h : SctQ Q B w cs x) : cs.length = 5 /\ ∀ u ∈ cs, u.oneCell' = true := by
 obtain ⟨v2, v3, rfl, _, h2, h3⟩ := h
 obtain ⟨a, n, rfl⟩ := ArQ.form h2
 obtain ⟨a', n', rfl⟩ := ArQ.form h3
 refine ⟨rfl, ?_⟩
 intro u hu
 simp only [List.mem_cons, List.not_mem_nil, or_false] at hu
 rcases hu with rfl | rfl | rfl | rfl | rfl <;> rfl
theorem find_yes (H : Scp Q B w g b c L) {x : Sct} (hx : x ∈ L) (hn : x.name.length <= 140737488355328) :
  ∃ cs : List Value, SctQ Q B w cs x /\ Calls Tryz.prog 149 #[.pointer (some ⟨g, 0, none⟩), .string (str x.name)] w fun ev w' => ev = .returned (.tuple #[.agg cs.toArray, .bool true]) /\ Below w.heap.size w w' := by
 obtain ⟨cs, h1, h2⟩ := H.map.yes hx hn
 exact ⟨cs, h1, find_run H _ cs true h1.parts.1 h1.parts.2 h2⟩
theorem find_no (H : Scp Q B w g b c L) {n : Bs} (hx : n ∉ L.map (·.name)) (hn : n.length <= 140737488355328) :
  Calls Tryz.prog 149 #[.pointer (some ⟨g, 0, none⟩), .string (str n)] w fun ev w' => ev = .returned (.tuple #[.agg z84.toArray, .bool false]) /\ Below w.heap.size w w' :=
 find_run H _ z84 false rfl (by intro u hu; simp only [z84, List.mem_cons, List.not_mem_nil, or_false] at hu; rcases hu with rfl | rfl | rfl | rfl | rfl <;> rfl) (H.map.no hx hn)
end
end Go.Proofs.YtldbbkheemnnhaaGreatDoor

namespace Go.Proofs.YtldbbkheemnnhaaGreatDoor
open Go.RowKit
theorem sct_may {x : Sct} (h : MaySct x) : nameB x.name = true /\ livesB x.lives = true /\ x.fields.length <= 64 /\ ∀ f ∈ x.fields, fldB false f :=
 ⟨h.1, h.2.1, h.2.2.1, fun f hf => ⟨(fun e => by rw [(h.2.2.2 f hf).1] at e; cases e), (h.2.2.2 f hf).2⟩⟩
set_option maxHeartbeats 16000000 in
set_option maxRecDepth 20000 in
theorem xmayS_yes {K : Ctx} {w : World} (he : Env K w) {Ls : List Sct} {v0 : Value} {a1 : Option Addr} {p1 : Nat} (hs : Ar 5 80 (SctAt K w) K w v0 Ls) (hall : ∀ x ∈ Ls, MaySct x) (hn : Ls.length <= 256) :
  Calls Tryz.prog 67 #[.agg #[v0, .slice a1 0 p1]] w fun ev w' => ev = .returned (.bool true) /\ Below w.heap.size w w' := by
 obtain ⟨a0, p0, rfl⟩ := hs.form
 have HE := hidP he
 have HG := hidP hs
 have HALL := hidP hall
 have hA := alloc_one w (.cells #[.slice a0 Ls.length p0, .slice a1 0 p1] 69)
 have HA := hidP hA
 have R0 : Hid (Row (w.alloc (.cells #[.slice a0 Ls.length p0, .slice a1 0 p1] 69)) w.heap.size 69 [.slice a0 Ls.length p0, .slice a1 0 p1]) := Row.new w 69 _
 obtain ⟨n, hnl⟩ : ∃ n, n = Ls.length := ⟨_, rfl⟩
 have HNL := hidP hnl
 rw [← hnl] at hn HA R0 ⊢
 have b1 : ¬ (256 : Int) < (n : Int) := by omega
 have b2 : ¬ (256 : Int) - (n : Int) < 0 := by omega
 have b3 : IntKind.i64.wrap (256 - (n : Int)) = 256 - (n : Int) := by rw [IntKind.wrap_i64]; omega
 have y0 := R0.out.cell 0
 have y1 := R0.out.cell 1
 simp only [List.getElem?_cons_zero, List.getElem?_cons_succ] at y0 y1
 clear he hs hall hA hnl
 go_enter Tryz.func67, Tryz.ntmps67
 go_wp2_with fail
 go_loopw [3] (fun i wr => ∃ (k : Nat), k <= n /\ i = .int .i64 k /\ Row wr w.heap.size 69 [.slice a0 n p0, .slice a1 0 p1] /\ Below w.heap.size w wr) (fun i _ => n - (intOf i).toNat)
 case atStart => exact ⟨0, by omega, rfl, R0.out, HA.out⟩
 case round =>
  clear R0 HA y0 y1
  obtain ⟨k, hk, rfl, hr, hb⟩ := hrel
  have x0 := hr.cell 0
  have x1 := hr.cell 1
  simp only [List.getElem?_cons_zero, List.getElem?_cons_succ] at x0 x1
  by_cases h3 : k < n
  ·have l1 : (k : Int) < (n : Int) := by omega
   have hk' : k < Ls.length := by have := HNL.out; omega
   obtain ⟨ao, cap, e, _, _, hall⟩ := HG.out.shape
   cases e
   obtain ⟨b', o, rfl, hbC, cs, hcl, hcs, hfa⟩ := hall k hk'
   have hszw := hb.size
   have hCC := HE.out.C
   have hBB := HE.out.B
   have hrg : wr.rangeAt b' (o + k * 5) cs := fun j u hj => by
    have hj2 : j < 5 := by
     rcases Nat.lt_or_ge j 5 with h' | h'
     ·exact h'
     ·rw [List.getElem?_eq_none (by omega)] at hj; cases hj
    rw [hb.cell (p := ⟨b', o + k * 5 + j, none⟩) (show b' < w.heap.size by omega), hcs j hj2]; exact hj
   have hone := hidP hfa.one
   have hm := sct_may (HALL.out _ (List.getElem_mem hk'))
   obtain ⟨v2, v3, rfl, hnB, q2, q3⟩ := hfa
   have NM : Hid (∀ y, Calls Tryz.prog 65 #[.string (str Ls[k].name)] y fun ev w' => ev = .returned (.bool true) /\ Below y.heap.size y w') := fun y => by
    have := xname_any Ls[k].name (by omega) y
    rwa [hm.1] at this
   have LV : Hid (∀ y, Below w.heap.size w y -> Calls Tryz.prog 107 #[v2] y fun ev w' => ev = .returned (.bool true) /\ w' = y) := fun y hy => by
    have := xlives_any (K := K) hBB (q2.below (below_le hy hCC))
    rwa [hm.2.1] at this
   have PA : Hid (∀ y, Below w.heap.size w y -> Calls Tryz.prog 108 #[v3, .bool false] y fun ev w' => ev = .returned (.bool true) /\ Below y.heap.size y w') := fun y hy => xparts_any (HE.out.below (below_le hy hCC)) (q3.mono (below_le hy hCC) fun _ _ _ q => q.below (below_le hy hCC)) false true ⟨fun _ => hm.2.2, fun _ => rfl⟩
   obtain ⟨a2, p2, rfl⟩ := Ar.form q2
   obtain ⟨a3, p3, rfl⟩ := Ar.form q3
   have RN : Hid (Row (wr.alloc (.cells z84.toArray 84)) wr.heap.size 84 z84) := Row.new wr 84 z84
   have HA := hidP (alloc_one wr (.cells z84.toArray 84))
   have HRG := hidP hrg
   have HR := hidP hr
   have HB := hidP hb
   clear hall hcs hcl hbC hnB q2 q3 hrg hr hb hm
   generalize str Ls[k].name = SX at *
   generalize Ls[k].lives.length = nl at *
   generalize Ls[k].fields.length = nf at *
   generalize Ls[k].pos = ps at *
   generalize Ls[k].pub = pb at *
   unfold z84 at *
   go_wp2_with (first | (refine wpList_load_mid rfl 84 (.tmp 30) rfl b' (o + k * 5) rfl [.bool pb, .string SX, .slice a2 nl p2, .slice a3 nf p3, .int .i64 ps] _ HRG.out Tryz.underlying84 rfl Tryz.sz84 ?_; apply shut))
   show wpList _ _ _ _ _ _
   go_wp2_with (first | (refine stR rfl 84 (.tmp 4) (.tmp 31) rfl (cs := [.bool pb, .string SX, .slice a2 nl p2, .slice a3 nf p3, .int .i64 ps]) rfl rfl RN.out Tryz.sz84 rfl hone.out ?_; intro w2 R2 S2; apply shut))
   show wpList _ _ _ _ _ _
   have hlt := HR.out.lt
   have hb2 : Below wr.heap.size wr w2 := HA.out.trans (S2.below (C := wr.heap.size) HA.out.size (fun q hq => by omega))
   have HB2 := hidP (HB.out.trans (below_le hb2 hszw))
   have R3 := hidP (HR.out.below hb2 HR.out.lt)
   have z1 := R2.cell 1
   simp only [List.getElem?_cons_zero, List.getElem?_cons_succ] at z1
   have R2' := hidP R2
   clear RN HA HRG HR HB S2 hb2 R2 x0 x1
   go_wp2_with fail
   refine (NM.out _).mono ?_
   rintro _ w3 ⟨rfl, hb3⟩
   have HB3 := hidP (HB2.out.trans (below_le hb3 HB2.out.size))
   have R4 := hidP (R3.out.below hb3 R3.out.lt)
   have R5 := R2'.out.below hb3 R2'.out.lt
   have z2 := R5.cell 2
   have z3 := R5.cell 3
   simp only [List.getElem?_cons_zero, List.getElem?_cons_succ] at z2 z3
   clear NM HB2 R3 R2' R5 hb3 z1
   go_wp2_with fail
   refine (LV.out _ HB3.out).mono ?_
   rintro _ _ ⟨rfl, rfl⟩
   go_wp2_with fail
   refine (PA.out _ HB3.out).mono ?_
   rintro _ w5 ⟨rfl, hb5⟩
   have HB5 := hidP (HB3.out.trans (below_le hb5 HB3.out.size))
   have R6 := hidP (R4.out.below hb5 R4.out.lt)
   clear LV PA HB3 R4 hb5 z2 z3
   go_wp2_with fail
   go_roundw
   case rel => exact ⟨k + 1, by omega, by go_num, R6.out, HB5.out⟩
   case measure => simp [intOf]; omega
  ·obtain rfl : k = n := by omega
   have hb' := hidP hb
   clear hb hr
   go_wp2_with fail
   refine wp_loop_rounds 1 ?_
   rw [rounds_succ]
   go_wp2_with fail
   go_ret
   exact ⟨rfl, hb'.out⟩
set_option maxHeartbeats 8000000 in
set_option maxRecDepth 20000 in
theorem has_any {K : Ctx} {w : World} {v : Value} {L : List Bs} (h : Strs K w v L) (s : Bs) (hL : L.length <= 1000000) (B : Bool) (hB : B = true ↔ s ∈ L) :
  Calls Tryz.prog 110 #[v, .string (str s)] w fun ev w' => ev = .returned (.bool B) /\ w' = w := by
 obtain ⟨ao, cap, rfl⟩ := Ar.form h
 have HCell := hidP (fun i (hi : i < L.length) => h.cellAt hi)
 have HM : Hid (∀ i, i < L.length -> ((str (L.getD i [])).toList == (str s).toList) = decide (L.getD i [] = s)) := fun i _ => by rw [str_beq]
 have HI : Hid (∀ i, i < L.length -> L.getD i [] ∈ L) := fun i hi => by simp [List.getD, List.getElem?_eq_getElem hi]
 have HB := hidP hB
 have HX : Hid (∀ k, L.length <= k -> (∀ j, j < k -> j < L.length -> L.getD j [] ≠ s) -> s ∉ L) := fun k hk hj hm => by
  obtain ⟨i, hi, e⟩ := List.mem_iff_getElem.1 hm
  exact hj i (by omega) hi (by simp [List.getD, List.getElem?_eq_getElem hi, e])
 obtain ⟨n, hnl⟩ : ∃ n, n = L.length := ⟨_, rfl⟩
 rw [← hnl] at hL HCell HM HI HX ⊢
 clear h hnl hB
 go_enter Tryz.func110, Tryz.ntmps110
 go_wp2_with fail
 go_loopw [5] (fun i wr => ∃ (k : Nat), k <= n /\ i = .int .i64 k /\ (∀ j, j < k -> j < n -> L.getD j [] ≠ s) /\ wr = w) (fun i _ => n - (intOf i).toNat)
 case atStart => exact ⟨0, by omega, rfl, fun j h => by omega, rfl⟩
 case round =>
  obtain ⟨k, hk, rfl, hj, rfl⟩ := hrel
  by_cases h3 : k < n
  ·have l1 : (k : Int) < (n : Int) := by omega
   obtain ⟨b', o, rfl, hbC, hc, hlB⟩ := HCell.out k h3
   have hm := HM.out k h3
   have hi := HI.out k h3
   have HJ := hidP hj
   clear hj
   by_cases he : L.getD k [] = s
   ·rw [decide_eq_true he] at hm
    have hBt : B = true := HB.out.2 (by rw [← he]; exact hi)
    clear he hi
    generalize str (L.getD k []) = SK at *
    generalize str s = SS at *
    go_wp2_with fail
    go_ret
    exact ⟨by rw [hBt]; rfl, rfl⟩
   ·rw [decide_eq_false he] at hm
    have HE := hidP he
    clear he hi
    generalize hx : L.getD k [] = x at *
    have HX2 := hidP hx
    clear hx
    generalize str x = SK at *
    generalize str s = SS at *
    go_wp2_with fail
    go_roundw
    case rel => exact ⟨k + 1, by omega, by go_num, fun j hj1 hj2 => by
     rcases Nat.lt_or_ge j k with h' | h'
     ·exact HJ.out j h' hj2
     ·obtain rfl : j = k := by omega
      rw [HX2.out]; exact HE.out, by trivial⟩
    case measure => simp [intOf]; omega
  ·obtain rfl : k = n := by omega
   have hBf : B = false := by
    cases hb : B with
    | false => rfl
    | true => exact absurd (HB.out.1 hb) (HX.out k (Nat.le_refl _) hj)
   clear hj
   go_wp2_with fail
   go_ret
   exact ⟨by rw [hBf]; rfl, rfl⟩
end Go.Proofs.YtldbbkheemnnhaaGreatDoor
