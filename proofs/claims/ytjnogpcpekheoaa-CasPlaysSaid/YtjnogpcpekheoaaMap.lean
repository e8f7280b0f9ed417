/-
  Maps by sums, as lists of what they hold.
-/
import Derived.Test.YtjnogpcpekheoaaOpn
import Derived.DeepKeys4
import Derived.Maps.RangeWalk
import Derived.Maps.OwnSet
namespace Go.Proofs.Ytjnogpcpekheoaa
open Go.RowKit Go.Maps

/-- A sum as a value. -/
def hv (h : List UInt8) : Value := .agg (bys h).toArray
theorem Try.row35 : (35 : Nat) < Try.prog.types.size := of_decide_eq_true (by kernel_rfl)
theorem Try.wide35 : (match Try.prog.underlying 35 with | some (.array _ _) | some (.struct _) => true | _ => false) = true := by kernel_rfl
theorem Try.key35 : Try.prog.keyType 35 = true := by kernel_rfl
set_option maxRecDepth 100000 in
theorem law : Keyed Try.prog 35 := Keyed.of_law (deep_law_laid Try.laidOut (m := 3) (by omega) Try.row35 (by kernel_rfl) Try.wide35)

theorem mapM_all {α β : Type} (f : α → Option β) (g : α → β) : ∀ l : List α, (∀ x ∈ l, f x = some (g x)) → l.mapM f = some (l.map g)
  | [], _ => rfl
  | a :: l, h => by
    rw [List.mapM_cons, h a (by simp), mapM_all f g l (fun x hx => h x (by simp [hx]))]
    rfl
theorem mapM_some {α β : Type} (f : α → Option β) : ∀ (l : List α) (ys : List β), l.mapM f = some ys → ∀ x ∈ l, ∃ y, f x = some y
  | [], _, _, x, hx => by cases hx
  | a :: l, ys, h, x, hx => by
    rw [List.mapM_cons] at h
    cases hfa : f a with
    | none => rw [hfa] at h; cases h
    | some y =>
      rcases List.mem_cons.1 hx with rfl | hx
      · exact ⟨y, hfa⟩
      · cases hl : l.mapM f with
        | none => rw [hfa, hl] at h; cases h
        | some zs => exact mapM_some f l zs hl x hx
theorem take_one (l : List UInt8) (i : Nat) (hi : i < l.length) : (((bys l).drop (i * 1)).take 1) = [.int .u8 ((l.getD i 0).toNat : Int)] := by
  rw [Nat.mul_one, List.drop_eq_getElem_cons (by rw [bys_len]; exact hi)]
  simp [bys, List.getD, List.getElem?_eq_getElem hi]
theorem u8_wf (b : UInt8) : (Lit.int .u8 (b.toNat : Int)).wf = true := by
  have := b.toNat_lt
  have e1 : IntKind.u8.min = 0 := by decide
  have e2 : IntKind.u8.max = 255 := by decide
  simp [Lit.wf, e1, e2]; omega
theorem byte_key (b : UInt8) : Lit.keyBytes (.int .u8 (b.toNat : Int)) = [b] := by
  have hb := b.toNat_lt
  have e : ((b.toNat : Int) % 2 ^ IntKind.u8.bits).toNat = b.toNat := by
    have : (2 : Int) ^ IntKind.u8.bits = 256 := rfl
    rw [this]; omega
  show bytesBE (IntKind.u8.bits / 8) ((b.toNat : Int) % 2 ^ IntKind.u8.bits).toNat = [b]
  rw [e]
  show (bytesLE 1 b.toNat).reverse = [b]
  simp [bytesLE]
theorem keyBytes_map : ∀ l : List UInt8, keyBytes (l.map fun b => Lit.int .u8 (b.toNat : Int)) = l
  | [] => rfl
  | b :: l => by
    have ih := keyBytes_map l
    unfold keyBytes at *
    rw [List.map_cons, List.flatMap_cons, byte_key, ih]; rfl
theorem flatten_ones (l : List UInt8) : ((List.range l.length).map fun i => [Lit.int .u8 ((l.getD i 0).toNat : Int)]).flatten = l.map fun b => Lit.int .u8 (b.toNat : Int) := by
  rw [← List.flatMap_def, ← List.map_eq_flatMap]
  apply List.ext_getElem?
  intro i
  rcases Nat.lt_or_ge i l.length with hi | hi
  · simp [List.getElem?_range hi, List.getD, List.getElem?_eq_getElem hi]
  · rw [List.getElem?_eq_none (by simpa using hi), List.getElem?_eq_none (by simpa using hi)]
theorem keyLits35 (d : Nat) (h : List UInt8) (hl : h.length = 32) : Try.prog.keyLits (d + 1 + 1) 35 (bys h) = some (h.map fun b => Lit.int .u8 (b.toNat : Int)) := by
  have step : (List.range 32).mapM (fun i => Try.prog.keyLits (d + 1) 5 (((bys h).drop (i * Try.prog.cellsOf 5)).take (Try.prog.cellsOf 5))) = some ((List.range 32).map fun i => [Lit.int .u8 ((h.getD i 0).toNat : Int)]) := by
    refine mapM_all _ _ _ fun i hi => ?_
    have hi' : i < h.length := by rw [hl]; exact List.mem_range.1 hi
    rw [Try.cells5, take_one h i hi']
    unfold Program.keyLits
    rw [Try.underlying5]
    simp [u8_wf]
  unfold Program.keyLits
  rw [Try.underlying35]
  simp only [bys_len, hl, Try.cells35, if_true]
  rw [step]
  have e := flatten_ones h
  rw [hl] at e
  show some (List.flatten _) = _
  rw [e]
theorem keyOf_hash (h : List UInt8) (hl : h.length = 32) : keyOf Try.prog 35 (hv h) = some (.string h) := by
  obtain ⟨d, hd⟩ : ∃ d, Try.prog.types.size + 1 = d + 1 + 1 := ⟨130, by kernel_rfl⟩
  unfold keyOf hv
  rw [Try.underlying35]
  have hf : Value.formed Try.prog 35 (.agg (bys h).toArray) = true := by
    simp [Value.formed, Try.underlying35, Try.cells35, bys_len, hl]
  simp only [Try.key35, hf, Bool.and_self, if_true]
  rw [hd]
  show (Try.prog.keyLits (d + 1 + 1) 35 (bys h)).map _ = _
  rw [keyLits35 d h hl]
  simp [keyBytes_map]
set_option maxRecDepth 100000 in
theorem keyOf_inv {v : Value} {kl : Lit} (hk : keyOf Try.prog 35 v = some kl) : ∃ h : List UInt8, h.length = 32 ∧ v = hv h ∧ kl = .string h := by
  have key : ∃ h : List UInt8, h.length = 32 ∧ v = hv h := by
    have hk0 := hk
    unfold keyOf at hk
    rw [Try.underlying35] at hk
    by_cases hf : (Try.prog.keyType 35 && v.formed Try.prog 35) = true
    · simp only [hf, if_true] at hk
      obtain ⟨ls, hls, _⟩ := Option.map_eq_some_iff.1 hk
      obtain ⟨cs, rfl, hcs⟩ : ∃ cs, v = .agg cs ∧ cs.size = 32 := by
        have hf2 := (Bool.and_eq_true _ _ ▸ hf).2
        unfold Value.formed at hf2
        rw [Try.underlying35] at hf2
        cases v <;> simp_all [Try.cells35]
      obtain ⟨d, hd⟩ : ∃ d, Try.prog.types.size + 1 = d + 1 + 1 := ⟨130, by kernel_rfl⟩
      rw [hd] at hls
      have hls' : Try.prog.keyLits (d + 1 + 1) 35 cs.toList = some ls := hls
      unfold Program.keyLits at hls'
      rw [Try.underlying35] at hls'
      simp only [Array.length_toList, hcs, Try.cells35, if_true] at hls'
      obtain ⟨xs, hxs, _⟩ := Option.map_eq_some_iff.1 hls'
      have each : ∀ i, i < 32 → ∃ b : UInt8, cs.toList[i]? = some (.int .u8 (b.toNat : Int)) := by
        intro i hi
        obtain ⟨y, hy⟩ := mapM_some _ _ _ hxs i (List.mem_range.2 hi)
        rw [Try.cells5, Nat.mul_one] at hy
        obtain ⟨n, hn, _⟩ := keyLits_int' Try.underlying5 hy
        have hw := hy
        rw [hn] at hw
        unfold Program.keyLits at hw
        rw [Try.underlying5] at hw
        simp at hw
        obtain ⟨h0, h1⟩ := u8_in hw.1
        refine ⟨UInt8.ofNat n.toNat, ?_⟩
        rw [one_at hn]
        have : ((UInt8.ofNat n.toNat).toNat : Int) = n := by simp; omega
        rw [this]
      refine ⟨cs.toList.map (fun | .int _ n => UInt8.ofNat n.toNat | _ => 0), by simp [hcs], ?_⟩
      unfold hv
      congr 1
      apply Array.ext'
      apply List.ext_getElem?
      intro i
      rcases Nat.lt_or_ge i 32 with hi | hi
      · obtain ⟨b, hb⟩ := each i hi
        have hb' : cs[i]? = some (.int .u8 (b.toNat : Int)) := by simpa using hb
        simp [bys, hb']
      · rw [List.getElem?_eq_none (by simp [hcs]; omega), List.getElem?_eq_none (by simp [bys, hcs]; omega)]
    · simp [hf] at hk
  obtain ⟨h, hl, rfl⟩ := key
  rw [keyOf_hash h hl] at hk
  cases hk
  exact ⟨h, hl, rfl, rfl⟩

/-- An element as it lies. -/
def rawE (v : Value) : Option (DataW Value × List MemPlace) := some (.held v, [])

/-- Block b is a map that holds just these, by their sums. -/
structure Mp (w : World) (b : Nat) (m : List (List UInt8 × Value)) : Prop where
  raw : ∃ D : DataW Value, w.ownsMap Try.prog 35 rawE b m.length D ∧ Maps.size D = m.length ∧ (∀ h, Maps.has D (.string h) = decide (h ∈ m.map (·.1))) ∧ ∀ p ∈ m, ∀ z, D.atKey (.string p.1) z = .held p.2
  len : ∀ p ∈ m, p.1.length = 32
  apart : (m.map (·.1)).Nodup

theorem Mp.made (w : World) : Mp (w.alloc (.map #[] 0)) w.heap.size [] :=
  ⟨⟨.map [], World.ownsMap_made _ _ _ _, rfl, fun h => by simp [Maps.has], by simp⟩, by simp, by simp⟩
theorem Mp.lt {w : World} {b : Nat} {m : List (List UInt8 × Value)} (h : Mp w b m) : b < w.heap.size := by
  obtain ⟨D, ho, _⟩ := h.raw
  exact ho.lt
theorem Mp.kept {w w' : World} {b : Nat} {m : List (List UInt8 × Value)} {row : Option Nat} (h : Mp w b m) (hg : w.grownBy w' row) (hne : some b ≠ row) : Mp w' b m := by
  obtain ⟨D, ho, r⟩ := h.raw
  exact ⟨⟨D, ho.kept hg hne, r⟩, h.len, h.apart⟩
theorem Mp.notCell {w : World} {b o : Nat} {v : Value} {m : List (List UInt8 × Value)} (h : Mp w b m) (hc : w.cell? ⟨b, o, none⟩ = some v) : False := by
  obtain ⟨D, ⟨es, clock, hb, _⟩, _⟩ := h.raw
  simp [World.cell?, hb] at hc

/-- What stands there by a sum. -/
def findV (m : List (List UInt8 × Value)) (h : List UInt8) (z : Value) : Value := ((m.find? (·.1 == h)).map (·.2)).getD z
theorem findV_in {m : List (List UInt8 × Value)} {h : List UInt8} (hm : h ∈ m.map (·.1)) : ∃ v, (h, v) ∈ m ∧ ∀ z, findV m h z = v := by
  obtain ⟨p, hp, rfl⟩ := List.mem_map.1 hm
  have : (m.find? (·.1 == p.1)).isSome := by rw [List.find?_isSome]; exact ⟨p, hp, by simp⟩
  obtain ⟨q, hq⟩ := Option.isSome_iff_exists.1 this
  have h1 := List.mem_of_find?_eq_some hq
  have h2 := List.find?_some hq
  have h3 : q.1 = p.1 := by simpa using h2
  refine ⟨q.2, ?_, fun z => by simp [findV, hq]⟩
  rw [← h3]; exact h1
theorem findV_out {m : List (List UInt8 × Value)} {h : List UInt8} (hm : h ∉ m.map (·.1)) (z : Value) : findV m h z = z := by
  have : m.find? (·.1 == h) = none := by
    rw [List.find?_eq_none]
    intro p hp
    simp
    rintro rfl
    exact hm (List.mem_map.2 ⟨p, hp, rfl⟩)
  simp [findV, this]

section
variable {w : World} {b : Nat} {m : List (List UInt8 × Value)}
/-- What comes of asking. -/
theorem Mp.look (H : Mp w b m) {t e : TypeId} (ht : Try.prog.underlying t = some (.map 35 e)) {z : Value} (hz : (zeroValue e).run Try.prog w = .ok z w) (h : List UInt8) (hl : h.length = 32) :
    (Instr.lookup t (.map (some b)) (hv h) true).run Try.prog w = .ok (.tuple #[findV m h z, .bool (decide (h ∈ m.map (·.1)))]) w := by
  obtain ⟨D, ho, _, hhas, hat⟩ := H.raw
  obtain ⟨v, ps, hrun, hv'⟩ := ho.look_ok law ht hz (zd := .held z) (zp := []) rfl (keyOf_hash h hl)
  rw [hrun, hhas h]
  have e1 : DataW.held v = D.atKey (.string h) (.held z) := by
    have := Option.some.inj hv'
    exact congrArg Prod.fst this
  have e2 : v = findV m h z := by
    by_cases hm : h ∈ m.map (·.1)
    · obtain ⟨v', hin, hf⟩ := findV_in hm
      rw [hat _ hin] at e1
      rw [hf]
      exact DataW.held.inj e1
    · have hh : Maps.has D (.string h) = false := by rw [hhas]; simpa using hm
      rw [Maps.atKey_of_not_has hh] at e1
      rw [findV_out hm]
      exact DataW.held.inj e1
  rw [e2]
theorem Mp.look1 (H : Mp w b m) {t e : TypeId} (ht : Try.prog.underlying t = some (.map 35 e)) {z : Value} (hz : (zeroValue e).run Try.prog w = .ok z w) (h : List UInt8) (hl : h.length = 32) :
    (Instr.lookup t (.map (some b)) (hv h) false).run Try.prog w = .ok (findV m h z) w := by
  obtain ⟨D, ho, _, hhas, hat⟩ := H.raw
  obtain ⟨v, ps, hrun, hv'⟩ := ho.lookup law ht hz (zd := .held z) (zp := []) rfl (keyOf_hash h hl)
  rw [hrun]
  have e1 : DataW.held v = D.atKey (.string h) (.held z) := by
    have := Option.some.inj hv'
    exact congrArg Prod.fst this
  have e2 : v = findV m h z := by
    by_cases hm : h ∈ m.map (·.1)
    · obtain ⟨v', hin, hf⟩ := findV_in hm
      rw [hat _ hin] at e1
      rw [hf]
      exact DataW.held.inj e1
    · have hh : Maps.has D (.string h) = false := by rw [hhas]; simpa using hm
      rw [Maps.atKey_of_not_has hh] at e1
      rw [findV_out hm]
      exact DataW.held.inj e1
  rw [e2]
theorem Mp.size (H : Mp w b m) {t e : TypeId} (ht : Try.prog.underlying t = some (.map 35 e)) (ty : TypeId) : (Builtin.len_ #[t] ty #[.map (some b)]).run Try.prog w = .ok (.int .i64 (m.length : Int)) w := by
  obtain ⟨D, ho, hs, _⟩ := H.raw
  rw [ho.len ht ty, hs]
/-- What is put anew. -/
theorem Mp.put (H : Mp w b m) {t e : TypeId} (ht : Try.prog.underlying t = some (.map 35 e)) (hn : m.length < 1000000) (h : List UInt8) (hl : h.length = 32) (hm : h ∉ m.map (·.1)) (v : Value) :
    ∃ w', (Instr.mapUpdate t (.map (some b)) (hv h) v).run Try.prog w = .ok () w' ∧ Mp w' b ((h, v) :: m) ∧ w.grownBy w' (some b) ∧ w'.heap.size = w.heap.size := by
  obtain ⟨D, ho, hs, hhas, hat⟩ := H.raw
  obtain ⟨w', hrun, ho', hturn⟩ := ho.store law ht (by unfold maxLen; omega) (val := v) (d := .held v) (ps := []) (keyOf_hash h hl) rfl
  have hno : Maps.has D (.string h) = false := by rw [hhas]; simpa using hm
  refine ⟨w', hrun, ⟨⟨_, ho', ?_, ?_, ?_⟩, ?_, ?_⟩, hturn.grown, ?_⟩
  · rw [Maps.size_put (ho.tidy law), hno, hs]; simp
  · intro h'
    by_cases he : h' = h
    · subst he
      rw [Maps.has_put_same (k := .string h') ho.isMap trivial]; simp
    · rw [Maps.has_put_other (by simpa using he), hhas]
      simp [he]
  · intro p hp z
    rcases List.mem_cons.1 hp with rfl | hp
    · exact Maps.atKey_put_same (k := .string h) ho.isMap trivial _ _
    · rw [Maps.atKey_put_other, hat p hp]
      intro e
      apply hm
      have : p.1 = h := by simpa using e
      rw [← this]; exact List.mem_map.2 ⟨p, hp, rfl⟩
  · intro p hp
    rcases List.mem_cons.1 hp with rfl | hp
    · exact hl
    · exact H.len p hp
  · rw [List.map_cons, List.nodup_cons]; exact ⟨hm, H.apart⟩
  · obtain ⟨es, clock, es', clock', _, rfl⟩ := hturn
    simp [ChangeMaps.setBlock]
end
end Go.Proofs.Ytjnogpcpekheoaa
