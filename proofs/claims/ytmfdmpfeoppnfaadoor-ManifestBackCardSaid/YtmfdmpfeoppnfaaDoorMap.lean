/-
  Maps by texts, as lists of what they hold.
-/
import Derived.Test.YtmfdmpfeoppnfaaDoorPar
import Derived.DeepKeys4
import Derived.Maps.RangeWalk
import Derived.Maps.OwnSet
namespace Go.Proofs.YtmfdmpfeoppnfaaDoor
open Go.RowKit Go.Maps

theorem law : Keyed Tryd.prog 9 := string_keyed Tryd.underlying9
theorem keyOf_str (h : List UInt8) (hl : h.length ≤ 140737488355328) : keyOf Tryd.prog 9 (.string (str h)) = some (.string h) := by
  rw [keyOf_string Tryd.underlying9]
  have hs := str_size h
  simp [mapKey, Tryd.underlying9]
  exact ⟨by rw [hs]; unfold maxLen; omega, str_list h⟩
/-- An element as it lies. -/
def rawE (v : Value) : Option (DataW Value × List MemPlace) := some (.held v, [])

/-- Block b is a map that holds just these, by their texts. -/
structure Mp (w : World) (b : Nat) (m : List (List UInt8 × Value)) : Prop where
  raw : ∃ D : DataW Value, w.ownsMap Tryd.prog 9 rawE b m.length D ∧ Maps.size D = m.length ∧ (∀ h, Maps.has D (.string h) = decide (h ∈ m.map (·.1))) ∧ ∀ p ∈ m, ∀ z, D.atKey (.string p.1) z = .held p.2
  apart : (m.map (·.1)).Nodup

theorem Mp.made (w : World) : Mp (w.alloc (.map #[] 0)) w.heap.size [] :=
  ⟨⟨.map [], World.ownsMap_made _ _ _ _, rfl, fun h => by simp [Maps.has], by simp⟩, by simp⟩
theorem Mp.lt {w : World} {b : Nat} {m : List (List UInt8 × Value)} (h : Mp w b m) : b < w.heap.size := by
  obtain ⟨D, ho, _⟩ := h.raw
  exact ho.lt
theorem Mp.kept {w w' : World} {b : Nat} {m : List (List UInt8 × Value)} {row : Option Nat} (h : Mp w b m) (hg : w.grownBy w' row) (hne : some b ≠ row) : Mp w' b m := by
  obtain ⟨D, ho, r⟩ := h.raw
  exact ⟨⟨D, ho.kept hg hne, r⟩, h.apart⟩
theorem Mp.notCell {w : World} {b o : Nat} {v : Value} {m : List (List UInt8 × Value)} (h : Mp w b m) (hc : w.cell? ⟨b, o, none⟩ = some v) : False := by
  obtain ⟨D, ⟨es, clock, hb, _⟩, _⟩ := h.raw
  simp [World.cell?, hb] at hc

/-- What stands there by a text. -/
def findV (m : List (List UInt8 × Value)) (h : List UInt8) (z : Value) : Value := ((m.find? (·.1 == h)).map (·.2)).getD z
theorem findV_in {m : List (List UInt8 × Value)} {h : List UInt8} (hm : h ∈ m.map (·.1)) : ∃ v, (h, v) ∈ m ∧ ∀ z, findV m h z = v := by
  obtain ⟨p, hp, rfl⟩ := List.mem_map.1 hm
  have : (m.find? (·.1 == p.1)).isSome := by rw [List.find?_isSome]; exact ⟨p, hp, by simp⟩
  obtain ⟨q, hq⟩ := Option.isSome_iff_exists.1 this
  have h1 := List.mem_of_find?_eq_some hq
  have h2 := List.find?_some hq
  have h3 : q.1 = p.1 := by simpa using h2
  refine ⟨q.2, ?_, fun z => by simp [findV, hq]⟩
  rw [← h3]; exact h1
theorem findV_out {m : List (List UInt8 × Value)} {h : List UInt8} (hm : h ∉ m.map (·.1)) (z : Value) : findV m h z = z := by
  have : m.find? (·.1 == h) = none := by
    rw [List.find?_eq_none]
    intro p hp
    simp
    rintro rfl
    exact hm (List.mem_map.2 ⟨p, hp, rfl⟩)
  simp [findV, this]

section
variable {w : World} {b : Nat} {m : List (List UInt8 × Value)}
/-- What comes of asking. -/
theorem Mp.look (H : Mp w b m) {t e : TypeId} (ht : Tryd.prog.underlying t = some (.map 9 e)) {z : Value} (hz : (zeroValue e).run Tryd.prog w = .ok z w) (h : List UInt8) (hl : h.length ≤ 140737488355328) :
    (Instr.lookup t (.map (some b)) (.string (str h)) true).run Tryd.prog w = .ok (.tuple #[findV m h z, .bool (decide (h ∈ m.map (·.1)))]) w := by
  obtain ⟨D, ho, _, hhas, hat⟩ := H.raw
  obtain ⟨v, ps, hrun, hv'⟩ := ho.look_ok law ht hz (zd := .held z) (zp := []) rfl (keyOf_str h hl)
  rw [hrun, hhas h]
  have e1 : DataW.held v = D.atKey (.string h) (.held z) := by
    have := Option.some.inj hv'
    exact congrArg Prod.fst this
  have e2 : v = findV m h z := by
    by_cases hm : h ∈ m.map (·.1)
    · obtain ⟨v', hin, hf⟩ := findV_in hm
      rw [hat _ hin] at e1
      rw [hf]
      exact DataW.held.inj e1
    · have hh : Maps.has D (.string h) = false := by rw [hhas]; simpa using hm
      rw [Maps.atKey_of_not_has hh] at e1
      rw [findV_out hm]
      exact DataW.held.inj e1
  rw [e2]
/-- What is put anew. -/
theorem Mp.put (H : Mp w b m) {t e : TypeId} (ht : Tryd.prog.underlying t = some (.map 9 e)) (hn : m.length < 1000000) (h : List UInt8) (hl : h.length ≤ 140737488355328) (hm : h ∉ m.map (·.1)) (v : Value) :
    ∃ w', (Instr.mapUpdate t (.map (some b)) (.string (str h)) v).run Tryd.prog w = .ok () w' ∧ Mp w' b ((h, v) :: m) ∧ w.grownBy w' (some b) ∧ w'.heap.size = w.heap.size := by
  obtain ⟨D, ho, hs, hhas, hat⟩ := H.raw
  obtain ⟨w', hrun, ho', hturn⟩ := ho.store law ht (by unfold maxLen; omega) (val := v) (d := .held v) (ps := []) (keyOf_str h hl) rfl
  have hno : Maps.has D (.string h) = false := by rw [hhas]; simpa using hm
  refine ⟨w', hrun, ⟨⟨_, ho', ?_, ?_, ?_⟩, ?_⟩, hturn.grown, ?_⟩
  · rw [Maps.size_put (ho.tidy law), hno, hs]; simp
  · intro h'
    by_cases he : h' = h
    · subst he
      rw [Maps.has_put_same (k := .string h') ho.isMap trivial]; simp
    · rw [Maps.has_put_other (by simpa using he), hhas]
      simp [he]
  · intro p hp z
    rcases List.mem_cons.1 hp with rfl | hp
    · exact Maps.atKey_put_same (k := .string h) ho.isMap trivial _ _
    · rw [Maps.atKey_put_other, hat p hp]
      intro e
      apply hm
      have : p.1 = h := by simpa using e
      rw [← this]; exact List.mem_map.2 ⟨p, hp, rfl⟩
  · rw [List.map_cons, List.nodup_cons]; exact ⟨hm, H.apart⟩
  · obtain ⟨es, clock, es', clock', _, rfl⟩ := hturn
    simp [ChangeMaps.setBlock]
end
end Go.Proofs.YtmfdmpfeoppnfaaDoor
