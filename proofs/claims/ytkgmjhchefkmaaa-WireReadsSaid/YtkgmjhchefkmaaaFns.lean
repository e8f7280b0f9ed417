/-
  What a reading took, written again, are the bytes that it went through.
-/
import Derived.Test.YtkgmjhchefkmaaaWbk
namespace Go.Proofs.Ytkgmjhchefkmaaa
open Go.RowKit

/-- A slice of bytes that came in. -/
structure By (w : World) (v : Value) (l : List UInt8) : Prop where
  shape : (∃ ao cap, v = .slice ao 0 cap ∧ l = [] ∧ (ao = none → cap = 0)) ∨ ∃ b o cap, v = .slice (some ⟨b, o, none⟩) l.length cap ∧ l.length ≤ cap ∧ cap ≤ 9223372036854775807 ∧ ∀ i, i < l.length → w.cell? ⟨b, o + i, none⟩ = some (.int .u8 ((l.getD i 0).toNat : Int))

/-- What the reading of a thing, written again, comes to. -/
structure Fin (l m : List UInt8) (p q c : Nat) : Prop where
  took : c = 0 → p < q ∧ q ≤ l.length ∧ m = (l.drop p).take (q - p)
  left : c ≠ 0 → q = p
  short : m.length ≤ 100000

theorem fin_uint (l : List UInt8) (p : Nat) (hp : p ≤ l.length) : Fin l (enc (scan 0 0 (l.drop p)).1) p (p + (scan 0 0 (l.drop p)).2.1) (scan 0 0 (l.drop p)).2.2 := by
  obtain ⟨V, n, c, hS⟩ : ∃ V n c, scan 0 0 (l.drop p) = (V, n, c) := ⟨_, _, _, rfl⟩
  have hb := scan_lt hS
  rw [hS]
  refine ⟨fun hc => ?_, fun hc => ?_, ?_⟩
  · have hc' : c = 0 := hc
    subst hc'
    obtain ⟨h1, h2, h3, _⟩ := enc_of_scan hS
    rw [List.length_drop] at h3
    refine ⟨by show p < p + n; omega, by show p + n ≤ _; omega, ?_⟩
    show enc V = (l.drop p).take (p + n - p)
    rw [show p + n - p = n by omega, h1]
  · have := hb.2.2.resolve_left hc
    show p + n = p
    omega
  · have := enc_len_10 hb.1
    show (enc V).length ≤ _
    omega
theorem fin_int (l : List UInt8) (p : Nat) (hp : p ≤ l.length) : Fin l (enc (zig (zag (scan 0 0 (l.drop p)).1))) p (p + (scan 0 0 (l.drop p)).2.1) (scan 0 0 (l.drop p)).2.2 := by
  rw [zig_zag]; exact fin_uint l p hp
theorem fin_bool (l : List UInt8) (p : Nat) : Fin l [if (rbool l p).1 then 1 else 0] p (rbool l p).2.1 (rbool l p).2.2 := by
  unfold rbool
  split
  · exact ⟨fun h => absurd h (by simp), fun _ => rfl, by simp⟩
  · split
    · exact ⟨fun h => absurd h (by simp), fun _ => rfl, by simp⟩
    · rename_i h1 h2
      refine ⟨fun _ => ⟨by show p < p + 1; omega, by show p + 1 ≤ _; omega, ?_⟩, fun h => absurd rfl h, by simp⟩
      show [if decide ((l.getD p 0).toNat = 1) = true then 1 else 0] = (l.drop p).take (p + 1 - p)
      rw [show p + 1 - p = 1 by omega, List.drop_eq_getElem_cons (by omega), List.take_succ_cons, List.take_zero]
      have hq : l.getD p 0 = l[p] := by simp [List.getD, List.getElem?_eq_getElem (show p < l.length by omega)]
      rw [hq] at h2 ⊢
      congr 1
      by_cases h : (l[p]).toNat = 1
      · rw [if_pos (by simp [h])]
        exact UInt8.toNat_inj.1 (by rw [h]; rfl)
      · rw [if_neg (by simpa using h)]
        exact UInt8.toNat_inj.1 (by show 0 = _; omega)
theorem fin_text (l : List UInt8) (p : Nat) (most : Int) (hp : p ≤ l.length) (hl : l.length ≤ 2000) : Fin l (enc (rtext l p most).1.length ++ (rtext l p most).1) p (rtext l p most).2.1 (rtext l p most).2.2 ∧ (rtext l p most).1.length ≤ 2000 := by
  obtain ⟨V, n, c, hS⟩ : ∃ V n c, scan 0 0 (l.drop p) = (V, n, c) := ⟨_, _, _, rfl⟩
  unfold rtext
  rw [hS]
  have e0 : (enc ([] : List UInt8).length ++ []).length ≤ 100000 := by rw [List.append_nil]; have := enc_len_10 (v := ([] : List UInt8).length) (by simp); omega
  split
  · rename_i h
    exact ⟨⟨fun hc => absurd hc h, fun _ => rfl, e0⟩, by simp⟩
  · rename_i h
    have hc : c = 0 := by simpa using h
    subst hc
    split
    · exact ⟨⟨fun h => absurd h (by simp), fun _ => rfl, e0⟩, by simp⟩
    · split
      · exact ⟨⟨fun h => absurd h (by simp), fun _ => rfl, e0⟩, by simp⟩
      · rename_i _ h3
        have h3' : ¬ l.length - p - n < V := h3
        obtain ⟨h1, h2, h4, _⟩ := enc_of_scan hS
        rw [List.length_drop] at h4
        have hT : ((l.drop (p + n)).take V).length = V := by simp; omega
        show Fin l (enc ((l.drop (p + n)).take V).length ++ (l.drop (p + n)).take V) p (p + (n + V)) 0 ∧ ((l.drop (p + n)).take V).length ≤ 2000
        rw [hT]
        refine ⟨⟨fun _ => ⟨by omega, by omega, ?_⟩, fun h => absurd rfl h, ?_⟩, by omega⟩
        · rw [show p + (n + V) - p = n + V by omega, ← h1, ← List.drop_drop]
          exact (List.take_add).symm
        · rw [List.length_append, hT]
          have := enc_len_10 (v := V) (by omega)
          omega
theorem fin_hash (l : List UInt8) (p : Nat) : Fin l (rhash l p).1 p (rhash l p).2.1 (rhash l p).2.2 ∧ (rhash l p).1.length = 32 := by
  unfold rhash
  split
  · exact ⟨⟨fun h => absurd h (by simp), fun _ => rfl, by simp⟩, by simp⟩
  · rename_i h
    refine ⟨⟨fun _ => ⟨by show p < p + 32; omega, by show p + 32 ≤ _; omega, ?_⟩, fun h => absurd rfl h, ?_⟩, ?_⟩
    · show (l.drop p).take 32 = (l.drop p).take (p + 32 - p)
      rw [show p + 32 - p = 32 by omega]
    · simp; omega
    · simp; omega
end Go.Proofs.Ytkgmjhchefkmaaa
