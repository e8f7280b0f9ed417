/-
  Same: of two lists of the same tokens.
-/
import Derived.Test.YtdnjcajbmibjiaaDoorTol
namespace Go.Proofs.YtdnjcajbmibjiaaDoor
open Go.RowKit

/-- The three cells of a token at a place. -/
theorem Ts.three {w : World} {b cap n : Nat} {T : List Tok} (h : Ts w (.slice (some ⟨b, 0, none⟩) n cap) T) (i : Nat) (t : Tok) (ht : T[i]? = some t) :
    w.cell? ⟨b, i * 3, none⟩ = some (.int .i64 (t.kind : Int)) ∧ w.cell? ⟨b, i * 3 + 1, none⟩ = some (.string (str t.text)) ∧ w.cell? ⟨b, i * 3 + 2, none⟩ = some (.int .i64 (t.place : Int)) :=
  ⟨h.cellAt i 0 _ (by rw [tvs_get T i 0 (by omega), ht]; rfl), h.cellAt i 1 _ (by rw [tvs_get T i 1 (by omega), ht]; rfl), h.cellAt i 2 _ (by rw [tvs_get T i 2 (by omega), ht]; rfl)⟩
theorem Ts.slice {w : World} {v : Value} {T : List Tok} (h : Ts w v T) : ∃ ao cap, v = .slice ao T.length cap := by
  rcases h.shape with ⟨cap, rfl, rfl⟩ | ⟨b', cap', e, h1, hr⟩
  · exact ⟨_, _, rfl⟩
  · exact ⟨_, _, e⟩
theorem Ts.addr {w : World} {ao : Option Addr} {cap n : Nat} {T : List Tok} (h : Ts w (.slice ao n cap) T) (h1 : 1 ≤ T.length) : ∃ b, ao = some ⟨b, 0, none⟩ ∧ T.length ≤ cap := by
  rcases h.shape with ⟨cap, _, rfl⟩ | ⟨b', cap', e, h2, hr⟩
  · simp at h1
  · cases e; exact ⟨b', rfl, h2⟩
theorem tok_at (T : List Tok) (i : Nat) (h : i < T.length) : ∃ t, T[i]? = some t := ⟨T[i], by rw [List.getElem?_eq_getElem h]⟩

set_option maxHeartbeats 4000000 in
set_option maxRecDepth 20000 in
theorem same_yes (w : World) (u v : Value) (T : List Tok) (h1 : Ts w u T) (h2 : Ts w v T) (hT : T.length ≤ 9223372036854775807) :
    Calls Tryd.prog 15 #[u, v] w fun ev w' => ev = .returned (.bool true) ∧ Below w.heap.size w w' := by
  obtain ⟨a1, c1, rfl⟩ := h1.slice
  obtain ⟨a2, c2, rfl⟩ := h2.slice
  have HF : Hid (∀ y, Below w.heap.size w y → Ts y (.slice a1 T.length c1) T ∧ Ts y (.slice a2 T.length c2) T) := fun y hy => ⟨h1.below hy, h2.below hy⟩
  have HT : Hid (∀ k, k < T.length → ∃ t, T[k]? = some t) := fun k hk => tok_at T k hk
  clear h1 h2
  obtain ⟨n, hn⟩ : ∃ n, n = T.length := ⟨_, rfl⟩
  have HN : Hid (n = T.length) := hn
  rw [← hn] at HF HT hT ⊢
  clear hn
  go_enter Tryd.func15, Tryd.ntmps15
  go_wp2_with fail
  go_loopw [5] (fun t wr => ∃ k : Nat, k ≤ n ∧ t = .int .i64 (k : Int) ∧ Below w.heap.size w wr) (fun t _ => n - (intOf t).toNat)
  case atStart => exact ⟨0, by omega, rfl, Below.refl _ _⟩
  case round =>
    obtain ⟨k, hk, rfl, hb⟩ := hrel
    have HB : Hid (Below w.heap.size w wr) := hb
    by_cases hk3 : k < n
    · have l1 : (k : Int) < (n : Int) := by omega
      have l0 : (0 : Int) ≤ (k : Int) := by omega
      obtain ⟨p1, p2⟩ := HF.out wr hb
      obtain ⟨b1, rfl, -⟩ := p1.addr (by rw [← HN.out]; omega)
      obtain ⟨b2, rfl, -⟩ := p2.addr (by rw [← HN.out]; omega)
      obtain ⟨t, ht⟩ := HT.out k hk3
      obtain ⟨x0, x1, x2⟩ := p1.three k t ht
      obtain ⟨y0, y1, y2⟩ := p2.three k t ht
      clear p1 p2 ht hb HF HT
      generalize str t.text = S at *
      generalize t.kind = tk at *
      generalize t.place = tp at *
      go_wp2_with fail
      go_quiet (fail)
      go_wp2_with fail
      go_roundw
      case rel => exact ⟨k + 1, by omega, by go_num, below_drewN HB.out _⟩
      case measure => simp [intOf]; omega
    · obtain rfl : k = n := by omega
      clear hb HF HT
      go_wp2_with fail
      go_ret
      exact ⟨rfl, HB.out⟩
end Go.Proofs.YtdnjcajbmibjiaaDoor
