/-
  WireSmall answers true, whatever the number and the bound.
-/
import Derived.Test.YtkgmjhchefkmaaaTld
namespace Go.Proofs.Ytkgmjhchefkmaaa
open Go.RowKit

/-- '[]byte(s)': its bytes. -/
theorem sl_string (w : World) (s : ByteArray) (c : Nat) (m : Nat × Nat) : Sl (w.drew.alloc (.cells (bytesRow s c) 5 m)) (.slice (some ⟨w.heap.size, 0, none⟩) s.size c) s.data.toList := by
  refine ⟨.inr ⟨w.heap.size, 0, c, by simp, fun i hi => ?_⟩⟩
  have := cell_string w s c m i _ (bys_get s.data.toList i hi)
  rwa [addr_add] at this
theorem below_string (w : World) (s : ByteArray) (c : Nat) (m : Nat × Nat) : Below w.heap.size w (w.drew.alloc (.cells (bytesRow s c) 5 m)) := ((Below.refl w.heap.size w).drew).alloc (Nat.le_refl _) _

/-- A new Reader of a string's bytes. -/
theorem newReader_string (w : World) (s : ByteArray) (c : Nat) (m : Nat × Nat) (hs : s.size ≤ 1000000000) :
    Calls Try.prog 14 #[.slice (some ⟨w.heap.size, 0, none⟩) s.size c] (w.drew.alloc (.cells (bytesRow s c) 5 m)) fun ev w' => ∃ rb v', ev = .returned (.pointer (some ⟨rb, 0, none⟩)) ∧ Rd w' rb v' s.data.toList 0 ∧ w.heap.size ≤ rb ∧ (∀ k, v'.ownBlock = some k → w.heap.size ≤ k) ∧ Below w.heap.size w w' := by
  refine (newReader_any _ _ _ (sl_string w s c m) (by intro cap e; cases e) (by simp; omega)).mono ?_
  rintro ev w' ⟨rb, v', rfl, hR, h1, h2, hb⟩
  have hz : w.heap.size ≤ (w.drew.alloc (.cells (bytesRow s c) 5 m)).heap.size := (below_string w s c m).size
  exact ⟨rb, v', rfl, hR, by omega, fun k e => Nat.le_trans hz (h2 k e), (below_string w s c m).trans (hb.mono hz)⟩

set_option maxHeartbeats 4000000 in
set_option maxRecDepth 20000 in
theorem small_walk (v : Nat) (most : Int) (w : World) (hv : v < 18446744073709551616) (h1 : -9223372036854775808 ≤ most) (h2 : most ≤ 9223372036854775807) :
    Calls Try.prog 9 #[.int .u64 (v : Int), .int .i64 most] w fun ev w' => ev = .returned (.bool true) ∧ Below w.heap.size w w' := by
  have C1 := refUint_any v w hv
  have hlen := enc_len_10 hv
  have HS : Hid ((str (enc v)).data.toList = enc v) := rfl
  have hz : (str (enc v)).size = (enc v).length := str_size _
  generalize str (enc v) = S at C1 HS hz
  have kc := fun (w : World) (s : ByteArray) => run_bytes_of_string (P := Try.prog) w 9 32 5 s Try.underlying9 Try.underlying32 Try.underlying5
  have HQ : Hid (small (enc v) 0 most = if over v most then (0, 0, 2) else (v, (enc v).length, 0)) := by
    show _ = _
    unfold small
    have := scan_of_enc v hv []
    rw [List.append_nil] at this
    simp [this]
  have hzs : S.size ≤ 1000000000 := by omega
  have HZ : Hid (S.size = (enc v).length) := hz
  clear hz
  go_enter Try.func9, Try.ntmps9
  go_wp2_with fail
  refine C1.mono ?_
  rintro ev w1 ⟨rfl, hb1⟩
  have C2 := fun c m => newReader_string w1 S c m hzs
  clear C1
  go_wp2_with fail
  refine (C2 _ _).mono ?_
  rintro ev w2 ⟨rb, v2, rfl, hR2, hrb, hown2, hb2⟩
  rw [HS.out] at hR2
  have hB2 := hb1.trans (hb2.mono hb1.size)
  have hs1 : w.heap.size ≤ rb := by have := hb1.size; omega
  clear C2 kc hb1 hb2 hrb hown2
  have C3 := rSmall_any w2 rb v2 (enc v) 0 most hR2 h1 h2
  rw [HQ.out] at C3
  by_cases hO : 0 ≤ most ∧ (v : Int) ≤ most
  · obtain ⟨hm0, hmv⟩ := hO
    have ho : over v most = false := by simp [over]; omega
    rw [ho, if_neg (by simp)] at C3
    clear HQ ho
    go_wp2_with fail
    refine C3.mono ?_
    rintro ev w3 ⟨e, rfl, hOut⟩
    have hB3 := hB2.trans (below_grown hOut.grown hB2.size (fun k e => by cases e; exact hs1))
    obtain ⟨-, rfl⟩ : (0 : Nat) = 0 ∧ e = .nilIface := hOut.err.resolve_right (by simp)
    have hR3 : Rd w3 rb v2 (enc v) (enc v).length := hOut.rd
    have C4 := tell_any w3
    clear C3 hOut hR2 hB2
    go_wp2_with fail
    refine C4.mono ?_
    rintro ev w4 ⟨rfl, hb4⟩
    have hR4 := hR3.past hb4
    have hB4 := hB3.trans (hb4.mono hB3.size)
    have C5 := end_any w4 rb v2 _ _ hR4
    rw [show (fun (ev : Ending) (w' : World) => ∃ e, ev = .returned e ∧ (if (enc v).length < (enc v).length then Er w' e 4 (enc v).length else e = .nilIface) ∧ Below w4.heap.size w4 w') = (fun ev w' => ∃ e, ev = .returned e ∧ e = .nilIface ∧ Below w4.heap.size w4 w') by simp] at C5
    clear C4 hR3 hb4 hB3 hR4
    go_wp2_with fail
    refine C5.mono ?_
    rintro ev w5 ⟨e, rfl, rfl, hb5⟩
    have hB5 := hB4.trans (hb5.mono hB4.size)
    go_wp2_with fail
    go_ret
    exact ⟨rfl, hB5⟩
  · have ho : over v most = true := by simp [over]; omega
    rw [ho, if_pos rfl] at C3
    clear HQ ho
    by_cases hm0 : 0 ≤ most
    · have hmv : ¬ (v : Int) ≤ most := fun h => hO ⟨hm0, h⟩
      clear hO
      go_wp2_with fail
      refine C3.mono ?_
      rintro ev w3 ⟨e, rfl, hOut⟩
      have hB3 := hB2.trans (below_grown hOut.grown hB2.size (fun k e => by cases e; exact hs1))
      have hE : Er w3 e 2 0 := (hOut.err.resolve_left (by simp)).2
      obtain ⟨b0, rfl, -⟩ := hE.shape
      have hR3 : Rd w3 rb v2 (enc v) 0 := hOut.rd
      have C4 := tell_any w3
      clear C3 hOut hR2 hB2
      go_wp2_with fail
      refine C4.mono ?_
      rintro ev w4 ⟨rfl, hb4⟩
      have hR4 := hR3.past hb4
      have hB4 := hB3.trans (hb4.mono hB3.size)
      have C5 := is_any w4 _ 2 0 2 0 (.inr (hE.below hb4)) rfl rfl
      clear C4 hR3 hb4 hB3 hE
      go_wp2_with fail
      refine C5.mono ?_
      rintro ev w5 ⟨rfl, hb5⟩
      have hB5 := hB4.trans (hb5.mono hB4.size)
      have C6 := at_any w5 rb v2 _ 0 (hR4.past hb5)
      clear C5 hR4 hb5 hB4
      go_wp2_with fail
      refine C6.mono ?_
      rintro ev w6 ⟨rfl, rfl⟩
      go_wp2_with fail
      go_ret
      exact ⟨rfl, hB5⟩
    · clear hO
      go_wp2_with fail
      refine C3.mono ?_
      rintro ev w3 ⟨e, rfl, hOut⟩
      have hB3 := hB2.trans (below_grown hOut.grown hB2.size (fun k e => by cases e; exact hs1))
      have hE : Er w3 e 2 0 := (hOut.err.resolve_left (by simp)).2
      obtain ⟨b0, rfl, -⟩ := hE.shape
      have hR3 : Rd w3 rb v2 (enc v) 0 := hOut.rd
      have C4 := tell_any w3
      clear C3 hOut hR2 hB2
      go_wp2_with fail
      refine C4.mono ?_
      rintro ev w4 ⟨rfl, hb4⟩
      have hR4 := hR3.past hb4
      have hB4 := hB3.trans (hb4.mono hB3.size)
      have C5 := is_any w4 _ 2 0 2 0 (.inr (hE.below hb4)) rfl rfl
      clear C4 hR3 hb4 hB3 hE
      go_wp2_with fail
      refine C5.mono ?_
      rintro ev w5 ⟨rfl, hb5⟩
      have hB5 := hB4.trans (hb5.mono hB4.size)
      have C6 := at_any w5 rb v2 _ 0 (hR4.past hb5)
      clear C5 hR4 hb5 hB4
      go_wp2_with fail
      refine C6.mono ?_
      rintro ev w6 ⟨rfl, rfl⟩
      go_wp2_with fail
      go_ret
      exact ⟨rfl, hB5⟩
end Go.Proofs.Ytkgmjhchefkmaaa
