/-
  The document's own Hex.
-/
import Derived.Test.YtnfiecafkapgmaaHex
namespace Go.Proofs.Ytnfiecafkapgmaa
open Go.RowKit

theorem str_app (l m : List UInt8) : str l ++ str m = str (l ++ m) := by
  apply ByteArray.ext
  simp [str]
theorem dig_cut (n : Nat) (h : n < 16) : digits.extract n (n + 1) = str [dig n] := by
  have : n = 0 ∨ n = 1 ∨ n = 2 ∨ n = 3 ∨ n = 4 ∨ n = 5 ∨ n = 6 ∨ n = 7 ∨ n = 8 ∨ n = 9 ∨ n = 10 ∨ n = 11 ∨ n = 12 ∨ n = 13 ∨ n = 14 ∨ n = 15 := by omega
  rcases this with rfl | rfl | rfl | rfl | rfl | rfl | rfl | rfl | rfl | rfl | rfl | rfl | rfl | rfl | rfl | rfl <;> rfl

/-- Where the document's Hex stands. -/
structure XRel (w : World) (h : List UInt8) (wr : World) : Prop where
  row : Row wr w.heap.size 25 (bys h)
  below : Below w.heap.size w wr
theorem XRel.drewN {w wr : World} {h : List UInt8} (hx : XRel w h wr) (n : Nat) : XRel w h (wr.drewN n) := ⟨hx.row.drewN, ⟨hx.below.os, hx.below.tape, hx.below.output, hx.below.size, hx.below.block⟩⟩

attribute [local go_sem ↓] Go.wp_at_zero Go.wp_at_succ
set_option maxHeartbeats 4000000 in
set_option maxRecDepth 20000 in
theorem xhex_any (w : World) (h : List UInt8) (hl : h.length = 32) :
    Calls Try.prog 10 #[.agg (bys h).toArray] w fun ev w' => ev = .returned (.string (str (hexF h))) ∧ Below w.heap.size w w' := by
  have HI : Hid (XRel w h (w.alloc (.cells (bys h).toArray 25))) := ⟨Row.new w 25 (bys h), (Below.refl _ _).alloc (Nat.le_refl _) _⟩
  generalize (bys h).toArray = Y at *
  go_enter Try.func10, Try.ntmps10
  go_wp2_with fail
  go_loopw [3, 4] (fun v i wr => ∃ k : Nat, k ≤ 32 ∧ i = .int .i64 k ∧ v = .string (str (hexF (h.take k))) ∧ XRel w h wr) (fun _ i _ => 32 - (intOf i).toNat)
  case atStart => exact ⟨0, by omega, rfl, rfl, HI.out⟩
  case round =>
    obtain ⟨k, hk, rfl, rfl, hX⟩ := hrel
    clear HI
    by_cases hk3 : k < 32
    · have q0 : wr.cell? ⟨w.heap.size, k, none⟩ = some (.int .u8 ((h.getD k 0).toNat : Int)) := by rw [hX.row.cell k, bys_get h k (by omega)]
      have HT : Hid (hexF (h.take (k + 1)) = hexF (h.take k) ++ hexB (h.getD k 0)) := hexF_take h k (by omega)
      have hx := (h.getD k 0).toNat_lt
      have hB : hexB (h.getD k 0) = [dig ((h.getD k 0).toNat / 16), dig ((h.getD k 0).toNat % 16)] := rfl
      have hs : (str (hexF (h.take k))).size ≤ 64 := by rw [str_size, hexF_len]; simp; omega
      have HA : Hid (str (hexF (h.take k)) ++ str [dig ((h.getD k 0).toNat / 16)] ++ str [dig ((h.getD k 0).toNat % 16)] = str (hexF (h.take (k + 1)))) := by show _ = _; rw [HT.out, hB, str_app, str_app, List.append_assoc]; rfl
      have c1 := dig_cut ((h.getD k 0).toNat / 16) (by omega)
      have c2 := dig_cut ((h.getD k 0).toNat % 16) (by omega)
      unfold digits at c1 c2
      have z1 : (str [dig ((h.getD k 0).toNat / 16)]).size = 1 := str_size _
      have z2 : (str [dig ((h.getD k 0).toNat % 16)]).size = 1 := str_size _
      clear hB HT
      have HX : Hid (XRel w h wr) := hX
      clear hX
      generalize str [dig ((h.getD k 0).toNat / 16)] = D1 at *
      generalize str [dig ((h.getD k 0).toNat % 16)] = D2 at *
      generalize str (hexF (h.take k)) = F at *
      generalize (h.getD k 0).toNat = x at *
      have l1 : (k : Int) < 32 := by omega
      go_wp2_with fail
      go_quiet (fail)
      go_wp2_with fail
      go_roundw
      case rel => exact ⟨k + 1, by omega, by go_num, by rw [HA.out], HX.out.drewN _⟩
      case measure => simp [intOf]; omega
    · have hb := hX.below
      obtain rfl : k = 32 := by omega
      have ht : h.take 32 = h := by rw [← hl]; exact List.take_length
      rw [ht]
      clear hX ht
      go_wp2_with fail
      go_ret
      exact ⟨rfl, hb⟩
end Go.Proofs.Ytnfiecafkapgmaa
