/-
  MerkleChecks, where what came in is too great.
-/
import Derived.Test.YtfkibbpekngciaaQChCk3
namespace Go.Proofs.Ytfkibbpekngciaa
open Go.RowKit

set_option maxHeartbeats 4000000 in
set_option maxRecDepth 20000 in
theorem checks_told (F : Bys → Bys) (E : Env2 F) (w : World) (v : Value) (L : List Bys) (hL : Ls w v L) (hl : L.length ≤ 9223372036854775807) (hE : ∀ b ∈ L, b.length ≤ 9223372036854775807) (i tn pi pn : Int) (ab ap : Option Addr) (lb cb lp cpp : Nat) (r : Bys)
    (hc : fewB L = false ∨ 100 < lb ∨ 70 < lp) :
    Calls Try.prog 4 #[v, .int .i64 i, .slice ab lb cb, .agg #[.int .i64 pi, .int .i64 pn, .slice ap lp cpp], .int .i64 tn, .agg (bys r).toArray] w fun ev w' => ev = .returned (.bool true) ∧ Below w.heap.size w w' := by
  obtain ⟨W, hW⟩ : ∃ W, W = (w.alloc (.cells #[.int .i64 pi, .int .i64 pn, .slice ap lp cpp] 30)).alloc (.cells (bys r).toArray 26) := ⟨_, rfl⟩
  have hA : Below w.heap.size w W := by
    rw [hW]; exact ((Below.refl w.heap.size w).alloc (Nat.le_refl _) _).alloc (by simp) _
  have RP : Row W w.heap.size 30 [.int .i64 pi, .int .i64 pn, .slice ap lp cpp] := by
    rw [hW]; exact (Row.new w 30 _).below ((Below.refl _ _).alloc (Nat.le_refl _) _) (by simp)
  have HF := few_any W v L (hL.below hA) hl hE
  have c2 : W.cell? ⟨w.heap.size, 2, none⟩ = some (.slice ap lp cpp) := RP.cell 2
  obtain ⟨av, cv, rfl⟩ := hL.slice
  have HT : Hid (∀ y, Calls Try.prog 10 #[] y fun ev w' => ev = .returned (.bool true) ∧ Below y.heap.size y w') := fun y => told_any F E y
  have HA : Hid (Below w.heap.size w W) := hA
  have AW : Aside (W = (w.alloc (.cells #[.int .i64 pi, .int .i64 pn, .slice ap lp cpp] 30)).alloc (.cells (bys r).toArray 26)) := hW
  clear hL hA RP hW
  generalize (bys r).toArray = Y at *
  by_cases hf : fewB L = true
  · rw [hf] at HF
    have hc' : (100 : Int) < (lb : Int) ∨ (¬ (100 : Int) < (lb : Int) ∧ (70 : Int) < (lp : Int)) := by
      rcases hc with hc | hc | hc
      · rw [hf] at hc; cases hc
      · omega
      · omega
    clear hc hf
    rcases hc' with h1 | ⟨h1, h2⟩
    · go_enter Try.func4, Try.ntmps4
      go_wp2_with fail
      refine Calls_at_world AW.out ?_
      refine HF.mono ?_
      rintro ev w1 ⟨rfl, rfl⟩
      go_wp2_with (first | (go_at_call 10; refine (HT.out _).mono ?_; rintro ev w2 ⟨rfl, hb2⟩))
      go_ret
      exact ⟨rfl, nextB HA.out hb2⟩
    · go_enter Try.func4, Try.ntmps4
      go_wp2_with fail
      refine Calls_at_world AW.out ?_
      refine HF.mono ?_
      rintro ev w1 ⟨rfl, rfl⟩
      go_wp2_with (first | (go_at_call 10; refine (HT.out _).mono ?_; rintro ev w2 ⟨rfl, hb2⟩))
      go_ret
      exact ⟨rfl, nextB HA.out hb2⟩
  · rw [show fewB L = false by simpa using hf] at HF
    clear hc hf
    go_enter Try.func4, Try.ntmps4
    go_wp2_with fail
    refine Calls_at_world AW.out ?_
    refine HF.mono ?_
    rintro ev w1 ⟨rfl, rfl⟩
    go_wp2_with (first | (go_at_call 10; refine (HT.out _).mono ?_; rintro ev w2 ⟨rfl, hb2⟩))
    go_ret
    exact ⟨rfl, nextB HA.out hb2⟩
end Go.Proofs.Ytfkibbpekngciaa
