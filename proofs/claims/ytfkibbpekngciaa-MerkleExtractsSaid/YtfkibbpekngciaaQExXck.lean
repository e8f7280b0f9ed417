/-
  The document's own Check.
-/
import Derived.Test.YtfkibbpekngciaaQExXme
namespace Go.Proofs.Ytfkibbpekngciaa
open Go.RowKit

/-- What made hands back. -/
theorem made_any (F : Bys → Bys) (E : Env2 F) (w : World) (bv pv : Value) (b : Bys) (i n : Int) (P : List Bys) (hb : Sl w bv b) (hbl : b.length ≤ 1000) (hn : n ≤ 9223372036854775807) (hP : Hs w pv P) :
    Calls Try.prog 32 #[bv, .agg #[.int .i64 i, .int .i64 n, pv]] w fun ev w' => Below w.heap.size w w' ∧ ((¬ Form i n P ∧ ev = .returned (.tuple #[.slice none 0 0, .bool false])) ∨ (Form i n P ∧ ∃ tv, ev = .returned (.tuple #[tv, .bool true]) ∧ Tx w.heap.size tv (texts F b i.toNat n.toNat P) w')) := by
  by_cases h1 : 0 ≤ i ∧ i < n
  · obtain ⟨i', rfl⟩ : ∃ i' : Nat, i = (i' : Int) := ⟨i.toNat, by omega⟩
    obtain ⟨n', rfl⟩ : ∃ n' : Nat, n = (n' : Int) := ⟨n.toNat, by omega⟩
    have e1 : (i' : Int).toNat = i' := by omega
    have e2 : (n' : Int).toNat = n' := by omega
    by_cases h2 : (lefts i' n').length = P.length
    · refine (made_yes F E w bv pv b i' n' P hb hbl (by omega) (by omega) hP h2).mono ?_
      rintro ev w' ⟨tv, rfl, hT, hB⟩
      rw [e1, e2]
      exact ⟨hB, .inr ⟨⟨h1.1, h1.2, by rw [e1, e2]; exact h2⟩, tv, rfl, hT⟩⟩
    · obtain ⟨ao, c, rfl⟩ := hP.slice
      refine (made_no2 w bv i' n' ao _ c (by omega) (by omega) h2).mono ?_
      rintro ev w' ⟨rfl, hB⟩
      exact ⟨hB, .inl ⟨fun h => h2 (by have := h.2.2; rwa [e1, e2] at this), rfl⟩⟩
  · obtain ⟨ao, c, rfl⟩ := hP.slice
    refine (made_no1 w bv i n ao _ c h1).mono ?_
    rintro ev w' ⟨rfl, hB⟩
    exact ⟨hB, .inl ⟨fun h => h1 ⟨h.1, h.2.1⟩, rfl⟩⟩
theorem texts_lastD (F : Bys → Bys) (b : Bys) (i n : Nat) (P : List Bys) : (texts F b i n P).getD ((texts F b i n P).length - 1) [] = lastT (texts F b i n P) := (lastT_get _).symm
theorem check_brief {F : Bys → Bys} (E : Env F) (b : Bys) (i n : Nat) (P : List Bys) : (lastT (texts F b i n P)).length ≤ 1000 := by
  rw [texts_last]
  have := E.len (lastT (climb F (0 :: b) ((lefts i n).zip P)))
  simp [rootT, be8, this]

set_option maxHeartbeats 4000000 in
set_option maxRecDepth 20000 in
theorem xcheck_any (F : Bys → Bys) (E : Env2 F) (w : World) (bv pv : Value) (r b : Bys) (i n : Int) (P : List Bys) (hr : r.length = 32) (hb : Sl w bv b) (hbl : b.length ≤ 1000) (hn : n ≤ 9223372036854775807) (hP : Hs w pv P) :
    Calls Try.prog 18 #[.agg (bys r).toArray, bv, .agg #[.int .i64 i, .int .i64 n, pv]] w fun ev w' => ev = .returned (.bool (chk F r b i n P)) ∧ Below w.heap.size w w' := by
  obtain ⟨ap, cpp, rfl⟩ := hP.slice
  obtain ⟨W, hW⟩ : ∃ W, W = (w.alloc (.cells (bys r).toArray 26)).alloc (.cells #[.int .i64 i, .int .i64 n, .slice ap P.length cpp] 30) := ⟨_, rfl⟩
  have hA : Below w.heap.size w W := by
    rw [hW]; exact ((Below.refl w.heap.size w).alloc (Nat.le_refl _) _).alloc (by simp) _
  have RR : Row W w.heap.size 26 (bys r) := by
    rw [hW]; exact (Row.new w 26 _).below ((Below.refl _ _).alloc (Nat.le_refl _) _) (by simp)
  have R3 : Row ((w.alloc (.cells (bys r).toArray 26)).alloc (.cells #[.int .i64 i, .int .i64 n, .slice ap P.length cpp] 30)) (w.heap.size + 1) 30 [.int .i64 i, .int .i64 n, .slice ap P.length cpp] := by
    have := Row.new (w.alloc (.cells (bys r).toArray 26)) 30 [.int .i64 i, .int .i64 n, .slice ap P.length cpp]
    exact (by simpa using this : Row _ (w.heap.size + 1) _ _)
  have HT := made_any F E W bv _ b i n P (hb.below hA) hbl hn (hP.below hA)
  have AW : Aside (W = (w.alloc (.cells (bys r).toArray 26)).alloc (.cells #[.int .i64 i, .int .i64 n, .slice ap P.length cpp] 30)) := hW
  have hl := check_brief E.toEnv b i.toNat n.toNat P
  have HA : Hid (Below w.heap.size w W) := hA
  have hpos := texts_pos F b i.toNat n.toNat P
  have HC : Hid (Form i n P → chk F r b i n P = (F (lastT (texts F b i.toNat n.toNat P)) == r)) := fun h => by
    show _ = _
    unfold chk check
    simp [h]
  have HC0 : Hid (¬ Form i n P → chk F r b i n P = false) := fun h => by
    show _ = _
    unfold chk
    simp [h]
  have HL9 : Hid (Form i n P → (texts F b i.toNat n.toNat P).length = P.length + 2) := fun h => texts_len F b _ _ P h.2.2
  have HP9 : Hid (Form i n P → P.length ≤ 64) := fun h => by rw [← h.2.2]; unfold lefts; have := downs_64 i.toNat n.toNat (by omega); simp; omega
  have hLr := info26L r hr
  have hu := Try.underlying26
  clear hW hA hb hP
  have HEQ : Hid (∀ t y, (Op.equalIn 10000 26 (.agg (bys (F t)).toArray) (.agg (bys r).toArray)).run Try.prog y = .ok (F t == r) y) := fun t y => equ25 y (F t) r (E.len t) hr
  generalize bys r = Z at *
  go_enter Try.func18, Try.ntmps18
  go_wp2_with (refine load30r rfl _ rfl (w.heap.size + 1) _ _ _ rfl R3 ?_)
  refine Calls_at_world AW.out ?_
  refine HT.mono ?_
  rintro ev w2 ⟨hB2, ⟨hF, rfl⟩ | ⟨hF, tv, rfl, hX⟩⟩
  · have HF : Hid _ := HC0.out hF
    have HB : Hid _ := nextB HA.out hB2
    clear HT HC HC0 hB2 RR hF
    go_wp2_with fail
    go_quiet (fail)
    go_wp2_with fail
    go_ret
    exact ⟨by rw [HF.out]; rfl, below_drewN HB.out _⟩
  · have HF : Hid _ := HC.out hF
    have hB := nextB HA.out hB2
    have hlT := HL9.out hF
    have hP9 := HP9.out hF
    obtain ⟨gT, capT, aT, cT, hv, hcT, hcell, hSl⟩ := hX.elem (P.length + 1) (by omega)
    rw [show P.length + 1 = (texts F b i.toNat n.toNat P).length - 1 by omega, texts_lastD] at hcell hSl
    rw [hlT] at hv hcell
    subst hv
    rw [show P.length + 2 - 1 = P.length + 1 by omega] at hcell
    generalize lastT (texts F b i.toNat n.toNat P) = t at *
    have hFt := E.len t
    have SU := E.xsum w2.drew _ t (hSl.below (Below.refl w2.heap.size w2).drew) (by omega)
    have R2 := RR.below hB2 RR.lt
    obtain ⟨k, hk⟩ : ∃ k, k = P.length + 1 := ⟨_, rfl⟩
    obtain ⟨m, hm⟩ : ∃ m, m = P.length + 2 := ⟨_, rfl⟩
    rw [← hk] at hcell
    rw [← hm]
    have em : IntKind.i64.wrap ((m : Int) - 1) = (k : Int) := by rw [IntKind.wrap_i64]; omega
    have lm : (k : Int) < (m : Int) := by omega
    have l0 : (0 : Int) ≤ (k : Int) := by omega
    have q0 : w2.drew.cell? ⟨gT, k, none⟩ = some (.slice aT t.length cT) ∧ w2.drew.rangeAt w.heap.size 0 Z := ⟨hcell, R2.drew.range⟩
    have HS : Hid (∀ y, Below w2.drew.heap.size w2.drew y → (y.cell? ⟨gT, k, none⟩ = some (.slice aT t.length cT) ∧ y.rangeAt w.heap.size 0 Z) ∧ Below w.heap.size w y) := fun y hy =>
      ⟨⟨(hy.cell (p := ⟨gT, k, none⟩) (World.block_lt_of_cell? w2.drew _ q0.1)).trans q0.1, range_below q0.2 hy⟩, nextB hB.drew hy⟩
    have he := HEQ.out t
    clear HT HC HC0 hB2 RR hF hX hcell hSl R2 hB hpos HL9 HP9 hlT hk hm hcT
    go_wp2_with fail
    go_region_held3 (fun y => y.cell? ⟨gT, k, none⟩ = some (.slice aT t.length cT) ∧ y.rangeAt w.heap.size 0 Z) (assumption) (first
      | (go_at_call 22; refine SU.mono ?_; rintro ev w3 ⟨rfl, hb3⟩; obtain ⟨hS3, hB3⟩ := HS.out w3 hb3))
    go_wp2_with fail
    go_ret
    exact ⟨by rw [HF.out]; rfl, hB3⟩
end Go.Proofs.Ytfkibbpekngciaa
