/-
  The texts Xtf, Cls, joined.
-/
import Derived.Test.YtfkibbpekngciaaQExExt
import Derived.Test.YtfkibbpekngciaaJoinFew3xEx
import Derived.Test.YtfkibbpekngciaaJoinChk2xEx
/- What is known of two texts that Extract tells. -/
namespace Go.Proofs.Ytfkibbpekngciaa
open Go.RowKit

theorem diff_mem : ∀ {xs ys : List Bys} {x y : Bys}, diff xs ys = some (x, y) → x ∈ xs ∧ y ∈ ys
  | [], _, _, _, h => by simp [diff] at h
  | _ :: _, [], _, _, h => by simp [diff] at h
  | a :: xs, b :: ys, x, y, h => by
    unfold diff at h
    by_cases e : a = b
    · rw [if_pos e] at h
      have := diff_mem h
      exact ⟨by simp [this.1], by simp [this.2]⟩
    · rw [if_neg e] at h; cases h; exact ⟨by simp, by simp⟩
theorem texts_brief (F : Bys → Bys) (hF : ∀ l, (F l).length = 32) (b : Bys) (i n : Nat) (P : List Bys) (hb : b.length ≤ 1000) (hP : ∀ p ∈ P, p.length = 32) : ∀ x ∈ texts F b i n P, x.length ≤ 10000 := by
  intro x hx
  unfold texts at hx
  rcases List.mem_append.1 hx with h | h
  · obtain ⟨j, hj, rfl⟩ := List.mem_iff_getElem.1 h
    have := climb_brief F hF ((lefts i n).zip P) (0 :: b) (fun x hx => hP _ (List.of_mem_zip hx).2) (by simp; omega) j
    simpa [List.getD, List.getElem?_eq_getElem hj] using this
  · rw [List.mem_singleton.1 h]
    have := hF (lastT (climb F (0 :: b) ((lefts i n).zip P)))
    simp [rootT, be8, this]
structure Clash (F : Bys → Bys) (s t : Bys) : Prop where
  ne : s ≠ t
  sum : F s = F t
  ls : s.length ≤ 10000
  lt : t.length ≤ 10000
theorem xtr_clash (F : Bys → Bys) (hF : ∀ l, (F l).length = 32) (L : List Bys) (b : Bys) (i n : Int) (P : List Bys) (hn : n ≤ 9223372036854775807) (hL : L.length ≤ 1000000) (hb : b.length ≤ 1000) (hE : ∀ b ∈ L, b.length ≤ 1000) (hP : ∀ p ∈ P, p.length = 32) {s t : Bys} (h : xtr F L b i n P = some (s, t)) : Clash F s t := by
  unfold xtr at h
  split at h
  · rename_i hc
    obtain ⟨h0, h1, h2, h3⟩ := hc
    unfold chk at h2
    rw [Bool.and_eq_true] at h2
    have hf : Form i n P := @of_decide_eq_true _ (decForm _ _ _) h2.1
    have hm := diff_mem h
    refine ⟨diff_ne h, extract_sum F hF L b i.toNat n.toNat P (by omega) (by omega) (by omega) hP hf.2.2 h2.2 s t h, ?_, ?_⟩
    · exact texts_brief F hF b _ _ P hb hP s (by simpa using hm.1)
    · refine texts_brief F hF _ _ _ (path F L i.toNat) ?_ (path_mem F hF L _) t (by simpa using hm.2)
      have hi : i.toNat < L.length := by omega
      exact hE _ (by simp [List.getElem?_eq_getElem hi])
  · cases h
/-- Extract tells two texts of a proof that is right, but of the leaf's own. -/
theorem xtr_right (F : Bys → Bys) (L : List Bys) (b : Bys) (i n : Int) (P : List Bys) (hn : n ≤ 9223372036854775807) (hL : L.length ≤ 1000000) (hi : i < (L.length : Int)) (hne : ¬ (n = (L.length : Int) ∧ b = L.getD i.toNat [])) : (xtr F L b i n P).isSome = chk F (root F L) b i n P := by
  by_cases hc : chk F (root F L) b i n P = true
  · rw [hc]
    have hc' := hc
    unfold chk at hc'
    rw [Bool.and_eq_true] at hc'
    have hf : Form i n P := @of_decide_eq_true _ (decForm _ _ _) hc'.1
    unfold xtr
    rw [if_pos ⟨hf.1, hi, hc, hne⟩]
    refine extract_some F L b _ _ P (by omega) (by omega) hf.2.2 (fun h => hne ⟨?_, h.2⟩)
    have := hf.1
    have := hf.2.1
    omega
  · have hc' : chk F (root F L) b i n P = false := by simpa using hc
    rw [hc']
    unfold xtr
    rw [if_neg (fun h => hc h.2.2.1)]
    rfl
end Go.Proofs.Ytfkibbpekngciaa

/- clashes. -/
namespace Go.Proofs.Ytfkibbpekngciaa
open Go.RowKit

theorem str_apart {a b : Bys} (h : a ≠ b) : ((str a).toList == (str b).toList) = false := by rw [str_list, str_list]; simpa using h

set_option maxHeartbeats 4000000 in
set_option maxRecDepth 20000 in
theorem clashes_any (F : Bys → Bys) (E : Env2 F) (w : World) (lv bv pv : Value) (L : List Bys) (b : Bys) (i n : Int) (P : List Bys) (hL : Ls w lv L) (hs : Short L) (hE : ∀ b ∈ L, b.length ≤ 1000) (h9 : L.length ≤ 1000000) (hb : Sl w bv b) (hbl : b.length ≤ 1000) (hn : n ≤ 9223372036854775807) (hP : Hs w pv P) :
    Calls Try.prog 19 #[lv, bv, .agg #[.int .i64 i, .int .i64 n, pv]] w fun ev w' => ev = .returned (.bool (xtr F L b i n P).isSome) ∧ Below w.heap.size w w' := by
  obtain ⟨ap, cpp, rfl⟩ := hP.slice
  obtain ⟨W, hW⟩ : ∃ W, W = w.alloc (.cells #[.int .i64 i, .int .i64 n, .slice ap P.length cpp] 30) := ⟨_, rfl⟩
  have hA : Below w.heap.size w W := by rw [hW]; exact (Below.refl w.heap.size w).alloc (Nat.le_refl _) _
  have R3 : Row W w.heap.size 30 [.int .i64 i, .int .i64 n, .slice ap P.length cpp] := by rw [hW]; exact Row.new w 30 _
  have HT := extract_any F E.toEnv W lv bv _ L b i n P (hL.below hA) hs h9 (hb.below hA) (by omega) hn (hP.below hA)
  have HC : Hid (∀ s t, xtr F L b i n P = some (s, t) → Clash F s t) := fun s t h => xtr_clash F E.len L b i n P hn h9 hbl hE hP.each h
  have AW : Aside (W = w.alloc (.cells #[.int .i64 i, .int .i64 n, .slice ap P.length cpp] 30)) := hW
  have HA : Hid (Below w.heap.size w W) := hA
  clear hW hA hb hP hL hE hs
  generalize xtr F L b i n P = res at *
  go_enter Try.func19, Try.ntmps19
  go_wp2_with (first | (rw [← AW.out]; refine load30r rfl _ rfl w.heap.size _ _ _ rfl R3 ?_))
  refine HT.mono ?_
  rintro ev w2 ⟨x0, y0, t0, rfl, hT2, hB2⟩
  have HB2 : Hid _ := nextB HA.out hB2
  rcases hT2 with ⟨rfl, rfl, rfl, rfl⟩ | ⟨s, u, rfl, rfl, hs1, hs2⟩
  · clear HT HC hB2 R3
    go_wp2_with fail
    go_ret
    exact ⟨rfl, HB2.out⟩
  · have hC := HC.out s u rfl
    have v1 := conv_sl w2 _ _ hs1
    have v2 := conv_sl w2 _ _ hs2
    have hne := str_apart hC.ne
    have S1 := E.xsum w2 _ s hs1 (by have := hC.ls; omega)
    have S2 : Hid (∀ y, Below w2.heap.size w2 y → Calls Try.prog 22 #[y0] y fun ev w' => ev = .returned (.agg (bys (F u)).toArray) ∧ Below y.heap.size y w') := fun y hy => E.xsum y _ u (hs2.below hy) (by have := hC.lt; omega)
    have hFs := E.len s
    have he : ∀ y, (Op.equalIn 10000 26 (.agg (bys (F s)).toArray) (.agg (bys (F u)).toArray)).run Try.prog y = .ok true y := fun y => by rw [equ25 y _ _ hFs (E.len u), hC.sum, beq_self_eq_true]
    clear HT HC hB2 R3 hs1 hs2 hC
    generalize (bys (F s)).toArray = Y1 at *
    generalize (bys (F u)).toArray = Y2 at *
    go_wp2_with fail
    refine S1.mono ?_
    rintro ev w3 ⟨rfl, hb3⟩
    go_wp2_with fail
    refine (S2.out _ hb3).mono ?_
    rintro ev w4 ⟨rfl, hb4⟩
    go_wp2_with fail
    go_ret
    exact ⟨rfl, nextB (nextB HB2.out hb3) hb4⟩
end Go.Proofs.Ytfkibbpekngciaa
