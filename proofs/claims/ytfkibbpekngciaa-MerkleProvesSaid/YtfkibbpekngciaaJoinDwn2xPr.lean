/-
  The texts Dwn, Clo, joined.
-/
import Derived.Test.YtfkibbpekngciaaQPrLof
import Derived.Test.YtfkibbpekngciaaJoinLas2xPr
/- goDown: which leaves are told to its closure. -/
namespace Go.Proofs.Ytfkibbpekngciaa
open Go.RowKit

set_option maxHeartbeats 4000000 in
theorem down47_any (P : List (Nat × Nat) → World → Prop) (c1 c2 c3 : Value) (idx n : Nat) (hi : idx < n) (hn : n ≤ 9223372036854775807) (w : World) (h0 : P [] w)
    (hs : ∀ d (a b : Nat) y, P d y → a < b → b ≤ n → d.length < 64 → Calls Try.prog 47 #[.int .i64 (a : Int), .int .i64 (b : Int), c1, c2, c3] y fun ev y' => ev = .returned (.tuple #[]) ∧ P (d ++ [(a, b)]) y') :
    Calls Try.prog 46 #[.int .i64 (idx : Int), .int .i64 (n : Int), .func (.func 47) #[] #[c1, c2, c3]] w fun ev w' => ev = .returned (.tuple #[]) ∧ P (downs idx 0 n) w' := by
  have H0 : Hid (P [] w) := h0
  have HS : Hid (∀ d (a b : Nat) y, P d y → a < b → b ≤ n → d.length < 64 → Calls Try.prog 47 #[.int .i64 (a : Int), .int .i64 (b : Int), c1, c2, c3] y fun ev y' => ev = .returned (.tuple #[]) ∧ P (d ++ [(a, b)]) y') := hs
  clear h0 hs
  go_enter Try.func46, Try.ntmps46
  go_wp2_with fail
  go_loopw [6, 7] (fun lo hg wr => ∃ (low high : Nat) (d : List (Nat × Nat)), lo = .int .i64 (low : Int) ∧ hg = .int .i64 (high : Int) ∧ low ≤ idx ∧ idx < high ∧ high ≤ n ∧ P d wr ∧ d ++ downs idx low high = downs idx 0 n) (fun lo hg _ => (intOf hg - intOf lo).toNat)
  case atStart => exact ⟨0, n, [], rfl, rfl, by omega, hi, Nat.le_refl _, H0.out, rfl⟩
  case round =>
    obtain ⟨low, high, d, rfl, rfl, h1, h2, h3, hP, hd⟩ := hrel
    clear H0
    have HD : Hid (d ++ downs idx low high = downs idx 0 n) := hd
    have HP : Hid (P d wr) := hP
    clear hd hP
    by_cases hgo : 2 ≤ high - low
    · have HL := left_any wr (high - low) hgo (by omega)
      have hh := half_le (high - low) hgo
      have hd64 : d.length < 64 := by
        have a1 := congrArg List.length HD.out
        have a2 := downs_64 idx n hn
        have a3 := downs_pos idx low high hgo
        rw [List.length_append] at a1
        omega
      have HLe := downs_left idx low high hgo
      have HRi := downs_right idx low high hgo
      have HLe' : Hid _ := HLe
      have HRi' : Hid _ := HRi
      clear HLe HRi
      generalize half (high - low) = k at *
      have e1 : ((high - low : Nat) : Int) = (high : Int) - (low : Int) := by omega
      rw [e1] at HL
      clear e1
      have g1 : (1 : Int) < (high : Int) - (low : Int) := by omega
      have g2 : (high : Int) ≤ 9223372036854775807 := by omega
      have g3 : (0 : Int) ≤ (low : Int) := by omega
      have g4 : (low : Int) + (k : Int) ≤ (high : Int) := by omega
      have g5 : (0 : Int) ≤ (k : Int) := by omega
      by_cases hl : idx < low + k
      · have HC := HS.out d (low + k) high wr HP.out (by omega) h3 hd64
        have g6 : (idx : Int) < (low : Int) + (k : Int) := by omega
        have e2 : ((low + k : Nat) : Int) = (low : Int) + (k : Int) := by omega
        rw [e2] at HC
        clear e2
        go_wp2_with (first | (go_at_call 52; refine HL.mono ?_; rintro ev w1 ⟨rfl, rfl⟩) | (go_at_call 47; refine HC.mono ?_; rintro ev w2 ⟨rfl, hP2⟩))
        go_roundw
        case rel => exact ⟨low, low + k, d ++ [(low + k, high)], rfl, by go_num, h1, hl, by omega, hP2, by rw [List.append_assoc, List.singleton_append, ← HLe'.out hl]; exact HD.out⟩
        case measure => simp [intOf]; omega
      · have HC := HS.out d low (low + k) wr HP.out (by omega) (by omega) hd64
        have g6 : ¬ (idx : Int) < (low : Int) + (k : Int) := by omega
        have e2 : ((low + k : Nat) : Int) = (low : Int) + (k : Int) := by omega
        rw [e2] at HC
        clear e2
        go_wp2_with (first | (go_at_call 52; refine HL.mono ?_; rintro ev w1 ⟨rfl, rfl⟩) | (go_at_call 47; refine HC.mono ?_; rintro ev w2 ⟨rfl, hP2⟩))
        go_roundw
        case rel => exact ⟨low + k, high, d ++ [(low, low + k)], by go_num, rfl, by omega, h2, h3, hP2, by rw [List.append_assoc, List.singleton_append, ← HRi'.out hl]; exact HD.out⟩
        case measure => simp [intOf]; omega
    · have g1 : ¬ (1 : Int) < (high : Int) - (low : Int) := by omega
      have g2 : (high : Int) ≤ 9223372036854775807 := by omega
      have g3 : (0 : Int) ≤ (low : Int) := by omega
      have g7 : (low : Int) ≤ (high : Int) := by omega
      have hE : downs idx 0 n = d := by
        rw [← HD.out, downs_end idx low high (by omega), List.append_nil]
      have HE : Hid (downs idx 0 n = d) := hE
      clear hE
      go_wp2_with fail
      go_end0
      exact ⟨rfl, by rw [HE.out]; exact HP.out⟩

set_option maxHeartbeats 4000000 in
theorem down57_any (P : List (Nat × Nat) → World → Prop) (c1 c2 : Value) (idx n : Nat) (hi : idx < n) (hn : n ≤ 9223372036854775807) (w : World) (h0 : P [] w)
    (hs : ∀ d (a b : Nat) y, P d y → a < b → b ≤ n → d.length < 64 → Calls Try.prog 57 #[.int .i64 (a : Int), .int .i64 (b : Int), c1, c2] y fun ev y' => ev = .returned (.tuple #[]) ∧ P (d ++ [(a, b)]) y') :
    Calls Try.prog 46 #[.int .i64 (idx : Int), .int .i64 (n : Int), .func (.func 57) #[] #[c1, c2]] w fun ev w' => ev = .returned (.tuple #[]) ∧ P (downs idx 0 n) w' := by
  have H0 : Hid (P [] w) := h0
  have HS : Hid (∀ d (a b : Nat) y, P d y → a < b → b ≤ n → d.length < 64 → Calls Try.prog 57 #[.int .i64 (a : Int), .int .i64 (b : Int), c1, c2] y fun ev y' => ev = .returned (.tuple #[]) ∧ P (d ++ [(a, b)]) y') := hs
  clear h0 hs
  go_enter Try.func46, Try.ntmps46
  go_wp2_with fail
  go_loopw [6, 7] (fun lo hg wr => ∃ (low high : Nat) (d : List (Nat × Nat)), lo = .int .i64 (low : Int) ∧ hg = .int .i64 (high : Int) ∧ low ≤ idx ∧ idx < high ∧ high ≤ n ∧ P d wr ∧ d ++ downs idx low high = downs idx 0 n) (fun lo hg _ => (intOf hg - intOf lo).toNat)
  case atStart => exact ⟨0, n, [], rfl, rfl, by omega, hi, Nat.le_refl _, H0.out, rfl⟩
  case round =>
    obtain ⟨low, high, d, rfl, rfl, h1, h2, h3, hP, hd⟩ := hrel
    clear H0
    have HD : Hid (d ++ downs idx low high = downs idx 0 n) := hd
    have HP : Hid (P d wr) := hP
    clear hd hP
    by_cases hgo : 2 ≤ high - low
    · have HL := left_any wr (high - low) hgo (by omega)
      have hh := half_le (high - low) hgo
      have hd64 : d.length < 64 := by
        have a1 := congrArg List.length HD.out
        have a2 := downs_64 idx n hn
        have a3 := downs_pos idx low high hgo
        rw [List.length_append] at a1
        omega
      have HLe := downs_left idx low high hgo
      have HRi := downs_right idx low high hgo
      have HLe' : Hid _ := HLe
      have HRi' : Hid _ := HRi
      clear HLe HRi
      generalize half (high - low) = k at *
      have e1 : ((high - low : Nat) : Int) = (high : Int) - (low : Int) := by omega
      rw [e1] at HL
      clear e1
      have g1 : (1 : Int) < (high : Int) - (low : Int) := by omega
      have g2 : (high : Int) ≤ 9223372036854775807 := by omega
      have g3 : (0 : Int) ≤ (low : Int) := by omega
      have g4 : (low : Int) + (k : Int) ≤ (high : Int) := by omega
      have g5 : (0 : Int) ≤ (k : Int) := by omega
      by_cases hl : idx < low + k
      · have HC := HS.out d (low + k) high wr HP.out (by omega) h3 hd64
        have g6 : (idx : Int) < (low : Int) + (k : Int) := by omega
        have e2 : ((low + k : Nat) : Int) = (low : Int) + (k : Int) := by omega
        rw [e2] at HC
        clear e2
        go_wp2_with (first | (go_at_call 52; refine HL.mono ?_; rintro ev w1 ⟨rfl, rfl⟩) | (go_at_call 57; refine HC.mono ?_; rintro ev w2 ⟨rfl, hP2⟩))
        go_roundw
        case rel => exact ⟨low, low + k, d ++ [(low + k, high)], rfl, by go_num, h1, hl, by omega, hP2, by rw [List.append_assoc, List.singleton_append, ← HLe'.out hl]; exact HD.out⟩
        case measure => simp [intOf]; omega
      · have HC := HS.out d low (low + k) wr HP.out (by omega) (by omega) hd64
        have g6 : ¬ (idx : Int) < (low : Int) + (k : Int) := by omega
        have e2 : ((low + k : Nat) : Int) = (low : Int) + (k : Int) := by omega
        rw [e2] at HC
        clear e2
        go_wp2_with (first | (go_at_call 52; refine HL.mono ?_; rintro ev w1 ⟨rfl, rfl⟩) | (go_at_call 57; refine HC.mono ?_; rintro ev w2 ⟨rfl, hP2⟩))
        go_roundw
        case rel => exact ⟨low + k, high, d ++ [(low, low + k)], by go_num, rfl, by omega, h2, h3, hP2, by rw [List.append_assoc, List.singleton_append, ← HRi'.out hl]; exact HD.out⟩
        case measure => simp [intOf]; omega
    · have g1 : ¬ (1 : Int) < (high : Int) - (low : Int) := by omega
      have g2 : (high : Int) ≤ 9223372036854775807 := by omega
      have g3 : (0 : Int) ≤ (low : Int) := by omega
      have g7 : (low : Int) ≤ (high : Int) := by omega
      have hE : downs idx 0 n = d := by
        rw [← HD.out, downs_end idx low high (by omega), List.append_nil]
      have HE : Hid (downs idx 0 n = d) := hE
      clear hE
      go_wp2_with fail
      go_end0
      exact ⟨rfl, by rw [HE.out]; exact HP.out⟩
end Go.Proofs.Ytfkibbpekngciaa

/- The closure of proveBy. -/
namespace Go.Proofs.Ytfkibbpekngciaa
open Go.RowKit

/-- The variables of proveBy that its closure has. -/
structure PvS (w : World) (gp gs gl gr : Nat) (pv lv : Value) (z : World) : Prop where
  below : Below w.heap.size w z
  path : Row z gp 28 [pv]
  sum : Row z gs 69 [fn25]
  lvs : Row z gl 22 [lv]
  res : Row z gr 30 [.int .i64 0, .int .i64 0, .slice none 0 0]
theorem PvS.next {w z z' : World} {gp gs gl gr : Nat} {pv lv : Value} (h : PvS w gp gs gl gr pv lv z) (hb : Below z.heap.size z z') : PvS w gp gs gl gr pv lv z' :=
  ⟨nextB h.below hb, h.path.below hb h.path.lt, h.sum.below hb h.sum.lt, h.lvs.below hb h.lvs.lt, h.res.below hb h.res.lt⟩
theorem Row.grown {w w' : World} {g t : Nat} {L : List Value} {o : Option Nat} (h : Row w g t L) (hg : w.grownBy w' o) (hne : o ≠ some g) : Row w' g t L :=
  ⟨by rw [hg.block g h.lt (fun e => hne e.symm)]; exact h.heap⟩
theorem PvS.grown {w z z' : World} {gp gs gl gr n : Nat} {pv lv : Value} {xs : List Value} (h : PvS w gp gs gl gr pv lv z) (ho : z.ownsRow w.heap.size 26 32 pv n xs) (hg : z.grownBy z' pv.ownBlock) (hb : Below w.heap.size z z') : PvS w gp gs gl gr pv lv z' :=
  ⟨h.below.trans hb, h.path.grown hg (fun e => own_apart ho h.path (by decide) gp e rfl), h.sum.grown hg (fun e => own_apart ho h.sum (by decide) gs e rfl), h.lvs.grown hg (fun e => own_apart ho h.lvs (by decide) gl e rfl), h.res.grown hg (fun e => own_apart ho h.res (by decide) gr e rfl)⟩
theorem PvS.store {w z : World} {gp gs gl gr : Nat} {pv lv : Value} (h : PvS w gp gs gl gr pv lv z) (h0 : w.heap.size ≤ gp) (v : Value) : PvS w gp gs gl gr v lv (z.setCell ⟨gp, 0, none⟩ v) := by
  have e1 : gp ≠ gs := fun e => by have a := h.path.heap; rw [e, h.sum.heap] at a; cases a
  have e2 : gp ≠ gl := fun e => by have a := h.path.heap; rw [e, h.lvs.heap] at a; cases a
  have e3 : gp ≠ gr := fun e => by have a := h.path.heap; rw [e, h.res.heap] at a; cases a
  exact ⟨h.below.setCell (p := ⟨gp, 0, none⟩) h0 v, h.path.set 0 v, h.sum.other (fun e => e1 e.symm) v, h.lvs.other (fun e => e2 e.symm) v, h.res.other (fun e => e3 e.symm) v⟩
def paths (F : Bys → Bys) (L : List Bys) (d : List (Nat × Nat)) : List Bys := d.map fun p => tree F (seg L p.1 p.2)
theorem paths_snoc (F : Bys → Bys) (L : List Bys) (d : List (Nat × Nat)) (p : Nat × Nat) : paths F L (d ++ [p]) = paths F L d ++ [tree F (seg L p.1 p.2)] := by simp [paths]
theorem paths_len (F : Bys → Bys) (L : List Bys) (d : List (Nat × Nat)) : (paths F L d).length = d.length := by simp [paths]
/-- Where proveBy stands when so much was told. -/
structure PvRel (F : Bys → Bys) (L : List Bys) (w : World) (gp gs gl gr : Nat) (lv : Value) (d : List (Nat × Nat)) (z : World) : Prop where
  st : ∃ pv, PvS w gp gs gl gr pv lv z ∧ z.ownsRow w.heap.size 26 32 pv (paths F L d).length (rows26 (paths F L d))
  few : d.length ≤ 1000000
theorem own_shape' {w : World} {B t s n : Nat} {v : Value} {xs : List Value} (h : w.ownsRow B t s v n xs) : ∃ ao cap, v = .slice ao n cap := by
  rcases h.2 with ⟨rfl, rfl⟩ | ⟨g, cap, cur, rfl, _⟩
  · exact ⟨none, 0, rfl⟩
  · exact ⟨_, cap, rfl⟩
theorem new26 (w : World) (t : Bys) : ∃ (w2 : World) (g : Nat), w2 = w.alloc (.cells (bys t).toArray 26) ∧ g = w.heap.size ∧ Below w.heap.size w w2 ∧ Row w2 g 26 (bys t) :=
  ⟨_, _, rfl, rfl, (Below.refl _ _).alloc (Nat.le_refl _) _, Row.new w 26 (bys t)⟩
theorem own_setCell {w : World} {B t s n g t' j : Nat} {v u : Value} {xs L : List Value} (h : w.ownsRow B t s v n xs) (r : Row w g t' L) (hne : t ≠ t') : (w.setCell ⟨g, j, none⟩ u).ownsRow B t s v n xs :=
  own_same' h (fun k e => heap_setCell_other w ⟨g, j, none⟩ k u (own_apart h r hne k e))

set_option maxHeartbeats 4000000 in
set_option maxRecDepth 20000 in
theorem clo47_any (F : Bys → Bys) (E : Env F) (w : World) (gp gs gl gr : Nat) (lv : Value) (L : List Bys) (hL : Ls w lv L) (hs : Short L) (h9 : L.length ≤ 1000000) (h0 : w.heap.size ≤ gp) (d : List (Nat × Nat)) (a b : Nat) (z : World) (H : PvRel F L w gp gs gl gr lv d z) (hab : a < b) (hb : b ≤ L.length) (hd : d.length < 64) :
    Calls Try.prog 47 #[.int .i64 (a : Int), .int .i64 (b : Int), .pointer (some ⟨gp, 0, none⟩), .pointer (some ⟨gs, 0, none⟩), .pointer (some ⟨gl, 0, none⟩)] z fun ev z' => ev = .returned (.tuple #[]) ∧ PvRel F L w gp gs gl gr lv (d ++ [(a, b)]) z' := by
  obtain ⟨pv, hS, how⟩ := H.st
  obtain ⟨bl, off, cap, rfl, hcap⟩ : ∃ b off cap, lv = .slice (some ⟨b, off, none⟩) L.length cap ∧ L.length ≤ cap := by
    obtain ⟨b, off, cap, _, h1, h2, _⟩ := hL.some_ (by omega)
    exact ⟨b, off, cap, h1, h2⟩
  have hS0 : PvS w gp gs gl gr pv (.slice (some ⟨bl, off, none⟩) L.length cap) z.drew := hS.next (Below.refl _ _).drew
  have HOW : Hid (z.drew.ownsRow w.heap.size 26 32 pv (paths F L d).length (rows26 (paths F L d))) := own_past' how (Below.refl _ _).drew
  have HP := (hL.below hS0.below).part a b hab hb (cap - a) (by omega)
  have HT := tree_any F E _ z.drew _ _ rfl HP (hs.seg a b) (by rw [seg_len L a b hb]; omega) (by rw [seg_len L a b hb]; omega)
  have ht := tree_len E (seg L a b)
  have HE : Hid (∀ v3 w3, PvS w gp gs gl gr pv (.slice (some ⟨bl, off, none⟩) L.length cap) w3 → w3.ownsRow w.heap.size 26 32 v3 (paths F L d ++ [tree F (seg L a b)]).length (rows26 (paths F L d ++ [tree F (seg L a b)])) → PvRel F L w gp gs gl gr (.slice (some ⟨bl, off, none⟩) L.length cap) (d ++ [(a, b)]) (w3.setCell ⟨gp, 0, none⟩ v3)) := fun v3 w3 hS3 ho3 => by
    refine ⟨⟨v3, hS3.store h0 v3, ?_⟩, by simp; omega⟩
    rw [paths_snoc]
    exact own_setCell ho3 hS3.path (by decide)
  have hdl : (paths F L d).length ≤ 1000000 := by rw [paths_len]; omega
  obtain ⟨ap, cpp, hpv⟩ : ∃ ao cap, pv = .slice ao (paths F L d).length cap := by
    rcases how.2 with ⟨e, h0⟩ | ⟨g, cap, cur, e, _⟩
    · exact ⟨none, 0, by rw [e, h0]⟩
    · exact ⟨_, _, e⟩
  subst hpv
  generalize tree F (seg L a b) = t at *
  generalize paths F L d = P at *
  have hY32 : (bys t).length = 32 := by rw [bys_len]; exact ht
  clear HP hL hs H hS how
  have n1 : (a : Int) ≤ (b : Int) := by omega
  have n2 : (b : Int) ≤ (cap : Int) := by omega
  have n3 : (0 : Int) ≤ (a : Int) := by omega
  have n4 : ¬ cap = a := by omega
  have e5 : ((b : Int) - (a : Int)).toNat = b - a := by omega
  unfold fn25 at HT
  go_enter Try.func47, Try.ntmps47
  refine beginL (fun y => PvS w gp gs gl gr (.slice ap P.length cpp) (.slice (some ⟨bl, off, none⟩) L.length cap) y) 9 (by kernel_rfl) hS0 (fun hS0 => ?_)
  refine takeL 0 (v := ?vq1) rfl (some 7) rfl (by decide) (by kernel_rfl) (by kernel_rfl) (by kernel_rfl) (by kernel_rfl) (fun _ _ _ h => h) (Or.inl ⟨by rfl, ?hq1⟩) hS0 ?rq1
  case hq1 => (intro y hy; have c1 := hy.path.cell 0; simp only [List.getElem?_cons_zero] at c1; go_simp; with_reducible rfl)
  simp only [Act.put, List.setIfInBounds_toArray, List.set_cons_zero, List.set_cons_succ]
  refine takeL 1 (v := ?vq2) rfl (some 8) rfl (by decide) (by kernel_rfl) (by kernel_rfl) (by kernel_rfl) (by kernel_rfl) (fun _ _ _ h => h) (Or.inl ⟨by rfl, ?hq2⟩) hS0 ?rq2
  case hq2 => (intro y hy; have c1 := hy.sum.cell 0; simp only [List.getElem?_cons_zero, fn25] at c1; go_simp; with_reducible rfl)
  simp only [Act.put, List.setIfInBounds_toArray, List.set_cons_zero, List.set_cons_succ]
  refine takeL 2 (v := ?vq3) rfl (some 9) rfl (by decide) (by kernel_rfl) (by kernel_rfl) (by kernel_rfl) (by kernel_rfl) (fun _ _ _ h => h) (Or.inl ⟨by rfl, ?hq3⟩) hS0 ?rq3
  case hq3 => (intro y hy; have c1 := hy.lvs.cell 0; simp only [List.getElem?_cons_zero] at c1; go_simp; with_reducible rfl)
  simp only [Act.put, List.setIfInBounds_toArray, List.set_cons_zero, List.set_cons_succ]
  refine takeL 3 (v := ?vq4) rfl (some 10) rfl (by decide) (by kernel_rfl) (by kernel_rfl) (by kernel_rfl) (by kernel_rfl) (fun _ _ _ h => h) (Or.inl ⟨by rfl, ?hq4⟩) hS0 ?rq4
  case hq4 => (intro y hy; go_simp; with_reducible rfl)
  simp only [Act.put, List.setIfInBounds_toArray, List.set_cons_zero, List.set_cons_succ]
  refine takeL 4 (v := ?vq5) rfl (some 11) rfl (by decide) (by kernel_rfl) (by kernel_rfl) (by kernel_rfl) (by kernel_rfl) (fun _ _ _ h => h) (Or.inl ⟨by rfl, ?hq5⟩) hS0 ?rq5
  case hq5 => (intro y hy; go_simp; with_reducible rfl)
  simp only [Act.put, List.setIfInBounds_toArray, List.set_cons_zero, List.set_cons_succ]
  refine takeL 5 (v := ?vq6) rfl (some 12) rfl (by decide) (by kernel_rfl) (by kernel_rfl) (by kernel_rfl) (by kernel_rfl) (fun _ _ _ h => h) (Or.inl ⟨by rfl, ?hq6⟩) hS0 ?rq6
  case hq6 => (intro y hy; go_simp; with_reducible rfl)
  simp only [Act.put, List.setIfInBounds_toArray, List.set_cons_zero, List.set_cons_succ]
  refine readyL (rs := [6]) (by kernel_rfl) (by simp) ?_
  refine ReadyL.cons rfl (fun K hK => ?_) ReadyL.nil
  go_simp
  refine HT.mono ?_
  rintro ev w1 ⟨rfl, hb1⟩
  have hS1 := hS0.next hb1
  refine hK.out _ _ (fun _ => hS1) (fun _ => ?_)
  clear hK K
  refine readyL (rs := [7]) (by kernel_rfl) (by simp) ?_
  refine ReadyL.cons rfl (fun K hK => ?_) ReadyL.nil
  refine want (by rfl) ?_
  refine wpo_build26 _ rfl _ rfl hY32 ?_
  obtain ⟨w2, g2, hw2, hg2, hb2, R2⟩ := new26 w1 t
  rw [← hw2, ← hg2]
  clear hw2 hg2
  have hS2 := hS1.next hb2
  refine hK.out _ _ (fun _ => hS2) (fun _ => ?_)
  clear hK K
  refine readyL (rs := [8]) (by kernel_rfl) (by simp) ?_
  refine ReadyL.cons rfl (fun K hK => ?_) ReadyL.nil
  refine want (by rfl) ?_
  have ho2 := own_past' (own_past' HOW.out hb1) hb2
  have hB2 := hS2.below.size
  refine wpo_app26 _ _ rfl rfl ho2 hB2 g2 1 t ht rfl R2.range hdl ?_
  intro v3 w3 ho3 hb3 hg3 _
  have hS3 := hS2.grown ho2 hg3 hb3
  obtain ⟨ao3, cp3, rfl⟩ := own_shape' ho3
  refine hK.out _ _ (fun _ => hS3) (fun _ => ?_)
  clear hK K
  refine readyL (rs := [9]) (by kernel_rfl) (by simp) ?_
  refine ReadyL.cons rfl (fun K hK => ?_) ReadyL.nil
  have cx := hS3.path.cell 0
  have fx := hS3.path.fz 0
  simp only [List.getElem?_cons_zero] at cx
  go_simp
  clear cx fx
  refine hK.out _ _ (fun h => absurd rfl h) (fun _ => ?_)
  clear hK K
  refine doneL (by kernel_rfl) ?_ _
  go_end0
  have hfin := HE.out _ _ hS3 ho3
  rw [show (P ++ [t]).length = P.length + 1 by simp] at hfin
  exact ⟨rfl, hfin⟩
end Go.Proofs.Ytfkibbpekngciaa
