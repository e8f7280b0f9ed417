/-
  FaultChains' walk: whatever the number and the places are, it answers true, and nothing that was there has changed.
-/
import Derived.Test.YtikogamonngbbaaDoorIn
import Derived.Test.YtikogamonngbbaaDoorPlaces
import Derived.Deep.RegionHeld3
import Derived.Deep.DrawnRows
namespace Go.Proofs.YtikogamonngbbaaDoor
open Go.RowKit Go.Extern.Stop Go.Stop Go.Extern Err

/-- A chain of k faults over the number c itself: the place of the outermost is the last of the first k of l. -/
def Ch (c : Int) (l : List Int) : Nat → Err → Prop
  | 0, x => x = num c
  | k + 1, x => ∃ b y, x = fault b c (l.getD k 0) y ∧ Ch c l k y
theorem Ch.chR {c : Int} {l : List Int} : ∀ {k : Nat} {x : Err}, Ch c l (k + 1) x → k + 1 ≤ l.length → ChR c l (k + 1) x
  | 0, x, h, hk => by
    obtain ⟨b, y, rfl, hy⟩ := h
    obtain rfl : y = num c := hy
    exact ChR.one (by omega)
  | k + 1, x, h, hk => by
    obtain ⟨b, y, rfl, hy⟩ := h
    have h' := Ch.chR hy (by omega)
    have := h'.step (b := b) (by omega)
    rwa [h'.code] at this
theorem Ch.chR' {c : Int} {l : List Int} {k : Nat} {x : Err} (h : Ch c l k x) (h1 : 1 ≤ k) (hk : k ≤ l.length) : ChR c l k x := by
  obtain ⟨j, rfl⟩ : ∃ j, k = j + 1 := ⟨k - 1, by omega⟩
  exact Ch.chR h hk

set_option maxHeartbeats 4000000 in
set_option maxRecDepth 20000 in
theorem chains_few (c : Int) (v : Value) (l : List Int) (w : World) (hg : Glob w) (hs : Sl w v l) (hno : l.length = 0 ∨ 50 < l.length) :
    Calls Tryd.prog 3 #[.int .i64 c, v] w fun ev w' => ev = .returned (.bool true) ∧ Below w.heap.size w w' := by
  obtain ⟨ao, cap, rfl, hc1, -⟩ := hs
  generalize l.length = n at hno hc1 ⊢
  have T := told_any w hg
  by_cases h2 : n = 0
  · subst h2
    clear hno
    go_enter Tryd.func3, Tryd.ntmps3
    go_wp2_with fail
    refine T.mono ?_
    rintro ev w1 ⟨rfl, hB⟩
    go_wp2
    go_ret
    exact ⟨rfl, hB⟩
  · have h3 : 50 < n := by omega
    clear hno h2
    go_enter Tryd.func3, Tryd.ntmps3
    go_wp2_with fail
    refine T.mono ?_
    rintro ev w1 ⟨rfl, hB⟩
    go_wp2
    go_ret
    exact ⟨rfl, hB⟩

set_option maxHeartbeats 4000000 in
set_option maxRecDepth 20000 in
theorem chains_zero (v : Value) (l : List Int) (w : World) (hg : Glob w) (hs : Sl w v l) (h0 : 0 < l.length) (h50 : l.length ≤ 50) :
    Calls Tryd.prog 3 #[.int .i64 0, v] w fun ev w' => ev = .returned (.bool true) ∧ Below w.heap.size w w' := by
  have HS : Hid (∀ wr, Below w.heap.size w wr → Sl wr v l) := fun wr hb => hs.below hb
  obtain ⟨ao, cap, rfl, hc1, -⟩ := hs
  generalize hn : l.length = n at h0 h50 hc1 HS ⊢
  have HN : Hid (l.length = n) := hn
  clear hn
  have hn0 : ((n : Int) == 0) = false := by simp; omega
  have T := told_any w hg
  go_enter Tryd.func3, Tryd.ntmps3
  go_wp2_with fail
  refine T.mono ?_
  rintro ev w1 ⟨rfl, hB1⟩
  clear T
  go_wp2
  go_loopw [5, 6] (fun e i wr => ∃ k : Nat, k ≤ n ∧ i = .int .i64 k ∧ e = .nilIface ∧ Below w.heap.size w wr) (fun _ i _ => n - (intOf i).toNat)
  case atStart => exact ⟨0, by omega, rfl, rfl, hB1⟩
  case round =>
    obtain ⟨k, hkn, rfl, rfl, hB⟩ := hrel
    by_cases hlt : k < n
    · obtain ⟨ao, cap', hv, -, hq⟩ := HS.out wr hB
      obtain ⟨g, off, ha, q⟩ := hq k (by have := HN.out; omega)
      cases hv
      cases ha
      clear hq
      generalize l.getD k 0 = y at q
      by_cases hk0 : k = 0
      · subst hk0
        rw [Nat.add_zero] at q
        go_wp2_with fail
        refine (new_zero y _).mono ?_
        rintro ev w2 ⟨rfl, rfl⟩
        go_wp2
        go_roundw
        case rel => exact ⟨1, by omega, by go_num, rfl, hB⟩
        case measure => simp [intOf]; omega
      · have hkb : ((k : Int) == 0) = false := by simp; omega
        go_wp2_with fail
        refine (in_nil y _).mono ?_
        rintro ev w2 ⟨rfl, rfl⟩
        go_wp2
        go_roundw
        case rel => exact ⟨k + 1, by omega, by go_num, rfl, hB⟩
        case measure => simp [intOf]; omega
    · go_wp2
      go_ret
      exact ⟨rfl, hB⟩

theorem wrap_even (n : Int) : IntKind.i64.wrap n % 2 = n % 2 := by
  have h : IntKind.i64.wrap n = if n % 18446744073709551616 ≥ 9223372036854775808 then n % 18446744073709551616 - 18446744073709551616 else n % 18446744073709551616 := by
    simp [IntKind.wrap, IntKind.bits, IntKind.signed]
  rw [h]
  split <;> omega
theorem xor_parity (c : Int) : bits .xor .i64 c 1 % 2 = (c + 1) % 2 := by
  have hb : bits .xor .i64 c 1 = IntKind.i64.wrap (((BitVec.ofInt 64 c) ^^^ (BitVec.ofInt 64 1)).toNat : Int) := rfl
  have h1 : (BitVec.ofInt 64 1).toNat = 1 := rfl
  have hA : (((BitVec.ofInt 64 c).toNat : Nat) : Int) = c % 18446744073709551616 := by
    rw [BitVec.toNat_ofInt]
    simp
    omega
  rw [hb, wrap_even, BitVec.toNat_xor, h1]
  generalize (BitVec.ofInt 64 c).toNat = A at hA
  have hx : (A ^^^ 1) % 2 = (A % 2) ^^^ 1 := Nat.xor_mod_two_pow (n := 1) (a := A) (b := 1)
  rcases Nat.mod_two_eq_zero_or_one A with h | h
  · rw [h] at hx
    have hx' : (A ^^^ 1) % 2 = 1 := hx
    omega
  · rw [h] at hx
    have hx' : (A ^^^ 1) % 2 = 0 := hx
    omega
theorem xor_ne (c : Int) : (c == bits .xor .i64 c 1) = false := by
  have h := xor_parity c
  have : c ≠ bits .xor .i64 c 1 := fun e => by rw [← e] at h; omega
  simpa using this

theorem Tryd.is27 (n : Int) (w : World) : (Instr.typeAssert (.iface 27 (.int .i64 n)) 25 27 true).run Tryd.prog w = .ok (.tuple #[.int .i64 n, .bool true]) w := by kernel_rfl
theorem cell_kept {w w' : World} (h : Below w.heap.size w w') {p : Addr} {v : Value} (hc : w.cell? p = some v) : w'.cell? p = some v :=
  (h.cell (World.block_lt_of_cell? w p hc)).trans hc

attribute [local go_sem ↓] Go.wp_at_zero Go.wp_at_succ
set_option maxHeartbeats 8000000 in
set_option maxRecDepth 20000 in
theorem chains_many (c : Int) (v : Value) (l : List Int) (w : World) (hg : Glob w) (hs : Sl w v l) (hc : c ≠ 0) (h0 : 0 < l.length) (h50 : l.length ≤ 50) :
    Calls Tryd.prog 3 #[.int .i64 c, v] w fun ev w' => ev = .returned (.bool true) ∧ Below w.heap.size w w' := by
  obtain ⟨i0, hi, hz0, hz1, hz2⟩ := info_parts Tryd.info3
  have hc0 : (c == 0) = false := by simpa using hc
  have HC : Hid (c ≠ 0) := hc
  clear hc
  have HS : Hid (∀ wr, Below w.heap.size w wr → Sl wr v l) := fun wr hb => hs.below hb
  obtain ⟨ao, cap, rfl, hc1, hq0⟩ := hs
  obtain ⟨g, off, rfl, -⟩ := hq0 0 h0
  clear hq0
  generalize hn : l.length = n at h0 h50 hc1 HS ⊢
  have HN : Hid (l.length = n) := hn
  clear hn
  have hn0 : ((n : Int) == 0) = false := by simp; omega
  have T := told_any w hg
  have HQ : Hid (∀ wr, Below w.heap.size w wr → ∀ k, k < n → wr.cell? ⟨g, off + k, none⟩ = some (.int .i64 (l.getD k 0))) := by
    intro wr hb k hk
    obtain ⟨ao, cap', hv, -, hq⟩ := HS.out wr hb
    obtain ⟨g', off', ha, q⟩ := hq k (by have := HN.out; omega)
    cases hv
    cases ha
    exact q
  clear HS
  go_enter Tryd.func3, Tryd.ntmps3
  go_wp2_with fail
  refine T.mono ?_
  rintro ev w1 ⟨rfl, hB1⟩
  clear T
  go_wp2
  go_loopw [5, 6] (fun e i wr => ∃ k : Nat, k ≤ n ∧ i = .int .i64 k ∧ Below w.heap.size w wr ∧ ((k = 0 ∧ e = .nilIface) ∨ ∃ x, 1 ≤ k ∧ e = val x ∧ lies wr x ∧ Ch c l k x)) (fun _ i _ => n - (intOf i).toNat)
  case atStart => exact ⟨0, by omega, rfl, hB1, .inl ⟨rfl, rfl⟩⟩
  case round =>
    obtain ⟨k, hkn, rfl, hB, hor⟩ := hrel
    by_cases hlt : k < n
    · have q := HQ.out wr hB k hlt
      rcases hor with ⟨rfl, rfl⟩ | ⟨x, hk1, rfl, hx, hR⟩
      · rw [Nat.add_zero] at q
        have HR : Hid (∀ b, Ch c l 1 (fault b c (l.getD 0 0) (num c))) := fun b => ⟨b, _, rfl, rfl⟩
        generalize l.getD 0 0 = y at q HR
        go_wp2_with fail
        refine (new_any c y _ HC.out).mono ?_
        rintro ev w2 ⟨rfl, hl2, hB2⟩
        go_wp2
        go_roundw
        case rel => exact ⟨1, by omega, by go_num, hB.trans (hB2.mono hB.size), .inr ⟨_, Nat.le_refl _, rfl, hl2, HR.out _⟩⟩
        case measure => simp [intOf]; omega
      · have hkb : ((k : Int) == 0) = false := by simp; omega
        have HR : Hid (∀ b, Ch c l (k + 1) (fault b (Err.code x) (l.getD k 0) x)) := fun b => ⟨b, x, by rw [(hR.chR' hk1 (by have := HN.out; omega)).code], hR⟩
        clear hR
        generalize l.getD k 0 = y at q HR
        go_wp2_with fail
        refine (in_any x y _ (hg.below hB) hx).mono ?_
        rintro ev w2 ⟨b2, -, rfl, hl2, hB2⟩
        go_wp2
        go_roundw
        case rel => exact ⟨k + 1, by omega, by go_num, hB.trans (hB2.mono hB.size), .inr ⟨_, by omega, rfl, hl2, HR.out _⟩⟩
        case measure => simp [intOf]; omega
    · obtain rfl : k = n := by omega
      rcases hor with ⟨hk0, -⟩ | ⟨x, -, rfl, hx, hR⟩
      · omega
      clear hB1 hlt hkn
      have HR : Hid (Ch c l k x) := hR
      clear hR
      rename World => wA
      go_wp2
      go_loopw [7, 8] (fun v i wq => ∃ m : Nat, m ≤ k ∧ i = .int .i64 ((m : Int) - 1) ∧ PRel wA l.reverse (k - m) v wq) (fun _ i _ => (intOf i + 1).toNat)
      case atStart => exact ⟨k, Nat.le_refl _, rfl, by rw [Nat.sub_self]; exact ⟨World.ownsRow_nil _ _ _ _, Below.refl _ _⟩⟩
      case round =>
        obtain ⟨m, hmk, rfl, hP⟩ := hrel
        have hBA : Below w.heap.size w wr := hB.trans (hP.below.mono hB.size)
        have A : Aside (PRel wA l.reverse (k - m) u7 wr) := hP
        have hown := hP.own
        have hsz := hP.below.size
        clear hP
        cases m with
        | succ m =>
          rw [show (((m + 1 : Nat) : Int) - 1) = (m : Int) by omega]
          have q := HQ.out wr hBA m (by omega)
          have hrev : l.reverse.getD (k - (m + 1)) 0 = l.getD m 0 := by
            have := HN.out
            simp only [List.getD]
            rw [List.getElem?_reverse (by omega)]
            congr 2
            omega
          have hkl : Hid (k - (m + 1) < l.reverse.length) := by show _ < _; rw [List.length_reverse, HN.out]; omega
          have HV : Hid (l.reverse.getD (k - (m + 1)) 0 = l.getD m 0) := hrev
          clear hrev
          generalize l.getD m 0 = y at q HV
          go_wp2_with (first
            | (at_builtin; refine wpList_append_own _ rfl _ _ 22 rfl wA.heap.size 3 i0 (.int .i64 0) 1 8 Tryd.underlying22 hi hz0 hz1 hz2 rfl (by decide) _ _ _ rfl (hown.alloc _) ⟨wr.heap.size, 0, none⟩ 1 1 [.int .i64 y] rfl rfl ?c1 ?c2 ?c3 ?c4 ?c5 ?_)
            | go_in)
          case c1 =>
            intro j u hj
            match j, hj with
            | 0, hj => simp at hj; subst hj; simp [Addr.add]
          case c2 => intro u hu; simp at hu; subst hu; rfl
          case c3 => unfold maxLen; omega
          case c4 => omega
          case c5 => simp; omega
          intro v' w1' hown' hgrow _
          have R := A.out.step hkl.out (by rw [HV.out]; exact hown') hgrow
          rw [show k - (m + 1) + 1 = k - m by omega] at R
          clear hown' hgrow hown A
          go_wp2
          go_roundw
          case rel => exact ⟨m, by omega, by go_num, R⟩
          case measure => simp [intOf]
        | zero =>
          simp only [Nat.sub_zero] at hown A
          have hxr : lies wr x := lies_below A.out.below (Nat.le_refl _) hx
          have hsl : Sl wr u7 l.reverse := by
            have := A.out.own
            rw [List.take_of_length_le (by rw [List.length_reverse, HN.out]; exact Nat.le_refl _)] at this
            exact sl_own (by rw [List.length_reverse, HN.out]; exact this)
          clear hown A hx
          have q0 := HQ.out wr hBA 0 h0
          rw [Nat.add_zero] at q0
          have hR := HR.out.chR' h0 (by have := HN.out; omega)
          have hlen := hR.length (by have := HN.out; omega)
          have hpath : Err.path x = l.reverse := by rw [hR.path, List.take_of_length_le (by have := HN.out; omega)]
          have hat : at_ x = l.getD 0 0 := by
            unfold at_
            rw [hpath]
            have := HN.out
            cases l with
            | nil => simp at this; omega
            | cons y r => simp [List.getLastD_eq_getLast?]
          have hgw := hg.below hBA
          have C9 : Hid (∀ w1, (w1.cell? ⟨g, off, none⟩ = some (.int .i64 (l.getD 0 0)) ∧ Below wr.heap.size wr w1) → Calls Tryd.prog 9 #[val x] w1 fun ev w' => ev = .returned (.int .i64 c) ∧ w'.cell? ⟨g, off, none⟩ = some (.int .i64 (l.getD 0 0)) ∧ Below wr.heap.size wr w') := by
            intro w1 ⟨hq, hb⟩
            refine (code_any x w1 (hgw.below hb) (lies_below hb (Nat.le_refl _) hxr)).mono ?_
            rintro ev w' ⟨rfl, hb'⟩
            exact ⟨by rw [hR.code], cell_kept hb' hq, hb.trans (hb'.mono hb.size)⟩
          have C10 : Hid (∀ w1, (w1.cell? ⟨g, off, none⟩ = some (.int .i64 (l.getD 0 0)) ∧ Below wr.heap.size wr w1) → Calls Tryd.prog 10 #[val x] w1 fun ev w' => ev = .returned (.int .i64 (l.getD 0 0)) ∧ w'.cell? ⟨g, off, none⟩ = some (.int .i64 (l.getD 0 0)) ∧ Below wr.heap.size wr w') := by
            intro w1 ⟨hq, hb⟩
            refine (at_any x w1 (hgw.below hb) (lies_below hb (Nat.le_refl _) hxr) (by rw [hlen]; omega)).mono ?_
            rintro ev w' ⟨rfl, hb'⟩
            exact ⟨by rw [hat], cell_kept hb' hq, hb.trans (hb'.mono hb.size)⟩
          have C12 : Hid (∀ w1, (w1.cell? ⟨g, off, none⟩ = some (.int .i64 (l.getD 0 0)) ∧ Below wr.heap.size wr w1) → Calls Tryd.prog 12 #[val x] w1 fun ev w' => ∃ v, ev = .returned v ∧ Sl w' v l.reverse ∧ w'.cell? ⟨g, off, none⟩ = some (.int .i64 (l.getD 0 0)) ∧ Below wr.heap.size wr w') := by
            intro w1 ⟨hq, hb⟩
            refine (path_any x w1 (hgw.below hb) (lies_below hb (Nat.le_refl _) hxr) (by rw [hlen]; omega)).mono ?_
            rintro ev w' ⟨v, rfl, ho, hb'⟩
            rw [hpath] at ho
            exact ⟨v, rfl, sl_own ho, cell_kept hb' hq, hb.trans (hb'.mono hb.size)⟩
          have C13 : Hid (∀ w1, (w1.cell? ⟨g, off, none⟩ = some (.int .i64 (l.getD 0 0)) ∧ Below wr.heap.size wr w1) → Calls Tryd.prog 13 #[val x] w1 fun ev w' => ∃ v, ev = .returned v ∧ Sl w' v l.reverse ∧ w'.cell? ⟨g, off, none⟩ = some (.int .i64 (l.getD 0 0)) ∧ Below wr.heap.size wr w') := by
            intro w1 ⟨hq, hb⟩
            have hlx : (links x).length = k := by rw [← hlen, hR.isf]
            refine (places_any x w1 (lies_below hb (Nat.le_refl _) hxr) (by rw [hlx]; omega)).mono ?_
            rintro ev w' ⟨v, rfl, ho, hb'⟩
            have hpl : (links x).map (·.2) = l.reverse := by rw [← hpath]; unfold Err.path; rw [hR.isf]
            rw [hpl] at ho
            have hll : (links x).length = l.reverse.length := by rw [hlx, List.length_reverse, HN.out]
            rw [hll] at ho
            exact ⟨v, rfl, sl_own ho, cell_kept hb' hq, hb.trans (hb'.mono hb.size)⟩
          have C11 : Hid (∀ v w1, (w1.cell? ⟨g, off, none⟩ = some (.int .i64 (l.getD 0 0)) ∧ Below wr.heap.size wr w1) → Sl w1 v l.reverse → Calls Tryd.prog 11 #[v, u7] w1 fun ev w' => ev = .returned (.bool true) ∧ w'.cell? ⟨g, off, none⟩ = some (.int .i64 (l.getD 0 0)) ∧ Below wr.heap.size wr w') := by
            intro v w1 ⟨hq, hb⟩ hv
            refine (ints_same v u7 l.reverse w1 hv (hsl.below hb) (by rw [List.length_reverse, HN.out]; omega)).mono ?_
            rintro ev w' ⟨rfl, hb'⟩
            exact ⟨rfl, cell_kept hb' hq, hb.trans (hb'.mono hb.size)⟩
          have C14 : Hid (∀ j w1, (w1.cell? ⟨g, off, none⟩ = some (.int .i64 (l.getD 0 0)) ∧ Below wr.heap.size wr w1) → Calls Tryd.prog 14 #[val x, .int .i64 j] w1 fun ev w' => ev = .returned (.bool (c == j)) ∧ w'.cell? ⟨g, off, none⟩ = some (.int .i64 (l.getD 0 0)) ∧ Below wr.heap.size wr w') := by
            intro j w1 ⟨hq, hb⟩
            refine (is_fault x j w1 (hgw.below hb) (lies_below hb (Nat.le_refl _) hxr) (by rw [hlen]; omega)).mono ?_
            rintro ev w' ⟨rfl, hb'⟩
            exact ⟨by rw [hR.has j], cell_kept hb' hq, hb.trans (hb'.mono hb.size)⟩
          have hxn := xor_ne c
          have nN := eqlNil x
          have nG := guardNil x
          clear hR hlen hpath hat hgw
          generalize l.getD 0 0 = y0 at q0 C9 C10 C11 C12 C13 C14
          clear hi hz0 hz1 hz2
          go_wp2
          go_region_held3 (fun w' => w'.cell? ⟨g, off, none⟩ = some (.int .i64 y0) ∧ Below wr.heap.size wr w') (first
            | assumption
            | exact ⟨by simpa using q0, (Below.refl _ _).drew⟩)
            (first
            | (go_at_call 9; refine (C9.out _ (by assumption)).mono ?_; rintro ev w2 ⟨rfl, hS2⟩)
            | (go_at_call 10; refine (C10.out _ (by assumption)).mono ?_; rintro ev w2 ⟨rfl, hS2⟩)
            | (go_at_call 12; refine (C12.out _ (by assumption)).mono ?_; rintro ev w2 ⟨v2, rfl, hv2, hS2⟩)
            | (go_at_call 13; refine (C13.out _ (by assumption)).mono ?_; rintro ev w2 ⟨v2, rfl, hv2, hS2⟩)
            | (go_at_call 11; refine (C11.out _ _ (by assumption) (by assumption)).mono ?_; rintro ev w2 ⟨rfl, hS2⟩)
            | (go_at_call 14; refine (C14.out _ _ (by assumption)).mono ?_; rintro ev w2 ⟨rfl, hS2⟩))
          have hB2 : Below w.heap.size w w2 := hBA.trans (hS2.2.mono hBA.size)
          have hx2 : lies w2 x := lies_below hS2.2 (Nat.le_refl _) hxr
          clear C9 C10 C11 C12 C13 C14 hxn nN nG q0 hxr hsl hB hBA hS2
          have a3 := Tryd.is34
          have a4 := Tryd.is27
          go_wp2
          go_loopw [5, 9] (fun e i wq => ∃ (m : Nat) (y : Err), m ≤ k ∧ i = .int .i64 ((m : Int) - 1) ∧ e = val y ∧ lies wq y ∧ Ch c l m y ∧ Below w.heap.size w wq) (fun _ i _ => (intOf i + 1).toNat)
          case atStart => exact ⟨k, x, Nat.le_refl _, rfl, rfl, hx2, HR.out, hB2⟩
          case round =>
            obtain ⟨m, y, hmk, rfl, rfl, hy, hCh, hBq⟩ := hrel
            cases m with
            | succ m =>
              obtain ⟨b, y', rfl, hCh'⟩ := hCh
              have HY : Hid (Ch c l m y') := hCh'
              clear hCh'
              rw [show (((m + 1 : Nat) : Int) - 1) = (m : Int) by omega]
              obtain ⟨p0, p1, p2⟩ := cell_of hy
              have p3 := HQ.out wr hBq m (by omega)
              have HL : Hid (lies wr y') := (lies_fault hy).2.2
              clear hy
              generalize l.getD m 0 = z at p1 p3
              simp only [val_fault]
              go_wp2
              go_quiet (fail)
              have hB3 : Below w.heap.size w (wr.drewN nq) := below_drewN hBq nq
              have HL3 : lies (wr.drewN nq) y' := lies_below (below_drewN (Below.refl wr.heap.size wr) nq) (Nat.le_refl _) HL.out
              go_wp2
              go_roundw
              case rel => exact ⟨m, y', by omega, by go_num, rfl, HL3, HY.out, hB3⟩
              case measure => simp [intOf]
            | zero =>
              obtain rfl : y = num c := hCh
              clear hy
              simp only [val_num]
              go_wp2
              go_ret
              exact ⟨rfl, hBq⟩
end Go.Proofs.YtikogamonngbbaaDoor
