/-
  MerkleExtracts answers true.
-/
import Derived.Test.YtfkibbpekngciaaQExXex
import Derived.Test.YtfkibbpekngciaaQExB42
import Derived.Test.YtfkibbpekngciaaQExFrm
import Derived.Test.YtfkibbpekngciaaJoinFew3xEx
namespace Go.Proofs.Ytfkibbpekngciaa
open Go.RowKit

theorem sl_none (w : World) : Sl w (.slice none 0 0) [] := ⟨.inl ⟨none, rfl, rfl⟩⟩
set_option maxHeartbeats 8000000 in
set_option maxRecDepth 20000 in
theorem extracts_told (F : Bys → Bys) (E : Env2 F) (w : World) (v bv pv : Value) (L : List Bys) (hL : Ls w v L) (hl : L.length ≤ 9223372036854775807) (hE : ∀ b ∈ L, b.length ≤ 9223372036854775807) (b : Bys) (hb : Sl w bv b) (pi pn : Int) (P : List Bys) (hP : Hs w pv P) (_hpn : pn ≤ 9223372036854775807) (i : Int) (hc : fewB L = false ∨ 100 < b.length ∨ 70 < P.length) :
    Calls Try.prog 6 #[v, bv, .agg #[.int .i64 pi, .int .i64 pn, pv], .int .i64 i] w fun ev w' => ev = .returned (.bool true) ∧ Below w.heap.size w w' := by
  obtain ⟨ap, cpp, rfl⟩ := hP.slice
  obtain ⟨ab, cb, rfl⟩ := sl_slice hb
  obtain ⟨W, hW⟩ : ∃ W, W = w.alloc (.cells #[.int .i64 pi, .int .i64 pn, .slice ap P.length cpp] 30) := ⟨_, rfl⟩
  have hA : Below w.heap.size w W := by rw [hW]; exact (Below.refl w.heap.size w).alloc (Nat.le_refl _) _
  have RP : Row W w.heap.size 30 [.int .i64 pi, .int .i64 pn, .slice ap P.length cpp] := by rw [hW]; exact Row.new w 30 _
  have HF := few_any W v L (hL.below hA) hl hE
  have c2 : W.cell? ⟨w.heap.size, 2, none⟩ = some (.slice ap P.length cpp) := RP.cell 2
  have HT : Hid (∀ y, Calls Try.prog 10 #[] y fun ev w' => ev = .returned (.bool true) ∧ Below y.heap.size y w') := fun y => told_any F E y
  have HA : Hid (Below w.heap.size w W) := hA
  have AW : Aside (W = w.alloc (.cells #[.int .i64 pi, .int .i64 pn, .slice ap P.length cpp] 30)) := hW
  obtain ⟨av, cv, rfl⟩ := hL.slice
  clear hL hA RP hW hb hP
  have hc' : fewB L = false ∨ (fewB L = true ∧ (100 : Int) < (b.length : Int)) ∨ (fewB L = true ∧ ¬ (100 : Int) < (b.length : Int) ∧ (70 : Int) < (P.length : Int)) := by
    by_cases hf : fewB L = true
    · right
      rcases hc with hc | hc | hc
      · rw [hf] at hc; cases hc
      · exact .inl ⟨hf, by omega⟩
      · by_cases h1 : 100 < b.length
        · exact .inl ⟨hf, by omega⟩
        · exact .inr ⟨hf, by omega, by omega⟩
    · exact .inl (by simpa using hf)
  clear hc
  rcases hc' with hf | ⟨hf, h1⟩ | ⟨hf, h1, h2⟩
  all_goals
    rw [hf] at HF
    clear hf
    go_enter Try.func6, Try.ntmps6
    go_wp2_with fail
    refine Calls_at_world AW.out ?_
    refine HF.mono ?_
    rintro ev w1 ⟨rfl, rfl⟩
    go_wp2_with (first | (go_at_call 10; refine (HT.out _).mono ?_; rintro ev w2 ⟨rfl, hb2⟩))
    go_ret
    exact ⟨rfl, nextB HA.out hb2⟩
set_option maxHeartbeats 8000000 in
set_option maxRecDepth 20000 in
theorem extracts_none (F : Bys → Bys) (E : Env2 F) (w : World) (v bv pv : Value) (L : List Bys) (hL : Ls w v L) (hl : L.length ≤ 9223372036854775807) (hE : ∀ b ∈ L, b.length ≤ 9223372036854775807) (b : Bys) (hb : Sl w bv b) (pi pn : Int) (P : List Bys) (hP : Hs w pv P) (hpn : pn ≤ 9223372036854775807) (i : Int) (hf : fewB L = true) (hbl : b.length ≤ 100) (hpl : P.length ≤ 70) (h0 : L.length = 0) :
    Calls Try.prog 6 #[v, bv, .agg #[.int .i64 pi, .int .i64 pn, pv], .int .i64 i] w fun ev w' => ev = .returned (.bool true) ∧ Below w.heap.size w w' := by
  obtain ⟨ap, cpp, rfl⟩ := hP.slice
  obtain ⟨ab, cb, rfl⟩ := sl_slice hb
  obtain ⟨W, hW⟩ : ∃ W, W = w.alloc (.cells #[.int .i64 pi, .int .i64 pn, .slice ap P.length cpp] 30) := ⟨_, rfl⟩
  have hA : Below w.heap.size w W := by rw [hW]; exact (Below.refl w.heap.size w).alloc (Nat.le_refl _) _
  have RP : Row W w.heap.size 30 [.int .i64 pi, .int .i64 pn, .slice ap P.length cpp] := by rw [hW]; exact Row.new w 30 _
  have HF := few_any W v L (hL.below hA) hl hE
  have c2 : W.cell? ⟨w.heap.size, 2, none⟩ = some (.slice ap P.length cpp) := RP.cell 2
  have HT : Hid (∀ y, Calls Try.prog 10 #[] y fun ev w' => ev = .returned (.bool true) ∧ Below y.heap.size y w') := fun y => told_any F E y
  have HA : Hid (Below w.heap.size w W) := hA
  have AW : Aside (W = w.alloc (.cells #[.int .i64 pi, .int .i64 pn, .slice ap P.length cpp] 30)) := hW
  have h20 := fewB_len hf
  have hsm := fewB_small hf
  have hsh := fewB_short hf
  have HEX : Hid (∀ y ti tn ax (T : List Bys) cx, Below W.heap.size W y → Hs y (.slice ax T.length cx) T → tn ≤ 9223372036854775807 → Calls Try.prog 20 #[v, .slice ab b.length cb, .agg #[.int .i64 ti, .int .i64 tn, .slice ax T.length cx]] y fun ev w' => ∃ x y' t, ev = .returned (.tuple #[x, y', t]) ∧ Two (xtr F L b ti tn T) x y' t w' ∧ Below y.heap.size y w') := fun y ti tn ax T cx hy hH hn => extract_any F E.toEnv y _ _ _ L b ti tn T (hL.below (nextB hA hy)) hsh (by omega) (hb.below (nextB hA hy)) (by omega) hn hH
  have HEY : Hid (∀ y ti tn ax (T : List Bys) cx, Below W.heap.size W y → Hs y (.slice ax T.length cx) T → tn ≤ 9223372036854775807 → Calls Try.prog 21 #[v, .slice ab b.length cb, .agg #[.int .i64 ti, .int .i64 tn, .slice ax T.length cx]] y fun ev w' => ∃ x y' t, ev = .returned (.tuple #[x, y', t]) ∧ Two (xtr F L b ti tn T) x y' t w' ∧ Below y.heap.size y w') := fun y ti tn ax T cx hy hH hn => xextract_any F E y _ _ _ L b ti tn T (hL.below (nextB hA hy)) hsm (by omega) (hb.below (nextB hA hy)) (by omega) hn hH
  have HCL : Hid (∀ ti tn (T : List Bys) s t, tn ≤ 9223372036854775807 → (∀ p ∈ T, p.length = 32) → xtr F L b ti tn T = some (s, t) → Clash F s t) := fun ti tn T s t hn hT h => xtr_clash F E.len L b ti tn T hn (by omega) (by omega) (fun c hc => Nat.le_trans ((of_decide_eq_true hf).2 c hc) (by omega)) hT h
  have HRP : Hid (∀ y, Below W.heap.size W y → Row y w.heap.size 30 [.int .i64 pi, .int .i64 pn, .slice ap P.length cpp] ∧ Hs y (.slice ap P.length cpp) P) := fun y hy => ⟨RP.below hy RP.lt, hP.below (nextB hA hy)⟩
  have HPN : Hid (pn ≤ 9223372036854775807) := hpn
  have N5 := new30 W
  have A5 := new_below W (.cells #[.int .i64 0, .int .i64 0, .slice none 0 0] 30)
  have o5 := one3 pi pn ap P.length cpp
  have hle : W.heap.size ≤ W.heap.size := Nat.le_refl _
  have n1 : ¬ (100 : Int) < (b.length : Int) := by omega
  have n2 : ¬ (70 : Int) < (P.length : Int) := by omega
  rw [hf] at HF
  have HQN : Hid (pn ≤ 9223372036854775807) := hpn
  obtain ⟨av, cv, rfl⟩ := hL.slice
  have n3 : ¬ (0 : Int) < (L.length : Int) := by omega
  clear hL hA RP hW hb hP hf hsm hsh h0 h20 hbl hpl hpn hl hE
  generalize L.length = nL at *
  go_enter Try.func6, Try.ntmps6
  go_wp2_with fail
  refine Calls_at_world AW.out ?_
  refine HF.mono ?_
  rintro ev w1 ⟨rfl, hw1⟩
  replace hw1 := hw1.symm
  subst hw1
  have RPW := (HRP.out _ (Below.refl W.heap.size W)).1
  go_wp2_with (first
    | (refine load30r rfl _ rfl w.heap.size _ _ _ rfl RPW ?_)
    | (refine store30 rfl _ _ rfl W W.heap.size _ _ _ o5 rfl rfl _ _ _ N5 _ A5 hle ?_; intro w7 RQ7 hB7 _; obtain ⟨RP7, hHP7⟩ := HRP.out _ hB7; have hHQ7 := hHP7; clear N5 A5 RPW)
    | (refine load30r rfl _ rfl w.heap.size _ _ _ rfl RP7 ?_)
    | (refine load30r rfl _ rfl W.heap.size _ _ _ rfl RQ7 ?_)
    | (refine build42 rfl _ _ rfl _ _ _ _ _ _ rfl rfl ?_; intro w8 g8 hb8 R8))
  have HHP8 : Hid (∀ y, Below w8.heap.size w8 y → Hs y (.slice ap P.length cpp) P ∧ Hs y (.slice ap P.length cpp) P) := fun y hy => ⟨hHP7.below (nextB hb8 hy), hHQ7.below (nextB hb8 hy)⟩
  have HR8 : Hid (∀ y, Below w8.heap.size w8 y → Row y g8 30 [.int .i64 pi, .int .i64 pn, .slice ap P.length cpp, .int .i64 (pi), .int .i64 (pn), .slice ap P.length cpp]) := fun y hy => R8.below hy R8.lt
  have HB8 : Hid (Below W.heap.size W w8) := nextB hB7 hb8
  have HMX : Hid (pn ≤ 9223372036854775807 ∧ (pn) ≤ 9223372036854775807) := ⟨HPN.out, HQN.out⟩
  clear hb8 R8 hHP7 hHQ7 hB7 RP7 RQ7
  go_loopw [59] (fun t wr => ∃ k : Nat, k ≤ 2 ∧ t = .int .i64 (k : Int) ∧ Below w8.heap.size w8 wr) (fun t _ => 2 - (intOf t).toNat)
  case atStart => exact ⟨0, by omega, rfl, Below.refl _ _⟩
  case round =>
    obtain ⟨k, hk, rfl, hbr⟩ := hrel
    by_cases hk2 : k < 2
    · obtain ⟨ti, tn, ax, T, cx, hrg, hHT, hmx⟩ : ∃ (ti tn : Int) (ax : Option Addr) (T : List Bys) (cx : Nat), wr.rangeAt g8 (k * 3) [.int .i64 ti, .int .i64 tn, .slice ax T.length cx] ∧ Hs wr (.slice ax T.length cx) T ∧ tn ≤ 9223372036854775807 := by
        rcases k with _ | _ | k
        · exact ⟨_, _, _, _, _, row_mid0 (HR8.out wr hbr), (HHP8.out wr hbr).1, HMX.out.1⟩
        · exact ⟨_, _, _, _, _, row_mid3 (HR8.out wr hbr), (HHP8.out wr hbr).2, HMX.out.2⟩
        · omega
      have l1 : (k : Int) < 2 := by omega
      have l0 : (0 : Int) ≤ (k : Int) := by omega
      have hBr := nextB HB8.out hbr
      have N9 := new30 wr
      have A9 := new_below wr (.cells #[.int .i64 0, .int .i64 0, .slice none 0 0] 30)
      have o9 := one3 ti tn ax T.length cx
      have hle9 : wr.heap.size ≤ wr.heap.size := Nat.le_refl _
      have HCT : Hid _ := fun s t => HCL.out ti tn T s t hmx hHT.each
      have HMT : Hid _ := hmx
      have HK : Hid (k < 2) := hk2
      have HBR : Hid (Below w8.heap.size w8 wr) := hbr
      clear hk hk2 hbr hmx HR8 HHP8 HMX HCL
      go_wp2_with (first
        | (refine wpList_load_mid rfl 30 _ rfl g8 (k * 3) rfl [.int .i64 ti, .int .i64 tn, .slice ax T.length cx] _ hrg Try.underlying30 rfl Try.info30 ?_)
        | (refine store30 rfl _ _ rfl wr wr.heap.size _ _ _ o9 rfl rfl _ _ _ N9 _ A9 hle9 ?_; intro w9 R9 hb9 _; have hB9 := nextB hBr hb9; have hH9 := hHT.below hb9; clear N9 A9 hrg hHT)
        | (refine load30r rfl _ rfl wr.heap.size _ _ _ rfl R9 ?_))
      refine (HEX.out _ _ _ _ _ _ hB9 hH9 HMT.out).mono ?_
      rintro ev w10 ⟨x0, y0, t0, rfl, hT10, hb10⟩
      have R10 := R9.below hb10 R9.lt
      have hB10 := nextB hB9 hb10
      have hH10 := hH9.below hb10
      clear R9 hH9
      go_wp2_with (first
        | (refine load30r rfl _ rfl wr.heap.size _ _ _ rfl R10 ?_))
      refine (HEY.out _ _ _ _ _ _ hB10 hH10 HMT.out).mono ?_
      rintro ev w11 ⟨x1, y1, t1, rfl, hT11, hb11⟩
      have hT := hT10.below hb11
      have hbw : Hid (Below wr.heap.size wr w11) := nextB (nextB hb9 hb10) hb11
      clear R10 hH10 hT10 hb10 hb11 hb9 hB9 hB10
      rcases hT with ⟨eo, rfl, rfl, rfl⟩ | ⟨s, u, eo, rfl, s1, s2⟩
      · rcases hT11 with ⟨_, rfl, rfl, rfl⟩ | ⟨_, _, eo', _⟩
        · have v0 := conv_sl w11 _ _ (sl_none w11)
          have hst := str_same (rfl : ([] : Bys) = [])
          clear eo HCT HEX HEY
          generalize str ([] : Bys) = S0 at *
          go_wp2_with fail
          go_roundw
          case rel => exact ⟨k + 1, by have := HK.out; omega, by go_num, nextB HBR.out hbw.out⟩
          case measure => have := HK.out; simp [intOf]; omega
        · rw [eo] at eo'; cases eo'
      · rcases hT11 with ⟨eo', _⟩ | ⟨s', u', eo', rfl, s3, s4⟩
        · rw [eo] at eo'; cases eo'
        · rw [eo] at eo'
          cases eo'
          have hC := HCT.out s u eo
          have v1 := conv_sl w11 _ _ s1
          have v2 := conv_sl w11 _ _ s2
          have v3 := conv_sl w11 _ _ s3
          have v4 := conv_sl w11 _ _ s4
          have e1 := str_same (rfl : s = s)
          have e2 := str_same (rfl : u = u)
          have e3 := str_apart hC.ne
          have SU1 := E.xsum w11 _ s s1 (by have := hC.ls; omega)
          have SU2 : Hid (∀ y, Below w11.heap.size w11 y → Calls Try.prog 22 #[y0] y fun ev w' => ev = .returned (.agg (bys (F u)).toArray) ∧ Below y.heap.size y w') := fun y hy => E.xsum y _ u (s2.below hy) (by have := hC.lt; omega)
          have hFs := E.len s
          have he : ∀ y, (Op.equalIn 10000 26 (.agg (bys (F s)).toArray) (.agg (bys (F u)).toArray)).run Try.prog y = .ok true y := fun y => by rw [equ25 y _ _ hFs (E.len u), hC.sum, beq_self_eq_true]
          clear eo HCT s1 s2 s3 s4 hC hFs HEX HEY
          generalize (bys (F s)).toArray = Y1 at *
          generalize (bys (F u)).toArray = Y2 at *
          generalize str s = S1 at *
          generalize str u = S2 at *
          go_wp2_with fail
          refine SU1.mono ?_
          rintro ev w12 ⟨rfl, hb12⟩
          go_wp2_with fail
          refine (SU2.out _ hb12).mono ?_
          rintro ev w13 ⟨rfl, hb13⟩
          go_wp2_with fail
          go_roundw
          case rel => exact ⟨k + 1, by have := HK.out; omega, by go_num, nextB HBR.out (nextB (nextB hbw.out hb12) hb13)⟩
          case measure => have := HK.out; simp [intOf]; omega
    · have l1 : ¬ (k : Int) < 2 := by omega
      have HBR : Hid (Below w8.heap.size w8 wr) := hbr
      clear hk hk2 hbr HR8 HHP8 HMX HCL HEX HEY
      go_wp2_with (first | (go_at_call 10; refine (HT.out _).mono ?_; rintro ev w9 ⟨rfl, hb9⟩))
      go_ret
      exact ⟨rfl, nextB (nextB (nextB HA.out HB8.out) HBR.out) hb9⟩
set_option maxHeartbeats 8000000 in
set_option maxRecDepth 20000 in
theorem extracts_some (F : Bys → Bys) (E : Env2 F) (w : World) (v bv pv : Value) (L : List Bys) (hL : Ls w v L) (hl : L.length ≤ 9223372036854775807) (hE : ∀ b ∈ L, b.length ≤ 9223372036854775807) (b : Bys) (hb : Sl w bv b) (pi pn : Int) (P : List Bys) (hP : Hs w pv P) (hpn : pn ≤ 9223372036854775807) (i : Int) (hf : fewB L = true) (hbl : b.length ≤ 100) (hpl : P.length ≤ 70) (h1 : 1 ≤ L.length) :
    Calls Try.prog 6 #[v, bv, .agg #[.int .i64 pi, .int .i64 pn, pv], .int .i64 i] w fun ev w' => ev = .returned (.bool true) ∧ Below w.heap.size w w' := by
  obtain ⟨ap, cpp, rfl⟩ := hP.slice
  obtain ⟨ab, cb, rfl⟩ := sl_slice hb
  obtain ⟨W, hW⟩ : ∃ W, W = w.alloc (.cells #[.int .i64 pi, .int .i64 pn, .slice ap P.length cpp] 30) := ⟨_, rfl⟩
  have hA : Below w.heap.size w W := by rw [hW]; exact (Below.refl w.heap.size w).alloc (Nat.le_refl _) _
  have RP : Row W w.heap.size 30 [.int .i64 pi, .int .i64 pn, .slice ap P.length cpp] := by rw [hW]; exact Row.new w 30 _
  have HF := few_any W v L (hL.below hA) hl hE
  have c2 : W.cell? ⟨w.heap.size, 2, none⟩ = some (.slice ap P.length cpp) := RP.cell 2
  have HT : Hid (∀ y, Calls Try.prog 10 #[] y fun ev w' => ev = .returned (.bool true) ∧ Below y.heap.size y w') := fun y => told_any F E y
  have HA : Hid (Below w.heap.size w W) := hA
  have AW : Aside (W = w.alloc (.cells #[.int .i64 pi, .int .i64 pn, .slice ap P.length cpp] 30)) := hW
  have h20 := fewB_len hf
  have hsm := fewB_small hf
  have hsh := fewB_short hf
  have HEX : Hid (∀ y ti tn ax (T : List Bys) cx, Below W.heap.size W y → Hs y (.slice ax T.length cx) T → tn ≤ 9223372036854775807 → Calls Try.prog 20 #[v, .slice ab b.length cb, .agg #[.int .i64 ti, .int .i64 tn, .slice ax T.length cx]] y fun ev w' => ∃ x y' t, ev = .returned (.tuple #[x, y', t]) ∧ Two (xtr F L b ti tn T) x y' t w' ∧ Below y.heap.size y w') := fun y ti tn ax T cx hy hH hn => extract_any F E.toEnv y _ _ _ L b ti tn T (hL.below (nextB hA hy)) hsh (by omega) (hb.below (nextB hA hy)) (by omega) hn hH
  have HEY : Hid (∀ y ti tn ax (T : List Bys) cx, Below W.heap.size W y → Hs y (.slice ax T.length cx) T → tn ≤ 9223372036854775807 → Calls Try.prog 21 #[v, .slice ab b.length cb, .agg #[.int .i64 ti, .int .i64 tn, .slice ax T.length cx]] y fun ev w' => ∃ x y' t, ev = .returned (.tuple #[x, y', t]) ∧ Two (xtr F L b ti tn T) x y' t w' ∧ Below y.heap.size y w') := fun y ti tn ax T cx hy hH hn => xextract_any F E y _ _ _ L b ti tn T (hL.below (nextB hA hy)) hsm (by omega) (hb.below (nextB hA hy)) (by omega) hn hH
  have HCL : Hid (∀ ti tn (T : List Bys) s t, tn ≤ 9223372036854775807 → (∀ p ∈ T, p.length = 32) → xtr F L b ti tn T = some (s, t) → Clash F s t) := fun ti tn T s t hn hT h => xtr_clash F E.len L b ti tn T hn (by omega) (by omega) (fun c hc => Nat.le_trans ((of_decide_eq_true hf).2 c hc) (by omega)) hT h
  have HRP : Hid (∀ y, Below W.heap.size W y → Row y w.heap.size 30 [.int .i64 pi, .int .i64 pn, .slice ap P.length cpp] ∧ Hs y (.slice ap P.length cpp) P) := fun y hy => ⟨RP.below hy RP.lt, hP.below (nextB hA hy)⟩
  have HPN : Hid (pn ≤ 9223372036854775807) := hpn
  have N5 := new30 W
  have A5 := new_below W (.cells #[.int .i64 0, .int .i64 0, .slice none 0 0] 30)
  have o5 := one3 pi pn ap P.length cpp
  have hle : W.heap.size ≤ W.heap.size := Nat.le_refl _
  have n1 : ¬ (100 : Int) < (b.length : Int) := by omega
  have n2 : ¬ (70 : Int) < (P.length : Int) := by omega
  rw [hf] at HF
  obtain ⟨q, k, e1, e2, e3, e4, hk⟩ := place_of i L.length h1
  obtain ⟨bl, off, cv, fv, rfl, hcap, _⟩ := hL.some_ (by omega)
  have HPA : Hid (∀ y, Below W.heap.size W y → Calls Try.prog 16 #[.slice (some ⟨bl, off, none⟩) L.length cv, .int .i64 (k : Int)] y fun ev w' => ∃ v', ev = .returned v' ∧ w'.ownsRow y.heap.size 26 32 v' (path F L k).length (rows26 (path F L k)) ∧ Below y.heap.size y w') := fun y hy => xpath_any F E y _ L k (hL.below (nextB hA hy)) hsm hk (by omega)
  have HQN : Hid ((L.length : Int) ≤ 9223372036854775807) := (by omega : (L.length : Int) ≤ 9223372036854775807)
  have HPM : Hid (∀ p ∈ path F L k, p.length = 32) := path_mem F E.len L k
  have n3 : (0 : Int) < (L.length : Int) := by omega
  have n5 : (L.length : Int) ≤ 20 := by omega
  have n6 : (1 : Int) ≤ (L.length : Int) := by omega
  have n7 : ((L.length : Int) == 0) = false := by
    have : ¬ (L.length : Int) = 0 := by omega
    simpa using this
  clear hL hA RP hW hb hP hf hsm hsh hbl hpl hpn hl hE hcap
  generalize path F L k = Pk at *
  go_enter Try.func6, Try.ntmps6
  go_wp2_with fail
  refine Calls_at_world AW.out ?_
  refine HF.mono ?_
  rintro ev w1 ⟨rfl, hw1⟩
  replace hw1 := hw1.symm
  subst hw1
  have RPW := (HRP.out _ (Below.refl W.heap.size W)).1
  go_wp2_with (first
    | (refine load30r rfl _ rfl w.heap.size _ _ _ rfl RPW ?_)
    | (refine store30 rfl _ _ rfl W W.heap.size _ _ _ o5 rfl rfl _ _ _ N5 _ A5 hle ?_; intro w5 R5 hb5 _; clear N5 A5 RPW))
  rw [e4]
  refine (HPA.out _ hb5).mono ?_
  rintro ev w6 ⟨v6, rfl, ho6, hb6⟩
  obtain ⟨aq, cq, rfl⟩ := own_shape' ho6
  have hH6 := Hs.ofOwn ho6 HPM.out
  have R6 := R5.below hb6 R5.lt
  have hB6 := nextB hb5 hb6
  have o6 := one3 k L.length aq Pk.length cq
  have HNE : Hid (∀ j, (Value.slice aq Pk.length cq).ownBlock = some j → j ≠ W.heap.size) := fun j e => by
    have h1 := (ho6.lt j e).1
    have h2 := R5.lt
    omega
  clear HPA HF R5 hb5 ho6 hb6 e1 e2 e3 e4
  go_wp2_with (first
    | (refine store30 rfl _ _ rfl W W.heap.size _ _ _ o6 rfl rfl _ _ _ R6 _ hB6 hle ?_; intro w7 RQ7 hB7 HW7; obtain ⟨RP7, hHP7⟩ := HRP.out _ hB7; have hHQ7 : Hs w7 (.slice aq Pk.length cq) Pk := (by rw [HW7.out]; exact hH6.other _ _ HNE.out); clear R6 hB6 hH6)
    | (refine load30r rfl _ rfl w.heap.size _ _ _ rfl RP7 ?_)
    | (refine load30r rfl _ rfl W.heap.size _ _ _ rfl RQ7 ?_)
    | (refine build42 rfl _ _ rfl _ _ _ _ _ _ rfl rfl ?_; intro w8 g8 hb8 R8))
  have k0 : Hid (k < L.length) := hk
  clear hk
  generalize (k : Int) = qk at *
  have HHP8 : Hid (∀ y, Below w8.heap.size w8 y → Hs y (.slice ap P.length cpp) P ∧ Hs y (.slice aq Pk.length cq) Pk) := fun y hy => ⟨hHP7.below (nextB hb8 hy), hHQ7.below (nextB hb8 hy)⟩
  have HR8 : Hid (∀ y, Below w8.heap.size w8 y → Row y g8 30 [.int .i64 pi, .int .i64 pn, .slice ap P.length cpp, .int .i64 (qk), .int .i64 ((L.length : Int)), .slice aq Pk.length cq]) := fun y hy => R8.below hy R8.lt
  have HB8 : Hid (Below W.heap.size W w8) := nextB hB7 hb8
  have HMX : Hid (pn ≤ 9223372036854775807 ∧ ((L.length : Int)) ≤ 9223372036854775807) := ⟨HPN.out, HQN.out⟩
  clear hb8 R8 hHP7 hHQ7 hB7 RP7 RQ7
  go_loopw [59] (fun t wr => ∃ k : Nat, k ≤ 2 ∧ t = .int .i64 (k : Int) ∧ Below w8.heap.size w8 wr) (fun t _ => 2 - (intOf t).toNat)
  case atStart => exact ⟨0, by omega, rfl, Below.refl _ _⟩
  case round =>
    obtain ⟨k, hk, rfl, hbr⟩ := hrel
    by_cases hk2 : k < 2
    · obtain ⟨ti, tn, ax, T, cx, hrg, hHT, hmx⟩ : ∃ (ti tn : Int) (ax : Option Addr) (T : List Bys) (cx : Nat), wr.rangeAt g8 (k * 3) [.int .i64 ti, .int .i64 tn, .slice ax T.length cx] ∧ Hs wr (.slice ax T.length cx) T ∧ tn ≤ 9223372036854775807 := by
        rcases k with _ | _ | k
        · exact ⟨_, _, _, _, _, row_mid0 (HR8.out wr hbr), (HHP8.out wr hbr).1, HMX.out.1⟩
        · exact ⟨_, _, _, _, _, row_mid3 (HR8.out wr hbr), (HHP8.out wr hbr).2, HMX.out.2⟩
        · omega
      have l1 : (k : Int) < 2 := by omega
      have l0 : (0 : Int) ≤ (k : Int) := by omega
      have hBr := nextB HB8.out hbr
      have N9 := new30 wr
      have A9 := new_below wr (.cells #[.int .i64 0, .int .i64 0, .slice none 0 0] 30)
      have o9 := one3 ti tn ax T.length cx
      have hle9 : wr.heap.size ≤ wr.heap.size := Nat.le_refl _
      have HCT : Hid _ := fun s t => HCL.out ti tn T s t hmx hHT.each
      have HMT : Hid _ := hmx
      have HK : Hid (k < 2) := hk2
      have HBR : Hid (Below w8.heap.size w8 wr) := hbr
      clear hk hk2 hbr hmx HR8 HHP8 HMX HCL
      go_wp2_with (first
        | (refine wpList_load_mid rfl 30 _ rfl g8 (k * 3) rfl [.int .i64 ti, .int .i64 tn, .slice ax T.length cx] _ hrg Try.underlying30 rfl Try.info30 ?_)
        | (refine store30 rfl _ _ rfl wr wr.heap.size _ _ _ o9 rfl rfl _ _ _ N9 _ A9 hle9 ?_; intro w9 R9 hb9 _; have hB9 := nextB hBr hb9; have hH9 := hHT.below hb9; clear N9 A9 hrg hHT)
        | (refine load30r rfl _ rfl wr.heap.size _ _ _ rfl R9 ?_))
      refine (HEX.out _ _ _ _ _ _ hB9 hH9 HMT.out).mono ?_
      rintro ev w10 ⟨x0, y0, t0, rfl, hT10, hb10⟩
      have R10 := R9.below hb10 R9.lt
      have hB10 := nextB hB9 hb10
      have hH10 := hH9.below hb10
      clear R9 hH9
      go_wp2_with (first
        | (refine load30r rfl _ rfl wr.heap.size _ _ _ rfl R10 ?_))
      refine (HEY.out _ _ _ _ _ _ hB10 hH10 HMT.out).mono ?_
      rintro ev w11 ⟨x1, y1, t1, rfl, hT11, hb11⟩
      have hT := hT10.below hb11
      have hbw : Hid (Below wr.heap.size wr w11) := nextB (nextB hb9 hb10) hb11
      clear R10 hH10 hT10 hb10 hb11 hb9 hB9 hB10
      rcases hT with ⟨eo, rfl, rfl, rfl⟩ | ⟨s, u, eo, rfl, s1, s2⟩
      · rcases hT11 with ⟨_, rfl, rfl, rfl⟩ | ⟨_, _, eo', _⟩
        · have v0 := conv_sl w11 _ _ (sl_none w11)
          have hst := str_same (rfl : ([] : Bys) = [])
          clear eo HCT HEX HEY
          generalize str ([] : Bys) = S0 at *
          go_wp2_with fail
          go_roundw
          case rel => exact ⟨k + 1, by have := HK.out; omega, by go_num, nextB HBR.out hbw.out⟩
          case measure => have := HK.out; simp [intOf]; omega
        · rw [eo] at eo'; cases eo'
      · rcases hT11 with ⟨eo', _⟩ | ⟨s', u', eo', rfl, s3, s4⟩
        · rw [eo] at eo'; cases eo'
        · rw [eo] at eo'
          cases eo'
          have hC := HCT.out s u eo
          have v1 := conv_sl w11 _ _ s1
          have v2 := conv_sl w11 _ _ s2
          have v3 := conv_sl w11 _ _ s3
          have v4 := conv_sl w11 _ _ s4
          have e1 := str_same (rfl : s = s)
          have e2 := str_same (rfl : u = u)
          have e3 := str_apart hC.ne
          have SU1 := E.xsum w11 _ s s1 (by have := hC.ls; omega)
          have SU2 : Hid (∀ y, Below w11.heap.size w11 y → Calls Try.prog 22 #[y0] y fun ev w' => ev = .returned (.agg (bys (F u)).toArray) ∧ Below y.heap.size y w') := fun y hy => E.xsum y _ u (s2.below hy) (by have := hC.lt; omega)
          have hFs := E.len s
          have he : ∀ y, (Op.equalIn 10000 26 (.agg (bys (F s)).toArray) (.agg (bys (F u)).toArray)).run Try.prog y = .ok true y := fun y => by rw [equ25 y _ _ hFs (E.len u), hC.sum, beq_self_eq_true]
          clear eo HCT s1 s2 s3 s4 hC hFs HEX HEY
          generalize (bys (F s)).toArray = Y1 at *
          generalize (bys (F u)).toArray = Y2 at *
          generalize str s = S1 at *
          generalize str u = S2 at *
          go_wp2_with fail
          refine SU1.mono ?_
          rintro ev w12 ⟨rfl, hb12⟩
          go_wp2_with fail
          refine (SU2.out _ hb12).mono ?_
          rintro ev w13 ⟨rfl, hb13⟩
          go_wp2_with fail
          go_roundw
          case rel => exact ⟨k + 1, by have := HK.out; omega, by go_num, nextB HBR.out (nextB (nextB hbw.out hb12) hb13)⟩
          case measure => have := HK.out; simp [intOf]; omega
    · have l1 : ¬ (k : Int) < 2 := by omega
      have HBR : Hid (Below w8.heap.size w8 wr) := hbr
      clear hk hk2 hbr HR8 HHP8 HMX HCL HEX HEY
      go_wp2_with (first | (go_at_call 10; refine (HT.out _).mono ?_; rintro ev w9 ⟨rfl, hb9⟩))
      go_ret
      exact ⟨rfl, nextB (nextB (nextB HA.out HB8.out) HBR.out) hb9⟩
theorem extracts_walk (F : Bys → Bys) (E : Env2 F) (w : World) (v bv pv : Value) (L : List Bys) (hL : Ls w v L) (hl : L.length ≤ 9223372036854775807) (hE : ∀ b ∈ L, b.length ≤ 9223372036854775807) (b : Bys) (hb : Sl w bv b) (pi pn : Int) (P : List Bys) (hP : Hs w pv P) (hpn : pn ≤ 9223372036854775807) (i : Int) :
    Calls Try.prog 6 #[v, bv, .agg #[.int .i64 pi, .int .i64 pn, pv], .int .i64 i] w fun ev w' => ev = .returned (.bool true) ∧ Below w.heap.size w w' := by
  by_cases hf : fewB L = true ∧ b.length ≤ 100 ∧ P.length ≤ 70
  · obtain ⟨hf, hbl, hpl⟩ := hf
    rcases Nat.eq_zero_or_pos L.length with h0 | h0
    · exact extracts_none F E w v bv pv L hL hl hE b hb pi pn P hP hpn i hf hbl hpl h0
    · exact extracts_some F E w v bv pv L hL hl hE b hb pi pn P hP hpn i hf hbl hpl h0
  · refine extracts_told F E w v bv pv L hL hl hE b hb pi pn P hP hpn i ?_
    by_cases h1 : fewB L = true
    · right
      by_cases h2 : 100 < b.length
      · exact .inl h2
      · right
        have : ¬ P.length ≤ 70 := fun h => hf ⟨h1, by omega, h⟩
        omega
    · left; simpa using h1
end Go.Proofs.Ytfkibbpekngciaa
