/-
  Are two crates the same; two lists of crates.
-/
import Derived.Test.YtmfdmpfeoppnfaaDoorCrc
import Derived.Test.YtmfdmpfeoppnfaaDoorPlc
namespace Go.Proofs.YtmfdmpfeoppnfaaDoor
open Go.RowKit

theorem eq52_ne (w : World) (ao bo : Option Addr) (n c m d : Nat) (h : n ≠ m) :
    Calls Tryd.prog 52 #[.slice ao n c, .slice bo m d] w fun ev w' => ev = .returned (.bool false) ∧ w' = w := by
  have l1 : ((n : Int) == (m : Int)) = false := by simp; omega
  have l2 : (n : Int) ≠ (m : Int) := by omega
  go_enter Tryd.func52, Tryd.ntmps52
  go_wp2_with fail
  go_ret
  exact ⟨rfl, rfl⟩
theorem src_eq {x y : Src} (h1 : x.name = y.name) (h2 : x.deps = y.deps) (h3 : x.text = y.text) : x = y := by
  cases x; cases y; cases h1; cases h2; cases h3; rfl
theorem map_str_inj : ∀ {A B : List Bs}, A.map str = B.map str → A = B
  | [], [], _ => rfl
  | [], _ :: _, h => by cases h
  | _ :: _, [], h => by cases h
  | a :: A, b :: B, h => by
    simp only [List.map_cons, List.cons.injEq] at h
    rw [str_inj h.1, map_str_inj h.2]
theorem eq52_any (w : World) (a b : Value) (A B : List Bs) (ha : Ss w a A) (hb : Ss w b B) :
    Calls Tryd.prog 52 #[a, b] w fun ev w' => ev = .returned (.bool (decide (A = B))) ∧ Below w.heap.size w w' := by
  obtain ⟨ao, ca, rfl, a1, a2, a3⟩ := ha.shape
  obtain ⟨bo, cb, rfl, b1, b2, b3⟩ := hb.shape
  by_cases hl : A.length = B.length
  · by_cases h0 : A.length = 0
    · have hA : A = [] := List.length_eq_zero_iff.1 h0
      have hB : B = [] := List.length_eq_zero_iff.1 (by omega)
      subst hA hB
      refine (Tryd.slices_Equal_string_empty ao bo ca 0 cb w (by decide)).mono ?_
      rintro _ _ ⟨rfl, rfl⟩
      exact ⟨rfl, Below.refl _ _⟩
    · obtain ⟨p, o, rfl, -⟩ := a3 0 (by omega)
      obtain ⟨p', o', rfl, -⟩ := b3 0 (by omega)
      refine (Tryd.slices_Equal_string p o A.length ca p' o' B.length cb (A.map str) (B.map str) w (by simp) (by simp) (by omega) (by omega) ?_ ?_).mono ?_
      · intro j hj
        rw [List.length_map] at hj
        obtain ⟨q, r, e, h⟩ := a3 j hj
        cases e
        rw [h, getD_eq A j [] hj, getD_eq (A.map str) j _ (by simpa using hj), List.getElem_map]
      · intro j hj
        rw [List.length_map] at hj
        obtain ⟨q, r, e, h⟩ := b3 j hj
        cases e
        rw [h, getD_eq B j [] hj, getD_eq (B.map str) j _ (by simpa using hj), List.getElem_map]
      · rintro _ _ ⟨rfl, q, rfl⟩
        refine ⟨?_, below_drewN (Below.refl _ _) q⟩
        have e : ((A.map str).take A.length = (B.map str).take B.length) ↔ A = B := by
          rw [List.take_of_length_le (by simp), List.take_of_length_le (by simp)]
          exact ⟨map_str_inj, fun h => by rw [h]⟩
        rw [decide_eq_decide.2 e]
  · refine (eq52_ne w ao bo A.length ca B.length cb hl).mono ?_
    rintro _ _ ⟨rfl, rfl⟩
    exact ⟨by rw [decide_eq_false (fun e => hl (by rw [e]))], Below.refl _ _⟩

set_option maxHeartbeats 4000000 in
set_option maxRecDepth 20000 in
theorem same40_any (w : World) (x y : Src) (a b : Value) (ha : Ss w a x.deps) (hb : Ss w b y.deps) :
    Calls Tryd.prog 40 #[.agg #[.string (str x.name), a, .string (str x.text)], .agg #[.string (str y.name), b, .string (str y.text)]] w fun ev w' => ev = .returned (.bool (eqS x y)) ∧ Below w.heap.size w w' := by
  obtain ⟨W, hW⟩ : ∃ W, W = (w.alloc (.cells #[.string (str x.name), a, .string (str x.text)] 43)).alloc (.cells #[.string (str y.name), b, .string (str y.text)] 43) := ⟨_, rfl⟩
  have hs : (w.alloc (.cells #[.string (str x.name), a, .string (str x.text)] 43)).heap.size = w.heap.size + 1 := by show (w.heap.push _).size = _; rw [Array.size_push]
  have B1 : Below w.heap.size w (w.alloc (.cells #[.string (str x.name), a, .string (str x.text)] 43)) := (Below.refl _ _).alloc (Nat.le_refl _) _
  have B2 : Below (w.heap.size + 1) (w.alloc (.cells #[.string (str x.name), a, .string (str x.text)] 43)) W := by rw [hW]; exact (Below.refl _ _).alloc (by omega) _
  have R1 := Row.new w 43 [.string (str x.name), a, .string (str x.text)]
  have R2 := Row.new (w.alloc (.cells #[.string (str x.name), a, .string (str x.text)] 43)) 43 [.string (str y.name), b, .string (str y.text)]
  rw [hs] at R2
  rw [← hs] at B2
  have BW : Below w.heap.size w W := nextB B1 B2
  have c0 : W.cell? ⟨w.heap.size, 0, none⟩ = some (.string (str x.name)) := Below.cellOf B2 (R1.cell 0)
  have c1 : W.cell? ⟨w.heap.size, 1, none⟩ = some a := Below.cellOf B2 (R1.cell 1)
  have c2 : W.cell? ⟨w.heap.size, 2, none⟩ = some (.string (str x.text)) := Below.cellOf B2 (R1.cell 2)
  have d0 : W.cell? ⟨w.heap.size + 1, 0, none⟩ = some (.string (str y.name)) := by rw [hW]; exact R2.cell 0
  have d1 : W.cell? ⟨w.heap.size + 1, 1, none⟩ = some b := by rw [hW]; exact R2.cell 1
  have d2 : W.cell? ⟨w.heap.size + 1, 2, none⟩ = some (.string (str y.text)) := by rw [hW]; exact R2.cell 2
  have E := hid0 (eq52_any W a b _ _ (ha.below BW) (hb.below BW))
  have HC : Hid (∀ w', Below W.heap.size W w' → (w'.cell? ⟨w.heap.size, 2, none⟩ = some (.string (str x.text)) ∧ w'.cell? ⟨w.heap.size + 1, 2, none⟩ = some (.string (str y.text))) ∧ Below w.heap.size w w') := fun w' h => ⟨⟨Below.cellOf h c2, Below.cellOf h d2⟩, nextB BW h⟩
  have HB := hid0 BW
  have b1 := str_beq x.name y.name
  have b3 := str_beq x.text y.text
  clear B1 B2 R1 R2 BW ha hb
  by_cases h1 : x.name = y.name
  · rw [decide_eq_true h1] at b1
    by_cases h2 : x.deps = y.deps
    · rw [decide_eq_true h2] at E
      by_cases h3 : x.text = y.text
      · have HE := hid0 (src_eq h1 h2 h3)
        rw [decide_eq_true h3] at b3
        rw [eqS_true HE.out]
        clear h1 h2 h3 HE
        generalize str x.name = X0 at *
        generalize str y.name = Y0 at *
        generalize str x.text = X2 at *
        generalize str y.text = Y2 at *
        go_enter Tryd.func40, Tryd.ntmps40
        go_wp2_with fail
        rw [← hW]
        clear hW
        go_wp2_with fail
        refine E.out.mono ?_
        rintro ev w3 ⟨rfl, p3⟩
        obtain ⟨⟨e1, e2⟩, p4⟩ := HC.out w3 p3
        have A4 := aside0 p4
        clear c0 c1 c2 d0 d1 d2 p3 p4 HC
        go_wp2_with fail
        go_ret
        exact ⟨rfl, A4.out⟩
      · have HE : Hid (x ≠ y) := fun e => h3 (by rw [e])
        rw [decide_eq_false h3] at b3
        rw [eqS_false HE.out]
        clear h1 h2 h3 HE
        generalize str x.name = X0 at *
        generalize str y.name = Y0 at *
        generalize str x.text = X2 at *
        generalize str y.text = Y2 at *
        go_enter Tryd.func40, Tryd.ntmps40
        go_wp2_with fail
        rw [← hW]
        clear hW
        go_wp2_with fail
        refine E.out.mono ?_
        rintro ev w3 ⟨rfl, p3⟩
        obtain ⟨⟨e1, e2⟩, p4⟩ := HC.out w3 p3
        have A4 := aside0 p4
        clear c0 c1 c2 d0 d1 d2 p3 p4 HC
        go_wp2_with fail
        go_ret
        exact ⟨rfl, A4.out⟩
    · have HE : Hid (x ≠ y) := fun e => h2 (by rw [e])
      rw [decide_eq_false h2] at E
      rw [eqS_false HE.out]
      clear h1 h2 HE b3
      generalize str x.name = X0 at *
      generalize str y.name = Y0 at *
      generalize str x.text = X2 at *
      generalize str y.text = Y2 at *
      go_enter Tryd.func40, Tryd.ntmps40
      go_wp2_with fail
      rw [← hW]
      clear hW
      go_wp2_with fail
      refine E.out.mono ?_
      rintro ev w3 ⟨rfl, p3⟩
      obtain ⟨⟨e1, e2⟩, p4⟩ := HC.out w3 p3
      have A4 := aside0 p4
      clear c0 c1 c2 d0 d1 d2 p3 p4 HC
      go_wp2_with fail
      go_ret
      exact ⟨rfl, A4.out⟩
  · have HE : Hid (x ≠ y) := fun e => h1 (by rw [e])
    rw [decide_eq_false h1] at b1
    rw [eqS_false HE.out]
    clear h1 HE b3 E
    generalize str x.name = X0 at *
    generalize str y.name = Y0 at *
    generalize str x.text = X2 at *
    generalize str y.text = Y2 at *
    go_enter Tryd.func40, Tryd.ntmps40
    go_wp2_with fail
    rw [← hW]
    clear hW
    go_wp2_with fail
    go_ret
    exact ⟨rfl, HB.out⟩

theorem size_alloc1 (w : World) (o : Obj) : (w.alloc o).heap.size = w.heap.size + 1 := by show (w.heap.push _).size = _; rw [Array.size_push]
set_option maxHeartbeats 8000000 in
set_option maxRecDepth 20000 in
theorem eqf_any (w : World) (a b : Value) (A B : List Src) (ha : Srs w a A) (hb : Srs w b B) :
    Calls Tryd.prog 39 #[a, b, .func (.func 40) #[] #[]] w fun ev w' => ev = .returned (.bool (eqL A B)) ∧ Below w.heap.size w w' := by
  obtain ⟨ao, ca, rfl, a1, a2, a3⟩ := ha.shape
  obtain ⟨bo, cb, rfl, b1, b2, b3⟩ := hb.shape
  have HA := hid0 a3
  have HB := hid0 b3
  clear ha hb a3 b3
  by_cases hl : A.length = B.length
  · rw [← hl] at b1 b2 HB ⊢
    obtain ⟨n, hn⟩ : ∃ n, n = A.length := ⟨_, rfl⟩
    have AN := aside0 hn
    rw [← hn] at a1 a2 b1 b2 HA HB ⊢
    clear hn
    go_enter Tryd.func39, Tryd.ntmps39
    go_wp2_with fail
    go_loopw [17] (fun i wr => ∃ k : Nat, k ≤ n ∧ i = .int .i64 k ∧ (∀ j, j < k → A.getD j Src.zero = B.getD j Src.zero) ∧ Below w.heap.size w wr) (fun i _ => n - (intOf i).toNat)
    case atStart => exact ⟨0, by omega, rfl, fun j h => by omega, Below.refl _ _⟩
    case round =>
      obtain ⟨k, hk, rfl, hj, hbw⟩ := hrel
      have HJ := hid0 hj
      have HW := aside0 hbw
      clear hj hbw
      by_cases h3 : k < n
      · obtain ⟨p, o, dv, rfl, q0, q1, q2, qs⟩ := HA.out k h3
        obtain ⟨p', o', dv', rfl, r0, r1, r2, rs⟩ := HB.out k h3
        generalize hxa : A.getD k Src.zero = xa at *
        generalize hxb : B.getD k Src.zero = xb at *
        obtain ⟨da, dc, hdv, -⟩ := qs.shape
        obtain ⟨da', dc', hdv', -⟩ := rs.shape
        have c0 := Below.cellOf HW.out q0
        have c1 := Below.cellOf HW.out q1
        have c2 := Below.cellOf HW.out q2
        have hA1 : Below wr.heap.size wr (wr.alloc (.cells #[.string ⟨#[]⟩, .slice none 0 0, .string ⟨#[]⟩] 43)) := (Below.refl _ _).alloc (Nat.le_refl _) _
        have G1 := (Row.new wr 43 [.string ⟨#[]⟩, .slice none 0 0, .string ⟨#[]⟩]).heap
        obtain ⟨W, hW⟩ : ∃ W, W = (wr.alloc (.cells #[.string ⟨#[]⟩, .slice none 0 0, .string ⟨#[]⟩] 43)).setRow wr.heap.size #[.string (str xa.name), dv, .string (str xa.text)] := ⟨_, rfl⟩
        have G2 : (#[Value.string (str xa.name), dv, Value.string (str xa.text)].all (·.oneCell')) = true := by simp [Value.oneCell', hdv]
        have RW : Row W wr.heap.size 43 [.string (str xa.name), dv, .string (str xa.text)] := by rw [hW]; exact (Row.new wr 43 [.string ⟨#[]⟩, .slice none 0 0, .string ⟨#[]⟩]).setRow _
        have BW : Below wr.heap.size wr W := by rw [hW]; exact below_setRow hA1 (Nat.le_refl _) _
        have BW' := nextB HW.out BW
        have d0 := Below.cellOf BW' r0
        have d1 := Below.cellOf BW' r1
        have d2 := Below.cellOf BW' r2
        have hA2 : Below W.heap.size W (W.alloc (.cells #[.string ⟨#[]⟩, .slice none 0 0, .string ⟨#[]⟩] 43)) := (Below.refl _ _).alloc (Nat.le_refl _) _
        have G3 := (Row.new W 43 [.string ⟨#[]⟩, .slice none 0 0, .string ⟨#[]⟩]).heap
        obtain ⟨V, hV⟩ : ∃ V, V = (W.alloc (.cells #[.string ⟨#[]⟩, .slice none 0 0, .string ⟨#[]⟩] 43)).setRow W.heap.size #[.string (str xb.name), dv', .string (str xb.text)] := ⟨_, rfl⟩
        have G4 : (#[Value.string (str xb.name), dv', Value.string (str xb.text)].all (·.oneCell')) = true := by simp [Value.oneCell', hdv']
        have RV : Row V W.heap.size 43 [.string (str xb.name), dv', .string (str xb.text)] := by rw [hV]; exact (Row.new W 43 [.string ⟨#[]⟩, .slice none 0 0, .string ⟨#[]⟩]).setRow _
        have BV : Below W.heap.size W V := by rw [hV]; exact below_setRow hA2 (Nat.le_refl _) _
        have BV' := nextB BW' BV
        have e0 : V.cell? ⟨wr.heap.size, 0, none⟩ = some (.string (str xa.name)) := Below.cellOf BV (RW.cell 0)
        have e1 : V.cell? ⟨wr.heap.size, 1, none⟩ = some dv := Below.cellOf BV (RW.cell 1)
        have e2 : V.cell? ⟨wr.heap.size, 2, none⟩ = some (.string (str xa.text)) := Below.cellOf BV (RW.cell 2)
        have g0 : V.cell? ⟨W.heap.size, 0, none⟩ = some (.string (str xb.name)) := RV.cell 0
        have g1 : V.cell? ⟨W.heap.size, 1, none⟩ = some dv' := RV.cell 1
        have g2 : V.cell? ⟨W.heap.size, 2, none⟩ = some (.string (str xb.text)) := RV.cell 2
        have C := hid0 (same40_any V xa xb dv dv' (qs.below BV') (rs.below BV'))
        have l1 : (k : Int) < (n : Int) := by omega
        have AV' := aside0 BV'
        have AW := aside0 hW
        have AV := aside0 hV
        clear q0 q1 q2 r0 r1 r2 qs rs hA1 hA2 hW hV RW RV BW BW' BV BV' HA HB hdv hdv'
        by_cases he : xa = xb
        · have HP : Hid (∀ j, j < k + 1 → A.getD j Src.zero = B.getD j Src.zero) := by
            intro j hj
            rcases Nat.lt_or_ge j k with h | h
            · exact HJ.out j h
            · obtain rfl : j = k := by omega
              rw [hxa, hxb, he]
          rw [eqS_true he] at C
          clear he HJ hxa hxb
          generalize str xa.name = X0 at *
          generalize str xa.text = X2 at *
          generalize str xb.name = Y0 at *
          generalize str xb.text = Y2 at *
          go_wp2_with (first | (refine wpList_store_row rfl 43 _ _ rfl wr.heap.size #[.string X0, dv, .string X2] rfl rfl 43 _ G1 Tryd.info43 rfl G2 ?_; rw [← AW.out]; clear c0 c1 c2) | (refine wpList_store_row rfl 43 _ _ rfl W.heap.size #[.string Y0, dv', .string Y2] rfl rfl 43 _ G3 Tryd.info43 rfl G4 ?_; rw [← AV.out]; clear d0 d1 d2))
          refine C.out.mono ?_
          rintro ev w5 ⟨rfl, hb5⟩
          have HB5 := aside0 (nextB AV'.out hb5)
          clear C hb5 e0 e1 e2 g0 g1 g2
          go_wp2_with fail
          go_roundw
          case rel => exact ⟨k + 1, by omega, by go_num, HP.out, HB5.out⟩
          case measure => simp [intOf]; omega
        · have HP : Hid (A ≠ B) := fun e => he (by rw [← hxa, ← hxb, e])
          rw [eqS_false he] at C
          clear he HJ hxa hxb
          generalize str xa.name = X0 at *
          generalize str xa.text = X2 at *
          generalize str xb.name = Y0 at *
          generalize str xb.text = Y2 at *
          go_wp2_with (first | (refine wpList_store_row rfl 43 _ _ rfl wr.heap.size #[.string X0, dv, .string X2] rfl rfl 43 _ G1 Tryd.info43 rfl G2 ?_; rw [← AW.out]; clear c0 c1 c2) | (refine wpList_store_row rfl 43 _ _ rfl W.heap.size #[.string Y0, dv', .string Y2] rfl rfl 43 _ G3 Tryd.info43 rfl G4 ?_; rw [← AV.out]; clear d0 d1 d2))
          refine C.out.mono ?_
          rintro ev w5 ⟨rfl, hb5⟩
          have HB5 := aside0 (nextB AV'.out hb5)
          clear C hb5 e0 e1 e2 g0 g1 g2
          go_wp2_with fail
          go_ret
          exact ⟨by rw [eqL_false HP.out]; rfl, HB5.out⟩
      · have l1 : ¬ (k : Int) < (n : Int) := by omega
        have HP : Hid (A = B) := lists_eq Src.zero hl (fun i hi => HJ.out i (by rw [← AN.out] at hi; omega))
        go_wp2_with fail
        go_ret
        exact ⟨by rw [eqL_true HP.out]; rfl, HW.out⟩
  · have HP : Hid (A ≠ B) := fun e => hl (by rw [e])
    have l1 : ((A.length : Int) == (B.length : Int)) = false := by simp; omega
    have l2 : (A.length : Int) ≠ (B.length : Int) := by omega
    clear hl HA HB
    generalize A.length = n at *
    generalize B.length = m at *
    go_enter Tryd.func39, Tryd.ntmps39
    go_wp2_with fail
    go_ret
    exact ⟨by rw [eqL_false HP.out]; rfl, Below.refl _ _⟩
end Go.Proofs.YtmfdmpfeoppnfaaDoor
