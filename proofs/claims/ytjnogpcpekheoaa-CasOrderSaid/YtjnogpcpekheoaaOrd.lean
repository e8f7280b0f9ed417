/-
  CasOrder' walk.
-/
import Derived.Test.YtjnogpcpekheoaaTwo
import Derived.Test.YtjnogpcpekheoaaCls
namespace Go.Proofs.Ytjnogpcpekheoaa
open Go.RowKit Go.Maps

attribute [local go_sem ↓] Go.wp_at_zero Go.wp_at_succ
set_option maxHeartbeats 32000000 in
set_option maxRecDepth 20000 in
theorem order_walk (w : World) (v : Value) (n : Nat) (f : Nat → Bys) (fv : Nat → Value) (hL : Ls w v n f fv) : Calls Try.prog 6 #[v] w fun ev w' => ev = .returned (.bool true) ∧ Below w.heap.size w w' := by
  obtain ⟨F, hE⟩ : ∃ F, FEnv F := ⟨sumF, fenv_any⟩
  have E : Hid (FEnv F) := hE
  clear hE
  have hmax := hL.max
  by_cases hbig : 16 < n
  · have hbig2 : (16 : Int) < (n : Int) := by omega
    obtain ⟨b1, of1, cp, rfl, hcap⟩ : ∃ b0 off cp, v = .slice (some ⟨b0, off, none⟩) n cp ∧ n ≤ cp := by
      rcases hL.shape with ⟨_, _, _, h0⟩ | ⟨b, off, cap, h, hcap, _⟩
      · omega
      · exact ⟨b, off, cap, h, hcap⟩
    have A : Aside (Ls w (.slice (some ⟨b1, of1, none⟩) 16 cp) 16 f fv) := hL.head (by omega) (by omega)
    have hcap2 : (16 : Int) ≤ (cp : Int) := by omega
    clear hL hcap
    go_enter Try.func6, Try.ntmps6
    go_wp2_with fail
    have HI : Hid (Below w.heap.size w w) := Below.refl _ _
    go_loopw [3] (fun i wr => ∃ m : Nat, m ≤ 16 ∧ i = .int .i64 m ∧ Below w.heap.size w wr ∧ (∀ q, q < m → (f q).length ≤ 200) ∧ ∀ q q', q < m → q' < q → f q ≠ f q' → F (f q) ≠ F (f q')) (fun i _ => 16 - (intOf i).toNat)
    case atStart => exact ⟨0, by omega, rfl, HI.out, fun q h => by omega, fun q q' h => by omega⟩
    case round =>
      obtain ⟨m, hm, rfl, hB, hsh, hap⟩ := hrel
      clear HI
      by_cases hmn : m < 16
      · have hlt : (m : Int) < (16 : Int) := by omega
        have hcell : ∀ i, i < 16 → w.cell? ⟨b1, of1 + i, none⟩ = some (fv i) := by
          rcases A.out.shape with ⟨_, _, _, h0⟩ | ⟨b2, of2, cap, h, hcap, hc⟩
          · omega
          · cases h; exact hc
        have HL : Hid (∀ y, Below w.heap.size w y → ∀ i, i < 16 → y.cell? ⟨b1, of1 + i, none⟩ = some (fv i) ∧ Sl y (fv i) (f i)) := fun y hy i hi =>
          ⟨(hy.cell (p := ⟨b1, of1 + i, none⟩) (World.block_lt_of_cell? w _ (hcell i hi))).trans (hcell i hi), (A.out.each i hi).1.below hy⟩
        clear hcell
        obtain ⟨c0, hsl0⟩ := HL.out wr hB m hmn
        obtain ⟨am, cpm, hfm⟩ := sl_slice hsl0
        rw [hfm] at c0
        by_cases hlen : (f m).length ≤ 200
        · have hlen2 : ¬ (200 : Int) < ((f m).length : Int) := by omega
          have HSH : Hid (∀ q, q < m + 1 → (f q).length ≤ 200) := fun q hq => by
            by_cases e : q = m
            · subst e; exact hlen
            · exact hsh q (by omega)
          have HAP : Hid (∀ q q', q < m → q' < q → f q ≠ f q' → F (f q) ≠ F (f q')) := hap
          have HBW : Hid (Below w.heap.size w wr) := hB
          clear hsh hap hsl0 hB
          go_wp2_with fail
          generalize hWR : wr = wA at *
          clear hWR
          go_loopw [4] (fun i wi => ∃ j : Nat, j ≤ m ∧ i = .int .i64 j ∧ Below w.heap.size w wi ∧ ∀ q, q < j → f m ≠ f q → F (f m) ≠ F (f q)) (fun i _ => m - (intOf i).toNat)
          case atStart => exact ⟨0, by omega, rfl, HBW.out, fun q h => by omega⟩
          case round =>
            obtain ⟨j, hj, rfl, hbi, hne⟩ := hrel
            clear HBW
            by_cases hjm : j < m
            · have hlt3 : (j : Int) < (m : Int) := by omega
              have hlt4 : (j : Int) < (16 : Int) := by omega
              obtain ⟨cm, hslm⟩ := HL.out wr hbi m hmn
              obtain ⟨cj, hslj⟩ := HL.out wr hbi j (by omega)
              obtain ⟨aoj, cpj, hfj⟩ := sl_slice hslj
              rw [hfm] at cm hslm
              rw [hfj] at cj hslj
              have hlj : (f j).length ≤ 200 := HSH.out j (by omega)
              have vm : ∀ y, Below wr.heap.size wr y → (convert 33 9 (.slice am (f m).length cpm)).run Try.prog y = .ok (.string (str (f m))) y := fun y hy => conv_sl y _ _ (hslm.below hy)
              have vj : ∀ y, Below wr.heap.size wr y → (convert 33 9 (.slice aoj (f j).length cpj)).run Try.prog y = .ok (.string (str (f j))) y := fun y hy => conv_sl y _ _ (hslj.below hy)
              have HS : Hid (∀ y, Below wr.heap.size wr y → (Below wr.heap.size wr y ∧ y.cell? ⟨b1, of1 + m, none⟩ = some (.slice am (f m).length cpm) ∧ y.cell? ⟨b1, of1 + j, none⟩ = some (.slice aoj (f j).length cpj))) := fun y hy =>
                ⟨hy, (hy.cell (p := ⟨b1, of1 + m, none⟩) (World.block_lt_of_cell? wr _ cm)).trans cm, (hy.cell (p := ⟨b1, of1 + j, none⟩) (World.block_lt_of_cell? wr _ cj)).trans cj⟩
              have q0 := HS.out wr.drew (Below.refl _ _).drew
              by_cases hfe : f m = f j
              · have hSe : str (f m) = str (f j) := by rw [hfe]
                have HQ : Hid (∀ q, q < j + 1 → f m ≠ f q → F (f m) ≠ F (f q)) := fun q h h' => by
                  by_cases e : q = j
                  · subst e; exact absurd hfe h'
                  · exact hne q (by omega) h'
                rw [hSe] at vm
                have vmn := fun nn => vm (wr.drewN nn) (below_drewN (Below.refl _ _) nn)
                have vjn := fun nn => vj (wr.drewN nn) (below_drewN (Below.refl _ _) nn)
                clear hne hfe hSe hslm hslj hlj vm vj q0 HS
                generalize (f m).length = lm at *
                generalize (f j).length = lj at *
                generalize str (f j) = Sj at *
                go_wp2_with fail
                go_quiet (fail)
                go_wp2_with fail
                go_roundw
                case rel => exact ⟨j + 1, by omega, by go_num, below_drewN hbi _, HQ.out⟩
                case measure => simp [intOf]; omega
              · have hSe := str_apart hfe
                have C1 : Hid (∀ y, (Below wr.heap.size wr y ∧ y.cell? ⟨b1, of1 + m, none⟩ = some (.slice am (f m).length cpm) ∧ y.cell? ⟨b1, of1 + j, none⟩ = some (.slice aoj (f j).length cpj)) → Calls Try.prog 14 #[.slice am (f m).length cpm] y fun ev w' => ev = .returned (.agg (bys (F (f m))).toArray) ∧ (Below wr.heap.size wr w' ∧ w'.cell? ⟨b1, of1 + m, none⟩ = some (.slice am (f m).length cpm) ∧ w'.cell? ⟨b1, of1 + j, none⟩ = some (.slice aoj (f j).length cpj))) := fun y h => by
                  refine (E.out.sum y _ _ (hslm.below h.1) hlen).mono ?_
                  rintro ev w' ⟨rfl, hb⟩
                  exact ⟨rfl, HS.out _ (h.1.trans (hb.mono h.1.size))⟩
                have C2 : Hid (∀ y, (Below wr.heap.size wr y ∧ y.cell? ⟨b1, of1 + m, none⟩ = some (.slice am (f m).length cpm) ∧ y.cell? ⟨b1, of1 + j, none⟩ = some (.slice aoj (f j).length cpj)) → Calls Try.prog 14 #[.slice aoj (f j).length cpj] y fun ev w' => ev = .returned (.agg (bys (F (f j))).toArray) ∧ (Below wr.heap.size wr w' ∧ w'.cell? ⟨b1, of1 + m, none⟩ = some (.slice am (f m).length cpm) ∧ w'.cell? ⟨b1, of1 + j, none⟩ = some (.slice aoj (f j).length cpj))) := fun y h => by
                  refine (E.out.sum y _ _ (hslj.below h.1) hlj).mono ?_
                  rintro ev w' ⟨rfl, hb⟩
                  exact ⟨rfl, HS.out _ (h.1.trans (hb.mono h.1.size))⟩
                have he := fun y => E.out.eq y (f m) (f j)
                clear hslm hslj hlj HS
                by_cases hq : F (f m) = F (f j)
                · rw [show (F (f m) == F (f j)) = true by rw [hq]; simp] at he
                  clear hne hq hfe
                  generalize (bys (F (f m))).toArray = Y1 at *
                  generalize (bys (F (f j))).toArray = Y2 at *
                  generalize (f m).length = lm at *
                  generalize (f j).length = lj at *
                  generalize str (f j) = Sj at *
                  generalize str (f m) = Sm at *
                  go_wp2_with fail
                  go_region_held3 (fun y => Below wr.heap.size wr y ∧ y.cell? ⟨b1, of1 + m, none⟩ = some (.slice am lm cpm) ∧ y.cell? ⟨b1, of1 + j, none⟩ = some (.slice aoj lj cpj)) (assumption) (first
                    | (go_at_call_of 14 am; refine (C1.out _ (by assumption)).mono ?_; rintro ev w3 ⟨rfl, hS3⟩) | (go_at_call_of 14 aoj; refine (C2.out _ (by assumption)).mono ?_; rintro ev w4 ⟨rfl, hS4⟩))
                  clear C1 C2 vm vj q0
                  go_wp2_with (first | (go_at_call 9; refine (E.out.told _).mono ?_; rintro ev w5 ⟨rfl, hb5⟩))
                  go_ret
                  have h4 := hbi.trans (hS4.1.mono hbi.size)
                  exact ⟨rfl, h4.trans (hb5.mono h4.size)⟩
                · rw [show (F (f m) == F (f j)) = false by simpa using hq] at he
                  have HQ : Hid (∀ q, q < j + 1 → f m ≠ f q → F (f m) ≠ F (f q)) := fun q h h' => by
                    by_cases e : q = j
                    · subst e; exact hq
                    · exact hne q (by omega) h'
                  clear hne hq hfe
                  generalize (bys (F (f m))).toArray = Y1 at *
                  generalize (bys (F (f j))).toArray = Y2 at *
                  generalize (f m).length = lm at *
                  generalize (f j).length = lj at *
                  generalize str (f j) = Sj at *
                  generalize str (f m) = Sm at *
                  go_wp2_with fail
                  go_region_held3 (fun y => Below wr.heap.size wr y ∧ y.cell? ⟨b1, of1 + m, none⟩ = some (.slice am lm cpm) ∧ y.cell? ⟨b1, of1 + j, none⟩ = some (.slice aoj lj cpj)) (assumption) (first
                    | (go_at_call_of 14 am; refine (C1.out _ (by assumption)).mono ?_; rintro ev w3 ⟨rfl, hS3⟩) | (go_at_call_of 14 aoj; refine (C2.out _ (by assumption)).mono ?_; rintro ev w4 ⟨rfl, hS4⟩))
                  clear C1 C2 vm vj q0
                  go_wp2_with fail
                  go_roundw
                  case rel => exact ⟨j + 1, by omega, by go_num, hbi.trans (hS4.1.mono hbi.size), HQ.out⟩
                  case measure => simp [intOf]; omega
            · have hlt3 : ¬ (j : Int) < (m : Int) := by omega
              obtain rfl : j = m := by omega
              have HAX : Hid (∀ q q', q < j + 1 → q' < q → f q ≠ f q' → F (f q) ≠ F (f q')) := fun q q' h h' => by
                by_cases e : q = j
                · subst e; exact hne q' h'
                · exact HAP.out q q' (by omega) h'
              clear hne HAP
              go_wp2_with fail
              go_roundw
              case rel => exact ⟨j + 1, by omega, by go_num, hbi, HSH.out, HAX.out⟩
              case measure => simp [intOf]; omega
        · have hlen2 : (200 : Int) < ((f m).length : Int) := by omega
          have C9 := E.out.told wr
          clear hsl0 hsh hap
          go_wp2_with (first | (go_at_call 9; refine C9.mono ?_; rintro ev w2 ⟨rfl, hb2⟩))
          go_ret
          exact ⟨rfl, hB.trans (hb2.mono hB.size)⟩
      · obtain rfl : 16 = m := by omega
        have hlt : ¬ ((16 : Nat) : Int) < (16 : Int) := by omega
        have HSH : Hid (∀ q, q < 16 → (f q).length ≤ 200) := hsh
        have HAP : Hid (∀ q q', q < 16 → q' < 16 → f q ≠ f q' → F (f q) ≠ F (f q')) := fun q q' h h' hne => by
          rcases Nat.lt_trichotomy q q' with h1 | h1 | h1
          · exact fun e => hap q' q h' h1 (fun e' => hne e'.symm) e.symm
          · subst h1; exact absurd rfl hne
          · exact hap q q' h h1 hne
        clear hsh hap
        have C8 := E.out.new w wr 16 hB (by omega) (by omega)
        go_wp2_with (first | (go_at_call 8; refine C8.mono ?_; rintro ev w2 ⟨sa, ba, TA, rfl, EA, LA, hTA, hba, hb2⟩; have hB2 := hB.trans (hb2.mono hB.size); have D8 := E.out.new w w2 16 hB2 (by omega) (by omega); have HA2 : Hid (SEnv w 16 sa ba F TA ∧ SList sa F TA ∧ TA (fun _ => False) [] w2) := ⟨EA, LA, hTA⟩; clear C8 EA LA hTA) | (go_at_call 8; refine D8.mono ?_; rintro ev w3 ⟨sb, bb, TB, rfl, EB, LB, hTB, hbb, hb3⟩; have HB2 : Hid (SEnv w 16 sb bb F TB ∧ SList sb F TB ∧ TB (fun _ => False) [] w3) := ⟨EB, LB, hTB⟩; clear D8 EB LB hTB))
        obtain ⟨R, hTE, hR0⟩ : ∃ R, TEnv w F sa sb R ∧ R [] [] w3 := ⟨_, tenv_of HA2.out.1 HB2.out.1 HA2.out.2.1 HB2.out.2.1 (by have := HA2.out.1.lt _ _ _ HA2.out.2.2; omega), HA2.out.1.keep _ _ _ _ HA2.out.2.2 hb3, HB2.out.2.2, hB2.trans (hb3.mono hB2.size)⟩
        have TE : Hid (TEnv w F sa sb R) := hTE
        have HI2 : Hid (OrRel 16 f R 0 w3) := or_zero hR0
        clear hTE hR0 HA2 HB2 hB2 hb3 hb2 hB hbb hba
        go_loopw [9] (fun i wr => ∃ m : Nat, m ≤ 16 ∧ i = .int .i64 m ∧ OrRel 16 f R m wr) (fun i _ => 16 - (intOf i).toNat)
        case atStart => exact ⟨0, by omega, rfl, HI2.out⟩
        case round =>
          obtain ⟨m, hm, rfl, hR⟩ := hrel
          clear HI2
          by_cases hmn : m < 16
          · have hlt2 : (m : Int) < (16 : Int) := by omega
            have hcell : ∀ i, i < 16 → w.cell? ⟨b1, of1 + i, none⟩ = some (fv i) := by
              rcases A.out.shape with ⟨_, _, _, h0⟩ | ⟨b2, of2, cap, h, hcap, hc⟩
              · omega
              · cases h; exact hc
            have HL : Hid (∀ y, Below w.heap.size w y → ∀ i, i < 16 → y.cell? ⟨b1, of1 + i, none⟩ = some (fv i) ∧ Sl y (fv i) (f i)) := fun y hy i hi =>
              ⟨(hy.cell (p := ⟨b1, of1 + i, none⟩) (World.block_lt_of_cell? w _ (hcell i hi))).trans (hcell i hi), (A.out.each i hi).1.below hy⟩
            clear hcell
            obtain ⟨A1, B1, hR1, hA1, hB1, mA1, mB1⟩ := hR
            obtain ⟨cm, hslm⟩ := HL.out wr (TE.out.below _ _ _ hR1) m hmn
            obtain ⟨am, cpm, hfm⟩ := sl_slice hslm
            rw [hfm] at cm hslm
            have C10 := TE.out.put wr _ A1 B1 (f m) hR1 hslm (HSH.out m hmn) (fun a ha hne => by
              obtain ⟨q, hq, rfl⟩ := (mA1 a).1 ha
              exact HAP.out m q hmn (by omega) hne) (by omega)
            have hk : 16 - 1 - m < 16 := by omega
            have hi1 : IntKind.i64.wrap ((16 : Int) - 1) = ((16 - 1 : Nat) : Int) := by rw [IntKind.wrap_i64]; omega
            have hi2 : IntKind.i64.wrap (((16 - 1 : Nat) : Int) - (m : Int)) = ((16 - 1 - m : Nat) : Int) := by rw [IntKind.wrap_i64]; omega
            obtain ⟨ak, cpk, hfk⟩ := sl_slice (A.out.each (16 - 1 - m) hk).1
            have HM : Hid (A1.length ≤ m ∧ B1.length ≤ m ∧ (∀ z, z ∈ A1 ↔ ∃ q, q < m ∧ z = f q) ∧ ∀ z, z ∈ B1 ↔ ∃ q, q < 16 ∧ 16 ≤ q + m ∧ z = f q) := ⟨hA1, hB1, mA1, mB1⟩
            have HX : Hid (∀ A' y, R A' B1 y → (y.cell? ⟨b1, of1 + (16 - 1 - m), none⟩ = some (.slice ak (f (16 - 1 - m)).length cpk)) ∧ (Calls Try.prog 14 #[.slice ak (f (16 - 1 - m)).length cpk] y fun ev w' => ev = .returned (.agg (bys (F (f (16 - 1 - m)))).toArray) ∧ Below y.heap.size y w') ∧ Calls Try.prog 13 #[.pointer (some ⟨sb, 0, none⟩), .agg (bys (F (f (16 - 1 - m)))).toArray, .slice ak (f (16 - 1 - m)).length cpk] y fun ev w' => ∃ B', ev = .returned .nilIface ∧ R A' B' w' ∧ (∀ z, z ∈ B' ↔ z ∈ B1 ∨ z = f (16 - 1 - m)) ∧ B'.length ≤ B1.length + 1) := fun A' y hy => by
              obtain ⟨ck, hslk⟩ := HL.out y (TE.out.below _ _ _ hy) (16 - 1 - m) hk
              rw [hfk] at ck hslk
              refine ⟨ck, E.out.sum y _ _ hslk (HSH.out _ hk), TE.out.take y _ A' B1 (f (16 - 1 - m)) hy hslk (HSH.out _ hk) (fun a ha hne => ?_) (by omega)⟩
              obtain ⟨q, hq, _, rfl⟩ := (HM.out.2.2.2 a).1 ha
              exact HAP.out _ q hk hq hne
            clear hA1 hB1 mA1 mB1 hslm hfm hfk hR1 HL
            generalize (bys (F (f (16 - 1 - m)))).toArray = Yk at *
            generalize (f (16 - 1 - m)).length = lk at *
            generalize (f m).length = lm at *
            generalize hkk : 16 - 1 - m = k at *
            have hki : (k : Int) < (16 : Int) := by omega
            go_wp2_with (first | (go_at_call 10; refine C10.mono ?_; rintro ev w3 ⟨Yh, A2, rfl, hR3, mA2, hA2, hYi, hYo, hYz⟩; have hgA := heap_alloc_new w3 (.cells z25.toArray 35); have hbA : Below w3.heap.size w3 (w3.alloc (.cells z25.toArray 35)) := (Below.refl _ _).alloc (Nat.le_refl _) _; clear C10 cm) | (refine store_box rfl 35 _ _ rfl w3.heap.size Yh rfl rfl 35 z25.toArray hgA hYi hYz hYo w3 hbA ?_; intro w4 rH hb4; have hR4 := TE.out.keep _ _ _ _ hR3 hb4; have c4 := (HX.out _ _ hR4).1; have C14 := (HX.out _ _ hR4).2.1; clear hR3 hgA hbA hYi hYo hYz rH hb4) | (go_at_call 14; refine C14.mono ?_; rintro ev w5 ⟨rfl, hb5⟩; have hR5 := TE.out.keep _ _ _ _ hR4 hb5; have C13 := (HX.out _ _ hR5).2.2; clear C14 hR4 hb5 c4) | (go_at_call 13; refine C13.mono ?_; rintro ev w6 ⟨B2, rfl, hR6, mB2, hB2⟩; clear C13 hR5))
            go_roundw
            case rel => exact ⟨m + 1, by omega, by go_num, or_step hmn HM.out.1 HM.out.2.1 HM.out.2.2.1 HM.out.2.2.2 mA2 (by rw [hkk]; exact mB2) hA2 hB2 hR6⟩
            case measure => simp [intOf]; omega
          · obtain rfl : 16 = m := by omega
            have hlt2 : ¬ ((16 : Nat) : Int) < (16 : Int) := by omega
            obtain ⟨A1, B1, hR1, hA1, hMM⟩ := or_end hR
            have HMM : Hid (∀ z, z ∈ A1 ↔ z ∈ B1) := hMM
            have C20 := TE.out.listA _ _ _ hR1
            clear hR hMM HAP HSH hlt A
            go_wp2_with (first | (go_at_call 20; refine C20.mono ?_; rintro ev w4 ⟨⟨g, cap, hs, rfl, hper, hsrt, hcp, hg4, hly⟩, hb4⟩; have hR4 := TE.out.keep _ _ _ _ hR1 hb4; have D20 := TE.out.listB _ _ _ hR4; have HG : Hid (hs.Perm (A1.map F).reverse ∧ hs.Pairwise (fun a b => less a b = true) ∧ Lies w4 g hs) := ⟨hper, hsrt, hly⟩; clear C20 hper hsrt hly hR1 hb4) | (go_at_call 20; refine D20.mono ?_; rintro ev w5 ⟨⟨g2, cap2, hs2, rfl, hper2, hsrt2, hcp2, hg5, hly2⟩, hb5⟩; have hone := lists_one HMM.out HG.out.1 hper2 HG.out.2.1 hsrt2; obtain ⟨rfl, hlen2⟩ := hone; have hR5 := TE.out.keep _ _ _ _ hR4 hb5; have CA := TE.out.countA _ _ _ hR5; have CB := TE.out.countB _ _ _ hR5; rw [hlen2] at CB; have HG2 : Hid (Lies w5 g hs2 ∧ Lies w5 g2 hs2) := ⟨lies_below HG.out.2.2 hb5, hly2⟩; clear hper2 hsrt2 hly2 hlen2 D20 hb5 hR4) | (go_at_call_of 21 sa; refine CA.mono ?_; rintro ev w6 ⟨rfl, rfl⟩; clear CA) | (go_at_call_of 21 sb; refine CB.mono ?_; rintro ev w7 ⟨rfl, rfl⟩; clear CB))
            have hsm : hs2.length ≤ 16 := by have := perm_len HG.out.1; omega
            have HH : Hid (hs2.Perm (A1.map F).reverse ∧ hs2.Pairwise (fun a b => less a b = true) ∧ R A1 B1 w7 ∧ Lies w7 g hs2 ∧ Lies w7 g2 hs2) := ⟨HG.out.1, HG.out.2.1, hR5, HG2.out⟩
            have HI3 : Hid (Below w7.heap.size w7 w7) := Below.refl _ _
            clear HG HG2 hR5 hg4 hg5 hA1
            go_loopw [15] (fun i wi => ∃ q : Nat, q ≤ hs2.length ∧ i = .int .i64 q ∧ Below w7.heap.size w7 wi) (fun i _ => hs2.length - (intOf i).toNat)
            case atStart => exact ⟨0, by omega, rfl, HI3.out⟩
            case round =>
              obtain ⟨q, hq, rfl, hbq⟩ := hrel
              clear HI3
              have hBw := TE.out.below _ _ _ HH.out.2.2.1
              have HBq : Hid (Below w.heap.size w wr) := hBw.trans (hbq.mono hBw.size)
              clear hBw
              by_cases hqi : q < hs2.length
              · have hlq : (q : Int) < (hs2.length : Int) := by omega
                obtain ⟨b, hbA, hqF⟩ := perm_mem HH.out.1 hqi
                have hLi := info35L (F b) (E.out.len b)
                have hr1 := (lies_below HH.out.2.2.2.1 hbq q hqi).1
                have HR2 : Hid (∀ y, Below wr.heap.size wr y → y.rangeAt g (q * 32) (bys (F b)) ∧ y.rangeAt g2 (q * 32) (bys (F b))) := fun y hy => by
                  rw [← hqF]
                  exact ⟨range_below (lies_below HH.out.2.2.2.1 hbq q hqi).1 hy, range_below (lies_below HH.out.2.2.2.2 hbq q hqi).1 hy⟩
                rw [hqF] at hr1
                have hRq := TE.out.keep _ _ _ _ HH.out.2.2.1 hbq
                have CA := TE.out.getA _ _ _ b hRq hbA
                have CB : Hid (∀ y, Below wr.heap.size wr y → Calls Try.prog 16 #[.pointer (some ⟨sb, 0, none⟩), .agg (bys (F b)).toArray] y fun ev w' => GotRet b y ev w') := fun y hy => TE.out.getB _ _ _ b (TE.out.keep _ _ _ _ hRq hy) ((HMM.out b).1 hbA)
                have he := fun y => E.out.eq y b b
                rw [show (F b == F b) = true by simp] at he
                have HF : Hid (hs2.getD q [] = F b) := hqF
                clear hbA hqF hRq
                have HLs : Hid (∀ p, p < hs2.length → (hs2.getD p []).length = 32) := fun p hp => by
                  obtain ⟨b', _, e⟩ := perm_mem HH.out.1 hp
                  rw [e]; exact E.out.len b'
                generalize hLL : bys (F b) = L at *
                have HLL : Hid (bys (F b) = L) := hLL
                clear hLL
                go_wp2_with (first | (refine wpList_load_mid rfl 35 _ rfl g (q * 32) (by simp [Act.eval]) L _ hr1 Try.underlying35 rfl hLi ?_) | (go_at_call_of 16 sa; refine CA.mono ?_; rintro ev x1 ⟨ao1, cp1, rfl, hs1, hx1⟩; have hr2 := (HR2.out x1 hx1).1; have CBx := CB.out x1 hx1; clear CA CB hr1) | (refine wpList_load_mid rfl 35 _ rfl g (q * 32) (by simp [Act.eval]) L _ hr2 Try.underlying35 rfl hLi ?_) | (go_at_call_of 16 sb; refine CBx.mono ?_; rintro ev x2 ⟨ao2, cp2, rfl, hs22, hx2⟩; clear CBx hr2))
                have hx12 := hx1.trans (hx2.mono hx1.size)
                have vA : ∀ y, Below x2.heap.size x2 y → (convert 33 9 (.slice ao1 b.length cp1)).run Try.prog y = .ok (.string (str b)) y := fun y hy => conv_sl y _ _ ((hs1.below hx2).below hy)
                have vB : ∀ y, Below x2.heap.size x2 y → (convert 33 9 (.slice ao2 b.length cp2)).run Try.prog y = .ok (.string (str b)) y := fun y hy => conv_sl y _ _ (hs22.below hy)
                have HS2 : Hid (∀ y, Below x2.heap.size x2 y → Below x2.heap.size x2 y ∧ y.rangeAt g (q * 32) L ∧ y.rangeAt g2 (q * 32) L) := fun y hy =>
                  ⟨hy, HR2.out y (hx12.trans (hy.mono hx12.size))⟩
                have HW : Hid (∀ y, Below x2.heap.size x2 y → Below w7.heap.size w7 y) := fun y hy => (hbq.trans (hx12.mono hbq.size)).trans (hy.mono (hbq.trans (hx12.mono hbq.size)).size)
                by_cases hq0 : q = 0
                · subst hq0
                  have q0 : Below x2.heap.size x2 x2.drew ∧ x2.drew.rangeAt g (0 * 32) L ∧ x2.drew.rangeAt g2 (0 * 32) L ∧ True := by
                    have := HS2.out x2.drew (Below.refl _ _).drew
                    exact ⟨this.1, this.2.1, this.2.2, trivial⟩
                  clear HR2 HF HLL hs1 hs22 hx1 hx2 hx12 HH HS2 HLs
                  generalize str b = Sb at *
                  generalize b.length = lb at *
                  refine wp_region_held_drew (S := fun y => Below x2.heap.size x2 y ∧ y.rangeAt g (0 * 32) L ∧ y.rangeAt g2 (0 * 32) L ∧ True) (by kernel_rfl) q0 (fun hHeld => ?_)
                  generalize x2.drew = wd at *
                  refine take_in 0 (v := ?vzaM0) rfl (some 161) rfl (by kernel_rfl) (by kernel_rfl) (by kernel_rfl) (fun _ _ _ h => h) (Or.inl ⟨by rfl, ?hzaM0⟩) (by assumption) ?rzaM0
                  case hzaM0 => (intro y hy; go_simp; with_reducible rfl)
                  simp only [Act.put, List.setIfInBounds_toArray, List.set_cons_zero, List.set_cons_succ]
                  refine take_in 1 (v := ?vzaM1) rfl (some 162) rfl (by kernel_rfl) (by kernel_rfl) (by kernel_rfl) (fun _ _ _ h => h) (Or.inl ⟨by rfl, ?hzaM1⟩) (by assumption) ?rzaM1
                  case hzaM1 => (intro y hy; go_simp; with_reducible rfl)
                  simp only [Act.put, List.setIfInBounds_toArray, List.set_cons_zero, List.set_cons_succ]
                  refine take_in 2 (v := ?vzaM2) rfl (some 163) rfl (by kernel_rfl) (by kernel_rfl) (by kernel_rfl) (fun _ _ _ h => h) (Or.inl ⟨by rfl, ?hzaM2⟩) (by assumption) ?rzaM2
                  case hzaM2 => (intro y hy; go_simp; with_reducible rfl)
                  simp only [Act.put, List.setIfInBounds_toArray, List.set_cons_zero, List.set_cons_succ]
                  refine take_in 3 (v := .agg L.toArray) rfl (some 164) rfl (by kernel_rfl) (by kernel_rfl) (by kernel_rfl) (fun _ _ _ h => h) (yieldsIf_load_mid (by rfl) 35 _ rfl g (0 * 32) (by simp [Act.eval]) L _ (fun y hy => hy.2.1) Try.underlying35 rfl hLi) (by assumption) ?_
                  simp only [Act.put, List.setIfInBounds_toArray, List.set_cons_zero, List.set_cons_succ]
                  refine take_in 4 (v := ?vzaM4) rfl (some 165) rfl (by kernel_rfl) (by kernel_rfl) (by kernel_rfl) (fun _ _ _ h => h) (Or.inl ⟨by rfl, ?hzaM4⟩) (by assumption) ?rzaM4
                  case hzaM4 => (intro y hy; go_simp; with_reducible rfl)
                  simp only [Act.put, List.setIfInBounds_toArray, List.set_cons_zero, List.set_cons_succ]
                  refine take_in 5 (v := ?vzaM5) rfl (some 166) rfl (by kernel_rfl) (by kernel_rfl) (by kernel_rfl) (fun _ _ _ h => h) (Or.inl ⟨by rfl, ?hzaM5⟩) (by assumption) ?rzaM5
                  case hzaM5 => (intro y hy; go_simp; with_reducible rfl)
                  simp only [Act.put, List.setIfInBounds_toArray, List.set_cons_zero, List.set_cons_succ]
                  refine take_in 6 (v := ?vzaM6) rfl (some 167) rfl (by kernel_rfl) (by kernel_rfl) (by kernel_rfl) (fun _ _ _ h => h) (Or.inl ⟨by rfl, ?hzaM6⟩) (by assumption) ?rzaM6
                  case hzaM6 => (intro y hy; go_simp; with_reducible rfl)
                  simp only [Act.put, List.setIfInBounds_toArray, List.set_cons_zero, List.set_cons_succ]
                  refine take_in 7 (v := .agg L.toArray) rfl (some 168) rfl (by kernel_rfl) (by kernel_rfl) (by kernel_rfl) (fun _ _ _ h => h) (yieldsIf_load_mid (by rfl) 35 _ rfl g2 (0 * 32) (by simp [Act.eval]) L _ (fun y hy => hy.2.2.1) Try.underlying35 rfl hLi) (by assumption) ?_
                  simp only [Act.put, List.setIfInBounds_toArray, List.set_cons_zero, List.set_cons_succ]
                  refine take_in 8 (v := ?vzaM8) rfl (some 169) rfl (by kernel_rfl) (by kernel_rfl) (by kernel_rfl) (fun _ _ _ h => h) (Or.inl ⟨by rfl, ?hzaM8⟩) (by assumption) ?rzaM8
                  case hzaM8 => (intro y hy; go_simp; with_reducible rfl)
                  simp only [Act.put, List.setIfInBounds_toArray, List.set_cons_zero, List.set_cons_succ]
                  refine take_in 9 (v := ?vzaM9) rfl (some 170) rfl (by kernel_rfl) (by kernel_rfl) (by kernel_rfl) (fun _ _ _ h => h) (Or.inl ⟨by rfl, ?hzaM9⟩) (by assumption) ?rzaM9
                  case hzaM9 => (intro y hy; go_simp; with_reducible rfl)
                  simp only [Act.put, List.setIfInBounds_toArray, List.set_cons_zero, List.set_cons_succ]
                  refine take_in 10 (v := ?vzaM10) rfl (some 171) rfl (by kernel_rfl) (by kernel_rfl) (by kernel_rfl) (fun _ _ _ h => h) (Or.inl ⟨by rfl, ?hzaM10⟩) (by assumption) ?rzaM10
                  case hzaM10 => (intro y hy; go_simp; with_reducible rfl)
                  simp only [Act.put, List.setIfInBounds_toArray, List.set_cons_zero, List.set_cons_succ]
                  refine take_in 11 (v := ?vzaM11) rfl (some 172) rfl (by kernel_rfl) (by kernel_rfl) (by kernel_rfl) (fun _ _ _ h => h) (Or.inl ⟨by rfl, ?hzaM11⟩) (by assumption) ?rzaM11
                  case hzaM11 => (intro y hy; go_simp; with_reducible rfl)
                  simp only [Act.put, List.setIfInBounds_toArray, List.set_cons_zero, List.set_cons_succ]
                  refine take_in 12 (v := ?vzaM12) rfl (some 173) rfl (by kernel_rfl) (by kernel_rfl) (by kernel_rfl) (fun _ _ _ h => h) (Or.inl ⟨by rfl, ?hzaM12⟩) (by assumption) ?rzaM12
                  case hzaM12 => (intro y hy; go_simp; with_reducible rfl)
                  simp only [Act.put, List.setIfInBounds_toArray, List.set_cons_zero, List.set_cons_succ]
                  refine take_in 13 (v := ?vzaM13) rfl (some 174) rfl (by kernel_rfl) (by kernel_rfl) (by kernel_rfl) (fun _ _ _ h => h) (Or.inl ⟨by rfl, ?hzaM13⟩) (by assumption) ?rzaM13
                  case hzaM13 => (intro y hy; go_simp; with_reducible rfl)
                  simp only [Act.put, List.setIfInBounds_toArray, List.set_cons_zero, List.set_cons_succ]
                  refine take_in 14 (v := ?vzaM14) rfl (some 175) rfl (by kernel_rfl) (by kernel_rfl) (by kernel_rfl) (fun _ _ _ h => h) (Or.inl ⟨by rfl, ?hzaM14⟩) (by assumption) ?rzaM14
                  case hzaM14 => (intro y hy; go_simp; with_reducible rfl)
                  simp only [Act.put, List.setIfInBounds_toArray, List.set_cons_zero, List.set_cons_succ]
                  refine take_in 15 (v := ?vzaM15) rfl (some 176) rfl (by kernel_rfl) (by kernel_rfl) (by kernel_rfl) (fun _ _ _ h => h) (Or.inl ⟨by rfl, ?hzaM15⟩) (by assumption) ?rzaM15
                  case hzaM15 => (intro y hy; go_simp; with_reducible rfl)
                  simp only [Act.put, List.setIfInBounds_toArray, List.set_cons_zero, List.set_cons_succ]
                  refine take_in 16 (v := ?vzaM16) rfl (some 177) rfl (by kernel_rfl) (by kernel_rfl) (by kernel_rfl) (fun _ _ _ h => h) (Or.inl ⟨by rfl, ?hzaM16⟩) (by assumption) ?rzaM16
                  case hzaM16 => (intro y hy; go_simp; with_reducible rfl)
                  simp only [Act.put, List.setIfInBounds_toArray, List.set_cons_zero, List.set_cons_succ]
                  refine take_in 17 (v := ?vzaM17) rfl (some 178) rfl (by kernel_rfl) (by kernel_rfl) (by kernel_rfl) (fun _ _ _ h => h) (Or.inl ⟨by rfl, ?hzaM17⟩) (by assumption) ?rzaM17
                  case hzaM17 => (intro y hy; go_simp; with_reducible rfl)
                  simp only [Act.put, List.setIfInBounds_toArray, List.set_cons_zero, List.set_cons_succ]
                  refine take_in 18 (v := ?vzaM18) rfl (some 179) rfl (by kernel_rfl) (by kernel_rfl) (by kernel_rfl) (fun _ _ _ h => h) (Or.inl ⟨by rfl, ?hzaM18⟩) (by assumption) ?rzaM18
                  case hzaM18 => (intro y hy; go_simp; with_reducible rfl)
                  simp only [Act.put, List.setIfInBounds_toArray, List.set_cons_zero, List.set_cons_succ]
                  refine take_in 19 (v := ?vzaM19) rfl (some 180) rfl (by kernel_rfl) (by kernel_rfl) (by kernel_rfl) (fun _ _ _ h => h) (Or.inl ⟨by rfl, ?hzaM19⟩) (by assumption) ?rzaM19
                  case hzaM19 => (intro y hy; have v1 := vA y hy.1; have v2 := vB y hy.1; go_simp; with_reducible rfl)
                  simp only [Act.put, List.setIfInBounds_toArray, List.set_cons_zero, List.set_cons_succ]
                  refine take_in 20 (v := ?vzaM20) rfl (some 181) rfl (by kernel_rfl) (by kernel_rfl) (by kernel_rfl) (fun _ _ _ h => h) (Or.inl ⟨by rfl, ?hzaM20⟩) (by assumption) ?rzaM20
                  case hzaM20 => (intro y hy; go_simp; with_reducible rfl)
                  simp only [Act.put, List.setIfInBounds_toArray, List.set_cons_zero, List.set_cons_succ]
                  refine take_in 21 (v := ?vzaM21) rfl (some 182) rfl (by kernel_rfl) (by kernel_rfl) (by kernel_rfl) (fun _ _ _ h => h) (Or.inl ⟨by rfl, ?hzaM21⟩) (by assumption) ?rzaM21
                  case hzaM21 => (intro y hy; have v1 := vA y hy.1; have v2 := vB y hy.1; go_simp; with_reducible rfl)
                  simp only [Act.put, List.setIfInBounds_toArray, List.set_cons_zero, List.set_cons_succ]
                  refine take_in 22 (v := ?vzaM22) rfl (some 183) rfl (by kernel_rfl) (by kernel_rfl) (by kernel_rfl) (fun _ _ _ h => h) (Or.inl ⟨by rfl, ?hzaM22⟩) (by assumption) ?rzaM22
                  case hzaM22 => (intro y hy; go_simp; with_reducible rfl)
                  simp only [Act.put, List.setIfInBounds_toArray, List.set_cons_zero, List.set_cons_succ]
                  refine take_in 23 (v := ?vzaM23) rfl (some 184) rfl (by kernel_rfl) (by kernel_rfl) (by kernel_rfl) (fun _ _ _ h => h) (Or.inl ⟨by rfl, ?hzaM23⟩) (by assumption) ?rzaM23
                  case hzaM23 => (intro y hy; go_simp; with_reducible rfl)
                  simp only [Act.put, List.setIfInBounds_toArray, List.set_cons_zero, List.set_cons_succ]
                  refine take_in 24 (v := ?vzaM24) rfl (some 185) rfl (by kernel_rfl) (by kernel_rfl) (by kernel_rfl) (fun _ _ _ h => h) (Or.inl ⟨by rfl, ?hzaM24⟩) (by assumption) ?rzaM24
                  case hzaM24 => (intro y hy; go_simp; with_reducible rfl)
                  simp only [Act.put, List.setIfInBounds_toArray, List.set_cons_zero, List.set_cons_succ]
                  refine take_in 25 (v := ?vzaM25) rfl (some 186) rfl (by kernel_rfl) (by kernel_rfl) (by kernel_rfl) (fun _ _ _ h => h) (Or.inl ⟨by rfl, ?hzaM25⟩) (by assumption) ?rzaM25
                  case hzaM25 => (intro y hy; go_simp; with_reducible rfl)
                  simp only [Act.put, List.setIfInBounds_toArray, List.set_cons_zero, List.set_cons_succ]
                  refine take_in 26 (v := ?vzaM26) rfl (some 187) rfl (by kernel_rfl) (by kernel_rfl) (by kernel_rfl) (fun _ _ _ h => h) (Or.inl ⟨by rfl, ?hzaM26⟩) (by assumption) ?rzaM26
                  case hzaM26 => (intro y hy; go_simp; with_reducible rfl)
                  simp only [Act.put, List.setIfInBounds_toArray, List.set_cons_zero, List.set_cons_succ]
                  refine take_in 27 (v := ?vzaM27) rfl (some 188) rfl (by kernel_rfl) (by kernel_rfl) (by kernel_rfl) (fun _ _ _ h => h) (Or.inl ⟨by rfl, ?hzaM27⟩) (by assumption) ?rzaM27
                  case hzaM27 => (intro y hy; go_simp; with_reducible rfl)
                  simp only [Act.put, List.setIfInBounds_toArray, List.set_cons_zero, List.set_cons_succ]
                  refine take_in 28 (v := undef) rfl (some 189) rfl (by kernel_rfl) (by kernel_rfl) (by kernel_rfl) (fun _ _ _ h => h) (Or.inr ⟨by rfl, rfl⟩) (by assumption) ?_
                  simp only [Act.put, List.setIfInBounds_toArray, List.set_cons_zero, List.set_cons_succ]
                  refine take_in 29 (v := undef) rfl (some 190) rfl (by kernel_rfl) (by kernel_rfl) (by kernel_rfl) (fun _ _ _ h => h) (Or.inr ⟨by rfl, rfl⟩) (by assumption) ?_
                  simp only [Act.put, List.setIfInBounds_toArray, List.set_cons_zero, List.set_cons_succ]
                  refine take_in 30 (v := undef) rfl (some 191) rfl (by kernel_rfl) (by kernel_rfl) (by kernel_rfl) (fun _ _ _ h => h) (Or.inr ⟨by rfl, rfl⟩) (by assumption) ?_
                  simp only [Act.put, List.setIfInBounds_toArray, List.set_cons_zero, List.set_cons_succ]
                  refine take_in 31 (v := undef) rfl (some 192) rfl (by kernel_rfl) (by kernel_rfl) (by kernel_rfl) (fun _ _ _ h => h) (Or.inr ⟨by rfl, rfl⟩) (by assumption) ?_
                  simp only [Act.put, List.setIfInBounds_toArray, List.set_cons_zero, List.set_cons_succ]
                  refine take_in 32 (v := undef) rfl (some 193) rfl (by kernel_rfl) (by kernel_rfl) (by kernel_rfl) (fun _ _ _ h => h) (Or.inr ⟨by rfl, rfl⟩) (by assumption) ?_
                  simp only [Act.put, List.setIfInBounds_toArray, List.set_cons_zero, List.set_cons_succ]
                  refine take_in 33 (v := undef) rfl (some 194) rfl (by kernel_rfl) (by kernel_rfl) (by kernel_rfl) (fun _ _ _ h => h) (Or.inr ⟨by rfl, rfl⟩) (by assumption) ?_
                  simp only [Act.put, List.setIfInBounds_toArray, List.set_cons_zero, List.set_cons_succ]
                  refine take_in 34 (v := undef) rfl (some 195) rfl (by kernel_rfl) (by kernel_rfl) (by kernel_rfl) (fun _ _ _ h => h) (Or.inr ⟨by rfl, rfl⟩) (by assumption) ?_
                  simp only [Act.put, List.setIfInBounds_toArray, List.set_cons_zero, List.set_cons_succ]
                  refine take_in 35 (v := undef) rfl (some 196) rfl (by kernel_rfl) (by kernel_rfl) (by kernel_rfl) (fun _ _ _ h => h) (Or.inr ⟨by rfl, rfl⟩) (by assumption) ?_
                  simp only [Act.put, List.setIfInBounds_toArray, List.set_cons_zero, List.set_cons_succ]
                  refine take_in 36 (v := undef) rfl (some 197) rfl (by kernel_rfl) (by kernel_rfl) (by kernel_rfl) (fun _ _ _ h => h) (Or.inr ⟨by rfl, rfl⟩) (by assumption) ?_
                  simp only [Act.put, List.setIfInBounds_toArray, List.set_cons_zero, List.set_cons_succ]
                  refine take_in 37 (v := undef) rfl (some 198) rfl (by kernel_rfl) (by kernel_rfl) (by kernel_rfl) (fun _ _ _ h => h) (Or.inr ⟨by rfl, rfl⟩) (by assumption) ?_
                  simp only [Act.put, List.setIfInBounds_toArray, List.set_cons_zero, List.set_cons_succ]
                  refine take_in 38 (v := undef) rfl (some 199) rfl (by kernel_rfl) (by kernel_rfl) (by kernel_rfl) (fun _ _ _ h => h) (Or.inr ⟨by rfl, rfl⟩) (by assumption) ?_
                  simp only [Act.put, List.setIfInBounds_toArray, List.set_cons_zero, List.set_cons_succ]
                  refine take_in 39 (v := ?vzaM39) rfl (some 200) rfl (by kernel_rfl) (by kernel_rfl) (by kernel_rfl) (fun _ _ _ h => h) (Or.inl ⟨by rfl, ?hzaM39⟩) (by assumption) ?rzaM39
                  case hzaM39 => (intro y hy; go_simp; with_reducible rfl)
                  simp only [Act.put, List.setIfInBounds_toArray, List.set_cons_zero, List.set_cons_succ]
                  refine take_in 40 (v := ?vzaM40) rfl (some 201) rfl (by kernel_rfl) (by kernel_rfl) (by kernel_rfl) (fun _ _ _ h => h) (Or.inl ⟨by rfl, ?hzaM40⟩) (by assumption) ?rzaM40
                  case hzaM40 => (intro y hy; go_simp; with_reducible rfl)
                  simp only [Act.put, List.setIfInBounds_toArray, List.set_cons_zero, List.set_cons_succ]
                  refine wpAnyH_done (by kernel_rfl) ?_ _
                  clear vA vB he hLi
                  go_wp2_with fail
                  go_roundw
                  case rel => exact ⟨0 + 1, by omega, by go_num, HW.out _ q0.1⟩
                  case measure => simp [intOf]; omega
                · obtain ⟨p, rfl⟩ : ∃ p, q = p + 1 := ⟨q - 1, by omega⟩
                  generalize hqq : p + 1 = q at *
                  have hq1 : 0 < q := by omega
                  have hq2 : (0 : Int) < (q : Int) := by omega
                  have hsub : IntKind.i64.wrap ((q : Int) - 1) = (p : Int) := by rw [IntKind.wrap_i64]; omega
                  have hlp : (p : Int) < (hs2.length : Int) := by omega
                  have hpi : p < hs2.length := by omega
                  have hlp32 := HLs.out p hpi
                  have hLp := info35L (hs2.getD p []) hlp32
                  have hless : less (hs2.getD p []) (F b) = true := by
                    rw [← HF.out, ← hqq]; exact rising_at HH.out.2.1 (by omega)
                  have HRp : Hid (∀ y, Below x2.heap.size x2 y → y.rangeAt g (p * 32) (bys (hs2.getD p []))) := fun y hy => range_below (lies_below HH.out.2.2.2.1 (HW.out x2 (Below.refl _ _)) p hpi).1 hy
                  have q0 : Below x2.heap.size x2 x2.drew ∧ x2.drew.rangeAt g (q * 32) L ∧ x2.drew.rangeAt g2 (q * 32) L ∧ x2.drew.rangeAt g (p * 32) (bys (hs2.getD p [])) := by
                    have := HS2.out x2.drew (Below.refl _ _).drew
                    exact ⟨this.1, this.2.1, this.2.2, HRp.out _ this.1⟩
                  have J23 : Hid (∀ y, (Below x2.heap.size x2 y ∧ y.rangeAt g (q * 32) L ∧ y.rangeAt g2 (q * 32) L ∧ y.rangeAt g (p * 32) (bys (hs2.getD p []))) → Calls Try.prog 23 #[.agg (bys (hs2.getD p [])).toArray, .agg L.toArray] y fun ev w' => ev = .returned (.bool true) ∧ (Below x2.heap.size x2 w' ∧ w'.rangeAt g (q * 32) L ∧ w'.rangeAt g2 (q * 32) L ∧ w'.rangeAt g (p * 32) (bys (hs2.getD p [])))) := fun y hy => by
                    have := xless_any y (hs2.getD p []) (F b) hlp32 (E.out.len b)
                    rw [HLL.out] at this
                    refine this.mono ?_
                    rintro ev w' ⟨rfl, hb⟩
                    rw [hless]
                    have h1 := hy.1.trans (hb.mono hy.1.size)
                    exact ⟨rfl, h1, (HS2.out _ h1).2.1, (HS2.out _ h1).2.2, HRp.out _ h1⟩
                  clear HR2 HF HLL hs1 hs22 hx1 hx2 hx12 HH HS2 HLs hless hlp32 HRp
                  generalize bys (hs2.getD p []) = Lp at *
                  generalize str b = Sb at *
                  generalize b.length = lb at *
                  refine wp_region_held_drew (S := fun y => Below x2.heap.size x2 y ∧ y.rangeAt g (q * 32) L ∧ y.rangeAt g2 (q * 32) L ∧ y.rangeAt g (p * 32) Lp) (by kernel_rfl) q0 (fun hHeld => ?_)
                  generalize x2.drew = wd at *
                  refine take_in 0 (v := ?vzbM0) rfl (some 161) rfl (by kernel_rfl) (by kernel_rfl) (by kernel_rfl) (fun _ _ _ h => h) (Or.inl ⟨by rfl, ?hzbM0⟩) (by assumption) ?rzbM0
                  case hzbM0 => (intro y hy; go_simp; with_reducible rfl)
                  simp only [Act.put, List.setIfInBounds_toArray, List.set_cons_zero, List.set_cons_succ]
                  refine take_in 1 (v := ?vzbM1) rfl (some 162) rfl (by kernel_rfl) (by kernel_rfl) (by kernel_rfl) (fun _ _ _ h => h) (Or.inl ⟨by rfl, ?hzbM1⟩) (by assumption) ?rzbM1
                  case hzbM1 => (intro y hy; go_simp; with_reducible rfl)
                  simp only [Act.put, List.setIfInBounds_toArray, List.set_cons_zero, List.set_cons_succ]
                  refine take_in 2 (v := ?vzbM2) rfl (some 163) rfl (by kernel_rfl) (by kernel_rfl) (by kernel_rfl) (fun _ _ _ h => h) (Or.inl ⟨by rfl, ?hzbM2⟩) (by assumption) ?rzbM2
                  case hzbM2 => (intro y hy; go_simp; with_reducible rfl)
                  simp only [Act.put, List.setIfInBounds_toArray, List.set_cons_zero, List.set_cons_succ]
                  refine take_in 3 (v := .agg L.toArray) rfl (some 164) rfl (by kernel_rfl) (by kernel_rfl) (by kernel_rfl) (fun _ _ _ h => h) (yieldsIf_load_mid (by rfl) 35 _ rfl g (q * 32) (by simp [Act.eval]) L _ (fun y hy => hy.2.1) Try.underlying35 rfl hLi) (by assumption) ?_
                  simp only [Act.put, List.setIfInBounds_toArray, List.set_cons_zero, List.set_cons_succ]
                  refine take_in 4 (v := ?vzbM4) rfl (some 165) rfl (by kernel_rfl) (by kernel_rfl) (by kernel_rfl) (fun _ _ _ h => h) (Or.inl ⟨by rfl, ?hzbM4⟩) (by assumption) ?rzbM4
                  case hzbM4 => (intro y hy; go_simp; with_reducible rfl)
                  simp only [Act.put, List.setIfInBounds_toArray, List.set_cons_zero, List.set_cons_succ]
                  refine take_in 5 (v := ?vzbM5) rfl (some 166) rfl (by kernel_rfl) (by kernel_rfl) (by kernel_rfl) (fun _ _ _ h => h) (Or.inl ⟨by rfl, ?hzbM5⟩) (by assumption) ?rzbM5
                  case hzbM5 => (intro y hy; go_simp; with_reducible rfl)
                  simp only [Act.put, List.setIfInBounds_toArray, List.set_cons_zero, List.set_cons_succ]
                  refine take_in 6 (v := ?vzbM6) rfl (some 167) rfl (by kernel_rfl) (by kernel_rfl) (by kernel_rfl) (fun _ _ _ h => h) (Or.inl ⟨by rfl, ?hzbM6⟩) (by assumption) ?rzbM6
                  case hzbM6 => (intro y hy; go_simp; with_reducible rfl)
                  simp only [Act.put, List.setIfInBounds_toArray, List.set_cons_zero, List.set_cons_succ]
                  refine take_in 7 (v := .agg L.toArray) rfl (some 168) rfl (by kernel_rfl) (by kernel_rfl) (by kernel_rfl) (fun _ _ _ h => h) (yieldsIf_load_mid (by rfl) 35 _ rfl g2 (q * 32) (by simp [Act.eval]) L _ (fun y hy => hy.2.2.1) Try.underlying35 rfl hLi) (by assumption) ?_
                  simp only [Act.put, List.setIfInBounds_toArray, List.set_cons_zero, List.set_cons_succ]
                  refine take_in 8 (v := ?vzbM8) rfl (some 169) rfl (by kernel_rfl) (by kernel_rfl) (by kernel_rfl) (fun _ _ _ h => h) (Or.inl ⟨by rfl, ?hzbM8⟩) (by assumption) ?rzbM8
                  case hzbM8 => (intro y hy; go_simp; with_reducible rfl)
                  simp only [Act.put, List.setIfInBounds_toArray, List.set_cons_zero, List.set_cons_succ]
                  refine take_in 9 (v := ?vzbM9) rfl (some 170) rfl (by kernel_rfl) (by kernel_rfl) (by kernel_rfl) (fun _ _ _ h => h) (Or.inl ⟨by rfl, ?hzbM9⟩) (by assumption) ?rzbM9
                  case hzbM9 => (intro y hy; go_simp; with_reducible rfl)
                  simp only [Act.put, List.setIfInBounds_toArray, List.set_cons_zero, List.set_cons_succ]
                  refine take_in 10 (v := ?vzbM10) rfl (some 171) rfl (by kernel_rfl) (by kernel_rfl) (by kernel_rfl) (fun _ _ _ h => h) (Or.inl ⟨by rfl, ?hzbM10⟩) (by assumption) ?rzbM10
                  case hzbM10 => (intro y hy; go_simp; with_reducible rfl)
                  simp only [Act.put, List.setIfInBounds_toArray, List.set_cons_zero, List.set_cons_succ]
                  refine take_in 11 (v := ?vzbM11) rfl (some 172) rfl (by kernel_rfl) (by kernel_rfl) (by kernel_rfl) (fun _ _ _ h => h) (Or.inl ⟨by rfl, ?hzbM11⟩) (by assumption) ?rzbM11
                  case hzbM11 => (intro y hy; go_simp; with_reducible rfl)
                  simp only [Act.put, List.setIfInBounds_toArray, List.set_cons_zero, List.set_cons_succ]
                  refine take_in 12 (v := ?vzbM12) rfl (some 173) rfl (by kernel_rfl) (by kernel_rfl) (by kernel_rfl) (fun _ _ _ h => h) (Or.inl ⟨by rfl, ?hzbM12⟩) (by assumption) ?rzbM12
                  case hzbM12 => (intro y hy; go_simp; with_reducible rfl)
                  simp only [Act.put, List.setIfInBounds_toArray, List.set_cons_zero, List.set_cons_succ]
                  refine take_in 13 (v := ?vzbM13) rfl (some 174) rfl (by kernel_rfl) (by kernel_rfl) (by kernel_rfl) (fun _ _ _ h => h) (Or.inl ⟨by rfl, ?hzbM13⟩) (by assumption) ?rzbM13
                  case hzbM13 => (intro y hy; go_simp; with_reducible rfl)
                  simp only [Act.put, List.setIfInBounds_toArray, List.set_cons_zero, List.set_cons_succ]
                  refine take_in 14 (v := ?vzbM14) rfl (some 175) rfl (by kernel_rfl) (by kernel_rfl) (by kernel_rfl) (fun _ _ _ h => h) (Or.inl ⟨by rfl, ?hzbM14⟩) (by assumption) ?rzbM14
                  case hzbM14 => (intro y hy; go_simp; with_reducible rfl)
                  simp only [Act.put, List.setIfInBounds_toArray, List.set_cons_zero, List.set_cons_succ]
                  refine take_in 15 (v := ?vzbM15) rfl (some 176) rfl (by kernel_rfl) (by kernel_rfl) (by kernel_rfl) (fun _ _ _ h => h) (Or.inl ⟨by rfl, ?hzbM15⟩) (by assumption) ?rzbM15
                  case hzbM15 => (intro y hy; go_simp; with_reducible rfl)
                  simp only [Act.put, List.setIfInBounds_toArray, List.set_cons_zero, List.set_cons_succ]
                  refine take_in 16 (v := ?vzbM16) rfl (some 177) rfl (by kernel_rfl) (by kernel_rfl) (by kernel_rfl) (fun _ _ _ h => h) (Or.inl ⟨by rfl, ?hzbM16⟩) (by assumption) ?rzbM16
                  case hzbM16 => (intro y hy; go_simp; with_reducible rfl)
                  simp only [Act.put, List.setIfInBounds_toArray, List.set_cons_zero, List.set_cons_succ]
                  refine take_in 17 (v := ?vzbM17) rfl (some 178) rfl (by kernel_rfl) (by kernel_rfl) (by kernel_rfl) (fun _ _ _ h => h) (Or.inl ⟨by rfl, ?hzbM17⟩) (by assumption) ?rzbM17
                  case hzbM17 => (intro y hy; go_simp; with_reducible rfl)
                  simp only [Act.put, List.setIfInBounds_toArray, List.set_cons_zero, List.set_cons_succ]
                  refine take_in 18 (v := ?vzbM18) rfl (some 179) rfl (by kernel_rfl) (by kernel_rfl) (by kernel_rfl) (fun _ _ _ h => h) (Or.inl ⟨by rfl, ?hzbM18⟩) (by assumption) ?rzbM18
                  case hzbM18 => (intro y hy; go_simp; with_reducible rfl)
                  simp only [Act.put, List.setIfInBounds_toArray, List.set_cons_zero, List.set_cons_succ]
                  refine take_in 19 (v := ?vzbM19) rfl (some 180) rfl (by kernel_rfl) (by kernel_rfl) (by kernel_rfl) (fun _ _ _ h => h) (Or.inl ⟨by rfl, ?hzbM19⟩) (by assumption) ?rzbM19
                  case hzbM19 => (intro y hy; have v1 := vA y hy.1; have v2 := vB y hy.1; go_simp; with_reducible rfl)
                  simp only [Act.put, List.setIfInBounds_toArray, List.set_cons_zero, List.set_cons_succ]
                  refine take_in 20 (v := ?vzbM20) rfl (some 181) rfl (by kernel_rfl) (by kernel_rfl) (by kernel_rfl) (fun _ _ _ h => h) (Or.inl ⟨by rfl, ?hzbM20⟩) (by assumption) ?rzbM20
                  case hzbM20 => (intro y hy; go_simp; with_reducible rfl)
                  simp only [Act.put, List.setIfInBounds_toArray, List.set_cons_zero, List.set_cons_succ]
                  refine take_in 21 (v := ?vzbM21) rfl (some 182) rfl (by kernel_rfl) (by kernel_rfl) (by kernel_rfl) (fun _ _ _ h => h) (Or.inl ⟨by rfl, ?hzbM21⟩) (by assumption) ?rzbM21
                  case hzbM21 => (intro y hy; have v1 := vA y hy.1; have v2 := vB y hy.1; go_simp; with_reducible rfl)
                  simp only [Act.put, List.setIfInBounds_toArray, List.set_cons_zero, List.set_cons_succ]
                  refine take_in 22 (v := ?vzbM22) rfl (some 183) rfl (by kernel_rfl) (by kernel_rfl) (by kernel_rfl) (fun _ _ _ h => h) (Or.inl ⟨by rfl, ?hzbM22⟩) (by assumption) ?rzbM22
                  case hzbM22 => (intro y hy; go_simp; with_reducible rfl)
                  simp only [Act.put, List.setIfInBounds_toArray, List.set_cons_zero, List.set_cons_succ]
                  refine take_in 23 (v := ?vzbM23) rfl (some 184) rfl (by kernel_rfl) (by kernel_rfl) (by kernel_rfl) (fun _ _ _ h => h) (Or.inl ⟨by rfl, ?hzbM23⟩) (by assumption) ?rzbM23
                  case hzbM23 => (intro y hy; go_simp; with_reducible rfl)
                  simp only [Act.put, List.setIfInBounds_toArray, List.set_cons_zero, List.set_cons_succ]
                  refine take_in 24 (v := ?vzbM24) rfl (some 185) rfl (by kernel_rfl) (by kernel_rfl) (by kernel_rfl) (fun _ _ _ h => h) (Or.inl ⟨by rfl, ?hzbM24⟩) (by assumption) ?rzbM24
                  case hzbM24 => (intro y hy; go_simp; with_reducible rfl)
                  simp only [Act.put, List.setIfInBounds_toArray, List.set_cons_zero, List.set_cons_succ]
                  refine take_in 25 (v := ?vzbM25) rfl (some 186) rfl (by kernel_rfl) (by kernel_rfl) (by kernel_rfl) (fun _ _ _ h => h) (Or.inl ⟨by rfl, ?hzbM25⟩) (by assumption) ?rzbM25
                  case hzbM25 => (intro y hy; go_simp; with_reducible rfl)
                  simp only [Act.put, List.setIfInBounds_toArray, List.set_cons_zero, List.set_cons_succ]
                  refine take_in 26 (v := ?vzbM26) rfl (some 187) rfl (by kernel_rfl) (by kernel_rfl) (by kernel_rfl) (fun _ _ _ h => h) (Or.inl ⟨by rfl, ?hzbM26⟩) (by assumption) ?rzbM26
                  case hzbM26 => (intro y hy; go_simp; with_reducible rfl)
                  simp only [Act.put, List.setIfInBounds_toArray, List.set_cons_zero, List.set_cons_succ]
                  refine take_in 27 (v := ?vzbM27) rfl (some 188) rfl (by kernel_rfl) (by kernel_rfl) (by kernel_rfl) (fun _ _ _ h => h) (Or.inl ⟨by rfl, ?hzbM27⟩) (by assumption) ?rzbM27
                  case hzbM27 => (intro y hy; go_simp; with_reducible rfl)
                  simp only [Act.put, List.setIfInBounds_toArray, List.set_cons_zero, List.set_cons_succ]
                  refine take_in 28 (v := ?vzbM28) rfl (some 189) rfl (by kernel_rfl) (by kernel_rfl) (by kernel_rfl) (fun _ _ _ h => h) (Or.inl ⟨by rfl, ?hzbM28⟩) (by assumption) ?rzbM28
                  case hzbM28 => (intro y hy; go_simp; with_reducible rfl)
                  simp only [Act.put, List.setIfInBounds_toArray, List.set_cons_zero, List.set_cons_succ]
                  refine take_in 29 (v := ?vzbM29) rfl (some 190) rfl (by kernel_rfl) (by kernel_rfl) (by kernel_rfl) (fun _ _ _ h => h) (Or.inl ⟨by rfl, ?hzbM29⟩) (by assumption) ?rzbM29
                  case hzbM29 => (intro y hy; go_simp; with_reducible rfl)
                  simp only [Act.put, List.setIfInBounds_toArray, List.set_cons_zero, List.set_cons_succ]
                  refine take_in 30 (v := ?vzbM30) rfl (some 191) rfl (by kernel_rfl) (by kernel_rfl) (by kernel_rfl) (fun _ _ _ h => h) (Or.inl ⟨by rfl, ?hzbM30⟩) (by assumption) ?rzbM30
                  case hzbM30 => (intro y hy; go_simp; with_reducible rfl)
                  simp only [Act.put, List.setIfInBounds_toArray, List.set_cons_zero, List.set_cons_succ]
                  refine take_in 31 (v := ?vzbM31) rfl (some 192) rfl (by kernel_rfl) (by kernel_rfl) (by kernel_rfl) (fun _ _ _ h => h) (Or.inl ⟨by rfl, ?hzbM31⟩) (by assumption) ?rzbM31
                  case hzbM31 => (intro y hy; go_simp; with_reducible rfl)
                  simp only [Act.put, List.setIfInBounds_toArray, List.set_cons_zero, List.set_cons_succ]
                  refine take_in 32 (v := .agg Lp.toArray) rfl (some 193) rfl (by kernel_rfl) (by kernel_rfl) (by kernel_rfl) (fun _ _ _ h => h) (yieldsIf_load_mid (by rfl) 35 _ rfl g (p * 32) (by simp [Act.eval]) Lp _ (fun y hy => hy.2.2.2) Try.underlying35 rfl hLp) (by assumption) ?_
                  simp only [Act.put, List.setIfInBounds_toArray, List.set_cons_zero, List.set_cons_succ]
                  refine take_in 33 (v := ?vzbM33) rfl (some 194) rfl (by kernel_rfl) (by kernel_rfl) (by kernel_rfl) (fun _ _ _ h => h) (Or.inl ⟨by rfl, ?hzbM33⟩) (by assumption) ?rzbM33
                  case hzbM33 => (intro y hy; go_simp; with_reducible rfl)
                  simp only [Act.put, List.setIfInBounds_toArray, List.set_cons_zero, List.set_cons_succ]
                  refine take_in 34 (v := ?vzbM34) rfl (some 195) rfl (by kernel_rfl) (by kernel_rfl) (by kernel_rfl) (fun _ _ _ h => h) (Or.inl ⟨by rfl, ?hzbM34⟩) (by assumption) ?rzbM34
                  case hzbM34 => (intro y hy; go_simp; with_reducible rfl)
                  simp only [Act.put, List.setIfInBounds_toArray, List.set_cons_zero, List.set_cons_succ]
                  refine take_in 35 (v := ?vzbM35) rfl (some 196) rfl (by kernel_rfl) (by kernel_rfl) (by kernel_rfl) (fun _ _ _ h => h) (Or.inl ⟨by rfl, ?hzbM35⟩) (by assumption) ?rzbM35
                  case hzbM35 => (intro y hy; go_simp; with_reducible rfl)
                  simp only [Act.put, List.setIfInBounds_toArray, List.set_cons_zero, List.set_cons_succ]
                  refine take_in 36 (v := .agg L.toArray) rfl (some 197) rfl (by kernel_rfl) (by kernel_rfl) (by kernel_rfl) (fun _ _ _ h => h) (yieldsIf_load_mid (by rfl) 35 _ rfl g (q * 32) (by simp [Act.eval]) L _ (fun y hy => hy.2.1) Try.underlying35 rfl hLi) (by assumption) ?_
                  simp only [Act.put, List.setIfInBounds_toArray, List.set_cons_zero, List.set_cons_succ]
                  refine wpAnyH_ready (rs := [37]) (by kernel_rfl) (by simp) ?_
                  refine AllReadyH.cons rfl (fun K hK => ?_) AllReadyH.nil
                  go_simp
                  go_wp2_with (first | (go_at_call 23; refine (J23.out _ (by assumption)).mono ?_; rintro ev w9 ⟨rfl, hS9⟩; clear J23))
                  refine hK.out _ _ (by assumption) (fun _ => ?_)
                  clear hK K
                  refine take_in 38 (v := ?vzbM38) rfl (some 199) rfl (by kernel_rfl) (by kernel_rfl) (by kernel_rfl) (fun _ _ _ h => h) (Or.inl ⟨by rfl, ?hzbM38⟩) (by assumption) ?rzbM38
                  case hzbM38 => (intro y hy; go_simp; with_reducible rfl)
                  simp only [Act.put, List.setIfInBounds_toArray, List.set_cons_zero, List.set_cons_succ]
                  refine take_in 39 (v := ?vzbM39) rfl (some 200) rfl (by kernel_rfl) (by kernel_rfl) (by kernel_rfl) (fun _ _ _ h => h) (Or.inl ⟨by rfl, ?hzbM39⟩) (by assumption) ?rzbM39
                  case hzbM39 => (intro y hy; go_simp; with_reducible rfl)
                  simp only [Act.put, List.setIfInBounds_toArray, List.set_cons_zero, List.set_cons_succ]
                  refine take_in 40 (v := ?vzbM40) rfl (some 201) rfl (by kernel_rfl) (by kernel_rfl) (by kernel_rfl) (fun _ _ _ h => h) (Or.inl ⟨by rfl, ?hzbM40⟩) (by assumption) ?rzbM40
                  case hzbM40 => (intro y hy; go_simp; with_reducible rfl)
                  simp only [Act.put, List.setIfInBounds_toArray, List.set_cons_zero, List.set_cons_succ]
                  refine wpAnyH_done (by kernel_rfl) ?_ _
                  clear vA vB he hLi hLp
                  go_wp2_with fail
                  go_roundw
                  case rel => exact ⟨q + 1, by omega, by go_num, HW.out _ hS9.1⟩
                  case measure => simp [intOf]; omega
              · obtain rfl : q = hs2.length := by omega
                have hlq : ¬ ((hs2.length : Nat) : Int) < (hs2.length : Int) := by omega
                have C9 := E.out.told wr
                clear HH
                go_wp2_with (first | (go_at_call 9; refine C9.mono ?_; rintro ev w8 ⟨rfl, hb8⟩))
                go_ret
                exact ⟨rfl, HBq.out.trans (hb8.mono HBq.out.size)⟩
  · have hbig2 : ¬ (16 : Int) < (n : Int) := by omega
    obtain ⟨ao, cp, rfl⟩ : ∃ ao cp, v = .slice ao n cp := by
      rcases hL.shape with ⟨ao, cp, h, _⟩ | ⟨b, off, cap, h, _⟩ <;> exact ⟨_, _, h⟩
    have A : Aside (Ls w (.slice ao n cp) n f fv) := hL
    clear hL
    go_enter Try.func6, Try.ntmps6
    go_wp2_with fail
    have HI : Hid (Below w.heap.size w w) := Below.refl _ _
    go_loopw [3] (fun i wr => ∃ m : Nat, m ≤ n ∧ i = .int .i64 m ∧ Below w.heap.size w wr ∧ (∀ q, q < m → (f q).length ≤ 200) ∧ ∀ q q', q < m → q' < q → f q ≠ f q' → F (f q) ≠ F (f q')) (fun i _ => n - (intOf i).toNat)
    case atStart => exact ⟨0, by omega, rfl, HI.out, fun q h => by omega, fun q q' h => by omega⟩
    case round =>
      obtain ⟨m, hm, rfl, hB, hsh, hap⟩ := hrel
      clear HI
      by_cases hmn : m < n
      · have hlt : (m : Int) < (n : Int) := by omega
        obtain ⟨b1, of1, hao, hcell⟩ : ∃ b1 of1, ao = some ⟨b1, of1, none⟩ ∧ ∀ i, i < n → w.cell? ⟨b1, of1 + i, none⟩ = some (fv i) := by
          rcases A.out.shape with ⟨_, _, _, h0⟩ | ⟨b2, of2, cap, h, hcap, hc⟩
          · omega
          · cases h; exact ⟨_, _, rfl, hc⟩
        subst hao
        have HL : Hid (∀ y, Below w.heap.size w y → ∀ i, i < n → y.cell? ⟨b1, of1 + i, none⟩ = some (fv i) ∧ Sl y (fv i) (f i)) := fun y hy i hi =>
          ⟨(hy.cell (p := ⟨b1, of1 + i, none⟩) (World.block_lt_of_cell? w _ (hcell i hi))).trans (hcell i hi), (A.out.each i hi).1.below hy⟩
        clear hcell
        obtain ⟨c0, hsl0⟩ := HL.out wr hB m hmn
        obtain ⟨am, cpm, hfm⟩ := sl_slice hsl0
        rw [hfm] at c0
        by_cases hlen : (f m).length ≤ 200
        · have hlen2 : ¬ (200 : Int) < ((f m).length : Int) := by omega
          have HSH : Hid (∀ q, q < m + 1 → (f q).length ≤ 200) := fun q hq => by
            by_cases e : q = m
            · subst e; exact hlen
            · exact hsh q (by omega)
          have HAP : Hid (∀ q q', q < m → q' < q → f q ≠ f q' → F (f q) ≠ F (f q')) := hap
          have HBW : Hid (Below w.heap.size w wr) := hB
          clear hsh hap hsl0 hB
          go_wp2_with fail
          generalize hWR : wr = wA at *
          clear hWR
          go_loopw [4] (fun i wi => ∃ j : Nat, j ≤ m ∧ i = .int .i64 j ∧ Below w.heap.size w wi ∧ ∀ q, q < j → f m ≠ f q → F (f m) ≠ F (f q)) (fun i _ => m - (intOf i).toNat)
          case atStart => exact ⟨0, by omega, rfl, HBW.out, fun q h => by omega⟩
          case round =>
            obtain ⟨j, hj, rfl, hbi, hne⟩ := hrel
            clear HBW
            by_cases hjm : j < m
            · have hlt3 : (j : Int) < (m : Int) := by omega
              have hlt4 : (j : Int) < (n : Int) := by omega
              obtain ⟨cm, hslm⟩ := HL.out wr hbi m hmn
              obtain ⟨cj, hslj⟩ := HL.out wr hbi j (by omega)
              obtain ⟨aoj, cpj, hfj⟩ := sl_slice hslj
              rw [hfm] at cm hslm
              rw [hfj] at cj hslj
              have hlj : (f j).length ≤ 200 := HSH.out j (by omega)
              have vm : ∀ y, Below wr.heap.size wr y → (convert 33 9 (.slice am (f m).length cpm)).run Try.prog y = .ok (.string (str (f m))) y := fun y hy => conv_sl y _ _ (hslm.below hy)
              have vj : ∀ y, Below wr.heap.size wr y → (convert 33 9 (.slice aoj (f j).length cpj)).run Try.prog y = .ok (.string (str (f j))) y := fun y hy => conv_sl y _ _ (hslj.below hy)
              have HS : Hid (∀ y, Below wr.heap.size wr y → (Below wr.heap.size wr y ∧ y.cell? ⟨b1, of1 + m, none⟩ = some (.slice am (f m).length cpm) ∧ y.cell? ⟨b1, of1 + j, none⟩ = some (.slice aoj (f j).length cpj))) := fun y hy =>
                ⟨hy, (hy.cell (p := ⟨b1, of1 + m, none⟩) (World.block_lt_of_cell? wr _ cm)).trans cm, (hy.cell (p := ⟨b1, of1 + j, none⟩) (World.block_lt_of_cell? wr _ cj)).trans cj⟩
              have q0 := HS.out wr.drew (Below.refl _ _).drew
              by_cases hfe : f m = f j
              · have hSe : str (f m) = str (f j) := by rw [hfe]
                have HQ : Hid (∀ q, q < j + 1 → f m ≠ f q → F (f m) ≠ F (f q)) := fun q h h' => by
                  by_cases e : q = j
                  · subst e; exact absurd hfe h'
                  · exact hne q (by omega) h'
                rw [hSe] at vm
                have vmn := fun nn => vm (wr.drewN nn) (below_drewN (Below.refl _ _) nn)
                have vjn := fun nn => vj (wr.drewN nn) (below_drewN (Below.refl _ _) nn)
                clear hne hfe hSe hslm hslj hlj vm vj q0 HS
                generalize (f m).length = lm at *
                generalize (f j).length = lj at *
                generalize str (f j) = Sj at *
                go_wp2_with fail
                go_quiet (fail)
                go_wp2_with fail
                go_roundw
                case rel => exact ⟨j + 1, by omega, by go_num, below_drewN hbi _, HQ.out⟩
                case measure => simp [intOf]; omega
              · have hSe := str_apart hfe
                have C1 : Hid (∀ y, (Below wr.heap.size wr y ∧ y.cell? ⟨b1, of1 + m, none⟩ = some (.slice am (f m).length cpm) ∧ y.cell? ⟨b1, of1 + j, none⟩ = some (.slice aoj (f j).length cpj)) → Calls Try.prog 14 #[.slice am (f m).length cpm] y fun ev w' => ev = .returned (.agg (bys (F (f m))).toArray) ∧ (Below wr.heap.size wr w' ∧ w'.cell? ⟨b1, of1 + m, none⟩ = some (.slice am (f m).length cpm) ∧ w'.cell? ⟨b1, of1 + j, none⟩ = some (.slice aoj (f j).length cpj))) := fun y h => by
                  refine (E.out.sum y _ _ (hslm.below h.1) hlen).mono ?_
                  rintro ev w' ⟨rfl, hb⟩
                  exact ⟨rfl, HS.out _ (h.1.trans (hb.mono h.1.size))⟩
                have C2 : Hid (∀ y, (Below wr.heap.size wr y ∧ y.cell? ⟨b1, of1 + m, none⟩ = some (.slice am (f m).length cpm) ∧ y.cell? ⟨b1, of1 + j, none⟩ = some (.slice aoj (f j).length cpj)) → Calls Try.prog 14 #[.slice aoj (f j).length cpj] y fun ev w' => ev = .returned (.agg (bys (F (f j))).toArray) ∧ (Below wr.heap.size wr w' ∧ w'.cell? ⟨b1, of1 + m, none⟩ = some (.slice am (f m).length cpm) ∧ w'.cell? ⟨b1, of1 + j, none⟩ = some (.slice aoj (f j).length cpj))) := fun y h => by
                  refine (E.out.sum y _ _ (hslj.below h.1) hlj).mono ?_
                  rintro ev w' ⟨rfl, hb⟩
                  exact ⟨rfl, HS.out _ (h.1.trans (hb.mono h.1.size))⟩
                have he := fun y => E.out.eq y (f m) (f j)
                clear hslm hslj hlj HS
                by_cases hq : F (f m) = F (f j)
                · rw [show (F (f m) == F (f j)) = true by rw [hq]; simp] at he
                  clear hne hq hfe
                  generalize (bys (F (f m))).toArray = Y1 at *
                  generalize (bys (F (f j))).toArray = Y2 at *
                  generalize (f m).length = lm at *
                  generalize (f j).length = lj at *
                  generalize str (f j) = Sj at *
                  generalize str (f m) = Sm at *
                  go_wp2_with fail
                  go_region_held3 (fun y => Below wr.heap.size wr y ∧ y.cell? ⟨b1, of1 + m, none⟩ = some (.slice am lm cpm) ∧ y.cell? ⟨b1, of1 + j, none⟩ = some (.slice aoj lj cpj)) (assumption) (first
                    | (go_at_call_of 14 am; refine (C1.out _ (by assumption)).mono ?_; rintro ev w3 ⟨rfl, hS3⟩) | (go_at_call_of 14 aoj; refine (C2.out _ (by assumption)).mono ?_; rintro ev w4 ⟨rfl, hS4⟩))
                  clear C1 C2 vm vj q0
                  go_wp2_with (first | (go_at_call 9; refine (E.out.told _).mono ?_; rintro ev w5 ⟨rfl, hb5⟩))
                  go_ret
                  have h4 := hbi.trans (hS4.1.mono hbi.size)
                  exact ⟨rfl, h4.trans (hb5.mono h4.size)⟩
                · rw [show (F (f m) == F (f j)) = false by simpa using hq] at he
                  have HQ : Hid (∀ q, q < j + 1 → f m ≠ f q → F (f m) ≠ F (f q)) := fun q h h' => by
                    by_cases e : q = j
                    · subst e; exact hq
                    · exact hne q (by omega) h'
                  clear hne hq hfe
                  generalize (bys (F (f m))).toArray = Y1 at *
                  generalize (bys (F (f j))).toArray = Y2 at *
                  generalize (f m).length = lm at *
                  generalize (f j).length = lj at *
                  generalize str (f j) = Sj at *
                  generalize str (f m) = Sm at *
                  go_wp2_with fail
                  go_region_held3 (fun y => Below wr.heap.size wr y ∧ y.cell? ⟨b1, of1 + m, none⟩ = some (.slice am lm cpm) ∧ y.cell? ⟨b1, of1 + j, none⟩ = some (.slice aoj lj cpj)) (assumption) (first
                    | (go_at_call_of 14 am; refine (C1.out _ (by assumption)).mono ?_; rintro ev w3 ⟨rfl, hS3⟩) | (go_at_call_of 14 aoj; refine (C2.out _ (by assumption)).mono ?_; rintro ev w4 ⟨rfl, hS4⟩))
                  clear C1 C2 vm vj q0
                  go_wp2_with fail
                  go_roundw
                  case rel => exact ⟨j + 1, by omega, by go_num, hbi.trans (hS4.1.mono hbi.size), HQ.out⟩
                  case measure => simp [intOf]; omega
            · have hlt3 : ¬ (j : Int) < (m : Int) := by omega
              obtain rfl : j = m := by omega
              have HAX : Hid (∀ q q', q < j + 1 → q' < q → f q ≠ f q' → F (f q) ≠ F (f q')) := fun q q' h h' => by
                by_cases e : q = j
                · subst e; exact hne q' h'
                · exact HAP.out q q' (by omega) h'
              clear hne HAP
              go_wp2_with fail
              go_roundw
              case rel => exact ⟨j + 1, by omega, by go_num, hbi, HSH.out, HAX.out⟩
              case measure => simp [intOf]; omega
        · have hlen2 : (200 : Int) < ((f m).length : Int) := by omega
          have C9 := E.out.told wr
          clear hsl0 hsh hap
          go_wp2_with (first | (go_at_call 9; refine C9.mono ?_; rintro ev w2 ⟨rfl, hb2⟩))
          go_ret
          exact ⟨rfl, hB.trans (hb2.mono hB.size)⟩
      · obtain rfl : n = m := by omega
        have hlt : ¬ ((n : Nat) : Int) < (n : Int) := by omega
        have HSH : Hid (∀ q, q < n → (f q).length ≤ 200) := hsh
        have HAP : Hid (∀ q q', q < n → q' < n → f q ≠ f q' → F (f q) ≠ F (f q')) := fun q q' h h' hne => by
          rcases Nat.lt_trichotomy q q' with h1 | h1 | h1
          · exact fun e => hap q' q h' h1 (fun e' => hne e'.symm) e.symm
          · subst h1; exact absurd rfl hne
          · exact hap q q' h h1 hne
        clear hsh hap
        have C8 := E.out.new w wr 16 hB (by omega) (by omega)
        go_wp2_with (first | (go_at_call 8; refine C8.mono ?_; rintro ev w2 ⟨sa, ba, TA, rfl, EA, LA, hTA, hba, hb2⟩; have hB2 := hB.trans (hb2.mono hB.size); have D8 := E.out.new w w2 16 hB2 (by omega) (by omega); have HA2 : Hid (SEnv w 16 sa ba F TA ∧ SList sa F TA ∧ TA (fun _ => False) [] w2) := ⟨EA, LA, hTA⟩; clear C8 EA LA hTA) | (go_at_call 8; refine D8.mono ?_; rintro ev w3 ⟨sb, bb, TB, rfl, EB, LB, hTB, hbb, hb3⟩; have HB2 : Hid (SEnv w 16 sb bb F TB ∧ SList sb F TB ∧ TB (fun _ => False) [] w3) := ⟨EB, LB, hTB⟩; clear D8 EB LB hTB))
        obtain ⟨R, hTE, hR0⟩ : ∃ R, TEnv w F sa sb R ∧ R [] [] w3 := ⟨_, tenv_of HA2.out.1 HB2.out.1 HA2.out.2.1 HB2.out.2.1 (by have := HA2.out.1.lt _ _ _ HA2.out.2.2; omega), HA2.out.1.keep _ _ _ _ HA2.out.2.2 hb3, HB2.out.2.2, hB2.trans (hb3.mono hB2.size)⟩
        have TE : Hid (TEnv w F sa sb R) := hTE
        have HI2 : Hid (OrRel n f R 0 w3) := or_zero hR0
        clear hTE hR0 HA2 HB2 hB2 hb3 hb2 hB hbb hba
        go_loopw [9] (fun i wr => ∃ m : Nat, m ≤ n ∧ i = .int .i64 m ∧ OrRel n f R m wr) (fun i _ => n - (intOf i).toNat)
        case atStart => exact ⟨0, by omega, rfl, HI2.out⟩
        case round =>
          obtain ⟨m, hm, rfl, hR⟩ := hrel
          clear HI2
          by_cases hmn : m < n
          · have hlt2 : (m : Int) < (n : Int) := by omega
            obtain ⟨b1, of1, hao, hcell⟩ : ∃ b1 of1, ao = some ⟨b1, of1, none⟩ ∧ ∀ i, i < n → w.cell? ⟨b1, of1 + i, none⟩ = some (fv i) := by
              rcases A.out.shape with ⟨_, _, _, h0⟩ | ⟨b2, of2, cap, h, hcap, hc⟩
              · omega
              · cases h; exact ⟨_, _, rfl, hc⟩
            subst hao
            have HL : Hid (∀ y, Below w.heap.size w y → ∀ i, i < n → y.cell? ⟨b1, of1 + i, none⟩ = some (fv i) ∧ Sl y (fv i) (f i)) := fun y hy i hi =>
              ⟨(hy.cell (p := ⟨b1, of1 + i, none⟩) (World.block_lt_of_cell? w _ (hcell i hi))).trans (hcell i hi), (A.out.each i hi).1.below hy⟩
            clear hcell
            obtain ⟨A1, B1, hR1, hA1, hB1, mA1, mB1⟩ := hR
            obtain ⟨cm, hslm⟩ := HL.out wr (TE.out.below _ _ _ hR1) m hmn
            obtain ⟨am, cpm, hfm⟩ := sl_slice hslm
            rw [hfm] at cm hslm
            have C10 := TE.out.put wr _ A1 B1 (f m) hR1 hslm (HSH.out m hmn) (fun a ha hne => by
              obtain ⟨q, hq, rfl⟩ := (mA1 a).1 ha
              exact HAP.out m q hmn (by omega) hne) (by omega)
            have hk : n - 1 - m < n := by omega
            have hi1 : IntKind.i64.wrap ((n : Int) - 1) = ((n - 1 : Nat) : Int) := by rw [IntKind.wrap_i64]; omega
            have hi2 : IntKind.i64.wrap (((n - 1 : Nat) : Int) - (m : Int)) = ((n - 1 - m : Nat) : Int) := by rw [IntKind.wrap_i64]; omega
            obtain ⟨ak, cpk, hfk⟩ := sl_slice (A.out.each (n - 1 - m) hk).1
            have HM : Hid (A1.length ≤ m ∧ B1.length ≤ m ∧ (∀ z, z ∈ A1 ↔ ∃ q, q < m ∧ z = f q) ∧ ∀ z, z ∈ B1 ↔ ∃ q, q < n ∧ n ≤ q + m ∧ z = f q) := ⟨hA1, hB1, mA1, mB1⟩
            have HX : Hid (∀ A' y, R A' B1 y → (y.cell? ⟨b1, of1 + (n - 1 - m), none⟩ = some (.slice ak (f (n - 1 - m)).length cpk)) ∧ (Calls Try.prog 14 #[.slice ak (f (n - 1 - m)).length cpk] y fun ev w' => ev = .returned (.agg (bys (F (f (n - 1 - m)))).toArray) ∧ Below y.heap.size y w') ∧ Calls Try.prog 13 #[.pointer (some ⟨sb, 0, none⟩), .agg (bys (F (f (n - 1 - m)))).toArray, .slice ak (f (n - 1 - m)).length cpk] y fun ev w' => ∃ B', ev = .returned .nilIface ∧ R A' B' w' ∧ (∀ z, z ∈ B' ↔ z ∈ B1 ∨ z = f (n - 1 - m)) ∧ B'.length ≤ B1.length + 1) := fun A' y hy => by
              obtain ⟨ck, hslk⟩ := HL.out y (TE.out.below _ _ _ hy) (n - 1 - m) hk
              rw [hfk] at ck hslk
              refine ⟨ck, E.out.sum y _ _ hslk (HSH.out _ hk), TE.out.take y _ A' B1 (f (n - 1 - m)) hy hslk (HSH.out _ hk) (fun a ha hne => ?_) (by omega)⟩
              obtain ⟨q, hq, _, rfl⟩ := (HM.out.2.2.2 a).1 ha
              exact HAP.out _ q hk hq hne
            clear hA1 hB1 mA1 mB1 hslm hfm hfk hR1 HL
            generalize (bys (F (f (n - 1 - m)))).toArray = Yk at *
            generalize (f (n - 1 - m)).length = lk at *
            generalize (f m).length = lm at *
            generalize hkk : n - 1 - m = k at *
            have hki : (k : Int) < (n : Int) := by omega
            go_wp2_with (first | (go_at_call 10; refine C10.mono ?_; rintro ev w3 ⟨Yh, A2, rfl, hR3, mA2, hA2, hYi, hYo, hYz⟩; have hgA := heap_alloc_new w3 (.cells z25.toArray 35); have hbA : Below w3.heap.size w3 (w3.alloc (.cells z25.toArray 35)) := (Below.refl _ _).alloc (Nat.le_refl _) _; clear C10 cm) | (refine store_box rfl 35 _ _ rfl w3.heap.size Yh rfl rfl 35 z25.toArray hgA hYi hYz hYo w3 hbA ?_; intro w4 rH hb4; have hR4 := TE.out.keep _ _ _ _ hR3 hb4; have c4 := (HX.out _ _ hR4).1; have C14 := (HX.out _ _ hR4).2.1; clear hR3 hgA hbA hYi hYo hYz rH hb4) | (go_at_call 14; refine C14.mono ?_; rintro ev w5 ⟨rfl, hb5⟩; have hR5 := TE.out.keep _ _ _ _ hR4 hb5; have C13 := (HX.out _ _ hR5).2.2; clear C14 hR4 hb5 c4) | (go_at_call 13; refine C13.mono ?_; rintro ev w6 ⟨B2, rfl, hR6, mB2, hB2⟩; clear C13 hR5))
            go_roundw
            case rel => exact ⟨m + 1, by omega, by go_num, or_step hmn HM.out.1 HM.out.2.1 HM.out.2.2.1 HM.out.2.2.2 mA2 (by rw [hkk]; exact mB2) hA2 hB2 hR6⟩
            case measure => simp [intOf]; omega
          · obtain rfl : n = m := by omega
            have hlt2 : ¬ ((n : Nat) : Int) < (n : Int) := by omega
            obtain ⟨A1, B1, hR1, hA1, hMM⟩ := or_end hR
            have HMM : Hid (∀ z, z ∈ A1 ↔ z ∈ B1) := hMM
            have C20 := TE.out.listA _ _ _ hR1
            clear hR hMM HAP HSH hlt A
            go_wp2_with (first | (go_at_call 20; refine C20.mono ?_; rintro ev w4 ⟨⟨g, cap, hs, rfl, hper, hsrt, hcp, hg4, hly⟩, hb4⟩; have hR4 := TE.out.keep _ _ _ _ hR1 hb4; have D20 := TE.out.listB _ _ _ hR4; have HG : Hid (hs.Perm (A1.map F).reverse ∧ hs.Pairwise (fun a b => less a b = true) ∧ Lies w4 g hs) := ⟨hper, hsrt, hly⟩; clear C20 hper hsrt hly hR1 hb4) | (go_at_call 20; refine D20.mono ?_; rintro ev w5 ⟨⟨g2, cap2, hs2, rfl, hper2, hsrt2, hcp2, hg5, hly2⟩, hb5⟩; have hone := lists_one HMM.out HG.out.1 hper2 HG.out.2.1 hsrt2; obtain ⟨rfl, hlen2⟩ := hone; have hR5 := TE.out.keep _ _ _ _ hR4 hb5; have CA := TE.out.countA _ _ _ hR5; have CB := TE.out.countB _ _ _ hR5; rw [hlen2] at CB; have HG2 : Hid (Lies w5 g hs2 ∧ Lies w5 g2 hs2) := ⟨lies_below HG.out.2.2 hb5, hly2⟩; clear hper2 hsrt2 hly2 hlen2 D20 hb5 hR4) | (go_at_call_of 21 sa; refine CA.mono ?_; rintro ev w6 ⟨rfl, rfl⟩; clear CA) | (go_at_call_of 21 sb; refine CB.mono ?_; rintro ev w7 ⟨rfl, rfl⟩; clear CB))
            have hsm : hs2.length ≤ 16 := by have := perm_len HG.out.1; omega
            have HH : Hid (hs2.Perm (A1.map F).reverse ∧ hs2.Pairwise (fun a b => less a b = true) ∧ R A1 B1 w7 ∧ Lies w7 g hs2 ∧ Lies w7 g2 hs2) := ⟨HG.out.1, HG.out.2.1, hR5, HG2.out⟩
            have HI3 : Hid (Below w7.heap.size w7 w7) := Below.refl _ _
            clear HG HG2 hR5 hg4 hg5 hA1
            go_loopw [15] (fun i wi => ∃ q : Nat, q ≤ hs2.length ∧ i = .int .i64 q ∧ Below w7.heap.size w7 wi) (fun i _ => hs2.length - (intOf i).toNat)
            case atStart => exact ⟨0, by omega, rfl, HI3.out⟩
            case round =>
              obtain ⟨q, hq, rfl, hbq⟩ := hrel
              clear HI3
              have hBw := TE.out.below _ _ _ HH.out.2.2.1
              have HBq : Hid (Below w.heap.size w wr) := hBw.trans (hbq.mono hBw.size)
              clear hBw
              by_cases hqi : q < hs2.length
              · have hlq : (q : Int) < (hs2.length : Int) := by omega
                obtain ⟨b, hbA, hqF⟩ := perm_mem HH.out.1 hqi
                have hLi := info35L (F b) (E.out.len b)
                have hr1 := (lies_below HH.out.2.2.2.1 hbq q hqi).1
                have HR2 : Hid (∀ y, Below wr.heap.size wr y → y.rangeAt g (q * 32) (bys (F b)) ∧ y.rangeAt g2 (q * 32) (bys (F b))) := fun y hy => by
                  rw [← hqF]
                  exact ⟨range_below (lies_below HH.out.2.2.2.1 hbq q hqi).1 hy, range_below (lies_below HH.out.2.2.2.2 hbq q hqi).1 hy⟩
                rw [hqF] at hr1
                have hRq := TE.out.keep _ _ _ _ HH.out.2.2.1 hbq
                have CA := TE.out.getA _ _ _ b hRq hbA
                have CB : Hid (∀ y, Below wr.heap.size wr y → Calls Try.prog 16 #[.pointer (some ⟨sb, 0, none⟩), .agg (bys (F b)).toArray] y fun ev w' => GotRet b y ev w') := fun y hy => TE.out.getB _ _ _ b (TE.out.keep _ _ _ _ hRq hy) ((HMM.out b).1 hbA)
                have he := fun y => E.out.eq y b b
                rw [show (F b == F b) = true by simp] at he
                have HF : Hid (hs2.getD q [] = F b) := hqF
                clear hbA hqF hRq
                have HLs : Hid (∀ p, p < hs2.length → (hs2.getD p []).length = 32) := fun p hp => by
                  obtain ⟨b', _, e⟩ := perm_mem HH.out.1 hp
                  rw [e]; exact E.out.len b'
                generalize hLL : bys (F b) = L at *
                have HLL : Hid (bys (F b) = L) := hLL
                clear hLL
                go_wp2_with (first | (refine wpList_load_mid rfl 35 _ rfl g (q * 32) (by simp [Act.eval]) L _ hr1 Try.underlying35 rfl hLi ?_) | (go_at_call_of 16 sa; refine CA.mono ?_; rintro ev x1 ⟨ao1, cp1, rfl, hs1, hx1⟩; have hr2 := (HR2.out x1 hx1).1; have CBx := CB.out x1 hx1; clear CA CB hr1) | (refine wpList_load_mid rfl 35 _ rfl g (q * 32) (by simp [Act.eval]) L _ hr2 Try.underlying35 rfl hLi ?_) | (go_at_call_of 16 sb; refine CBx.mono ?_; rintro ev x2 ⟨ao2, cp2, rfl, hs22, hx2⟩; clear CBx hr2))
                have hx12 := hx1.trans (hx2.mono hx1.size)
                have vA : ∀ y, Below x2.heap.size x2 y → (convert 33 9 (.slice ao1 b.length cp1)).run Try.prog y = .ok (.string (str b)) y := fun y hy => conv_sl y _ _ ((hs1.below hx2).below hy)
                have vB : ∀ y, Below x2.heap.size x2 y → (convert 33 9 (.slice ao2 b.length cp2)).run Try.prog y = .ok (.string (str b)) y := fun y hy => conv_sl y _ _ (hs22.below hy)
                have HS2 : Hid (∀ y, Below x2.heap.size x2 y → Below x2.heap.size x2 y ∧ y.rangeAt g (q * 32) L ∧ y.rangeAt g2 (q * 32) L) := fun y hy =>
                  ⟨hy, HR2.out y (hx12.trans (hy.mono hx12.size))⟩
                have HW : Hid (∀ y, Below x2.heap.size x2 y → Below w7.heap.size w7 y) := fun y hy => (hbq.trans (hx12.mono hbq.size)).trans (hy.mono (hbq.trans (hx12.mono hbq.size)).size)
                by_cases hq0 : q = 0
                · subst hq0
                  have q0 : Below x2.heap.size x2 x2.drew ∧ x2.drew.rangeAt g (0 * 32) L ∧ x2.drew.rangeAt g2 (0 * 32) L ∧ True := by
                    have := HS2.out x2.drew (Below.refl _ _).drew
                    exact ⟨this.1, this.2.1, this.2.2, trivial⟩
                  clear HR2 HF HLL hs1 hs22 hx1 hx2 hx12 HH HS2 HLs
                  generalize str b = Sb at *
                  generalize b.length = lb at *
                  refine wp_region_held_drew (S := fun y => Below x2.heap.size x2 y ∧ y.rangeAt g (0 * 32) L ∧ y.rangeAt g2 (0 * 32) L ∧ True) (by kernel_rfl) q0 (fun hHeld => ?_)
                  generalize x2.drew = wd at *
                  refine take_in 0 (v := ?vzaN0) rfl (some 161) rfl (by kernel_rfl) (by kernel_rfl) (by kernel_rfl) (fun _ _ _ h => h) (Or.inl ⟨by rfl, ?hzaN0⟩) (by assumption) ?rzaN0
                  case hzaN0 => (intro y hy; go_simp; with_reducible rfl)
                  simp only [Act.put, List.setIfInBounds_toArray, List.set_cons_zero, List.set_cons_succ]
                  refine take_in 1 (v := ?vzaN1) rfl (some 162) rfl (by kernel_rfl) (by kernel_rfl) (by kernel_rfl) (fun _ _ _ h => h) (Or.inl ⟨by rfl, ?hzaN1⟩) (by assumption) ?rzaN1
                  case hzaN1 => (intro y hy; go_simp; with_reducible rfl)
                  simp only [Act.put, List.setIfInBounds_toArray, List.set_cons_zero, List.set_cons_succ]
                  refine take_in 2 (v := ?vzaN2) rfl (some 163) rfl (by kernel_rfl) (by kernel_rfl) (by kernel_rfl) (fun _ _ _ h => h) (Or.inl ⟨by rfl, ?hzaN2⟩) (by assumption) ?rzaN2
                  case hzaN2 => (intro y hy; go_simp; with_reducible rfl)
                  simp only [Act.put, List.setIfInBounds_toArray, List.set_cons_zero, List.set_cons_succ]
                  refine take_in 3 (v := .agg L.toArray) rfl (some 164) rfl (by kernel_rfl) (by kernel_rfl) (by kernel_rfl) (fun _ _ _ h => h) (yieldsIf_load_mid (by rfl) 35 _ rfl g (0 * 32) (by simp [Act.eval]) L _ (fun y hy => hy.2.1) Try.underlying35 rfl hLi) (by assumption) ?_
                  simp only [Act.put, List.setIfInBounds_toArray, List.set_cons_zero, List.set_cons_succ]
                  refine take_in 4 (v := ?vzaN4) rfl (some 165) rfl (by kernel_rfl) (by kernel_rfl) (by kernel_rfl) (fun _ _ _ h => h) (Or.inl ⟨by rfl, ?hzaN4⟩) (by assumption) ?rzaN4
                  case hzaN4 => (intro y hy; go_simp; with_reducible rfl)
                  simp only [Act.put, List.setIfInBounds_toArray, List.set_cons_zero, List.set_cons_succ]
                  refine take_in 5 (v := ?vzaN5) rfl (some 166) rfl (by kernel_rfl) (by kernel_rfl) (by kernel_rfl) (fun _ _ _ h => h) (Or.inl ⟨by rfl, ?hzaN5⟩) (by assumption) ?rzaN5
                  case hzaN5 => (intro y hy; go_simp; with_reducible rfl)
                  simp only [Act.put, List.setIfInBounds_toArray, List.set_cons_zero, List.set_cons_succ]
                  refine take_in 6 (v := ?vzaN6) rfl (some 167) rfl (by kernel_rfl) (by kernel_rfl) (by kernel_rfl) (fun _ _ _ h => h) (Or.inl ⟨by rfl, ?hzaN6⟩) (by assumption) ?rzaN6
                  case hzaN6 => (intro y hy; go_simp; with_reducible rfl)
                  simp only [Act.put, List.setIfInBounds_toArray, List.set_cons_zero, List.set_cons_succ]
                  refine take_in 7 (v := .agg L.toArray) rfl (some 168) rfl (by kernel_rfl) (by kernel_rfl) (by kernel_rfl) (fun _ _ _ h => h) (yieldsIf_load_mid (by rfl) 35 _ rfl g2 (0 * 32) (by simp [Act.eval]) L _ (fun y hy => hy.2.2.1) Try.underlying35 rfl hLi) (by assumption) ?_
                  simp only [Act.put, List.setIfInBounds_toArray, List.set_cons_zero, List.set_cons_succ]
                  refine take_in 8 (v := ?vzaN8) rfl (some 169) rfl (by kernel_rfl) (by kernel_rfl) (by kernel_rfl) (fun _ _ _ h => h) (Or.inl ⟨by rfl, ?hzaN8⟩) (by assumption) ?rzaN8
                  case hzaN8 => (intro y hy; go_simp; with_reducible rfl)
                  simp only [Act.put, List.setIfInBounds_toArray, List.set_cons_zero, List.set_cons_succ]
                  refine take_in 9 (v := ?vzaN9) rfl (some 170) rfl (by kernel_rfl) (by kernel_rfl) (by kernel_rfl) (fun _ _ _ h => h) (Or.inl ⟨by rfl, ?hzaN9⟩) (by assumption) ?rzaN9
                  case hzaN9 => (intro y hy; go_simp; with_reducible rfl)
                  simp only [Act.put, List.setIfInBounds_toArray, List.set_cons_zero, List.set_cons_succ]
                  refine take_in 10 (v := ?vzaN10) rfl (some 171) rfl (by kernel_rfl) (by kernel_rfl) (by kernel_rfl) (fun _ _ _ h => h) (Or.inl ⟨by rfl, ?hzaN10⟩) (by assumption) ?rzaN10
                  case hzaN10 => (intro y hy; go_simp; with_reducible rfl)
                  simp only [Act.put, List.setIfInBounds_toArray, List.set_cons_zero, List.set_cons_succ]
                  refine take_in 11 (v := ?vzaN11) rfl (some 172) rfl (by kernel_rfl) (by kernel_rfl) (by kernel_rfl) (fun _ _ _ h => h) (Or.inl ⟨by rfl, ?hzaN11⟩) (by assumption) ?rzaN11
                  case hzaN11 => (intro y hy; go_simp; with_reducible rfl)
                  simp only [Act.put, List.setIfInBounds_toArray, List.set_cons_zero, List.set_cons_succ]
                  refine take_in 12 (v := ?vzaN12) rfl (some 173) rfl (by kernel_rfl) (by kernel_rfl) (by kernel_rfl) (fun _ _ _ h => h) (Or.inl ⟨by rfl, ?hzaN12⟩) (by assumption) ?rzaN12
                  case hzaN12 => (intro y hy; go_simp; with_reducible rfl)
                  simp only [Act.put, List.setIfInBounds_toArray, List.set_cons_zero, List.set_cons_succ]
                  refine take_in 13 (v := ?vzaN13) rfl (some 174) rfl (by kernel_rfl) (by kernel_rfl) (by kernel_rfl) (fun _ _ _ h => h) (Or.inl ⟨by rfl, ?hzaN13⟩) (by assumption) ?rzaN13
                  case hzaN13 => (intro y hy; go_simp; with_reducible rfl)
                  simp only [Act.put, List.setIfInBounds_toArray, List.set_cons_zero, List.set_cons_succ]
                  refine take_in 14 (v := ?vzaN14) rfl (some 175) rfl (by kernel_rfl) (by kernel_rfl) (by kernel_rfl) (fun _ _ _ h => h) (Or.inl ⟨by rfl, ?hzaN14⟩) (by assumption) ?rzaN14
                  case hzaN14 => (intro y hy; go_simp; with_reducible rfl)
                  simp only [Act.put, List.setIfInBounds_toArray, List.set_cons_zero, List.set_cons_succ]
                  refine take_in 15 (v := ?vzaN15) rfl (some 176) rfl (by kernel_rfl) (by kernel_rfl) (by kernel_rfl) (fun _ _ _ h => h) (Or.inl ⟨by rfl, ?hzaN15⟩) (by assumption) ?rzaN15
                  case hzaN15 => (intro y hy; go_simp; with_reducible rfl)
                  simp only [Act.put, List.setIfInBounds_toArray, List.set_cons_zero, List.set_cons_succ]
                  refine take_in 16 (v := ?vzaN16) rfl (some 177) rfl (by kernel_rfl) (by kernel_rfl) (by kernel_rfl) (fun _ _ _ h => h) (Or.inl ⟨by rfl, ?hzaN16⟩) (by assumption) ?rzaN16
                  case hzaN16 => (intro y hy; go_simp; with_reducible rfl)
                  simp only [Act.put, List.setIfInBounds_toArray, List.set_cons_zero, List.set_cons_succ]
                  refine take_in 17 (v := ?vzaN17) rfl (some 178) rfl (by kernel_rfl) (by kernel_rfl) (by kernel_rfl) (fun _ _ _ h => h) (Or.inl ⟨by rfl, ?hzaN17⟩) (by assumption) ?rzaN17
                  case hzaN17 => (intro y hy; go_simp; with_reducible rfl)
                  simp only [Act.put, List.setIfInBounds_toArray, List.set_cons_zero, List.set_cons_succ]
                  refine take_in 18 (v := ?vzaN18) rfl (some 179) rfl (by kernel_rfl) (by kernel_rfl) (by kernel_rfl) (fun _ _ _ h => h) (Or.inl ⟨by rfl, ?hzaN18⟩) (by assumption) ?rzaN18
                  case hzaN18 => (intro y hy; go_simp; with_reducible rfl)
                  simp only [Act.put, List.setIfInBounds_toArray, List.set_cons_zero, List.set_cons_succ]
                  refine take_in 19 (v := ?vzaN19) rfl (some 180) rfl (by kernel_rfl) (by kernel_rfl) (by kernel_rfl) (fun _ _ _ h => h) (Or.inl ⟨by rfl, ?hzaN19⟩) (by assumption) ?rzaN19
                  case hzaN19 => (intro y hy; have v1 := vA y hy.1; have v2 := vB y hy.1; go_simp; with_reducible rfl)
                  simp only [Act.put, List.setIfInBounds_toArray, List.set_cons_zero, List.set_cons_succ]
                  refine take_in 20 (v := ?vzaN20) rfl (some 181) rfl (by kernel_rfl) (by kernel_rfl) (by kernel_rfl) (fun _ _ _ h => h) (Or.inl ⟨by rfl, ?hzaN20⟩) (by assumption) ?rzaN20
                  case hzaN20 => (intro y hy; go_simp; with_reducible rfl)
                  simp only [Act.put, List.setIfInBounds_toArray, List.set_cons_zero, List.set_cons_succ]
                  refine take_in 21 (v := ?vzaN21) rfl (some 182) rfl (by kernel_rfl) (by kernel_rfl) (by kernel_rfl) (fun _ _ _ h => h) (Or.inl ⟨by rfl, ?hzaN21⟩) (by assumption) ?rzaN21
                  case hzaN21 => (intro y hy; have v1 := vA y hy.1; have v2 := vB y hy.1; go_simp; with_reducible rfl)
                  simp only [Act.put, List.setIfInBounds_toArray, List.set_cons_zero, List.set_cons_succ]
                  refine take_in 22 (v := ?vzaN22) rfl (some 183) rfl (by kernel_rfl) (by kernel_rfl) (by kernel_rfl) (fun _ _ _ h => h) (Or.inl ⟨by rfl, ?hzaN22⟩) (by assumption) ?rzaN22
                  case hzaN22 => (intro y hy; go_simp; with_reducible rfl)
                  simp only [Act.put, List.setIfInBounds_toArray, List.set_cons_zero, List.set_cons_succ]
                  refine take_in 23 (v := ?vzaN23) rfl (some 184) rfl (by kernel_rfl) (by kernel_rfl) (by kernel_rfl) (fun _ _ _ h => h) (Or.inl ⟨by rfl, ?hzaN23⟩) (by assumption) ?rzaN23
                  case hzaN23 => (intro y hy; go_simp; with_reducible rfl)
                  simp only [Act.put, List.setIfInBounds_toArray, List.set_cons_zero, List.set_cons_succ]
                  refine take_in 24 (v := ?vzaN24) rfl (some 185) rfl (by kernel_rfl) (by kernel_rfl) (by kernel_rfl) (fun _ _ _ h => h) (Or.inl ⟨by rfl, ?hzaN24⟩) (by assumption) ?rzaN24
                  case hzaN24 => (intro y hy; go_simp; with_reducible rfl)
                  simp only [Act.put, List.setIfInBounds_toArray, List.set_cons_zero, List.set_cons_succ]
                  refine take_in 25 (v := ?vzaN25) rfl (some 186) rfl (by kernel_rfl) (by kernel_rfl) (by kernel_rfl) (fun _ _ _ h => h) (Or.inl ⟨by rfl, ?hzaN25⟩) (by assumption) ?rzaN25
                  case hzaN25 => (intro y hy; go_simp; with_reducible rfl)
                  simp only [Act.put, List.setIfInBounds_toArray, List.set_cons_zero, List.set_cons_succ]
                  refine take_in 26 (v := ?vzaN26) rfl (some 187) rfl (by kernel_rfl) (by kernel_rfl) (by kernel_rfl) (fun _ _ _ h => h) (Or.inl ⟨by rfl, ?hzaN26⟩) (by assumption) ?rzaN26
                  case hzaN26 => (intro y hy; go_simp; with_reducible rfl)
                  simp only [Act.put, List.setIfInBounds_toArray, List.set_cons_zero, List.set_cons_succ]
                  refine take_in 27 (v := ?vzaN27) rfl (some 188) rfl (by kernel_rfl) (by kernel_rfl) (by kernel_rfl) (fun _ _ _ h => h) (Or.inl ⟨by rfl, ?hzaN27⟩) (by assumption) ?rzaN27
                  case hzaN27 => (intro y hy; go_simp; with_reducible rfl)
                  simp only [Act.put, List.setIfInBounds_toArray, List.set_cons_zero, List.set_cons_succ]
                  refine take_in 28 (v := undef) rfl (some 189) rfl (by kernel_rfl) (by kernel_rfl) (by kernel_rfl) (fun _ _ _ h => h) (Or.inr ⟨by rfl, rfl⟩) (by assumption) ?_
                  simp only [Act.put, List.setIfInBounds_toArray, List.set_cons_zero, List.set_cons_succ]
                  refine take_in 29 (v := undef) rfl (some 190) rfl (by kernel_rfl) (by kernel_rfl) (by kernel_rfl) (fun _ _ _ h => h) (Or.inr ⟨by rfl, rfl⟩) (by assumption) ?_
                  simp only [Act.put, List.setIfInBounds_toArray, List.set_cons_zero, List.set_cons_succ]
                  refine take_in 30 (v := undef) rfl (some 191) rfl (by kernel_rfl) (by kernel_rfl) (by kernel_rfl) (fun _ _ _ h => h) (Or.inr ⟨by rfl, rfl⟩) (by assumption) ?_
                  simp only [Act.put, List.setIfInBounds_toArray, List.set_cons_zero, List.set_cons_succ]
                  refine take_in 31 (v := undef) rfl (some 192) rfl (by kernel_rfl) (by kernel_rfl) (by kernel_rfl) (fun _ _ _ h => h) (Or.inr ⟨by rfl, rfl⟩) (by assumption) ?_
                  simp only [Act.put, List.setIfInBounds_toArray, List.set_cons_zero, List.set_cons_succ]
                  refine take_in 32 (v := undef) rfl (some 193) rfl (by kernel_rfl) (by kernel_rfl) (by kernel_rfl) (fun _ _ _ h => h) (Or.inr ⟨by rfl, rfl⟩) (by assumption) ?_
                  simp only [Act.put, List.setIfInBounds_toArray, List.set_cons_zero, List.set_cons_succ]
                  refine take_in 33 (v := undef) rfl (some 194) rfl (by kernel_rfl) (by kernel_rfl) (by kernel_rfl) (fun _ _ _ h => h) (Or.inr ⟨by rfl, rfl⟩) (by assumption) ?_
                  simp only [Act.put, List.setIfInBounds_toArray, List.set_cons_zero, List.set_cons_succ]
                  refine take_in 34 (v := undef) rfl (some 195) rfl (by kernel_rfl) (by kernel_rfl) (by kernel_rfl) (fun _ _ _ h => h) (Or.inr ⟨by rfl, rfl⟩) (by assumption) ?_
                  simp only [Act.put, List.setIfInBounds_toArray, List.set_cons_zero, List.set_cons_succ]
                  refine take_in 35 (v := undef) rfl (some 196) rfl (by kernel_rfl) (by kernel_rfl) (by kernel_rfl) (fun _ _ _ h => h) (Or.inr ⟨by rfl, rfl⟩) (by assumption) ?_
                  simp only [Act.put, List.setIfInBounds_toArray, List.set_cons_zero, List.set_cons_succ]
                  refine take_in 36 (v := undef) rfl (some 197) rfl (by kernel_rfl) (by kernel_rfl) (by kernel_rfl) (fun _ _ _ h => h) (Or.inr ⟨by rfl, rfl⟩) (by assumption) ?_
                  simp only [Act.put, List.setIfInBounds_toArray, List.set_cons_zero, List.set_cons_succ]
                  refine take_in 37 (v := undef) rfl (some 198) rfl (by kernel_rfl) (by kernel_rfl) (by kernel_rfl) (fun _ _ _ h => h) (Or.inr ⟨by rfl, rfl⟩) (by assumption) ?_
                  simp only [Act.put, List.setIfInBounds_toArray, List.set_cons_zero, List.set_cons_succ]
                  refine take_in 38 (v := undef) rfl (some 199) rfl (by kernel_rfl) (by kernel_rfl) (by kernel_rfl) (fun _ _ _ h => h) (Or.inr ⟨by rfl, rfl⟩) (by assumption) ?_
                  simp only [Act.put, List.setIfInBounds_toArray, List.set_cons_zero, List.set_cons_succ]
                  refine take_in 39 (v := ?vzaN39) rfl (some 200) rfl (by kernel_rfl) (by kernel_rfl) (by kernel_rfl) (fun _ _ _ h => h) (Or.inl ⟨by rfl, ?hzaN39⟩) (by assumption) ?rzaN39
                  case hzaN39 => (intro y hy; go_simp; with_reducible rfl)
                  simp only [Act.put, List.setIfInBounds_toArray, List.set_cons_zero, List.set_cons_succ]
                  refine take_in 40 (v := ?vzaN40) rfl (some 201) rfl (by kernel_rfl) (by kernel_rfl) (by kernel_rfl) (fun _ _ _ h => h) (Or.inl ⟨by rfl, ?hzaN40⟩) (by assumption) ?rzaN40
                  case hzaN40 => (intro y hy; go_simp; with_reducible rfl)
                  simp only [Act.put, List.setIfInBounds_toArray, List.set_cons_zero, List.set_cons_succ]
                  refine wpAnyH_done (by kernel_rfl) ?_ _
                  clear vA vB he hLi
                  go_wp2_with fail
                  go_roundw
                  case rel => exact ⟨0 + 1, by omega, by go_num, HW.out _ q0.1⟩
                  case measure => simp [intOf]; omega
                · obtain ⟨p, rfl⟩ : ∃ p, q = p + 1 := ⟨q - 1, by omega⟩
                  generalize hqq : p + 1 = q at *
                  have hq1 : 0 < q := by omega
                  have hq2 : (0 : Int) < (q : Int) := by omega
                  have hsub : IntKind.i64.wrap ((q : Int) - 1) = (p : Int) := by rw [IntKind.wrap_i64]; omega
                  have hlp : (p : Int) < (hs2.length : Int) := by omega
                  have hpi : p < hs2.length := by omega
                  have hlp32 := HLs.out p hpi
                  have hLp := info35L (hs2.getD p []) hlp32
                  have hless : less (hs2.getD p []) (F b) = true := by
                    rw [← HF.out, ← hqq]; exact rising_at HH.out.2.1 (by omega)
                  have HRp : Hid (∀ y, Below x2.heap.size x2 y → y.rangeAt g (p * 32) (bys (hs2.getD p []))) := fun y hy => range_below (lies_below HH.out.2.2.2.1 (HW.out x2 (Below.refl _ _)) p hpi).1 hy
                  have q0 : Below x2.heap.size x2 x2.drew ∧ x2.drew.rangeAt g (q * 32) L ∧ x2.drew.rangeAt g2 (q * 32) L ∧ x2.drew.rangeAt g (p * 32) (bys (hs2.getD p [])) := by
                    have := HS2.out x2.drew (Below.refl _ _).drew
                    exact ⟨this.1, this.2.1, this.2.2, HRp.out _ this.1⟩
                  have J23 : Hid (∀ y, (Below x2.heap.size x2 y ∧ y.rangeAt g (q * 32) L ∧ y.rangeAt g2 (q * 32) L ∧ y.rangeAt g (p * 32) (bys (hs2.getD p []))) → Calls Try.prog 23 #[.agg (bys (hs2.getD p [])).toArray, .agg L.toArray] y fun ev w' => ev = .returned (.bool true) ∧ (Below x2.heap.size x2 w' ∧ w'.rangeAt g (q * 32) L ∧ w'.rangeAt g2 (q * 32) L ∧ w'.rangeAt g (p * 32) (bys (hs2.getD p [])))) := fun y hy => by
                    have := xless_any y (hs2.getD p []) (F b) hlp32 (E.out.len b)
                    rw [HLL.out] at this
                    refine this.mono ?_
                    rintro ev w' ⟨rfl, hb⟩
                    rw [hless]
                    have h1 := hy.1.trans (hb.mono hy.1.size)
                    exact ⟨rfl, h1, (HS2.out _ h1).2.1, (HS2.out _ h1).2.2, HRp.out _ h1⟩
                  clear HR2 HF HLL hs1 hs22 hx1 hx2 hx12 HH HS2 HLs hless hlp32 HRp
                  generalize bys (hs2.getD p []) = Lp at *
                  generalize str b = Sb at *
                  generalize b.length = lb at *
                  refine wp_region_held_drew (S := fun y => Below x2.heap.size x2 y ∧ y.rangeAt g (q * 32) L ∧ y.rangeAt g2 (q * 32) L ∧ y.rangeAt g (p * 32) Lp) (by kernel_rfl) q0 (fun hHeld => ?_)
                  generalize x2.drew = wd at *
                  refine take_in 0 (v := ?vzbN0) rfl (some 161) rfl (by kernel_rfl) (by kernel_rfl) (by kernel_rfl) (fun _ _ _ h => h) (Or.inl ⟨by rfl, ?hzbN0⟩) (by assumption) ?rzbN0
                  case hzbN0 => (intro y hy; go_simp; with_reducible rfl)
                  simp only [Act.put, List.setIfInBounds_toArray, List.set_cons_zero, List.set_cons_succ]
                  refine take_in 1 (v := ?vzbN1) rfl (some 162) rfl (by kernel_rfl) (by kernel_rfl) (by kernel_rfl) (fun _ _ _ h => h) (Or.inl ⟨by rfl, ?hzbN1⟩) (by assumption) ?rzbN1
                  case hzbN1 => (intro y hy; go_simp; with_reducible rfl)
                  simp only [Act.put, List.setIfInBounds_toArray, List.set_cons_zero, List.set_cons_succ]
                  refine take_in 2 (v := ?vzbN2) rfl (some 163) rfl (by kernel_rfl) (by kernel_rfl) (by kernel_rfl) (fun _ _ _ h => h) (Or.inl ⟨by rfl, ?hzbN2⟩) (by assumption) ?rzbN2
                  case hzbN2 => (intro y hy; go_simp; with_reducible rfl)
                  simp only [Act.put, List.setIfInBounds_toArray, List.set_cons_zero, List.set_cons_succ]
                  refine take_in 3 (v := .agg L.toArray) rfl (some 164) rfl (by kernel_rfl) (by kernel_rfl) (by kernel_rfl) (fun _ _ _ h => h) (yieldsIf_load_mid (by rfl) 35 _ rfl g (q * 32) (by simp [Act.eval]) L _ (fun y hy => hy.2.1) Try.underlying35 rfl hLi) (by assumption) ?_
                  simp only [Act.put, List.setIfInBounds_toArray, List.set_cons_zero, List.set_cons_succ]
                  refine take_in 4 (v := ?vzbN4) rfl (some 165) rfl (by kernel_rfl) (by kernel_rfl) (by kernel_rfl) (fun _ _ _ h => h) (Or.inl ⟨by rfl, ?hzbN4⟩) (by assumption) ?rzbN4
                  case hzbN4 => (intro y hy; go_simp; with_reducible rfl)
                  simp only [Act.put, List.setIfInBounds_toArray, List.set_cons_zero, List.set_cons_succ]
                  refine take_in 5 (v := ?vzbN5) rfl (some 166) rfl (by kernel_rfl) (by kernel_rfl) (by kernel_rfl) (fun _ _ _ h => h) (Or.inl ⟨by rfl, ?hzbN5⟩) (by assumption) ?rzbN5
                  case hzbN5 => (intro y hy; go_simp; with_reducible rfl)
                  simp only [Act.put, List.setIfInBounds_toArray, List.set_cons_zero, List.set_cons_succ]
                  refine take_in 6 (v := ?vzbN6) rfl (some 167) rfl (by kernel_rfl) (by kernel_rfl) (by kernel_rfl) (fun _ _ _ h => h) (Or.inl ⟨by rfl, ?hzbN6⟩) (by assumption) ?rzbN6
                  case hzbN6 => (intro y hy; go_simp; with_reducible rfl)
                  simp only [Act.put, List.setIfInBounds_toArray, List.set_cons_zero, List.set_cons_succ]
                  refine take_in 7 (v := .agg L.toArray) rfl (some 168) rfl (by kernel_rfl) (by kernel_rfl) (by kernel_rfl) (fun _ _ _ h => h) (yieldsIf_load_mid (by rfl) 35 _ rfl g2 (q * 32) (by simp [Act.eval]) L _ (fun y hy => hy.2.2.1) Try.underlying35 rfl hLi) (by assumption) ?_
                  simp only [Act.put, List.setIfInBounds_toArray, List.set_cons_zero, List.set_cons_succ]
                  refine take_in 8 (v := ?vzbN8) rfl (some 169) rfl (by kernel_rfl) (by kernel_rfl) (by kernel_rfl) (fun _ _ _ h => h) (Or.inl ⟨by rfl, ?hzbN8⟩) (by assumption) ?rzbN8
                  case hzbN8 => (intro y hy; go_simp; with_reducible rfl)
                  simp only [Act.put, List.setIfInBounds_toArray, List.set_cons_zero, List.set_cons_succ]
                  refine take_in 9 (v := ?vzbN9) rfl (some 170) rfl (by kernel_rfl) (by kernel_rfl) (by kernel_rfl) (fun _ _ _ h => h) (Or.inl ⟨by rfl, ?hzbN9⟩) (by assumption) ?rzbN9
                  case hzbN9 => (intro y hy; go_simp; with_reducible rfl)
                  simp only [Act.put, List.setIfInBounds_toArray, List.set_cons_zero, List.set_cons_succ]
                  refine take_in 10 (v := ?vzbN10) rfl (some 171) rfl (by kernel_rfl) (by kernel_rfl) (by kernel_rfl) (fun _ _ _ h => h) (Or.inl ⟨by rfl, ?hzbN10⟩) (by assumption) ?rzbN10
                  case hzbN10 => (intro y hy; go_simp; with_reducible rfl)
                  simp only [Act.put, List.setIfInBounds_toArray, List.set_cons_zero, List.set_cons_succ]
                  refine take_in 11 (v := ?vzbN11) rfl (some 172) rfl (by kernel_rfl) (by kernel_rfl) (by kernel_rfl) (fun _ _ _ h => h) (Or.inl ⟨by rfl, ?hzbN11⟩) (by assumption) ?rzbN11
                  case hzbN11 => (intro y hy; go_simp; with_reducible rfl)
                  simp only [Act.put, List.setIfInBounds_toArray, List.set_cons_zero, List.set_cons_succ]
                  refine take_in 12 (v := ?vzbN12) rfl (some 173) rfl (by kernel_rfl) (by kernel_rfl) (by kernel_rfl) (fun _ _ _ h => h) (Or.inl ⟨by rfl, ?hzbN12⟩) (by assumption) ?rzbN12
                  case hzbN12 => (intro y hy; go_simp; with_reducible rfl)
                  simp only [Act.put, List.setIfInBounds_toArray, List.set_cons_zero, List.set_cons_succ]
                  refine take_in 13 (v := ?vzbN13) rfl (some 174) rfl (by kernel_rfl) (by kernel_rfl) (by kernel_rfl) (fun _ _ _ h => h) (Or.inl ⟨by rfl, ?hzbN13⟩) (by assumption) ?rzbN13
                  case hzbN13 => (intro y hy; go_simp; with_reducible rfl)
                  simp only [Act.put, List.setIfInBounds_toArray, List.set_cons_zero, List.set_cons_succ]
                  refine take_in 14 (v := ?vzbN14) rfl (some 175) rfl (by kernel_rfl) (by kernel_rfl) (by kernel_rfl) (fun _ _ _ h => h) (Or.inl ⟨by rfl, ?hzbN14⟩) (by assumption) ?rzbN14
                  case hzbN14 => (intro y hy; go_simp; with_reducible rfl)
                  simp only [Act.put, List.setIfInBounds_toArray, List.set_cons_zero, List.set_cons_succ]
                  refine take_in 15 (v := ?vzbN15) rfl (some 176) rfl (by kernel_rfl) (by kernel_rfl) (by kernel_rfl) (fun _ _ _ h => h) (Or.inl ⟨by rfl, ?hzbN15⟩) (by assumption) ?rzbN15
                  case hzbN15 => (intro y hy; go_simp; with_reducible rfl)
                  simp only [Act.put, List.setIfInBounds_toArray, List.set_cons_zero, List.set_cons_succ]
                  refine take_in 16 (v := ?vzbN16) rfl (some 177) rfl (by kernel_rfl) (by kernel_rfl) (by kernel_rfl) (fun _ _ _ h => h) (Or.inl ⟨by rfl, ?hzbN16⟩) (by assumption) ?rzbN16
                  case hzbN16 => (intro y hy; go_simp; with_reducible rfl)
                  simp only [Act.put, List.setIfInBounds_toArray, List.set_cons_zero, List.set_cons_succ]
                  refine take_in 17 (v := ?vzbN17) rfl (some 178) rfl (by kernel_rfl) (by kernel_rfl) (by kernel_rfl) (fun _ _ _ h => h) (Or.inl ⟨by rfl, ?hzbN17⟩) (by assumption) ?rzbN17
                  case hzbN17 => (intro y hy; go_simp; with_reducible rfl)
                  simp only [Act.put, List.setIfInBounds_toArray, List.set_cons_zero, List.set_cons_succ]
                  refine take_in 18 (v := ?vzbN18) rfl (some 179) rfl (by kernel_rfl) (by kernel_rfl) (by kernel_rfl) (fun _ _ _ h => h) (Or.inl ⟨by rfl, ?hzbN18⟩) (by assumption) ?rzbN18
                  case hzbN18 => (intro y hy; go_simp; with_reducible rfl)
                  simp only [Act.put, List.setIfInBounds_toArray, List.set_cons_zero, List.set_cons_succ]
                  refine take_in 19 (v := ?vzbN19) rfl (some 180) rfl (by kernel_rfl) (by kernel_rfl) (by kernel_rfl) (fun _ _ _ h => h) (Or.inl ⟨by rfl, ?hzbN19⟩) (by assumption) ?rzbN19
                  case hzbN19 => (intro y hy; have v1 := vA y hy.1; have v2 := vB y hy.1; go_simp; with_reducible rfl)
                  simp only [Act.put, List.setIfInBounds_toArray, List.set_cons_zero, List.set_cons_succ]
                  refine take_in 20 (v := ?vzbN20) rfl (some 181) rfl (by kernel_rfl) (by kernel_rfl) (by kernel_rfl) (fun _ _ _ h => h) (Or.inl ⟨by rfl, ?hzbN20⟩) (by assumption) ?rzbN20
                  case hzbN20 => (intro y hy; go_simp; with_reducible rfl)
                  simp only [Act.put, List.setIfInBounds_toArray, List.set_cons_zero, List.set_cons_succ]
                  refine take_in 21 (v := ?vzbN21) rfl (some 182) rfl (by kernel_rfl) (by kernel_rfl) (by kernel_rfl) (fun _ _ _ h => h) (Or.inl ⟨by rfl, ?hzbN21⟩) (by assumption) ?rzbN21
                  case hzbN21 => (intro y hy; have v1 := vA y hy.1; have v2 := vB y hy.1; go_simp; with_reducible rfl)
                  simp only [Act.put, List.setIfInBounds_toArray, List.set_cons_zero, List.set_cons_succ]
                  refine take_in 22 (v := ?vzbN22) rfl (some 183) rfl (by kernel_rfl) (by kernel_rfl) (by kernel_rfl) (fun _ _ _ h => h) (Or.inl ⟨by rfl, ?hzbN22⟩) (by assumption) ?rzbN22
                  case hzbN22 => (intro y hy; go_simp; with_reducible rfl)
                  simp only [Act.put, List.setIfInBounds_toArray, List.set_cons_zero, List.set_cons_succ]
                  refine take_in 23 (v := ?vzbN23) rfl (some 184) rfl (by kernel_rfl) (by kernel_rfl) (by kernel_rfl) (fun _ _ _ h => h) (Or.inl ⟨by rfl, ?hzbN23⟩) (by assumption) ?rzbN23
                  case hzbN23 => (intro y hy; go_simp; with_reducible rfl)
                  simp only [Act.put, List.setIfInBounds_toArray, List.set_cons_zero, List.set_cons_succ]
                  refine take_in 24 (v := ?vzbN24) rfl (some 185) rfl (by kernel_rfl) (by kernel_rfl) (by kernel_rfl) (fun _ _ _ h => h) (Or.inl ⟨by rfl, ?hzbN24⟩) (by assumption) ?rzbN24
                  case hzbN24 => (intro y hy; go_simp; with_reducible rfl)
                  simp only [Act.put, List.setIfInBounds_toArray, List.set_cons_zero, List.set_cons_succ]
                  refine take_in 25 (v := ?vzbN25) rfl (some 186) rfl (by kernel_rfl) (by kernel_rfl) (by kernel_rfl) (fun _ _ _ h => h) (Or.inl ⟨by rfl, ?hzbN25⟩) (by assumption) ?rzbN25
                  case hzbN25 => (intro y hy; go_simp; with_reducible rfl)
                  simp only [Act.put, List.setIfInBounds_toArray, List.set_cons_zero, List.set_cons_succ]
                  refine take_in 26 (v := ?vzbN26) rfl (some 187) rfl (by kernel_rfl) (by kernel_rfl) (by kernel_rfl) (fun _ _ _ h => h) (Or.inl ⟨by rfl, ?hzbN26⟩) (by assumption) ?rzbN26
                  case hzbN26 => (intro y hy; go_simp; with_reducible rfl)
                  simp only [Act.put, List.setIfInBounds_toArray, List.set_cons_zero, List.set_cons_succ]
                  refine take_in 27 (v := ?vzbN27) rfl (some 188) rfl (by kernel_rfl) (by kernel_rfl) (by kernel_rfl) (fun _ _ _ h => h) (Or.inl ⟨by rfl, ?hzbN27⟩) (by assumption) ?rzbN27
                  case hzbN27 => (intro y hy; go_simp; with_reducible rfl)
                  simp only [Act.put, List.setIfInBounds_toArray, List.set_cons_zero, List.set_cons_succ]
                  refine take_in 28 (v := ?vzbN28) rfl (some 189) rfl (by kernel_rfl) (by kernel_rfl) (by kernel_rfl) (fun _ _ _ h => h) (Or.inl ⟨by rfl, ?hzbN28⟩) (by assumption) ?rzbN28
                  case hzbN28 => (intro y hy; go_simp; with_reducible rfl)
                  simp only [Act.put, List.setIfInBounds_toArray, List.set_cons_zero, List.set_cons_succ]
                  refine take_in 29 (v := ?vzbN29) rfl (some 190) rfl (by kernel_rfl) (by kernel_rfl) (by kernel_rfl) (fun _ _ _ h => h) (Or.inl ⟨by rfl, ?hzbN29⟩) (by assumption) ?rzbN29
                  case hzbN29 => (intro y hy; go_simp; with_reducible rfl)
                  simp only [Act.put, List.setIfInBounds_toArray, List.set_cons_zero, List.set_cons_succ]
                  refine take_in 30 (v := ?vzbN30) rfl (some 191) rfl (by kernel_rfl) (by kernel_rfl) (by kernel_rfl) (fun _ _ _ h => h) (Or.inl ⟨by rfl, ?hzbN30⟩) (by assumption) ?rzbN30
                  case hzbN30 => (intro y hy; go_simp; with_reducible rfl)
                  simp only [Act.put, List.setIfInBounds_toArray, List.set_cons_zero, List.set_cons_succ]
                  refine take_in 31 (v := ?vzbN31) rfl (some 192) rfl (by kernel_rfl) (by kernel_rfl) (by kernel_rfl) (fun _ _ _ h => h) (Or.inl ⟨by rfl, ?hzbN31⟩) (by assumption) ?rzbN31
                  case hzbN31 => (intro y hy; go_simp; with_reducible rfl)
                  simp only [Act.put, List.setIfInBounds_toArray, List.set_cons_zero, List.set_cons_succ]
                  refine take_in 32 (v := .agg Lp.toArray) rfl (some 193) rfl (by kernel_rfl) (by kernel_rfl) (by kernel_rfl) (fun _ _ _ h => h) (yieldsIf_load_mid (by rfl) 35 _ rfl g (p * 32) (by simp [Act.eval]) Lp _ (fun y hy => hy.2.2.2) Try.underlying35 rfl hLp) (by assumption) ?_
                  simp only [Act.put, List.setIfInBounds_toArray, List.set_cons_zero, List.set_cons_succ]
                  refine take_in 33 (v := ?vzbN33) rfl (some 194) rfl (by kernel_rfl) (by kernel_rfl) (by kernel_rfl) (fun _ _ _ h => h) (Or.inl ⟨by rfl, ?hzbN33⟩) (by assumption) ?rzbN33
                  case hzbN33 => (intro y hy; go_simp; with_reducible rfl)
                  simp only [Act.put, List.setIfInBounds_toArray, List.set_cons_zero, List.set_cons_succ]
                  refine take_in 34 (v := ?vzbN34) rfl (some 195) rfl (by kernel_rfl) (by kernel_rfl) (by kernel_rfl) (fun _ _ _ h => h) (Or.inl ⟨by rfl, ?hzbN34⟩) (by assumption) ?rzbN34
                  case hzbN34 => (intro y hy; go_simp; with_reducible rfl)
                  simp only [Act.put, List.setIfInBounds_toArray, List.set_cons_zero, List.set_cons_succ]
                  refine take_in 35 (v := ?vzbN35) rfl (some 196) rfl (by kernel_rfl) (by kernel_rfl) (by kernel_rfl) (fun _ _ _ h => h) (Or.inl ⟨by rfl, ?hzbN35⟩) (by assumption) ?rzbN35
                  case hzbN35 => (intro y hy; go_simp; with_reducible rfl)
                  simp only [Act.put, List.setIfInBounds_toArray, List.set_cons_zero, List.set_cons_succ]
                  refine take_in 36 (v := .agg L.toArray) rfl (some 197) rfl (by kernel_rfl) (by kernel_rfl) (by kernel_rfl) (fun _ _ _ h => h) (yieldsIf_load_mid (by rfl) 35 _ rfl g (q * 32) (by simp [Act.eval]) L _ (fun y hy => hy.2.1) Try.underlying35 rfl hLi) (by assumption) ?_
                  simp only [Act.put, List.setIfInBounds_toArray, List.set_cons_zero, List.set_cons_succ]
                  refine wpAnyH_ready (rs := [37]) (by kernel_rfl) (by simp) ?_
                  refine AllReadyH.cons rfl (fun K hK => ?_) AllReadyH.nil
                  go_simp
                  go_wp2_with (first | (go_at_call 23; refine (J23.out _ (by assumption)).mono ?_; rintro ev w9 ⟨rfl, hS9⟩; clear J23))
                  refine hK.out _ _ (by assumption) (fun _ => ?_)
                  clear hK K
                  refine take_in 38 (v := ?vzbN38) rfl (some 199) rfl (by kernel_rfl) (by kernel_rfl) (by kernel_rfl) (fun _ _ _ h => h) (Or.inl ⟨by rfl, ?hzbN38⟩) (by assumption) ?rzbN38
                  case hzbN38 => (intro y hy; go_simp; with_reducible rfl)
                  simp only [Act.put, List.setIfInBounds_toArray, List.set_cons_zero, List.set_cons_succ]
                  refine take_in 39 (v := ?vzbN39) rfl (some 200) rfl (by kernel_rfl) (by kernel_rfl) (by kernel_rfl) (fun _ _ _ h => h) (Or.inl ⟨by rfl, ?hzbN39⟩) (by assumption) ?rzbN39
                  case hzbN39 => (intro y hy; go_simp; with_reducible rfl)
                  simp only [Act.put, List.setIfInBounds_toArray, List.set_cons_zero, List.set_cons_succ]
                  refine take_in 40 (v := ?vzbN40) rfl (some 201) rfl (by kernel_rfl) (by kernel_rfl) (by kernel_rfl) (fun _ _ _ h => h) (Or.inl ⟨by rfl, ?hzbN40⟩) (by assumption) ?rzbN40
                  case hzbN40 => (intro y hy; go_simp; with_reducible rfl)
                  simp only [Act.put, List.setIfInBounds_toArray, List.set_cons_zero, List.set_cons_succ]
                  refine wpAnyH_done (by kernel_rfl) ?_ _
                  clear vA vB he hLi hLp
                  go_wp2_with fail
                  go_roundw
                  case rel => exact ⟨q + 1, by omega, by go_num, HW.out _ hS9.1⟩
                  case measure => simp [intOf]; omega
              · obtain rfl : q = hs2.length := by omega
                have hlq : ¬ ((hs2.length : Nat) : Int) < (hs2.length : Int) := by omega
                have C9 := E.out.told wr
                clear HH
                go_wp2_with (first | (go_at_call 9; refine C9.mono ?_; rintro ev w8 ⟨rfl, hb8⟩))
                go_ret
                exact ⟨rfl, HBq.out.trans (hb8.mono HBq.out.size)⟩
end Go.Proofs.Ytjnogpcpekheoaa
