/-
  CasClash' walk.
-/
import Derived.Test.YtjnogpcpekheoaaClh
namespace Go.Proofs.Ytjnogpcpekheoaa
open Go.RowKit Go.Maps

/-- All that the walk knows of sums. -/
structure CEnv (F : Bys → Bys) : Prop where
  len : ∀ b, (F b).length = 32
  mine : ∀ y v b, Sl y v b → b.length ≤ 200 → Calls Try.prog 25 #[v] y fun ev w' => ev = .returned (.agg (bys (F b)).toArray) ∧ Below y.heap.size y w'
  sum : ∀ y v b, Sl y v b → b.length ≤ 200 → Calls Try.prog 14 #[v] y fun ev w' => ev = .returned (.agg (bys (F b)).toArray) ∧ Below y.heap.size y w'
  told : ∀ y, Calls Try.prog 9 #[] y fun ev w' => ev = .returned (.bool true) ∧ Below y.heap.size y w'
  eq : ∀ (y : World) a b, (Op.equalIn 10000 35 (.agg (bys (F a)).toArray) (.agg (bys (F b)).toArray)).run Try.prog y = .ok (F a == F b) y
theorem cenv_any : CEnv sumF where
  len b := sumF_len _
  mine y v b h hl := sum_any y v _ h (by omega)
  sum y v b h hl := xsum_any y v _ h (by omega)
  told y := told_any y
  eq y a b := equ25 y _ _ (sumF_len _) (sumF_len _)
theorem Ls.head {w : World} {b off cp n n' : Nat} {f : Nat → Bys} {fv : Nat → Value} (h : Ls w (.slice (some ⟨b, off, none⟩) n cp) n f fv) (hn : n' ≤ n) (h0 : 0 < n) : Ls w (.slice (some ⟨b, off, none⟩) n' cp) n' f fv := by
  refine ⟨by have := h.max; omega, ?_, fun i hi => h.each i (by omega)⟩
  rcases h.shape with ⟨_, _, _, h0'⟩ | ⟨b', off', cap, e, hcap, hc⟩
  · omega
  · cases e
    exact .inr ⟨b, off, cp, rfl, by omega, fun i hi => hc i (by omega)⟩
theorem Best.found {F : Bys → Bys} {f : Nat → Bys} {n a b i k : Nat} {is : Bool} (h : Best F f n a b is) (hk : k < n) (hc : Cl F f i k) (h1 : ∀ i' k', i' < i → k' < n → ¬ Cl F f i' k') (h2 : ∀ k', k' < k → ¬ Cl F f i k') : is = true ∧ a = i ∧ b = k := by
  cases is with
  | false => exact absurd hc ((h.none_ rfl).2.2 i k hk)
  | true =>
    obtain ⟨hb, hc', hm⟩ := h.some_ rfl
    refine ⟨rfl, ?_⟩
    rcases hm i k hk hc with h' | ⟨h', hbk⟩
    · exact absurd hc' (h1 a b h' hb)
    · subst h'
      refine ⟨rfl, ?_⟩
      rcases Nat.lt_or_ge b k with h'' | h''
      · exact absurd hc' (h2 b h'')
      · omega
theorem Best.nothing {F : Bys → Bys} {f : Nat → Bys} {n a b : Nat} {is : Bool} (h : Best F f n a b is) (h1 : ∀ i' k', i' < n → k' < n → ¬ Cl F f i' k') : is = false ∧ a = 0 ∧ b = 0 := by
  cases is with
  | false => exact ⟨rfl, (h.none_ rfl).1, (h.none_ rfl).2.1⟩
  | true =>
    obtain ⟨hb, hc', _⟩ := h.some_ rfl
    exact absurd hc' (h1 a b (by have := hc'.1; omega) hb)

attribute [local go_sem ↓] Go.wp_at_zero Go.wp_at_succ
set_option maxHeartbeats 16000000 in
set_option maxRecDepth 20000 in
theorem clash_walk (w : World) (v : Value) (n : Nat) (f : Nat → Bys) (fv : Nat → Value) (hL : Ls w v n f fv) : Calls Try.prog 5 #[v] w fun ev w' => ev = .returned (.bool true) ∧ Below w.heap.size w w' := by
  obtain ⟨F, hE⟩ : ∃ F, CEnv F := ⟨sumF, cenv_any⟩
  have E : Hid (CEnv F) := hE
  clear hE
  have hmax := hL.max
  by_cases hbig : 12 < n
  · have hbig2 : (12 : Int) < (n : Int) := by omega
    obtain ⟨b0, off, cp, rfl, hcap⟩ : ∃ b0 off cp, v = .slice (some ⟨b0, off, none⟩) n cp ∧ n ≤ cp := by
      rcases hL.shape with ⟨_, _, _, h0⟩ | ⟨b, off, cap, h, hcap, _⟩
      · omega
      · exact ⟨b, off, cap, h, hcap⟩
    have A : Aside (Ls w (.slice (some ⟨b0, off, none⟩) 12 cp) 12 f fv) := hL.head (by omega) (by omega)
    have hcap2 : (12 : Int) ≤ (cp : Int) := by omega
    clear hL hcap
    go_enter Try.func5, Try.ntmps5
    go_wp2_with fail
    have HI : Hid (Below w.heap.size w w) := Below.refl _ _
    go_loopw [3] (fun i wr => ∃ m : Nat, m ≤ 12 ∧ i = .int .i64 m ∧ Below w.heap.size w wr ∧ ∀ q, q < m → (f q).length ≤ 200) (fun i _ => 12 - (intOf i).toNat)
    case atStart => exact ⟨0, by omega, rfl, HI.out, fun q h => by omega⟩
    case round =>
      obtain ⟨m, hm, rfl, hB, hsh⟩ := hrel
      clear HI
      by_cases hmn : m < 12
      · have hlt : (m : Int) < (12 : Int) := by omega
        have hcell : ∀ i, i < 12 → w.cell? ⟨b0, off + i, none⟩ = some (fv i) := by
          rcases A.out.shape with ⟨_, _, _, h0⟩ | ⟨b2, of2, cap, h, hcap, hc⟩
          · omega
          · cases h; exact hc
        obtain ⟨am, cm, hfv⟩ := sl_slice (A.out.each m hmn).1
        have c0 : wr.cell? ⟨b0, off + m, none⟩ = some (.slice am (f m).length cm) := by
          have := hcell m hmn
          rw [hfv] at this
          exact (hB.cell (p := ⟨b0, off + m, none⟩) (World.block_lt_of_cell? w _ this)).trans this
        clear hcell
        by_cases hl : (f m).length ≤ 200
        · have hl2 : ¬ (200 : Int) < ((f m).length : Int) := by omega
          have HSH : Hid (∀ q, q < m + 1 → (f q).length ≤ 200) := fun q hq => by
            by_cases e : q = m
            · subst e; exact hl
            · exact hsh q (by omega)
          clear hsh hl hfv
          go_wp2_with fail
          go_roundw
          case rel => exact ⟨m + 1, by omega, by go_num, hB, HSH.out⟩
          case measure => simp [intOf]; omega
        · have hl2 : (200 : Int) < ((f m).length : Int) := by omega
          have C9 := E.out.told wr
          clear hsh hl hfv
          go_wp2_with (first | (go_at_call 9; refine C9.mono ?_; rintro ev w2 ⟨rfl, hb2⟩))
          go_ret
          exact ⟨rfl, hB.trans (hb2.mono hB.size)⟩
      · obtain rfl : 12 = m := by omega
        have hlt : ¬ ((12 : Nat) : Int) < (12 : Int) := by omega
        have CC := clash_any wr _ 12 f fv F E.out.len E.out.mine (A.out.below hB) (by omega) hsh
        have HSH : Hid (∀ q, q < 12 → (f q).length ≤ 200) := hsh
        clear hsh
        go_wp2_with (first | (go_at_call 22; refine CC.mono ?_; rintro ev w2 ⟨⟨a, b, is, rfl, hbest⟩, hb2⟩; clear CC))
        have HBT : Hid (Best F f 12 a b is) := hbest
        have hB2 := hB.trans (hb2.mono hB.size)
        clear hbest hb2 hB
        have HI : Hid (Below w.heap.size w w2) := hB2
        clear hB2
        go_loopw [7] (fun i wr => ∃ m : Nat, m ≤ 12 ∧ i = .int .i64 m ∧ Below w.heap.size w wr ∧ ∀ i' k', i' < m → k' < 12 → ¬ Cl F f i' k') (fun i _ => 12 - (intOf i).toNat)
        case atStart => exact ⟨0, by omega, rfl, HI.out, fun i' k' h => by omega⟩
        case round =>
          obtain ⟨m, hm, rfl, hB, hno⟩ := hrel
          clear HI
          by_cases hmn : m < 12
          · have hlt : (m : Int) < (12 : Int) := by omega
            have hcell : ∀ i, i < 12 → w.cell? ⟨b0, off + i, none⟩ = some (fv i) := by
              rcases A.out.shape with ⟨_, _, _, h0⟩ | ⟨b2, of2, cap, h, hcap, hc⟩
              · omega
              · cases h; exact hc
            have HL : Hid (∀ y, Below w.heap.size w y → ∀ i, i < 12 → y.cell? ⟨b0, off + i, none⟩ = some (fv i) ∧ Sl y (fv i) (f i)) := fun y hy i hi =>
              ⟨(hy.cell (p := ⟨b0, off + i, none⟩) (World.block_lt_of_cell? w _ (hcell i hi))).trans (hcell i hi), (A.out.each i hi).1.below hy⟩
            clear hcell
            obtain ⟨am, cpm, hfm⟩ := sl_slice (A.out.each m hmn).1
            have HNO : Hid (∀ i' k', i' < m → k' < 12 → ¬ Cl F f i' k') := hno
            clear hno
            have HBW : Hid (Below w.heap.size w wr) := hB
            clear hB
            go_wp2_with fail
            generalize hWR : wr = wA at *
            clear hWR
            go_loopw [8] (fun i wi => ∃ j : Nat, m < j ∧ j ≤ 12 ∧ i = .int .i64 j ∧ Below w.heap.size w wi ∧ ∀ k', k' < j → ¬ Cl F f m k') (fun i _ => 12 - (intOf i).toNat)
            case atStart => exact ⟨m + 1, by omega, by omega, by go_num, HBW.out, fun k' h hc => by have := hc.1; omega⟩
            case round =>
              obtain ⟨j, hmj, hj, rfl, hbi, hne⟩ := hrel
              clear HBW
              by_cases hjn : j < 12
              · have hlt4 : (j : Int) < (12 : Int) := by omega
                obtain ⟨cm, hslm⟩ := HL.out wr hbi m hmn
                obtain ⟨cj, hslj⟩ := HL.out wr hbi j hjn
                obtain ⟨aoj, cpj, hfj⟩ := sl_slice hslj
                rw [hfm] at cm hslm
                rw [hfj] at cj hslj
                have hlj : (f j).length ≤ 200 := HSH.out j hjn
                have hlm : (f m).length ≤ 200 := HSH.out m hmn
                have vm : ∀ y, Below wr.heap.size wr y → (convert 33 9 (.slice am (f m).length cpm)).run Try.prog y = .ok (.string (str (f m))) y := fun y hy => conv_sl y _ _ (hslm.below hy)
                have vj : ∀ y, Below wr.heap.size wr y → (convert 33 9 (.slice aoj (f j).length cpj)).run Try.prog y = .ok (.string (str (f j))) y := fun y hy => conv_sl y _ _ (hslj.below hy)
                have HS : Hid (∀ y, Below wr.heap.size wr y → (Below wr.heap.size wr y ∧ y.cell? ⟨b0, off + m, none⟩ = some (.slice am (f m).length cpm) ∧ y.cell? ⟨b0, off + j, none⟩ = some (.slice aoj (f j).length cpj))) := fun y hy =>
                  ⟨hy, (hy.cell (p := ⟨b0, off + m, none⟩) (World.block_lt_of_cell? wr _ cm)).trans cm, (hy.cell (p := ⟨b0, off + j, none⟩) (World.block_lt_of_cell? wr _ cj)).trans cj⟩
                have q0 := HS.out wr.drew (Below.refl _ _).drew
                by_cases hfe : f m = f j
                · have hSe : str (f m) = str (f j) := by rw [hfe]
                  have HQ : Hid (∀ k', k' < j + 1 → ¬ Cl F f m k') := fun q h hc => by
                    by_cases e : q = j
                    · subst e; exact hc.2.1 hfe
                    · exact hne q (by omega) hc
                  rw [hSe] at vm
                  have vmn := fun nn => vm (wr.drewN nn) (below_drewN (Below.refl _ _) nn)
                  have vjn := fun nn => vj (wr.drewN nn) (below_drewN (Below.refl _ _) nn)
                  clear hne hfe hSe hslm hslj hlj hlm vm vj q0 HS
                  generalize (f m).length = lm at *
                  generalize (f j).length = lj at *
                  generalize str (f j) = Sj at *
                  go_wp2_with fail
                  go_quiet (fail)
                  go_wp2_with fail
                  go_roundw
                  case rel => exact ⟨j + 1, by omega, by omega, by go_num, below_drewN hbi _, HQ.out⟩
                  case measure => simp [intOf]; omega
                · have hSe := str_apart hfe
                  have C1 : Hid (∀ y, (Below wr.heap.size wr y ∧ y.cell? ⟨b0, off + m, none⟩ = some (.slice am (f m).length cpm) ∧ y.cell? ⟨b0, off + j, none⟩ = some (.slice aoj (f j).length cpj)) → Calls Try.prog 14 #[.slice am (f m).length cpm] y fun ev w' => ev = .returned (.agg (bys (F (f m))).toArray) ∧ (Below wr.heap.size wr w' ∧ w'.cell? ⟨b0, off + m, none⟩ = some (.slice am (f m).length cpm) ∧ w'.cell? ⟨b0, off + j, none⟩ = some (.slice aoj (f j).length cpj))) := fun y h => by
                    refine (E.out.sum y _ _ (hslm.below h.1) hlm).mono ?_
                    rintro ev w' ⟨rfl, hb⟩
                    exact ⟨rfl, HS.out _ (h.1.trans (hb.mono h.1.size))⟩
                  have C2 : Hid (∀ y, (Below wr.heap.size wr y ∧ y.cell? ⟨b0, off + m, none⟩ = some (.slice am (f m).length cpm) ∧ y.cell? ⟨b0, off + j, none⟩ = some (.slice aoj (f j).length cpj)) → Calls Try.prog 14 #[.slice aoj (f j).length cpj] y fun ev w' => ev = .returned (.agg (bys (F (f j))).toArray) ∧ (Below wr.heap.size wr w' ∧ w'.cell? ⟨b0, off + m, none⟩ = some (.slice am (f m).length cpm) ∧ w'.cell? ⟨b0, off + j, none⟩ = some (.slice aoj (f j).length cpj))) := fun y h => by
                    refine (E.out.sum y _ _ (hslj.below h.1) hlj).mono ?_
                    rintro ev w' ⟨rfl, hb⟩
                    exact ⟨rfl, HS.out _ (h.1.trans (hb.mono h.1.size))⟩
                  have he := fun y => E.out.eq y (f m) (f j)
                  clear hslm hslj hlj hlm HS
                  by_cases hq : F (f m) = F (f j)
                  · obtain ⟨rfl, rfl, rfl⟩ := HBT.out.found hjn ⟨hmj, hfe, hq⟩ HNO.out hne
                    rw [show (F (f a) == F (f b)) = true by rw [hq]; simp] at he
                    clear hne hq hfe HNO HBT
                    generalize (bys (F (f a))).toArray = Y1 at *
                    generalize (bys (F (f b))).toArray = Y2 at *
                    generalize (f a).length = lm at *
                    generalize (f b).length = lj at *
                    generalize str (f b) = Sj at *
                    generalize str (f a) = Sm at *
                    go_wp2_with fail
                    go_region_held3 (fun y => Below wr.heap.size wr y ∧ y.cell? ⟨b0, off + a, none⟩ = some (.slice am lm cpm) ∧ y.cell? ⟨b0, off + b, none⟩ = some (.slice aoj lj cpj)) (assumption) (first
                      | (go_at_call_of 14 am; refine (C1.out _ (by assumption)).mono ?_; rintro ev w3 ⟨rfl, hS3⟩) | (go_at_call_of 14 aoj; refine (C2.out _ (by assumption)).mono ?_; rintro ev w4 ⟨rfl, hS4⟩))
                    clear C1 C2 vm vj q0
                    go_wp2_with (first | (go_at_call 9; refine (E.out.told _).mono ?_; rintro ev w5 ⟨rfl, hb5⟩))
                    go_ret
                    have h4 := hbi.trans (hS4.1.mono hbi.size)
                    exact ⟨by simp, h4.trans (hb5.mono h4.size)⟩
                  · rw [show (F (f m) == F (f j)) = false by simpa using hq] at he
                    have HQ : Hid (∀ k', k' < j + 1 → ¬ Cl F f m k') := fun q h hc => by
                      by_cases e : q = j
                      · subst e; exact hq hc.2.2
                      · exact hne q (by omega) hc
                    clear hne hq hfe
                    generalize (bys (F (f m))).toArray = Y1 at *
                    generalize (bys (F (f j))).toArray = Y2 at *
                    generalize (f m).length = lm at *
                    generalize (f j).length = lj at *
                    generalize str (f j) = Sj at *
                    generalize str (f m) = Sm at *
                    go_wp2_with fail
                    go_region_held3 (fun y => Below wr.heap.size wr y ∧ y.cell? ⟨b0, off + m, none⟩ = some (.slice am lm cpm) ∧ y.cell? ⟨b0, off + j, none⟩ = some (.slice aoj lj cpj)) (assumption) (first
                      | (go_at_call_of 14 am; refine (C1.out _ (by assumption)).mono ?_; rintro ev w3 ⟨rfl, hS3⟩) | (go_at_call_of 14 aoj; refine (C2.out _ (by assumption)).mono ?_; rintro ev w4 ⟨rfl, hS4⟩))
                    clear C1 C2 vm vj q0
                    go_wp2_with fail
                    go_roundw
                    case rel => exact ⟨j + 1, by omega, by omega, by go_num, hbi.trans (hS4.1.mono hbi.size), HQ.out⟩
                    case measure => simp [intOf]; omega
              · have hlt4 : ¬ (j : Int) < (12 : Int) := by omega
                have HNX : Hid (∀ i' k', i' < m + 1 → k' < 12 → ¬ Cl F f i' k') := fun i' k' h h' => by
                  by_cases e : i' = m
                  · subst e; exact hne k' (by omega)
                  · exact HNO.out i' k' (by omega) h'
                clear hne HNO
                go_wp2_with fail
                go_roundw
                case rel => exact ⟨m + 1, by omega, by go_num, hbi, HNX.out⟩
                case measure => simp [intOf]; omega
          · obtain rfl : 12 = m := by omega
            have hlt : ¬ ((12 : Nat) : Int) < (12 : Int) := by omega
            obtain ⟨rfl, rfl, rfl⟩ := HBT.out.nothing hno
            have C9 := E.out.told wr
            clear HBT hno
            go_wp2_with (first | (go_at_call 9; refine C9.mono ?_; rintro ev w3 ⟨rfl, hb3⟩))
            go_ret
            exact ⟨by simp, hB.trans (hb3.mono hB.size)⟩
  · have hbig2 : ¬ (12 : Int) < (n : Int) := by omega
    obtain ⟨ao, cp, rfl⟩ : ∃ ao cp, v = .slice ao n cp := by
      rcases hL.shape with ⟨ao, cp, h, _⟩ | ⟨b, off, cap, h, _⟩ <;> exact ⟨_, _, h⟩
    have A : Aside (Ls w (.slice ao n cp) n f fv) := hL
    clear hL
    go_enter Try.func5, Try.ntmps5
    go_wp2_with fail
    have HI : Hid (Below w.heap.size w w) := Below.refl _ _
    go_loopw [3] (fun i wr => ∃ m : Nat, m ≤ n ∧ i = .int .i64 m ∧ Below w.heap.size w wr ∧ ∀ q, q < m → (f q).length ≤ 200) (fun i _ => n - (intOf i).toNat)
    case atStart => exact ⟨0, by omega, rfl, HI.out, fun q h => by omega⟩
    case round =>
      obtain ⟨m, hm, rfl, hB, hsh⟩ := hrel
      clear HI
      by_cases hmn : m < n
      · have hlt : (m : Int) < (n : Int) := by omega
        obtain ⟨b1, of1, hao, hcap1, hcell⟩ : ∃ b1 of1, ao = some ⟨b1, of1, none⟩ ∧ n ≤ cp ∧ ∀ i, i < n → w.cell? ⟨b1, of1 + i, none⟩ = some (fv i) := by
          rcases A.out.shape with ⟨_, _, _, h0⟩ | ⟨b2, of2, cap, h, hcap, hc⟩
          · omega
          · cases h; exact ⟨_, _, rfl, hcap, hc⟩
        subst hao
        obtain ⟨am, cm, hfv⟩ := sl_slice (A.out.each m hmn).1
        have c0 : wr.cell? ⟨b1, of1 + m, none⟩ = some (.slice am (f m).length cm) := by
          have := hcell m hmn
          rw [hfv] at this
          exact (hB.cell (p := ⟨b1, of1 + m, none⟩) (World.block_lt_of_cell? w _ this)).trans this
        clear hcell hcap1
        by_cases hl : (f m).length ≤ 200
        · have hl2 : ¬ (200 : Int) < ((f m).length : Int) := by omega
          have HSH : Hid (∀ q, q < m + 1 → (f q).length ≤ 200) := fun q hq => by
            by_cases e : q = m
            · subst e; exact hl
            · exact hsh q (by omega)
          clear hsh hl hfv
          go_wp2_with fail
          go_roundw
          case rel => exact ⟨m + 1, by omega, by go_num, hB, HSH.out⟩
          case measure => simp [intOf]; omega
        · have hl2 : (200 : Int) < ((f m).length : Int) := by omega
          have C9 := E.out.told wr
          clear hsh hl hfv
          go_wp2_with (first | (go_at_call 9; refine C9.mono ?_; rintro ev w2 ⟨rfl, hb2⟩))
          go_ret
          exact ⟨rfl, hB.trans (hb2.mono hB.size)⟩
      · obtain rfl : n = m := by omega
        have hlt : ¬ ((n : Nat) : Int) < (n : Int) := by omega
        have CC := clash_any wr _ n f fv F E.out.len E.out.mine (A.out.below hB) (by omega) hsh
        have HSH : Hid (∀ q, q < n → (f q).length ≤ 200) := hsh
        clear hsh
        go_wp2_with (first | (go_at_call 22; refine CC.mono ?_; rintro ev w2 ⟨⟨a, b, is, rfl, hbest⟩, hb2⟩; clear CC))
        have HBT : Hid (Best F f n a b is) := hbest
        have hB2 := hB.trans (hb2.mono hB.size)
        clear hbest hb2 hB
        have HI : Hid (Below w.heap.size w w2) := hB2
        clear hB2
        go_loopw [7] (fun i wr => ∃ m : Nat, m ≤ n ∧ i = .int .i64 m ∧ Below w.heap.size w wr ∧ ∀ i' k', i' < m → k' < n → ¬ Cl F f i' k') (fun i _ => n - (intOf i).toNat)
        case atStart => exact ⟨0, by omega, rfl, HI.out, fun i' k' h => by omega⟩
        case round =>
          obtain ⟨m, hm, rfl, hB, hno⟩ := hrel
          clear HI
          by_cases hmn : m < n
          · have hlt : (m : Int) < (n : Int) := by omega
            obtain ⟨b1, of1, hao, hcap1, hcell⟩ : ∃ b1 of1, ao = some ⟨b1, of1, none⟩ ∧ n ≤ cp ∧ ∀ i, i < n → w.cell? ⟨b1, of1 + i, none⟩ = some (fv i) := by
              rcases A.out.shape with ⟨_, _, _, h0⟩ | ⟨b2, of2, cap, h, hcap, hc⟩
              · omega
              · cases h; exact ⟨_, _, rfl, hcap, hc⟩
            subst hao
            have HL : Hid (∀ y, Below w.heap.size w y → ∀ i, i < n → y.cell? ⟨b1, of1 + i, none⟩ = some (fv i) ∧ Sl y (fv i) (f i)) := fun y hy i hi =>
              ⟨(hy.cell (p := ⟨b1, of1 + i, none⟩) (World.block_lt_of_cell? w _ (hcell i hi))).trans (hcell i hi), (A.out.each i hi).1.below hy⟩
            clear hcell hcap1
            obtain ⟨am, cpm, hfm⟩ := sl_slice (A.out.each m hmn).1
            have HNO : Hid (∀ i' k', i' < m → k' < n → ¬ Cl F f i' k') := hno
            clear hno
            have HBW : Hid (Below w.heap.size w wr) := hB
            clear hB
            go_wp2_with fail
            generalize hWR : wr = wA at *
            clear hWR
            go_loopw [8] (fun i wi => ∃ j : Nat, m < j ∧ j ≤ n ∧ i = .int .i64 j ∧ Below w.heap.size w wi ∧ ∀ k', k' < j → ¬ Cl F f m k') (fun i _ => n - (intOf i).toNat)
            case atStart => exact ⟨m + 1, by omega, by omega, by go_num, HBW.out, fun k' h hc => by have := hc.1; omega⟩
            case round =>
              obtain ⟨j, hmj, hj, rfl, hbi, hne⟩ := hrel
              clear HBW
              by_cases hjn : j < n
              · have hlt4 : (j : Int) < (n : Int) := by omega
                obtain ⟨cm, hslm⟩ := HL.out wr hbi m hmn
                obtain ⟨cj, hslj⟩ := HL.out wr hbi j hjn
                obtain ⟨aoj, cpj, hfj⟩ := sl_slice hslj
                rw [hfm] at cm hslm
                rw [hfj] at cj hslj
                have hlj : (f j).length ≤ 200 := HSH.out j hjn
                have hlm : (f m).length ≤ 200 := HSH.out m hmn
                have vm : ∀ y, Below wr.heap.size wr y → (convert 33 9 (.slice am (f m).length cpm)).run Try.prog y = .ok (.string (str (f m))) y := fun y hy => conv_sl y _ _ (hslm.below hy)
                have vj : ∀ y, Below wr.heap.size wr y → (convert 33 9 (.slice aoj (f j).length cpj)).run Try.prog y = .ok (.string (str (f j))) y := fun y hy => conv_sl y _ _ (hslj.below hy)
                have HS : Hid (∀ y, Below wr.heap.size wr y → (Below wr.heap.size wr y ∧ y.cell? ⟨b1, of1 + m, none⟩ = some (.slice am (f m).length cpm) ∧ y.cell? ⟨b1, of1 + j, none⟩ = some (.slice aoj (f j).length cpj))) := fun y hy =>
                  ⟨hy, (hy.cell (p := ⟨b1, of1 + m, none⟩) (World.block_lt_of_cell? wr _ cm)).trans cm, (hy.cell (p := ⟨b1, of1 + j, none⟩) (World.block_lt_of_cell? wr _ cj)).trans cj⟩
                have q0 := HS.out wr.drew (Below.refl _ _).drew
                by_cases hfe : f m = f j
                · have hSe : str (f m) = str (f j) := by rw [hfe]
                  have HQ : Hid (∀ k', k' < j + 1 → ¬ Cl F f m k') := fun q h hc => by
                    by_cases e : q = j
                    · subst e; exact hc.2.1 hfe
                    · exact hne q (by omega) hc
                  rw [hSe] at vm
                  have vmn := fun nn => vm (wr.drewN nn) (below_drewN (Below.refl _ _) nn)
                  have vjn := fun nn => vj (wr.drewN nn) (below_drewN (Below.refl _ _) nn)
                  clear hne hfe hSe hslm hslj hlj hlm vm vj q0 HS
                  generalize (f m).length = lm at *
                  generalize (f j).length = lj at *
                  generalize str (f j) = Sj at *
                  go_wp2_with fail
                  go_quiet (fail)
                  go_wp2_with fail
                  go_roundw
                  case rel => exact ⟨j + 1, by omega, by omega, by go_num, below_drewN hbi _, HQ.out⟩
                  case measure => simp [intOf]; omega
                · have hSe := str_apart hfe
                  have C1 : Hid (∀ y, (Below wr.heap.size wr y ∧ y.cell? ⟨b1, of1 + m, none⟩ = some (.slice am (f m).length cpm) ∧ y.cell? ⟨b1, of1 + j, none⟩ = some (.slice aoj (f j).length cpj)) → Calls Try.prog 14 #[.slice am (f m).length cpm] y fun ev w' => ev = .returned (.agg (bys (F (f m))).toArray) ∧ (Below wr.heap.size wr w' ∧ w'.cell? ⟨b1, of1 + m, none⟩ = some (.slice am (f m).length cpm) ∧ w'.cell? ⟨b1, of1 + j, none⟩ = some (.slice aoj (f j).length cpj))) := fun y h => by
                    refine (E.out.sum y _ _ (hslm.below h.1) hlm).mono ?_
                    rintro ev w' ⟨rfl, hb⟩
                    exact ⟨rfl, HS.out _ (h.1.trans (hb.mono h.1.size))⟩
                  have C2 : Hid (∀ y, (Below wr.heap.size wr y ∧ y.cell? ⟨b1, of1 + m, none⟩ = some (.slice am (f m).length cpm) ∧ y.cell? ⟨b1, of1 + j, none⟩ = some (.slice aoj (f j).length cpj)) → Calls Try.prog 14 #[.slice aoj (f j).length cpj] y fun ev w' => ev = .returned (.agg (bys (F (f j))).toArray) ∧ (Below wr.heap.size wr w' ∧ w'.cell? ⟨b1, of1 + m, none⟩ = some (.slice am (f m).length cpm) ∧ w'.cell? ⟨b1, of1 + j, none⟩ = some (.slice aoj (f j).length cpj))) := fun y h => by
                    refine (E.out.sum y _ _ (hslj.below h.1) hlj).mono ?_
                    rintro ev w' ⟨rfl, hb⟩
                    exact ⟨rfl, HS.out _ (h.1.trans (hb.mono h.1.size))⟩
                  have he := fun y => E.out.eq y (f m) (f j)
                  clear hslm hslj hlj hlm HS
                  by_cases hq : F (f m) = F (f j)
                  · obtain ⟨rfl, rfl, rfl⟩ := HBT.out.found hjn ⟨hmj, hfe, hq⟩ HNO.out hne
                    rw [show (F (f a) == F (f b)) = true by rw [hq]; simp] at he
                    clear hne hq hfe HNO HBT
                    generalize (bys (F (f a))).toArray = Y1 at *
                    generalize (bys (F (f b))).toArray = Y2 at *
                    generalize (f a).length = lm at *
                    generalize (f b).length = lj at *
                    generalize str (f b) = Sj at *
                    generalize str (f a) = Sm at *
                    go_wp2_with fail
                    go_region_held3 (fun y => Below wr.heap.size wr y ∧ y.cell? ⟨b1, of1 + a, none⟩ = some (.slice am lm cpm) ∧ y.cell? ⟨b1, of1 + b, none⟩ = some (.slice aoj lj cpj)) (assumption) (first
                      | (go_at_call_of 14 am; refine (C1.out _ (by assumption)).mono ?_; rintro ev w3 ⟨rfl, hS3⟩) | (go_at_call_of 14 aoj; refine (C2.out _ (by assumption)).mono ?_; rintro ev w4 ⟨rfl, hS4⟩))
                    clear C1 C2 vm vj q0
                    go_wp2_with (first | (go_at_call 9; refine (E.out.told _).mono ?_; rintro ev w5 ⟨rfl, hb5⟩))
                    go_ret
                    have h4 := hbi.trans (hS4.1.mono hbi.size)
                    exact ⟨by simp, h4.trans (hb5.mono h4.size)⟩
                  · rw [show (F (f m) == F (f j)) = false by simpa using hq] at he
                    have HQ : Hid (∀ k', k' < j + 1 → ¬ Cl F f m k') := fun q h hc => by
                      by_cases e : q = j
                      · subst e; exact hq hc.2.2
                      · exact hne q (by omega) hc
                    clear hne hq hfe
                    generalize (bys (F (f m))).toArray = Y1 at *
                    generalize (bys (F (f j))).toArray = Y2 at *
                    generalize (f m).length = lm at *
                    generalize (f j).length = lj at *
                    generalize str (f j) = Sj at *
                    generalize str (f m) = Sm at *
                    go_wp2_with fail
                    go_region_held3 (fun y => Below wr.heap.size wr y ∧ y.cell? ⟨b1, of1 + m, none⟩ = some (.slice am lm cpm) ∧ y.cell? ⟨b1, of1 + j, none⟩ = some (.slice aoj lj cpj)) (assumption) (first
                      | (go_at_call_of 14 am; refine (C1.out _ (by assumption)).mono ?_; rintro ev w3 ⟨rfl, hS3⟩) | (go_at_call_of 14 aoj; refine (C2.out _ (by assumption)).mono ?_; rintro ev w4 ⟨rfl, hS4⟩))
                    clear C1 C2 vm vj q0
                    go_wp2_with fail
                    go_roundw
                    case rel => exact ⟨j + 1, by omega, by omega, by go_num, hbi.trans (hS4.1.mono hbi.size), HQ.out⟩
                    case measure => simp [intOf]; omega
              · have hlt4 : ¬ (j : Int) < (n : Int) := by omega
                have HNX : Hid (∀ i' k', i' < m + 1 → k' < n → ¬ Cl F f i' k') := fun i' k' h h' => by
                  by_cases e : i' = m
                  · subst e; exact hne k' (by omega)
                  · exact HNO.out i' k' (by omega) h'
                clear hne HNO
                go_wp2_with fail
                go_roundw
                case rel => exact ⟨m + 1, by omega, by go_num, hbi, HNX.out⟩
                case measure => simp [intOf]; omega
          · obtain rfl : n = m := by omega
            have hlt : ¬ ((n : Nat) : Int) < (n : Int) := by omega
            obtain ⟨rfl, rfl, rfl⟩ := HBT.out.nothing hno
            have C9 := E.out.told wr
            clear HBT hno
            go_wp2_with (first | (go_at_call 9; refine C9.mono ?_; rintro ev w3 ⟨rfl, hb3⟩))
            go_ret
            exact ⟨by simp, hB.trans (hb3.mono hB.size)⟩
end Go.Proofs.Ytjnogpcpekheoaa
