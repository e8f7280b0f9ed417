/-
  CasKeeps' walk.
-/
import Derived.Test.YtjnogpcpekheoaaCom
namespace Go.Proofs.Ytjnogpcpekheoaa
open Go.RowKit Go.Maps

theorem and15 (n : Int) : ∃ k : Nat, k ≤ 15 ∧ bits .and .i64 n 15 = (k : Int) := by
  have hb : bits .and .i64 n 15 = IntKind.i64.wrap (((BitVec.ofInt 64 n) &&& (BitVec.ofInt 64 15)).toNat : Int) := rfl
  have h1 : (BitVec.ofInt 64 15).toNat = 15 := rfl
  rw [hb, BitVec.toNat_and, h1]
  generalize (BitVec.ofInt 64 n).toNat = A
  have hA : A &&& 15 ≤ 15 := Nat.and_le_right
  generalize A &&& 15 = k at *
  refine ⟨k, hA, ?_⟩
  simp [IntKind.wrap, IntKind.bits, IntKind.signed]; omega

/-- Where CasKeeps stands. -/
structure KpRel (w : World) (room : Nat) (f : Nat → Bys) (T : (Nat → Prop) → List Bys → World → Prop) (m : Nat) (ins : List Bys) (vin : Value) (wr : World) : Prop where
  own : wr.ownsRow w.heap.size 9 1 vin ins.length (strs ins)
  st : T (Of vin) ins wr
  below : Below w.heap.size w wr
  from_ : ∀ a ∈ ins, ∃ k, k < m ∧ a = f k
  few : ins.length ≤ room
  short : ∀ i, i < m → (f i).length ≤ 200

attribute [local go_sem ↓] Go.wp_at_zero Go.wp_at_succ
set_option maxHeartbeats 16000000 in
set_option maxRecDepth 20000 in
theorem keeps_walk (w : World) (r : Int) (v : Value) (n : Nat) (f : Nat → Bys) (fv : Nat → Value) (hL : Ls w v n f fv) : Calls Try.prog 4 #[.int .i64 r, v] w fun ev w' => ev = .returned (.bool true) ∧ Below w.heap.size w w' := by
  obtain ⟨k, hk, hbits⟩ := and15 r
  obtain ⟨room, hn⟩ : ∃ room : Nat, room = k + 1 := ⟨_, rfl⟩
  have hadd : IntKind.i64.wrap (1 + (k : Int)) = (room : Int) := by rw [IntKind.wrap_i64]; omega
  have C8 := new_env w room (by omega) (by omega)
  have hr16 : room ≤ 16 := by omega
  have hr1 : 1 ≤ room := by omega
  have hmax := hL.max
  obtain ⟨ao, cp, rfl⟩ : ∃ ao cp, v = .slice ao n cp := by
    rcases hL.shape with ⟨ao, cp, h, _⟩ | ⟨b, off, cap, h, _⟩ <;> exact ⟨_, _, h⟩
  have A : Aside (Ls w (.slice ao n cp) n f fv) := hL
  clear hn hk hL
  go_enter Try.func4, Try.ntmps4
  go_wp2_with (first | (go_at_call 8; refine C8.mono ?_; rintro ev w1 ⟨sb, bm, F, T, rfl, hE, hT0, hb1⟩; have E : Hid _ := hE; clear hE C8))
  have HI : Hid (KpRel w room f T 0 [] (.slice none 0 0) w1) := ⟨World.ownsRow_nil _ _ _ _, E.out.narrow _ _ _ _ hT0 (fun k h => by cases h), hb1, by simp, by simp, by omega⟩
  clear hT0 hb1
  go_loopw [7, 8] (fun vin i wr => ∃ (m : Nat) (ins : List Bys), m ≤ n ∧ m ≤ 30 ∧ i = .int .i64 m ∧ KpRel w room f T m ins vin wr) (fun _ i _ => 30 - (intOf i).toNat)
  case atStart => exact ⟨0, [], by omega, by omega, rfl, HI.out⟩
  case round =>
    obtain ⟨m, ins, hmn, hm30, rfl, hK⟩ := hrel
    clear HI
    by_cases hlt : m < n ∧ m < 30
    · have hlt1 : (m : Int) < (n : Int) := by omega
      have hlt2 : (m : Int) < 30 := by omega
      obtain ⟨b0, off, hao, hcap, hcell⟩ : ∃ b0 off, ao = some ⟨b0, off, none⟩ ∧ n ≤ cp ∧ ∀ i, i < n → w.cell? ⟨b0, off + i, none⟩ = some (fv i) := by
        rcases A.out.shape with ⟨_, _, _, h0⟩ | ⟨b, off, cap, h, hcap, hc⟩
        · omega
        · cases h; exact ⟨b, off, rfl, hcap, hc⟩
      subst hao
      have HL : Hid (∀ y, Below w.heap.size w y → ∀ i, i < n → y.cell? ⟨b0, off + i, none⟩ = some (fv i) ∧ Sl y (fv i) (f i)) := fun y hy i hi =>
        ⟨(hy.cell (p := ⟨b0, off + i, none⟩) (World.block_lt_of_cell? w _ (hcell i hi))).trans (hcell i hi), (A.out.each i hi).1.below hy⟩
      clear hcell hcap
      obtain ⟨c0, hsl0⟩ := HL.out wr hK.below m hlt.1
      obtain ⟨aom, cpm, hfm⟩ := sl_slice hsl0
      rw [hfm] at c0
      by_cases hlen : (f m).length ≤ 200
      · have hlen2 : ¬ (200 : Int) < ((f m).length : Int) := by omega
        have HK : Hid (KpRel w room f T m ins u7 wr) := hK
        have HI : Hid (Below wr.heap.size wr wr) := Below.refl _ _
        clear hK hsl0
        go_wp2_with fail
        generalize hWR : wr = wA at *
        clear hWR
        go_loopw [9] (fun i wi => ∃ j : Nat, j ≤ m ∧ i = .int .i64 j ∧ Below wA.heap.size wA wi ∧ ∀ q, q < j → f m ≠ f q → F (f m) ≠ F (f q)) (fun i _ => m - (intOf i).toNat)
        case atStart => exact ⟨0, by omega, rfl, HI.out, fun j' h => by omega⟩
        case round =>
          obtain ⟨j, hj, rfl, hbi, hne⟩ := hrel
          clear HI
          by_cases hjm : j < m
          · have hlt3 : (j : Int) < (m : Int) := by omega
            have hlt4 : (j : Int) < (n : Int) := by omega
            have hBA := HK.out.below
            have hBi : Below w.heap.size w wr := hBA.trans (hbi.mono hBA.size)
            obtain ⟨cm, hslm⟩ := HL.out wr hBi m hlt.1
            obtain ⟨cj, hslj⟩ := HL.out wr hBi j (by omega)
            obtain ⟨aoj, cpj, hfj⟩ := sl_slice hslj
            rw [hfm] at cm hslm
            rw [hfj] at cj hslj
            have hlj : (f j).length ≤ 200 := HK.out.short j hjm
            have vm : ∀ y, Below wr.heap.size wr y → (convert 33 9 (.slice aom (f m).length cpm)).run Try.prog y = .ok (.string (str (f m))) y := fun y hy => conv_sl y _ _ (hslm.below hy)
            have vj : ∀ y, Below wr.heap.size wr y → (convert 33 9 (.slice aoj (f j).length cpj)).run Try.prog y = .ok (.string (str (f j))) y := fun y hy => conv_sl y _ _ (hslj.below hy)
            have HS : Hid (∀ y, Below wr.heap.size wr y → (Below wr.heap.size wr y ∧ y.cell? ⟨b0, off + m, none⟩ = some (.slice aom (f m).length cpm) ∧ y.cell? ⟨b0, off + j, none⟩ = some (.slice aoj (f j).length cpj))) := fun y hy =>
              ⟨hy, (hy.cell (p := ⟨b0, off + m, none⟩) (World.block_lt_of_cell? wr _ cm)).trans cm, (hy.cell (p := ⟨b0, off + j, none⟩) (World.block_lt_of_cell? wr _ cj)).trans cj⟩
            have q0 := HS.out wr.drew (Below.refl _ _).drew
            by_cases hfe : f m = f j
            · have hSe : str (f m) = str (f j) := by rw [hfe]
              have HQ : Hid (∀ q, q < j + 1 → f m ≠ f q → F (f m) ≠ F (f q)) := fun q h h' => by
                by_cases e : q = j
                · subst e; exact absurd hfe h'
                · exact hne q (by omega) h'
              rw [hSe] at vm
              clear hne hfe hSe hslm hslj hlj
              generalize (f m).length = lm at *
              generalize (f j).length = lj at *
              generalize str (f j) = Sj at *
              have vmn := fun nn => vm (wr.drewN nn) (below_drewN (Below.refl _ _) nn)
              have vjn := fun nn => vj (wr.drewN nn) (below_drewN (Below.refl _ _) nn)
              clear vm vj q0
              go_wp2_with fail
              go_quiet (fail)
              go_wp2_with fail
              go_roundw
              case rel => exact ⟨j + 1, by omega, by go_num, below_drewN hbi _, HQ.out⟩
              case measure => simp [intOf]; omega
            · have hSe := str_apart hfe
              have C1 : Hid (∀ y, (Below wr.heap.size wr y ∧ y.cell? ⟨b0, off + m, none⟩ = some (.slice aom (f m).length cpm) ∧ y.cell? ⟨b0, off + j, none⟩ = some (.slice aoj (f j).length cpj)) → Calls Try.prog 14 #[.slice aom (f m).length cpm] y fun ev w' => ev = .returned (.agg (bys (F (f m))).toArray) ∧ (Below wr.heap.size wr w' ∧ w'.cell? ⟨b0, off + m, none⟩ = some (.slice aom (f m).length cpm) ∧ w'.cell? ⟨b0, off + j, none⟩ = some (.slice aoj (f j).length cpj))) := fun y h => by
                refine (E.out.sum y _ _ (hslm.below h.1) hlen).mono ?_
                rintro ev w' ⟨rfl, hb⟩
                exact ⟨rfl, HS.out _ (h.1.trans (hb.mono h.1.size))⟩
              have C2 : Hid (∀ y, (Below wr.heap.size wr y ∧ y.cell? ⟨b0, off + m, none⟩ = some (.slice aom (f m).length cpm) ∧ y.cell? ⟨b0, off + j, none⟩ = some (.slice aoj (f j).length cpj)) → Calls Try.prog 14 #[.slice aoj (f j).length cpj] y fun ev w' => ev = .returned (.agg (bys (F (f j))).toArray) ∧ (Below wr.heap.size wr w' ∧ w'.cell? ⟨b0, off + m, none⟩ = some (.slice aom (f m).length cpm) ∧ w'.cell? ⟨b0, off + j, none⟩ = some (.slice aoj (f j).length cpj))) := fun y h => by
                refine (E.out.sum y _ _ (hslj.below h.1) hlj).mono ?_
                rintro ev w' ⟨rfl, hb⟩
                exact ⟨rfl, HS.out _ (h.1.trans (hb.mono h.1.size))⟩
              have he := fun y => E.out.eq y (f m) (f j)
              clear hslm hslj hlj HS
              by_cases hq : F (f m) = F (f j)
              · rw [show (F (f m) == F (f j)) = true by rw [hq]; simp] at he
                have HB0 : Hid (Below w.heap.size w wr) := hBi
                clear hne hq hfe hbi hBi hBA
                generalize (bys (F (f m))).toArray = Y1 at *
                generalize (bys (F (f j))).toArray = Y2 at *
                generalize (f m).length = lm at *
                generalize (f j).length = lj at *
                generalize str (f j) = Sj at *
                generalize str (f m) = Sm at *
                go_wp2_with fail
                go_region_held3 (fun y => Below wr.heap.size wr y ∧ y.cell? ⟨b0, off + m, none⟩ = some (.slice aom lm cpm) ∧ y.cell? ⟨b0, off + j, none⟩ = some (.slice aoj lj cpj)) (assumption) (first
                  | (go_at_call_of 14 aom; refine (C1.out _ (by assumption)).mono ?_; rintro ev w3 ⟨rfl, hS3⟩) | (go_at_call_of 14 aoj; refine (C2.out _ (by assumption)).mono ?_; rintro ev w4 ⟨rfl, hS4⟩))
                clear C1 C2 vm vj q0
                go_wp2_with (first | (go_at_call 9; refine (E.out.told _).mono ?_; rintro ev w5 ⟨rfl, hb5⟩))
                go_ret
                have h4 := HB0.out.trans (hS4.1.mono HB0.out.size)
                exact ⟨rfl, h4.trans (hb5.mono h4.size)⟩
              · rw [show (F (f m) == F (f j)) = false by simpa using hq] at he
                have HQ : Hid (∀ q, q < j + 1 → f m ≠ f q → F (f m) ≠ F (f q)) := fun q h h' => by
                  by_cases e : q = j
                  · subst e; exact hq
                  · exact hne q (by omega) h'
                clear hne hq hfe hBi hBA
                generalize (bys (F (f m))).toArray = Y1 at *
                generalize (bys (F (f j))).toArray = Y2 at *
                generalize (f m).length = lm at *
                generalize (f j).length = lj at *
                generalize str (f j) = Sj at *
                generalize str (f m) = Sm at *
                go_wp2_with fail
                go_region_held3 (fun y => Below wr.heap.size wr y ∧ y.cell? ⟨b0, off + m, none⟩ = some (.slice aom lm cpm) ∧ y.cell? ⟨b0, off + j, none⟩ = some (.slice aoj lj cpj)) (assumption) (first
                  | (go_at_call_of 14 aom; refine (C1.out _ (by assumption)).mono ?_; rintro ev w3 ⟨rfl, hS3⟩) | (go_at_call_of 14 aoj; refine (C2.out _ (by assumption)).mono ?_; rintro ev w4 ⟨rfl, hS4⟩))
                clear C1 C2 vm vj q0
                go_wp2_with fail
                go_roundw
                case rel => exact ⟨j + 1, by omega, by go_num, hbi.trans (hS4.1.mono hbi.size), HQ.out⟩
                case measure => simp [intOf]; omega
          · have hlt3 : ¬ (j : Int) < (m : Int) := by omega
            obtain rfl : j = m := by omega
            have hBA := HK.out.below
            have hB : Below w.heap.size w wr := hBA.trans (hbi.mono hBA.size)
            have hT := E.out.keep _ _ _ _ HK.out.st hbi
            have hown := own_past HK.out.own hbi
            have hfrom := HK.out.from_
            have hfew := HK.out.few
            have HSH : Hid (∀ i, i < j + 1 → (f i).length ≤ 200) := fun i hi => by
              by_cases e : i = j
              · subst e; exact hlen
              · exact HK.out.short i (by omega)
            obtain ⟨cm, hslm⟩ := HL.out wr hB j hlt.1
            rw [hfm] at cm hslm
            have hFne : ∀ a ∈ ins, f j ≠ a → F (f j) ≠ F a := fun a ha hne' => by
              obtain ⟨q, hq, rfl⟩ := hfrom a ha
              exact hne q hq hne'
            have C10 := E.out.put _ wr _ ins (f j) hB hT (fun k hk => (hown.lt k hk).2) hFne hfew hslm hlen
            have hmap := E.out.isMap' _ _ _ hT
            obtain ⟨aoi, cpi, hvi⟩ := own_shape hown
            subst hvi
            have HO : Hid (∀ y, wr.grownBy y (some bm) → y.ownsRow w.heap.size 9 1 (.slice aoi ins.length cpi) ins.length (strs ins)) := fun y hg => own_map hown hg hmap
            have HFR : Hid (∀ a ∈ ins, ∃ k, k < j ∧ a = f k) := hfrom
            have HNE : Hid (∀ a ∈ ins, f j ≠ a → F (f j) ≠ F a) := hFne
            clear HK hbi hne hBA hT hown hfrom hslm hFne hmap c0
            go_wp2_with (first | (go_at_call 10; refine C10.mono ?_; rintro ev w3 ⟨Yh, e, ins', rfl, hP, hT3, hB3, hg3, hYi, hYo, hYz⟩; have hO3 := HO.out w3 hg3; have hgA := heap_alloc_new w3 (.cells z25.toArray 35); have hbA : Below w3.heap.size w3 (w3.alloc (.cells z25.toArray 35)) := (Below.refl _ _).alloc (Nat.le_refl _) _; clear C10 hg3 HO cm) | (refine store_box rfl 35 _ _ rfl w3.heap.size Yh rfl rfl 35 z25.toArray hgA hYi hYz hYo w3 hbA ?_; intro w4 rH hb4))
            have hB4 := hB3.trans (hb4.mono hB3.size)
            have hT4 := E.out.keep _ _ _ _ hT3 hb4
            have hO4 := own_past hO3 hb4
            obtain ⟨c4, hsl4⟩ := HL.out w4 hB4 j hlt.1
            rw [hfm] at c4 hsl4
            have HP : Hid (PutTell room F ins (f j) w3 Yh e ins') := hP
            have Hb4 : Hid (Below w3.heap.size w3 w4) := hb4
            have HH4 : Hid (Below w.heap.size w w4 ∧ T (Of (.slice aoi ins.length cpi)) ins' w4 ∧ w4.ownsRow w.heap.size 9 1 (.slice aoi ins.length cpi) ins.length (strs ins) ∧ Sl w4 (.slice aom (f j).length cpm) (f j)) := ⟨hB4, hT4, hO4, hsl4⟩
            have vj : ∀ y, Below w4.heap.size w4 y → (convert 33 9 (.slice aom (f j).length cpm)).run Try.prog y = .ok (.string (str (f j))) y := fun y hy => conv_sl y _ _ (hsl4.below hy)
            have HIn : Hid (∀ y, Below w4.heap.size w4 y → ∀ q, q < ins.length → ∃ g, aoi = some ⟨g, 0, none⟩ ∧ ins.length ≤ cpi ∧ y.cell? ⟨g, q, none⟩ = some (.string (str (ins.getD q [])))) := fun y hy q hq => by
              have hy4 := own_past hO4 hy
              rcases hy4.2 with ⟨h0, h1⟩ | ⟨g, cap, cur, hs, _, _, hle, _⟩
              · omega
              · cases hs
                refine ⟨g, rfl, hle, ?_⟩
                rw [hy4.cellAt q (by omega), strs_get ins q hq]
            clear hP hb4 hB4 hT4 hO4 hsl4 hB3 hT3 hO3 hgA hbA hB
            have HI2 : Hid (Below w4.heap.size w4 w4) := Below.refl _ _
            go_loopw [12, 13] (fun t i wi => ∃ q : Nat, q ≤ ins.length ∧ i = .int .i64 q ∧ t = .bool (decide (f j ∈ ins.take q)) ∧ Below w4.heap.size w4 wi) (fun _ i _ => ins.length - (intOf i).toNat)
            case atStart => exact ⟨0, by omega, rfl, by simp, HI2.out⟩
            case round =>
              obtain ⟨q, hq, rfl, rfl, hbq⟩ := hrel
              clear HI2
              by_cases hqi : q < ins.length
              · have hlq : (q : Int) < (ins.length : Int) := by omega
                obtain ⟨g, rfl, hgc, cq⟩ := HIn.out wr hbq q hqi
                have cj : wr.cell? ⟨b0, off + j, none⟩ = some (.slice aom (f j).length cpm) := (hbq.cell (p := ⟨b0, off + j, none⟩) (World.block_lt_of_cell? w4 _ c4)).trans c4
                have vjn := fun nn => vj (wr.drewN nn) (below_drewN hbq nn)
                have htk : ins.take (q + 1) = ins.take q ++ [ins.getD q []] := by
                  rw [List.take_add_one]; simp [List.getD, List.getElem?_eq_getElem hqi]
                by_cases h1 : f j ∈ ins.take q
                · have HD : Hid (decide (f j ∈ ins.take (q + 1)) = true) := by
                    show _ = _
                    rw [htk]; simp [h1]
                  rw [decide_eq_true h1]
                  clear htk h1 cq
                  generalize (f j).length = lj at *
                  generalize str (f j) = Sj at *
                  go_wp2_with fail
                  go_quiet (fail)
                  go_wp2_with fail
                  go_roundw
                  case rel => exact ⟨q + 1, by omega, by go_num, by rw [HD.out], below_drewN hbq _⟩
                  case measure => simp [intOf]; omega
                · rw [decide_eq_false h1]
                  by_cases h2 : f j = ins.getD q []
                  · have HD : Hid (decide (f j ∈ ins.take (q + 1)) = true) := by
                      show _ = _
                      rw [htk]; simp [h2]
                    rw [← h2] at cq
                    clear htk h1 h2
                    generalize (f j).length = lj at *
                    generalize str (f j) = Sj at *
                    go_wp2_with fail
                    go_quiet (fail)
                    go_wp2_with fail
                    go_roundw
                    case rel => exact ⟨q + 1, by omega, by go_num, by rw [HD.out], below_drewN hbq _⟩
                    case measure => simp [intOf]; omega
                  · have HD : Hid (decide (f j ∈ ins.take (q + 1)) = false) := by
                      show _ = _
                      rw [htk]; simpa [h1] using h2
                    have hap := str_apart (Ne.symm h2)
                    clear htk h1 h2
                    generalize (f j).length = lj at *
                    generalize str (f j) = Sj at *
                    generalize str (ins.getD q []) = Sq at *
                    go_wp2_with fail
                    go_quiet (fail)
                    go_wp2_with fail
                    go_roundw
                    case rel => exact ⟨q + 1, by omega, by go_num, by rw [HD.out], below_drewN hbq _⟩
                    case measure => simp [intOf]; omega
              · obtain rfl : q = ins.length := by omega
                have hlq : ¬ ((ins.length : Nat) : Int) < (ins.length : Int) := by omega
                rw [List.take_length]
                have hb4 := Hb4.out
                obtain ⟨hBw4, hTw4, hOw4, hSw4⟩ := HH4.out
                have HB5 : Hid (Below w.heap.size w wr) := hBw4.trans (hbq.mono hBw4.size)
                have HT5 : Hid (T (Of (.slice aoi ins.length cpi)) ins' wr) := E.out.keep _ _ _ _ hTw4 hbq
                have HO5 : Hid (wr.ownsRow w.heap.size 9 1 (.slice aoi ins.length cpi) ins.length (strs ins)) := own_past hOw4 hbq
                have r5 : wr.heap[w3.heap.size]? = some (.cells Yh 35 (0, 0)) := (hbq.block _ (Array.getElem?_eq_some_iff.1 rH).1).trans rH
                have cj : wr.cell? ⟨b0, off + j, none⟩ = some (.slice aom (f j).length cpm) := (hbq.cell (p := ⟨b0, off + j, none⟩) (World.block_lt_of_cell? w4 _ c4)).trans c4
                have HS5 : Hid (Sl wr (.slice aom (f j).length cpm) (f j)) := hSw4.below hbq
                have hT3 : ∀ ee, Tell w3 ee 12 → Tell wr ee 12 := fun ee h => (h.below hb4).below hbq
                have vj5 := vj wr hbq
                generalize hWR5 : wr = w5 at *
                clear hWR5 hBw4 hTw4 hOw4 hSw4 hb4 HH4 vj HIn c4 rH Hb4 hbq hYo hYz hj hjm hq hqi
                rcases HP.out with ⟨hin, rfl, rfl, rfl⟩ | ⟨hnot, hroom, rfl, rfl, rfl⟩ | ⟨hnot, hroom, hTe, rfl, rfl⟩
                · rw [decide_eq_true hin]
                  have CH := E.out.hasIn _ w5 _ (f j) HT5.out hin
                  clear HP hT3 HNE
                  generalize hYY : (bys (F (f j))).toArray = Yh at *
                  clear hYY
                  go_wp2_with (first | (refine load_guard (by rfl) 35 _ rfl w3.heap.size rfl 35 Yh (0, 0) _ r5 Try.underlying35 rfl hYi ?_) | (go_at_call 18; refine CH.mono ?_; rintro ev w6 ⟨rfl, hb6⟩))
                  have HB6 : Hid (Below w.heap.size w w6) := HB5.out.trans (hb6.mono HB5.out.size)
                  have HT6 : Hid (T (Of (.slice aoi ins.length cpi)) ins w6) := E.out.keep _ _ _ _ HT5.out hb6
                  have HO6 : Hid (w6.ownsRow w.heap.size 9 1 (.slice aoi ins.length cpi) ins.length (strs ins)) := own_past HO5.out hb6
                  have HFW : Hid (∀ a ∈ ins, ∃ k, k < j + 1 ∧ a = f k) := fun a ha => by
                    obtain ⟨z, hz, ez⟩ := HFR.out a ha
                    exact ⟨z, by omega, ez⟩
                  clear hb6 CH r5 HB5 HT5 HO5 cj vj5 HS5 hYi HFR
                  have HI3 : Hid (Below w6.heap.size w6 w6) := Below.refl _ _
                  have HIq : Hid (∀ y, Below w6.heap.size w6 y → ∀ q, q < ins.length → ∃ g, aoi = some ⟨g, 0, none⟩ ∧ ins.length ≤ cpi ∧ y.cell? ⟨g, q, none⟩ = some (.string (str (ins.getD q [])))) := fun y hy q hq => by
                    have hy4 := own_past HO6.out hy
                    rcases hy4.2 with ⟨h0, h1⟩ | ⟨g, cap, cur, hs, _, _, hle, _⟩
                    · omega
                    · cases hs
                      refine ⟨g, rfl, hle, ?_⟩
                      rw [hy4.cellAt q (by omega), strs_get ins q hq]
                  go_loopw [14] (fun i wi => ∃ q : Nat, q ≤ ins.length ∧ i = .int .i64 q ∧ Below w6.heap.size w6 wi) (fun i _ => ins.length - (intOf i).toNat)
                  case atStart => exact ⟨0, by omega, rfl, HI3.out⟩
                  case round =>
                    obtain ⟨q, hq, rfl, hbg⟩ := hrel
                    clear HI3
                    by_cases hqi : q < ins.length
                    · have hlq : (q : Int) < (ins.length : Int) := by omega
                      obtain ⟨g, hga, hgc, cq⟩ := HIq.out wr hbg q hqi
                      have hga' : aoi = some ⟨g, 0, none⟩ := hga
                      clear hga
                      subst hga'
                      have hmem : ins.getD q [] ∈ ins := by simp [List.getD, List.getElem?_eq_getElem hqi]
                      have hshort : (ins.getD q []).length ≤ 200 := by
                        obtain ⟨z, hz, e⟩ := HFW.out _ hmem
                        rw [e]; exact HSH.out z (by omega)
                      have CS : Hid (∀ y v, Sl y v (ins.getD q []) → Calls Try.prog 14 #[v] y fun ev w' => ev = .returned (.agg (bys (F (ins.getD q []))).toArray) ∧ Below y.heap.size y w') := fun y v h => E.out.sum y v _ h hshort
                      have CG : Hid (∀ y, Below w6.heap.size w6 y → Calls Try.prog 16 #[.pointer (some ⟨sb, 0, none⟩), .agg (bys (F (ins.getD q []))).toArray] y fun ev w' => ∃ aog cpg, ev = .returned (.tuple #[.slice aog (ins.getD q []).length cpg, .nilIface]) ∧ (∀ nn, (convert 33 9 (.slice aog (ins.getD q []).length cpg)).run Try.prog (w'.drewN nn) = .ok (.string (str (ins.getD q []))) (w'.drewN nn)) ∧ Below y.heap.size y w') := fun y hy => by
                        refine (E.out.get _ y _ _ (E.out.keep _ _ _ _ HT6.out hy) hmem).mono ?_
                        rintro ev w' ⟨vr, rfl, ho, hb⟩
                        have hsl := Sl.ofOwn ho
                        obtain ⟨aog, cpg, rfl⟩ := sl_slice hsl
                        exact ⟨aog, cpg, rfl, fun nn => conv_sl _ _ _ (hsl.below (below_drewN (Below.refl _ _) nn)), hb⟩
                      have HC : Hid (∀ y, Below wr.heap.size wr y → y.cell? ⟨g, q, none⟩ = some (.string (str (ins.getD q [])))) := fun y hy => (hy.cell (p := ⟨g, q, none⟩) (World.block_lt_of_cell? wr _ cq)).trans cq
                      clear hmem hshort
                      generalize ins.getD q [] = bq at *
                      generalize (bys (F bq)).toArray = Yq at *
                      go_wp2_with (first | (refine wp_bytes rfl _ rfl bq rfl ?_; intro gb cpb x7 hslx hx7; have Cx7 := CS.out x7 _ hslx; clear hslx) | (go_at_call 14; refine Cx7.mono ?_; rintro ev x8 ⟨rfl, hx8⟩; have hx78 := hx7.trans (hx8.mono hx7.size); have hxw8 := hbg.trans (hx78.mono hbg.size); have Cx8 := CG.out x8 hxw8; clear Cx7) | (go_at_call 16; refine Cx8.mono ?_; rintro ev x9 ⟨aog, cpg, rfl, vg, hx9⟩; have hx79 := hx78.trans (hx9.mono hx78.size); have cx9 := HC.out x9 hx79; clear Cx8 CS CG HC))
                      have Hx9 : Hid (Below w6.heap.size w6 x9) := hbg.trans (hx79.mono hbg.size)
                      clear hxw8 hx78 hx7 hx8 hx9 hx79 hbg cq
                      generalize str bq = Sq at *
                      generalize List.length bq = lq at *
                      go_quiet (fail)
                      go_wp2_with fail
                      go_roundw
                      case rel => exact ⟨q + 1, by omega, by go_num, below_drewN Hx9.out _⟩
                      case measure => simp [intOf]; omega
                    · have hlq : ¬ (q : Int) < (ins.length : Int) := by omega
                      go_wp2_with fail
                      go_roundw
                      case rel => exact ⟨j + 1, ins, by omega, by omega, by go_num, own_past HO6.out hbg, E.out.keep _ _ _ _ HT6.out hbg, HB6.out.trans (hbg.mono HB6.out.size), HFW.out, hfew, HSH.out⟩
                      case measure => simp [intOf]; omega
                · rw [decide_eq_false hnot]
                  have CH := E.out.hasIn _ w5 _ (f j) HT5.out (by simp)
                  have hne5 : ¬ (ins.length : Int) = (room : Int) := by omega
                  have hl6 : ins.length ≤ 1000000 := by omega
                  have HRM : Hid (ins.length < room) := hroom
                  clear HP hT3 HNE
                  generalize hYY : (bys (F (f j))).toArray = Yh at *
                  clear hYY
                  go_wp2_with (first | (refine load_guard (by rfl) 35 _ rfl w3.heap.size rfl 35 Yh (0, 0) _ r5 Try.underlying35 rfl hYi ?_) | (go_at_call 18; refine CH.mono ?_; rintro ev w6 ⟨rfl, hb6⟩; have c6 : w6.cell? ⟨b0, off + j, none⟩ = some (.slice aom (f j).length cpm) := (hb6.cell (p := ⟨b0, off + j, none⟩) (World.block_lt_of_cell? w5 _ cj)).trans cj; have v6 := conv_sl w6 _ _ (HS5.out.below hb6); have hA6 : Below w6.heap.size w6 (w6.alloc (.cells #[.string (str (f j))] 9)) := (Below.refl _ _).alloc (Nat.le_refl _) _; have hBx := HB5.out.trans (hb6.mono HB5.out.size); have hBy := hBx.trans (hA6.mono hBx.size); have hO6 := own_past (own_past HO5.out hb6) hA6; have hc6 : (w6.alloc (.cells #[.string (str (f j))] 9)).cell? ⟨w6.heap.size, 0, none⟩ = some (.string (str (f j))) := (by simp); have HTx : Hid (T (Of (.slice aoi ins.length cpi)) (ins ++ [f j]) (w6.alloc (.cells #[.string (str (f j))] 9))) := (E.out.keep _ _ _ _ (E.out.keep _ _ _ _ HT5.out hb6) hA6); have hszB := hBy.size; have HBy : Hid _ := hBy; clear hA6 hBx hBy hb6 CH r5 HB5 HT5 HO5 HS5 cj) | (at_builtin; refine app_str (f j) rfl _ _ rfl rfl hO6 hszB w6.heap.size rfl hc6 hl6 ?_; intro v7 w7 hown7 hb7 hg7 hloc7))
                  have HT7 : Hid (T (Of v7) (ins ++ [f j]) w7) := E.out.grown HTx.out hg7 hloc7
                  have HB7 : Hid (Below w.heap.size w w7) := HBy.out.trans hb7
                  obtain ⟨aoz, cpz, rfl⟩ := own_shape hown7
                  have HO7 : Hid _ := hown7
                  have HFW : Hid (∀ a ∈ ins ++ [f j], ∃ k, k < j + 1 ∧ a = f k) := fun a ha => by
                    rcases List.mem_append.1 ha with ha | ha
                    · obtain ⟨z, hz, ez⟩ := HFR.out a ha
                      exact ⟨z, by omega, ez⟩
                    · exact ⟨j, by omega, by simpa using ha⟩
                  have HLN : Hid ((ins ++ [f j]).length ≤ room) := by have := HRM.out; show _ ≤ _; rw [List.length_append]; simp; omega
                  clear hown7 hb7 hg7 hloc7 hO6 hc6 hszB HTx HBy c6 v6 vj5 HRM hl6 HFR hYi
                  generalize ins ++ [f j] = insX at *
                  have hLN := HLN.out
                  have HI3 : Hid (Below w7.heap.size w7 w7) := Below.refl _ _
                  have HIq : Hid (∀ y, Below w7.heap.size w7 y → ∀ q, q < insX.length → ∃ g, aoz = some ⟨g, 0, none⟩ ∧ insX.length ≤ cpz ∧ y.cell? ⟨g, q, none⟩ = some (.string (str (insX.getD q [])))) := fun y hy q hq => by
                    have hy4 := own_past HO7.out hy
                    rcases hy4.2 with ⟨h0, h1⟩ | ⟨g, cap, cur, hs, _, _, hle, _⟩
                    · omega
                    · cases hs
                      refine ⟨g, rfl, hle, ?_⟩
                      rw [hy4.cellAt q (by omega), strs_get insX q hq]
                  go_loopw [14] (fun i wi => ∃ q : Nat, q ≤ insX.length ∧ i = .int .i64 q ∧ Below w7.heap.size w7 wi) (fun i _ => insX.length - (intOf i).toNat)
                  case atStart => exact ⟨0, by omega, rfl, HI3.out⟩
                  case round =>
                    obtain ⟨q, hq, rfl, hbg⟩ := hrel
                    clear HI3
                    by_cases hqi : q < insX.length
                    · have hlq : (q : Int) < (insX.length : Int) := by omega
                      obtain ⟨g, hga, hgc, cq⟩ := HIq.out wr hbg q hqi
                      have hga' : aoz = some ⟨g, 0, none⟩ := hga
                      clear hga
                      subst hga'
                      have hmem : insX.getD q [] ∈ insX := by simp [List.getD, List.getElem?_eq_getElem hqi]
                      have hshort : (insX.getD q []).length ≤ 200 := by
                        obtain ⟨z, hz, e⟩ := HFW.out _ hmem
                        rw [e]; exact HSH.out z (by omega)
                      have CS : Hid (∀ y v, Sl y v (insX.getD q []) → Calls Try.prog 14 #[v] y fun ev w' => ev = .returned (.agg (bys (F (insX.getD q []))).toArray) ∧ Below y.heap.size y w') := fun y v h => E.out.sum y v _ h hshort
                      have CG : Hid (∀ y, Below w7.heap.size w7 y → Calls Try.prog 16 #[.pointer (some ⟨sb, 0, none⟩), .agg (bys (F (insX.getD q []))).toArray] y fun ev w' => ∃ aog cpg, ev = .returned (.tuple #[.slice aog (insX.getD q []).length cpg, .nilIface]) ∧ (∀ nn, (convert 33 9 (.slice aog (insX.getD q []).length cpg)).run Try.prog (w'.drewN nn) = .ok (.string (str (insX.getD q []))) (w'.drewN nn)) ∧ Below y.heap.size y w') := fun y hy => by
                        refine (E.out.get _ y _ _ (E.out.keep _ _ _ _ HT7.out hy) hmem).mono ?_
                        rintro ev w' ⟨vr, rfl, ho, hb⟩
                        have hsl := Sl.ofOwn ho
                        obtain ⟨aog, cpg, rfl⟩ := sl_slice hsl
                        exact ⟨aog, cpg, rfl, fun nn => conv_sl _ _ _ (hsl.below (below_drewN (Below.refl _ _) nn)), hb⟩
                      have HC : Hid (∀ y, Below wr.heap.size wr y → y.cell? ⟨g, q, none⟩ = some (.string (str (insX.getD q [])))) := fun y hy => (hy.cell (p := ⟨g, q, none⟩) (World.block_lt_of_cell? wr _ cq)).trans cq
                      clear hmem hshort
                      generalize insX.getD q [] = bq at *
                      generalize (bys (F bq)).toArray = Yq at *
                      go_wp2_with (first | (refine wp_bytes rfl _ rfl bq rfl ?_; intro gb cpb x7 hslx hx7; have Cx7 := CS.out x7 _ hslx; clear hslx) | (go_at_call 14; refine Cx7.mono ?_; rintro ev x8 ⟨rfl, hx8⟩; have hx78 := hx7.trans (hx8.mono hx7.size); have hxw8 := hbg.trans (hx78.mono hbg.size); have Cx8 := CG.out x8 hxw8; clear Cx7) | (go_at_call 16; refine Cx8.mono ?_; rintro ev x9 ⟨aog, cpg, rfl, vg, hx9⟩; have hx79 := hx78.trans (hx9.mono hx78.size); have cx9 := HC.out x9 hx79; clear Cx8 CS CG HC))
                      have Hx9 : Hid (Below w7.heap.size w7 x9) := hbg.trans (hx79.mono hbg.size)
                      clear hxw8 hx78 hx7 hx8 hx9 hx79 hbg cq
                      generalize str bq = Sq at *
                      generalize List.length bq = lq at *
                      go_quiet (fail)
                      go_wp2_with fail
                      go_roundw
                      case rel => exact ⟨q + 1, by omega, by go_num, below_drewN Hx9.out _⟩
                      case measure => simp [intOf]; omega
                    · have hlq : ¬ (q : Int) < (insX.length : Int) := by omega
                      go_wp2_with fail
                      go_roundw
                      case rel => exact ⟨j + 1, insX, by omega, by omega, by go_num, own_past HO7.out hbg, E.out.keep _ _ _ _ HT7.out hbg, HB7.out.trans (hbg.mono HB7.out.size), HFW.out, HLN.out, HSH.out⟩
                      case measure => simp [intOf]; omega
                · rw [decide_eq_false hnot]
                  obtain ⟨eb, rfl⟩ := Tell.er (n := 11) hTe
                  have CI := is_any w5 _ 12 0 12 0 (Tell.is (n := 12) (hT3 _ hTe)) rfl rfl
                  subst hroom
                  have CS : Hid (∀ y, Below w5.heap.size w5 y → Calls Try.prog 14 #[.slice aom (f j).length cpm] y fun ev w' => ev = .returned (.agg (bys (F (f j))).toArray) ∧ Below y.heap.size y w') := fun y hy => E.out.sum y _ _ (HS5.out.below hy) hlen
                  have CO : Hid (∀ y, Below w5.heap.size w5 y → Calls Try.prog 18 #[.pointer (some ⟨sb, 0, none⟩), .agg (bys (F (f j))).toArray] y fun ev w' => ev = .returned (.bool false) ∧ Below y.heap.size y w') := fun y hy => E.out.hasOut _ y _ _ (E.out.keep _ _ _ _ HT5.out hy) (fun a ha => HNE.out a ha (fun e => hnot (e ▸ ha)))
                  have HC5 : Hid (∀ y, Below w5.heap.size w5 y → y.cell? ⟨b0, off + j, none⟩ = some (.slice aom (f j).length cpm)) := fun y hy => (hy.cell (p := ⟨b0, off + j, none⟩) (World.block_lt_of_cell? w5 _ cj)).trans cj
                  have HFW : Hid (∀ a ∈ ins, ∃ k, k < j + 1 ∧ a = f k) := fun a ha => by
                    obtain ⟨z, hz, ez⟩ := HFR.out a ha
                    exact ⟨z, by omega, ez⟩
                  clear HP hT3 HNE hTe hnot r5 hYi HFR cj
                  generalize (bys (F (f j))).toArray = Yj at *
                  go_wp2_with (first | (go_at_call 12; refine CI.mono ?_; rintro ev w6 ⟨rfl, hb6⟩; have c6 := HC5.out w6 hb6; have CS6 := CS.out w6 hb6; clear CI) | (go_at_call 14; refine CS6.mono ?_; rintro ev w7 ⟨rfl, hb7⟩; have hb67 := hb6.trans (hb7.mono hb6.size); have CO7 := CO.out w7 hb67; clear CS6) | (go_at_call 18; refine CO7.mono ?_; rintro ev w8 ⟨rfl, hb8⟩; have hb68 := hb67.trans (hb8.mono hb67.size)))
                  go_roundw
                  case rel => exact ⟨j + 1, ins, by omega, by omega, by go_num, own_past HO5.out hb68, E.out.keep _ _ _ _ HT5.out hb68, HB5.out.trans (hb68.mono HB5.out.size), HFW.out, hfew, HSH.out⟩
                  case measure => simp [intOf]; omega
      · have hlen2 : (200 : Int) < ((f m).length : Int) := by omega
        have C9 := E.out.told wr
        have hB := hK.below
        clear hK hsl0
        go_wp2_with (first | (go_at_call 9; refine C9.mono ?_; rintro ev w2 ⟨rfl, hb2⟩))
        go_ret
        exact ⟨rfl, hB.trans (hb2.mono hB.size)⟩
    · have hB := hK.below
      have C9 := E.out.told wr
      have HC : Hid (∀ y, Below wr.heap.size wr y → Calls Try.prog 21 #[.pointer (some ⟨sb, 0, none⟩)] y fun ev w' => ev = .returned (.int .i64 (ins.length : Int)) ∧ w' = y) := fun y hy => E.out.count _ y ins (E.out.keep _ _ _ _ hK.st hy)
      obtain ⟨aoi, cpi, hvi⟩ := own_shape hK.own
      subst hvi
      have hcond : ¬ (m : Int) < (n : Int) ∨ ((m : Int) < (n : Int) ∧ ¬ (m : Int) < 30) := by omega
      clear hK
      rcases hcond with h1 | ⟨h1, h2⟩
      · go_wp2_with (first | (go_at_call 9; refine C9.mono ?_; rintro ev w2 ⟨rfl, hb2⟩; have CC := HC.out w2 hb2; clear C9) | (go_at_call 21; refine CC.mono ?_; rintro ev w3 ⟨rfl, rfl⟩))
        go_ret
        exact ⟨by simp, hB.trans (hb2.mono hB.size)⟩
      · go_wp2_with (first | (go_at_call 9; refine C9.mono ?_; rintro ev w2 ⟨rfl, hb2⟩; have CC := HC.out w2 hb2; clear C9) | (go_at_call 21; refine CC.mono ?_; rintro ev w3 ⟨rfl, rfl⟩))
        go_ret
        exact ⟨by simp, hB.trans (hb2.mono hB.size)⟩
end Go.Proofs.Ytjnogpcpekheoaa
