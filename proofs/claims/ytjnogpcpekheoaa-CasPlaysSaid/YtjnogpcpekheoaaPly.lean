/-
  CasPlays' walk.
-/
import Derived.Test.YtjnogpcpekheoaaPln
namespace Go.Proofs.Ytjnogpcpekheoaa
open Go.RowKit Go.Maps

attribute [local go_sem ↓] Go.wp_at_zero Go.wp_at_succ
set_option maxHeartbeats 400000000 in
set_option maxRecDepth 20000 in
theorem plays_walk (w : World) (rr : Int) (v : Value) (n : Nat) (fk : Nat → Int) (fb : Nat → Bys) (fv : Nat → Value) (fh : Nat → Bys) (hL : Ops w v n fk fb fv fh) : Calls Try.prog 3 #[.int .i64 rr, v] w fun ev w' => ev = .returned (.bool true) ∧ Below w.heap.size w w' := by
  obtain ⟨k0, hk0, hbits⟩ := and15 rr
  obtain ⟨room, hn⟩ : ∃ room : Nat, room = k0 + 1 := ⟨_, rfl⟩
  have hadd : IntKind.i64.wrap (1 + (k0 : Int)) = (room : Int) := by rw [IntKind.wrap_i64]; omega
  have C8 := play_new w room (by omega) (by omega)
  have hmax := hL.max
  obtain ⟨ao, cp, rfl⟩ : ∃ ao cp, v = .slice ao n cp := by
    rcases hL.shape with ⟨ao, cp, h, _⟩ | ⟨b, off, cap, h, _⟩ <;> exact ⟨_, _, h⟩
  have A : Aside (Ops w (.slice ao n cp) n fk fb fv fh) := hL
  clear hn hk0 hL
  go_enter Try.func3, Try.ntmps3
  go_wp2_with (first | (go_at_call 8; refine C8.mono ?_; rintro ev w1 ⟨sb, F, R, R1, rfl, hE, hR0⟩; have E : Hid _ := hE; clear hE C8))
  have HI : Hid (R (fun _ => False) [] (w1.alloc (.cells (box32 room) 32))) := hR0
  clear hR0
  generalize w1.heap.size = xb at *
  go_loopw [8] (fun i wr => ∃ (m : Nat) (r : List (Bys × Bys)), m ≤ n ∧ m ≤ 40 ∧ i = .int .i64 m ∧ R (fun _ => False) r wr) (fun i _ => 40 - (intOf i).toNat)
  case atStart => exact ⟨0, [], by omega, by omega, rfl, HI.out⟩
  case round =>
    obtain ⟨m, r, hmn, hm40, rfl, hR⟩ := hrel
    clear HI
    by_cases hlt : m < n ∧ m < 40
    · have hlt1 : (m : Int) < (n : Int) := by omega
      have hlt2 : (m : Int) < 40 := by omega
      obtain ⟨b0, off, hao, hcap, hcell⟩ : ∃ b0 off, ao = some ⟨b0, off, none⟩ ∧ n ≤ cp ∧ ∀ i, i < n → w.rangeAt b0 (off + i * 34) (opc (fk i) (fv i) (fh i)) := by
        rcases A.out.shape with ⟨_, _, _, h0⟩ | ⟨b, off, cap, h, hcap, hc⟩
        · omega
        · cases h; exact ⟨b, off, rfl, hcap, hc⟩
      subst hao
      obtain ⟨hslw, hh32, hk1, hk2⟩ := A.out.each m hlt.1
      have hBr := E.out.below _ _ _ hR
      have hrng := range_below (hcell m hlt.1) hBr
      obtain ⟨am, cpm, hfm⟩ := sl_slice hslw
      rw [hfm] at hrng hslw
      have h37 : (Try.prog.info? 37).map (·.size) = some (opc (fk m) (.slice am (fb m).length cpm) (fh m)).length := by rw [Try.info37, opc_len _ _ _ hh32]
      have h37a : (Try.prog.info? 37).map (·.size) = some (opc (fk m) (.slice am (fb m).length cpm) (fh m)).toArray.size := by rw [Try.info37, List.size_toArray, opc_len _ _ _ hh32]
      have h37z : z37.toArray.size = (opc (fk m) (.slice am (fb m).length cpm) (fh m)).toArray.size := by rw [List.size_toArray, List.size_toArray, opc_len _ _ _ hh32]; rfl
      have h37o := opc_one (fk m) (.slice am (fb m).length cpm) (fh m) rfl
      have HR : Hid (R (fun _ => False) r wr) := hR
      have HSW : Hid (Sl w (.slice am (fb m).length cpm) (fb m)) := hslw
      have hkr : -9223372036854775808 ≤ fk m ∧ fk m ≤ 9223372036854775807 := ⟨hk1, hk2⟩
      clear hcell hcap hfm hR hBr hslw hk1 hk2
      generalize hOP : opc (fk m) (.slice am (fb m).length cpm) (fh m) = OP at *
      have HOP : Hid (opc (fk m) (.slice am (fb m).length cpm) (fh m) = OP) := hOP
      clear hOP
      have hgA := heap_alloc_new wr (.cells z37.toArray 37)
      have hbA : Below wr.heap.size wr (wr.alloc (.cells z37.toArray 37)) := (Below.refl _ _).alloc (Nat.le_refl _) _
      have hxw := E.out.lt _ _ _ HR.out
      have HP2 : Hid (∀ w2, w2.heap[wr.heap.size]? = some (.cells OP.toArray 37 (0, 0)) → Below wr.heap.size wr w2 → w2.cell? ⟨wr.heap.size, 0, none⟩ = some (.int .i64 (fk m)) ∧ w2.cell? ⟨wr.heap.size, 1, none⟩ = some (.slice am (fb m).length cpm) ∧ w2.rangeAt wr.heap.size 2 (bys (fh m)) ∧ Below w.heap.size w w2 ∧ Sl w2 (.slice am (fb m).length cpm) (fb m) ∧ (w2.alloc (.cells #[] 5)).cell? ⟨wr.heap.size, 1, none⟩ = some (.slice am (fb m).length cpm)) := fun w2 rO hb2 => by
        have hp := op_parts (w := w2) (ob := wr.heap.size) (k := fk m) (v := .slice am (fb m).length cpm) (h := fh m) (by rw [HOP.out]; exact rO)
        have hBr := E.out.below _ _ _ HR.out
        have hB2 := hBr.trans (hb2.mono hBr.size)
        exact ⟨hp.1, hp.2.1, hp.2.2, hB2, HSW.out.below hB2, cell_below hp.2.1 ((Below.refl _ _).alloc (Nat.le_refl _) _)⟩
      by_cases hlen : (fb m).length ≤ 200
      · have hlen2 : ¬ (200 : Int) < ((fb m).length : Int) := by omega
        have hl2 : (fb m).length ≤ 1000000000000 := by omega
        have HIN : Hid (∀ w2, Below wr.heap.size wr w2 → ∀ gi gicap w3, w3.ownsRow w2.heap.size 5 1 (.slice (some ⟨gi, 0, none⟩) (fb m).length gicap) (fb m).length (bys (fb m)) → Below w2.heap.size w2 w3 → R (fun k => k = gi) r w3 ∧ gi < w3.heap.size ∧ w2.heap.size ≤ gi) := fun w2 hb2 gi gicap w3 ho hb3 => by
          have hl := ho.lt gi rfl
          exact ⟨E.out.narrow _ _ _ _ (E.out.keep _ _ _ _ (E.out.fresh _ _ _ (E.out.keep _ _ _ _ HR.out hb2)) hb3) (fun k hk => .inr (by rw [hk]; exact hl.1)), hl.2, hl.1⟩
        have hw6 := wrap6 (fk m)
        have hkind := kind_in (fk m)
        unfold kind at hkind
        rcases hkind with hkd | hkd | hkd | hkd | hkd | hkd
        · go_wp2_with (first | (refine wpList_load_mid rfl 37 _ rfl b0 (off + m * 34) (by simp [Act.eval]) OP _ hrng Try.underlying37 rfl h37 ?_) | (refine store_box rfl 37 _ _ rfl wr.heap.size OP.toArray rfl rfl 37 z37.toArray hgA h37a h37z h37o wr hbA ?_; intro w2 rO hb2; obtain ⟨cK, cB, rH, hB2, hS2, hcB2⟩ := HP2.out w2 rO hb2) | (at_builtin; refine append_by rfl _ _ rfl rfl rfl hS2 hl2 ?_; intro gi gicap w3 hownI hb3; have hin3 := HIN.out w2 hb2 gi gicap w3 hownI hb3; have hR3 := hin3.1; have hgi3 := hin3.2.1; have hgi2 := hin3.2.2; have cK3 := cell_below cK hb3; have cB3 := cell_below cB hb3; have hs2 := hb2.size; have hs3 := hb3.size; have hsI := Sl.ofOwn hownI; have hob : wr.heap.size ≠ xb := (by omega); clear hin3 cK cB hcB2; have C10 := E.out.put _ r w3 _ (fb m) hR3 (fun k hk => by rw [hk]; exact hgi3) hsI hlen; clear hR3 hsI) | (go_at_call 10; refine C10.mono ?_; rintro ev w4 ⟨code, ⟨e, rfl, hT4⟩, hR4, hf4⟩; have cB4 := hf4.cell hob cB3; have hgA4 := heap_alloc_new w4 (.cells z25.toArray 35); have hbA4 : Below w4.heap.size w4 (w4.alloc (.cells z25.toArray 35)) := (Below.refl _ _).alloc (Nat.le_refl _) _; have hbx := orZ_box code (F (fb m)) (E.out.len _); have hYi := hbx.1; have hYo := hbx.2.1; have hYz := hbx.2.2; have hs4 := hf4.size; clear C10 hbx cB3) | (refine store_box rfl 35 _ _ rfl w4.heap.size (bys (orZ code (F (fb m)))).toArray rfl rfl 35 z25.toArray hgA4 hYi hYz hYo w4 hbA4 ?_; intro w5 rA5 hb5; have cB5 := cell_below cB4 hb5; have hs5 := hb5.size; have C11 := E.out.rput _ r w5 _ (fb m) code (E.out.keep1 _ _ _ _ _ _ hR4 hb5) (fun k hk => by omega) HSW.out hlen; clear cB4 hgA4 hbA4) | (go_at_call 11; refine C11.mono ?_; rintro ev w6 ⟨rfl, ⟨r', hR6⟩, hT6, hf6⟩; have hgA6 := heap_alloc_new w6 (.cells z25.toArray 35); have hbA6 : Below w6.heap.size w6 (w6.alloc (.cells z25.toArray 35)) := (Below.refl _ _).alloc (Nat.le_refl _) _; have hs6 := hf6.size; have rA6 := hf6.row w4.heap.size _ _ _ (by omega) rA5; have hTe6 := hT6 e (hT4.below hb5); clear C11 hT6 hR4) | (refine store_box rfl 35 _ _ rfl w6.heap.size (bys (orZ code (F (fb m)))).toArray rfl rfl 35 z25.toArray hgA6 hYi hYz hYo w6 hbA6 ?_; intro w7 rB7 hb7; have rA7 := (hb7.block w4.heap.size (Array.getElem?_eq_some_iff.1 rA6).1).trans rA6; have CI := is_any w7 e code 0 (code : Int) 0 (Tell.is (hTe6.below hb7)) rfl rfl; have he7 := fun y => E.out.eq y _ (orZ_len code (F (fb m)) (E.out.len _)); clear hgA6 hbA6 hTe6) | (refine wpList_load_row rfl 35 _ rfl w4.heap.size rfl 35 (bys (orZ code (F (fb m)))).toArray (0, 0) _ rA7 Try.underlying35 rfl hYi ?_) | (refine wpList_load_row rfl 35 _ rfl w6.heap.size rfl 35 (bys (orZ code (F (fb m)))).toArray (0, 0) _ rB7 Try.underlying35 rfl hYi ?_) | (go_at_call 12; refine CI.mono ?_; rintro ev w8 ⟨rfl, hb8⟩; clear CI))
          have HB0 : Hid (Bs w8 gi (fb m).length ∧ R (fun k => k = gi) r' w8) := by
            have hne : (Value.slice (some ⟨gi, 0, none⟩) (fb m).length gicap).ownBlock ≠ some xb := fun e => by
              have := Option.some.inj e
              simp at this; omega
            have o4 := hf4.own hne hownI
            have o6 := hf6.own hne (own_past o4 hb5)
            exact ⟨bs_own (own_past (own_past o6 hb7) hb8) rfl, E.out.keep _ _ _ _ (E.out.keep _ _ _ _ hR6 hb7) hb8⟩
          generalize hWR : wr = wA at *
          clear hWR
          have hgiw : w.heap.size ≤ gi := by have := (E.out.below _ _ _ HR.out).size; omega
          clear hR6 hf4 hf6 hb2 hb3 hb5 hb7 hb8 rA5 rA6 rA7 rB7 hownI he7 hYi hYo hYz cK3 cB5 hT4 hS2 rO rH hB2 HIN HP2 hgA hbA hrng h37 h37a h37z h37o HOP
          as_aux_lemma =>
            go_loopw [21] (fun i wi => ∃ j : Nat, j ≤ (fb m).length ∧ i = .int .i64 j ∧ Bs wi gi (fb m).length ∧ R (fun k => k = gi) r' wi) (fun i _ => (fb m).length - (intOf i).toNat)
            case atStart => exact ⟨0, by omega, rfl, HB0.out.1, HB0.out.2⟩
            case round =>
              obtain ⟨j, hj, rfl, hbs, hRj⟩ := hrel
              clear HB0
              by_cases hjl : j < (fb m).length
              · have hlj : (j : Int) < ((fb m).length : Int) := by omega
                have HN : Hid (∀ z, Bs (wr.setCell ⟨gi, j, none⟩ (.int .u8 z)) gi (fb m).length ∧ R (fun k => k = gi) r' (wr.setCell ⟨gi, j, none⟩ (.int .u8 z))) := fun z => ⟨bs_set hbs hjl, E.out.turn _ _ _ _ hRj (fun k hk _ => Below.heap_setCell _ _ _ _ hk) ((E.out.below _ _ _ hRj).setCell (p := ⟨gi, j, none⟩) hgiw _)⟩
                have hbj := hbs j hjl
                obtain ⟨⟨z, cz⟩, fz⟩ := hbj
                clear hbs hRj
                go_wp2_with fail
                go_roundw
                case rel => exact ⟨j + 1, by omega, by go_num, HN.out _⟩
                case measure => simp [intOf]; omega
              · have hlj : ¬ (j : Int) < ((fb m).length : Int) := by omega
                have CL := E.out.list _ _ _ hRj
                have HRf : Hid (R (fun k => k = gi ∨ wr.heap.size ≤ k) r' wr) := E.out.fresh _ _ _ hRj
                have hfew := E.out.few _ _ _ hRj
                have HKL : Hid (∀ a ∈ ks r', a.length = 32) := E.out.klen _ _ _ hRj
                have hwsz := (E.out.below _ _ _ hRj).size
                clear hbs hRj
                go_wp2_with (first | (go_at_call 20; refine CL.mono ?_; rintro ev w9 ⟨gt, capt, rfl, hct, hgt, hly, hb9⟩; clear CL))
                have HR9 : Hid (R (fun k => k = gt) r' w9) := E.out.narrow _ _ _ _ (E.out.keep _ _ _ _ HRf.out hb9) (fun k hk => .inr (by rw [hk]; exact hgt))
                have HLY : Hid (Lies w9 gt (ks r')) := hly
                obtain ⟨aos, caps, hcs, cS, _⟩ := E.out.sums _ _ _ HR9.out
                have hgtw : w.heap.size ≤ gt := by omega
                have HS9 : Hid (∀ y, Below w9.heap.size w9 y → Below w9.heap.size w9 y ∧ y.cell? ⟨xb, 1, none⟩ = some (.slice aos r'.length caps)) := fun y hy => ⟨hy, cell_below cS hy⟩
                have q0 := HS9.out w9.drew (Below.refl _ _).drew
                have J21 : Hid (∀ y, (Below w9.heap.size w9 y ∧ y.cell? ⟨xb, 1, none⟩ = some (.slice aos r'.length caps)) → Calls Try.prog 21 #[.pointer (some ⟨sb, 0, none⟩)] y fun ev w' => ev = .returned (.int .i64 (r'.length : Int)) ∧ (Below w9.heap.size w9 w' ∧ w'.cell? ⟨xb, 1, none⟩ = some (.slice aos r'.length caps))) := fun y hy => by
                  refine (E.out.count _ _ _ (E.out.keep _ _ _ _ HR9.out hy.1)).mono ?_
                  rintro ev w' ⟨rfl, rfl⟩
                  exact ⟨rfl, hy⟩
                clear hb9 hly HS9 HRf cS hgt hwsz
                go_region_held3 (fun y => Below w9.heap.size w9 y ∧ y.cell? ⟨xb, 1, none⟩ = some (.slice aos r'.length caps)) (assumption) (first | (go_at_call 21; refine (J21.out _ (by assumption)).mono ?_; rintro ev w10 ⟨rfl, hS10⟩))
                have HI9 : Hid (R (fun k => k = gt) r' w10 ∧ ∀ q', 0 ≤ q' → q' < r'.length → w10.rangeAt gt (q' * 32) (bys ((ks r').getD q' [])) ∧ w10.there gt (q' * 32) 32) := ⟨E.out.keep _ _ _ _ HR9.out hS10.1, fun q' _ hq => lies_below HLY.out hS10.1 q' (by rw [ks_len]; exact hq)⟩
                clear J21 q0 hS10 HR9 HLY
                go_wp2_with fail
                generalize hWR : wr = wB at *
                clear hWR
                go_loopw [23] (fun i wi => ∃ q : Nat, q ≤ r'.length ∧ i = .int .i64 q ∧ R (fun k => k = gt) r' wi ∧ ∀ q', q ≤ q' → q' < r'.length → wi.rangeAt gt (q' * 32) (bys ((ks r').getD q' [])) ∧ wi.there gt (q' * 32) 32) (fun i _ => r'.length - (intOf i).toNat)
                case atStart => exact ⟨0, by omega, rfl, HI9.out.1, HI9.out.2⟩
                case round =>
                  obtain ⟨q, hq, rfl, hRq, hrest⟩ := hrel
                  clear HI9
                  by_cases hqi : q < r'.length
                  · have hlq : (q : Int) < (r'.length : Int) := by omega
                    obtain ⟨aos2, caps2, hcs2, cS2, hrw⟩ := E.out.sums _ _ _ hRq
                    obtain ⟨gs, hgs, hrs⟩ := hrw q hqi
                    have hgs' : aos2 = some ⟨gs, 0, none⟩ := hgs
                    clear hgs hrw
                    subst hgs'
                    have hk32 : ((ks r').getD q []).length = 32 := HKL.out _ (by simp [List.getD, List.getElem?_eq_getElem (show q < (ks r').length by rw [ks_len]; exact hqi)])
                    obtain ⟨hrt, hth⟩ := hrest q (Nat.le_refl _) hqi
                    have hLi := info35L _ hk32
                    have he := fun y => E.out.eq y _ hk32
                    have HX := lies_turn (E := E.out) hRq hrest hgtw hk32 hqi
                    obtain ⟨z, hcz, hfz, HXN⟩ := HX
                    have HN : Hid (∀ n u, R (fun k => k = gt) r' (((wr.drewN n).drew).setCell ⟨gt, q * 32, none⟩ (.int .u8 u)) ∧ ∀ q', q + 1 ≤ q' → q' < r'.length → (((wr.drewN n).drew).setCell ⟨gt, q * 32, none⟩ (.int .u8 u)).rangeAt gt (q' * 32) (bys ((ks r').getD q' [])) ∧ (((wr.drewN n).drew).setCell ⟨gt, q * 32, none⟩ (.int .u8 u)).there gt (q' * 32) 32) := HXN
                    clear hrest hRq hth HXN
                    generalize bys ((ks r').getD q []) = L at *
                    go_wp2_with fail
                    refine wp_region_quiet_lit (by kernel_rfl) (by kernel_rfl) ?_
                    repeat (first | (refine quiet_load2 rfl 35 _ rfl gt (q * 32) ?_ (.agg L.toArray) (fun y hy => by obtain ⟨n, rfl⟩ := hy; exact load35m _ _ _ _ (range_below hrt (below_drewN (Below.refl _ _) n)) hLi) ?_; focus (simp [Act.eval]; done)) | (refine quiet_load2 rfl 35 _ rfl gs (q * 32) ?_ (.agg L.toArray) (fun y hy => by obtain ⟨n, rfl⟩ := hy; exact load35m _ _ _ _ (range_below hrs (below_drewN (Below.refl _ _) n)) hLi) ?_; focus (simp [Act.eval]; done)) | quiet_step (fail))
                    refine wpQuiet_nil ?_
                    rintro _ ⟨nq, rfl⟩
                    clear hrt hrs hLi he cS2
                    go_wp2_with fail
                    have hS00 : (wr.drewN nq).drew.cell? ⟨gt, q * 32, none⟩ = some (.int .u8 z) ∧ (wr.drewN nq).drew.frozen? ⟨gt, q * 32, none⟩ = false := ⟨hcz, hfz⟩
                    refine beginL (fun y => y.cell? ⟨gt, q * 32, none⟩ = some (.int .u8 z) ∧ y.frozen? ⟨gt, q * 32, none⟩ = false) 8 (by kernel_rfl) hS00 (fun hS0 => ?_)
                    have HN2 := fun u => HN.out nq u
                    have HN3 : Hid _ := HN2
                    clear hS00 HN HN2 hcz hfz
                    generalize (wr.drewN nq).drew = wd at *
                    refine takeL 0 (v := ?vt00) rfl (some 233) rfl (by decide) (by kernel_rfl) (by kernel_rfl) (by kernel_rfl) (by kernel_rfl) (fun _ _ _ h => h) (Or.inl ⟨by rfl, ?ht00⟩) hS0 ?rt00
                    case ht00 => (intro y hy; go_simp; with_reducible rfl)
                    simp only [Act.put, List.setIfInBounds_toArray, List.set_cons_zero, List.set_cons_succ]
                    refine takeL 1 (v := ?vt01) rfl (some 234) rfl (by decide) (by kernel_rfl) (by kernel_rfl) (by kernel_rfl) (by kernel_rfl) (fun _ _ _ h => h) (Or.inl ⟨by rfl, ?ht01⟩) hS0 ?rt01
                    case ht01 => (intro y hy; go_simp; with_reducible rfl)
                    simp only [Act.put, List.setIfInBounds_toArray, List.set_cons_zero, List.set_cons_succ]
                    refine takeL 2 (v := ?vt02) rfl (some 235) rfl (by decide) (by kernel_rfl) (by kernel_rfl) (by kernel_rfl) (by kernel_rfl) (fun _ _ _ h => h) (Or.inl ⟨by rfl, ?ht02⟩) hS0 ?rt02
                    case ht02 => (intro y hy; go_simp; with_reducible rfl)
                    simp only [Act.put, List.setIfInBounds_toArray, List.set_cons_zero, List.set_cons_succ]
                    refine takeL 3 (v := ?vt03) rfl (some 236) rfl (by decide) (by kernel_rfl) (by kernel_rfl) (by kernel_rfl) (by kernel_rfl) (fun _ _ _ h => h) (Or.inl ⟨by rfl, ?ht03⟩) hS0 ?rt03
                    case ht03 => (intro y hy; go_simp; with_reducible rfl)
                    simp only [Act.put, List.setIfInBounds_toArray, List.set_cons_zero, List.set_cons_succ]
                    refine takeL 4 (v := ?vt04) rfl (some 237) rfl (by decide) (by kernel_rfl) (by kernel_rfl) (by kernel_rfl) (by kernel_rfl) (fun _ _ _ h => h) (Or.inl ⟨by rfl, ?ht04⟩) hS0 ?rt04
                    case ht04 => (intro y hy; have c1 := hy.1; go_simp; with_reducible rfl)
                    simp only [Act.put, List.setIfInBounds_toArray, List.set_cons_zero, List.set_cons_succ]
                    refine takeL 5 (v := ?vt05) rfl (some 238) rfl (by decide) (by kernel_rfl) (by kernel_rfl) (by kernel_rfl) (by kernel_rfl) (fun _ _ _ h => h) (Or.inl ⟨by rfl, ?ht05⟩) hS0 ?rt05
                    case ht05 => (intro y hy; go_simp; with_reducible rfl)
                    simp only [Act.put, List.setIfInBounds_toArray, List.set_cons_zero, List.set_cons_succ]
                    refine readyL (rs := [6]) (by kernel_rfl) (by simp) ?_
                    refine ReadyL.cons rfl (fun K hK => ?_) ReadyL.nil
                    go_simp
                    refine hK.out _ _ (fun _ => hS0) (fun _ => ?_)
                    clear hK K
                    refine readyL (rs := [7]) (by kernel_rfl) (by simp) ?_
                    refine ReadyL.cons rfl (fun K hK => ?_) ReadyL.nil
                    go_simp
                    refine hK.out _ _ (fun _ => hS0) (fun _ => ?_)
                    clear hK K
                    refine readyL (rs := [8]) (by kernel_rfl) (by simp) ?_
                    refine ReadyL.cons rfl (fun K hK => ?_) ReadyL.nil
                    have c1 := hS0.1
                    have f1 := hS0.2
                    go_simp
                    refine hK.out _ _ (fun h => absurd rfl h) (fun _ => ?_)
                    clear hK K
                    refine doneL (by kernel_rfl) ?_ _
                    go_wp2_with fail
                    go_roundw
                    case rel => exact ⟨q + 1, by omega, by go_num, (HN3.out _).1, (HN3.out _).2⟩
                    case measure => simp [intOf]; omega
                  · have hlq : ¬ (q : Int) < (r'.length : Int) := by omega
                    go_wp2_with fail
                    go_roundw
                    case rel => exact ⟨m + 1, r', by omega, by omega, by go_num, E.out.narrow _ _ _ _ hRq (fun k hk => by cases hk)⟩
                    case measure => simp [intOf]; omega
        · go_wp2_with (first | (refine wpList_load_mid rfl 37 _ rfl b0 (off + m * 34) (by simp [Act.eval]) OP _ hrng Try.underlying37 rfl h37 ?_) | (refine store_box rfl 37 _ _ rfl wr.heap.size OP.toArray rfl rfl 37 z37.toArray hgA h37a h37z h37o wr hbA ?_; intro w2 rO hb2; obtain ⟨cK, cB, rH, hB2, hS2, hcB2⟩ := HP2.out w2 rO hb2) | (at_builtin; refine append_by rfl _ _ rfl rfl rfl hS2 hl2 ?_; intro gi gicap w3 hownI hb3; have hin3 := HIN.out w2 hb2 gi gicap w3 hownI hb3; have hR3 := hin3.1; have hgi3 := hin3.2.1; have hgi2 := hin3.2.2; have cK3 := cell_below cK hb3; have cB3 := cell_below cB hb3; have hs2 := hb2.size; have hs3 := hb3.size; have hsI := Sl.ofOwn hownI; have hob : wr.heap.size ≠ xb := (by omega); clear hin3 cK cB hcB2; have C10 := E.out.put _ r w3 _ (fb m) hR3 (fun k hk => by rw [hk]; exact hgi3) hsI hlen; clear hR3 hsI) | (go_at_call 10; refine C10.mono ?_; rintro ev w4 ⟨code, ⟨e, rfl, hT4⟩, hR4, hf4⟩; have cB4 := hf4.cell hob cB3; have hgA4 := heap_alloc_new w4 (.cells z25.toArray 35); have hbA4 : Below w4.heap.size w4 (w4.alloc (.cells z25.toArray 35)) := (Below.refl _ _).alloc (Nat.le_refl _) _; have hbx := orZ_box code (F (fb m)) (E.out.len _); have hYi := hbx.1; have hYo := hbx.2.1; have hYz := hbx.2.2; have hs4 := hf4.size; clear C10 hbx cB3) | (refine store_box rfl 35 _ _ rfl w4.heap.size (bys (orZ code (F (fb m)))).toArray rfl rfl 35 z25.toArray hgA4 hYi hYz hYo w4 hbA4 ?_; intro w5 rA5 hb5; have cB5 := cell_below cB4 hb5; have hs5 := hb5.size; have C11 := E.out.rput _ r w5 _ (fb m) code (E.out.keep1 _ _ _ _ _ _ hR4 hb5) (fun k hk => by omega) HSW.out hlen; clear cB4 hgA4 hbA4) | (go_at_call 11; refine C11.mono ?_; rintro ev w6 ⟨rfl, ⟨r', hR6⟩, hT6, hf6⟩; have hgA6 := heap_alloc_new w6 (.cells z25.toArray 35); have hbA6 : Below w6.heap.size w6 (w6.alloc (.cells z25.toArray 35)) := (Below.refl _ _).alloc (Nat.le_refl _) _; have hs6 := hf6.size; have rA6 := hf6.row w4.heap.size _ _ _ (by omega) rA5; have hTe6 := hT6 e (hT4.below hb5); clear C11 hT6 hR4) | (refine store_box rfl 35 _ _ rfl w6.heap.size (bys (orZ code (F (fb m)))).toArray rfl rfl 35 z25.toArray hgA6 hYi hYz hYo w6 hbA6 ?_; intro w7 rB7 hb7; have rA7 := (hb7.block w4.heap.size (Array.getElem?_eq_some_iff.1 rA6).1).trans rA6; have CI := is_any w7 e code 0 (code : Int) 0 (Tell.is (hTe6.below hb7)) rfl rfl; have he7 := fun y => E.out.eq y _ (orZ_len code (F (fb m)) (E.out.len _)); clear hgA6 hbA6 hTe6) | (refine wpList_load_row rfl 35 _ rfl w4.heap.size rfl 35 (bys (orZ code (F (fb m)))).toArray (0, 0) _ rA7 Try.underlying35 rfl hYi ?_) | (refine wpList_load_row rfl 35 _ rfl w6.heap.size rfl 35 (bys (orZ code (F (fb m)))).toArray (0, 0) _ rB7 Try.underlying35 rfl hYi ?_) | (go_at_call 12; refine CI.mono ?_; rintro ev w8 ⟨rfl, hb8⟩; clear CI))
          have HB0 : Hid (Bs w8 gi (fb m).length ∧ R (fun k => k = gi) r' w8) := by
            have hne : (Value.slice (some ⟨gi, 0, none⟩) (fb m).length gicap).ownBlock ≠ some xb := fun e => by
              have := Option.some.inj e
              simp at this; omega
            have o4 := hf4.own hne hownI
            have o6 := hf6.own hne (own_past o4 hb5)
            exact ⟨bs_own (own_past (own_past o6 hb7) hb8) rfl, E.out.keep _ _ _ _ (E.out.keep _ _ _ _ hR6 hb7) hb8⟩
          generalize hWR : wr = wA at *
          clear hWR
          have hgiw : w.heap.size ≤ gi := by have := (E.out.below _ _ _ HR.out).size; omega
          clear hR6 hf4 hf6 hb2 hb3 hb5 hb7 hb8 rA5 rA6 rA7 rB7 hownI he7 hYi hYo hYz cK3 cB5 hT4 hS2 rO rH hB2 HIN HP2 hgA hbA hrng h37 h37a h37z h37o HOP
          as_aux_lemma =>
            go_loopw [21] (fun i wi => ∃ j : Nat, j ≤ (fb m).length ∧ i = .int .i64 j ∧ Bs wi gi (fb m).length ∧ R (fun k => k = gi) r' wi) (fun i _ => (fb m).length - (intOf i).toNat)
            case atStart => exact ⟨0, by omega, rfl, HB0.out.1, HB0.out.2⟩
            case round =>
              obtain ⟨j, hj, rfl, hbs, hRj⟩ := hrel
              clear HB0
              by_cases hjl : j < (fb m).length
              · have hlj : (j : Int) < ((fb m).length : Int) := by omega
                have HN : Hid (∀ z, Bs (wr.setCell ⟨gi, j, none⟩ (.int .u8 z)) gi (fb m).length ∧ R (fun k => k = gi) r' (wr.setCell ⟨gi, j, none⟩ (.int .u8 z))) := fun z => ⟨bs_set hbs hjl, E.out.turn _ _ _ _ hRj (fun k hk _ => Below.heap_setCell _ _ _ _ hk) ((E.out.below _ _ _ hRj).setCell (p := ⟨gi, j, none⟩) hgiw _)⟩
                have hbj := hbs j hjl
                obtain ⟨⟨z, cz⟩, fz⟩ := hbj
                clear hbs hRj
                go_wp2_with fail
                go_roundw
                case rel => exact ⟨j + 1, by omega, by go_num, HN.out _⟩
                case measure => simp [intOf]; omega
              · have hlj : ¬ (j : Int) < ((fb m).length : Int) := by omega
                have CL := E.out.list _ _ _ hRj
                have HRf : Hid (R (fun k => k = gi ∨ wr.heap.size ≤ k) r' wr) := E.out.fresh _ _ _ hRj
                have hfew := E.out.few _ _ _ hRj
                have HKL : Hid (∀ a ∈ ks r', a.length = 32) := E.out.klen _ _ _ hRj
                have hwsz := (E.out.below _ _ _ hRj).size
                clear hbs hRj
                go_wp2_with (first | (go_at_call 20; refine CL.mono ?_; rintro ev w9 ⟨gt, capt, rfl, hct, hgt, hly, hb9⟩; clear CL))
                have HR9 : Hid (R (fun k => k = gt) r' w9) := E.out.narrow _ _ _ _ (E.out.keep _ _ _ _ HRf.out hb9) (fun k hk => .inr (by rw [hk]; exact hgt))
                have HLY : Hid (Lies w9 gt (ks r')) := hly
                obtain ⟨aos, caps, hcs, cS, _⟩ := E.out.sums _ _ _ HR9.out
                have hgtw : w.heap.size ≤ gt := by omega
                have HS9 : Hid (∀ y, Below w9.heap.size w9 y → Below w9.heap.size w9 y ∧ y.cell? ⟨xb, 1, none⟩ = some (.slice aos r'.length caps)) := fun y hy => ⟨hy, cell_below cS hy⟩
                have q0 := HS9.out w9.drew (Below.refl _ _).drew
                have J21 : Hid (∀ y, (Below w9.heap.size w9 y ∧ y.cell? ⟨xb, 1, none⟩ = some (.slice aos r'.length caps)) → Calls Try.prog 21 #[.pointer (some ⟨sb, 0, none⟩)] y fun ev w' => ev = .returned (.int .i64 (r'.length : Int)) ∧ (Below w9.heap.size w9 w' ∧ w'.cell? ⟨xb, 1, none⟩ = some (.slice aos r'.length caps))) := fun y hy => by
                  refine (E.out.count _ _ _ (E.out.keep _ _ _ _ HR9.out hy.1)).mono ?_
                  rintro ev w' ⟨rfl, rfl⟩
                  exact ⟨rfl, hy⟩
                clear hb9 hly HS9 HRf cS hgt hwsz
                go_region_held3 (fun y => Below w9.heap.size w9 y ∧ y.cell? ⟨xb, 1, none⟩ = some (.slice aos r'.length caps)) (assumption) (first | (go_at_call 21; refine (J21.out _ (by assumption)).mono ?_; rintro ev w10 ⟨rfl, hS10⟩))
                have HI9 : Hid (R (fun k => k = gt) r' w10 ∧ ∀ q', 0 ≤ q' → q' < r'.length → w10.rangeAt gt (q' * 32) (bys ((ks r').getD q' [])) ∧ w10.there gt (q' * 32) 32) := ⟨E.out.keep _ _ _ _ HR9.out hS10.1, fun q' _ hq => lies_below HLY.out hS10.1 q' (by rw [ks_len]; exact hq)⟩
                clear J21 q0 hS10 HR9 HLY
                go_wp2_with fail
                generalize hWR : wr = wB at *
                clear hWR
                go_loopw [23] (fun i wi => ∃ q : Nat, q ≤ r'.length ∧ i = .int .i64 q ∧ R (fun k => k = gt) r' wi ∧ ∀ q', q ≤ q' → q' < r'.length → wi.rangeAt gt (q' * 32) (bys ((ks r').getD q' [])) ∧ wi.there gt (q' * 32) 32) (fun i _ => r'.length - (intOf i).toNat)
                case atStart => exact ⟨0, by omega, rfl, HI9.out.1, HI9.out.2⟩
                case round =>
                  obtain ⟨q, hq, rfl, hRq, hrest⟩ := hrel
                  clear HI9
                  by_cases hqi : q < r'.length
                  · have hlq : (q : Int) < (r'.length : Int) := by omega
                    obtain ⟨aos2, caps2, hcs2, cS2, hrw⟩ := E.out.sums _ _ _ hRq
                    obtain ⟨gs, hgs, hrs⟩ := hrw q hqi
                    have hgs' : aos2 = some ⟨gs, 0, none⟩ := hgs
                    clear hgs hrw
                    subst hgs'
                    have hk32 : ((ks r').getD q []).length = 32 := HKL.out _ (by simp [List.getD, List.getElem?_eq_getElem (show q < (ks r').length by rw [ks_len]; exact hqi)])
                    obtain ⟨hrt, hth⟩ := hrest q (Nat.le_refl _) hqi
                    have hLi := info35L _ hk32
                    have he := fun y => E.out.eq y _ hk32
                    have HX := lies_turn (E := E.out) hRq hrest hgtw hk32 hqi
                    obtain ⟨z, hcz, hfz, HXN⟩ := HX
                    have HN : Hid (∀ n u, R (fun k => k = gt) r' (((wr.drewN n).drew).setCell ⟨gt, q * 32, none⟩ (.int .u8 u)) ∧ ∀ q', q + 1 ≤ q' → q' < r'.length → (((wr.drewN n).drew).setCell ⟨gt, q * 32, none⟩ (.int .u8 u)).rangeAt gt (q' * 32) (bys ((ks r').getD q' [])) ∧ (((wr.drewN n).drew).setCell ⟨gt, q * 32, none⟩ (.int .u8 u)).there gt (q' * 32) 32) := HXN
                    clear hrest hRq hth HXN
                    generalize bys ((ks r').getD q []) = L at *
                    go_wp2_with fail
                    refine wp_region_quiet_lit (by kernel_rfl) (by kernel_rfl) ?_
                    repeat (first | (refine quiet_load2 rfl 35 _ rfl gt (q * 32) ?_ (.agg L.toArray) (fun y hy => by obtain ⟨n, rfl⟩ := hy; exact load35m _ _ _ _ (range_below hrt (below_drewN (Below.refl _ _) n)) hLi) ?_; focus (simp [Act.eval]; done)) | (refine quiet_load2 rfl 35 _ rfl gs (q * 32) ?_ (.agg L.toArray) (fun y hy => by obtain ⟨n, rfl⟩ := hy; exact load35m _ _ _ _ (range_below hrs (below_drewN (Below.refl _ _) n)) hLi) ?_; focus (simp [Act.eval]; done)) | quiet_step (fail))
                    refine wpQuiet_nil ?_
                    rintro _ ⟨nq, rfl⟩
                    clear hrt hrs hLi he cS2
                    go_wp2_with fail
                    have hS00 : (wr.drewN nq).drew.cell? ⟨gt, q * 32, none⟩ = some (.int .u8 z) ∧ (wr.drewN nq).drew.frozen? ⟨gt, q * 32, none⟩ = false := ⟨hcz, hfz⟩
                    refine beginL (fun y => y.cell? ⟨gt, q * 32, none⟩ = some (.int .u8 z) ∧ y.frozen? ⟨gt, q * 32, none⟩ = false) 8 (by kernel_rfl) hS00 (fun hS0 => ?_)
                    have HN2 := fun u => HN.out nq u
                    have HN3 : Hid _ := HN2
                    clear hS00 HN HN2 hcz hfz
                    generalize (wr.drewN nq).drew = wd at *
                    refine takeL 0 (v := ?vt10) rfl (some 233) rfl (by decide) (by kernel_rfl) (by kernel_rfl) (by kernel_rfl) (by kernel_rfl) (fun _ _ _ h => h) (Or.inl ⟨by rfl, ?ht10⟩) hS0 ?rt10
                    case ht10 => (intro y hy; go_simp; with_reducible rfl)
                    simp only [Act.put, List.setIfInBounds_toArray, List.set_cons_zero, List.set_cons_succ]
                    refine takeL 1 (v := ?vt11) rfl (some 234) rfl (by decide) (by kernel_rfl) (by kernel_rfl) (by kernel_rfl) (by kernel_rfl) (fun _ _ _ h => h) (Or.inl ⟨by rfl, ?ht11⟩) hS0 ?rt11
                    case ht11 => (intro y hy; go_simp; with_reducible rfl)
                    simp only [Act.put, List.setIfInBounds_toArray, List.set_cons_zero, List.set_cons_succ]
                    refine takeL 2 (v := ?vt12) rfl (some 235) rfl (by decide) (by kernel_rfl) (by kernel_rfl) (by kernel_rfl) (by kernel_rfl) (fun _ _ _ h => h) (Or.inl ⟨by rfl, ?ht12⟩) hS0 ?rt12
                    case ht12 => (intro y hy; go_simp; with_reducible rfl)
                    simp only [Act.put, List.setIfInBounds_toArray, List.set_cons_zero, List.set_cons_succ]
                    refine takeL 3 (v := ?vt13) rfl (some 236) rfl (by decide) (by kernel_rfl) (by kernel_rfl) (by kernel_rfl) (by kernel_rfl) (fun _ _ _ h => h) (Or.inl ⟨by rfl, ?ht13⟩) hS0 ?rt13
                    case ht13 => (intro y hy; go_simp; with_reducible rfl)
                    simp only [Act.put, List.setIfInBounds_toArray, List.set_cons_zero, List.set_cons_succ]
                    refine takeL 4 (v := ?vt14) rfl (some 237) rfl (by decide) (by kernel_rfl) (by kernel_rfl) (by kernel_rfl) (by kernel_rfl) (fun _ _ _ h => h) (Or.inl ⟨by rfl, ?ht14⟩) hS0 ?rt14
                    case ht14 => (intro y hy; have c1 := hy.1; go_simp; with_reducible rfl)
                    simp only [Act.put, List.setIfInBounds_toArray, List.set_cons_zero, List.set_cons_succ]
                    refine takeL 5 (v := ?vt15) rfl (some 238) rfl (by decide) (by kernel_rfl) (by kernel_rfl) (by kernel_rfl) (by kernel_rfl) (fun _ _ _ h => h) (Or.inl ⟨by rfl, ?ht15⟩) hS0 ?rt15
                    case ht15 => (intro y hy; go_simp; with_reducible rfl)
                    simp only [Act.put, List.setIfInBounds_toArray, List.set_cons_zero, List.set_cons_succ]
                    refine readyL (rs := [6]) (by kernel_rfl) (by simp) ?_
                    refine ReadyL.cons rfl (fun K hK => ?_) ReadyL.nil
                    go_simp
                    refine hK.out _ _ (fun _ => hS0) (fun _ => ?_)
                    clear hK K
                    refine readyL (rs := [7]) (by kernel_rfl) (by simp) ?_
                    refine ReadyL.cons rfl (fun K hK => ?_) ReadyL.nil
                    go_simp
                    refine hK.out _ _ (fun _ => hS0) (fun _ => ?_)
                    clear hK K
                    refine readyL (rs := [8]) (by kernel_rfl) (by simp) ?_
                    refine ReadyL.cons rfl (fun K hK => ?_) ReadyL.nil
                    have c1 := hS0.1
                    have f1 := hS0.2
                    go_simp
                    refine hK.out _ _ (fun h => absurd rfl h) (fun _ => ?_)
                    clear hK K
                    refine doneL (by kernel_rfl) ?_ _
                    go_wp2_with fail
                    go_roundw
                    case rel => exact ⟨q + 1, by omega, by go_num, (HN3.out _).1, (HN3.out _).2⟩
                    case measure => simp [intOf]; omega
                  · have hlq : ¬ (q : Int) < (r'.length : Int) := by omega
                    go_wp2_with fail
                    go_roundw
                    case rel => exact ⟨m + 1, r', by omega, by omega, by go_num, E.out.narrow _ _ _ _ hRq (fun k hk => by cases hk)⟩
                    case measure => simp [intOf]; omega
        · go_wp2_with (first | (refine wpList_load_mid rfl 37 _ rfl b0 (off + m * 34) (by simp [Act.eval]) OP _ hrng Try.underlying37 rfl h37 ?_) | (refine store_box rfl 37 _ _ rfl wr.heap.size OP.toArray rfl rfl 37 z37.toArray hgA h37a h37z h37o wr hbA ?_; intro w2 rO hb2; obtain ⟨cK, cB, rH, hB2, hS2, hcB2⟩ := HP2.out w2 rO hb2) | (at_builtin; refine append_by rfl _ _ rfl rfl rfl hS2 hl2 ?_; intro gi gicap w3 hownI hb3; have hin3 := HIN.out w2 hb2 gi gicap w3 hownI hb3; have hR3 := hin3.1; have hgi3 := hin3.2.1; have hgi2 := hin3.2.2; have cK3 := cell_below cK hb3; have cB3 := cell_below cB hb3; have hs2 := hb2.size; have hs3 := hb3.size; have hsI := Sl.ofOwn hownI; have hob : wr.heap.size ≠ xb := (by omega); clear hin3 cK cB hcB2))
          have hw3d : Below w3.heap.size w3 w3.drew := (Below.refl _ _).drew
          have hS3 : w3.drew.cell? ⟨wr.heap.size, 1, none⟩ = some (.slice am (fb m).length cpm) := cB3
          have C14 := E.out.sum w3.drew _ (fb m) (hsI.below hw3d) hlen
          have hgid : gi < w3.drew.heap.size := hgi3
          clear cK3 cB3
          go_region_held3 (fun y => y.cell? ⟨wr.heap.size, 1, none⟩ = some (.slice am (fb m).length cpm)) (assumption) (first | (go_at_call_of 14 gi; refine C14.mono ?_; rintro ev w4 ⟨rfl, hb4⟩; have hS4 : w4.cell? ⟨wr.heap.size, 1, none⟩ = some (.slice am (fb m).length cpm) := cell_below hS3 hb4; have hs4 := hb4.size; have C13 := E.out.take _ r w4 _ (fb m) (E.out.keep _ _ _ _ (E.out.keep _ _ _ _ hR3 hw3d) hb4) (fun k hk => by omega) ((hsI.below hw3d).below hb4) hlen; clear C14) | (go_at_call 13; refine C13.mono ?_; rintro ev w5 ⟨e, code, rfl, hT5, hR5, hf5⟩; have hS5 : w5.cell? ⟨wr.heap.size, 1, none⟩ = some (.slice am (fb m).length cpm) := hf5.cell hob hS4; have hs5 := hf5.size; have C14b := E.out.sum w5 _ (fb m) (HSW.out.below (E.out.below1 _ _ _ _ _ hR5)) hlen; clear C13) | (go_at_call_of 14 am; refine C14b.mono ?_; rintro ev w6 ⟨rfl, hb6⟩; have hS6 : w6.cell? ⟨wr.heap.size, 1, none⟩ = some (.slice am (fb m).length cpm) := cell_below hS5 hb6; have hs6 := hb6.size; have C15 := E.out.rtake _ r w6 _ (fb m) code (E.out.keep1 _ _ _ _ _ _ hR5 hb6) (fun k hk => by omega) HSW.out hlen; clear C14b) | (go_at_call 15; refine C15.mono ?_; rintro ev w7 ⟨rfl, ⟨r', hR7⟩, hT7, hf7⟩; have hS7 : w7.cell? ⟨wr.heap.size, 1, none⟩ = some (.slice am (fb m).length cpm) := hf7.cell hob hS6; have CI := is_any w7 e code 0 (code : Int) 0 (Tell.is (hT7 e (hT5.below hb6))) rfl rfl; clear C15) | (go_at_call 12; refine CI.mono ?_; rintro ev w8 ⟨rfl, hb8⟩; have hS8 : w8.cell? ⟨wr.heap.size, 1, none⟩ = some (.slice am (fb m).length cpm) := cell_below hS7 hb8; clear CI))
          go_wp2_with fail
          have HB0 : Hid (Bs w8 gi (fb m).length ∧ R (fun k => k = gi) r' w8) := by
            have hne : (Value.slice (some ⟨gi, 0, none⟩) (fb m).length gicap).ownBlock ≠ some xb := fun e => by
              have := Option.some.inj e
              simp at this; omega
            have o5 := hf5.own hne (own_past (own_past hownI hw3d) hb4)
            have o7 := hf7.own hne (own_past o5 hb6)
            exact ⟨bs_own (own_past o7 hb8) rfl, E.out.keep _ _ _ _ hR7 hb8⟩
          generalize hWR : wr = wA at *
          clear hWR
          have hgiw : w.heap.size ≤ gi := by have := (E.out.below _ _ _ HR.out).size; omega
          clear hR7 hf5 hf7 hb2 hb3 hb4 hb6 hb8 hS3 hS4 hS5 hS6 hS7 hS8 hownI hT5 hT7 hR5 hR3 hsI hS2 rO rH hB2 HIN HP2 hgA hbA hrng h37 h37a h37z h37o HOP hw3d
          as_aux_lemma =>
            go_loopw [21] (fun i wi => ∃ j : Nat, j ≤ (fb m).length ∧ i = .int .i64 j ∧ Bs wi gi (fb m).length ∧ R (fun k => k = gi) r' wi) (fun i _ => (fb m).length - (intOf i).toNat)
            case atStart => exact ⟨0, by omega, rfl, HB0.out.1, HB0.out.2⟩
            case round =>
              obtain ⟨j, hj, rfl, hbs, hRj⟩ := hrel
              clear HB0
              by_cases hjl : j < (fb m).length
              · have hlj : (j : Int) < ((fb m).length : Int) := by omega
                have HN : Hid (∀ z, Bs (wr.setCell ⟨gi, j, none⟩ (.int .u8 z)) gi (fb m).length ∧ R (fun k => k = gi) r' (wr.setCell ⟨gi, j, none⟩ (.int .u8 z))) := fun z => ⟨bs_set hbs hjl, E.out.turn _ _ _ _ hRj (fun k hk _ => Below.heap_setCell _ _ _ _ hk) ((E.out.below _ _ _ hRj).setCell (p := ⟨gi, j, none⟩) hgiw _)⟩
                have hbj := hbs j hjl
                obtain ⟨⟨z, cz⟩, fz⟩ := hbj
                clear hbs hRj
                go_wp2_with fail
                go_roundw
                case rel => exact ⟨j + 1, by omega, by go_num, HN.out _⟩
                case measure => simp [intOf]; omega
              · have hlj : ¬ (j : Int) < ((fb m).length : Int) := by omega
                have CL := E.out.list _ _ _ hRj
                have HRf : Hid (R (fun k => k = gi ∨ wr.heap.size ≤ k) r' wr) := E.out.fresh _ _ _ hRj
                have hfew := E.out.few _ _ _ hRj
                have HKL : Hid (∀ a ∈ ks r', a.length = 32) := E.out.klen _ _ _ hRj
                have hwsz := (E.out.below _ _ _ hRj).size
                clear hbs hRj
                go_wp2_with (first | (go_at_call 20; refine CL.mono ?_; rintro ev w9 ⟨gt, capt, rfl, hct, hgt, hly, hb9⟩; clear CL))
                have HR9 : Hid (R (fun k => k = gt) r' w9) := E.out.narrow _ _ _ _ (E.out.keep _ _ _ _ HRf.out hb9) (fun k hk => .inr (by rw [hk]; exact hgt))
                have HLY : Hid (Lies w9 gt (ks r')) := hly
                obtain ⟨aos, caps, hcs, cS, _⟩ := E.out.sums _ _ _ HR9.out
                have hgtw : w.heap.size ≤ gt := by omega
                have HS9 : Hid (∀ y, Below w9.heap.size w9 y → Below w9.heap.size w9 y ∧ y.cell? ⟨xb, 1, none⟩ = some (.slice aos r'.length caps)) := fun y hy => ⟨hy, cell_below cS hy⟩
                have q0 := HS9.out w9.drew (Below.refl _ _).drew
                have J21 : Hid (∀ y, (Below w9.heap.size w9 y ∧ y.cell? ⟨xb, 1, none⟩ = some (.slice aos r'.length caps)) → Calls Try.prog 21 #[.pointer (some ⟨sb, 0, none⟩)] y fun ev w' => ev = .returned (.int .i64 (r'.length : Int)) ∧ (Below w9.heap.size w9 w' ∧ w'.cell? ⟨xb, 1, none⟩ = some (.slice aos r'.length caps))) := fun y hy => by
                  refine (E.out.count _ _ _ (E.out.keep _ _ _ _ HR9.out hy.1)).mono ?_
                  rintro ev w' ⟨rfl, rfl⟩
                  exact ⟨rfl, hy⟩
                clear hb9 hly HS9 HRf cS hgt hwsz
                go_region_held3 (fun y => Below w9.heap.size w9 y ∧ y.cell? ⟨xb, 1, none⟩ = some (.slice aos r'.length caps)) (assumption) (first | (go_at_call 21; refine (J21.out _ (by assumption)).mono ?_; rintro ev w10 ⟨rfl, hS10⟩))
                have HI9 : Hid (R (fun k => k = gt) r' w10 ∧ ∀ q', 0 ≤ q' → q' < r'.length → w10.rangeAt gt (q' * 32) (bys ((ks r').getD q' [])) ∧ w10.there gt (q' * 32) 32) := ⟨E.out.keep _ _ _ _ HR9.out hS10.1, fun q' _ hq => lies_below HLY.out hS10.1 q' (by rw [ks_len]; exact hq)⟩
                clear J21 q0 hS10 HR9 HLY
                go_wp2_with fail
                generalize hWR : wr = wB at *
                clear hWR
                go_loopw [23] (fun i wi => ∃ q : Nat, q ≤ r'.length ∧ i = .int .i64 q ∧ R (fun k => k = gt) r' wi ∧ ∀ q', q ≤ q' → q' < r'.length → wi.rangeAt gt (q' * 32) (bys ((ks r').getD q' [])) ∧ wi.there gt (q' * 32) 32) (fun i _ => r'.length - (intOf i).toNat)
                case atStart => exact ⟨0, by omega, rfl, HI9.out.1, HI9.out.2⟩
                case round =>
                  obtain ⟨q, hq, rfl, hRq, hrest⟩ := hrel
                  clear HI9
                  by_cases hqi : q < r'.length
                  · have hlq : (q : Int) < (r'.length : Int) := by omega
                    obtain ⟨aos2, caps2, hcs2, cS2, hrw⟩ := E.out.sums _ _ _ hRq
                    obtain ⟨gs, hgs, hrs⟩ := hrw q hqi
                    have hgs' : aos2 = some ⟨gs, 0, none⟩ := hgs
                    clear hgs hrw
                    subst hgs'
                    have hk32 : ((ks r').getD q []).length = 32 := HKL.out _ (by simp [List.getD, List.getElem?_eq_getElem (show q < (ks r').length by rw [ks_len]; exact hqi)])
                    obtain ⟨hrt, hth⟩ := hrest q (Nat.le_refl _) hqi
                    have hLi := info35L _ hk32
                    have he := fun y => E.out.eq y _ hk32
                    have HX := lies_turn (E := E.out) hRq hrest hgtw hk32 hqi
                    obtain ⟨z, hcz, hfz, HXN⟩ := HX
                    have HN : Hid (∀ n u, R (fun k => k = gt) r' (((wr.drewN n).drew).setCell ⟨gt, q * 32, none⟩ (.int .u8 u)) ∧ ∀ q', q + 1 ≤ q' → q' < r'.length → (((wr.drewN n).drew).setCell ⟨gt, q * 32, none⟩ (.int .u8 u)).rangeAt gt (q' * 32) (bys ((ks r').getD q' [])) ∧ (((wr.drewN n).drew).setCell ⟨gt, q * 32, none⟩ (.int .u8 u)).there gt (q' * 32) 32) := HXN
                    clear hrest hRq hth HXN
                    generalize bys ((ks r').getD q []) = L at *
                    go_wp2_with fail
                    refine wp_region_quiet_lit (by kernel_rfl) (by kernel_rfl) ?_
                    repeat (first | (refine quiet_load2 rfl 35 _ rfl gt (q * 32) ?_ (.agg L.toArray) (fun y hy => by obtain ⟨n, rfl⟩ := hy; exact load35m _ _ _ _ (range_below hrt (below_drewN (Below.refl _ _) n)) hLi) ?_; focus (simp [Act.eval]; done)) | (refine quiet_load2 rfl 35 _ rfl gs (q * 32) ?_ (.agg L.toArray) (fun y hy => by obtain ⟨n, rfl⟩ := hy; exact load35m _ _ _ _ (range_below hrs (below_drewN (Below.refl _ _) n)) hLi) ?_; focus (simp [Act.eval]; done)) | quiet_step (fail))
                    refine wpQuiet_nil ?_
                    rintro _ ⟨nq, rfl⟩
                    clear hrt hrs hLi he cS2
                    go_wp2_with fail
                    have hS00 : (wr.drewN nq).drew.cell? ⟨gt, q * 32, none⟩ = some (.int .u8 z) ∧ (wr.drewN nq).drew.frozen? ⟨gt, q * 32, none⟩ = false := ⟨hcz, hfz⟩
                    refine beginL (fun y => y.cell? ⟨gt, q * 32, none⟩ = some (.int .u8 z) ∧ y.frozen? ⟨gt, q * 32, none⟩ = false) 8 (by kernel_rfl) hS00 (fun hS0 => ?_)
                    have HN2 := fun u => HN.out nq u
                    have HN3 : Hid _ := HN2
                    clear hS00 HN HN2 hcz hfz
                    generalize (wr.drewN nq).drew = wd at *
                    refine takeL 0 (v := ?vt20) rfl (some 233) rfl (by decide) (by kernel_rfl) (by kernel_rfl) (by kernel_rfl) (by kernel_rfl) (fun _ _ _ h => h) (Or.inl ⟨by rfl, ?ht20⟩) hS0 ?rt20
                    case ht20 => (intro y hy; go_simp; with_reducible rfl)
                    simp only [Act.put, List.setIfInBounds_toArray, List.set_cons_zero, List.set_cons_succ]
                    refine takeL 1 (v := ?vt21) rfl (some 234) rfl (by decide) (by kernel_rfl) (by kernel_rfl) (by kernel_rfl) (by kernel_rfl) (fun _ _ _ h => h) (Or.inl ⟨by rfl, ?ht21⟩) hS0 ?rt21
                    case ht21 => (intro y hy; go_simp; with_reducible rfl)
                    simp only [Act.put, List.setIfInBounds_toArray, List.set_cons_zero, List.set_cons_succ]
                    refine takeL 2 (v := ?vt22) rfl (some 235) rfl (by decide) (by kernel_rfl) (by kernel_rfl) (by kernel_rfl) (by kernel_rfl) (fun _ _ _ h => h) (Or.inl ⟨by rfl, ?ht22⟩) hS0 ?rt22
                    case ht22 => (intro y hy; go_simp; with_reducible rfl)
                    simp only [Act.put, List.setIfInBounds_toArray, List.set_cons_zero, List.set_cons_succ]
                    refine takeL 3 (v := ?vt23) rfl (some 236) rfl (by decide) (by kernel_rfl) (by kernel_rfl) (by kernel_rfl) (by kernel_rfl) (fun _ _ _ h => h) (Or.inl ⟨by rfl, ?ht23⟩) hS0 ?rt23
                    case ht23 => (intro y hy; go_simp; with_reducible rfl)
                    simp only [Act.put, List.setIfInBounds_toArray, List.set_cons_zero, List.set_cons_succ]
                    refine takeL 4 (v := ?vt24) rfl (some 237) rfl (by decide) (by kernel_rfl) (by kernel_rfl) (by kernel_rfl) (by kernel_rfl) (fun _ _ _ h => h) (Or.inl ⟨by rfl, ?ht24⟩) hS0 ?rt24
                    case ht24 => (intro y hy; have c1 := hy.1; go_simp; with_reducible rfl)
                    simp only [Act.put, List.setIfInBounds_toArray, List.set_cons_zero, List.set_cons_succ]
                    refine takeL 5 (v := ?vt25) rfl (some 238) rfl (by decide) (by kernel_rfl) (by kernel_rfl) (by kernel_rfl) (by kernel_rfl) (fun _ _ _ h => h) (Or.inl ⟨by rfl, ?ht25⟩) hS0 ?rt25
                    case ht25 => (intro y hy; go_simp; with_reducible rfl)
                    simp only [Act.put, List.setIfInBounds_toArray, List.set_cons_zero, List.set_cons_succ]
                    refine readyL (rs := [6]) (by kernel_rfl) (by simp) ?_
                    refine ReadyL.cons rfl (fun K hK => ?_) ReadyL.nil
                    go_simp
                    refine hK.out _ _ (fun _ => hS0) (fun _ => ?_)
                    clear hK K
                    refine readyL (rs := [7]) (by kernel_rfl) (by simp) ?_
                    refine ReadyL.cons rfl (fun K hK => ?_) ReadyL.nil
                    go_simp
                    refine hK.out _ _ (fun _ => hS0) (fun _ => ?_)
                    clear hK K
                    refine readyL (rs := [8]) (by kernel_rfl) (by simp) ?_
                    refine ReadyL.cons rfl (fun K hK => ?_) ReadyL.nil
                    have c1 := hS0.1
                    have f1 := hS0.2
                    go_simp
                    refine hK.out _ _ (fun h => absurd rfl h) (fun _ => ?_)
                    clear hK K
                    refine doneL (by kernel_rfl) ?_ _
                    go_wp2_with fail
                    go_roundw
                    case rel => exact ⟨q + 1, by omega, by go_num, (HN3.out _).1, (HN3.out _).2⟩
                    case measure => simp [intOf]; omega
                  · have hlq : ¬ (q : Int) < (r'.length : Int) := by omega
                    go_wp2_with fail
                    go_roundw
                    case rel => exact ⟨m + 1, r', by omega, by omega, by go_num, E.out.narrow _ _ _ _ hRq (fun k hk => by cases hk)⟩
                    case measure => simp [intOf]; omega
        · go_wp2_with (first | (refine wpList_load_mid rfl 37 _ rfl b0 (off + m * 34) (by simp [Act.eval]) OP _ hrng Try.underlying37 rfl h37 ?_) | (refine store_box rfl 37 _ _ rfl wr.heap.size OP.toArray rfl rfl 37 z37.toArray hgA h37a h37z h37o wr hbA ?_; intro w2 rO hb2; obtain ⟨cK, cB, rH, hB2, hS2, hcB2⟩ := HP2.out w2 rO hb2) | (at_builtin; refine append_by rfl _ _ rfl rfl rfl hS2 hl2 ?_; intro gi gicap w3 hownI hb3; have hin3 := HIN.out w2 hb2 gi gicap w3 hownI hb3; have hR3 := hin3.1; have hgi3 := hin3.2.1; have hgi2 := hin3.2.2; have cK3 := cell_below cK hb3; have cB3 := cell_below cB hb3; have hs2 := hb2.size; have hs3 := hb3.size; have hsI := Sl.ofOwn hownI; have hob : wr.heap.size ≠ xb := (by omega); clear hin3 cK cB hcB2))
          have hw3d : Below w3.heap.size w3 w3.drew := (Below.refl _ _).drew
          have hLh := info35L (fh m) hh32
          obtain ⟨Lh, hLh0⟩ : ∃ Lh, bys (fh m) = Lh := ⟨_, rfl⟩
          have HLh : Hid (bys (fh m) = Lh) := hLh0
          rw [hLh0] at hLh
          have rH3 := range_below rH hb3
          rw [hLh0] at rH3
          clear hLh0
          have hS3 : w3.drew.rangeAt wr.heap.size 2 Lh ∧ w3.drew.cell? ⟨wr.heap.size, 1, none⟩ = some (.slice am (fb m).length cpm) := ⟨rH3, cB3⟩
          have hgid : gi < w3.drew.heap.size := hgi3
          have hR3d := E.out.keep _ _ _ _ hR3 hw3d
          have hsId := hsI.below hw3d
          have hownD := own_past hownI hw3d
          clear cK3 cB3 rH rH3
          by_cases heq : F (fb m) = fh m
          · have C13 := E.out.take _ r w3.drew _ (fb m) hR3d (fun k hk => by omega) hsId hlen
            rw [heq, HLh.out] at C13
            refine wp_region_held_drew (S := fun y => y.rangeAt wr.heap.size 2 Lh ∧ y.cell? ⟨wr.heap.size, 1, none⟩ = some (.slice am (fb m).length cpm)) (by kernel_rfl) hS3 (fun hHeld => ?_)
            generalize w3.drew = wd at *
            refine take_in 0 (v := ?vka0) rfl (some 168) rfl (by kernel_rfl) (by kernel_rfl) (by kernel_rfl) (fun _ _ _ h => h) (Or.inl ⟨by rfl, ?hka0⟩) (by assumption) ?rka0
            case hka0 => (intro y hy; go_simp; with_reducible rfl)
            simp only [Act.put, List.setIfInBounds_toArray, List.set_cons_zero, List.set_cons_succ]
            refine take_in 1 (v := ?vka1) rfl (some 169) rfl (by kernel_rfl) (by kernel_rfl) (by kernel_rfl) (fun _ _ _ h => h) (Or.inl ⟨by rfl, ?hka1⟩) (by assumption) ?rka1
            case hka1 => (intro y hy; go_simp; with_reducible rfl)
            simp only [Act.put, List.setIfInBounds_toArray, List.set_cons_zero, List.set_cons_succ]
            refine take_in 2 (v := .agg Lh.toArray) rfl (some 170) rfl (by kernel_rfl) (by kernel_rfl) (by kernel_rfl) (fun _ _ _ h => h) (yieldsIf_load_mid (by rfl) 35 _ rfl wr.heap.size 2 rfl Lh _ (fun y hy => hy.1) Try.underlying35 rfl hLh) (by assumption) ?_
            simp only [Act.put, List.setIfInBounds_toArray, List.set_cons_zero, List.set_cons_succ]
            refine take_in 3 (v := ?vka3) rfl (some 171) rfl (by kernel_rfl) (by kernel_rfl) (by kernel_rfl) (fun _ _ _ h => h) (Or.inl ⟨by rfl, ?hka3⟩) (by assumption) ?rka3
            case hka3 => (intro y hy; go_simp; with_reducible rfl)
            simp only [Act.put, List.setIfInBounds_toArray, List.set_cons_zero, List.set_cons_succ]
            refine take_in 5 (v := ?vka5) rfl (some 173) rfl (by kernel_rfl) (by kernel_rfl) (by kernel_rfl) (fun _ _ _ h => h) (Or.inl ⟨by rfl, ?hka5⟩) (by assumption) ?rka5
            case hka5 => (intro y hy; go_simp; with_reducible rfl)
            simp only [Act.put, List.setIfInBounds_toArray, List.set_cons_zero, List.set_cons_succ]
            refine take_in 6 (v := ?vka6) rfl (some 174) rfl (by kernel_rfl) (by kernel_rfl) (by kernel_rfl) (fun _ _ _ h => h) (Or.inl ⟨by rfl, ?hka6⟩) (by assumption) ?rka6
            case hka6 => (intro y hy; go_simp; with_reducible rfl)
            simp only [Act.put, List.setIfInBounds_toArray, List.set_cons_zero, List.set_cons_succ]
            refine take_in 7 (v := .agg Lh.toArray) rfl (some 175) rfl (by kernel_rfl) (by kernel_rfl) (by kernel_rfl) (fun _ _ _ h => h) (yieldsIf_load_mid (by rfl) 35 _ rfl wr.heap.size 2 rfl Lh _ (fun y hy => hy.1) Try.underlying35 rfl hLh) (by assumption) ?_
            simp only [Act.put, List.setIfInBounds_toArray, List.set_cons_zero, List.set_cons_succ]
            refine take_in 8 (v := ?vka8) rfl (some 176) rfl (by kernel_rfl) (by kernel_rfl) (by kernel_rfl) (fun _ _ _ h => h) (Or.inl ⟨by rfl, ?hka8⟩) (by assumption) ?rka8
            case hka8 => (intro y hy; go_simp; with_reducible rfl)
            simp only [Act.put, List.setIfInBounds_toArray, List.set_cons_zero, List.set_cons_succ]
            refine take_in 9 (v := ?vka9) rfl (some 177) rfl (by kernel_rfl) (by kernel_rfl) (by kernel_rfl) (fun _ _ _ h => h) (Or.inl ⟨by rfl, ?hka9⟩) (by assumption) ?rka9
            case hka9 => (intro y hy; have c1 := hy.2; go_simp; with_reducible rfl)
            simp only [Act.put, List.setIfInBounds_toArray, List.set_cons_zero, List.set_cons_succ]
            refine wpAnyH_ready (rs := [4]) (by kernel_rfl) (by simp) ?_
            refine AllReadyH.cons rfl (fun K hK => ?_) AllReadyH.nil
            go_simp
            go_wp2_with (first | (go_at_call 13; refine C13.mono ?_; rintro ev w5 ⟨e, code, rfl, hT5, hR5, hf5⟩; have hS5 : w5.rangeAt wr.heap.size 2 Lh ∧ w5.cell? ⟨wr.heap.size, 1, none⟩ = some (.slice am (fb m).length cpm) := ⟨fun j u hj => hf5.cell hob (hS3.1 j u hj), hf5.cell hob hS3.2⟩; have hs5 := hf5.size; have C15 := E.out.rtake _ r w5 _ (fb m) code hR5 (fun k hk => by omega) HSW.out hlen; rw [heq, HLh.out] at C15; clear C13))
            refine hK.out _ _ (by assumption) (fun _ => ?_)
            clear hK K
            refine wpAnyH_ready (rs := [10]) (by kernel_rfl) (by simp) ?_
            refine AllReadyH.cons rfl (fun K hK => ?_) AllReadyH.nil
            go_simp
            go_wp2_with (first | (go_at_call 15; refine C15.mono ?_; rintro ev w7 ⟨rfl, ⟨r', hR7⟩, hT7, hf7⟩; have hS7 : w7.rangeAt wr.heap.size 2 Lh ∧ w7.cell? ⟨wr.heap.size, 1, none⟩ = some (.slice am (fb m).length cpm) := ⟨fun j u hj => hf7.cell hob (hS5.1 j u hj), hf7.cell hob hS5.2⟩; have CI := is_any w7 e code 0 (code : Int) 0 (Tell.is (hT7 e hT5)) rfl rfl; clear C15))
            refine hK.out _ _ (by assumption) (fun _ => ?_)
            clear hK K
            refine wpAnyH_ready (rs := [11]) (by kernel_rfl) (by simp) ?_
            refine AllReadyH.cons rfl (fun K hK => ?_) AllReadyH.nil
            go_simp
            go_wp2_with (first | (go_at_call 12; refine CI.mono ?_; rintro ev w8 ⟨rfl, hb8⟩; have hS8 : w8.rangeAt wr.heap.size 2 Lh ∧ w8.cell? ⟨wr.heap.size, 1, none⟩ = some (.slice am (fb m).length cpm) := ⟨range_below hS7.1 hb8, cell_below hS7.2 hb8⟩; clear CI))
            refine hK.out _ _ (by assumption) (fun _ => ?_)
            clear hK K
            refine take_in 12 (v := ?vka12) rfl (some 180) rfl (by kernel_rfl) (by kernel_rfl) (by kernel_rfl) (fun _ _ _ h => h) (Or.inl ⟨by rfl, ?hka12⟩) (by assumption) ?rka12
            case hka12 => (intro y hy; go_simp; with_reducible rfl)
            simp only [Act.put, List.setIfInBounds_toArray, List.set_cons_zero, List.set_cons_succ]
            refine wpAnyH_done (by kernel_rfl) ?_ _
            go_wp2_with fail
            have HB0 : Hid (Bs w8 gi (fb m).length ∧ R (fun k => k = gi) r' w8) := by
              have hne : (Value.slice (some ⟨gi, 0, none⟩) (fb m).length gicap).ownBlock ≠ some xb := fun e => by
                have := Option.some.inj e
                simp at this; omega
              have o5 := hf5.own hne hownD
              have o7 := hf7.own hne o5
              exact ⟨bs_own (own_past o7 hb8) rfl, E.out.keep _ _ _ _ hR7 hb8⟩
            generalize hWR : wr = wA at *
            clear hWR
            have hgiw : w.heap.size ≤ gi := by have := (E.out.below _ _ _ HR.out).size; omega
            clear hR7 hf5 hf7 hb2 hb3 hb8 hS3 hS5 hS7 hS8 hownI hownD hT5 hT7 hR5 hR3 hR3d hsI hsId hS2 rO hB2 HIN HP2 hgA hbA hrng h37 h37a h37z h37o HOP hw3d HLh hLh heq
            as_aux_lemma =>
              go_loopw [21] (fun i wi => ∃ j : Nat, j ≤ (fb m).length ∧ i = .int .i64 j ∧ Bs wi gi (fb m).length ∧ R (fun k => k = gi) r' wi) (fun i _ => (fb m).length - (intOf i).toNat)
              case atStart => exact ⟨0, by omega, rfl, HB0.out.1, HB0.out.2⟩
              case round =>
                obtain ⟨j, hj, rfl, hbs, hRj⟩ := hrel
                clear HB0
                by_cases hjl : j < (fb m).length
                · have hlj : (j : Int) < ((fb m).length : Int) := by omega
                  have HN : Hid (∀ z, Bs (wr.setCell ⟨gi, j, none⟩ (.int .u8 z)) gi (fb m).length ∧ R (fun k => k = gi) r' (wr.setCell ⟨gi, j, none⟩ (.int .u8 z))) := fun z => ⟨bs_set hbs hjl, E.out.turn _ _ _ _ hRj (fun k hk _ => Below.heap_setCell _ _ _ _ hk) ((E.out.below _ _ _ hRj).setCell (p := ⟨gi, j, none⟩) hgiw _)⟩
                  have hbj := hbs j hjl
                  obtain ⟨⟨z, cz⟩, fz⟩ := hbj
                  clear hbs hRj
                  go_wp2_with fail
                  go_roundw
                  case rel => exact ⟨j + 1, by omega, by go_num, HN.out _⟩
                  case measure => simp [intOf]; omega
                · have hlj : ¬ (j : Int) < ((fb m).length : Int) := by omega
                  have CL := E.out.list _ _ _ hRj
                  have HRf : Hid (R (fun k => k = gi ∨ wr.heap.size ≤ k) r' wr) := E.out.fresh _ _ _ hRj
                  have hfew := E.out.few _ _ _ hRj
                  have HKL : Hid (∀ a ∈ ks r', a.length = 32) := E.out.klen _ _ _ hRj
                  have hwsz := (E.out.below _ _ _ hRj).size
                  clear hbs hRj
                  go_wp2_with (first | (go_at_call 20; refine CL.mono ?_; rintro ev w9 ⟨gt, capt, rfl, hct, hgt, hly, hb9⟩; clear CL))
                  have HR9 : Hid (R (fun k => k = gt) r' w9) := E.out.narrow _ _ _ _ (E.out.keep _ _ _ _ HRf.out hb9) (fun k hk => .inr (by rw [hk]; exact hgt))
                  have HLY : Hid (Lies w9 gt (ks r')) := hly
                  obtain ⟨aos, caps, hcs, cS, _⟩ := E.out.sums _ _ _ HR9.out
                  have hgtw : w.heap.size ≤ gt := by omega
                  have HS9 : Hid (∀ y, Below w9.heap.size w9 y → Below w9.heap.size w9 y ∧ y.cell? ⟨xb, 1, none⟩ = some (.slice aos r'.length caps)) := fun y hy => ⟨hy, cell_below cS hy⟩
                  have q0 := HS9.out w9.drew (Below.refl _ _).drew
                  have J21 : Hid (∀ y, (Below w9.heap.size w9 y ∧ y.cell? ⟨xb, 1, none⟩ = some (.slice aos r'.length caps)) → Calls Try.prog 21 #[.pointer (some ⟨sb, 0, none⟩)] y fun ev w' => ev = .returned (.int .i64 (r'.length : Int)) ∧ (Below w9.heap.size w9 w' ∧ w'.cell? ⟨xb, 1, none⟩ = some (.slice aos r'.length caps))) := fun y hy => by
                    refine (E.out.count _ _ _ (E.out.keep _ _ _ _ HR9.out hy.1)).mono ?_
                    rintro ev w' ⟨rfl, rfl⟩
                    exact ⟨rfl, hy⟩
                  clear hb9 hly HS9 HRf cS hgt hwsz
                  go_region_held3 (fun y => Below w9.heap.size w9 y ∧ y.cell? ⟨xb, 1, none⟩ = some (.slice aos r'.length caps)) (assumption) (first | (go_at_call 21; refine (J21.out _ (by assumption)).mono ?_; rintro ev w10 ⟨rfl, hS10⟩))
                  have HI9 : Hid (R (fun k => k = gt) r' w10 ∧ ∀ q', 0 ≤ q' → q' < r'.length → w10.rangeAt gt (q' * 32) (bys ((ks r').getD q' [])) ∧ w10.there gt (q' * 32) 32) := ⟨E.out.keep _ _ _ _ HR9.out hS10.1, fun q' _ hq => lies_below HLY.out hS10.1 q' (by rw [ks_len]; exact hq)⟩
                  clear J21 q0 hS10 HR9 HLY
                  go_wp2_with fail
                  generalize hWR : wr = wB at *
                  clear hWR
                  go_loopw [23] (fun i wi => ∃ q : Nat, q ≤ r'.length ∧ i = .int .i64 q ∧ R (fun k => k = gt) r' wi ∧ ∀ q', q ≤ q' → q' < r'.length → wi.rangeAt gt (q' * 32) (bys ((ks r').getD q' [])) ∧ wi.there gt (q' * 32) 32) (fun i _ => r'.length - (intOf i).toNat)
                  case atStart => exact ⟨0, by omega, rfl, HI9.out.1, HI9.out.2⟩
                  case round =>
                    obtain ⟨q, hq, rfl, hRq, hrest⟩ := hrel
                    clear HI9
                    by_cases hqi : q < r'.length
                    · have hlq : (q : Int) < (r'.length : Int) := by omega
                      obtain ⟨aos2, caps2, hcs2, cS2, hrw⟩ := E.out.sums _ _ _ hRq
                      obtain ⟨gs, hgs, hrs⟩ := hrw q hqi
                      have hgs' : aos2 = some ⟨gs, 0, none⟩ := hgs
                      clear hgs hrw
                      subst hgs'
                      have hk32 : ((ks r').getD q []).length = 32 := HKL.out _ (by simp [List.getD, List.getElem?_eq_getElem (show q < (ks r').length by rw [ks_len]; exact hqi)])
                      obtain ⟨hrt, hth⟩ := hrest q (Nat.le_refl _) hqi
                      have hLi := info35L _ hk32
                      have he := fun y => E.out.eq y _ hk32
                      have HX := lies_turn (E := E.out) hRq hrest hgtw hk32 hqi
                      obtain ⟨z, hcz, hfz, HXN⟩ := HX
                      have HN : Hid (∀ n u, R (fun k => k = gt) r' (((wr.drewN n).drew).setCell ⟨gt, q * 32, none⟩ (.int .u8 u)) ∧ ∀ q', q + 1 ≤ q' → q' < r'.length → (((wr.drewN n).drew).setCell ⟨gt, q * 32, none⟩ (.int .u8 u)).rangeAt gt (q' * 32) (bys ((ks r').getD q' [])) ∧ (((wr.drewN n).drew).setCell ⟨gt, q * 32, none⟩ (.int .u8 u)).there gt (q' * 32) 32) := HXN
                      clear hrest hRq hth HXN
                      generalize bys ((ks r').getD q []) = L at *
                      go_wp2_with fail
                      refine wp_region_quiet_lit (by kernel_rfl) (by kernel_rfl) ?_
                      repeat (first | (refine quiet_load2 rfl 35 _ rfl gt (q * 32) ?_ (.agg L.toArray) (fun y hy => by obtain ⟨n, rfl⟩ := hy; exact load35m _ _ _ _ (range_below hrt (below_drewN (Below.refl _ _) n)) hLi) ?_; focus (simp [Act.eval]; done)) | (refine quiet_load2 rfl 35 _ rfl gs (q * 32) ?_ (.agg L.toArray) (fun y hy => by obtain ⟨n, rfl⟩ := hy; exact load35m _ _ _ _ (range_below hrs (below_drewN (Below.refl _ _) n)) hLi) ?_; focus (simp [Act.eval]; done)) | quiet_step (fail))
                      refine wpQuiet_nil ?_
                      rintro _ ⟨nq, rfl⟩
                      clear hrt hrs hLi he cS2
                      go_wp2_with fail
                      have hS00 : (wr.drewN nq).drew.cell? ⟨gt, q * 32, none⟩ = some (.int .u8 z) ∧ (wr.drewN nq).drew.frozen? ⟨gt, q * 32, none⟩ = false := ⟨hcz, hfz⟩
                      refine beginL (fun y => y.cell? ⟨gt, q * 32, none⟩ = some (.int .u8 z) ∧ y.frozen? ⟨gt, q * 32, none⟩ = false) 8 (by kernel_rfl) hS00 (fun hS0 => ?_)
                      have HN2 := fun u => HN.out nq u
                      have HN3 : Hid _ := HN2
                      clear hS00 HN HN2 hcz hfz
                      generalize (wr.drewN nq).drew = wd at *
                      refine takeL 0 (v := ?vt3a0) rfl (some 233) rfl (by decide) (by kernel_rfl) (by kernel_rfl) (by kernel_rfl) (by kernel_rfl) (fun _ _ _ h => h) (Or.inl ⟨by rfl, ?ht3a0⟩) hS0 ?rt3a0
                      case ht3a0 => (intro y hy; go_simp; with_reducible rfl)
                      simp only [Act.put, List.setIfInBounds_toArray, List.set_cons_zero, List.set_cons_succ]
                      refine takeL 1 (v := ?vt3a1) rfl (some 234) rfl (by decide) (by kernel_rfl) (by kernel_rfl) (by kernel_rfl) (by kernel_rfl) (fun _ _ _ h => h) (Or.inl ⟨by rfl, ?ht3a1⟩) hS0 ?rt3a1
                      case ht3a1 => (intro y hy; go_simp; with_reducible rfl)
                      simp only [Act.put, List.setIfInBounds_toArray, List.set_cons_zero, List.set_cons_succ]
                      refine takeL 2 (v := ?vt3a2) rfl (some 235) rfl (by decide) (by kernel_rfl) (by kernel_rfl) (by kernel_rfl) (by kernel_rfl) (fun _ _ _ h => h) (Or.inl ⟨by rfl, ?ht3a2⟩) hS0 ?rt3a2
                      case ht3a2 => (intro y hy; go_simp; with_reducible rfl)
                      simp only [Act.put, List.setIfInBounds_toArray, List.set_cons_zero, List.set_cons_succ]
                      refine takeL 3 (v := ?vt3a3) rfl (some 236) rfl (by decide) (by kernel_rfl) (by kernel_rfl) (by kernel_rfl) (by kernel_rfl) (fun _ _ _ h => h) (Or.inl ⟨by rfl, ?ht3a3⟩) hS0 ?rt3a3
                      case ht3a3 => (intro y hy; go_simp; with_reducible rfl)
                      simp only [Act.put, List.setIfInBounds_toArray, List.set_cons_zero, List.set_cons_succ]
                      refine takeL 4 (v := ?vt3a4) rfl (some 237) rfl (by decide) (by kernel_rfl) (by kernel_rfl) (by kernel_rfl) (by kernel_rfl) (fun _ _ _ h => h) (Or.inl ⟨by rfl, ?ht3a4⟩) hS0 ?rt3a4
                      case ht3a4 => (intro y hy; have c1 := hy.1; go_simp; with_reducible rfl)
                      simp only [Act.put, List.setIfInBounds_toArray, List.set_cons_zero, List.set_cons_succ]
                      refine takeL 5 (v := ?vt3a5) rfl (some 238) rfl (by decide) (by kernel_rfl) (by kernel_rfl) (by kernel_rfl) (by kernel_rfl) (fun _ _ _ h => h) (Or.inl ⟨by rfl, ?ht3a5⟩) hS0 ?rt3a5
                      case ht3a5 => (intro y hy; go_simp; with_reducible rfl)
                      simp only [Act.put, List.setIfInBounds_toArray, List.set_cons_zero, List.set_cons_succ]
                      refine readyL (rs := [6]) (by kernel_rfl) (by simp) ?_
                      refine ReadyL.cons rfl (fun K hK => ?_) ReadyL.nil
                      go_simp
                      refine hK.out _ _ (fun _ => hS0) (fun _ => ?_)
                      clear hK K
                      refine readyL (rs := [7]) (by kernel_rfl) (by simp) ?_
                      refine ReadyL.cons rfl (fun K hK => ?_) ReadyL.nil
                      go_simp
                      refine hK.out _ _ (fun _ => hS0) (fun _ => ?_)
                      clear hK K
                      refine readyL (rs := [8]) (by kernel_rfl) (by simp) ?_
                      refine ReadyL.cons rfl (fun K hK => ?_) ReadyL.nil
                      have c1 := hS0.1
                      have f1 := hS0.2
                      go_simp
                      refine hK.out _ _ (fun h => absurd rfl h) (fun _ => ?_)
                      clear hK K
                      refine doneL (by kernel_rfl) ?_ _
                      go_wp2_with fail
                      go_roundw
                      case rel => exact ⟨q + 1, by omega, by go_num, (HN3.out _).1, (HN3.out _).2⟩
                      case measure => simp [intOf]; omega
                    · have hlq : ¬ (q : Int) < (r'.length : Int) := by omega
                      go_wp2_with fail
                      go_roundw
                      case rel => exact ⟨m + 1, r', by omega, by omega, by go_num, E.out.narrow _ _ _ _ hRq (fun k hk => by cases hk)⟩
                      case measure => simp [intOf]; omega
          · have hne : F (fb m) ≠ fh m := heq
            have C13 := E.out.takeBad _ r w3.drew _ (fb m) (fh m) hR3d (fun k hk => by omega) hsId hlen hh32 hne
            rw [HLh.out] at C13
            refine wp_region_held_drew (S := fun y => y.rangeAt wr.heap.size 2 Lh ∧ y.cell? ⟨wr.heap.size, 1, none⟩ = some (.slice am (fb m).length cpm)) (by kernel_rfl) hS3 (fun hHeld => ?_)
            generalize w3.drew = wd at *
            refine take_in 0 (v := ?vkb0) rfl (some 168) rfl (by kernel_rfl) (by kernel_rfl) (by kernel_rfl) (fun _ _ _ h => h) (Or.inl ⟨by rfl, ?hkb0⟩) (by assumption) ?rkb0
            case hkb0 => (intro y hy; go_simp; with_reducible rfl)
            simp only [Act.put, List.setIfInBounds_toArray, List.set_cons_zero, List.set_cons_succ]
            refine take_in 1 (v := ?vkb1) rfl (some 169) rfl (by kernel_rfl) (by kernel_rfl) (by kernel_rfl) (fun _ _ _ h => h) (Or.inl ⟨by rfl, ?hkb1⟩) (by assumption) ?rkb1
            case hkb1 => (intro y hy; go_simp; with_reducible rfl)
            simp only [Act.put, List.setIfInBounds_toArray, List.set_cons_zero, List.set_cons_succ]
            refine take_in 2 (v := .agg Lh.toArray) rfl (some 170) rfl (by kernel_rfl) (by kernel_rfl) (by kernel_rfl) (fun _ _ _ h => h) (yieldsIf_load_mid (by rfl) 35 _ rfl wr.heap.size 2 rfl Lh _ (fun y hy => hy.1) Try.underlying35 rfl hLh) (by assumption) ?_
            simp only [Act.put, List.setIfInBounds_toArray, List.set_cons_zero, List.set_cons_succ]
            refine take_in 3 (v := ?vkb3) rfl (some 171) rfl (by kernel_rfl) (by kernel_rfl) (by kernel_rfl) (fun _ _ _ h => h) (Or.inl ⟨by rfl, ?hkb3⟩) (by assumption) ?rkb3
            case hkb3 => (intro y hy; go_simp; with_reducible rfl)
            simp only [Act.put, List.setIfInBounds_toArray, List.set_cons_zero, List.set_cons_succ]
            refine take_in 5 (v := ?vkb5) rfl (some 173) rfl (by kernel_rfl) (by kernel_rfl) (by kernel_rfl) (fun _ _ _ h => h) (Or.inl ⟨by rfl, ?hkb5⟩) (by assumption) ?rkb5
            case hkb5 => (intro y hy; go_simp; with_reducible rfl)
            simp only [Act.put, List.setIfInBounds_toArray, List.set_cons_zero, List.set_cons_succ]
            refine take_in 6 (v := ?vkb6) rfl (some 174) rfl (by kernel_rfl) (by kernel_rfl) (by kernel_rfl) (fun _ _ _ h => h) (Or.inl ⟨by rfl, ?hkb6⟩) (by assumption) ?rkb6
            case hkb6 => (intro y hy; go_simp; with_reducible rfl)
            simp only [Act.put, List.setIfInBounds_toArray, List.set_cons_zero, List.set_cons_succ]
            refine take_in 7 (v := .agg Lh.toArray) rfl (some 175) rfl (by kernel_rfl) (by kernel_rfl) (by kernel_rfl) (fun _ _ _ h => h) (yieldsIf_load_mid (by rfl) 35 _ rfl wr.heap.size 2 rfl Lh _ (fun y hy => hy.1) Try.underlying35 rfl hLh) (by assumption) ?_
            simp only [Act.put, List.setIfInBounds_toArray, List.set_cons_zero, List.set_cons_succ]
            refine take_in 8 (v := ?vkb8) rfl (some 176) rfl (by kernel_rfl) (by kernel_rfl) (by kernel_rfl) (fun _ _ _ h => h) (Or.inl ⟨by rfl, ?hkb8⟩) (by assumption) ?rkb8
            case hkb8 => (intro y hy; go_simp; with_reducible rfl)
            simp only [Act.put, List.setIfInBounds_toArray, List.set_cons_zero, List.set_cons_succ]
            refine take_in 9 (v := ?vkb9) rfl (some 177) rfl (by kernel_rfl) (by kernel_rfl) (by kernel_rfl) (fun _ _ _ h => h) (Or.inl ⟨by rfl, ?hkb9⟩) (by assumption) ?rkb9
            case hkb9 => (intro y hy; have c1 := hy.2; go_simp; with_reducible rfl)
            simp only [Act.put, List.setIfInBounds_toArray, List.set_cons_zero, List.set_cons_succ]
            refine wpAnyH_ready (rs := [4]) (by kernel_rfl) (by simp) ?_
            refine AllReadyH.cons rfl (fun K hK => ?_) AllReadyH.nil
            go_simp
            go_wp2_with (first | (go_at_call 13; refine C13.mono ?_; rintro ev w5 ⟨e, rfl, hT5, hR5, hb5⟩; have hS5 : w5.rangeAt wr.heap.size 2 Lh ∧ w5.cell? ⟨wr.heap.size, 1, none⟩ = some (.slice am (fb m).length cpm) := ⟨range_below hS3.1 hb5, cell_below hS3.2 hb5⟩; have C15 := E.out.rtakeBad _ r w5 _ (fb m) (fh m) hR5 HSW.out hlen hh32 hne; rw [HLh.out] at C15; clear C13))
            refine hK.out _ _ (by assumption) (fun _ => ?_)
            clear hK K
            refine wpAnyH_ready (rs := [10]) (by kernel_rfl) (by simp) ?_
            refine AllReadyH.cons rfl (fun K hK => ?_) AllReadyH.nil
            go_simp
            go_wp2_with (first | (go_at_call 15; refine C15.mono ?_; rintro ev w7 ⟨rfl, hR7, hb7⟩; have hS7 : w7.rangeAt wr.heap.size 2 Lh ∧ w7.cell? ⟨wr.heap.size, 1, none⟩ = some (.slice am (fb m).length cpm) := ⟨range_below hS5.1 hb7, cell_below hS5.2 hb7⟩; have CI := is_any w7 e 11 0 11 0 (Tell.is (hT5.below hb7)) rfl rfl; clear C15))
            refine hK.out _ _ (by assumption) (fun _ => ?_)
            clear hK K
            refine wpAnyH_ready (rs := [11]) (by kernel_rfl) (by simp) ?_
            refine AllReadyH.cons rfl (fun K hK => ?_) AllReadyH.nil
            go_simp
            go_wp2_with (first | (go_at_call 12; refine CI.mono ?_; rintro ev w8 ⟨rfl, hb8⟩; have hS8 : w8.rangeAt wr.heap.size 2 Lh ∧ w8.cell? ⟨wr.heap.size, 1, none⟩ = some (.slice am (fb m).length cpm) := ⟨range_below hS7.1 hb8, cell_below hS7.2 hb8⟩; clear CI))
            refine hK.out _ _ (by assumption) (fun _ => ?_)
            clear hK K
            refine take_in 12 (v := ?vkb12) rfl (some 180) rfl (by kernel_rfl) (by kernel_rfl) (by kernel_rfl) (fun _ _ _ h => h) (Or.inl ⟨by rfl, ?hkb12⟩) (by assumption) ?rkb12
            case hkb12 => (intro y hy; go_simp; with_reducible rfl)
            simp only [Act.put, List.setIfInBounds_toArray, List.set_cons_zero, List.set_cons_succ]
            refine wpAnyH_done (by kernel_rfl) ?_ _
            go_wp2_with fail
            have HB0 : Hid (Bs w8 gi (fb m).length ∧ R (fun k => k = gi) r w8) := ⟨bs_own (own_past (own_past (own_past hownD hb5) hb7) hb8) rfl, E.out.keep _ _ _ _ hR7 hb8⟩
            generalize hWR : wr = wA at *
            clear hWR
            have hgiw : w.heap.size ≤ gi := by have := (E.out.below _ _ _ HR.out).size; omega
            clear hR7 hb2 hb3 hb5 hb7 hb8 hS3 hS5 hS7 hS8 hownI hownD hT5 hR5 hR3 hR3d hsI hsId hS2 rO hB2 HIN HP2 hgA hbA hrng h37 h37a h37z h37o HOP hw3d HLh hLh heq hne
            as_aux_lemma =>
              go_loopw [21] (fun i wi => ∃ j : Nat, j ≤ (fb m).length ∧ i = .int .i64 j ∧ Bs wi gi (fb m).length ∧ R (fun k => k = gi) r wi) (fun i _ => (fb m).length - (intOf i).toNat)
              case atStart => exact ⟨0, by omega, rfl, HB0.out.1, HB0.out.2⟩
              case round =>
                obtain ⟨j, hj, rfl, hbs, hRj⟩ := hrel
                clear HB0
                by_cases hjl : j < (fb m).length
                · have hlj : (j : Int) < ((fb m).length : Int) := by omega
                  have HN : Hid (∀ z, Bs (wr.setCell ⟨gi, j, none⟩ (.int .u8 z)) gi (fb m).length ∧ R (fun k => k = gi) r (wr.setCell ⟨gi, j, none⟩ (.int .u8 z))) := fun z => ⟨bs_set hbs hjl, E.out.turn _ _ _ _ hRj (fun k hk _ => Below.heap_setCell _ _ _ _ hk) ((E.out.below _ _ _ hRj).setCell (p := ⟨gi, j, none⟩) hgiw _)⟩
                  have hbj := hbs j hjl
                  obtain ⟨⟨z, cz⟩, fz⟩ := hbj
                  clear hbs hRj
                  go_wp2_with fail
                  go_roundw
                  case rel => exact ⟨j + 1, by omega, by go_num, HN.out _⟩
                  case measure => simp [intOf]; omega
                · have hlj : ¬ (j : Int) < ((fb m).length : Int) := by omega
                  have CL := E.out.list _ _ _ hRj
                  have HRf : Hid (R (fun k => k = gi ∨ wr.heap.size ≤ k) r wr) := E.out.fresh _ _ _ hRj
                  have hfew := E.out.few _ _ _ hRj
                  have HKL : Hid (∀ a ∈ ks r, a.length = 32) := E.out.klen _ _ _ hRj
                  have hwsz := (E.out.below _ _ _ hRj).size
                  clear hbs hRj
                  go_wp2_with (first | (go_at_call 20; refine CL.mono ?_; rintro ev w9 ⟨gt, capt, rfl, hct, hgt, hly, hb9⟩; clear CL))
                  have HR9 : Hid (R (fun k => k = gt) r w9) := E.out.narrow _ _ _ _ (E.out.keep _ _ _ _ HRf.out hb9) (fun k hk => .inr (by rw [hk]; exact hgt))
                  have HLY : Hid (Lies w9 gt (ks r)) := hly
                  obtain ⟨aos, caps, hcs, cS, _⟩ := E.out.sums _ _ _ HR9.out
                  have hgtw : w.heap.size ≤ gt := by omega
                  have HS9 : Hid (∀ y, Below w9.heap.size w9 y → Below w9.heap.size w9 y ∧ y.cell? ⟨xb, 1, none⟩ = some (.slice aos r.length caps)) := fun y hy => ⟨hy, cell_below cS hy⟩
                  have q0 := HS9.out w9.drew (Below.refl _ _).drew
                  have J21 : Hid (∀ y, (Below w9.heap.size w9 y ∧ y.cell? ⟨xb, 1, none⟩ = some (.slice aos r.length caps)) → Calls Try.prog 21 #[.pointer (some ⟨sb, 0, none⟩)] y fun ev w' => ev = .returned (.int .i64 (r.length : Int)) ∧ (Below w9.heap.size w9 w' ∧ w'.cell? ⟨xb, 1, none⟩ = some (.slice aos r.length caps))) := fun y hy => by
                    refine (E.out.count _ _ _ (E.out.keep _ _ _ _ HR9.out hy.1)).mono ?_
                    rintro ev w' ⟨rfl, rfl⟩
                    exact ⟨rfl, hy⟩
                  clear hb9 hly HS9 HRf cS hgt hwsz
                  go_region_held3 (fun y => Below w9.heap.size w9 y ∧ y.cell? ⟨xb, 1, none⟩ = some (.slice aos r.length caps)) (assumption) (first | (go_at_call 21; refine (J21.out _ (by assumption)).mono ?_; rintro ev w10 ⟨rfl, hS10⟩))
                  have HI9 : Hid (R (fun k => k = gt) r w10 ∧ ∀ q', 0 ≤ q' → q' < r.length → w10.rangeAt gt (q' * 32) (bys ((ks r).getD q' [])) ∧ w10.there gt (q' * 32) 32) := ⟨E.out.keep _ _ _ _ HR9.out hS10.1, fun q' _ hq => lies_below HLY.out hS10.1 q' (by rw [ks_len]; exact hq)⟩
                  clear J21 q0 hS10 HR9 HLY
                  go_wp2_with fail
                  generalize hWR : wr = wB at *
                  clear hWR
                  go_loopw [23] (fun i wi => ∃ q : Nat, q ≤ r.length ∧ i = .int .i64 q ∧ R (fun k => k = gt) r wi ∧ ∀ q', q ≤ q' → q' < r.length → wi.rangeAt gt (q' * 32) (bys ((ks r).getD q' [])) ∧ wi.there gt (q' * 32) 32) (fun i _ => r.length - (intOf i).toNat)
                  case atStart => exact ⟨0, by omega, rfl, HI9.out.1, HI9.out.2⟩
                  case round =>
                    obtain ⟨q, hq, rfl, hRq, hrest⟩ := hrel
                    clear HI9
                    by_cases hqi : q < r.length
                    · have hlq : (q : Int) < (r.length : Int) := by omega
                      obtain ⟨aos2, caps2, hcs2, cS2, hrw⟩ := E.out.sums _ _ _ hRq
                      obtain ⟨gs, hgs, hrs⟩ := hrw q hqi
                      have hgs' : aos2 = some ⟨gs, 0, none⟩ := hgs
                      clear hgs hrw
                      subst hgs'
                      have hk32 : ((ks r).getD q []).length = 32 := HKL.out _ (by simp [List.getD, List.getElem?_eq_getElem (show q < (ks r).length by rw [ks_len]; exact hqi)])
                      obtain ⟨hrt, hth⟩ := hrest q (Nat.le_refl _) hqi
                      have hLi := info35L _ hk32
                      have he := fun y => E.out.eq y _ hk32
                      have HX := lies_turn (E := E.out) hRq hrest hgtw hk32 hqi
                      obtain ⟨z, hcz, hfz, HXN⟩ := HX
                      have HN : Hid (∀ n u, R (fun k => k = gt) r (((wr.drewN n).drew).setCell ⟨gt, q * 32, none⟩ (.int .u8 u)) ∧ ∀ q', q + 1 ≤ q' → q' < r.length → (((wr.drewN n).drew).setCell ⟨gt, q * 32, none⟩ (.int .u8 u)).rangeAt gt (q' * 32) (bys ((ks r).getD q' [])) ∧ (((wr.drewN n).drew).setCell ⟨gt, q * 32, none⟩ (.int .u8 u)).there gt (q' * 32) 32) := HXN
                      clear hrest hRq hth HXN
                      generalize bys ((ks r).getD q []) = L at *
                      go_wp2_with fail
                      refine wp_region_quiet_lit (by kernel_rfl) (by kernel_rfl) ?_
                      repeat (first | (refine quiet_load2 rfl 35 _ rfl gt (q * 32) ?_ (.agg L.toArray) (fun y hy => by obtain ⟨n, rfl⟩ := hy; exact load35m _ _ _ _ (range_below hrt (below_drewN (Below.refl _ _) n)) hLi) ?_; focus (simp [Act.eval]; done)) | (refine quiet_load2 rfl 35 _ rfl gs (q * 32) ?_ (.agg L.toArray) (fun y hy => by obtain ⟨n, rfl⟩ := hy; exact load35m _ _ _ _ (range_below hrs (below_drewN (Below.refl _ _) n)) hLi) ?_; focus (simp [Act.eval]; done)) | quiet_step (fail))
                      refine wpQuiet_nil ?_
                      rintro _ ⟨nq, rfl⟩
                      clear hrt hrs hLi he cS2
                      go_wp2_with fail
                      have hS00 : (wr.drewN nq).drew.cell? ⟨gt, q * 32, none⟩ = some (.int .u8 z) ∧ (wr.drewN nq).drew.frozen? ⟨gt, q * 32, none⟩ = false := ⟨hcz, hfz⟩
                      refine beginL (fun y => y.cell? ⟨gt, q * 32, none⟩ = some (.int .u8 z) ∧ y.frozen? ⟨gt, q * 32, none⟩ = false) 8 (by kernel_rfl) hS00 (fun hS0 => ?_)
                      have HN2 := fun u => HN.out nq u
                      have HN3 : Hid _ := HN2
                      clear hS00 HN HN2 hcz hfz
                      generalize (wr.drewN nq).drew = wd at *
                      refine takeL 0 (v := ?vt3b0) rfl (some 233) rfl (by decide) (by kernel_rfl) (by kernel_rfl) (by kernel_rfl) (by kernel_rfl) (fun _ _ _ h => h) (Or.inl ⟨by rfl, ?ht3b0⟩) hS0 ?rt3b0
                      case ht3b0 => (intro y hy; go_simp; with_reducible rfl)
                      simp only [Act.put, List.setIfInBounds_toArray, List.set_cons_zero, List.set_cons_succ]
                      refine takeL 1 (v := ?vt3b1) rfl (some 234) rfl (by decide) (by kernel_rfl) (by kernel_rfl) (by kernel_rfl) (by kernel_rfl) (fun _ _ _ h => h) (Or.inl ⟨by rfl, ?ht3b1⟩) hS0 ?rt3b1
                      case ht3b1 => (intro y hy; go_simp; with_reducible rfl)
                      simp only [Act.put, List.setIfInBounds_toArray, List.set_cons_zero, List.set_cons_succ]
                      refine takeL 2 (v := ?vt3b2) rfl (some 235) rfl (by decide) (by kernel_rfl) (by kernel_rfl) (by kernel_rfl) (by kernel_rfl) (fun _ _ _ h => h) (Or.inl ⟨by rfl, ?ht3b2⟩) hS0 ?rt3b2
                      case ht3b2 => (intro y hy; go_simp; with_reducible rfl)
                      simp only [Act.put, List.setIfInBounds_toArray, List.set_cons_zero, List.set_cons_succ]
                      refine takeL 3 (v := ?vt3b3) rfl (some 236) rfl (by decide) (by kernel_rfl) (by kernel_rfl) (by kernel_rfl) (by kernel_rfl) (fun _ _ _ h => h) (Or.inl ⟨by rfl, ?ht3b3⟩) hS0 ?rt3b3
                      case ht3b3 => (intro y hy; go_simp; with_reducible rfl)
                      simp only [Act.put, List.setIfInBounds_toArray, List.set_cons_zero, List.set_cons_succ]
                      refine takeL 4 (v := ?vt3b4) rfl (some 237) rfl (by decide) (by kernel_rfl) (by kernel_rfl) (by kernel_rfl) (by kernel_rfl) (fun _ _ _ h => h) (Or.inl ⟨by rfl, ?ht3b4⟩) hS0 ?rt3b4
                      case ht3b4 => (intro y hy; have c1 := hy.1; go_simp; with_reducible rfl)
                      simp only [Act.put, List.setIfInBounds_toArray, List.set_cons_zero, List.set_cons_succ]
                      refine takeL 5 (v := ?vt3b5) rfl (some 238) rfl (by decide) (by kernel_rfl) (by kernel_rfl) (by kernel_rfl) (by kernel_rfl) (fun _ _ _ h => h) (Or.inl ⟨by rfl, ?ht3b5⟩) hS0 ?rt3b5
                      case ht3b5 => (intro y hy; go_simp; with_reducible rfl)
                      simp only [Act.put, List.setIfInBounds_toArray, List.set_cons_zero, List.set_cons_succ]
                      refine readyL (rs := [6]) (by kernel_rfl) (by simp) ?_
                      refine ReadyL.cons rfl (fun K hK => ?_) ReadyL.nil
                      go_simp
                      refine hK.out _ _ (fun _ => hS0) (fun _ => ?_)
                      clear hK K
                      refine readyL (rs := [7]) (by kernel_rfl) (by simp) ?_
                      refine ReadyL.cons rfl (fun K hK => ?_) ReadyL.nil
                      go_simp
                      refine hK.out _ _ (fun _ => hS0) (fun _ => ?_)
                      clear hK K
                      refine readyL (rs := [8]) (by kernel_rfl) (by simp) ?_
                      refine ReadyL.cons rfl (fun K hK => ?_) ReadyL.nil
                      have c1 := hS0.1
                      have f1 := hS0.2
                      go_simp
                      refine hK.out _ _ (fun h => absurd rfl h) (fun _ => ?_)
                      clear hK K
                      refine doneL (by kernel_rfl) ?_ _
                      go_wp2_with fail
                      go_roundw
                      case rel => exact ⟨q + 1, by omega, by go_num, (HN3.out _).1, (HN3.out _).2⟩
                      case measure => simp [intOf]; omega
                    · have hlq : ¬ (q : Int) < (r.length : Int) := by omega
                      go_wp2_with fail
                      go_roundw
                      case rel => exact ⟨m + 1, r, by omega, by omega, by go_num, E.out.narrow _ _ _ _ hRq (fun k hk => by cases hk)⟩
                      case measure => simp [intOf]; omega
        · have hLh := info35L (fh m) hh32
          have hHa := size35 (fh m) hh32
          have hHo : (bys (fh m)).toArray.all (·.oneCell') = true := all_one (bys_one _)
          have hHz : z25.toArray.size = (bys (fh m)).toArray.size := by rw [List.size_toArray, List.size_toArray, bys_len, hh32]; rfl
          have hFa := size35 (F (fb m)) (E.out.len _)
          have hFo : (bys (F (fb m))).toArray.all (·.oneCell') = true := all_one (bys_one _)
          have hFz : (bys (fh m)).toArray.size = (bys (F (fb m))).toArray.size := by rw [List.size_toArray, List.size_toArray, bys_len, bys_len, hh32, E.out.len]
          obtain ⟨bq, codeq, hGq⟩ := E.out.got r (F (fb m))
          have HG : Hid (Gots r (F (fb m)) bq codeq) := hGq
          have h32q : (F (fb m)).length = 32 := E.out.len _
          have hbql := E.out.gotlen _ r _ _ _ _ HR.out hGq
          clear hGq
          go_wp2_with (first | (refine wpList_load_mid rfl 37 _ rfl b0 (off + m * 34) (by simp [Act.eval]) OP _ hrng Try.underlying37 rfl h37 ?_) | (refine store_box rfl 37 _ _ rfl wr.heap.size OP.toArray rfl rfl 37 z37.toArray hgA h37a h37z h37o wr hbA ?_; intro w2 rO hb2; obtain ⟨cK, cB, rH, hB2, hS2, hcB2⟩ := HP2.out w2 rO hb2) | (at_builtin; refine append_by rfl _ _ rfl rfl rfl hS2 hl2 ?_; intro gi gicap w3 hownI hb3; have hin3 := HIN.out w2 hb2 gi gicap w3 hownI hb3; have hR3 := hin3.1; have hgi3 := hin3.2.1; have hgi2 := hin3.2.2; have cK3 := cell_below cK hb3; have cB3 := cell_below cB hb3; have hs2 := hb2.size; have hs3 := hb3.size; have hsI := Sl.ofOwn hownI; have hob : wr.heap.size ≠ xb := (by omega); clear hin3 cK cB hcB2; have rH3 := range_below rH hb3; have hgA3 := heap_alloc_new w3 (.cells z25.toArray 35); have hbA3 : Below w3.heap.size w3 (w3.alloc (.cells z25.toArray 35)) := (Below.refl _ _).alloc (Nat.le_refl _) _) | (refine wpList_load_mid rfl 35 _ rfl wr.heap.size 2 rfl (bys (fh m)) _ rH3 Try.underlying35 rfl hLh ?_) | (refine store_box rfl 35 _ _ rfl w3.heap.size (bys (fh m)).toArray rfl rfl 35 z25.toArray hgA3 hHa hHz hHo w3 hbA3 ?_; intro w4 rX4 hb4; have cK4 := cell_below cK3 hb4; have cB4 := cell_below cB3 hb4; clear hgA3 hbA3; have C14 := E.out.sum w4 _ (fb m) (HSW.out.below ((hB2.trans (hb3.mono hB2.size)).trans (hb4.mono (hB2.trans (hb3.mono hB2.size)).size))) hlen) | (go_at_call 14; refine C14.mono ?_; rintro ev w5 ⟨rfl, hb5⟩; have rX5 := (hb5.block w3.heap.size (Array.getElem?_eq_some_iff.1 rX4).1).trans rX4; have hb35 := hb4.trans (hb5.mono hb4.size); clear C14) | (refine store_box rfl 35 _ _ rfl w3.heap.size (bys (F (fb m))).toArray rfl rfl 35 (bys (fh m)).toArray rX5 hFa hFz hFo w3 hb35 ?_; intro w6 rX6 hb6; have hR6 := E.out.keep _ _ _ _ hR3 hb6; have C16 := E.out.get _ r w6 (F (fb m)) bq codeq hR6 h32q HG.out) | (refine wpList_load_row rfl 35 _ rfl w3.heap.size rfl 35 (bys (F (fb m))).toArray (0, 0) _ rX6 Try.underlying35 rfl hFa ?_) | (go_at_call 16; refine C16.mono ?_; rintro ev w7 ⟨vr, e, rfl, ho7, hT7, hb7⟩; have rX7 := (hb7.block w3.heap.size (Array.getElem?_eq_some_iff.1 rX6).1).trans rX6; have C17 := E.out.rget _ r w7 (F (fb m)) bq codeq (E.out.keep _ _ _ _ hR6 hb7) h32q HG.out; clear C16) | (refine wpList_load_row rfl 35 _ rfl w3.heap.size rfl 35 (bys (F (fb m))).toArray (0, 0) _ rX7 Try.underlying35 rfl hFa ?_) | (go_at_call 17; refine C17.mono ?_; rintro ev w8 ⟨rfl, hb8⟩; clear C17))
          have rX8 := (hb8.block w3.heap.size (Array.getElem?_eq_some_iff.1 rX7).1).trans rX7
          have hLL := info35L (F (fb m)) h32q
          obtain ⟨aog, cpg, rfl⟩ := own_shape ho7
          have vA : ∀ y, Below w8.heap.size w8 y → (convert 33 9 (.slice aog bq.length cpg)).run Try.prog y = .ok (.string (str bq)) y := fun y hy => conv_sl y _ _ (((Sl.ofOwn ho7).below hb8).below hy)
          have HR8 : Hid (R (fun k => k = gi) r w8) := E.out.keep _ _ _ _ (E.out.keep _ _ _ _ hR6 hb7) hb8
          have hgiw : w.heap.size ≤ gi := by have := (E.out.below _ _ _ HR.out).size; omega
          have hs6 := hb6.size
          have hs7 := hb7.size
          have HAO : Hid (∀ g, (Value.slice aog bq.length cpg).ownBlock = some g → w6.heap.size ≤ g) := fun g e => (ho7.lt g e).1
          have HA8 : Hid (∀ y, Below w8.heap.size w8 y → (∀ g, aog = some ⟨g, 0, none⟩ → Bs y g bq.length) ∧ Bs y gi (fb m).length ∧ R (fun k => k = gi ∨ (Value.slice aog bq.length cpg).ownBlock = some k) r y ∧ (0 < bq.length → ∃ g, aog = some ⟨g, 0, none⟩ ∧ bq.length ≤ cpg ∧ w.heap.size ≤ g ∧ g ≠ gi)) := fun y hy => by
            have hw6 : Below w.heap.size w w6 := E.out.below _ _ _ hR6
            refine ⟨fun g eg => ?_, ?_, ?_, fun h0 => ?_⟩
            · subst eg
              exact bs_own (own_past (own_past ho7 hb8) hy) rfl
            · exact bs_own (own_past (own_past (own_past (own_past hownI hb6) hb7) hb8) hy) rfl
            · refine E.out.narrow _ _ _ _ (E.out.keep _ _ _ _ (E.out.keep _ _ _ _ (E.out.keep _ _ _ _ (E.out.fresh _ _ _ hR6) hb7) hb8) hy) (fun k hk => ?_)
              rcases hk with hk | hk
              · exact .inl hk
              · exact .inr (HAO.out k hk)
            · rcases ho7.2 with ⟨_, h1⟩ | ⟨g, cap', cur, e2, hB, _, hc, _⟩
              · omega
              · cases e2
                have h6 := hw6.size
                exact ⟨g, rfl, hc, by omega, by omega⟩
          have HSB : Hid (∀ y, Below w8.heap.size w8 y → Below w8.heap.size w8 y ∧ y.rangeAt w3.heap.size 0 (bys (F (fb m)))) := fun y hy => ⟨hy, range_below (range_of rX8) hy⟩
          have q0 := HSB.out w8.drew (Below.refl _ _).drew
          have J12 : Hid (∀ y, (Below w8.heap.size w8 y ∧ y.rangeAt w3.heap.size 0 (bys (F (fb m)))) → Calls Try.prog 12 #[e, .int .i64 (codeq : Int), .int .i64 0] y fun ev w' => ev = .returned (.bool true) ∧ (Below w8.heap.size w8 w' ∧ w'.rangeAt w3.heap.size 0 (bys (F (fb m))))) := fun y hy => by
            refine (is_any y e codeq 0 (codeq : Int) 0 (Tell.is ((hT7.below hb8).below hy.1)) rfl rfl).mono ?_
            rintro ev w' ⟨rfl, hb⟩
            exact ⟨rfl, HSB.out _ (hy.1.trans (hb.mono hy.1.size))⟩
          have J18 : Hid (∀ y, (Below w8.heap.size w8 y ∧ y.rangeAt w3.heap.size 0 (bys (F (fb m)))) → Calls Try.prog 18 #[.pointer (some ⟨sb, 0, none⟩), .agg (bys (F (fb m))).toArray] y fun ev w' => ev = .returned (.bool (decide ((F (fb m)) ∈ ks r))) ∧ (Below w8.heap.size w8 w' ∧ w'.rangeAt w3.heap.size 0 (bys (F (fb m))))) := fun y hy => by
            refine (E.out.has _ r y (F (fb m)) (E.out.keep _ _ _ _ HR8.out hy.1) h32q).mono ?_
            rintro ev w' ⟨rfl, hb⟩
            exact ⟨rfl, HSB.out _ (hy.1.trans (hb.mono hy.1.size))⟩
          have J19 : Hid (∀ y, (Below w8.heap.size w8 y ∧ y.rangeAt w3.heap.size 0 (bys (F (fb m)))) → Calls Try.prog 19 #[.pointer (some ⟨xb, 0, none⟩), .agg (bys (F (fb m))).toArray] y fun ev w' => ev = .returned (.bool (decide ((F (fb m)) ∈ ks r))) ∧ (Below w8.heap.size w8 w' ∧ w'.rangeAt w3.heap.size 0 (bys (F (fb m))))) := fun y hy => by
            refine (E.out.rhas _ r y (F (fb m)) (E.out.keep _ _ _ _ HR8.out hy.1) h32q).mono ?_
            rintro ev w' ⟨rfl, hb⟩
            exact ⟨rfl, HSB.out _ (hy.1.trans (hb.mono hy.1.size))⟩
          clear HSB HR8 HAO ho7 hT7 hR6 hR3 hsI hownI hb2 hb3 hb4 hb6 hb7 hb8 rX4 rX6 rX7 rX8 HG h32q hLh hHa hHo hHz hFa hFo hFz hS2 rO rH rH3 hB2 HIN HP2 hgA hbA hrng h37 h37a h37z h37o HOP cK3 cB3 hb5 rX5 hb35 cK4 cB4
          generalize decide ((F (fb m)) ∈ ks r) = D at *
          generalize bys (F (fb m)) = LL at *
          generalize str bq = Sq at *
          refine wp_region_held_drew (S := fun y => Below w8.heap.size w8 y ∧ y.rangeAt w3.heap.size 0 LL) (by kernel_rfl) q0 (fun hHeld => ?_)
          generalize w8.drew = wd at *
          refine take_in 0 (v := ?vkg40) rfl (some 92) rfl (by kernel_rfl) (by kernel_rfl) (by kernel_rfl) (fun _ _ _ h => h) (Or.inl ⟨by rfl, ?hkg40⟩) (by assumption) ?rkg40
          case hkg40 => (intro y hy; go_simp; with_reducible rfl)
          simp only [Act.put, List.setIfInBounds_toArray, List.set_cons_zero, List.set_cons_succ]
          refine take_in 1 (v := ?vkg41) rfl (some 93) rfl (by kernel_rfl) (by kernel_rfl) (by kernel_rfl) (fun _ _ _ h => h) (Or.inl ⟨by rfl, ?hkg41⟩) (by assumption) ?rkg41
          case hkg41 => (intro y hy; have v1 := vA y hy.1; go_simp; with_reducible rfl)
          simp only [Act.put, List.setIfInBounds_toArray, List.set_cons_zero, List.set_cons_succ]
          refine take_in 2 (v := ?vkg42) rfl (some 94) rfl (by kernel_rfl) (by kernel_rfl) (by kernel_rfl) (fun _ _ _ h => h) (Or.inl ⟨by rfl, ?hkg42⟩) (by assumption) ?rkg42
          case hkg42 => (intro y hy; go_simp; with_reducible rfl)
          simp only [Act.put, List.setIfInBounds_toArray, List.set_cons_zero, List.set_cons_succ]
          refine take_in 3 (v := ?vkg43) rfl (some 95) rfl (by kernel_rfl) (by kernel_rfl) (by kernel_rfl) (fun _ _ _ h => h) (Or.inl ⟨by rfl, ?hkg43⟩) (by assumption) ?rkg43
          case hkg43 => (intro y hy; go_simp; with_reducible rfl)
          simp only [Act.put, List.setIfInBounds_toArray, List.set_cons_zero, List.set_cons_succ]
          refine take_in 4 (v := ?vkg44) rfl (some 96) rfl (by kernel_rfl) (by kernel_rfl) (by kernel_rfl) (fun _ _ _ h => h) (Or.inl ⟨by rfl, ?hkg44⟩) (by assumption) ?rkg44
          case hkg44 => (intro y hy; go_simp; with_reducible rfl)
          simp only [Act.put, List.setIfInBounds_toArray, List.set_cons_zero, List.set_cons_succ]
          refine take_in 5 (v := ?vkg45) rfl (some 97) rfl (by kernel_rfl) (by kernel_rfl) (by kernel_rfl) (fun _ _ _ h => h) (Or.inl ⟨by rfl, ?hkg45⟩) (by assumption) ?rkg45
          case hkg45 => (intro y hy; go_simp; with_reducible rfl)
          simp only [Act.put, List.setIfInBounds_toArray, List.set_cons_zero, List.set_cons_succ]
          refine take_in 6 (v := ?vkg46) rfl (some 98) rfl (by kernel_rfl) (by kernel_rfl) (by kernel_rfl) (fun _ _ _ h => h) (Or.inl ⟨by rfl, ?hkg46⟩) (by assumption) ?rkg46
          case hkg46 => (intro y hy; go_simp; with_reducible rfl)
          simp only [Act.put, List.setIfInBounds_toArray, List.set_cons_zero, List.set_cons_succ]
          refine wpAnyH_ready (rs := [7]) (by kernel_rfl) (by simp) ?_
          refine AllReadyH.cons rfl (fun K hK => ?_) AllReadyH.nil
          go_simp
          go_wp2_with (first | (go_at_call 12; refine (J12.out _ (by assumption)).mono ?_; rintro ev x1 ⟨rfl, hSx1⟩; clear J12))
          refine hK.out _ _ (by assumption) (fun _ => ?_)
          clear hK K
          refine take_in 8 (v := ?vkg48) rfl (some 100) rfl (by kernel_rfl) (by kernel_rfl) (by kernel_rfl) (fun _ _ _ h => h) (Or.inl ⟨by rfl, ?hkg48⟩) (by assumption) ?rkg48
          case hkg48 => (intro y hy; go_simp; with_reducible rfl)
          simp only [Act.put, List.setIfInBounds_toArray, List.set_cons_zero, List.set_cons_succ]
          refine take_in 9 (v := ?vkg49) rfl (some 101) rfl (by kernel_rfl) (by kernel_rfl) (by kernel_rfl) (fun _ _ _ h => h) (Or.inl ⟨by rfl, ?hkg49⟩) (by assumption) ?rkg49
          case hkg49 => (intro y hy; go_simp; with_reducible rfl)
          simp only [Act.put, List.setIfInBounds_toArray, List.set_cons_zero, List.set_cons_succ]
          refine take_in 10 (v := ?vkg410) rfl (some 102) rfl (by kernel_rfl) (by kernel_rfl) (by kernel_rfl) (fun _ _ _ h => h) (Or.inl ⟨by rfl, ?hkg410⟩) (by assumption) ?rkg410
          case hkg410 => (intro y hy; go_simp; with_reducible rfl)
          simp only [Act.put, List.setIfInBounds_toArray, List.set_cons_zero, List.set_cons_succ]
          refine take_in 11 (v := ?vkg411) rfl (some 103) rfl (by kernel_rfl) (by kernel_rfl) (by kernel_rfl) (fun _ _ _ h => h) (Or.inl ⟨by rfl, ?hkg411⟩) (by assumption) ?rkg411
          case hkg411 => (intro y hy; go_simp; with_reducible rfl)
          simp only [Act.put, List.setIfInBounds_toArray, List.set_cons_zero, List.set_cons_succ]
          refine take_in 12 (v := .agg LL.toArray) rfl (some 104) rfl (by kernel_rfl) (by kernel_rfl) (by kernel_rfl) (fun _ _ _ h => h) (yieldsIf_load_mid (by rfl) 35 _ rfl w3.heap.size 0 rfl LL _ (fun y hy => hy.2) Try.underlying35 rfl hLL) (by assumption) ?_
          simp only [Act.put, List.setIfInBounds_toArray, List.set_cons_zero, List.set_cons_succ]
          refine take_in 14 (v := ?vkg414) rfl (some 106) rfl (by kernel_rfl) (by kernel_rfl) (by kernel_rfl) (fun _ _ _ h => h) (Or.inl ⟨by rfl, ?hkg414⟩) (by assumption) ?rkg414
          case hkg414 => (intro y hy; go_simp; with_reducible rfl)
          simp only [Act.put, List.setIfInBounds_toArray, List.set_cons_zero, List.set_cons_succ]
          refine take_in 15 (v := .agg LL.toArray) rfl (some 107) rfl (by kernel_rfl) (by kernel_rfl) (by kernel_rfl) (fun _ _ _ h => h) (yieldsIf_load_mid (by rfl) 35 _ rfl w3.heap.size 0 rfl LL _ (fun y hy => hy.2) Try.underlying35 rfl hLL) (by assumption) ?_
          simp only [Act.put, List.setIfInBounds_toArray, List.set_cons_zero, List.set_cons_succ]
          refine wpAnyH_ready (rs := [13]) (by kernel_rfl) (by simp) ?_
          refine AllReadyH.cons rfl (fun K hK => ?_) AllReadyH.nil
          go_simp
          go_wp2_with (first | (go_at_call 18; refine (J18.out _ (by assumption)).mono ?_; rintro ev x2 ⟨rfl, hSx2⟩; clear J18))
          refine hK.out _ _ (by assumption) (fun _ => ?_)
          clear hK K
          refine wpAnyH_ready (rs := [16]) (by kernel_rfl) (by simp) ?_
          refine AllReadyH.cons rfl (fun K hK => ?_) AllReadyH.nil
          go_simp
          go_wp2_with (first | (go_at_call 19; refine (J19.out _ (by assumption)).mono ?_; rintro ev x3 ⟨rfl, hSx3⟩; clear J19))
          refine hK.out _ _ (by assumption) (fun _ => ?_)
          clear hK K
          refine take_in 17 (v := ?vkg417) rfl (some 109) rfl (by kernel_rfl) (by kernel_rfl) (by kernel_rfl) (fun _ _ _ h => h) (Or.inl ⟨by rfl, ?hkg417⟩) (by assumption) ?rkg417
          case hkg417 => (intro y hy; go_simp; with_reducible rfl)
          simp only [Act.put, List.setIfInBounds_toArray, List.set_cons_zero, List.set_cons_succ]
          refine take_in 18 (v := ?vkg418) rfl (some 110) rfl (by kernel_rfl) (by kernel_rfl) (by kernel_rfl) (fun _ _ _ h => h) (Or.inl ⟨by rfl, ?hkg418⟩) (by assumption) ?rkg418
          case hkg418 => (intro y hy; go_simp; with_reducible rfl)
          simp only [Act.put, List.setIfInBounds_toArray, List.set_cons_zero, List.set_cons_succ]
          refine wpAnyH_done (by kernel_rfl) ?_ _
          clear vA hLL q0
          have HI20 := HA8.out x3 hSx3.1
          have HI2 : Hid _ := HI20
          clear HA8 HI20 hSx1 hSx2 hSx3
          go_wp2_with fail
          generalize hWR : wr = wZ at *
          clear hWR
          go_loopw [20] (fun i wi => ∃ j : Nat, j ≤ bq.length ∧ i = .int .i64 j ∧ (∀ g, aog = some ⟨g, 0, none⟩ → Bs wi g bq.length) ∧ Bs wi gi (fb m).length ∧ R (fun k => k = gi ∨ (Value.slice aog bq.length cpg).ownBlock = some k) r wi) (fun i _ => bq.length - (intOf i).toNat)
          case atStart => exact ⟨0, by omega, rfl, HI2.out.1, HI2.out.2.1, HI2.out.2.2.1⟩
          case round =>
            obtain ⟨j, hj, rfl, hba, hbs, hRj⟩ := hrel
            by_cases hjl : j < bq.length
            · have hlj : (j : Int) < (bq.length : Int) := by omega
              obtain ⟨g, hga, hgc, hgw, hgne⟩ := HI2.out.2.2.2 (by omega)
              have hga' : aog = some ⟨g, 0, none⟩ := hga
              clear hga
              subst hga'
              have HN : Hid (∀ z, (∀ g', some (⟨g, 0, none⟩ : Addr) = some ⟨g', 0, none⟩ → Bs (wr.setCell ⟨g, j, none⟩ (.int .u8 z)) g' bq.length) ∧ Bs (wr.setCell ⟨g, j, none⟩ (.int .u8 z)) gi (fb m).length ∧ R (fun k => k = gi ∨ (Value.slice (some ⟨g, 0, none⟩) bq.length cpg).ownBlock = some k) r (wr.setCell ⟨g, j, none⟩ (.int .u8 z))) := fun z => by
                refine ⟨fun g' eg => ?_, bs_other hbs hgne, E.out.turn _ _ _ _ hRj (fun k hk _ => Below.heap_setCell _ _ _ _ (fun e => hk (.inr (by rw [e]; rfl)))) ((E.out.below _ _ _ hRj).setCell (p := ⟨g, j, none⟩) hgw _)⟩
                cases eg
                exact bs_set (hba g rfl) hjl
              have hbj := hba g rfl j hjl
              obtain ⟨⟨z, cz⟩, fz⟩ := hbj
              clear hba hbs hRj
              go_wp2_with fail
              go_roundw
              case rel => exact ⟨j + 1, by omega, by go_num, (HN.out _).1, (HN.out _).2.1, (HN.out _).2.2⟩
              case measure => simp [intOf]; omega
            · have hlj : ¬ (j : Int) < (bq.length : Int) := by omega
              have HB0 : Hid (Bs wr gi (fb m).length ∧ R (fun k => k = gi) r wr) := ⟨hbs, E.out.narrow _ _ _ _ hRj (fun k hk => .inl hk)⟩
              clear hba hbs hRj HI2
              go_wp2_with fail
              generalize hWR : wr = wA at *
              clear hWR
              as_aux_lemma =>
                go_loopw [21] (fun i wi => ∃ j : Nat, j ≤ (fb m).length ∧ i = .int .i64 j ∧ Bs wi gi (fb m).length ∧ R (fun k => k = gi) r wi) (fun i _ => (fb m).length - (intOf i).toNat)
                case atStart => exact ⟨0, by omega, rfl, HB0.out.1, HB0.out.2⟩
                case round =>
                  obtain ⟨j, hj, rfl, hbs, hRj⟩ := hrel
                  clear HB0
                  by_cases hjl : j < (fb m).length
                  · have hlj : (j : Int) < ((fb m).length : Int) := by omega
                    have HN : Hid (∀ z, Bs (wr.setCell ⟨gi, j, none⟩ (.int .u8 z)) gi (fb m).length ∧ R (fun k => k = gi) r (wr.setCell ⟨gi, j, none⟩ (.int .u8 z))) := fun z => ⟨bs_set hbs hjl, E.out.turn _ _ _ _ hRj (fun k hk _ => Below.heap_setCell _ _ _ _ hk) ((E.out.below _ _ _ hRj).setCell (p := ⟨gi, j, none⟩) hgiw _)⟩
                    have hbj := hbs j hjl
                    obtain ⟨⟨z, cz⟩, fz⟩ := hbj
                    clear hbs hRj
                    go_wp2_with fail
                    go_roundw
                    case rel => exact ⟨j + 1, by omega, by go_num, HN.out _⟩
                    case measure => simp [intOf]; omega
                  · have hlj : ¬ (j : Int) < ((fb m).length : Int) := by omega
                    have CL := E.out.list _ _ _ hRj
                    have HRf : Hid (R (fun k => k = gi ∨ wr.heap.size ≤ k) r wr) := E.out.fresh _ _ _ hRj
                    have hfew := E.out.few _ _ _ hRj
                    have HKL : Hid (∀ a ∈ ks r, a.length = 32) := E.out.klen _ _ _ hRj
                    have hwsz := (E.out.below _ _ _ hRj).size
                    clear hbs hRj
                    go_wp2_with (first | (go_at_call 20; refine CL.mono ?_; rintro ev w9 ⟨gt, capt, rfl, hct, hgt, hly, hb9⟩; clear CL))
                    have HR9 : Hid (R (fun k => k = gt) r w9) := E.out.narrow _ _ _ _ (E.out.keep _ _ _ _ HRf.out hb9) (fun k hk => .inr (by rw [hk]; exact hgt))
                    have HLY : Hid (Lies w9 gt (ks r)) := hly
                    obtain ⟨aos, caps, hcs, cS, _⟩ := E.out.sums _ _ _ HR9.out
                    have hgtw : w.heap.size ≤ gt := by omega
                    have HS9 : Hid (∀ y, Below w9.heap.size w9 y → Below w9.heap.size w9 y ∧ y.cell? ⟨xb, 1, none⟩ = some (.slice aos r.length caps)) := fun y hy => ⟨hy, cell_below cS hy⟩
                    have q0 := HS9.out w9.drew (Below.refl _ _).drew
                    have J21 : Hid (∀ y, (Below w9.heap.size w9 y ∧ y.cell? ⟨xb, 1, none⟩ = some (.slice aos r.length caps)) → Calls Try.prog 21 #[.pointer (some ⟨sb, 0, none⟩)] y fun ev w' => ev = .returned (.int .i64 (r.length : Int)) ∧ (Below w9.heap.size w9 w' ∧ w'.cell? ⟨xb, 1, none⟩ = some (.slice aos r.length caps))) := fun y hy => by
                      refine (E.out.count _ _ _ (E.out.keep _ _ _ _ HR9.out hy.1)).mono ?_
                      rintro ev w' ⟨rfl, rfl⟩
                      exact ⟨rfl, hy⟩
                    clear hb9 hly HS9 HRf cS hgt hwsz
                    go_region_held3 (fun y => Below w9.heap.size w9 y ∧ y.cell? ⟨xb, 1, none⟩ = some (.slice aos r.length caps)) (assumption) (first | (go_at_call 21; refine (J21.out _ (by assumption)).mono ?_; rintro ev w10 ⟨rfl, hS10⟩))
                    have HI9 : Hid (R (fun k => k = gt) r w10 ∧ ∀ q', 0 ≤ q' → q' < r.length → w10.rangeAt gt (q' * 32) (bys ((ks r).getD q' [])) ∧ w10.there gt (q' * 32) 32) := ⟨E.out.keep _ _ _ _ HR9.out hS10.1, fun q' _ hq => lies_below HLY.out hS10.1 q' (by rw [ks_len]; exact hq)⟩
                    clear J21 q0 hS10 HR9 HLY
                    go_wp2_with fail
                    generalize hWR : wr = wB at *
                    clear hWR
                    go_loopw [23] (fun i wi => ∃ q : Nat, q ≤ r.length ∧ i = .int .i64 q ∧ R (fun k => k = gt) r wi ∧ ∀ q', q ≤ q' → q' < r.length → wi.rangeAt gt (q' * 32) (bys ((ks r).getD q' [])) ∧ wi.there gt (q' * 32) 32) (fun i _ => r.length - (intOf i).toNat)
                    case atStart => exact ⟨0, by omega, rfl, HI9.out.1, HI9.out.2⟩
                    case round =>
                      obtain ⟨q, hq, rfl, hRq, hrest⟩ := hrel
                      clear HI9
                      by_cases hqi : q < r.length
                      · have hlq : (q : Int) < (r.length : Int) := by omega
                        obtain ⟨aos2, caps2, hcs2, cS2, hrw⟩ := E.out.sums _ _ _ hRq
                        obtain ⟨gs, hgs, hrs⟩ := hrw q hqi
                        have hgs' : aos2 = some ⟨gs, 0, none⟩ := hgs
                        clear hgs hrw
                        subst hgs'
                        have hk32 : ((ks r).getD q []).length = 32 := HKL.out _ (by simp [List.getD, List.getElem?_eq_getElem (show q < (ks r).length by rw [ks_len]; exact hqi)])
                        obtain ⟨hrt, hth⟩ := hrest q (Nat.le_refl _) hqi
                        have hLi := info35L _ hk32
                        have he := fun y => E.out.eq y _ hk32
                        have HX := lies_turn (E := E.out) hRq hrest hgtw hk32 hqi
                        obtain ⟨z, hcz, hfz, HXN⟩ := HX
                        have HN : Hid (∀ n u, R (fun k => k = gt) r (((wr.drewN n).drew).setCell ⟨gt, q * 32, none⟩ (.int .u8 u)) ∧ ∀ q', q + 1 ≤ q' → q' < r.length → (((wr.drewN n).drew).setCell ⟨gt, q * 32, none⟩ (.int .u8 u)).rangeAt gt (q' * 32) (bys ((ks r).getD q' [])) ∧ (((wr.drewN n).drew).setCell ⟨gt, q * 32, none⟩ (.int .u8 u)).there gt (q' * 32) 32) := HXN
                        clear hrest hRq hth HXN
                        generalize bys ((ks r).getD q []) = L at *
                        go_wp2_with fail
                        refine wp_region_quiet_lit (by kernel_rfl) (by kernel_rfl) ?_
                        repeat (first | (refine quiet_load2 rfl 35 _ rfl gt (q * 32) ?_ (.agg L.toArray) (fun y hy => by obtain ⟨n, rfl⟩ := hy; exact load35m _ _ _ _ (range_below hrt (below_drewN (Below.refl _ _) n)) hLi) ?_; focus (simp [Act.eval]; done)) | (refine quiet_load2 rfl 35 _ rfl gs (q * 32) ?_ (.agg L.toArray) (fun y hy => by obtain ⟨n, rfl⟩ := hy; exact load35m _ _ _ _ (range_below hrs (below_drewN (Below.refl _ _) n)) hLi) ?_; focus (simp [Act.eval]; done)) | quiet_step (fail))
                        refine wpQuiet_nil ?_
                        rintro _ ⟨nq, rfl⟩
                        clear hrt hrs hLi he cS2
                        go_wp2_with fail
                        have hS00 : (wr.drewN nq).drew.cell? ⟨gt, q * 32, none⟩ = some (.int .u8 z) ∧ (wr.drewN nq).drew.frozen? ⟨gt, q * 32, none⟩ = false := ⟨hcz, hfz⟩
                        refine beginL (fun y => y.cell? ⟨gt, q * 32, none⟩ = some (.int .u8 z) ∧ y.frozen? ⟨gt, q * 32, none⟩ = false) 8 (by kernel_rfl) hS00 (fun hS0 => ?_)
                        have HN2 := fun u => HN.out nq u
                        have HN3 : Hid _ := HN2
                        clear hS00 HN HN2 hcz hfz
                        generalize (wr.drewN nq).drew = wd at *
                        refine takeL 0 (v := ?vt4g0) rfl (some 233) rfl (by decide) (by kernel_rfl) (by kernel_rfl) (by kernel_rfl) (by kernel_rfl) (fun _ _ _ h => h) (Or.inl ⟨by rfl, ?ht4g0⟩) hS0 ?rt4g0
                        case ht4g0 => (intro y hy; go_simp; with_reducible rfl)
                        simp only [Act.put, List.setIfInBounds_toArray, List.set_cons_zero, List.set_cons_succ]
                        refine takeL 1 (v := ?vt4g1) rfl (some 234) rfl (by decide) (by kernel_rfl) (by kernel_rfl) (by kernel_rfl) (by kernel_rfl) (fun _ _ _ h => h) (Or.inl ⟨by rfl, ?ht4g1⟩) hS0 ?rt4g1
                        case ht4g1 => (intro y hy; go_simp; with_reducible rfl)
                        simp only [Act.put, List.setIfInBounds_toArray, List.set_cons_zero, List.set_cons_succ]
                        refine takeL 2 (v := ?vt4g2) rfl (some 235) rfl (by decide) (by kernel_rfl) (by kernel_rfl) (by kernel_rfl) (by kernel_rfl) (fun _ _ _ h => h) (Or.inl ⟨by rfl, ?ht4g2⟩) hS0 ?rt4g2
                        case ht4g2 => (intro y hy; go_simp; with_reducible rfl)
                        simp only [Act.put, List.setIfInBounds_toArray, List.set_cons_zero, List.set_cons_succ]
                        refine takeL 3 (v := ?vt4g3) rfl (some 236) rfl (by decide) (by kernel_rfl) (by kernel_rfl) (by kernel_rfl) (by kernel_rfl) (fun _ _ _ h => h) (Or.inl ⟨by rfl, ?ht4g3⟩) hS0 ?rt4g3
                        case ht4g3 => (intro y hy; go_simp; with_reducible rfl)
                        simp only [Act.put, List.setIfInBounds_toArray, List.set_cons_zero, List.set_cons_succ]
                        refine takeL 4 (v := ?vt4g4) rfl (some 237) rfl (by decide) (by kernel_rfl) (by kernel_rfl) (by kernel_rfl) (by kernel_rfl) (fun _ _ _ h => h) (Or.inl ⟨by rfl, ?ht4g4⟩) hS0 ?rt4g4
                        case ht4g4 => (intro y hy; have c1 := hy.1; go_simp; with_reducible rfl)
                        simp only [Act.put, List.setIfInBounds_toArray, List.set_cons_zero, List.set_cons_succ]
                        refine takeL 5 (v := ?vt4g5) rfl (some 238) rfl (by decide) (by kernel_rfl) (by kernel_rfl) (by kernel_rfl) (by kernel_rfl) (fun _ _ _ h => h) (Or.inl ⟨by rfl, ?ht4g5⟩) hS0 ?rt4g5
                        case ht4g5 => (intro y hy; go_simp; with_reducible rfl)
                        simp only [Act.put, List.setIfInBounds_toArray, List.set_cons_zero, List.set_cons_succ]
                        refine readyL (rs := [6]) (by kernel_rfl) (by simp) ?_
                        refine ReadyL.cons rfl (fun K hK => ?_) ReadyL.nil
                        go_simp
                        refine hK.out _ _ (fun _ => hS0) (fun _ => ?_)
                        clear hK K
                        refine readyL (rs := [7]) (by kernel_rfl) (by simp) ?_
                        refine ReadyL.cons rfl (fun K hK => ?_) ReadyL.nil
                        go_simp
                        refine hK.out _ _ (fun _ => hS0) (fun _ => ?_)
                        clear hK K
                        refine readyL (rs := [8]) (by kernel_rfl) (by simp) ?_
                        refine ReadyL.cons rfl (fun K hK => ?_) ReadyL.nil
                        have c1 := hS0.1
                        have f1 := hS0.2
                        go_simp
                        refine hK.out _ _ (fun h => absurd rfl h) (fun _ => ?_)
                        clear hK K
                        refine doneL (by kernel_rfl) ?_ _
                        go_wp2_with fail
                        go_roundw
                        case rel => exact ⟨q + 1, by omega, by go_num, (HN3.out _).1, (HN3.out _).2⟩
                        case measure => simp [intOf]; omega
                      · have hlq : ¬ (q : Int) < (r.length : Int) := by omega
                        go_wp2_with fail
                        go_roundw
                        case rel => exact ⟨m + 1, r, by omega, by omega, by go_num, E.out.narrow _ _ _ _ hRq (fun k hk => by cases hk)⟩
                        case measure => simp [intOf]; omega
        · have hLh := info35L (fh m) hh32
          have hHa := size35 (fh m) hh32
          have hHo : (bys (fh m)).toArray.all (·.oneCell') = true := all_one (bys_one _)
          have hHz : z25.toArray.size = (bys (fh m)).toArray.size := by rw [List.size_toArray, List.size_toArray, bys_len, hh32]; rfl
          have hFa := size35 (F (fb m)) (E.out.len _)
          have hFo : (bys (F (fb m))).toArray.all (·.oneCell') = true := all_one (bys_one _)
          have hFz : (bys (fh m)).toArray.size = (bys (F (fb m))).toArray.size := by rw [List.size_toArray, List.size_toArray, bys_len, bys_len, hh32, E.out.len]
          obtain ⟨bq, codeq, hGq⟩ := E.out.got r (fh m)
          have HG : Hid (Gots r (fh m) bq codeq) := hGq
          have h32q : (fh m).length = 32 := hh32
          have hbql := E.out.gotlen _ r _ _ _ _ HR.out hGq
          clear hGq
          go_wp2_with (first | (refine wpList_load_mid rfl 37 _ rfl b0 (off + m * 34) (by simp [Act.eval]) OP _ hrng Try.underlying37 rfl h37 ?_) | (refine store_box rfl 37 _ _ rfl wr.heap.size OP.toArray rfl rfl 37 z37.toArray hgA h37a h37z h37o wr hbA ?_; intro w2 rO hb2; obtain ⟨cK, cB, rH, hB2, hS2, hcB2⟩ := HP2.out w2 rO hb2) | (at_builtin; refine append_by rfl _ _ rfl rfl rfl hS2 hl2 ?_; intro gi gicap w3 hownI hb3; have hin3 := HIN.out w2 hb2 gi gicap w3 hownI hb3; have hR3 := hin3.1; have hgi3 := hin3.2.1; have hgi2 := hin3.2.2; have cK3 := cell_below cK hb3; have cB3 := cell_below cB hb3; have hs2 := hb2.size; have hs3 := hb3.size; have hsI := Sl.ofOwn hownI; have hob : wr.heap.size ≠ xb := (by omega); clear hin3 cK cB hcB2; have rH3 := range_below rH hb3; have hgA3 := heap_alloc_new w3 (.cells z25.toArray 35); have hbA3 : Below w3.heap.size w3 (w3.alloc (.cells z25.toArray 35)) := (Below.refl _ _).alloc (Nat.le_refl _) _) | (refine wpList_load_mid rfl 35 _ rfl wr.heap.size 2 rfl (bys (fh m)) _ rH3 Try.underlying35 rfl hLh ?_) | (refine store_box rfl 35 _ _ rfl w3.heap.size (bys (fh m)).toArray rfl rfl 35 z25.toArray hgA3 hHa hHz hHo w3 hbA3 ?_; intro w4 rX4 hb4; have cK4 := cell_below cK3 hb4; have cB4 := cell_below cB3 hb4; clear hgA3 hbA3; have w6e : w4 = w4 := rfl; have rX6 := rX4; have hb6 := hb4; have hR6 := E.out.keep _ _ _ _ hR3 hb6; have C16 := E.out.get _ r w4 (fh m) bq codeq hR6 h32q HG.out; clear w6e) | (refine wpList_load_row rfl 35 _ rfl w3.heap.size rfl 35 (bys (fh m)).toArray (0, 0) _ rX6 Try.underlying35 rfl hHa ?_) | (go_at_call 16; refine C16.mono ?_; rintro ev w7 ⟨vr, e, rfl, ho7, hT7, hb7⟩; have rX7 := (hb7.block w3.heap.size (Array.getElem?_eq_some_iff.1 rX6).1).trans rX6; have C17 := E.out.rget _ r w7 (fh m) bq codeq (E.out.keep _ _ _ _ hR6 hb7) h32q HG.out; clear C16) | (refine wpList_load_row rfl 35 _ rfl w3.heap.size rfl 35 (bys (fh m)).toArray (0, 0) _ rX7 Try.underlying35 rfl hHa ?_) | (go_at_call 17; refine C17.mono ?_; rintro ev w8 ⟨rfl, hb8⟩; clear C17))
          have rX8 := (hb8.block w3.heap.size (Array.getElem?_eq_some_iff.1 rX7).1).trans rX7
          have hLL := info35L (fh m) h32q
          obtain ⟨aog, cpg, rfl⟩ := own_shape ho7
          have vA : ∀ y, Below w8.heap.size w8 y → (convert 33 9 (.slice aog bq.length cpg)).run Try.prog y = .ok (.string (str bq)) y := fun y hy => conv_sl y _ _ (((Sl.ofOwn ho7).below hb8).below hy)
          have HR8 : Hid (R (fun k => k = gi) r w8) := E.out.keep _ _ _ _ (E.out.keep _ _ _ _ hR6 hb7) hb8
          have hgiw : w.heap.size ≤ gi := by have := (E.out.below _ _ _ HR.out).size; omega
          have hs6 := hb6.size
          have hs7 := hb7.size
          have HAO : Hid (∀ g, (Value.slice aog bq.length cpg).ownBlock = some g → w4.heap.size ≤ g) := fun g e => (ho7.lt g e).1
          have HA8 : Hid (∀ y, Below w8.heap.size w8 y → (∀ g, aog = some ⟨g, 0, none⟩ → Bs y g bq.length) ∧ Bs y gi (fb m).length ∧ R (fun k => k = gi ∨ (Value.slice aog bq.length cpg).ownBlock = some k) r y ∧ (0 < bq.length → ∃ g, aog = some ⟨g, 0, none⟩ ∧ bq.length ≤ cpg ∧ w.heap.size ≤ g ∧ g ≠ gi)) := fun y hy => by
            have hw6 : Below w.heap.size w w4 := E.out.below _ _ _ hR6
            refine ⟨fun g eg => ?_, ?_, ?_, fun h0 => ?_⟩
            · subst eg
              exact bs_own (own_past (own_past ho7 hb8) hy) rfl
            · exact bs_own (own_past (own_past (own_past (own_past hownI hb6) hb7) hb8) hy) rfl
            · refine E.out.narrow _ _ _ _ (E.out.keep _ _ _ _ (E.out.keep _ _ _ _ (E.out.keep _ _ _ _ (E.out.fresh _ _ _ hR6) hb7) hb8) hy) (fun k hk => ?_)
              rcases hk with hk | hk
              · exact .inl hk
              · exact .inr (HAO.out k hk)
            · rcases ho7.2 with ⟨_, h1⟩ | ⟨g, cap', cur, e2, hB, _, hc, _⟩
              · omega
              · cases e2
                have h6 := hw6.size
                exact ⟨g, rfl, hc, by omega, by omega⟩
          have HSB : Hid (∀ y, Below w8.heap.size w8 y → Below w8.heap.size w8 y ∧ y.rangeAt w3.heap.size 0 (bys (fh m))) := fun y hy => ⟨hy, range_below (range_of rX8) hy⟩
          have q0 := HSB.out w8.drew (Below.refl _ _).drew
          have J12 : Hid (∀ y, (Below w8.heap.size w8 y ∧ y.rangeAt w3.heap.size 0 (bys (fh m))) → Calls Try.prog 12 #[e, .int .i64 (codeq : Int), .int .i64 0] y fun ev w' => ev = .returned (.bool true) ∧ (Below w8.heap.size w8 w' ∧ w'.rangeAt w3.heap.size 0 (bys (fh m)))) := fun y hy => by
            refine (is_any y e codeq 0 (codeq : Int) 0 (Tell.is ((hT7.below hb8).below hy.1)) rfl rfl).mono ?_
            rintro ev w' ⟨rfl, hb⟩
            exact ⟨rfl, HSB.out _ (hy.1.trans (hb.mono hy.1.size))⟩
          have J18 : Hid (∀ y, (Below w8.heap.size w8 y ∧ y.rangeAt w3.heap.size 0 (bys (fh m))) → Calls Try.prog 18 #[.pointer (some ⟨sb, 0, none⟩), .agg (bys (fh m)).toArray] y fun ev w' => ev = .returned (.bool (decide ((fh m) ∈ ks r))) ∧ (Below w8.heap.size w8 w' ∧ w'.rangeAt w3.heap.size 0 (bys (fh m)))) := fun y hy => by
            refine (E.out.has _ r y (fh m) (E.out.keep _ _ _ _ HR8.out hy.1) h32q).mono ?_
            rintro ev w' ⟨rfl, hb⟩
            exact ⟨rfl, HSB.out _ (hy.1.trans (hb.mono hy.1.size))⟩
          have J19 : Hid (∀ y, (Below w8.heap.size w8 y ∧ y.rangeAt w3.heap.size 0 (bys (fh m))) → Calls Try.prog 19 #[.pointer (some ⟨xb, 0, none⟩), .agg (bys (fh m)).toArray] y fun ev w' => ev = .returned (.bool (decide ((fh m) ∈ ks r))) ∧ (Below w8.heap.size w8 w' ∧ w'.rangeAt w3.heap.size 0 (bys (fh m)))) := fun y hy => by
            refine (E.out.rhas _ r y (fh m) (E.out.keep _ _ _ _ HR8.out hy.1) h32q).mono ?_
            rintro ev w' ⟨rfl, hb⟩
            exact ⟨rfl, HSB.out _ (hy.1.trans (hb.mono hy.1.size))⟩
          clear HSB HR8 HAO ho7 hT7 hR6 hR3 hsI hownI hb2 hb3 hb4 hb6 hb7 hb8 rX4 rX6 rX7 rX8 HG h32q hLh hHa hHo hHz hFa hFo hFz hS2 rO rH rH3 hB2 HIN HP2 hgA hbA hrng h37 h37a h37z h37o HOP cK3 cB3 cK4 cB4
          generalize decide ((fh m) ∈ ks r) = D at *
          generalize bys (fh m) = LL at *
          generalize str bq = Sq at *
          refine wp_region_held_drew (S := fun y => Below w8.heap.size w8 y ∧ y.rangeAt w3.heap.size 0 LL) (by kernel_rfl) q0 (fun hHeld => ?_)
          generalize w8.drew = wd at *
          refine take_in 0 (v := ?vkg50) rfl (some 92) rfl (by kernel_rfl) (by kernel_rfl) (by kernel_rfl) (fun _ _ _ h => h) (Or.inl ⟨by rfl, ?hkg50⟩) (by assumption) ?rkg50
          case hkg50 => (intro y hy; go_simp; with_reducible rfl)
          simp only [Act.put, List.setIfInBounds_toArray, List.set_cons_zero, List.set_cons_succ]
          refine take_in 1 (v := ?vkg51) rfl (some 93) rfl (by kernel_rfl) (by kernel_rfl) (by kernel_rfl) (fun _ _ _ h => h) (Or.inl ⟨by rfl, ?hkg51⟩) (by assumption) ?rkg51
          case hkg51 => (intro y hy; have v1 := vA y hy.1; go_simp; with_reducible rfl)
          simp only [Act.put, List.setIfInBounds_toArray, List.set_cons_zero, List.set_cons_succ]
          refine take_in 2 (v := ?vkg52) rfl (some 94) rfl (by kernel_rfl) (by kernel_rfl) (by kernel_rfl) (fun _ _ _ h => h) (Or.inl ⟨by rfl, ?hkg52⟩) (by assumption) ?rkg52
          case hkg52 => (intro y hy; go_simp; with_reducible rfl)
          simp only [Act.put, List.setIfInBounds_toArray, List.set_cons_zero, List.set_cons_succ]
          refine take_in 3 (v := ?vkg53) rfl (some 95) rfl (by kernel_rfl) (by kernel_rfl) (by kernel_rfl) (fun _ _ _ h => h) (Or.inl ⟨by rfl, ?hkg53⟩) (by assumption) ?rkg53
          case hkg53 => (intro y hy; go_simp; with_reducible rfl)
          simp only [Act.put, List.setIfInBounds_toArray, List.set_cons_zero, List.set_cons_succ]
          refine take_in 4 (v := ?vkg54) rfl (some 96) rfl (by kernel_rfl) (by kernel_rfl) (by kernel_rfl) (fun _ _ _ h => h) (Or.inl ⟨by rfl, ?hkg54⟩) (by assumption) ?rkg54
          case hkg54 => (intro y hy; go_simp; with_reducible rfl)
          simp only [Act.put, List.setIfInBounds_toArray, List.set_cons_zero, List.set_cons_succ]
          refine take_in 5 (v := ?vkg55) rfl (some 97) rfl (by kernel_rfl) (by kernel_rfl) (by kernel_rfl) (fun _ _ _ h => h) (Or.inl ⟨by rfl, ?hkg55⟩) (by assumption) ?rkg55
          case hkg55 => (intro y hy; go_simp; with_reducible rfl)
          simp only [Act.put, List.setIfInBounds_toArray, List.set_cons_zero, List.set_cons_succ]
          refine take_in 6 (v := ?vkg56) rfl (some 98) rfl (by kernel_rfl) (by kernel_rfl) (by kernel_rfl) (fun _ _ _ h => h) (Or.inl ⟨by rfl, ?hkg56⟩) (by assumption) ?rkg56
          case hkg56 => (intro y hy; go_simp; with_reducible rfl)
          simp only [Act.put, List.setIfInBounds_toArray, List.set_cons_zero, List.set_cons_succ]
          refine wpAnyH_ready (rs := [7]) (by kernel_rfl) (by simp) ?_
          refine AllReadyH.cons rfl (fun K hK => ?_) AllReadyH.nil
          go_simp
          go_wp2_with (first | (go_at_call 12; refine (J12.out _ (by assumption)).mono ?_; rintro ev x1 ⟨rfl, hSx1⟩; clear J12))
          refine hK.out _ _ (by assumption) (fun _ => ?_)
          clear hK K
          refine take_in 8 (v := ?vkg58) rfl (some 100) rfl (by kernel_rfl) (by kernel_rfl) (by kernel_rfl) (fun _ _ _ h => h) (Or.inl ⟨by rfl, ?hkg58⟩) (by assumption) ?rkg58
          case hkg58 => (intro y hy; go_simp; with_reducible rfl)
          simp only [Act.put, List.setIfInBounds_toArray, List.set_cons_zero, List.set_cons_succ]
          refine take_in 9 (v := ?vkg59) rfl (some 101) rfl (by kernel_rfl) (by kernel_rfl) (by kernel_rfl) (fun _ _ _ h => h) (Or.inl ⟨by rfl, ?hkg59⟩) (by assumption) ?rkg59
          case hkg59 => (intro y hy; go_simp; with_reducible rfl)
          simp only [Act.put, List.setIfInBounds_toArray, List.set_cons_zero, List.set_cons_succ]
          refine take_in 10 (v := ?vkg510) rfl (some 102) rfl (by kernel_rfl) (by kernel_rfl) (by kernel_rfl) (fun _ _ _ h => h) (Or.inl ⟨by rfl, ?hkg510⟩) (by assumption) ?rkg510
          case hkg510 => (intro y hy; go_simp; with_reducible rfl)
          simp only [Act.put, List.setIfInBounds_toArray, List.set_cons_zero, List.set_cons_succ]
          refine take_in 11 (v := ?vkg511) rfl (some 103) rfl (by kernel_rfl) (by kernel_rfl) (by kernel_rfl) (fun _ _ _ h => h) (Or.inl ⟨by rfl, ?hkg511⟩) (by assumption) ?rkg511
          case hkg511 => (intro y hy; go_simp; with_reducible rfl)
          simp only [Act.put, List.setIfInBounds_toArray, List.set_cons_zero, List.set_cons_succ]
          refine take_in 12 (v := .agg LL.toArray) rfl (some 104) rfl (by kernel_rfl) (by kernel_rfl) (by kernel_rfl) (fun _ _ _ h => h) (yieldsIf_load_mid (by rfl) 35 _ rfl w3.heap.size 0 rfl LL _ (fun y hy => hy.2) Try.underlying35 rfl hLL) (by assumption) ?_
          simp only [Act.put, List.setIfInBounds_toArray, List.set_cons_zero, List.set_cons_succ]
          refine take_in 14 (v := ?vkg514) rfl (some 106) rfl (by kernel_rfl) (by kernel_rfl) (by kernel_rfl) (fun _ _ _ h => h) (Or.inl ⟨by rfl, ?hkg514⟩) (by assumption) ?rkg514
          case hkg514 => (intro y hy; go_simp; with_reducible rfl)
          simp only [Act.put, List.setIfInBounds_toArray, List.set_cons_zero, List.set_cons_succ]
          refine take_in 15 (v := .agg LL.toArray) rfl (some 107) rfl (by kernel_rfl) (by kernel_rfl) (by kernel_rfl) (fun _ _ _ h => h) (yieldsIf_load_mid (by rfl) 35 _ rfl w3.heap.size 0 rfl LL _ (fun y hy => hy.2) Try.underlying35 rfl hLL) (by assumption) ?_
          simp only [Act.put, List.setIfInBounds_toArray, List.set_cons_zero, List.set_cons_succ]
          refine wpAnyH_ready (rs := [13]) (by kernel_rfl) (by simp) ?_
          refine AllReadyH.cons rfl (fun K hK => ?_) AllReadyH.nil
          go_simp
          go_wp2_with (first | (go_at_call 18; refine (J18.out _ (by assumption)).mono ?_; rintro ev x2 ⟨rfl, hSx2⟩; clear J18))
          refine hK.out _ _ (by assumption) (fun _ => ?_)
          clear hK K
          refine wpAnyH_ready (rs := [16]) (by kernel_rfl) (by simp) ?_
          refine AllReadyH.cons rfl (fun K hK => ?_) AllReadyH.nil
          go_simp
          go_wp2_with (first | (go_at_call 19; refine (J19.out _ (by assumption)).mono ?_; rintro ev x3 ⟨rfl, hSx3⟩; clear J19))
          refine hK.out _ _ (by assumption) (fun _ => ?_)
          clear hK K
          refine take_in 17 (v := ?vkg517) rfl (some 109) rfl (by kernel_rfl) (by kernel_rfl) (by kernel_rfl) (fun _ _ _ h => h) (Or.inl ⟨by rfl, ?hkg517⟩) (by assumption) ?rkg517
          case hkg517 => (intro y hy; go_simp; with_reducible rfl)
          simp only [Act.put, List.setIfInBounds_toArray, List.set_cons_zero, List.set_cons_succ]
          refine take_in 18 (v := ?vkg518) rfl (some 110) rfl (by kernel_rfl) (by kernel_rfl) (by kernel_rfl) (fun _ _ _ h => h) (Or.inl ⟨by rfl, ?hkg518⟩) (by assumption) ?rkg518
          case hkg518 => (intro y hy; go_simp; with_reducible rfl)
          simp only [Act.put, List.setIfInBounds_toArray, List.set_cons_zero, List.set_cons_succ]
          refine wpAnyH_done (by kernel_rfl) ?_ _
          clear vA hLL q0
          have HI20 := HA8.out x3 hSx3.1
          have HI2 : Hid _ := HI20
          clear HA8 HI20 hSx1 hSx2 hSx3
          go_wp2_with fail
          generalize hWR : wr = wZ at *
          clear hWR
          go_loopw [20] (fun i wi => ∃ j : Nat, j ≤ bq.length ∧ i = .int .i64 j ∧ (∀ g, aog = some ⟨g, 0, none⟩ → Bs wi g bq.length) ∧ Bs wi gi (fb m).length ∧ R (fun k => k = gi ∨ (Value.slice aog bq.length cpg).ownBlock = some k) r wi) (fun i _ => bq.length - (intOf i).toNat)
          case atStart => exact ⟨0, by omega, rfl, HI2.out.1, HI2.out.2.1, HI2.out.2.2.1⟩
          case round =>
            obtain ⟨j, hj, rfl, hba, hbs, hRj⟩ := hrel
            by_cases hjl : j < bq.length
            · have hlj : (j : Int) < (bq.length : Int) := by omega
              obtain ⟨g, hga, hgc, hgw, hgne⟩ := HI2.out.2.2.2 (by omega)
              have hga' : aog = some ⟨g, 0, none⟩ := hga
              clear hga
              subst hga'
              have HN : Hid (∀ z, (∀ g', some (⟨g, 0, none⟩ : Addr) = some ⟨g', 0, none⟩ → Bs (wr.setCell ⟨g, j, none⟩ (.int .u8 z)) g' bq.length) ∧ Bs (wr.setCell ⟨g, j, none⟩ (.int .u8 z)) gi (fb m).length ∧ R (fun k => k = gi ∨ (Value.slice (some ⟨g, 0, none⟩) bq.length cpg).ownBlock = some k) r (wr.setCell ⟨g, j, none⟩ (.int .u8 z))) := fun z => by
                refine ⟨fun g' eg => ?_, bs_other hbs hgne, E.out.turn _ _ _ _ hRj (fun k hk _ => Below.heap_setCell _ _ _ _ (fun e => hk (.inr (by rw [e]; rfl)))) ((E.out.below _ _ _ hRj).setCell (p := ⟨g, j, none⟩) hgw _)⟩
                cases eg
                exact bs_set (hba g rfl) hjl
              have hbj := hba g rfl j hjl
              obtain ⟨⟨z, cz⟩, fz⟩ := hbj
              clear hba hbs hRj
              go_wp2_with fail
              go_roundw
              case rel => exact ⟨j + 1, by omega, by go_num, (HN.out _).1, (HN.out _).2.1, (HN.out _).2.2⟩
              case measure => simp [intOf]; omega
            · have hlj : ¬ (j : Int) < (bq.length : Int) := by omega
              have HB0 : Hid (Bs wr gi (fb m).length ∧ R (fun k => k = gi) r wr) := ⟨hbs, E.out.narrow _ _ _ _ hRj (fun k hk => .inl hk)⟩
              clear hba hbs hRj HI2
              go_wp2_with fail
              generalize hWR : wr = wA at *
              clear hWR
              as_aux_lemma =>
                go_loopw [21] (fun i wi => ∃ j : Nat, j ≤ (fb m).length ∧ i = .int .i64 j ∧ Bs wi gi (fb m).length ∧ R (fun k => k = gi) r wi) (fun i _ => (fb m).length - (intOf i).toNat)
                case atStart => exact ⟨0, by omega, rfl, HB0.out.1, HB0.out.2⟩
                case round =>
                  obtain ⟨j, hj, rfl, hbs, hRj⟩ := hrel
                  clear HB0
                  by_cases hjl : j < (fb m).length
                  · have hlj : (j : Int) < ((fb m).length : Int) := by omega
                    have HN : Hid (∀ z, Bs (wr.setCell ⟨gi, j, none⟩ (.int .u8 z)) gi (fb m).length ∧ R (fun k => k = gi) r (wr.setCell ⟨gi, j, none⟩ (.int .u8 z))) := fun z => ⟨bs_set hbs hjl, E.out.turn _ _ _ _ hRj (fun k hk _ => Below.heap_setCell _ _ _ _ hk) ((E.out.below _ _ _ hRj).setCell (p := ⟨gi, j, none⟩) hgiw _)⟩
                    have hbj := hbs j hjl
                    obtain ⟨⟨z, cz⟩, fz⟩ := hbj
                    clear hbs hRj
                    go_wp2_with fail
                    go_roundw
                    case rel => exact ⟨j + 1, by omega, by go_num, HN.out _⟩
                    case measure => simp [intOf]; omega
                  · have hlj : ¬ (j : Int) < ((fb m).length : Int) := by omega
                    have CL := E.out.list _ _ _ hRj
                    have HRf : Hid (R (fun k => k = gi ∨ wr.heap.size ≤ k) r wr) := E.out.fresh _ _ _ hRj
                    have hfew := E.out.few _ _ _ hRj
                    have HKL : Hid (∀ a ∈ ks r, a.length = 32) := E.out.klen _ _ _ hRj
                    have hwsz := (E.out.below _ _ _ hRj).size
                    clear hbs hRj
                    go_wp2_with (first | (go_at_call 20; refine CL.mono ?_; rintro ev w9 ⟨gt, capt, rfl, hct, hgt, hly, hb9⟩; clear CL))
                    have HR9 : Hid (R (fun k => k = gt) r w9) := E.out.narrow _ _ _ _ (E.out.keep _ _ _ _ HRf.out hb9) (fun k hk => .inr (by rw [hk]; exact hgt))
                    have HLY : Hid (Lies w9 gt (ks r)) := hly
                    obtain ⟨aos, caps, hcs, cS, _⟩ := E.out.sums _ _ _ HR9.out
                    have hgtw : w.heap.size ≤ gt := by omega
                    have HS9 : Hid (∀ y, Below w9.heap.size w9 y → Below w9.heap.size w9 y ∧ y.cell? ⟨xb, 1, none⟩ = some (.slice aos r.length caps)) := fun y hy => ⟨hy, cell_below cS hy⟩
                    have q0 := HS9.out w9.drew (Below.refl _ _).drew
                    have J21 : Hid (∀ y, (Below w9.heap.size w9 y ∧ y.cell? ⟨xb, 1, none⟩ = some (.slice aos r.length caps)) → Calls Try.prog 21 #[.pointer (some ⟨sb, 0, none⟩)] y fun ev w' => ev = .returned (.int .i64 (r.length : Int)) ∧ (Below w9.heap.size w9 w' ∧ w'.cell? ⟨xb, 1, none⟩ = some (.slice aos r.length caps))) := fun y hy => by
                      refine (E.out.count _ _ _ (E.out.keep _ _ _ _ HR9.out hy.1)).mono ?_
                      rintro ev w' ⟨rfl, rfl⟩
                      exact ⟨rfl, hy⟩
                    clear hb9 hly HS9 HRf cS hgt hwsz
                    go_region_held3 (fun y => Below w9.heap.size w9 y ∧ y.cell? ⟨xb, 1, none⟩ = some (.slice aos r.length caps)) (assumption) (first | (go_at_call 21; refine (J21.out _ (by assumption)).mono ?_; rintro ev w10 ⟨rfl, hS10⟩))
                    have HI9 : Hid (R (fun k => k = gt) r w10 ∧ ∀ q', 0 ≤ q' → q' < r.length → w10.rangeAt gt (q' * 32) (bys ((ks r).getD q' [])) ∧ w10.there gt (q' * 32) 32) := ⟨E.out.keep _ _ _ _ HR9.out hS10.1, fun q' _ hq => lies_below HLY.out hS10.1 q' (by rw [ks_len]; exact hq)⟩
                    clear J21 q0 hS10 HR9 HLY
                    go_wp2_with fail
                    generalize hWR : wr = wB at *
                    clear hWR
                    go_loopw [23] (fun i wi => ∃ q : Nat, q ≤ r.length ∧ i = .int .i64 q ∧ R (fun k => k = gt) r wi ∧ ∀ q', q ≤ q' → q' < r.length → wi.rangeAt gt (q' * 32) (bys ((ks r).getD q' [])) ∧ wi.there gt (q' * 32) 32) (fun i _ => r.length - (intOf i).toNat)
                    case atStart => exact ⟨0, by omega, rfl, HI9.out.1, HI9.out.2⟩
                    case round =>
                      obtain ⟨q, hq, rfl, hRq, hrest⟩ := hrel
                      clear HI9
                      by_cases hqi : q < r.length
                      · have hlq : (q : Int) < (r.length : Int) := by omega
                        obtain ⟨aos2, caps2, hcs2, cS2, hrw⟩ := E.out.sums _ _ _ hRq
                        obtain ⟨gs, hgs, hrs⟩ := hrw q hqi
                        have hgs' : aos2 = some ⟨gs, 0, none⟩ := hgs
                        clear hgs hrw
                        subst hgs'
                        have hk32 : ((ks r).getD q []).length = 32 := HKL.out _ (by simp [List.getD, List.getElem?_eq_getElem (show q < (ks r).length by rw [ks_len]; exact hqi)])
                        obtain ⟨hrt, hth⟩ := hrest q (Nat.le_refl _) hqi
                        have hLi := info35L _ hk32
                        have he := fun y => E.out.eq y _ hk32
                        have HX := lies_turn (E := E.out) hRq hrest hgtw hk32 hqi
                        obtain ⟨z, hcz, hfz, HXN⟩ := HX
                        have HN : Hid (∀ n u, R (fun k => k = gt) r (((wr.drewN n).drew).setCell ⟨gt, q * 32, none⟩ (.int .u8 u)) ∧ ∀ q', q + 1 ≤ q' → q' < r.length → (((wr.drewN n).drew).setCell ⟨gt, q * 32, none⟩ (.int .u8 u)).rangeAt gt (q' * 32) (bys ((ks r).getD q' [])) ∧ (((wr.drewN n).drew).setCell ⟨gt, q * 32, none⟩ (.int .u8 u)).there gt (q' * 32) 32) := HXN
                        clear hrest hRq hth HXN
                        generalize bys ((ks r).getD q []) = L at *
                        go_wp2_with fail
                        refine wp_region_quiet_lit (by kernel_rfl) (by kernel_rfl) ?_
                        repeat (first | (refine quiet_load2 rfl 35 _ rfl gt (q * 32) ?_ (.agg L.toArray) (fun y hy => by obtain ⟨n, rfl⟩ := hy; exact load35m _ _ _ _ (range_below hrt (below_drewN (Below.refl _ _) n)) hLi) ?_; focus (simp [Act.eval]; done)) | (refine quiet_load2 rfl 35 _ rfl gs (q * 32) ?_ (.agg L.toArray) (fun y hy => by obtain ⟨n, rfl⟩ := hy; exact load35m _ _ _ _ (range_below hrs (below_drewN (Below.refl _ _) n)) hLi) ?_; focus (simp [Act.eval]; done)) | quiet_step (fail))
                        refine wpQuiet_nil ?_
                        rintro _ ⟨nq, rfl⟩
                        clear hrt hrs hLi he cS2
                        go_wp2_with fail
                        have hS00 : (wr.drewN nq).drew.cell? ⟨gt, q * 32, none⟩ = some (.int .u8 z) ∧ (wr.drewN nq).drew.frozen? ⟨gt, q * 32, none⟩ = false := ⟨hcz, hfz⟩
                        refine beginL (fun y => y.cell? ⟨gt, q * 32, none⟩ = some (.int .u8 z) ∧ y.frozen? ⟨gt, q * 32, none⟩ = false) 8 (by kernel_rfl) hS00 (fun hS0 => ?_)
                        have HN2 := fun u => HN.out nq u
                        have HN3 : Hid _ := HN2
                        clear hS00 HN HN2 hcz hfz
                        generalize (wr.drewN nq).drew = wd at *
                        refine takeL 0 (v := ?vt5g0) rfl (some 233) rfl (by decide) (by kernel_rfl) (by kernel_rfl) (by kernel_rfl) (by kernel_rfl) (fun _ _ _ h => h) (Or.inl ⟨by rfl, ?ht5g0⟩) hS0 ?rt5g0
                        case ht5g0 => (intro y hy; go_simp; with_reducible rfl)
                        simp only [Act.put, List.setIfInBounds_toArray, List.set_cons_zero, List.set_cons_succ]
                        refine takeL 1 (v := ?vt5g1) rfl (some 234) rfl (by decide) (by kernel_rfl) (by kernel_rfl) (by kernel_rfl) (by kernel_rfl) (fun _ _ _ h => h) (Or.inl ⟨by rfl, ?ht5g1⟩) hS0 ?rt5g1
                        case ht5g1 => (intro y hy; go_simp; with_reducible rfl)
                        simp only [Act.put, List.setIfInBounds_toArray, List.set_cons_zero, List.set_cons_succ]
                        refine takeL 2 (v := ?vt5g2) rfl (some 235) rfl (by decide) (by kernel_rfl) (by kernel_rfl) (by kernel_rfl) (by kernel_rfl) (fun _ _ _ h => h) (Or.inl ⟨by rfl, ?ht5g2⟩) hS0 ?rt5g2
                        case ht5g2 => (intro y hy; go_simp; with_reducible rfl)
                        simp only [Act.put, List.setIfInBounds_toArray, List.set_cons_zero, List.set_cons_succ]
                        refine takeL 3 (v := ?vt5g3) rfl (some 236) rfl (by decide) (by kernel_rfl) (by kernel_rfl) (by kernel_rfl) (by kernel_rfl) (fun _ _ _ h => h) (Or.inl ⟨by rfl, ?ht5g3⟩) hS0 ?rt5g3
                        case ht5g3 => (intro y hy; go_simp; with_reducible rfl)
                        simp only [Act.put, List.setIfInBounds_toArray, List.set_cons_zero, List.set_cons_succ]
                        refine takeL 4 (v := ?vt5g4) rfl (some 237) rfl (by decide) (by kernel_rfl) (by kernel_rfl) (by kernel_rfl) (by kernel_rfl) (fun _ _ _ h => h) (Or.inl ⟨by rfl, ?ht5g4⟩) hS0 ?rt5g4
                        case ht5g4 => (intro y hy; have c1 := hy.1; go_simp; with_reducible rfl)
                        simp only [Act.put, List.setIfInBounds_toArray, List.set_cons_zero, List.set_cons_succ]
                        refine takeL 5 (v := ?vt5g5) rfl (some 238) rfl (by decide) (by kernel_rfl) (by kernel_rfl) (by kernel_rfl) (by kernel_rfl) (fun _ _ _ h => h) (Or.inl ⟨by rfl, ?ht5g5⟩) hS0 ?rt5g5
                        case ht5g5 => (intro y hy; go_simp; with_reducible rfl)
                        simp only [Act.put, List.setIfInBounds_toArray, List.set_cons_zero, List.set_cons_succ]
                        refine readyL (rs := [6]) (by kernel_rfl) (by simp) ?_
                        refine ReadyL.cons rfl (fun K hK => ?_) ReadyL.nil
                        go_simp
                        refine hK.out _ _ (fun _ => hS0) (fun _ => ?_)
                        clear hK K
                        refine readyL (rs := [7]) (by kernel_rfl) (by simp) ?_
                        refine ReadyL.cons rfl (fun K hK => ?_) ReadyL.nil
                        go_simp
                        refine hK.out _ _ (fun _ => hS0) (fun _ => ?_)
                        clear hK K
                        refine readyL (rs := [8]) (by kernel_rfl) (by simp) ?_
                        refine ReadyL.cons rfl (fun K hK => ?_) ReadyL.nil
                        have c1 := hS0.1
                        have f1 := hS0.2
                        go_simp
                        refine hK.out _ _ (fun h => absurd rfl h) (fun _ => ?_)
                        clear hK K
                        refine doneL (by kernel_rfl) ?_ _
                        go_wp2_with fail
                        go_roundw
                        case rel => exact ⟨q + 1, by omega, by go_num, (HN3.out _).1, (HN3.out _).2⟩
                        case measure => simp [intOf]; omega
                      · have hlq : ¬ (q : Int) < (r.length : Int) := by omega
                        go_wp2_with fail
                        go_roundw
                        case rel => exact ⟨m + 1, r, by omega, by omega, by go_num, E.out.narrow _ _ _ _ hRq (fun k hk => by cases hk)⟩
                        case measure => simp [intOf]; omega
      · have hlen2 : (200 : Int) < ((fb m).length : Int) := by omega
        have C9 : Hid (∀ y, Calls Try.prog 9 #[] y fun ev w' => ev = .returned (.bool true) ∧ Below y.heap.size y w') := E.out.told
        go_wp2_with (first | (refine wpList_load_mid rfl 37 _ rfl b0 (off + m * 34) (by simp [Act.eval]) OP _ hrng Try.underlying37 rfl h37 ?_) | (refine store_box rfl 37 _ _ rfl wr.heap.size OP.toArray rfl rfl 37 z37.toArray hgA h37a h37z h37o wr hbA ?_; intro w2 rO hb2; obtain ⟨cK, cB, rH, hB2, hS2, hcB2⟩ := HP2.out w2 rO hb2) | (go_at_call 9; refine (C9.out _).mono ?_; rintro ev w9 ⟨rfl, hb9⟩))
        go_ret
        exact ⟨rfl, hB2.trans (hb9.mono hB2.size)⟩
    · have hBr := E.out.below _ _ _ hR
      have C9 := E.out.told wr
      by_cases hmn2 : m < n
      · have hlt1 : (m : Int) < (n : Int) := by omega
        have hlt2 : ¬ (m : Int) < 40 := by omega
        go_wp2_with (first | (go_at_call 9; refine C9.mono ?_; rintro ev w9 ⟨rfl, hb9⟩))
        go_ret
        exact ⟨rfl, hBr.trans (hb9.mono hBr.size)⟩
      · have hlt1 : ¬ (m : Int) < (n : Int) := by omega
        go_wp2_with (first | (go_at_call 9; refine C9.mono ?_; rintro ev w9 ⟨rfl, hb9⟩))
        go_ret
        exact ⟨rfl, hBr.trans (hb9.mono hBr.size)⟩
end Go.Proofs.Ytjnogpcpekheoaa
