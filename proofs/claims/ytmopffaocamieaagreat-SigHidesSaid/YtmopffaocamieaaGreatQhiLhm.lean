/-
  SigHides: the crates that are not too great.
-/
import Derived.Test.YtmopffaocamieaaGreatJhiStl2
import Derived.Test.YtmopffaocamieaaGreatJhiSsm2
import Derived.Test.YtmopffaocamieaaGreatJhiXdp2
import Derived.Test.YtmopffaocamieaaGreatJhiLas2
namespace Go.Proofs.YtmopffaocamieaaGreat
open Go.RowKit

def unpS (s : Sct) : Sct := { s with pub := false }
def unpF (f : Fnc) : Fnc := { f with pub := false }
/-- What the law makes of two crates. -/
def hidF (d : Crt) (f : Fnc) : Fnc := { f with pos := wrap64 (f.pos + 1), body := (d.funcs.head?.map (·.body)).getD [] }
def hidC (c d : Crt) : Crt := ⟨c.structs.filter (·.pub) ++ d.structs.map unpS, d.funcs.map unpF ++ (c.funcs.filter (·.pub)).map (hidF d)⟩

theorem ofC_hid (n : Nat) (c d : Crt) : ofC n (hidC c d) = ofC n c := by
  have h1 : (c.structs.filter (·.pub) ++ d.structs.map unpS).filter (·.pub) = c.structs.filter (·.pub) := by
    rw [List.filter_append, List.filter_filter, List.filter_map]
    simp [Function.comp_def, unpS]
  have h2 : (d.funcs.map unpF ++ (c.funcs.filter (·.pub)).map (hidF d)).filter (·.pub) = (c.funcs.filter (·.pub)).map (hidF d) := by
    rw [List.filter_append, List.filter_map, List.filter_map]
    simp [Function.comp_def, unpF, hidF, List.filter_filter]
  unfold ofC shown hidC bareC
  simp only [h1, h2, List.map_map]
  congr 1
set_option maxHeartbeats 16000000 in
set_option maxRecDepth 20000 in
theorem hides_main {n : Nat} {K : Ctx} {w : World} (hC : K.C ≤ w.heap.size) {c d : Crt} {cs ds : List Value} (hx : CrtAt n K w cs c) (hy : CrtAt n K w ds d) (gc : ¬ GrtC n c) (gd : ¬ GrtC n d) :
    Calls Tryz.prog 6 #[.agg cs.toArray, .agg ds.toArray] w fun ev w' => ev = .returned (.bool true) ∧ Below w.heap.size w w' := by
  have L1 : c.structs.length ≤ 300 := by rcases Nat.lt_or_ge 300 c.structs.length with h | h; exact absurd (.inl h) gc; exact h
  have L2 : c.funcs.length ≤ 300 := by rcases Nat.lt_or_ge 300 c.funcs.length with h | h; exact absurd (.inr (.inl h)) gc; exact h
  have L3 : d.structs.length ≤ 300 := by rcases Nat.lt_or_ge 300 d.structs.length with h | h; exact absurd (.inl h) gd; exact h
  have L4 : d.funcs.length ≤ 300 := by rcases Nat.lt_or_ge 300 d.funcs.length with h | h; exact absurd (.inr (.inl h)) gd; exact h
  obtain ⟨v0, v1, rfl, h0, h1⟩ := hx
  obtain ⟨z0, z1, rfl, k0, k1⟩ := hy
  obtain ⟨a0, c0, rfl, _, gb0, A0⟩ := h0.shape
  obtain ⟨a1, c1, rfl, _, gb1, A1⟩ := h1.shape
  obtain ⟨b0, e0, rfl, _, hb0, B0⟩ := k0.shape
  obtain ⟨b1, e1, rfl, _, hb1, B1⟩ := k1.shape
  clear gb0 gb1 hb0 hb1
  obtain ⟨W0, hW0⟩ : ∃ W0, W0 = (w.alloc (.cells #[.slice a0 c.structs.length c0, .slice a1 c.funcs.length c1] 25)).alloc (.cells #[.slice b0 d.structs.length e0, .slice b1 d.funcs.length e1] 25) := ⟨_, rfl⟩
  have hBW : Below w.heap.size w W0 := by rw [hW0]; exact alloc_two w _ _
  have hsz : W0.heap.size = w.heap.size + 2 := by rw [hW0, size_alloc, size_alloc]
  have R2 : Row W0 w.heap.size 25 [.slice a0 c.structs.length c0, .slice a1 c.funcs.length c1] := by rw [hW0]; exact (Row.new w 25 [.slice a0 c.structs.length c0, .slice a1 c.funcs.length c1]).alloc _
  have R3 : Row W0 (w.heap.size + 1) 25 [.slice b0 d.structs.length e0, .slice b1 d.funcs.length e1] := by
    have := Row.new (w.alloc (.cells #[.slice a0 c.structs.length c0, .slice a1 c.funcs.length c1] 25)) 25 [.slice b0 d.structs.length e0, .slice b1 d.funcs.length e1]
    rw [size_alloc] at this; rw [hW0]; exact this
  have hK := below_le hBW hC
  have HX : Hid (∀ y, Below K.C w y → CrtAt n K y [.slice a0 c.structs.length c0, .slice a1 c.funcs.length c1] c ∧ CrtAt n K y [.slice b0 d.structs.length e0, .slice b1 d.funcs.length e1] d) := fun y hb => ⟨CrtAt.below ⟨_, _, rfl, h0, h1⟩ hb, CrtAt.below ⟨_, _, rfl, k0, k1⟩ hb⟩
  have G1 : Hid (Calls Tryz.prog 8 #[.agg #[.slice a0 c.structs.length c0, .slice a1 c.funcs.length c1]] W0 fun ev w' => ev = .returned (.bool false) ∧ Below W0.heap.size W0 w') := great_any (Nat.le_trans hC hBW.size) (HX.out W0 hK).1 false ⟨fun h => (by cases h), fun h => absurd h gc⟩
  have G2 : Hid (∀ w1, Below W0.heap.size W0 w1 → Calls Tryz.prog 8 #[.agg #[.slice b0 d.structs.length e0, .slice b1 d.funcs.length e1]] w1 fun ev w' => ev = .returned (.bool false) ∧ Below W0.heap.size W0 w') := fun w1 h1 =>
    (great_any (Nat.le_trans hC (Nat.le_trans hBW.size h1.size)) (HX.out w1 (hK.trans (h1.mono (Nat.le_trans hC hBW.size)))).2 false ⟨fun h => (by cases h), fun h => absurd h gd⟩).mono fun _ _ q => ⟨q.1, h1.trans (q.2.mono h1.size)⟩
  have HR : Hid (∀ w1, Below W0.heap.size W0 w1 → w1.cell? ⟨w.heap.size + 1, 0, none⟩ = some (.slice b0 d.structs.length e0) ∧ w1.cell? ⟨w.heap.size + 1, 1, none⟩ = some (.slice b1 d.funcs.length e1)) := fun w1 h1 => ⟨(R3.below h1 R3.lt).cell 0, (R3.below h1 R3.lt).cell 1⟩
  have HW : Hid (W0 = (w.alloc (.cells #[.slice a0 c.structs.length c0, .slice a1 c.funcs.length c1] 25)).alloc (.cells #[.slice b0 d.structs.length e0, .slice b1 d.funcs.length e1] 25)) := hW0
  have HA0 : Hid (∀ i (h : i < c.structs.length), ∃ b o cs, a0 = some ⟨b, o, none⟩ ∧ b < K.C ∧ (∀ j, j < 5 → w.cell? ⟨b, o + i * 5 + j, none⟩ = cs[j]?) ∧ SctAt K w cs c.structs[i]) := by
    intro i h; obtain ⟨b, o, e, hb, cs, hl, hcs, hp⟩ := A0 i h; exact ⟨b, o, cs, e, hb, hcs, hp⟩
  have HA1 : Hid (∀ i (h : i < c.funcs.length), ∃ b o cs, a1 = some ⟨b, o, none⟩ ∧ b < K.C ∧ (∀ j, j < 10 → w.cell? ⟨b, o + i * 10 + j, none⟩ = cs[j]?) ∧ FncAt n K w cs c.funcs[i]) := by
    intro i h; obtain ⟨b, o, e, hb, cs, hl, hcs, hp⟩ := A1 i h; exact ⟨b, o, cs, e, hb, hcs, hp⟩
  have HB0 : Hid (∀ i (h : i < d.structs.length), ∃ b o cs, b0 = some ⟨b, o, none⟩ ∧ b < K.C ∧ (∀ j, j < 5 → w.cell? ⟨b, o + i * 5 + j, none⟩ = cs[j]?) ∧ SctAt K w cs d.structs[i]) := by
    intro i h; obtain ⟨b, o, e, hb, cs, hl, hcs, hp⟩ := B0 i h; exact ⟨b, o, cs, e, hb, hcs, hp⟩
  have HB1 : Hid (∀ i (h : i < d.funcs.length), ∃ b o cs, b1 = some ⟨b, o, none⟩ ∧ b < K.C ∧ (∀ j, j < 10 → w.cell? ⟨b, o + i * 10 + j, none⟩ = cs[j]?) ∧ FncAt n K w cs d.funcs[i]) := by
    intro i h; obtain ⟨b, o, e, hb, cs, hl, hcs, hp⟩ := B1 i h; exact ⟨b, o, cs, e, hb, hcs, hp⟩
  have HY : Hid (∀ w2, Below W0.heap.size W0 w2 → ∀ y, Stay (fun k => k = w2.heap.size) (w2.alloc (.cells #[.slice none 0 0, .slice none 0 0] 25)) y → Row y w.heap.size 25 [.slice a0 c.structs.length c0, .slice a1 c.funcs.length c1] ∧ Row y (w.heap.size + 1) 25 [.slice b0 d.structs.length e0, .slice b1 d.funcs.length e1] ∧ Below w.heap.size w y) := by
    intro w2 h2 y hy
    have hs := h2.size
    have q2 := (R2.below h2 R2.lt).alloc (.cells #[.slice none 0 0, .slice none 0 0] 25)
    have q3 := (R3.below h2 R3.lt).alloc (.cells #[.slice none 0 0, .slice none 0 0] 25)
    have hb : Below w.heap.size w (w2.alloc (.cells #[.slice none 0 0, .slice none 0 0] 25)) := (hBW.trans (h2.mono hBW.size)).alloc (by omega) _
    exact ⟨hy.row q2 (by omega), hy.row q3 (by omega), hb.trans (hy.below hb.size (fun k hk => by omega))⟩
  have HC := hidS hC
  clear A0 A1 B0 B1 h0 h1 k0 k1 R2 R3 gc gd hK hBW hC hW0
  go_enter Tryz.func6, Tryz.ntmps6
  go_wp2_with fail
  rw [← HW.out]
  refine G1.out.mono ?_
  rintro _ w1 ⟨rfl, hb⟩
  have D := hidS (G2.out w1 hb)
  obtain ⟨x1, x2⟩ := HR.out w1 hb
  clear G1 G2 HR hb HW
  go_wp2_with fail
  refine D.out.mono ?_
  rintro _ w2 ⟨rfl, hb⟩
  have HYY := hidS (HY.out w2 hb)
  have hs2 := hb.size
  clear D x1 x2 HY hb
  go_wp2_with fail
  have hWs : (w2.alloc (.cells #[.slice none 0 0, .slice none 0 0] 25)).heap.size = w2.heap.size + 1 := size_alloc _ _
  generalize hWB : (w2.alloc (.cells #[.slice none 0 0, .slice none 0 0] 25)) = WB at *
  have HRB : Hid (Row WB w2.heap.size 25 [.slice none 0 0, .slice none 0 0]) := hidS (by rw [← hWB]; exact Row.new w2 25 [.slice none 0 0, .slice none 0 0])
  clear hWB
  go_loopw [6] (fun i wr => ∃ (k : Nat) (v : Value), k ≤ c.structs.length ∧ i = .int .i64 k ∧ Grw 5 58 (SctAt K w) WB wr w2.heap.size (fun v => [v, .slice none 0 0]) v ((c.structs.take k).filter (·.pub))) (fun i _ => c.structs.length - (intOf i).toNat)
  case atStart => exact ⟨0, .slice none 0 0, by omega, rfl, Grw.first HRB.out⟩
  case round =>
    obtain ⟨k, v, hk, rfl, hg⟩ := hrel
    obtain ⟨r2, r3, rb⟩ := HYY.out wr hg.st
    have y2 := r2.cell 0
    simp only [List.getElem?_cons_zero] at y2
    by_cases h3 : k < c.structs.length
    · obtain ⟨b, o, cs, e, hbC, hcs, hp⟩ := HA0.out k h3
      subst e
      have hBw : Below K.C w wr := below_le rb HC.out
      have hone := hp.one
      have HP := hidS hp
      obtain ⟨a2, n2, c2, a3, n3, c3, rfl⟩ := hp.open
      have i1 : (k : Int) < (c.structs.length : Int) := by omega
      have x0 : wr.cell? ⟨b, o + k * 5, none⟩ = some (.bool (c.structs[k]).pub) := by rw [hBw.cell (p := ⟨b, o + k * 5, none⟩) hbC]; exact hcs 0 (by decide)
      have HXC : Hid (∀ y, Stay (fun k => k = w2.heap.size) WB y → y.cell? ⟨b, o + k * 5, none⟩ = some (.bool (c.structs[k]).pub) ∧ y.cell? ⟨b, o + k * 5 + 1, none⟩ = some (.string (str (c.structs[k]).name)) ∧ y.cell? ⟨b, o + k * 5 + 2, none⟩ = some (.slice a2 n2 c2) ∧ y.cell? ⟨b, o + k * 5 + 3, none⟩ = some (.slice a3 n3 c3) ∧ y.cell? ⟨b, o + k * 5 + 4, none⟩ = some (.int .i64 (c.structs[k]).pos) ∧ y.cell? ⟨w.heap.size, 0, none⟩ = some (.slice (some ⟨b, o, none⟩) c.structs.length c0)) := by
        intro y hy
        obtain ⟨q2, _, qb⟩ := HYY.out y hy
        have hBy : Below K.C w y := below_le qb HC.out
        refine ⟨?_, ?_, ?_, ?_, ?_, q2.cell 0⟩
        · rw [hBy.cell (p := ⟨b, o + k * 5, none⟩) hbC]; exact hcs 0 (by decide)
        · rw [hBy.cell (p := ⟨b, o + k * 5 + 1, none⟩) hbC]; exact hcs 1 (by decide)
        · rw [hBy.cell (p := ⟨b, o + k * 5 + 2, none⟩) hbC]; exact hcs 2 (by decide)
        · rw [hBy.cell (p := ⟨b, o + k * 5 + 3, none⟩) hbC]; exact hcs 3 (by decide)
        · rw [hBy.cell (p := ⟨b, o + k * 5 + 4, none⟩) hbC]; exact hcs 4 (by decide)
      have HL := hidS (filter_snoc (·.pub) c.structs k h3)
      have HG := hidS hg
      have hl9 : c.structs.length ≤ 9223372036854775807 := by omega
      clear hp hcs hBw hg r2 r3 rb HA0
      generalize hNM : str (c.structs[k]).name = NM at HXC HP hone
      generalize hPO : (c.structs[k]).pos = PO at HXC HP hone
      clear hNM hPO
      cases hpub : (c.structs[k]).pub with
      | false =>
        rw [hpub] at x0
        have HL2 : Hid ((c.structs.take (k + 1)).filter (·.pub) = (c.structs.take k).filter (·.pub)) := hidS (by
          have := HL.out; simp only [hpub] at this; simpa using this)
        clear HL HP hone hpub HXC
        go_wp2_with fail
        go_roundw
        case rel => exact ⟨k + 1, v, by omega, by go_num, by rw [HL2.out]; exact HG.out⟩
        case measure => simp [intOf]; omega
      | true =>
        rw [hpub] at x0 HP hone HXC
        have HL2 : Hid ((c.structs.take (k + 1)).filter (·.pub) = (c.structs.take k).filter (·.pub) ++ [c.structs[k]]) := hidS (by
          have := HL.out; simp only [hpub] at this; simpa using this)
        obtain ⟨ao, cp, rfl⟩ := HG.out.rw.form
        have hln : ((c.structs.take k).filter (·.pub)).length ≤ 1000 := Nat.le_trans (List.length_filter_le _ _) (by rw [List.length_take]; omega)
        clear HL hpub
        obtain ⟨LS, hLS⟩ : ∃ LS, LS = (c.structs.take k).filter (·.pub) := ⟨_, rfl⟩
        rw [← hLS] at HG HL2 hln
        clear hLS
        go_wp2_with fail
        have hS0 : Stay (fun k => k = w2.heap.size) WB wr.drew ∧ Row wr.drew w2.heap.size 25 [.slice ao LS.length cp, .slice none 0 0] := ⟨HG.out.st.trans (Stay.of_below ((Below.refl _ _).drew)), HG.out.row.drew⟩
        have HD : Hid (Grw 5 58 (SctAt K w) WB wr.drew w2.heap.size (fun v => [v, .slice none 0 0]) (.slice ao LS.length cp) LS) := HG.out.past ((Below.refl _ _).drew)
        refine beginL (fun y => Stay (fun k => k = w2.heap.size) WB y ∧ Row y w2.heap.size 25 [.slice ao LS.length cp, .slice none 0 0]) 10 (by kernel_rfl) hS0 (fun hS0 => ?_)
        refine takeL 0 (v := ?vq0) rfl (some 33) rfl (by decide) (by kernel_rfl) (by kernel_rfl) (by kernel_rfl) (by kernel_rfl) (fun _ _ _ h => h) (Or.inl ⟨by rfl, ?hq0⟩) hS0 ?rq0
        case hq0 => (intro y hy; go_simp; with_reducible rfl)
        try simp only [Act.put]
        try simp only [List.setIfInBounds_toArray]
        try simp only [List.set_cons_succ]
        try simp only [List.set_cons_zero]
        refine takeL 1 (v := ?vq1) rfl (some 34) rfl (by decide) (by kernel_rfl) (by kernel_rfl) (by kernel_rfl) (by kernel_rfl) (fun _ _ _ h => h) (Or.inl ⟨by rfl, ?hq1⟩) hS0 ?rq1
        case hq1 => (intro y hy; have c1 := hy.2.cell 0; simp only [List.getElem?_cons_zero] at c1; go_simp; with_reducible rfl)
        try simp only [Act.put]
        try simp only [List.setIfInBounds_toArray]
        try simp only [List.set_cons_succ]
        try simp only [List.set_cons_zero]
        refine takeL 2 (v := ?vq2) rfl (some 35) rfl (by decide) (by kernel_rfl) (by kernel_rfl) (by kernel_rfl) (by kernel_rfl) (fun _ _ _ h => h) (Or.inl ⟨by rfl, ?hq2⟩) hS0 ?rq2
        case hq2 => (intro y hy; go_simp; with_reducible rfl)
        try simp only [Act.put]
        try simp only [List.setIfInBounds_toArray]
        try simp only [List.set_cons_succ]
        try simp only [List.set_cons_zero]
        refine takeL 3 (v := ?vq3) rfl (some 36) rfl (by decide) (by kernel_rfl) (by kernel_rfl) (by kernel_rfl) (by kernel_rfl) (fun _ _ _ h => h) (Or.inl ⟨by rfl, ?hq3⟩) hS0 ?rq3
        case hq3 => (intro y hy; have c1 := (HXC.out y hy.1).2.2.2.2.2; go_simp; with_reducible rfl)
        try simp only [Act.put]
        try simp only [List.setIfInBounds_toArray]
        try simp only [List.set_cons_succ]
        try simp only [List.set_cons_zero]
        refine takeL 4 (v := ?vq4) rfl (some 37) rfl (by decide) (by kernel_rfl) (by kernel_rfl) (by kernel_rfl) (by kernel_rfl) (fun _ _ _ h => h) (Or.inl ⟨by rfl, ?hq4⟩) hS0 ?rq4
        case hq4 => (intro y hy; go_simp; with_reducible rfl)
        try simp only [Act.put]
        try simp only [List.setIfInBounds_toArray]
        try simp only [List.set_cons_succ]
        try simp only [List.set_cons_zero]
        refine takeL 5 (v := ?vq5) rfl (some 38) rfl (by decide) (by kernel_rfl) (by kernel_rfl) (by kernel_rfl) (by kernel_rfl) (fun _ _ _ h => h) (Or.inl ⟨by rfl, ?hq5⟩) hS0 ?rq5
        case hq5 => (intro y hy; go_simp; with_reducible rfl)
        try simp only [Act.put]
        try simp only [List.setIfInBounds_toArray]
        try simp only [List.set_cons_succ]
        try simp only [List.set_cons_zero]
        refine takeL 6 (v := ?vq6) rfl (some 39) rfl (by decide) (by kernel_rfl) (by kernel_rfl) (by kernel_rfl) (by kernel_rfl) (fun _ _ _ h => h) (Or.inl ⟨by rfl, ?hq6⟩) hS0 ?rq6
        case hq6 => (intro y hy; obtain ⟨m0, m1, m2, m3, m4, _⟩ := HXC.out y hy.1; go_simp; with_reducible rfl)
        try simp only [Act.put]
        try simp only [List.setIfInBounds_toArray]
        try simp only [List.set_cons_succ]
        try simp only [List.set_cons_zero]
        refine readyL (rs := [7]) (by kernel_rfl) (by simp) ?_
        refine ReadyL.cons rfl (fun KK hK => ?_) ReadyL.nil
        refine wantR (by rfl) ?_
        refine wpo_bs 22 58 5 80 _ (.tmp 39) rfl Tryz.underlying22 Tryz.info58z (by decide) (by decide) [.bool true, .string NM, .slice a2 n2 c2, .slice a3 n3 c3, .int .i64 PO] rfl rfl ?_
        intro w5 hR5 hB5 hz5
        have G5 := HD.out.past hB5
        refine hK.out _ _ (fun _ => ⟨G5.st, G5.row⟩) (fun hS5 => ?_)
        clear hK KK
        try simp only [Act.put]
        try simp only [List.setIfInBounds_toArray]
        try simp only [List.set_cons_succ]
        try simp only [List.set_cons_zero]
        refine readyL (rs := [8]) (by kernel_rfl) (by simp) ?_
        refine ReadyL.cons rfl (fun KK hK => ?_) ReadyL.nil
        refine wantR (by rfl) ?_
        refine wpo_add (.tmp 34) (.tmp 40) rfl Tryz.underlying22 Tryz.info58z rfl (by decide) rfl rfl G5.rw G5.st.size hR5 rfl hone HP.out (by omega) (by decide) ?_
        intro ao6 cp6 w6 hr6 hb6
        have R6 := G5.row.below hb6 G5.lt
        have S6 : Stay (fun k => k = w2.heap.size) WB w6 := ⟨hb6.os.trans G5.st.os, hb6.tape.trans G5.st.tape, hb6.output.trans G5.st.output, Nat.le_trans G5.st.size hb6.size, fun k hk hn => (hb6.block k hk).trans (G5.st.block k hk hn)⟩
        refine hK.out _ _ (fun _ => ⟨S6, R6⟩) (fun hS6 => ?_)
        clear hK KK
        try simp only [Act.put]
        try simp only [List.setIfInBounds_toArray]
        try simp only [List.set_cons_succ]
        try simp only [List.set_cons_zero]
        refine takeL 9 (v := ?vq9) rfl (some 42) rfl (by decide) (by kernel_rfl) (by kernel_rfl) (by kernel_rfl) (by kernel_rfl) (fun _ _ _ h => h) (Or.inl ⟨by rfl, ?hq9⟩) ⟨S6, R6⟩ ?rq9
        case hq9 => (intro y hy; go_simp; with_reducible rfl)
        try simp only [Act.put]
        try simp only [List.setIfInBounds_toArray]
        try simp only [List.set_cons_succ]
        try simp only [List.set_cons_zero]
        refine readyL (rs := [10]) (by kernel_rfl) (by simp) ?_
        refine ReadyL.cons rfl (fun KK hK => ?_) ReadyL.nil
        have cx := R6.cell 0
        have fx := R6.fz 0
        simp only [List.getElem?_cons_zero] at cx
        have G6 := hidS (G5.put 0 (v' := .slice ao6 (LS.length + 1) cp6) rfl hr6 hb6)
        go_simp
        clear cx fx
        refine hK.out _ _ (fun h => absurd rfl h) (fun _ => ?_)
        clear hK KK
        refine doneL (by kernel_rfl) ?_ _
        clear hS0 HD hR5 hB5 hz5 G5 hS5 hS6 hr6 hb6 R6 S6 HXC
        go_wp2_with fail
        go_roundw
        case rel => exact ⟨k + 1, _, by omega, by go_num, by rw [HL2.out]; exact G6.out⟩
        case measure => simp [intOf]; omega
    · obtain rfl : k = c.structs.length := by omega
      rw [List.take_length] at hg
      have i1 : ¬ (c.structs.length : Int) < (c.structs.length : Int) := by omega
      have HGA := hidS hg
      clear HA0 h3 hk hg r2 r3 rb
      go_wp2_with fail
      clear y2
      go_loopw [7] (fun i wr => ∃ (k : Nat) (v : Value), k ≤ d.structs.length ∧ i = .int .i64 k ∧ Grw 5 58 (SctAt K w) WB wr w2.heap.size (fun v => [v, .slice none 0 0]) v (c.structs.filter (·.pub) ++ (d.structs.take k).map unpS)) (fun i _ => d.structs.length - (intOf i).toNat)
      case atStart => exact ⟨0, v, by omega, rfl, by rw [List.take_zero, List.map_nil, List.append_nil]; exact HGA.out⟩
      case round =>
        rename_i wr0
        clear HGA
        obtain ⟨k, v, hk, rfl, hg⟩ := hrel
        obtain ⟨r2, r3, rb⟩ := HYY.out wr hg.st
        have y3 := r3.cell 0
        simp only [List.getElem?_cons_zero] at y3
        by_cases h3 : k < d.structs.length
        · obtain ⟨b, o, cs, e, hbC, hcs, hp⟩ := HB0.out k h3
          subst e
          have hBw : Below K.C w wr := below_le rb HC.out
          have HP : Hid (SctAt K w (cs.set 0 (.bool false)) (unpS d.structs[k])) := hidS (hp.setPub false)
          obtain ⟨a2, n2, c2, a3, n3, c3, rfl⟩ := hp.open
          have hone := HP.out.one
          simp only [List.set_cons_zero] at HP hone
          have i1 : (k : Int) < (d.structs.length : Int) := by omega
          have x0 : wr.cell? ⟨b, o + k * 5, none⟩ = some (.bool (d.structs[k]).pub) := by rw [hBw.cell (p := ⟨b, o + k * 5, none⟩) hbC]; exact hcs 0 (by decide)
          have x1 : wr.cell? ⟨b, o + k * 5 + 1, none⟩ = some (.string (str (d.structs[k]).name)) := by rw [hBw.cell (p := ⟨b, o + k * 5 + 1, none⟩) hbC]; exact hcs 1 (by decide)
          have x2 : wr.cell? ⟨b, o + k * 5 + 2, none⟩ = some (.slice a2 n2 c2) := by rw [hBw.cell (p := ⟨b, o + k * 5 + 2, none⟩) hbC]; exact hcs 2 (by decide)
          have x3 : wr.cell? ⟨b, o + k * 5 + 3, none⟩ = some (.slice a3 n3 c3) := by rw [hBw.cell (p := ⟨b, o + k * 5 + 3, none⟩) hbC]; exact hcs 3 (by decide)
          have x4 : wr.cell? ⟨b, o + k * 5 + 4, none⟩ = some (.int .i64 (d.structs[k]).pos) := by rw [hBw.cell (p := ⟨b, o + k * 5 + 4, none⟩) hbC]; exact hcs 4 (by decide)
          have HL2 : Hid (c.structs.filter (·.pub) ++ (d.structs.take (k + 1)).map unpS = (c.structs.filter (·.pub) ++ (d.structs.take k).map unpS) ++ [unpS d.structs[k]]) := hidS (by rw [List.take_succ_eq_append_getElem h3, List.map_append, List.map_cons, List.map_nil, List.append_assoc])
          have hln : (c.structs.filter (·.pub) ++ (d.structs.take k).map unpS).length ≤ 1000 := by
            have := List.length_filter_le (·.pub) c.structs
            rw [List.length_append, List.length_map, List.length_take]; omega
          have hl9 : d.structs.length ≤ 9223372036854775807 := by omega
          obtain ⟨ao, cp, rfl⟩ := hg.rw.form
          have HG := hidS hg
          clear hp hcs hBw hg r2 r3 rb HB0
          obtain ⟨LS, hLS⟩ : ∃ LS, LS = c.structs.filter (·.pub) ++ (d.structs.take k).map unpS := ⟨_, rfl⟩
          rw [← hLS] at HG HL2 hln
          clear hLS
          generalize (d.structs[k]).pub = PB at *
          generalize str (d.structs[k]).name = NM at *
          generalize (d.structs[k]).pos = PO at *
          have HA : Hid (∀ w5, Row w5 (wr.heap.size + 1) 58 [.bool false, .string NM, .slice a2 n2 c2, .slice a3 n3 c3, .int .i64 PO] → Below (wr.heap.size + 1) (wr.alloc (.cells #[.bool false, .string NM, .slice a2 n2 c2, .slice a3 n3 c3, .int .i64 PO] 58)) w5 → Grw 5 58 (SctAt K w) WB w5 w2.heap.size (fun v => [v, .slice none 0 0]) (.slice ao LS.length cp) LS) := by
            intro w5 _ hb
            exact (HG.out.past (alloc_one wr _)).past (by rw [size_alloc]; exact hb)
          have HZ : Hid (∀ w5, Row w5 (wr.heap.size + 1) 58 [.bool false, .string NM, .slice a2 n2 c2, .slice a3 n3 c3, .int .i64 PO] → Below (wr.heap.size + 1) (wr.alloc (.cells #[.bool false, .string NM, .slice a2 n2 c2, .slice a3 n3 c3, .int .i64 PO] 58)) w5 → ∀ ao6 cp6 w6, Rws 5 58 (SctAt K w) WB.heap.size w6 (.slice ao6 (LS.length + 1) cp6) (LS ++ [unpS d.structs[k]]) → Below WB.heap.size w5 w6 →
              w6.cell? ⟨w2.heap.size, 0, none⟩ = some (.slice ao LS.length cp) ∧ w6.frozen? ⟨w2.heap.size, 0, none⟩ = false ∧ Grw 5 58 (SctAt K w) WB (w6.setCell ⟨w2.heap.size, 0, none⟩ (.slice ao6 (LS.length + 1) cp6)) w2.heap.size (fun v => [v, .slice none 0 0]) (.slice ao6 (LS.length + 1) cp6) (LS ++ [unpS d.structs[k]])) := by
            intro w5 h5 hb ao6 cp6 w6 hr6 hb6
            have G5 := HA.out w5 h5 hb
            have R6 := G5.row.below hb6 G5.lt
            exact ⟨R6.cell 0, R6.fz 0, G5.put 0 rfl hr6 hb6⟩
          have y0 : ∀ ob, (wr.alloc ob).cell? ⟨w2.heap.size, 0, none⟩ = some (.slice ao LS.length cp) := fun ob => ((HG.out.past (alloc_one wr ob)).row.cell 0)
          go_wp2_with (first | (refine bsliceL rfl 22 58 5 80 _ (.tmp 58) rfl Tryz.underlying22 Tryz.info58z (by decide) (by decide) [.bool false, .string NM, .slice a2 n2 c2, .slice a3 n3 c3, .int .i64 PO] rfl rfl ?_; intro w5 hR5 hB5 hz5; rw [size_alloc] at hR5 hB5 hz5; apply shut))
          show wpList _ _ _ _ _ _
          refine wpl_add rfl (.tmp 57) (.tmp 59) rfl Tryz.underlying22 Tryz.info58z rfl (by decide) rfl rfl (HA.out w5 hR5 hB5).rw (HA.out w5 hR5 hB5).st.size hR5 rfl hone HP.out (Nat.le_trans hln (by decide)) (by decide) ?_
          intro ao6 cp6 w6 hr6 hb6
          obtain ⟨y6, z6, G6⟩ := HZ.out w5 hR5 hB5 ao6 cp6 w6 hr6 hb6
          replace G6 := hidA G6
          clear hr6 hb6 hR5 hB5 hz5 HA HZ y0
          go_wp2_with fail
          go_roundw
          case rel => exact ⟨k + 1, _, by omega, by go_num, by rw [HL2.out]; exact G6.out⟩
          case measure => simp [intOf]; omega
        · obtain rfl : k = d.structs.length := by omega
          rw [List.take_length] at hg
          have i1 : ¬ (d.structs.length : Int) < (d.structs.length : Int) := by omega
          have HGS := hidS hg
          have HY3 : Hid (∀ y, Stay (fun k => k = w2.heap.size) wr y → Row y w.heap.size 25 [.slice a0 c.structs.length c0, .slice a1 c.funcs.length c1] ∧ Row y (w.heap.size + 1) 25 [.slice b0 d.structs.length e0, .slice b1 d.funcs.length e1] ∧ Below w.heap.size w y) := fun y hy => HYY.out y (hg.st.trans hy)
          clear HB0 h3 hk hg r2 r3 rb HYY
          go_wp2_with fail
          clear y3
          generalize hw3 : wr = W3 at *
          clear hw3
          go_loopw [9] (fun i wr => ∃ (k : Nat) (u : Value), k ≤ d.funcs.length ∧ i = .int .i64 k ∧ Grw 10 65 (FncAt n K w) W3 wr w2.heap.size (fun u => [v, u]) u ((d.funcs.take k).map unpF)) (fun i _ => d.funcs.length - (intOf i).toNat)
          case atStart => exact ⟨0, .slice none 0 0, by omega, rfl, by rw [List.take_zero, List.map_nil]; exact Grw.first HGS.out.row⟩
          case round =>
            obtain ⟨k, u, hk, rfl, hg⟩ := hrel
            obtain ⟨r2, r3, rb⟩ := HY3.out wr hg.st
            have y3 := r3.cell 1
            simp only [List.getElem?_cons_zero, List.getElem?_cons_succ] at y3
            by_cases h3 : k < d.funcs.length
            · obtain ⟨b, o, cs, e, hbC, hcs, hp⟩ := HB1.out k h3
              subst e
              have hBw : Below K.C w wr := below_le rb HC.out
              have HP : Hid (FncAt n K w (cs.set 0 (.bool false)) (unpF d.funcs[k])) := hidS (hp.setPub false)
              obtain ⟨a2, n2, c2, a3, n3, c3, t2, m2, d2, t3, m3, d3, a8, c8, rfl⟩ := hp.open
              have hone := HP.out.one
              simp only [List.set_cons_zero] at HP hone
              have i1 : (k : Int) < (d.funcs.length : Int) := by omega
              have x0 : wr.cell? ⟨b, o + k * 10, none⟩ = some (.bool (d.funcs[k]).pub) := by rw [hBw.cell (p := ⟨b, o + k * 10, none⟩) hbC]; exact hcs 0 (by decide)
              have x1 : wr.cell? ⟨b, o + k * 10 + 1, none⟩ = some (.string (str (d.funcs[k]).name)) := by rw [hBw.cell (p := ⟨b, o + k * 10 + 1, none⟩) hbC]; exact hcs 1 (by decide)
              have x2 : wr.cell? ⟨b, o + k * 10 + 2, none⟩ = some (.slice a2 n2 c2) := by rw [hBw.cell (p := ⟨b, o + k * 10 + 2, none⟩) hbC]; exact hcs 2 (by decide)
              have x3 : wr.cell? ⟨b, o + k * 10 + 3, none⟩ = some (.slice a3 n3 c3) := by rw [hBw.cell (p := ⟨b, o + k * 10 + 3, none⟩) hbC]; exact hcs 3 (by decide)
              have x4 : wr.cell? ⟨b, o + k * 10 + 4, none⟩ = some (.int .i64 (d.funcs[k]).result.kind) := by rw [hBw.cell (p := ⟨b, o + k * 10 + 4, none⟩) hbC]; exact hcs 4 (by decide)
              have x5 : wr.cell? ⟨b, o + k * 10 + 5, none⟩ = some (.string (str (d.funcs[k]).result.name)) := by rw [hBw.cell (p := ⟨b, o + k * 10 + 5, none⟩) hbC]; exact hcs 5 (by decide)
              have x6 : wr.cell? ⟨b, o + k * 10 + 6, none⟩ = some (.slice t2 m2 d2) := by rw [hBw.cell (p := ⟨b, o + k * 10 + 6, none⟩) hbC]; exact hcs 6 (by decide)
              have x7 : wr.cell? ⟨b, o + k * 10 + 7, none⟩ = some (.slice t3 m3 d3) := by rw [hBw.cell (p := ⟨b, o + k * 10 + 7, none⟩) hbC]; exact hcs 7 (by decide)
              have x8 : wr.cell? ⟨b, o + k * 10 + 8, none⟩ = some (.slice a8 (d.funcs[k]).body.length c8) := by rw [hBw.cell (p := ⟨b, o + k * 10 + 8, none⟩) hbC]; exact hcs 8 (by decide)
              have x9 : wr.cell? ⟨b, o + k * 10 + 9, none⟩ = some (.int .i64 (d.funcs[k]).pos) := by rw [hBw.cell (p := ⟨b, o + k * 10 + 9, none⟩) hbC]; exact hcs 9 (by decide)
              have HL2 : Hid ((d.funcs.take (k + 1)).map unpF = (d.funcs.take k).map unpF ++ [unpF d.funcs[k]]) := hidS (by rw [List.take_succ_eq_append_getElem h3, List.map_append, List.map_cons, List.map_nil])
              have hln : ((d.funcs.take k).map unpF).length ≤ 1000 := by rw [List.length_map, List.length_take]; omega
              have hl9 : d.funcs.length ≤ 9223372036854775807 := by omega
              obtain ⟨ao, cp, rfl⟩ := hg.rw.form
              have HG := hidS hg
              clear hp hcs hBw hg r2 r3 rb HB1
              obtain ⟨LS, hLS⟩ : ∃ LS, LS = (d.funcs.take k).map unpF := ⟨_, rfl⟩
              rw [← hLS] at HG HL2 hln
              clear hLS
              generalize (d.funcs[k]).pub = PB at *
              generalize str (d.funcs[k]).name = NM at *
              generalize (d.funcs[k]).result.kind = RK at *
              generalize str (d.funcs[k]).result.name = RN at *
              generalize (d.funcs[k]).body.length = BL at *
              generalize (d.funcs[k]).pos = PO at *
              have HA : Hid (∀ w5, Row w5 (wr.heap.size + 1) 65 [.bool false, .string NM, .slice a2 n2 c2, .slice a3 n3 c3, .int .i64 RK, .string RN, .slice t2 m2 d2, .slice t3 m3 d3, .slice a8 BL c8, .int .i64 PO] → Below (wr.heap.size + 1) (wr.alloc (.cells #[.bool false, .string NM, .slice a2 n2 c2, .slice a3 n3 c3, .int .i64 RK, .string RN, .slice t2 m2 d2, .slice t3 m3 d3, .slice a8 BL c8, .int .i64 PO] 65)) w5 → Grw 10 65 (FncAt n K w) W3 w5 w2.heap.size (fun u => [v, u]) (.slice ao LS.length cp) LS) := by
                intro w5 _ hb
                exact (HG.out.past (alloc_one wr _)).past (by rw [size_alloc]; exact hb)
              have HZ : Hid (∀ w5, Row w5 (wr.heap.size + 1) 65 [.bool false, .string NM, .slice a2 n2 c2, .slice a3 n3 c3, .int .i64 RK, .string RN, .slice t2 m2 d2, .slice t3 m3 d3, .slice a8 BL c8, .int .i64 PO] → Below (wr.heap.size + 1) (wr.alloc (.cells #[.bool false, .string NM, .slice a2 n2 c2, .slice a3 n3 c3, .int .i64 RK, .string RN, .slice t2 m2 d2, .slice t3 m3 d3, .slice a8 BL c8, .int .i64 PO] 65)) w5 → ∀ ao6 cp6 w6, Rws 10 65 (FncAt n K w) W3.heap.size w6 (.slice ao6 (LS.length + 1) cp6) (LS ++ [unpF d.funcs[k]]) → Below W3.heap.size w5 w6 →
                  w6.cell? ⟨w2.heap.size, 1, none⟩ = some (.slice ao LS.length cp) ∧ w6.frozen? ⟨w2.heap.size, 1, none⟩ = false ∧ Grw 10 65 (FncAt n K w) W3 (w6.setCell ⟨w2.heap.size, 1, none⟩ (.slice ao6 (LS.length + 1) cp6)) w2.heap.size (fun u => [v, u]) (.slice ao6 (LS.length + 1) cp6) (LS ++ [unpF d.funcs[k]])) := by
                intro w5 h5 hb ao6 cp6 w6 hr6 hb6
                have G5 := HA.out w5 h5 hb
                have R6 := G5.row.below hb6 G5.lt
                exact ⟨R6.cell 1, R6.fz 1, G5.put 1 rfl hr6 hb6⟩
              have y0 : ∀ ob, (wr.alloc ob).cell? ⟨w2.heap.size, 1, none⟩ = some (.slice ao LS.length cp) := fun ob => ((HG.out.past (alloc_one wr ob)).row.cell 1)
              go_wp2_with (first | (refine bsliceL rfl 23 65 10 176 _ (.tmp 77) rfl Tryz.underlying23 Tryz.info65z (by decide) (by decide) [.bool false, .string NM, .slice a2 n2 c2, .slice a3 n3 c3, .int .i64 RK, .string RN, .slice t2 m2 d2, .slice t3 m3 d3, .slice a8 BL c8, .int .i64 PO] rfl rfl ?_; intro w5 hR5 hB5 hz5; rw [size_alloc] at hR5 hB5 hz5; apply shut))
              show wpList _ _ _ _ _ _
              refine wpl_add rfl (.tmp 76) (.tmp 78) rfl Tryz.underlying23 Tryz.info65z rfl (by decide) rfl rfl (HA.out w5 hR5 hB5).rw (HA.out w5 hR5 hB5).st.size hR5 rfl hone HP.out (Nat.le_trans hln (by decide)) (by decide) ?_
              intro ao6 cp6 w6 hr6 hb6
              obtain ⟨y6, z6, G6⟩ := HZ.out w5 hR5 hB5 ao6 cp6 w6 hr6 hb6
              replace G6 := hidA G6
              clear hr6 hb6 hR5 hB5 hz5 HA HZ y0
              go_wp2_with fail
              go_roundw
              case rel => exact ⟨k + 1, _, by omega, by go_num, by rw [HL2.out]; exact G6.out⟩
              case measure => simp [intOf]; omega
            · obtain rfl : k = d.funcs.length := by omega
              rw [List.take_length] at hg
              have i1 : ¬ (d.funcs.length : Int) < (d.funcs.length : Int) := by omega
              have HGF := hidS hg
              clear h3 hk hg r2 r3 rb
              go_wp2_with fail
              clear y3
              go_loopw [11] (fun i wr => ∃ (k : Nat) (u : Value), k ≤ c.funcs.length ∧ i = .int .i64 k ∧ Grw 10 65 (FncAt n K w) W3 wr w2.heap.size (fun u => [v, u]) u (d.funcs.map unpF ++ ((c.funcs.take k).filter (·.pub)).map (hidF d))) (fun i _ => c.funcs.length - (intOf i).toNat)
              case atStart => exact ⟨0, u, by omega, rfl, by rw [List.take_zero, List.filter_nil, List.map_nil, List.append_nil]; exact HGF.out⟩
              case round =>
                rename_i wr1
                clear HGF
                obtain ⟨k, u, hk, rfl, hg⟩ := hrel
                obtain ⟨r2, r3, rb⟩ := HY3.out wr hg.st
                have y2 := r2.cell 1
                simp only [List.getElem?_cons_zero, List.getElem?_cons_succ] at y2
                by_cases h3 : k < c.funcs.length
                · obtain ⟨b, o, cs, e, hbC, hcs, hp⟩ := HA1.out k h3
                  subst e
                  have hBw : Below K.C w wr := below_le rb HC.out
                  have HFA : Hid (∀ (uu : Value) (l : List St), Ar 32 496 (StAt n K w) K w uu l → l = (d.funcs.head?.map (·.body)).getD [] → FncAt n K w ((cs.set 8 uu).set 9 (.int .i64 (wrap64 ((c.funcs[k]).pos + 1)))) (hidF d c.funcs[k])) := by
                    intro uu l hu hl
                    have := hp.setBody hu (wrap64 ((c.funcs[k]).pos + 1))
                    rw [hl] at this
                    exact this
                  obtain ⟨a2, n2, c2, a3, n3, c3, t2, m2, d2, t3, m3, d3, a8, c8, rfl⟩ := hp.open
                  simp only [List.set_cons_zero, List.set_cons_succ] at HFA
                  have i1 : (k : Int) < (c.funcs.length : Int) := by omega
                  have x0 : wr.cell? ⟨b, o + k * 10, none⟩ = some (.bool (c.funcs[k]).pub) := by rw [hBw.cell (p := ⟨b, o + k * 10, none⟩) hbC]; exact hcs 0 (by decide)
                  have x1 : wr.cell? ⟨b, o + k * 10 + 1, none⟩ = some (.string (str (c.funcs[k]).name)) := by rw [hBw.cell (p := ⟨b, o + k * 10 + 1, none⟩) hbC]; exact hcs 1 (by decide)
                  have x2 : wr.cell? ⟨b, o + k * 10 + 2, none⟩ = some (.slice a2 n2 c2) := by rw [hBw.cell (p := ⟨b, o + k * 10 + 2, none⟩) hbC]; exact hcs 2 (by decide)
                  have x3 : wr.cell? ⟨b, o + k * 10 + 3, none⟩ = some (.slice a3 n3 c3) := by rw [hBw.cell (p := ⟨b, o + k * 10 + 3, none⟩) hbC]; exact hcs 3 (by decide)
                  have x4 : wr.cell? ⟨b, o + k * 10 + 4, none⟩ = some (.int .i64 (c.funcs[k]).result.kind) := by rw [hBw.cell (p := ⟨b, o + k * 10 + 4, none⟩) hbC]; exact hcs 4 (by decide)
                  have x5 : wr.cell? ⟨b, o + k * 10 + 5, none⟩ = some (.string (str (c.funcs[k]).result.name)) := by rw [hBw.cell (p := ⟨b, o + k * 10 + 5, none⟩) hbC]; exact hcs 5 (by decide)
                  have x6 : wr.cell? ⟨b, o + k * 10 + 6, none⟩ = some (.slice t2 m2 d2) := by rw [hBw.cell (p := ⟨b, o + k * 10 + 6, none⟩) hbC]; exact hcs 6 (by decide)
                  have x7 : wr.cell? ⟨b, o + k * 10 + 7, none⟩ = some (.slice t3 m3 d3) := by rw [hBw.cell (p := ⟨b, o + k * 10 + 7, none⟩) hbC]; exact hcs 7 (by decide)
                  have x8 : wr.cell? ⟨b, o + k * 10 + 8, none⟩ = some (.slice a8 (c.funcs[k]).body.length c8) := by rw [hBw.cell (p := ⟨b, o + k * 10 + 8, none⟩) hbC]; exact hcs 8 (by decide)
                  have x9 : wr.cell? ⟨b, o + k * 10 + 9, none⟩ = some (.int .i64 (c.funcs[k]).pos) := by rw [hBw.cell (p := ⟨b, o + k * 10 + 9, none⟩) hbC]; exact hcs 9 (by decide)
                  have HL := hidS (filter_snoc (·.pub) c.funcs k h3)
                  have hln : (d.funcs.map unpF ++ ((c.funcs.take k).filter (·.pub)).map (hidF d)).length ≤ 1000 := by
                    have := List.length_filter_le (·.pub) (c.funcs.take k)
                    rw [List.length_take] at this
                    rw [List.length_append, List.length_map, List.length_map]; omega
                  have hl9 : c.funcs.length ≤ 9223372036854775807 := by omega
                  obtain ⟨ao, cp, rfl⟩ := hg.rw.form
                  have HG := hidS hg
                  have HR3 := hidS r3
                  have HBW := hidS hBw
                  clear hp hcs hBw hg r2 r3 rb HA1
                  cases hpub : (c.funcs[k]).pub with
                  | false =>
                    rw [hpub] at x0
                    have HL2 : Hid (d.funcs.map unpF ++ ((c.funcs.take (k + 1)).filter (·.pub)).map (hidF d) = d.funcs.map unpF ++ ((c.funcs.take k).filter (·.pub)).map (hidF d)) := hidS (by
                      have := HL.out; simp only [hpub] at this; rw [this]; simp)
                    clear HL HFA hpub HR3 HBW HB1
                    generalize str (c.funcs[k]).name = NM at *
                    generalize (c.funcs[k]).result.kind = RK at *
                    generalize str (c.funcs[k]).result.name = RN at *
                    generalize (c.funcs[k]).body.length = BL at *
                    generalize (c.funcs[k]).pos = PO at *
                    obtain ⟨LS, hLS⟩ : ∃ LS, LS = d.funcs.map unpF ++ ((c.funcs.take k).filter (·.pub)).map (hidF d) := ⟨_, rfl⟩
                    rw [← hLS] at HG HL2 hln
                    clear hLS
                    go_wp2_with fail
                    go_roundw
                    case rel => exact ⟨k + 1, _, by omega, by go_num, by rw [HL2.out]; exact HG.out.past (alloc_one _ _)⟩
                    case measure => simp [intOf]; omega
                  | true =>
                    rw [hpub] at x0 HFA
                    have HL2 : Hid (d.funcs.map unpF ++ ((c.funcs.take (k + 1)).filter (·.pub)).map (hidF d) = (d.funcs.map unpF ++ ((c.funcs.take k).filter (·.pub)).map (hidF d)) ++ [hidF d c.funcs[k]]) := hidS (by
                      have := HL.out; simp only [hpub] at this; rw [this]; simp)
                    obtain ⟨LS, hLS⟩ : ∃ LS, LS = d.funcs.map unpF ++ ((c.funcs.take k).filter (·.pub)).map (hidF d) := ⟨_, rfl⟩
                    rw [← hLS] at HG HL2 hln
                    clear hLS HL hpub
                    have q3 : ∀ ob, (wr.alloc ob).cell? ⟨w.heap.size + 1, 1, none⟩ = some (.slice b1 d.funcs.length e1) := fun ob => (HR3.out.alloc ob).cell 1
                    rcases Nat.eq_zero_or_pos d.funcs.length with hd0 | hd0
                    · have HP : Hid (FncAt n K w [.bool true, .string (str (c.funcs[k]).name), .slice a2 n2 c2, .slice a3 n3 c3, .int .i64 (c.funcs[k]).result.kind, .string (str (c.funcs[k]).result.name), .slice t2 m2 d2, .slice t3 m3 d3, .slice none 0 0, .int .i64 (wrap64 ((c.funcs[k]).pos + 1))] (hidF d c.funcs[k])) := hidS (HFA.out _ [] nil_ar (by rw [List.length_eq_zero_iff.1 hd0]; rfl))
                      have hone := HP.out.one
                      have j0 : ¬ (0 : Int) < (d.funcs.length : Int) := by omega
                      clear HFA HR3 HBW HB1 hd0
                      generalize str (c.funcs[k]).name = NM at *
                      generalize (c.funcs[k]).result.kind = RK at *
                      generalize str (c.funcs[k]).result.name = RN at *
                      generalize (c.funcs[k]).body.length = BL at *
                      generalize (c.funcs[k]).pos = PO at *
                      have HA : Hid (∀ w5, Row w5 (wr.heap.size + 1) 65 [.bool true, .string NM, .slice a2 n2 c2, .slice a3 n3 c3, .int .i64 RK, .string RN, .slice t2 m2 d2, .slice t3 m3 d3, .slice none 0 0, .int .i64 (wrap64 (PO + 1))] → Below (wr.heap.size + 1) (wr.alloc (.cells #[.bool true, .string NM, .slice a2 n2 c2, .slice a3 n3 c3, .int .i64 RK, .string RN, .slice t2 m2 d2, .slice t3 m3 d3, .slice none 0 0, .int .i64 (wrap64 (PO + 1))] 65)) w5 → Grw 10 65 (FncAt n K w) W3 w5 w2.heap.size (fun u => [v, u]) (.slice ao LS.length cp) LS) := by
                        intro w5 _ hb
                        exact (HG.out.past (alloc_one wr _)).past (by rw [size_alloc]; exact hb)
                      have HZ : Hid (∀ w5, Row w5 (wr.heap.size + 1) 65 [.bool true, .string NM, .slice a2 n2 c2, .slice a3 n3 c3, .int .i64 RK, .string RN, .slice t2 m2 d2, .slice t3 m3 d3, .slice none 0 0, .int .i64 (wrap64 (PO + 1))] → Below (wr.heap.size + 1) (wr.alloc (.cells #[.bool true, .string NM, .slice a2 n2 c2, .slice a3 n3 c3, .int .i64 RK, .string RN, .slice t2 m2 d2, .slice t3 m3 d3, .slice none 0 0, .int .i64 (wrap64 (PO + 1))] 65)) w5 → ∀ ao6 cp6 w6, Rws 10 65 (FncAt n K w) W3.heap.size w6 (.slice ao6 (LS.length + 1) cp6) (LS ++ [hidF d c.funcs[k]]) → Below W3.heap.size w5 w6 →
                          w6.cell? ⟨w2.heap.size, 1, none⟩ = some (.slice ao LS.length cp) ∧ w6.frozen? ⟨w2.heap.size, 1, none⟩ = false ∧ Grw 10 65 (FncAt n K w) W3 (w6.setCell ⟨w2.heap.size, 1, none⟩ (.slice ao6 (LS.length + 1) cp6)) w2.heap.size (fun u => [v, u]) (.slice ao6 (LS.length + 1) cp6) (LS ++ [hidF d c.funcs[k]])) := by
                        intro w5 h5 hb ao6 cp6 w6 hr6 hb6
                        have G5 := HA.out w5 h5 hb
                        have R6 := G5.row.below hb6 G5.lt
                        exact ⟨R6.cell 1, R6.fz 1, G5.put 1 rfl hr6 hb6⟩
                      have y0 : ∀ ob, (wr.alloc ob).cell? ⟨w2.heap.size, 1, none⟩ = some (.slice ao LS.length cp) := fun ob => ((HG.out.past (alloc_one wr ob)).row.cell 1)
                      go_wp2_with (first | (refine bsliceL rfl 23 65 10 176 _ (.tmp 112) rfl Tryz.underlying23 Tryz.info65z (by decide) (by decide) [.bool true, .string NM, .slice a2 n2 c2, .slice a3 n3 c3, .int .i64 RK, .string RN, .slice t2 m2 d2, .slice t3 m3 d3, .slice none 0 0, .int .i64 (wrap64 (PO + 1))] rfl rfl ?_; intro w5 hR5 hB5 hz5; rw [size_alloc] at hR5 hB5 hz5; apply shut))
                      show wpList _ _ _ _ _ _
                      refine wpl_add rfl (.tmp 111) (.tmp 113) rfl Tryz.underlying23 Tryz.info65z rfl (by decide) rfl rfl (HA.out w5 hR5 hB5).rw (HA.out w5 hR5 hB5).st.size hR5 rfl hone HP.out (Nat.le_trans hln (by decide)) (by decide) ?_
                      intro ao6 cp6 w6 hr6 hb6
                      obtain ⟨y6, z6, G6⟩ := HZ.out w5 hR5 hB5 ao6 cp6 w6 hr6 hb6
                      replace G6 := hidA G6
                      clear hr6 hb6 hR5 hB5 hz5 HA HZ y0
                      go_wp2_with fail
                      go_roundw
                      case rel => exact ⟨k + 1, _, by omega, by go_num, by rw [HL2.out]; exact G6.out⟩
                      case measure => simp [intOf]; omega
                    · obtain ⟨b', o', cs', e', hbC', hcs', hp'⟩ := HB1.out 0 hd0
                      subst e'
                      have hbo : ∃ v8, cs'[8]? = some v8 ∧ Ar 32 496 (StAt n K w) K w v8 (d.funcs[0]).body := Fnc.body_at hp'
                      obtain ⟨v8, e8, hv8⟩ := hbo
                      obtain ⟨p8, f8, rfl⟩ := hv8.form
                      have HP : Hid (FncAt n K w [.bool true, .string (str (c.funcs[k]).name), .slice a2 n2 c2, .slice a3 n3 c3, .int .i64 (c.funcs[k]).result.kind, .string (str (c.funcs[k]).result.name), .slice t2 m2 d2, .slice t3 m3 d3, .slice p8 (d.funcs[0]).body.length f8, .int .i64 (wrap64 ((c.funcs[k]).pos + 1))] (hidF d c.funcs[k])) := hidS (HFA.out _ (d.funcs[0]).body hv8 (by rw [List.head?_eq_getElem?, List.getElem?_eq_getElem hd0]; rfl))
                      have hone := HP.out.one
                      have j0 : (0 : Int) < (d.funcs.length : Int) := by omega
                      have hl8 : d.funcs.length ≤ 9223372036854775807 := by omega
                      have q8 : ∀ ob, (wr.alloc ob).cell? ⟨b', o' + 8, none⟩ = some (.slice p8 (d.funcs[0]).body.length f8) := fun ob => by
                        have h1 : wr.cell? ⟨b', o' + 8, none⟩ = some (.slice p8 (d.funcs[0]).body.length f8) := by
                          rw [HBW.out.cell (p := ⟨b', o' + 8, none⟩) hbC', ← e8]
                          have := hcs' 8 (by decide)
                          rw [Nat.zero_mul, Nat.add_zero] at this
                          exact this
                        rw [(alloc_one wr ob).cell (p := ⟨b', o' + 8, none⟩) (World.block_lt_of_cell? wr _ h1)]
                        exact h1
                      clear HFA HR3 HBW HB1 hp' hcs' hv8 e8
                      generalize (d.funcs[0]).body.length = ZL at *
                      generalize str (c.funcs[k]).name = NM at *
                      generalize (c.funcs[k]).result.kind = RK at *
                      generalize str (c.funcs[k]).result.name = RN at *
                      generalize (c.funcs[k]).body.length = BL at *
                      generalize (c.funcs[k]).pos = PO at *
                      have HA : Hid (∀ w5, Row w5 (wr.heap.size + 1) 65 [.bool true, .string NM, .slice a2 n2 c2, .slice a3 n3 c3, .int .i64 RK, .string RN, .slice t2 m2 d2, .slice t3 m3 d3, .slice p8 ZL f8, .int .i64 (wrap64 (PO + 1))] → Below (wr.heap.size + 1) (wr.alloc (.cells #[.bool true, .string NM, .slice a2 n2 c2, .slice a3 n3 c3, .int .i64 RK, .string RN, .slice t2 m2 d2, .slice t3 m3 d3, .slice p8 ZL f8, .int .i64 (wrap64 (PO + 1))] 65)) w5 → Grw 10 65 (FncAt n K w) W3 w5 w2.heap.size (fun u => [v, u]) (.slice ao LS.length cp) LS) := by
                        intro w5 _ hb
                        exact (HG.out.past (alloc_one wr _)).past (by rw [size_alloc]; exact hb)
                      have HZ : Hid (∀ w5, Row w5 (wr.heap.size + 1) 65 [.bool true, .string NM, .slice a2 n2 c2, .slice a3 n3 c3, .int .i64 RK, .string RN, .slice t2 m2 d2, .slice t3 m3 d3, .slice p8 ZL f8, .int .i64 (wrap64 (PO + 1))] → Below (wr.heap.size + 1) (wr.alloc (.cells #[.bool true, .string NM, .slice a2 n2 c2, .slice a3 n3 c3, .int .i64 RK, .string RN, .slice t2 m2 d2, .slice t3 m3 d3, .slice p8 ZL f8, .int .i64 (wrap64 (PO + 1))] 65)) w5 → ∀ ao6 cp6 w6, Rws 10 65 (FncAt n K w) W3.heap.size w6 (.slice ao6 (LS.length + 1) cp6) (LS ++ [hidF d c.funcs[k]]) → Below W3.heap.size w5 w6 →
                          w6.cell? ⟨w2.heap.size, 1, none⟩ = some (.slice ao LS.length cp) ∧ w6.frozen? ⟨w2.heap.size, 1, none⟩ = false ∧ Grw 10 65 (FncAt n K w) W3 (w6.setCell ⟨w2.heap.size, 1, none⟩ (.slice ao6 (LS.length + 1) cp6)) w2.heap.size (fun u => [v, u]) (.slice ao6 (LS.length + 1) cp6) (LS ++ [hidF d c.funcs[k]])) := by
                        intro w5 h5 hb ao6 cp6 w6 hr6 hb6
                        have G5 := HA.out w5 h5 hb
                        have R6 := G5.row.below hb6 G5.lt
                        exact ⟨R6.cell 1, R6.fz 1, G5.put 1 rfl hr6 hb6⟩
                      have y0 : ∀ ob, (wr.alloc ob).cell? ⟨w2.heap.size, 1, none⟩ = some (.slice ao LS.length cp) := fun ob => ((HG.out.past (alloc_one wr ob)).row.cell 1)
                      go_wp2_with (first | (refine bsliceL rfl 23 65 10 176 _ (.tmp 112) rfl Tryz.underlying23 Tryz.info65z (by decide) (by decide) [.bool true, .string NM, .slice a2 n2 c2, .slice a3 n3 c3, .int .i64 RK, .string RN, .slice t2 m2 d2, .slice t3 m3 d3, .slice p8 ZL f8, .int .i64 (wrap64 (PO + 1))] rfl rfl ?_; intro w5 hR5 hB5 hz5; rw [size_alloc] at hR5 hB5 hz5; apply shut))
                      show wpList _ _ _ _ _ _
                      refine wpl_add rfl (.tmp 111) (.tmp 113) rfl Tryz.underlying23 Tryz.info65z rfl (by decide) rfl rfl (HA.out w5 hR5 hB5).rw (HA.out w5 hR5 hB5).st.size hR5 rfl hone HP.out (Nat.le_trans hln (by decide)) (by decide) ?_
                      intro ao6 cp6 w6 hr6 hb6
                      obtain ⟨y6, z6, G6⟩ := HZ.out w5 hR5 hB5 ao6 cp6 w6 hr6 hb6
                      replace G6 := hidA G6
                      clear hr6 hb6 hR5 hB5 hz5 HA HZ y0
                      go_wp2_with fail
                      go_roundw
                      case rel => exact ⟨k + 1, _, by omega, by go_num, by rw [HL2.out]; exact G6.out⟩
                      case measure => simp [intOf]; omega
                · obtain rfl : k = c.funcs.length := by omega
                  rw [List.take_length] at hg
                  have i1 : ¬ (c.funcs.length : Int) < (c.funcs.length : Int) := by omega
                  have hsW : w.heap.size + 2 ≤ w2.heap.size := by omega
                  have h3s : w2.heap.size + 1 ≤ W3.heap.size := by have := HGS.out.st.size; omega
                  have h3w := hg.st.size
                  have HCD : Hid (CrtAt n ⟨wr.heap.size, K.B, K.small⟩ wr [v, u] (hidC c d)) := hidS (by
                    obtain ⟨M1, q1, o1⟩ := HGS.out.rw
                    obtain ⟨M2, q2, o2⟩ := hg.rw
                    have hb : Below K.C w wr := below_le rb HC.out
                    have hle : K.C ≤ wr.heap.size := Nat.le_trans HC.out (by omega)
                    have o1' : wr.ownsRow WB.heap.size 58 5 v (c.structs.filter (·.pub) ++ d.structs.map unpS).length M1.flatten := own_sameR o1 fun k e => hg.st.block k (o1.lt k e).2 (fun e' => by have := (o1.lt k e).1; omega)
                    refine ⟨v, u, rfl, ar_own (q1.mono fun cs x hx => (hx.below hb).up hle) o1' (Nat.le_refl _) ?_, ar_own (q2.mono fun cs x hx => (hx.below hb).up hle) o2 (Nat.le_refl _) ?_⟩
                    · show (c.structs.filter (·.pub) ++ d.structs.map unpS).length * 80 ≤ _
                      have := List.length_filter_le (·.pub) c.structs
                      have : (c.structs.filter (·.pub) ++ d.structs.map unpS).length * 80 ≤ 1000 * 80 := Nat.mul_le_mul_right _ (by rw [List.length_append, List.length_map]; omega)
                      omega
                    · show (d.funcs.map unpF ++ (c.funcs.filter (·.pub)).map (hidF d)).length * 176 ≤ _
                      have := List.length_filter_le (·.pub) c.funcs
                      have : (d.funcs.map unpF ++ (c.funcs.filter (·.pub)).map (hidF d)).length * 176 ≤ 1000 * 176 := Nat.mul_le_mul_right _ (by rw [List.length_append, List.length_map, List.length_map]; omega)
                      omega)
                  have HE : Hid (∀ y, Below wr.heap.size wr y → (Row y w.heap.size 25 [.slice a0 c.structs.length c0, .slice a1 c.funcs.length c1] ∧ Row y w2.heap.size 25 [v, u]) ∧ Below w.heap.size w y) := fun y hy => ⟨⟨r2.below hy r2.lt, hg.row.below hy hg.row.lt⟩, rb.trans (hy.mono rb.size)⟩
                  have CT : Hid (Calls Tryz.prog 9 #[] wr.drew fun ev w' => ev = .returned (.bool true) ∧ Below wr.heap.size wr w') := (told_any wr.drew).mono fun _ _ q => ⟨q.1, ((Below.refl _ _).drew).trans q.2⟩
                  have CO : Hid (∀ y, Below wr.heap.size wr y → Calls Tryz.prog 10 #[.string ⟨#[97]⟩, .agg #[.slice a0 c.structs.length c0, .slice a1 c.funcs.length c1]] y fun ev w' => ∃ p0 p1, ev = .returned (.agg #[.string (str [97]), p0, p1]) ∧ Below wr.heap.size wr w' ∧ y.heap.size ≤ w'.heap.size ∧ ∀ z, Below w'.heap.size w' z → CrtAt n ⟨z.heap.size, K.B, K.small⟩ z [p0, p1] (ofC n c)) := by
                    intro y hy
                    obtain ⟨_, hb⟩ := HE.out y hy
                    refine (of_any (Nat.le_trans HC.out hb.size) (HX.out y (below_le hb HC.out)).1 [97] (by decide) (by omega) (by omega)).mono ?_
                    rintro _ w6 ⟨p0, p1, rfl, hb6, hq⟩
                    exact ⟨p0, p1, rfl, hy.trans (hb6.mono hy.size), hb6.size, fun z hz => (hq.mono (Q' := Fr y z) ⟨fun b hb => ⟨hb.1, Nat.lt_of_lt_of_le hb.2 hz.size⟩, fun b hb => hz.block b hb.2⟩).to (K := ⟨z.heap.size, K.B, K.small⟩) (fun b hb => hb.2)⟩
                  have CP : Hid (∀ y, Below wr.heap.size wr y → Calls Tryz.prog 10 #[.string ⟨#[97]⟩, .agg #[v, u]] y fun ev w' => ∃ p0 p1, ev = .returned (.agg #[.string (str [97]), p0, p1]) ∧ Below y.heap.size y w' ∧ Below wr.heap.size wr w' ∧ CrtAt n ⟨w'.heap.size, K.B, K.small⟩ w' [p0, p1] (ofC n (hidC c d))) := by
                    intro y hy
                    refine (of_any (K := ⟨wr.heap.size, K.B, K.small⟩) hy.size (HCD.out.below hy) [97] (by decide) ?_ ?_).mono ?_
                    · show (c.structs.filter (·.pub) ++ d.structs.map unpS).length ≤ 1000
                      have := List.length_filter_le (·.pub) c.structs
                      rw [List.length_append, List.length_map]; omega
                    · show (d.funcs.map unpF ++ (c.funcs.filter (·.pub)).map (hidF d)).length ≤ 1000
                      have := List.length_filter_le (·.pub) c.funcs
                      rw [List.length_append, List.length_map, List.length_map]; omega
                    rintro _ w6 ⟨p0, p1, rfl, hb6, hq⟩
                    exact ⟨p0, p1, rfl, hb6, hy.trans (hb6.mono hy.size), hq.to (K := ⟨w6.heap.size, K.B, K.small⟩) (fun b hb => hb.2)⟩
                  have CS : Hid (∀ y p0 p1 q0 q1, Below wr.heap.size wr y → CrtAt n ⟨y.heap.size, K.B, K.small⟩ y [p0, p1] (ofC n c) → CrtAt n ⟨y.heap.size, K.B, K.small⟩ y [q0, q1] (ofC n (hidC c d)) → Calls Tryz.prog 11 #[.agg #[.string (str [97]), p0, p1], .agg #[.string (str [97]), q0, q1]] y fun ev w' => ev = .returned (.bool true) ∧ Below wr.heap.size wr w') := by
                    intro y p0 p1 q0 q1 hy k1 k2
                    refine (ssame_any (K := ⟨y.heap.size, K.B, K.small⟩) (Nat.le_refl _) k1 k2 [97] [97] true ⟨fun _ => ⟨rfl, (ofC_hid n c d).symm⟩, fun _ => rfl⟩).mono ?_
                    rintro _ w6 ⟨rfl, hb6⟩
                    exact ⟨rfl, hy.trans (hb6.mono hy.size)⟩
                  have hS0 := (HE.out wr.drew ((Below.refl _ _).drew)).1
                  obtain ⟨va, vc, hv⟩ := HGS.out.rw.form
                  obtain ⟨ua, uc, hu⟩ := hg.rw.form
                  subst hv hu
                  generalize (c.structs.filter (·.pub) ++ d.structs.map unpS).length = nS at *
                  generalize (d.funcs.map unpF ++ (c.funcs.filter (·.pub)).map (hidF d)).length = nF at *
                  clear HCD HGS HX HY3 HA1 HB1 hg r2 r3 rb HC
                  go_wp2_with fail
                  refine beginL (fun y => Row y w.heap.size 25 [.slice a0 c.structs.length c0, .slice a1 c.funcs.length c1] ∧ Row y w2.heap.size 25 [.slice va nS vc, .slice ua nF uc]) 8 (by kernel_rfl) hS0 (fun hS0 => ?_)
                  refine readyL (rs := [0]) (by kernel_rfl) (by simp) ?_
                  refine ReadyL.cons rfl (fun KK hK => ?_) ReadyL.nil
                  go_simp
                  refine CT.out.mono ?_
                  rintro _ w5 ⟨rfl, q5⟩
                  refine hK.out _ _ (fun _ => (HE.out w5 q5).1) (fun _ => ?_)
                  clear hK KK
                  try simp only [Act.put]
                  try simp only [List.setIfInBounds_toArray]
                  try simp only [List.set_cons_succ]
                  try simp only [List.set_cons_zero]
                  have hS5 := (HE.out w5 q5).1
                  refine takeL 1 (v := ?vr1) rfl (some 117) rfl (by decide) (by kernel_rfl) (by kernel_rfl) (by kernel_rfl) (by kernel_rfl) (fun _ _ _ h => h) (Or.inl ⟨by rfl, ?hr1⟩) hS5 ?rr1
                  case hr1 => (intro y hy; go_simp; with_reducible rfl)
                  try simp only [Act.put]
                  try simp only [List.setIfInBounds_toArray]
                  try simp only [List.set_cons_succ]
                  try simp only [List.set_cons_zero]
                  refine takeL 2 (v := ?vr2) rfl (some 118) rfl (by decide) (by kernel_rfl) (by kernel_rfl) (by kernel_rfl) (by kernel_rfl) (fun _ _ _ h => h) (Or.inl ⟨by rfl, ?hr2⟩) hS5 ?rr2
                  case hr2 => (intro y hy; have c1 := hy.1.cell 0; have c2 := hy.1.cell 1; simp only [List.getElem?_cons_zero, List.getElem?_cons_succ] at c1 c2; go_simp; with_reducible rfl)
                  try simp only [Act.put]
                  try simp only [List.setIfInBounds_toArray]
                  try simp only [List.set_cons_succ]
                  try simp only [List.set_cons_zero]
                  refine takeL 4 (v := ?vr4) rfl (some 120) rfl (by decide) (by kernel_rfl) (by kernel_rfl) (by kernel_rfl) (by kernel_rfl) (fun _ _ _ h => h) (Or.inl ⟨by rfl, ?hr4⟩) hS5 ?rr4
                  case hr4 => (intro y hy; have c1 := hy.2.cell 0; have c2 := hy.2.cell 1; simp only [List.getElem?_cons_zero, List.getElem?_cons_succ] at c1 c2; go_simp; with_reducible rfl)
                  try simp only [Act.put]
                  try simp only [List.setIfInBounds_toArray]
                  try simp only [List.set_cons_succ]
                  try simp only [List.set_cons_zero]
                  refine readyL (rs := [3]) (by kernel_rfl) (by simp) ?_
                  refine ReadyL.cons rfl (fun KK hK => ?_) ReadyL.nil
                  refine wantR (by rfl) ?_
                  go_simp
                  refine (CO.out w5 q5).mono ?_
                  rintro _ w6 ⟨p0, p1, rfl, q6, z6, k6⟩
                  refine hK.out _ _ (fun _ => (HE.out w6 q6).1) (fun _ => ?_)
                  clear hK KK
                  try simp only [Act.put]
                  try simp only [List.setIfInBounds_toArray]
                  try simp only [List.set_cons_succ]
                  try simp only [List.set_cons_zero]
                  refine readyL (rs := [5]) (by kernel_rfl) (by simp) ?_
                  refine ReadyL.cons rfl (fun KK hK => ?_) ReadyL.nil
                  refine wantR (by rfl) ?_
                  go_simp
                  refine (CP.out w6 q6).mono ?_
                  rintro _ w7 ⟨p2, p3, rfl, b7, q7, k7⟩
                  refine hK.out _ _ (fun _ => (HE.out w7 q7).1) (fun _ => ?_)
                  clear hK KK
                  try simp only [Act.put]
                  try simp only [List.setIfInBounds_toArray]
                  try simp only [List.set_cons_succ]
                  try simp only [List.set_cons_zero]
                  refine readyL (rs := [6]) (by kernel_rfl) (by simp) ?_
                  refine ReadyL.cons rfl (fun KK hK => ?_) ReadyL.nil
                  refine wantR (by rfl) ?_
                  go_simp
                  refine (CS.out w7 p0 p1 p2 p3 q7 (k6 w7 b7) k7).mono ?_
                  rintro _ w8 ⟨rfl, q8⟩
                  refine hK.out _ _ (fun _ => (HE.out w8 q8).1) (fun _ => ?_)
                  clear hK KK
                  try simp only [Act.put]
                  try simp only [List.setIfInBounds_toArray]
                  try simp only [List.set_cons_succ]
                  try simp only [List.set_cons_zero]
                  have hS8 := (HE.out w8 q8).1
                  refine takeL 7 (v := ?vr7) rfl (some 123) rfl (by decide) (by kernel_rfl) (by kernel_rfl) (by kernel_rfl) (by kernel_rfl) (fun _ _ _ h => h) (Or.inl ⟨by rfl, ?hr7⟩) hS8 ?rr7
                  case hr7 => (intro y hy; go_simp; with_reducible rfl)
                  try simp only [Act.put]
                  try simp only [List.setIfInBounds_toArray]
                  try simp only [List.set_cons_succ]
                  try simp only [List.set_cons_zero]
                  refine readyL (rs := [8]) (by kernel_rfl) (by simp) ?_
                  refine ReadyL.cons rfl (fun KK hK => ?_) ReadyL.nil
                  have HQ := hidS (HE.out w8 q8).2
                  clear HE CT CO CP CS hS0 hS5 hS8 q5 q6 q7 q8 b7 k6 k7 z6
                  go_simp
                  refine hK.out _ _ (fun h => absurd rfl h) (fun _ => ?_)
                  clear hK KK
                  refine doneL (by kernel_rfl) ?_ _
                  go_wp2_with fail
                  go_ret
                  exact ⟨rfl, HQ.out⟩
end Go.Proofs.YtmopffaocamieaaGreat
