/-
  What a crate shows: the program makes its sig.
-/
import Derived.Test.YtmopffaocamieaaGreatJapSln4
import Derived.Deep.RegionHeld3
namespace Go.Proofs.YtmopffaocamieaaGreat
open Go.RowKit

theorem shut {p : Prop} (h : Hid p) : p := h
def noB (f : Fnc) : Fnc := { f with body := [] }
def shown (c : Crt) : Crt := ⟨c.structs.filter (·.pub), (c.funcs.filter (·.pub)).map noB⟩
def ofC (n : Nat) (c : Crt) : Crt := bareC n (shown c)

set_option maxHeartbeats 8000000 in
set_option maxRecDepth 20000 in
theorem of_any {n : Nat} {K : Ctx} {w : World} (hC : K.C ≤ w.heap.size) {c : Crt} {cs : List Value} (hx : CrtAt n K w cs c) (s : Bs) (hlen : s.length ≤ 140737488355328) (hs1 : c.structs.length ≤ 1000) (hs2 : c.funcs.length ≤ 1000) :
    Calls Tryz.prog 10 #[.string (str s), .agg cs.toArray] w fun ev w' => ∃ u0 u1, ev = .returned (.agg #[.string (str s), u0, u1]) ∧ Below w.heap.size w w' ∧ CrtQ n (Fr w w') K.B w' [u0, u1] (ofC n c) := by
  obtain ⟨v0, v1, rfl, h0, h1⟩ := hx
  obtain ⟨a0, c0, rfl, g0, gb0, A0⟩ := h0.shape
  obtain ⟨a1, c1, rfl, g1, gb1, A1⟩ := h1.shape
  clear h0 h1
  obtain ⟨W0, hW0⟩ : ∃ W0, W0 = ((w.alloc (.cells #[.slice a0 c.structs.length c0, .slice a1 c.funcs.length c1] 25)).alloc (.cells #[.string ⟨#[]⟩, .slice none 0 0, .slice none 0 0] 27)).alloc (.cells #[.slice none 0 0, .slice none 0 0] 25) := ⟨_, rfl⟩
  have hsz : W0.heap.size = w.heap.size + 3 := by rw [hW0, size_alloc, size_alloc, size_alloc]
  have hB0 : Below w.heap.size w W0 := by
    rw [hW0]; exact (alloc_two w _ _).alloc (alloc_two w _ _).size _
  have R0 : Row W0 w.heap.size 25 [.slice a0 c.structs.length c0, .slice a1 c.funcs.length c1] := by rw [hW0]; exact ((Row.new w 25 [.slice a0 c.structs.length c0, .slice a1 c.funcs.length c1]).alloc _).alloc _
  have R1 : Row W0 (w.heap.size + 1) 27 [.string ⟨#[]⟩, .slice none 0 0, .slice none 0 0] := by
    have := (Row.new (w.alloc (.cells #[.slice a0 c.structs.length c0, .slice a1 c.funcs.length c1] 25)) 27 [.string ⟨#[]⟩, .slice none 0 0, .slice none 0 0]).alloc (.cells #[.slice none 0 0, .slice none 0 0] 25)
    rw [size_alloc] at this; rw [hW0]; exact this
  have R2 : Row W0 (w.heap.size + 2) 25 [.slice none 0 0, .slice none 0 0] := by
    have := Row.new ((w.alloc (.cells #[.slice a0 c.structs.length c0, .slice a1 c.funcs.length c1] 25)).alloc (.cells #[.string ⟨#[]⟩, .slice none 0 0, .slice none 0 0] 27)) 25 [.slice none 0 0, .slice none 0 0]
    rw [size_alloc, size_alloc] at this; rw [hW0]; exact this
  have HA0 : Hid (∀ i (h : i < c.structs.length), ∃ b o cs, a0 = some ⟨b, o, none⟩ ∧ b < K.C ∧ (∀ j, j < 5 → w.cell? ⟨b, o + i * 5 + j, none⟩ = cs[j]?) ∧ SctAt K w cs c.structs[i]) := by
    intro i h; obtain ⟨b, o, e, hb, cs, hl, hcs, hp⟩ := A0 i h; exact ⟨b, o, cs, e, hb, hcs, hp⟩
  have HA1 : Hid (∀ i (h : i < c.funcs.length), ∃ b o cs, a1 = some ⟨b, o, none⟩ ∧ b < K.C ∧ (∀ j, j < 10 → w.cell? ⟨b, o + i * 10 + j, none⟩ = cs[j]?) ∧ FncAt n K w cs c.funcs[i]) := by
    intro i h; obtain ⟨b, o, e, hb, cs, hl, hcs, hp⟩ := A1 i h; exact ⟨b, o, cs, e, hb, hcs, hp⟩
  clear A0 A1
  have HW : Hid (W0 = ((w.alloc (.cells #[.slice a0 c.structs.length c0, .slice a1 c.funcs.length c1] 25)).alloc (.cells #[.string ⟨#[]⟩, .slice none 0 0, .slice none 0 0] 27)).alloc (.cells #[.slice none 0 0, .slice none 0 0] 25)) := hW0
  clear hW0
  have q0 := R0.cell 0
  have HR0 := hidA R0
  have HR1 := hidA R1
  have HR2 := hidA R2
  have HB0 := hidA hB0
  have HC := hidA hC
  clear R0 R1 R2 hB0 hC
  go_enter Tryz.func10, Tryz.ntmps10
  go_wp2_with fail
  rw [← HW.out]
  go_loopw [13] (fun i wr => ∃ (k : Nat) (v : Value), k ≤ c.structs.length ∧ i = .int .i64 k ∧ Grw 5 58 (SctAt K w) W0 wr (w.heap.size + 2) (fun v => [v, .slice none 0 0]) v ((c.structs.take k).filter (·.pub))) (fun i _ => c.structs.length - (intOf i).toNat)
  case atStart => exact ⟨0, .slice none 0 0, by omega, rfl, Grw.first HR2.out⟩
  case round =>
    obtain ⟨k, v, hk, rfl, hg⟩ := hrel
    by_cases h3 : k < c.structs.length
    · obtain ⟨b, o, cs, e, hbC, hcs, hp⟩ := HA0.out k h3
      subst e
      have hBw : Below K.C w wr := below_le (HB0.out.trans (hg.st.below (by omega) (fun q hq => by omega))) HC.out
      have hone := hp.one
      have HP := hidA hp
      obtain ⟨a2, n2, c2, a3, n3, c3, rfl⟩ := hp.open
      have i1 : (k : Int) < (c.structs.length : Int) := by omega
      have x0 : wr.cell? ⟨b, o + k * 5, none⟩ = some (.bool (c.structs[k]).pub) := by rw [hBw.cell (p := ⟨b, o + k * 5, none⟩) hbC]; exact hcs 0 (by decide)
      have x1 : wr.cell? ⟨b, o + k * 5 + 1, none⟩ = some (.string (str (c.structs[k]).name)) := by rw [hBw.cell (p := ⟨b, o + k * 5 + 1, none⟩) hbC]; exact hcs 1 (by decide)
      have x2 : wr.cell? ⟨b, o + k * 5 + 2, none⟩ = some (.slice a2 n2 c2) := by rw [hBw.cell (p := ⟨b, o + k * 5 + 2, none⟩) hbC]; exact hcs 2 (by decide)
      have x3 : wr.cell? ⟨b, o + k * 5 + 3, none⟩ = some (.slice a3 n3 c3) := by rw [hBw.cell (p := ⟨b, o + k * 5 + 3, none⟩) hbC]; exact hcs 3 (by decide)
      have x4 : wr.cell? ⟨b, o + k * 5 + 4, none⟩ = some (.int .i64 (c.structs[k]).pos) := by rw [hBw.cell (p := ⟨b, o + k * 5 + 4, none⟩) hbC]; exact hcs 4 (by decide)
      have HL := hidA (filter_snoc (·.pub) c.structs k h3)
      have HG := hidA hg
      have hl9 : c.structs.length ≤ 9223372036854775807 := by omega
      clear hp hcs hBw hg
      generalize hNM : str (c.structs[k]).name = NM at x1
      generalize hPO : (c.structs[k]).pos = PO at x4
      rw [hNM, hPO] at HP hone
      clear hNM hPO
      cases hpub : (c.structs[k]).pub with
      | false =>
        rw [hpub] at x0
        have HL2 : Hid ((c.structs.take (k + 1)).filter (·.pub) = (c.structs.take k).filter (·.pub)) := hidA (by
          have := HL.out; simp only [hpub] at this; simpa using this)
        clear HL HA0 HP hone hpub
        go_wp2_with fail
        go_roundw
        case rel => exact ⟨k + 1, v, by omega, by go_num, by rw [HL2.out]; exact HG.out.past (alloc_one _ _)⟩
        case measure => simp [intOf]; omega
      | true =>
        rw [hpub] at x0 HP hone
        have HL2 : Hid ((c.structs.take (k + 1)).filter (·.pub) = (c.structs.take k).filter (·.pub) ++ [c.structs[k]]) := hidA (by
          have := HL.out; simp only [hpub] at this; simpa using this)
        obtain ⟨ao, cp, rfl⟩ := HG.out.rw.form
        have y0 : ∀ ob, (wr.alloc ob).cell? ⟨w.heap.size + 2, 0, none⟩ = some (.slice ao ((c.structs.take k).filter (·.pub)).length cp) := fun ob => ((HG.out.past (alloc_one wr ob)).row.cell 0)
        have HA : Hid (∀ w5, Row w5 (wr.heap.size + 1) 58 [.bool true, .string NM, .slice a2 n2 c2, .slice a3 n3 c3, .int .i64 PO] → Below (wr.heap.size + 1) (wr.alloc (.cells #[.bool true, .string NM, .slice a2 n2 c2, .slice a3 n3 c3, .int .i64 PO] 58)) w5 → Grw 5 58 (SctAt K w) W0 w5 (w.heap.size + 2) (fun v => [v, .slice none 0 0]) (.slice ao ((c.structs.take k).filter (·.pub)).length cp) ((c.structs.take k).filter (·.pub))) := by
          intro w5 _ hb
          exact (HG.out.past (alloc_one wr _)).past (by rw [size_alloc]; exact hb)
        have HZ : Hid (∀ w5, Row w5 (wr.heap.size + 1) 58 [.bool true, .string NM, .slice a2 n2 c2, .slice a3 n3 c3, .int .i64 PO] → Below (wr.heap.size + 1) (wr.alloc (.cells #[.bool true, .string NM, .slice a2 n2 c2, .slice a3 n3 c3, .int .i64 PO] 58)) w5 → ∀ ao6 cp6 w6, Rws 5 58 (SctAt K w) W0.heap.size w6 (.slice ao6 (((c.structs.take k).filter (·.pub)).length + 1) cp6) ((c.structs.take k).filter (·.pub) ++ [c.structs[k]]) → Below W0.heap.size w5 w6 →
            w6.cell? ⟨w.heap.size + 2, 0, none⟩ = some (.slice ao ((c.structs.take k).filter (·.pub)).length cp) ∧ w6.frozen? ⟨w.heap.size + 2, 0, none⟩ = false ∧ Grw 5 58 (SctAt K w) W0 (w6.setCell ⟨w.heap.size + 2, 0, none⟩ (.slice ao6 (((c.structs.take k).filter (·.pub)).length + 1) cp6)) (w.heap.size + 2) (fun v => [v, .slice none 0 0]) (.slice ao6 (((c.structs.take k).filter (·.pub)).length + 1) cp6) ((c.structs.take k).filter (·.pub) ++ [c.structs[k]])) := by
          intro w5 h5 hb ao6 cp6 w6 hr6 hb6
          have G5 := HA.out w5 h5 hb
          have R6 := G5.row.below hb6 G5.lt
          exact ⟨R6.cell 0, R6.fz 0, G5.put 0 rfl hr6 hb6⟩
        have hln : ((c.structs.take k).filter (·.pub)).length ≤ 1000 := Nat.le_trans (List.length_filter_le _ _) (by rw [List.length_take]; omega)
        clear HL HA0 hpub
        go_wp2_with (first | (refine bsliceL rfl 22 58 5 80 _ (.tmp 21) rfl Tryz.underlying22 Tryz.info58z (by decide) (by decide) [.bool true, .string NM, .slice a2 n2 c2, .slice a3 n3 c3, .int .i64 PO] rfl rfl ?_; intro w5 hR5 hB5 hz5; rw [size_alloc] at hR5 hB5 hz5; apply shut))
        show wpList _ _ _ _ _ _
        refine wpl_add rfl (.tmp 20) (.tmp 22) rfl Tryz.underlying22 Tryz.info58z rfl (by decide) rfl rfl (HA.out w5 hR5 hB5).rw (by have := (HA.out w5 hR5 hB5).st.size; omega) hR5 rfl hone HP.out (by omega) (by decide) ?_
        intro ao6 cp6 w6 hr6 hb6
        obtain ⟨y6, z6, G6⟩ := HZ.out w5 hR5 hB5 ao6 cp6 w6 hr6 hb6
        replace G6 := hidA G6
        clear hr6 hb6 hR5 hB5 hz5
        go_wp2_with fail
        go_roundw
        case rel => exact ⟨k + 1, _, by omega, by go_num, by rw [HL2.out]; exact G6.out⟩
        case measure => simp [intOf]; omega
    · obtain rfl : k = c.structs.length := by omega
      rw [List.take_length] at hg
      have i1 : ¬ (c.structs.length : Int) < (c.structs.length : Int) := by omega
      have y1 : wr.cell? ⟨w.heap.size, 1, none⟩ = some (.slice a1 c.funcs.length c1) := (Stay.row hg.st HR0.out (by omega)).cell 1
      have HG1 := hidA hg
      have hsW : w.heap.size + 3 ≤ wr.heap.size := by have := hg.st.size; omega
      have HBW : Hid (Below w.heap.size w wr) := HB0.out.trans (hg.st.below (by omega) (fun q hq => by omega))
      have HRS : Hid (Row wr (w.heap.size + 1) 27 [.string ⟨#[]⟩, .slice none 0 0, .slice none 0 0]) := Stay.row hg.st HR1.out (by omega)
      clear HA0 hg h3 hk HW HR0 HR1 HR2 HB0 q0
      go_wp2_with fail
      generalize hw1 : wr = W1 at *
      go_loopw [29] (fun i wr => ∃ (k : Nat) (u : Value), k ≤ c.funcs.length ∧ i = .int .i64 k ∧ Grw 10 65 (FncAt n K w) W1 wr (w.heap.size + 2) (fun u => [v, u]) u (((c.funcs.take k).filter (·.pub)).map noB)) (fun i _ => c.funcs.length - (intOf i).toNat)
      case atStart => exact ⟨0, .slice none 0 0, by omega, rfl, Grw.first HG1.out.row⟩
      case round =>
        obtain ⟨k, u, hk, rfl, hg⟩ := hrel
        by_cases h3 : k < c.funcs.length
        · obtain ⟨b, o, cs, e, hbC, hcs, hp⟩ := HA1.out k h3
          subst e
          have hBw : Below K.C w wr := below_le (HBW.out.trans (hg.st.below (by omega) (fun q hq => by omega))) HC.out
          have HN : Hid (FncAt n K w (cs.set 8 (.slice none 0 0)) (noB c.funcs[k])) := hidA (by
            have := hp.setBody (u := .slice none 0 0) (l := []) nil_ar (c.funcs[k]).pos
            obtain ⟨_, _, _, _, _, _, _, _, _, _, _, _, _, _, e⟩ := hp.open
            rw [e] at this ⊢
            exact this)
          obtain ⟨a2, n2, c2, a3, n3, c3, t2, m2, d2, t3, m3, d3, a8, c8, rfl⟩ := hp.open
          have i1 : (k : Int) < (c.funcs.length : Int) := by omega
          have x0 : wr.cell? ⟨b, o + k * 10, none⟩ = some (.bool (c.funcs[k]).pub) := by rw [hBw.cell (p := ⟨b, o + k * 10, none⟩) hbC]; exact hcs 0 (by decide)
          have x1 : wr.cell? ⟨b, o + k * 10 + 1, none⟩ = some (.string (str (c.funcs[k]).name)) := by rw [hBw.cell (p := ⟨b, o + k * 10 + 1, none⟩) hbC]; exact hcs 1 (by decide)
          have x2 : wr.cell? ⟨b, o + k * 10 + 2, none⟩ = some (.slice a2 n2 c2) := by rw [hBw.cell (p := ⟨b, o + k * 10 + 2, none⟩) hbC]; exact hcs 2 (by decide)
          have x3 : wr.cell? ⟨b, o + k * 10 + 3, none⟩ = some (.slice a3 n3 c3) := by rw [hBw.cell (p := ⟨b, o + k * 10 + 3, none⟩) hbC]; exact hcs 3 (by decide)
          have x4 : wr.cell? ⟨b, o + k * 10 + 4, none⟩ = some (.int .i64 (c.funcs[k]).result.kind) := by rw [hBw.cell (p := ⟨b, o + k * 10 + 4, none⟩) hbC]; exact hcs 4 (by decide)
          have x5 : wr.cell? ⟨b, o + k * 10 + 5, none⟩ = some (.string (str (c.funcs[k]).result.name)) := by rw [hBw.cell (p := ⟨b, o + k * 10 + 5, none⟩) hbC]; exact hcs 5 (by decide)
          have x6 : wr.cell? ⟨b, o + k * 10 + 6, none⟩ = some (.slice t2 m2 d2) := by rw [hBw.cell (p := ⟨b, o + k * 10 + 6, none⟩) hbC]; exact hcs 6 (by decide)
          have x7 : wr.cell? ⟨b, o + k * 10 + 7, none⟩ = some (.slice t3 m3 d3) := by rw [hBw.cell (p := ⟨b, o + k * 10 + 7, none⟩) hbC]; exact hcs 7 (by decide)
          have x8 : wr.cell? ⟨b, o + k * 10 + 8, none⟩ = some (.slice a8 (c.funcs[k]).body.length c8) := by rw [hBw.cell (p := ⟨b, o + k * 10 + 8, none⟩) hbC]; exact hcs 8 (by decide)
          have x9 : wr.cell? ⟨b, o + k * 10 + 9, none⟩ = some (.int .i64 (c.funcs[k]).pos) := by rw [hBw.cell (p := ⟨b, o + k * 10 + 9, none⟩) hbC]; exact hcs 9 (by decide)
          have HL := hidA (filter_snoc (·.pub) c.funcs k h3)
          have HG := hidA hg
          have hl9 : c.funcs.length ≤ 9223372036854775807 := by omega
          have hone := HN.out.one
          clear hp hcs hBw hg
          simp only [List.set_cons_succ, List.set_cons_zero] at HN hone
          cases hpub : (c.funcs[k]).pub with
          | false =>
            rw [hpub] at x0
            have HL2 : Hid (((c.funcs.take (k + 1)).filter (·.pub)).map noB = ((c.funcs.take k).filter (·.pub)).map noB) := hidA (by
              have := HL.out; simp only [hpub] at this; rw [this]; simp)
            clear HL HA1 HN hone hpub
            generalize str (c.funcs[k]).name = NM at *
            generalize (c.funcs[k]).result.kind = RK at *
            generalize str (c.funcs[k]).result.name = RN at *
            generalize (c.funcs[k]).body.length = BL at *
            generalize (c.funcs[k]).pos = PO at *
            go_wp2_with fail
            go_roundw
            case rel => exact ⟨k + 1, u, by omega, by go_num, by rw [HL2.out]; exact HG.out.past (alloc_one _ _)⟩
            case measure => simp [intOf]; omega
          | true =>
            rw [hpub] at x0 HN hone
            have HL2 : Hid (((c.funcs.take (k + 1)).filter (·.pub)).map noB = ((c.funcs.take k).filter (·.pub)).map noB ++ [noB c.funcs[k]]) := hidA (by
              have := HL.out; simp only [hpub] at this; rw [this]; simp)
            have hln : (((c.funcs.take k).filter (·.pub)).map noB).length ≤ 1000 := by rw [List.length_map]; exact Nat.le_trans (List.length_filter_le _ _) (by rw [List.length_take]; omega)
            obtain ⟨LS, hLS⟩ : ∃ LS, LS = ((c.funcs.take k).filter (·.pub)).map noB := ⟨_, rfl⟩
            rw [← hLS] at HG HL2 hln
            clear hLS
            obtain ⟨ao, cp, rfl⟩ := HG.out.rw.form
            have y0 : ∀ ob, (wr.alloc ob).cell? ⟨w.heap.size + 2, 1, none⟩ = some (.slice ao LS.length cp) := fun ob => ((HG.out.past (alloc_one wr ob)).row.cell 1)
            clear HL HA1 hpub
            generalize str (c.funcs[k]).name = NM at *
            generalize (c.funcs[k]).result.kind = RK at *
            generalize str (c.funcs[k]).result.name = RN at *
            generalize (c.funcs[k]).body.length = BL at *
            generalize (c.funcs[k]).pos = PO at *
            have HA : Hid (∀ w5, Row w5 (wr.heap.size + 1) 65 [.bool true, .string NM, .slice a2 n2 c2, .slice a3 n3 c3, .int .i64 RK, .string RN, .slice t2 m2 d2, .slice t3 m3 d3, .slice none 0 0, .int .i64 PO] → Below (wr.heap.size + 1) (wr.alloc (.cells #[.bool true, .string NM, .slice a2 n2 c2, .slice a3 n3 c3, .int .i64 RK, .string RN, .slice t2 m2 d2, .slice t3 m3 d3, .slice none 0 0, .int .i64 PO] 65)) w5 → Grw 10 65 (FncAt n K w) W1 w5 (w.heap.size + 2) (fun u => [v, u]) (.slice ao LS.length cp) LS) := by
              intro w5 _ hb
              exact (HG.out.past (alloc_one wr _)).past (by rw [size_alloc]; exact hb)
            have HZ : Hid (∀ w5, Row w5 (wr.heap.size + 1) 65 [.bool true, .string NM, .slice a2 n2 c2, .slice a3 n3 c3, .int .i64 RK, .string RN, .slice t2 m2 d2, .slice t3 m3 d3, .slice none 0 0, .int .i64 PO] → Below (wr.heap.size + 1) (wr.alloc (.cells #[.bool true, .string NM, .slice a2 n2 c2, .slice a3 n3 c3, .int .i64 RK, .string RN, .slice t2 m2 d2, .slice t3 m3 d3, .slice none 0 0, .int .i64 PO] 65)) w5 → ∀ ao6 cp6 w6, Rws 10 65 (FncAt n K w) W1.heap.size w6 (.slice ao6 (LS.length + 1) cp6) (LS ++ [noB c.funcs[k]]) → Below W1.heap.size w5 w6 →
                w6.cell? ⟨w.heap.size + 2, 1, none⟩ = some (.slice ao LS.length cp) ∧ w6.frozen? ⟨w.heap.size + 2, 1, none⟩ = false ∧ Grw 10 65 (FncAt n K w) W1 (w6.setCell ⟨w.heap.size + 2, 1, none⟩ (.slice ao6 (LS.length + 1) cp6)) (w.heap.size + 2) (fun u => [v, u]) (.slice ao6 (LS.length + 1) cp6) (LS ++ [noB c.funcs[k]])) := by
              intro w5 h5 hb ao6 cp6 w6 hr6 hb6
              have G5 := HA.out w5 h5 hb
              have R6 := G5.row.below hb6 G5.lt
              exact ⟨R6.cell 1, R6.fz 1, G5.put 1 rfl hr6 hb6⟩
            go_wp2_with (first | (refine bsliceL rfl 23 65 10 176 _ (.tmp 38) rfl Tryz.underlying23 Tryz.info65z (by decide) (by decide) [.bool true, .string NM, .slice a2 n2 c2, .slice a3 n3 c3, .int .i64 RK, .string RN, .slice t2 m2 d2, .slice t3 m3 d3, .slice none 0 0, .int .i64 PO] rfl rfl ?_; intro w5 hR5 hB5 hz5; rw [size_alloc] at hR5 hB5 hz5; apply shut))
            show wpList _ _ _ _ _ _
            refine wpl_add rfl (.tmp 37) (.tmp 39) rfl Tryz.underlying23 Tryz.info65z rfl (by decide) rfl rfl (HA.out w5 hR5 hB5).rw (by have := (HA.out w5 hR5 hB5).st.size; omega) hR5 rfl hone HN.out (Nat.le_trans hln (by decide)) (by decide) ?_
            intro ao6 cp6 w6 hr6 hb6
            obtain ⟨y6, z6, G6⟩ := HZ.out w5 hR5 hB5 ao6 cp6 w6 hr6 hb6
            replace G6 := hidA G6
            clear hr6 hb6 hR5 hB5 hz5
            go_wp2_with fail
            go_roundw
            case rel => exact ⟨k + 1, _, by omega, by go_num, by rw [HL2.out]; exact G6.out⟩
            case measure => simp [intOf]; omega
        · obtain rfl : k = c.funcs.length := by omega
          rw [List.take_length] at hg
          have i1 : ¬ (c.funcs.length : Int) < (c.funcs.length : Int) := by omega
          have HF : Hid (CrtAt n ⟨wr.heap.size, K.B, K.small⟩ wr [v, u] (shown c)) := hidA (by
            obtain ⟨L1, q1, o1⟩ := HG1.out.rw
            obtain ⟨L2, q2, o2⟩ := hg.rw
            have hb : Below K.C w wr := below_le (HBW.out.trans (hg.st.below (by omega) (fun q hq => by omega))) HC.out
            have hle : K.C ≤ wr.heap.size := Nat.le_trans HC.out (by have := hg.st.size; omega)
            have o1' : wr.ownsRow W0.heap.size 58 5 v (c.structs.filter (·.pub)).length L1.flatten := own_sameR o1 fun k e => hg.st.block k (o1.lt k e).2 (fun e' => by have := (o1.lt k e).1; omega)
            refine ⟨v, u, rfl, ar_own (q1.mono fun cs x hx => (hx.below hb).up hle) o1' (Nat.le_refl _) ?_, ar_own (q2.mono fun cs x hx => (hx.below hb).up hle) o2 (Nat.le_refl _) ?_⟩
            · show (c.structs.filter (·.pub)).length * 80 ≤ _
              have := List.length_filter_le (·.pub) c.structs
              have : (c.structs.filter (·.pub)).length * 80 ≤ 1000 * 80 := Nat.mul_le_mul_right _ (by omega)
              omega
            · show ((c.funcs.filter (·.pub)).map noB).length * 176 ≤ _
              have := List.length_filter_le (·.pub) c.funcs
              have : (((c.funcs.filter (·.pub)).map noB).length) * 176 ≤ 1000 * 176 := Nat.mul_le_mul_right _ (by rw [List.length_map]; omega)
              omega)
          obtain ⟨va, vc, hv⟩ := HG1.out.rw.form
          obtain ⟨ua, uc, hu⟩ := hg.rw.form
          have m0 : wr.cell? ⟨w.heap.size + 2, 0, none⟩ = some v := hg.row.cell 0
          have m1 : wr.cell? ⟨w.heap.size + 2, 1, none⟩ = some u := hg.row.cell 1
          have D1 : Hid (Calls Tryz.prog 25 #[.agg #[v, u]] wr fun ev w' => ∃ p0 k0 e0 p1 k1 e1, ev = .returned (.agg #[.slice p0 k0 e0, .slice p1 k1 e1]) ∧ Below wr.heap.size wr w' ∧ CrtQ n (Fr wr w') K.B w' [.slice p0 k0 e0, .slice p1 k1 e1] (ofC n c)) := by
            refine (bare_any (Nat.le_refl _) HF.out).mono ?_
            rintro _ w3 ⟨u0, u1, rfl, hb, hq⟩
            obtain ⟨x0, x1, e, q0, q1⟩ := hq
            cases e
            obtain ⟨p0, e0, rfl⟩ := q0.form
            obtain ⟨p1, e1, rfl⟩ := q1.form
            exact ⟨_, _, _, _, _, _, rfl, hb, _, _, rfl, q0, q1⟩
          have HRW : Hid (Row wr (w.heap.size + 1) 27 [.string ⟨#[]⟩, .slice none 0 0, .slice none 0 0] ∧ Row wr (w.heap.size + 2) 25 [v, u] ∧ Below w.heap.size w wr) := ⟨Stay.row hg.st HRS.out (by omega), hg.row, HBW.out.trans (hg.st.below (by omega) (fun q hq => by omega))⟩
          have hsr : w.heap.size + 3 ≤ wr.heap.size := by have := hg.st.size; omega
          clear hg HF HG1 HA1 HC HBW HRS h3 hk
          subst hv hu
          generalize (c.structs.filter (·.pub)).length = nS at *
          generalize (((c.funcs.filter (·.pub)).map noB)).length = nF at *
          go_wp2_with fail
          refine D1.out.mono ?_
          rintro _ w3 ⟨p0, k0, e0, p1, k1, e1, rfl, hb3, hq3⟩
          have HX : Hid (∀ X, X = (w3.setCell ⟨w.heap.size + 2, 0, none⟩ (.slice p0 k0 e0)).setCell ⟨w.heap.size + 2, 1, none⟩ (.slice p1 k1 e1) → ∀ y, Below X.heap.size X y → (y.cell? ⟨w.heap.size + 2, 0, none⟩ = some (.slice p0 k0 e0) ∧ y.cell? ⟨w.heap.size + 2, 1, none⟩ = some (.slice p1 k1 e1)) ∧ Row y (w.heap.size + 1) 27 [.string ⟨#[]⟩, .slice none 0 0, .slice none 0 0] ∧ Below w.heap.size w y ∧ CrtQ n (Fr wr y) K.B y [.slice p0 k0 e0, .slice p1 k1 e1] (ofC n c)) := by
            rintro X rfl y hy
            obtain ⟨r1, r2, r3⟩ := HRW.out
            have hs := hb3.size
            have R2 := ((r2.below hb3 r2.lt).set 0 (.slice p0 k0 e0)).set 1 (.slice p1 k1 e1)
            have S5 : Stay (fun k => k = w.heap.size + 2) w3 ((w3.setCell ⟨w.heap.size + 2, 0, none⟩ (.slice p0 k0 e0)).setCell ⟨w.heap.size + 2, 1, none⟩ (.slice p1 k1 e1)) :=
              Stay.set (X := fun k => k = w.heap.size + 2) (Stay.set (X := fun k => k = w.heap.size + 2) (Stay.refl _ _) (fun _ => rfl) _ _) (fun _ => rfl) _ _
            have R2y := R2.below hy R2.lt
            have S6 : Stay (fun k => k = w.heap.size + 2) w3 y := S5.trans (Stay.of_below hy)
            exact ⟨⟨R2y.cell 0, R2y.cell 1⟩, Stay.row S6 (r1.below hb3 r1.lt) (by omega), r3.trans ((below_le hb3 (by omega)).trans (S6.below (by omega) (fun q hq => by omega))), hq3.mono (Kp.fr S6 (by omega) (Nat.le_refl _))⟩
          have R3 := HRW.out.2.1.below hb3 HRW.out.2.1.lt
          have o0 := R3.cell 0
          have o1 := R3.cell 1
          have f0 := R3.fz 0
          have f1 := R3.fz 1
          simp only [List.getElem?_cons_zero, List.getElem?_cons_succ] at o0 o1
          have D2 : Hid (∀ X, X = (w3.setCell ⟨w.heap.size + 2, 0, none⟩ (.slice p0 k0 e0)).setCell ⟨w.heap.size + 2, 1, none⟩ (.slice p1 k1 e1) → Calls Tryz.prog 26 #[.string (str s)] X.drew fun ev w' => ev = .returned (.string (str s)) ∧ Below X.heap.size X w' ∧ Row w' (w.heap.size + 1) 27 [.string ⟨#[]⟩, .slice none 0 0, .slice none 0 0]) := by
            intro X hX
            refine (cloneO s hlen X.drew).mono ?_
            rintro _ w4 ⟨rfl, hb⟩
            have hb' : Below X.heap.size X w4 := ((Below.refl _ _).drew).trans hb
            exact ⟨rfl, hb', (HX.out X hX w4 hb').2.1⟩
          have HD : Hid (∀ X, X = (w3.setCell ⟨w.heap.size + 2, 0, none⟩ (.slice p0 k0 e0)).setCell ⟨w.heap.size + 2, 1, none⟩ (.slice p1 k1 e1) → Below X.heap.size X X.drew) := fun X _ => (Below.refl _ _).drew
          clear D1 hb3 hq3 HRW R3 m0 m1
          go_wp2_with fail
          obtain ⟨X, hX⟩ : ∃ X, X = (w3.setCell ⟨w.heap.size + 2, 0, none⟩ (.slice p0 k0 e0)).setCell ⟨w.heap.size + 2, 1, none⟩ (.slice p1 k1 e1) := ⟨_, rfl⟩
          have HS := hidA (HX.out X hX)
          have D := hidA (D2.out X hX)
          have hd := HD.out X hX
          rw [← hX]
          clear HX D2 HD hX o0 o1 f0 f1
          have HS2 : Hid (∀ y, Below X.heap.size X y → y.cell? ⟨w.heap.size + 1 + 1, 0, none⟩ = some (.slice p0 k0 e0) ∧ y.cell? ⟨w.heap.size + 1 + 1, 1, none⟩ = some (.slice p1 k1 e1)) := fun y hy => (HS.out y hy).1
          have hne1 : w.heap.size + 1 ≠ w.heap.size + 1 + 1 := by omega
          have hne2 : w.heap.size + 1 + 1 ≠ w.heap.size + 1 := by omega
          generalize hS1 : str s = SS at *
          go_region_held3 (fun z => z.cell? ⟨w.heap.size + 1 + 1, 0, none⟩ = some (.slice p0 k0 e0) ∧ z.cell? ⟨w.heap.size + 1 + 1, 1, none⟩ = some (.slice p1 k1 e1)) (first | exact HS2.out _ (by assumption) | go_keep) (first | (go_at_call 26; refine D.out.mono ?_; rintro _ w4 ⟨rfl, q1, q2⟩; have r0 := q2.cell 0; have r1 := q2.cell 1; have r2 := q2.cell 2; have t0 := q2.fz 0; have t1 := q2.fz 1; have t2 := q2.fz 2; simp only [List.getElem?_cons_zero, List.getElem?_cons_succ] at r0 r1 r2; have HQ := hidA q2; clear q2))
          go_wp2_with fail
          subst hS1
          have R5 := ((HQ.out.set 0 (.string (str s))).set 1 (.slice p0 k0 e0)).set 2 (.slice p1 k1 e1)
          have S5 : Stay (fun k => k = w.heap.size + 1) w4 (((w4.setCell ⟨w.heap.size + 1, 0, none⟩ (.string (str s))).setCell ⟨w.heap.size + 1, 1, none⟩ (.slice p0 k0 e0)).setCell ⟨w.heap.size + 1, 2, none⟩ (.slice p1 k1 e1)) :=
            Stay.set (X := fun k => k = w.heap.size + 1) (Stay.set (X := fun k => k = w.heap.size + 1) (Stay.set (X := fun k => k = w.heap.size + 1) (Stay.refl _ _) (fun _ => rfl) _ _) (fun _ => rfl) _ _) (fun _ => rfl) _ _
          obtain ⟨_, _, g3, g4⟩ := HS.out w4 q1
          exact bodyPost_ret (v := .agg #[.string (str s), .slice p0 k0 e0, .slice p1 k1 e1]) (results_cell_row Tryz.results10 _ _ (w.heap.size + 1) 27 _ (0, 0) _ rfl R5.heap Tryz.underlying27 rfl (by kernel_rfl)) rfl ⟨_, _, rfl, g3.trans (S5.below g3.size (fun k hk => by omega)), g4.mono (Kp.fr S5 (by omega) (by omega))⟩
end Go.Proofs.YtmopffaocamieaaGreat
