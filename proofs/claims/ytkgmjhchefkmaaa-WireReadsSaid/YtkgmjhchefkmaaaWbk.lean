/-
  WireBack answers true, whatever the things.
-/
import Derived.Test.YtkgmjhchefkmaaaBck
import Derived.Stop.BytesEq
namespace Go.Proofs.Ytkgmjhchefkmaaa
open Go.RowKit

/-- Where the second loop stands: the Reader behind the first j things; the Writer as it was. -/
structure BRel (w : World) (wb rb : Nat) (v1 v5 : Value) (L : List UInt8) (p : Nat) (ws : World) : Prop where
  rd : Rd ws rb v5 L p
  wt : Wr w.heap.size ws wb v1 L
  below : Below w.heap.size w ws
theorem BRel.past {w : World} {wb rb : Nat} {v1 v5 : Value} {L : List UInt8} {p : Nat} {ws ws' : World} (h : BRel w wb rb v1 v5 L p ws) (hb : Below ws.heap.size ws ws') : BRel w wb rb v1 v5 L p ws' :=
  ⟨h.rd.past hb, h.wt.past hb, h.below.trans (hb.mono h.below.size)⟩
theorem BRel.read {w : World} {wb rb D : Nat} {v1 v5 : Value} {L : List UInt8} {p q : Nat} {ws ws' : World} {e : Value} (h : BRel w wb rb v1 v5 L p ws) (hB : Back ws ws' rb v5 L q e) (hw : wb < D) (ho : ∀ k, v1.ownBlock = some k → k < D) (hD : D ≤ rb) : BRel w wb rb v1 v5 L q ws' := by
  have hlt := h.rd.lt
  have hb : Below D ws ws' := below_grown hB.2.2 (by omega) (fun k e => by cases e; exact hD)
  exact ⟨hB.2.1, h.wt.below hw ho hb, h.below.trans (hb.mono (Nat.le_of_lt (Nat.lt_of_le_of_lt h.wt.base hw)))⟩

/-- A whole value stored into a block that is known: what is known of the world behind it. -/
theorem store_box {P : Program} {ops : Array Oper} {rest : List Oper} {o : Oper} {a : Act} {w : World} {Q : Exit → Act → World → Prop} (hgd : o.guard = none) (ty : TypeId) (x y : Operand) (ho : o.op = .store ty x y)
    (g : Nat) (cells : Array Value) (hx : a.eval x = .pointer (some ⟨g, 0, none⟩)) (hy : a.eval y = .agg cells)
    (t : TypeId) (old : Array Value) (hg : w.heap[g]? = some (.cells old t (0, 0))) (hi : (P.info? ty).map (·.size) = some cells.size)
    (hold : old.size = cells.size) (h1 : cells.all (·.oneCell') = true) (w0 : World) (hb : Below g w0 w)
    (h : ∀ w', w'.heap[g]? = some (.cells cells t (0, 0)) → Below g w0 w' → wpList P ops Q rest (a.put o.dst undef) w') : wpList P ops Q (o :: rest) a w :=
  wpList_store_row hgd ty x y ho g cells hx hy t old hg hi hold h1 (h _ (setRow_heap w g old cells t _ hg) (below_setRow hb (Nat.le_refl _) _))

theorem Opv.cells_one (o : Opv) : o.cells.toArray.all (·.oneCell') = true := by
  refine all_oneCell_toArray fun u hu => ?_
  unfold Opv.cells at hu
  rw [List.mem_append] at hu
  rcases hu with hu | hu
  · simp at hu
    rcases hu with rfl | rfl | rfl | rfl | rfl | rfl <;> rfl
  · exact bys_one _ u hu
theorem Opv.cells38 (o : Opv) (ho : o.ok) : o.cells.toArray.size = 38 := by simp [Opv.cells, bys_len, ho.h32]
theorem hash_eq (w : World) (h : List UInt8) (hl : h.length = 32) : (binOp .eql 27 (.agg (bys h).toArray) (.agg (bys h).toArray)).run Try.prog w = .ok (.bool true) w := by
  have := run_eql_bytes (P := Try.prog) w 27 5 32 Try.underlying27 Try.underlying5 (fun w => by
    obtain ⟨i0, hi, hz0, hz1, hz2⟩ := info_parts Try.info5
    simp [sizeOf, typeInfo, hi, hz1]) h h hl hl
  rw [beq_self_eq_true] at this
  exact this

set_option maxHeartbeats 8000000 in
set_option maxRecDepth 20000 in
theorem back_walk (v0 : Value) (n : Nat) (f : Nat → Opv) (w : World) (h : Ops w v0 n f) :
    Calls Try.prog 5 #[v0] w fun ev w' => ev = .returned (.bool true) ∧ Below w.heap.size w w' := by
  obtain ⟨ao, cap, rfl⟩ : ∃ ao cap, v0 = .slice ao n cap := by
    rcases h.shape with ⟨ao, cap, rfl, _⟩ | ⟨b, off, cap, rfl, _⟩
    · exact ⟨_, _, rfl⟩
    · exact ⟨_, _, rfl⟩
  have hmax := h.max
  have HO : Hid (∀ wr, Below w.heap.size w wr → ∀ k, k < n → ∃ b off, ao = some ⟨b, off, none⟩ ∧ wr.rangeAt b (off + k * 38) (f k).cells) := by
    intro wr hb k hk
    rcases (h.below hb).shape with ⟨_, c, _, h0⟩ | ⟨b, off, c, hv, hc⟩
    · omega
    · cases hv
      exact ⟨b, off, rfl, hc k hk⟩
  have HK : Hid (∀ i, i < n → (f i).ok ∧ (f i).s.size ≤ 9223372036854775807) := h.ok
  clear h
  go_enter Try.func5, Try.ntmps5
  go_wp2_with fail
  refine (newWriter_any w).mono ?_
  rintro ev w1 ⟨rfl, hW1, hb1⟩
  go_wp2_with fail
  go_loopw [4] (fun i wr => ∃ k : Nat, k ≤ n ∧ k ≤ 30 ∧ i = .int .i64 k ∧ WRel w w.heap.size w.heap.size f k wr) (fun i _ => n - (intOf i).toNat)
  case atStart => exact ⟨0, by omega, by omega, rfl, ⟨fun i hi => by omega, ⟨_, hW1⟩, hb1⟩⟩
  case round =>
    obtain ⟨k, hk, hk30, rfl, hR⟩ := hrel
    clear hW1 hb1
    have A : Aside (WRel w w.heap.size w.heap.size f k wr) := hR
    clear hR
    by_cases hlt : k < n ∧ k < 30
    · obtain ⟨hkn, hk3⟩ := hlt
      obtain ⟨b, off, rfl, hrow⟩ := HO.out wr A.out.below k hkn
      have q5 := at_field wr b _ (f k) hrow 5 (.string (f k).s) rfl
      have hs63 := (HK.out k hkn).2
      have HRow : Hid (wr.rangeAt b (off + k * 38) (f k).cells) := hrow
      have hi := Try.sz29' (f k) (HK.out k hkn).1
      clear hrow
      by_cases hbig : 500 < (f k).s.size
      · go_wp2_with fail
        refine (tell_any wr).mono ?_
        rintro ev w2 ⟨rfl, hb2⟩
        have hB := A.out.below.trans (hb2.mono A.out.below.size)
        go_wp2_with fail
        go_ret
        exact ⟨rfl, hB⟩
      · have hml : (msgs f k).length ≤ k * 542 := msgs_le f k (fun i hi => ⟨(HK.out i (by omega)).1, A.out.few i hi⟩)
        have C1 : Calls Try.prog 12 #[.pointer (some ⟨w.heap.size, 0, none⟩), .agg (f k).cells.toArray] wr fun ev w' => ev = .returned (.string (str (f k).msg)) ∧ WRel w w.heap.size w.heap.size f (k + 1) w' := by
          obtain ⟨v1, hW⟩ := A.out.has
          refine (write_any w.heap.size w.heap.size (f k) v1 (msgs f k) wr (HK.out k hkn).1 (by omega) hW (by omega)).mono ?_
          rintro ev w' ⟨rfl, v', hW', hm⟩
          refine ⟨rfl, fun i hi => ?_, ⟨v', hW'⟩, A.out.below.trans (hm.below hW)⟩
          rcases Nat.lt_or_ge i k with h | h
          · exact A.out.few i h
          · obtain rfl : i = k := by omega
            omega
        clear A
        generalize hCC : (f k).cells = CC at *
        generalize str (f k).msg = S2 at *
        go_wp2_with (refine wpList_load_mid rfl 29 _ rfl b (off + k * 38) rfl CC _ HRow.out Try.underlying29 rfl hi ?_)
        refine C1.mono ?_
        rintro ev w2 ⟨rfl, hR2⟩
        clear C1
        go_wp2_with fail
        go_roundw
        case rel => exact ⟨k + 1, by omega, by omega, by go_num, hR2⟩
        case measure => simp [intOf]; omega
    · have hml : (msgs f k).length ≤ k * 542 := msgs_le f k (fun i hi => ⟨(HK.out i (by omega)).1, A.out.few i hi⟩)
      have hB1 := A.out.below
      obtain ⟨v1, hW⟩ := A.out.has
      have HF : Hid (∀ i, i < k → (f i).s.size ≤ 500) := A.out.few
      have AW : Aside (Wr w.heap.size wr w.heap.size v1 (msgs f k)) := hW
      have C1 := wBytes_any _ _ _ _ _ hW (by omega)
      have HSp : Hid (∀ j, j < k → ∃ t, (msgs f k).drop (msgs f j).length = (f j).msg ++ t) := fun j hj => msgs_split f hj
      have HN : Hid (∀ j, (msgs f (j + 1)).length = (msgs f j).length + (f j).msg.length) := fun j => by simp [msgs]
      have HE : Hid ((msgs f k).length = (msgs f k).length) := rfl
      clear A hW
      generalize hL : msgs f k = L at *
      by_cases hkn : k < n
      · have hk3 : ¬ k < 30 := fun h => hlt ⟨hkn, h⟩
        clear hlt
        go_wp2_with fail
        refine C1.mono ?_
        rintro ev w2 ⟨v4, rfl, hown4, hb2⟩
        obtain ⟨ao4, cap4, rfl⟩ := own_shape hown4
        have C2 := newReader_any w2 _ L (Sl.ofOwn hown4) (by
          intro c e
          rcases hown4.2 with ⟨h0, _⟩ | ⟨g, c', cur, h0, _⟩
          · rw [h0] at e; simp at e; exact e.symm
          · rw [h0] at e; simp at e) (by omega)
        have AW2 : Aside (Wr w.heap.size w2 w.heap.size v1 L) := AW.out.past hb2
        have hB2 := hB1.trans (hb2.mono hB1.size)
        clear C1 AW hown4
        go_wp2_with fail
        refine C2.mono ?_
        rintro ev w3 ⟨rb, v5, rfl, hR3, hrb, -, hb3⟩
        have hlt2 : Hid (w.heap.size < w2.heap.size ∧ ∀ j, v1.ownBlock = some j → j < w2.heap.size) := ⟨AW2.out.lt, fun j e => (AW2.out.own.lt j e).2⟩
        have AB : Aside (BRel w w.heap.size rb v1 v5 L 0 w3) := ⟨hR3, AW2.out.past hb3, hB2.trans (hb3.mono hB2.size)⟩
        clear C2 AW2 hR3 hb3 hB2 hb2 hB1
        generalize w2.heap.size = D at *
        go_wp2_with fail
        go_loopw [6] (fun i ws => ∃ j : Nat, j ≤ k ∧ i = .int .i64 j ∧ BRel w w.heap.size rb v1 v5 L (msgs f j).length ws) (fun i _ => k - (intOf i).toNat)
        case atStart => exact ⟨0, by omega, rfl, AB.out⟩
        case round =>
          obtain ⟨j, hj, rfl, hBR⟩ := hrel
          clear AB
          by_cases hjk : j < k
          · have hjn : j < n := by omega
            have hj3 : j < 30 := by omega
            obtain ⟨b, off, rfl, hrow⟩ := HO.out wr hBR.below j hjn
            have HRow : Hid (wr.rangeAt b (off + j * 38) (f j).cells) := hrow
            have hok := (HK.out j hjn).1
            have hi := Try.sz29' (f j) hok
            have hsj := HF.out j hjk
            obtain ⟨tl, htl⟩ := HSp.out j hjk
            have ABR : Aside (BRel w w.heap.size rb v1 v5 L (msgs f j).length wr) := hBR
            clear hrow hBR
            obtain ⟨t, e1, e2, e3, e4⟩ := (f j).rem
            have hone := (f j).cells_one
            have h38 := (f j).cells38 hok
            have hi2 := Try.size29 (f j) hok
            have hsl := (f j).sort_lt
            have HJ : Hid (((f j).sort = 0 ∨ (f j).sort = 2) ∨ (f j).sort = 1 ∨ (f j).sort = 3 ∨ (f j).sort = 4 ∨ (f j).sort = 5) := by show _ ∨ _; omega
            have k0 : (f j).cells[0]? = some (.int .i64 (f j).kind) := rfl
            have HNj := HN.out j
            rcases HJ.out with hs0 | hs0 | hs0 | hs0 | hs0
            · have k5 : (t + 6) % 6 = 0 ∨ (t + 6) % 6 = 2 := by omega
              have k3 : (f j).cells[3]? = some (.int .u64 ((f j).v : Int)) := rfl
              have HC4 : Hid (∀ w4, Rd w4 rb v5 L (msgs f j).length → Calls Try.prog 19 #[.pointer (some ⟨rb, 0, none⟩)] w4 fun ev w' => ∃ e, ev = .returned (.tuple #[.int .u64 ((f j).v : Int), e]) ∧ Back w4 w' rb v5 L ((msgs f j).length + (f j).msg.length) e) := fun w4 hR4 => back_uint (f j) hok hs0 w4 rb _ v5 L tl hR4 htl
              clear HJ htl HSp HO HK HF HN
              generalize (f j).cells = CC at *
              generalize (msgs f j).length = P0 at *
              generalize (f j).msg.length = M at *
              clear hs0
              rcases k5 with k5 | k5
              all_goals
                go_wp2_with (first | (refine wpList_load_mid rfl 29 _ rfl b (off + j * 38) rfl CC _ HRow.out Try.underlying29 rfl hi ?_) | (refine store_box rfl 29 _ _ rfl wr.heap.size CC.toArray rfl rfl 29 _ (heap_alloc_new wr _) hi2 (by rw [h38]; rfl) hone wr ((Below.refl _ wr).alloc (Nat.le_refl _) _) ?_; intro w4 G4 hb4; have c0 := (box_cell G4 0).trans k0))
                have c3' := (box_cell G4 3).trans k3
                have ABR4 : Aside (BRel w w.heap.size rb v1 v5 L P0 w4) := ABR.out.past hb4
                have C4 := HC4.out w4 ABR4.out.rd
                refine C4.mono ?_
                rintro ev w5 ⟨e, rfl, hBk⟩
                obtain rfl := hBk.1
                have AB5 : Aside (BRel w w.heap.size rb v1 v5 L (P0 + M) w5) := ABR4.out.read hBk hlt2.out.1 hlt2.out.2 hrb
                have hrw : rb < wr.heap.size := ABR.out.rd.lt
                have G5 : w5.heap[wr.heap.size]? = some (.cells CC.toArray 29 (0, 0)) := by rw [hBk.2.2.block wr.heap.size (Array.getElem?_eq_some_iff.1 G4).1 (by intro e; cases e; omega)]; exact G4
                have c5 := (box_cell G5 3).trans k3
                clear ABR4 C4 hBk G4 hb4 c0 c3'
                go_wp2_with fail
                go_roundw
                case rel => exact ⟨j + 1, by omega, by go_num, by rw [HNj]; exact AB5.out⟩
                case measure => simp [intOf]; omega
            · have k5 : (t + 6) % 6 = 1 := by omega
              have k1 : (f j).cells[1]? = some (.int .i64 (f j).n) := rfl
              have HC4 : Hid (∀ w4, Rd w4 rb v5 L (msgs f j).length → Calls Try.prog 20 #[.pointer (some ⟨rb, 0, none⟩)] w4 fun ev w' => ∃ e, ev = .returned (.tuple #[.int .i64 (f j).n, e]) ∧ Back w4 w' rb v5 L ((msgs f j).length + (f j).msg.length) e) := fun w4 hR4 => back_int (f j) hok hs0 w4 rb _ v5 L tl hR4 htl
              clear HJ htl HSp HO HK HF HN
              generalize (f j).cells = CC at *
              generalize (msgs f j).length = P0 at *
              generalize (f j).msg.length = M at *
              clear hs0
              go_wp2_with (first | (refine wpList_load_mid rfl 29 _ rfl b (off + j * 38) rfl CC _ HRow.out Try.underlying29 rfl hi ?_) | (refine store_box rfl 29 _ _ rfl wr.heap.size CC.toArray rfl rfl 29 _ (heap_alloc_new wr _) hi2 (by rw [h38]; rfl) hone wr ((Below.refl _ wr).alloc (Nat.le_refl _) _) ?_; intro w4 G4 hb4; have c0 := (box_cell G4 0).trans k0))
              have c1' := (box_cell G4 1).trans k1
              have ABR4 : Aside (BRel w w.heap.size rb v1 v5 L P0 w4) := ABR.out.past hb4
              have C4 := HC4.out w4 ABR4.out.rd
              refine C4.mono ?_
              rintro ev w5 ⟨e, rfl, hBk⟩
              obtain rfl := hBk.1
              have AB5 : Aside (BRel w w.heap.size rb v1 v5 L (P0 + M) w5) := ABR4.out.read hBk hlt2.out.1 hlt2.out.2 hrb
              have hrw : rb < wr.heap.size := ABR.out.rd.lt
              have G5 : w5.heap[wr.heap.size]? = some (.cells CC.toArray 29 (0, 0)) := by rw [hBk.2.2.block wr.heap.size (Array.getElem?_eq_some_iff.1 G4).1 (by intro e; cases e; omega)]; exact G4
              have c5 := (box_cell G5 1).trans k1
              clear ABR4 C4 hBk G4 hb4 c0 c1'
              go_wp2_with fail
              go_roundw
              case rel => exact ⟨j + 1, by omega, by go_num, by rw [HNj]; exact AB5.out⟩
              case measure => simp [intOf]; omega
            · have k5 : (t + 6) % 6 = 3 := by omega
              have k4 : (f j).cells[4]? = some (.bool (f j).b) := rfl
              have HC4 : Hid (∀ w4, Rd w4 rb v5 L (msgs f j).length → Calls Try.prog 21 #[.pointer (some ⟨rb, 0, none⟩)] w4 fun ev w' => ∃ e, ev = .returned (.tuple #[.bool (f j).b, e]) ∧ Back w4 w' rb v5 L ((msgs f j).length + (f j).msg.length) e) := fun w4 hR4 => back_bool (f j) hs0 w4 rb _ v5 L tl hR4 htl
              clear HJ htl HSp HO HK HF HN
              generalize (f j).cells = CC at *
              generalize (msgs f j).length = P0 at *
              generalize (f j).msg.length = M at *
              clear hs0
              go_wp2_with (first | (refine wpList_load_mid rfl 29 _ rfl b (off + j * 38) rfl CC _ HRow.out Try.underlying29 rfl hi ?_) | (refine store_box rfl 29 _ _ rfl wr.heap.size CC.toArray rfl rfl 29 _ (heap_alloc_new wr _) hi2 (by rw [h38]; rfl) hone wr ((Below.refl _ wr).alloc (Nat.le_refl _) _) ?_; intro w4 G4 hb4; have c0 := (box_cell G4 0).trans k0))
              have c4' := (box_cell G4 4).trans k4
              have ABR4 : Aside (BRel w w.heap.size rb v1 v5 L P0 w4) := ABR.out.past hb4
              have C4 := HC4.out w4 ABR4.out.rd
              refine C4.mono ?_
              rintro ev w5 ⟨e, rfl, hBk⟩
              obtain rfl := hBk.1
              have AB5 : Aside (BRel w w.heap.size rb v1 v5 L (P0 + M) w5) := ABR4.out.read hBk hlt2.out.1 hlt2.out.2 hrb
              have hrw : rb < wr.heap.size := ABR.out.rd.lt
              have G5 : w5.heap[wr.heap.size]? = some (.cells CC.toArray 29 (0, 0)) := by rw [hBk.2.2.block wr.heap.size (Array.getElem?_eq_some_iff.1 G4).1 (by intro e; cases e; omega)]; exact G4
              have c5 := (box_cell G5 4).trans k4
              clear ABR4 C4 hBk G4 hb4 c0 c4'
              go_wp2_with fail
              go_roundw
              case rel => exact ⟨j + 1, by omega, by go_num, by rw [HNj]; exact AB5.out⟩
              case measure => simp [intOf]; omega
            · have k5 : (t + 6) % 6 = 4 := by omega
              have k5 : (f j).cells[5]? = some (.string (f j).s) := rfl
              have HC4 : Hid (∀ w4, Rd w4 rb v5 L (msgs f j).length → Calls Try.prog 22 #[.pointer (some ⟨rb, 0, none⟩), .int .i64 500] w4 fun ev w' => ∃ e, ev = .returned (.tuple #[.string (f j).s, e]) ∧ Back w4 w' rb v5 L ((msgs f j).length + (f j).msg.length) e) := fun w4 hR4 => back_text (f j) hs0 hsj w4 rb _ v5 L tl hR4 htl
              clear HJ htl HSp HO HK HF HN
              generalize (f j).cells = CC at *
              generalize (msgs f j).length = P0 at *
              generalize (f j).msg.length = M at *
              clear hs0
              go_wp2_with (first | (refine wpList_load_mid rfl 29 _ rfl b (off + j * 38) rfl CC _ HRow.out Try.underlying29 rfl hi ?_) | (refine store_box rfl 29 _ _ rfl wr.heap.size CC.toArray rfl rfl 29 _ (heap_alloc_new wr _) hi2 (by rw [h38]; rfl) hone wr ((Below.refl _ wr).alloc (Nat.le_refl _) _) ?_; intro w4 G4 hb4; have c0 := (box_cell G4 0).trans k0))
              have c5' := (box_cell G4 5).trans k5
              have ABR4 : Aside (BRel w w.heap.size rb v1 v5 L P0 w4) := ABR.out.past hb4
              have C4 := HC4.out w4 ABR4.out.rd
              refine C4.mono ?_
              rintro ev w5 ⟨e, rfl, hBk⟩
              obtain rfl := hBk.1
              have AB5 : Aside (BRel w w.heap.size rb v1 v5 L (P0 + M) w5) := ABR4.out.read hBk hlt2.out.1 hlt2.out.2 hrb
              have hrw : rb < wr.heap.size := ABR.out.rd.lt
              have G5 : w5.heap[wr.heap.size]? = some (.cells CC.toArray 29 (0, 0)) := by rw [hBk.2.2.block wr.heap.size (Array.getElem?_eq_some_iff.1 G4).1 (by intro e; cases e; omega)]; exact G4
              have c5 := (box_cell G5 5).trans k5
              clear ABR4 C4 hBk G4 hb4 c0 c5'
              go_wp2_with fail
              go_roundw
              case rel => exact ⟨j + 1, by omega, by go_num, by rw [HNj]; exact AB5.out⟩
              case measure => simp [intOf]; omega
            · have k5 : (t + 6) % 6 = 5 := by omega
              have HC4 : Hid (∀ w4, Rd w4 rb v5 L (msgs f j).length → Calls Try.prog 23 #[.pointer (some ⟨rb, 0, none⟩)] w4 fun ev w' => ∃ e, ev = .returned (.tuple #[.agg (bys (f j).h).toArray, e]) ∧ Back w4 w' rb v5 L ((msgs f j).length + (f j).msg.length) e) := fun w4 hR4 => back_hash (f j) hok hs0 w4 rb _ v5 L tl hR4 htl
              have HG6 : Hid (∀ (w : World) (g : Nat), w.heap[g]? = some (.cells (f j).cells.toArray 29 (0, 0)) → w.rangeAt g 6 (bys (f j).h)) := fun w g hg i u hi => by
                rw [box_cell hg]; unfold Opv.cells; rw [List.getElem?_append_right (by simp)]; simpa using hi
              have kq := fun w => hash_eq w (f j).h hok.h32
              have hi27 : (Try.prog.info? 27).map (·.size) = some (bys (f j).h).length := by rw [bys_len, hok.h32]; kernel_rfl
              have hi27' : (Try.prog.info? 27).map (·.size) = some (bys (f j).h).toArray.size := by rw [List.size_toArray]; exact hi27
              have h32 : (bys (f j).h).toArray.size = 32 := by rw [List.size_toArray, bys_len, hok.h32]
              have hone27 : (bys (f j).h).toArray.all (·.oneCell') = true := all_oneCell_toArray (bys_one _)
              clear HJ htl HSp HO HK HF HN
              generalize (f j).cells = CC at *
              generalize (msgs f j).length = P0 at *
              generalize (f j).msg.length = M at *
              generalize bys (f j).h = Y at *
              clear hs0
              go_wp2_with (first | (refine wpList_load_mid rfl 29 _ rfl b (off + j * 38) rfl CC _ HRow.out Try.underlying29 rfl hi ?_) | (refine store_box rfl 29 _ _ rfl wr.heap.size CC.toArray rfl rfl 29 _ (heap_alloc_new wr _) hi2 (by rw [h38]; rfl) hone wr ((Below.refl _ wr).alloc (Nat.le_refl _) _) ?_; intro w4 G4 hb4; have c0 := (box_cell G4 0).trans k0))
              have ABR4 : Aside (BRel w w.heap.size rb v1 v5 L P0 w4) := ABR.out.past hb4
              have C4 := HC4.out w4 ABR4.out.rd
              refine C4.mono ?_
              rintro ev w5 ⟨e, rfl, hBk⟩
              obtain rfl := hBk.1
              have AB5 : Aside (BRel w w.heap.size rb v1 v5 L (P0 + M) w5) := ABR4.out.read hBk hlt2.out.1 hlt2.out.2 hrb
              have hrw : rb < wr.heap.size := ABR.out.rd.lt
              have G5 : w5.heap[wr.heap.size]? = some (.cells CC.toArray 29 (0, 0)) := by rw [hBk.2.2.block wr.heap.size (Array.getElem?_eq_some_iff.1 G4).1 (by intro e; cases e; omega)]; exact G4
              have hlt5 := (Array.getElem?_eq_some_iff.1 G5).1
              clear ABR4 C4 hBk G4 hb4 c0
              go_wp2_with (first | (refine wpList_load_row rfl 27 (.tmp 18) rfl w5.heap.size rfl 27 Y.toArray (0, 0) _ G6 Try.underlying27 rfl hi27' ?_) | (refine wpList_load_mid rfl 27 (.tmp 77) rfl wr.heap.size 6 rfl Y _ G7 Try.underlying27 rfl hi27 ?_) | (refine store_box rfl 27 _ _ rfl w5.heap.size Y.toArray rfl rfl 27 _ (heap_alloc_new w5 _) hi27' (by rw [h32]; rfl) hone27 w5 ((Below.refl _ w5).alloc (Nat.le_refl _) _) ?_; intro w6 G6 hb6; have G7 := HG6.out w6 wr.heap.size ((hb6.block wr.heap.size hlt5).trans G5); have AB6 : Aside (BRel w w.heap.size rb v1 v5 L (P0 + M) w6) := AB5.out.past hb6))
              go_roundw
              case rel => exact ⟨j + 1, by omega, by go_num, by rw [HNj]; exact AB6.out⟩
              case measure => simp [intOf]; omega
          · obtain rfl : j = k := by omega
            rw [hL] at hBR
            have C6 := fun w' (hb : Below wr.heap.size wr w') => end_any w' rb v5 L L.length (hBR.past hb).rd
            have ABR : Aside (BRel w w.heap.size rb v1 v5 L L.length wr) := hBR
            clear hBR HSp HO HK HF HN
            go_wp2_with fail
            refine (tell_any wr).mono ?_
            rintro ev w6 ⟨rfl, hb6⟩
            have C7 := C6 w6 hb6
            rw [show (fun (ev : Ending) (w' : World) => ∃ e, ev = .returned e ∧ (if L.length < L.length then Er w' e 4 L.length else e = .nilIface) ∧ Below w6.heap.size w6 w') = (fun ev w' => ∃ e, ev = .returned e ∧ e = .nilIface ∧ Below w6.heap.size w6 w') by simp] at C7
            have AB6 : Aside (BRel w w.heap.size rb v1 v5 L L.length w6) := ABR.out.past hb6
            clear C6 ABR
            go_wp2_with fail
            refine C7.mono ?_
            rintro ev w7 ⟨e, rfl, rfl, hb7⟩
            have AB7 : Aside (BRel w w.heap.size rb v1 v5 L L.length w7) := AB6.out.past hb7
            have C8 := at_any w7 rb v5 L _ AB7.out.rd
            clear C7 AB6 hb7 hb6
            go_wp2_with fail
            refine C8.mono ?_
            rintro ev w8 ⟨rfl, rfl⟩
            have C9 := wBytes_any _ _ _ _ _ AB7.out.wt (by omega)
            clear C8
            go_wp2_with fail
            refine C9.mono ?_
            rintro ev w9 ⟨v9, rfl, hown9, hb9⟩
            obtain ⟨ao9, cap9, rfl⟩ := own_shape hown9
            have hB9 := (AB7.out.past hb9).below
            clear C9 AB7 hb9 hown9
            go_wp2_with fail
            go_ret
            exact ⟨rfl, hB9⟩
      · clear hlt
        go_wp2_with fail
        refine C1.mono ?_
        rintro ev w2 ⟨v4, rfl, hown4, hb2⟩
        obtain ⟨ao4, cap4, rfl⟩ := own_shape hown4
        have C2 := newReader_any w2 _ L (Sl.ofOwn hown4) (by
          intro c e
          rcases hown4.2 with ⟨h0, _⟩ | ⟨g, c', cur, h0, _⟩
          · rw [h0] at e; simp at e; exact e.symm
          · rw [h0] at e; simp at e) (by omega)
        have AW2 : Aside (Wr w.heap.size w2 w.heap.size v1 L) := AW.out.past hb2
        have hB2 := hB1.trans (hb2.mono hB1.size)
        clear C1 AW hown4
        go_wp2_with fail
        refine C2.mono ?_
        rintro ev w3 ⟨rb, v5, rfl, hR3, hrb, -, hb3⟩
        have hlt2 : Hid (w.heap.size < w2.heap.size ∧ ∀ j, v1.ownBlock = some j → j < w2.heap.size) := ⟨AW2.out.lt, fun j e => (AW2.out.own.lt j e).2⟩
        have AB : Aside (BRel w w.heap.size rb v1 v5 L 0 w3) := ⟨hR3, AW2.out.past hb3, hB2.trans (hb3.mono hB2.size)⟩
        clear C2 AW2 hR3 hb3 hB2 hb2 hB1
        generalize w2.heap.size = D at *
        go_wp2_with fail
        go_loopw [6] (fun i ws => ∃ j : Nat, j ≤ k ∧ i = .int .i64 j ∧ BRel w w.heap.size rb v1 v5 L (msgs f j).length ws) (fun i _ => k - (intOf i).toNat)
        case atStart => exact ⟨0, by omega, rfl, AB.out⟩
        case round =>
          obtain ⟨j, hj, rfl, hBR⟩ := hrel
          clear AB
          by_cases hjk : j < k
          · have hjn : j < n := by omega
            have hj3 : j < 30 := by omega
            obtain ⟨b, off, rfl, hrow⟩ := HO.out wr hBR.below j hjn
            have HRow : Hid (wr.rangeAt b (off + j * 38) (f j).cells) := hrow
            have hok := (HK.out j hjn).1
            have hi := Try.sz29' (f j) hok
            have hsj := HF.out j hjk
            obtain ⟨tl, htl⟩ := HSp.out j hjk
            have ABR : Aside (BRel w w.heap.size rb v1 v5 L (msgs f j).length wr) := hBR
            clear hrow hBR
            obtain ⟨t, e1, e2, e3, e4⟩ := (f j).rem
            have hone := (f j).cells_one
            have h38 := (f j).cells38 hok
            have hi2 := Try.size29 (f j) hok
            have hsl := (f j).sort_lt
            have HJ : Hid (((f j).sort = 0 ∨ (f j).sort = 2) ∨ (f j).sort = 1 ∨ (f j).sort = 3 ∨ (f j).sort = 4 ∨ (f j).sort = 5) := by show _ ∨ _; omega
            have k0 : (f j).cells[0]? = some (.int .i64 (f j).kind) := rfl
            have HNj := HN.out j
            rcases HJ.out with hs0 | hs0 | hs0 | hs0 | hs0
            · have k5 : (t + 6) % 6 = 0 ∨ (t + 6) % 6 = 2 := by omega
              have k3 : (f j).cells[3]? = some (.int .u64 ((f j).v : Int)) := rfl
              have HC4 : Hid (∀ w4, Rd w4 rb v5 L (msgs f j).length → Calls Try.prog 19 #[.pointer (some ⟨rb, 0, none⟩)] w4 fun ev w' => ∃ e, ev = .returned (.tuple #[.int .u64 ((f j).v : Int), e]) ∧ Back w4 w' rb v5 L ((msgs f j).length + (f j).msg.length) e) := fun w4 hR4 => back_uint (f j) hok hs0 w4 rb _ v5 L tl hR4 htl
              clear HJ htl HSp HO HK HF HN
              generalize (f j).cells = CC at *
              generalize (msgs f j).length = P0 at *
              generalize (f j).msg.length = M at *
              clear hs0
              rcases k5 with k5 | k5
              all_goals
                go_wp2_with (first | (refine wpList_load_mid rfl 29 _ rfl b (off + j * 38) rfl CC _ HRow.out Try.underlying29 rfl hi ?_) | (refine store_box rfl 29 _ _ rfl wr.heap.size CC.toArray rfl rfl 29 _ (heap_alloc_new wr _) hi2 (by rw [h38]; rfl) hone wr ((Below.refl _ wr).alloc (Nat.le_refl _) _) ?_; intro w4 G4 hb4; have c0 := (box_cell G4 0).trans k0))
                have c3' := (box_cell G4 3).trans k3
                have ABR4 : Aside (BRel w w.heap.size rb v1 v5 L P0 w4) := ABR.out.past hb4
                have C4 := HC4.out w4 ABR4.out.rd
                refine C4.mono ?_
                rintro ev w5 ⟨e, rfl, hBk⟩
                obtain rfl := hBk.1
                have AB5 : Aside (BRel w w.heap.size rb v1 v5 L (P0 + M) w5) := ABR4.out.read hBk hlt2.out.1 hlt2.out.2 hrb
                have hrw : rb < wr.heap.size := ABR.out.rd.lt
                have G5 : w5.heap[wr.heap.size]? = some (.cells CC.toArray 29 (0, 0)) := by rw [hBk.2.2.block wr.heap.size (Array.getElem?_eq_some_iff.1 G4).1 (by intro e; cases e; omega)]; exact G4
                have c5 := (box_cell G5 3).trans k3
                clear ABR4 C4 hBk G4 hb4 c0 c3'
                go_wp2_with fail
                go_roundw
                case rel => exact ⟨j + 1, by omega, by go_num, by rw [HNj]; exact AB5.out⟩
                case measure => simp [intOf]; omega
            · have k5 : (t + 6) % 6 = 1 := by omega
              have k1 : (f j).cells[1]? = some (.int .i64 (f j).n) := rfl
              have HC4 : Hid (∀ w4, Rd w4 rb v5 L (msgs f j).length → Calls Try.prog 20 #[.pointer (some ⟨rb, 0, none⟩)] w4 fun ev w' => ∃ e, ev = .returned (.tuple #[.int .i64 (f j).n, e]) ∧ Back w4 w' rb v5 L ((msgs f j).length + (f j).msg.length) e) := fun w4 hR4 => back_int (f j) hok hs0 w4 rb _ v5 L tl hR4 htl
              clear HJ htl HSp HO HK HF HN
              generalize (f j).cells = CC at *
              generalize (msgs f j).length = P0 at *
              generalize (f j).msg.length = M at *
              clear hs0
              go_wp2_with (first | (refine wpList_load_mid rfl 29 _ rfl b (off + j * 38) rfl CC _ HRow.out Try.underlying29 rfl hi ?_) | (refine store_box rfl 29 _ _ rfl wr.heap.size CC.toArray rfl rfl 29 _ (heap_alloc_new wr _) hi2 (by rw [h38]; rfl) hone wr ((Below.refl _ wr).alloc (Nat.le_refl _) _) ?_; intro w4 G4 hb4; have c0 := (box_cell G4 0).trans k0))
              have c1' := (box_cell G4 1).trans k1
              have ABR4 : Aside (BRel w w.heap.size rb v1 v5 L P0 w4) := ABR.out.past hb4
              have C4 := HC4.out w4 ABR4.out.rd
              refine C4.mono ?_
              rintro ev w5 ⟨e, rfl, hBk⟩
              obtain rfl := hBk.1
              have AB5 : Aside (BRel w w.heap.size rb v1 v5 L (P0 + M) w5) := ABR4.out.read hBk hlt2.out.1 hlt2.out.2 hrb
              have hrw : rb < wr.heap.size := ABR.out.rd.lt
              have G5 : w5.heap[wr.heap.size]? = some (.cells CC.toArray 29 (0, 0)) := by rw [hBk.2.2.block wr.heap.size (Array.getElem?_eq_some_iff.1 G4).1 (by intro e; cases e; omega)]; exact G4
              have c5 := (box_cell G5 1).trans k1
              clear ABR4 C4 hBk G4 hb4 c0 c1'
              go_wp2_with fail
              go_roundw
              case rel => exact ⟨j + 1, by omega, by go_num, by rw [HNj]; exact AB5.out⟩
              case measure => simp [intOf]; omega
            · have k5 : (t + 6) % 6 = 3 := by omega
              have k4 : (f j).cells[4]? = some (.bool (f j).b) := rfl
              have HC4 : Hid (∀ w4, Rd w4 rb v5 L (msgs f j).length → Calls Try.prog 21 #[.pointer (some ⟨rb, 0, none⟩)] w4 fun ev w' => ∃ e, ev = .returned (.tuple #[.bool (f j).b, e]) ∧ Back w4 w' rb v5 L ((msgs f j).length + (f j).msg.length) e) := fun w4 hR4 => back_bool (f j) hs0 w4 rb _ v5 L tl hR4 htl
              clear HJ htl HSp HO HK HF HN
              generalize (f j).cells = CC at *
              generalize (msgs f j).length = P0 at *
              generalize (f j).msg.length = M at *
              clear hs0
              go_wp2_with (first | (refine wpList_load_mid rfl 29 _ rfl b (off + j * 38) rfl CC _ HRow.out Try.underlying29 rfl hi ?_) | (refine store_box rfl 29 _ _ rfl wr.heap.size CC.toArray rfl rfl 29 _ (heap_alloc_new wr _) hi2 (by rw [h38]; rfl) hone wr ((Below.refl _ wr).alloc (Nat.le_refl _) _) ?_; intro w4 G4 hb4; have c0 := (box_cell G4 0).trans k0))
              have c4' := (box_cell G4 4).trans k4
              have ABR4 : Aside (BRel w w.heap.size rb v1 v5 L P0 w4) := ABR.out.past hb4
              have C4 := HC4.out w4 ABR4.out.rd
              refine C4.mono ?_
              rintro ev w5 ⟨e, rfl, hBk⟩
              obtain rfl := hBk.1
              have AB5 : Aside (BRel w w.heap.size rb v1 v5 L (P0 + M) w5) := ABR4.out.read hBk hlt2.out.1 hlt2.out.2 hrb
              have hrw : rb < wr.heap.size := ABR.out.rd.lt
              have G5 : w5.heap[wr.heap.size]? = some (.cells CC.toArray 29 (0, 0)) := by rw [hBk.2.2.block wr.heap.size (Array.getElem?_eq_some_iff.1 G4).1 (by intro e; cases e; omega)]; exact G4
              have c5 := (box_cell G5 4).trans k4
              clear ABR4 C4 hBk G4 hb4 c0 c4'
              go_wp2_with fail
              go_roundw
              case rel => exact ⟨j + 1, by omega, by go_num, by rw [HNj]; exact AB5.out⟩
              case measure => simp [intOf]; omega
            · have k5 : (t + 6) % 6 = 4 := by omega
              have k5 : (f j).cells[5]? = some (.string (f j).s) := rfl
              have HC4 : Hid (∀ w4, Rd w4 rb v5 L (msgs f j).length → Calls Try.prog 22 #[.pointer (some ⟨rb, 0, none⟩), .int .i64 500] w4 fun ev w' => ∃ e, ev = .returned (.tuple #[.string (f j).s, e]) ∧ Back w4 w' rb v5 L ((msgs f j).length + (f j).msg.length) e) := fun w4 hR4 => back_text (f j) hs0 hsj w4 rb _ v5 L tl hR4 htl
              clear HJ htl HSp HO HK HF HN
              generalize (f j).cells = CC at *
              generalize (msgs f j).length = P0 at *
              generalize (f j).msg.length = M at *
              clear hs0
              go_wp2_with (first | (refine wpList_load_mid rfl 29 _ rfl b (off + j * 38) rfl CC _ HRow.out Try.underlying29 rfl hi ?_) | (refine store_box rfl 29 _ _ rfl wr.heap.size CC.toArray rfl rfl 29 _ (heap_alloc_new wr _) hi2 (by rw [h38]; rfl) hone wr ((Below.refl _ wr).alloc (Nat.le_refl _) _) ?_; intro w4 G4 hb4; have c0 := (box_cell G4 0).trans k0))
              have c5' := (box_cell G4 5).trans k5
              have ABR4 : Aside (BRel w w.heap.size rb v1 v5 L P0 w4) := ABR.out.past hb4
              have C4 := HC4.out w4 ABR4.out.rd
              refine C4.mono ?_
              rintro ev w5 ⟨e, rfl, hBk⟩
              obtain rfl := hBk.1
              have AB5 : Aside (BRel w w.heap.size rb v1 v5 L (P0 + M) w5) := ABR4.out.read hBk hlt2.out.1 hlt2.out.2 hrb
              have hrw : rb < wr.heap.size := ABR.out.rd.lt
              have G5 : w5.heap[wr.heap.size]? = some (.cells CC.toArray 29 (0, 0)) := by rw [hBk.2.2.block wr.heap.size (Array.getElem?_eq_some_iff.1 G4).1 (by intro e; cases e; omega)]; exact G4
              have c5 := (box_cell G5 5).trans k5
              clear ABR4 C4 hBk G4 hb4 c0 c5'
              go_wp2_with fail
              go_roundw
              case rel => exact ⟨j + 1, by omega, by go_num, by rw [HNj]; exact AB5.out⟩
              case measure => simp [intOf]; omega
            · have k5 : (t + 6) % 6 = 5 := by omega
              have HC4 : Hid (∀ w4, Rd w4 rb v5 L (msgs f j).length → Calls Try.prog 23 #[.pointer (some ⟨rb, 0, none⟩)] w4 fun ev w' => ∃ e, ev = .returned (.tuple #[.agg (bys (f j).h).toArray, e]) ∧ Back w4 w' rb v5 L ((msgs f j).length + (f j).msg.length) e) := fun w4 hR4 => back_hash (f j) hok hs0 w4 rb _ v5 L tl hR4 htl
              have HG6 : Hid (∀ (w : World) (g : Nat), w.heap[g]? = some (.cells (f j).cells.toArray 29 (0, 0)) → w.rangeAt g 6 (bys (f j).h)) := fun w g hg i u hi => by
                rw [box_cell hg]; unfold Opv.cells; rw [List.getElem?_append_right (by simp)]; simpa using hi
              have kq := fun w => hash_eq w (f j).h hok.h32
              have hi27 : (Try.prog.info? 27).map (·.size) = some (bys (f j).h).length := by rw [bys_len, hok.h32]; kernel_rfl
              have hi27' : (Try.prog.info? 27).map (·.size) = some (bys (f j).h).toArray.size := by rw [List.size_toArray]; exact hi27
              have h32 : (bys (f j).h).toArray.size = 32 := by rw [List.size_toArray, bys_len, hok.h32]
              have hone27 : (bys (f j).h).toArray.all (·.oneCell') = true := all_oneCell_toArray (bys_one _)
              clear HJ htl HSp HO HK HF HN
              generalize (f j).cells = CC at *
              generalize (msgs f j).length = P0 at *
              generalize (f j).msg.length = M at *
              generalize bys (f j).h = Y at *
              clear hs0
              go_wp2_with (first | (refine wpList_load_mid rfl 29 _ rfl b (off + j * 38) rfl CC _ HRow.out Try.underlying29 rfl hi ?_) | (refine store_box rfl 29 _ _ rfl wr.heap.size CC.toArray rfl rfl 29 _ (heap_alloc_new wr _) hi2 (by rw [h38]; rfl) hone wr ((Below.refl _ wr).alloc (Nat.le_refl _) _) ?_; intro w4 G4 hb4; have c0 := (box_cell G4 0).trans k0))
              have ABR4 : Aside (BRel w w.heap.size rb v1 v5 L P0 w4) := ABR.out.past hb4
              have C4 := HC4.out w4 ABR4.out.rd
              refine C4.mono ?_
              rintro ev w5 ⟨e, rfl, hBk⟩
              obtain rfl := hBk.1
              have AB5 : Aside (BRel w w.heap.size rb v1 v5 L (P0 + M) w5) := ABR4.out.read hBk hlt2.out.1 hlt2.out.2 hrb
              have hrw : rb < wr.heap.size := ABR.out.rd.lt
              have G5 : w5.heap[wr.heap.size]? = some (.cells CC.toArray 29 (0, 0)) := by rw [hBk.2.2.block wr.heap.size (Array.getElem?_eq_some_iff.1 G4).1 (by intro e; cases e; omega)]; exact G4
              have hlt5 := (Array.getElem?_eq_some_iff.1 G5).1
              clear ABR4 C4 hBk G4 hb4 c0
              go_wp2_with (first | (refine wpList_load_row rfl 27 (.tmp 18) rfl w5.heap.size rfl 27 Y.toArray (0, 0) _ G6 Try.underlying27 rfl hi27' ?_) | (refine wpList_load_mid rfl 27 (.tmp 77) rfl wr.heap.size 6 rfl Y _ G7 Try.underlying27 rfl hi27 ?_) | (refine store_box rfl 27 _ _ rfl w5.heap.size Y.toArray rfl rfl 27 _ (heap_alloc_new w5 _) hi27' (by rw [h32]; rfl) hone27 w5 ((Below.refl _ w5).alloc (Nat.le_refl _) _) ?_; intro w6 G6 hb6; have G7 := HG6.out w6 wr.heap.size ((hb6.block wr.heap.size hlt5).trans G5); have AB6 : Aside (BRel w w.heap.size rb v1 v5 L (P0 + M) w6) := AB5.out.past hb6))
              go_roundw
              case rel => exact ⟨j + 1, by omega, by go_num, by rw [HNj]; exact AB6.out⟩
              case measure => simp [intOf]; omega
          · obtain rfl : j = k := by omega
            rw [hL] at hBR
            have C6 := fun w' (hb : Below wr.heap.size wr w') => end_any w' rb v5 L L.length (hBR.past hb).rd
            have ABR : Aside (BRel w w.heap.size rb v1 v5 L L.length wr) := hBR
            clear hBR HSp HO HK HF HN
            go_wp2_with fail
            refine (tell_any wr).mono ?_
            rintro ev w6 ⟨rfl, hb6⟩
            have C7 := C6 w6 hb6
            rw [show (fun (ev : Ending) (w' : World) => ∃ e, ev = .returned e ∧ (if L.length < L.length then Er w' e 4 L.length else e = .nilIface) ∧ Below w6.heap.size w6 w') = (fun ev w' => ∃ e, ev = .returned e ∧ e = .nilIface ∧ Below w6.heap.size w6 w') by simp] at C7
            have AB6 : Aside (BRel w w.heap.size rb v1 v5 L L.length w6) := ABR.out.past hb6
            clear C6 ABR
            go_wp2_with fail
            refine C7.mono ?_
            rintro ev w7 ⟨e, rfl, rfl, hb7⟩
            have AB7 : Aside (BRel w w.heap.size rb v1 v5 L L.length w7) := AB6.out.past hb7
            have C8 := at_any w7 rb v5 L _ AB7.out.rd
            clear C7 AB6 hb7 hb6
            go_wp2_with fail
            refine C8.mono ?_
            rintro ev w8 ⟨rfl, rfl⟩
            have C9 := wBytes_any _ _ _ _ _ AB7.out.wt (by omega)
            clear C8
            go_wp2_with fail
            refine C9.mono ?_
            rintro ev w9 ⟨v9, rfl, hown9, hb9⟩
            obtain ⟨ao9, cap9, rfl⟩ := own_shape hown9
            have hB9 := (AB7.out.past hb9).below
            clear C9 AB7 hb9 hown9
            go_wp2_with fail
            go_ret
            exact ⟨rfl, hB9⟩
end Go.Proofs.Ytkgmjhchefkmaaa
