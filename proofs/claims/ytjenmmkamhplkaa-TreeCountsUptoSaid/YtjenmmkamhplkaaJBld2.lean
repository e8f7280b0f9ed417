/-
  The texts Bld, Bl2, joined.
-/
import Derived.Test.YtjenmmkamhplkaaJSmc3
import Derived.Great.BuildSlice
namespace Go.Proofs.Ytjenmmkamhplkaa
open Go.RowKit

theorem build_as {P : Program} {ops : Array Oper} {rest : List Oper} {o : Oper} {a : Act} {w : World} {Q : Exit → Act → World → Prop} (hgd : o.guard = none) (t : TypeId) (parts : Array (Nat × Operand)) (ho : o.op = .build t parts)
    (cells : Array Value) (vs : List (Nat × Value)) (hv : (parts.map fun (i, x) => (i, a.eval x)).toList = vs) (hb : P.built t vs = some cells) (h : wpList P ops Q rest (a.put o.dst (.agg cells)) w) : wpList P ops Q (o :: rest) a w := by
  refine wpList_plain hgd fun _ hK => wp_build t parts ho (by rw [hv, hb]; rfl) (by rw [hv, hb]; exact hK _ _ h)
theorem store_newL {P : Program} {ops : Array Oper} {rest : List Oper} {o : Oper} {a : Act} {w : World} {Q : Exit → Act → World → Prop} (hgd : o.guard = none) (ty : TypeId) (x y : Operand) (ho : o.op = .store ty x y)
    (cs : List Value) (old : Array Value) (t : TypeId) (hx : a.eval x = .pointer (some ⟨w.heap.size, 0, none⟩)) (hy : a.eval y = .agg cs.toArray) (hi : (P.info? ty).map (·.size) = some cs.toArray.size)
    (hold : old.size = cs.toArray.size) (h1 : cs.toArray.all (·.oneCell') = true)
    (h : ∀ w', Row w' w.heap.size t cs → Below w.heap.size w w' → wpList P ops Q rest (a.put o.dst undef) w') : wpList P ops Q (o :: rest) a (w.alloc (.cells old t)) :=
  store_new hgd ty x y ho cs.toArray old t hx hy hi hold h1 (h _ (Row.new w t cs) (alloc_one _ _))
theorem Try.info49z : (Try.prog.info? 50).map (fun i => (i.zero, i.size, i.bytes)) = some (some (.agg (stCells 0 0).toArray), 32, 496) := by kernel_rfl
theorem bslice38 {ops : Array Oper} {rest : List Oper} {o : Oper} {a : Act} {w : World} {Q : Exit → Act → World → Prop} (hgd : o.guard = none) (x : Operand) (ho : o.op = .buildSlice 28 1 #[(0, x)])
    (cs : List Value) (hl : cs.length = 32) (hx : a.eval x = .agg cs.toArray)
    (k : ∀ w', Row w' w.heap.size 50 cs → Below w.heap.size w w' → wpList Try.prog ops Q rest (a.put o.dst (.slice (some ⟨w.heap.size, 0, none⟩) 1 1)) w') : wpList Try.prog ops Q (o :: rest) a w := by
  obtain ⟨i0, hi, hz0, hz1, hz2⟩ := info_parts Try.info49z
  refine wpList_plain hgd fun _ hK => wp_buildSlice 28 50 1 _ ho cs.toArray i0 (.agg (stCells 0 0).toArray) Try.underlying28 hi hz0 (by rw [hz1]; decide) (by rw [hz1]; decide) ?_ (hK _ _ (k _ (Row.new w 50 cs) (alloc_one _ _)))
  have hw := Go.Great.fill_whole (s := 32) (by decide) [.agg cs.toArray] ((Array.range (1 * 32)).map ((Value.agg (stCells 0 0).toArray).cells[· % (Value.agg (stCells 0 0).toArray).cells.size]!)) (by simp [Value.cells, hl]) (by simp)
  rw [hz1]
  simp only [List.map_toArray, List.map_cons, List.map_nil, hx]
  simp only [List.zipIdx_cons, List.zipIdx_nil, List.map_cons, List.map_nil] at hw
  refine Eq.trans hw ?_
  simp [Value.cells]
theorem store_midL {P : Program} {ops : Array Oper} {rest : List Oper} {o : Oper} {a : Act} {w : World} {Q : Exit → Act → World → Prop} (hgd : o.guard = none) (ty : TypeId) (x y : Operand) (ho : o.op = .store ty x y)
    (g t off : Nat) (A old cs R : List Value) (hr : Row w g t (A ++ (old ++ R))) (hA : A.length = off) (hl : old.length = cs.length) (hx : a.eval x = .pointer (some ⟨g, off, none⟩)) (hy : a.eval y = .agg cs.toArray) (hi : (P.info? ty).map (·.size) = some cs.toArray.size)
    (h1 : cs.toArray.all (·.oneCell') = true)
    (h : ∀ w', Row w' g t (A ++ (cs ++ R)) → Stay (fun k => k = g) w w' → wpList P ops Q rest (a.put o.dst undef) w') : wpList P ops Q (o :: rest) a w :=
  wpList_store_mid hgd ty x y ho g off cs.toArray hx hy (hr.there off _ (by simp [hA, hl])) hi h1 (h _ (by simpa using Row.setCells cs old A R w off hr hA hl) (stay_setCells _ _ _ _ (Stay.refl _ _) (fun _ => rfl)))
theorem built_let : Try.prog.built 50 [(0, .int .i64 1), (2, .bool true), (3, .string ⟨#[120]⟩), (4, .agg #[.int .i64 1, .string ⟨#[]⟩, .slice none 0 0, .slice none 0 0])] = some letC.toArray := by kernel_rfl
end Go.Proofs.Ytjenmmkamhplkaa

namespace Go.Proofs.Ytjenmmkamhplkaa
open Go.RowKit

theorem Try.info51z : (Try.prog.info? 52).map (fun i => (i.zero, i.size, i.bytes)) = some (some (.agg (Value.bool false :: .string (str []) :: tyCells 0).toArray), 6, 96) := by kernel_rfl
theorem Try.info40z : (Try.prog.info? 30).map (fun i => (i.zero, i.size, i.bytes)) = some (some (.agg (Value.bool false :: .string (str []) :: .slice none 0 0 :: .slice none 0 0 :: (tyCells 0 ++ [.slice none 0 0, .int .i64 0])).toArray), 10, 176) := by kernel_rfl
theorem bsliceL {ops : Array Oper} {rest : List Oper} {o : Oper} {a : Act} {w : World} {Q : Exit → Act → World → Prop} (hgd : o.guard = none) (ty el sz bz : Nat) (Z : List Value) (x : Operand) (ho : o.op = .buildSlice ty 1 #[(0, x)])
    (hu : Try.prog.underlying ty = some (.slice el)) (hz : (Try.prog.info? el).map (fun i => (i.zero, i.size, i.bytes)) = some (some (.agg Z.toArray), sz, bz)) (h1 : 0 < sz) (h2 : sz ≤ 1000)
    (cs : List Value) (hl : cs.length = sz) (hx : a.eval x = .agg cs.toArray)
    (k : ∀ w', Row w' w.heap.size el cs → Below w.heap.size w w' → w.heap.size < w'.heap.size → wpList Try.prog ops Q rest (a.put o.dst (.slice (some ⟨w.heap.size, 0, none⟩) 1 1)) w') : wpList Try.prog ops Q (o :: rest) a w := by
  obtain ⟨i0, hi, hz0, hz1, hz2⟩ := info_parts hz
  refine wpList_plain hgd fun _ hK => wp_buildSlice ty el 1 _ ho cs.toArray i0 (.agg Z.toArray) hu hi hz0 (by rw [hz1]; omega) (by rw [hz1]; omega) ?_ (hK _ _ (k _ (Row.new w el cs) (alloc_one _ _) (by rw [size_alloc]; omega)))
  have hw := Go.Great.fill_whole (s := sz) h1 [.agg cs.toArray] ((Array.range (1 * sz)).map ((Value.agg Z.toArray).cells[· % (Value.agg Z.toArray).cells.size]!)) (by simp [Value.cells, hl]) (by simp)
  rw [hz1]
  simp only [List.map_toArray, List.map_cons, List.map_nil, hx]
  simp only [List.zipIdx_cons, List.zipIdx_nil, List.map_cons, List.map_nil] at hw
  refine Eq.trans hw ?_
  simp [Value.cells]
theorem Try.size49 : (Try.prog.info? 50).map (·.size) = some letC.toArray.size := by kernel_rfl
theorem Try.size40 (p b : Nat) : (Try.prog.info? 30).map (·.size) = some (fncC p b).toArray.size := by kernel_rfl
theorem Try.size31 : (Try.prog.info? 27).map (·.size) = some (tyCells 0).toArray.size := by kernel_rfl
theorem one_letC : letC.toArray.all (·.oneCell') = true := by kernel_rfl
theorem one_tyC : (tyCells 0).toArray.all (·.oneCell') = true := by kernel_rfl
theorem one_fncC (p b : Nat) : (fncC p b).toArray.all (·.oneCell') = true := by kernel_rfl
theorem bad_cells : letC.take 4 ++ (tyCells 0 ++ letC.drop 8) = badC := by rfl
/-- Texts that lie in a row of their own. -/
theorem strs_of_own {w : World} {base : Nat} {v : Value} {l : List Bs} {K : Ctx} (hK : w.heap.size ≤ K.C) (hB : ∀ s ∈ l, s.length ≤ K.B) (h : w.ownsRow base 9 1 v l.length (strs l)) : Ar 1 0 (TxAt K) K w v l := by
  obtain ⟨hlen, h⟩ := h
  rcases h with ⟨rfl, h0⟩ | ⟨g, cap, cur, rfl, hg, hh, h1, h2, h3, h4⟩
  · have : l = [] := List.length_eq_zero_iff.1 h0
    subst this
    exact nil_ar
  · have hR : Row w g 9 cur.toList := ⟨by simpa using hh⟩
    refine ⟨some ⟨g, 0, none⟩, cap, rfl, h1, by omega, fun i hi => ?_⟩
    refine ⟨g, 0, rfl, Nat.lt_of_lt_of_le hR.lt hK, [.string (str l[i])], rfl, fun j hj => ?_, rfl, hB _ (List.getElem_mem hi)⟩
    obtain rfl : j = 0 := by omega
    rw [show (0 + i * 1 + 0) = i by omega, hR.cell i]
    have h5 : (cur.toList.take (l.length * 1))[i]? = (strs l)[i]? := by rw [h4]
    rw [List.getElem?_take_of_lt (by omega)] at h5
    rw [h5]
    simp [strs, hi]
set_option maxHeartbeats 4000000 in
theorem texts_at {bz bz2 : Nat} {K : Ctx} {w : World} {va vb : Value} {la lb : List Bs} (ha : Ar 1 bz (TxAt K) K w va la) (hb : Ar 1 bz2 (TxAt K) K w vb lb) (hl9 : la.length ≤ 9223372036854775807) (B : Bool) (hB : B = true ↔ la = lb) :
    Calls Try.prog 8 #[va, vb] w fun ev w' => ev = .returned (.bool B) ∧ ∃ m, w' = w.drewN m := by
  obtain ⟨aoA, capA, rfl, hcA, hbA, hA⟩ := ha.shape
  obtain ⟨aoB, capB, rfl, hcB, hbB, hBB⟩ := hb.shape
  by_cases hlen : la.length = lb.length
  · have b1 : ((la.length : Int) != (lb.length : Int)) = false := by simp; omega
    have HA : Hid (∀ i (h : i < la.length), ∃ b o, aoA = some ⟨b, o, none⟩ ∧ w.cell? ⟨b, o + i, none⟩ = some (.string (str la[i]))) := by
      intro i h
      obtain ⟨b, o, e, _, cs, hl, hc, hx⟩ := hA i h
      have := hc 0 (by omega)
      rw [hx.1] at this
      exact ⟨b, o, e, by simpa using this⟩
    have HBB : Hid (∀ i (h : i < lb.length), ∃ b o, aoB = some ⟨b, o, none⟩ ∧ w.cell? ⟨b, o + i, none⟩ = some (.string (str lb[i]))) := by
      intro i h
      obtain ⟨b, o, e, _, cs, hl, hc, hx⟩ := hBB i h
      have := hc 0 (by omega)
      rw [hx.1] at this
      exact ⟨b, o, e, by simpa using this⟩
    have HB : Hid (B = true ↔ la = lb) := hB
    have HL : Hid (la.length = lb.length) := hlen
    clear hA hBB hB ha hb hbA hbB hlen
    go_enter Try.func8, Try.ntmps8
    go_wp2_with fail
    go_loopw [5] (fun i wr => ∃ k : Nat, k ≤ la.length ∧ i = .int .i64 k ∧ (∀ j (ha : j < la.length) (hb : j < lb.length), j < k → la[j] = lb[j]) ∧ ∃ m, wr = w.drewN m) (fun i _ => la.length - (intOf i).toNat)
    case atStart => exact ⟨0, by omega, rfl, fun j _ _ h => by omega, 0, rfl⟩
    case round =>
      obtain ⟨k, hk, rfl, hj, m, rfl⟩ := hrel
      have HJ : Hid (∀ j (ha : j < la.length) (hb : j < lb.length), j < k → la[j] = lb[j]) := hj
      clear hj
      by_cases h3 : k < la.length
      · have h4 : k < lb.length := by rw [← HL.out]; exact h3
        obtain ⟨b, o, e, c1⟩ := HA.out k h3
        obtain ⟨b', o', e', c2⟩ := HBB.out k h4
        subst e e'
        have q := str_beq la[k] lb[k]
        have i1 : (k : Int) < (la.length : Int) := by omega
        have i2 : (k : Int) < (lb.length : Int) := by omega
        by_cases he : la[k] = lb[k]
        · rw [decide_eq_true he] at q
          have q' : ((str la[k]).toList != (str lb[k]).toList) = false := by rw [bne, q]; rfl
          have HJ' : Hid (∀ j (ha : j < la.length) (hb : j < lb.length), j < k + 1 → la[j] = lb[j]) := by
            intro j ha hb hjk
            rcases Nat.lt_or_ge j k with h | h
            · exact HJ.out j ha hb h
            · obtain rfl : j = k := by omega
              exact he
          clear he
          generalize str la[k] = SA at *
          generalize str lb[k] = SB at *
          go_wp2_with fail
          go_quiet (fail)
          go_wp2_with fail
          go_roundw
          case rel => exact ⟨k + 1, by omega, by go_num, HJ'.out, _, rfl⟩
          case measure => simp [intOf]; omega
        · rw [decide_eq_false he] at q
          have q' : ((str la[k]).toList != (str lb[k]).toList) = true := by rw [bne, q]; rfl
          have HF : Hid (B = false) := by
            show B = false
            cases hB : B
            · rfl
            · exact absurd (HB.out.1 hB) (not_at h3 h4 he)
          clear he
          generalize str la[k] = SA at *
          generalize str lb[k] = SB at *
          go_wp2_with fail
          go_quiet (fail)
          go_wp2_with fail
          go_ret
          exact ⟨by rw [HF.out]; rfl, _, by first | rfl | exact World.drewN_drewN ..⟩
      · have HF : Hid (B = true) := HB.out.2 (eq_upto HL.out fun j ha hb => HJ.out j ha hb (by omega))
        have i1 : ¬ (k : Int) < (la.length : Int) := by omega
        go_wp2_with fail
        go_ret
        exact ⟨by rw [HF.out]; rfl, _, by first | rfl | exact World.drewN_drewN ..⟩
  · have b1 : ((la.length : Int) != (lb.length : Int)) = true := by simp; omega
    have HF : Hid (B = false) := by
      show B = false
      cases hB' : B
      · rfl
      · exact absurd (congrArg List.length (hB.1 hB')) hlen
    clear hA hBB hB ha hb hbA hbB
    go_enter Try.func8, Try.ntmps8
    go_wp2_with fail
    go_ret
    exact ⟨by rw [HF.out]; rfl, 0, rfl⟩
end Go.Proofs.Ytjenmmkamhplkaa
