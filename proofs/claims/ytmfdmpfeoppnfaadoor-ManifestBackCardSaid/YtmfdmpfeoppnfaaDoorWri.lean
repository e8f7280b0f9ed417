/-
  The program's writer in memory: copyCheck, WriteString, Len; put.
-/
import Derived.Test.YtmfdmpfeoppnfaaDoorSam
import Derived.Lib.Builder
import Derived.Lib.AppendStr
namespace Go.Proofs.YtmfdmpfeoppnfaaDoor
open Go.RowKit

/-- What stays when a writer writes: all below C; and all blocks that are neither a writer nor a row of bytes. -/
structure Fr (C : Nat) (w w' : World) : Prop where
  below : Below C w w'
  stay : ∀ k, k < w.heap.size → (∀ cs t fz, w.heap[k]? = some (.cells cs t fz) → t ≠ 83 ∧ t ≠ 5) → w'.heap[k]? = w.heap[k]?
theorem Fr.size {C : Nat} {w w' : World} (h : Fr C w w') : w.heap.size ≤ w'.heap.size := h.below.size
theorem Fr.refl (C : Nat) (w : World) : Fr C w w := ⟨Below.refl _ _, fun _ _ _ => rfl⟩
theorem Fr.trans {C : Nat} {a b c : World} (h : Fr C a b) (k : Fr C b c) : Fr C a c :=
  ⟨h.below.trans k.below, fun i hi ht => by
    have e := h.stay i hi ht
    rw [k.stay i (Nat.lt_of_lt_of_le hi h.size) (fun cs t fz hh => ht cs t fz (e ▸ hh)), e]⟩
theorem Fr.of_below {C : Nat} {w w' : World} (hC : C ≤ w.heap.size) (h : Below w.heap.size w w') : Fr C w w' :=
  ⟨⟨h.os, h.tape, h.output, h.size, fun k hk => h.block k (by omega)⟩, fun k hk _ => h.block k hk⟩
theorem Fr.alloc {C : Nat} (w : World) (o : Obj) (hC : C ≤ w.heap.size) : Fr C w (w.alloc o) := Fr.of_below hC ((Below.refl _ _).alloc (Nat.le_refl _) _)
theorem Fr.row {C : Nat} {w w' : World} (h : Fr C w w') {g t : Nat} {L : List Value} (hr : Row w g t L) (h1 : t ≠ 83) (h2 : t ≠ 5) : Row w' g t L := by
  refine ⟨(h.stay g hr.lt ?_).trans hr.heap⟩
  intro cs t' fz e
  rw [hr.heap] at e
  cases e
  exact ⟨h1, h2⟩

/-- The writer at block b has written S, so many blocks are open. -/
structure Wtr (C b : Nat) (S : Bs) (n : Bool) (w : World) : Prop where
  le : C ≤ b
  here : ∃ p v, (p = .pointer none ∨ p = .pointer (some ⟨b, 0, none⟩)) ∧ w.heap[b]? = some (.cells #[p, v, .bool n] 83 (0, 0)) ∧ w.ownsRow C 5 1 v S.length (bys S)
theorem Wtr.lt {C b : Nat} {S : Bs} {n : Bool} {w : World} (h : Wtr C b S n w) : b < w.heap.size := by
  obtain ⟨p, v, _, e, _⟩ := h.here
  rcases Nat.lt_or_ge b w.heap.size with h' | h'
  · exact h'
  · rw [Array.getElem?_eq_none h'] at e; cases e
theorem Wtr.Cw {C b : Nat} {S : Bs} {n : Bool} {w : World} (h : Wtr C b S n w) : C ≤ w.heap.size := Nat.le_of_lt (Nat.lt_of_le_of_lt h.le h.lt)
/-- It stays when nothing that was there turns. -/
theorem Wtr.below {C b : Nat} {S : Bs} {n : Bool} {w w' : World} (h : Wtr C b S n w) (hb : Below w.heap.size w w') : Wtr C b S n w' := by
  refine ⟨h.le, ?_⟩
  obtain ⟨p, v, hp, e, hv⟩ := h.here
  refine ⟨p, v, hp, (hb.block b h.lt).trans e, hv.kept (row := none) ⟨hb.os, hb.tape, hb.output, hb.size, fun k hk _ => hb.block k hk⟩ ?_⟩
  cases hh : v.ownBlock with
  | none => exact .inl rfl
  | some k => exact .inr (by simp)
theorem Wtr.alloc {C b : Nat} {S : Bs} {n : Bool} {w : World} (h : Wtr C b S n w) (o : Obj) : Wtr C b S n (w.alloc o) := h.below ((Below.refl _ _).alloc (Nat.le_refl _) _)
theorem Wtr.drew {C b : Nat} {S : Bs} {n : Bool} {w : World} (h : Wtr C b S n w) : Wtr C b S n w.drew := ⟨h.le, h.here⟩
theorem strCells_str (l : Bs) : Lib.strCells (str l) = bys l := rfl
theorem Tryd.lies81 : liesAt Tryd.prog Tryd.prog.depth 83 (3 / Tryd.prog.cellsOf 83) 0 81 1 = true := by kernel_rfl
theorem own_neW {w : World} {C b : Nat} {v : Value} {k : Nat} {xs : List Value} {cs : Array Value} {fr : Nat × Nat} (hown : w.ownsRow C 5 1 v k xs) (hb : w.heap[b]? = some (.cells cs 83 fr)) : v.ownBlock ≠ some b := by
  rcases hown.2 with ⟨rfl, _⟩ | ⟨g, cap, cur, rfl, _, hg, _⟩
  · simp [Value.ownBlock]
  · intro e
    simp only [Value.ownBlock, Option.some.injEq] at e
    subst e
    rw [hg] at hb
    cases hb

set_option maxHeartbeats 1000000 in
set_option maxRecDepth 100000 in
theorem copyCheck_any {C b : Nat} {S : Bs} {n : Bool} {w : World} (h : Wtr C b S n w) :
    Calls Tryd.prog 77 #[.pointer (some ⟨b, 0, none⟩)] w fun e w' => e = .returned (.tuple #[]) ∧ Fr C w w' ∧
      ∃ v, w'.heap[b]? = some (.cells #[.pointer (some ⟨b, 0, none⟩), v, .bool n] 83 (0, 0)) ∧ w'.ownsRow C 5 1 v S.length (bys S) := by
  obtain ⟨p, v, hp, hbk, hown⟩ := h.here
  have hlt := h.lt
  have hCb := h.le
  have c0 : w.cell? ⟨b, 0, none⟩ = some p := by rw [Lib.cell_of_heap hbk]; rfl
  have hsh : w.shape? b = some (83, 3) := by simp [World.shape?, hbk]
  have hfz : w.frozen? ⟨b, 0, none⟩ = false := Lib.frozen_of_heap hbk 0
  obtain ⟨j, hj, hjs⟩ := Option.map_eq_some_iff.1 (show (Tryd.prog.info? 81).map (·.size) = some 2 by kernel_rfl)
  rcases hp with rfl | rfl
  · have HR : Hid (Fr C w (w.setCell ⟨b, 0, none⟩ (.pointer (some ⟨b, 0, none⟩))) ∧
      ∃ v, (w.setCell ⟨b, 0, none⟩ (.pointer (some ⟨b, 0, none⟩))).heap[b]? = some (.cells #[.pointer (some ⟨b, 0, none⟩), v, .bool n] 83 (0, 0)) ∧ (w.setCell ⟨b, 0, none⟩ (.pointer (some ⟨b, 0, none⟩))).ownsRow C 5 1 v S.length (bys S)) := by
      have hg : w.grownBy (w.setCell ⟨b, 0, none⟩ (.pointer (some ⟨b, 0, none⟩))) (some b) := ⟨rfl, rfl, rfl, by simp [World.setCell], fun k hk hne => heap_setCell_other w ⟨b, 0, none⟩ k _ (fun e => hne (by rw [e]))⟩
      refine ⟨⟨(Below.refl _ _).setCell (p := ⟨b, 0, none⟩) hCb _, fun k hk ht => hg.block k hk ?_⟩, v, ?_, hown.kept hg (.inr (own_neW hown hbk))⟩
      · rintro e
        cases e
        exact (ht _ _ _ hbk).1 rfl
      · rw [heap_setCell_same w b 0 _ 83 _ hbk]; rfl
    clear hown hbk h
    go_enter Tryd.func77, Tryd.ntmps77
    go_wp2
    rw [Lib.run_to_unsafe w ⟨b, 0, none⟩ Tryd.underlying78 Tryd.underlying118 hj (by rw [hjs]; decide) hsh (Nat.zero_lt_succ 2)]
    simp only [Result.andThen]
    rw [Oper.upon_value]
    go_wp2
    rw [run_callFunc_extern Tryd.func86 (by kernel_rfl) (by kernel_rfl) (by kernel_rfl) (e := Extern.AbiNoEscape.same) (by kernel_rfl)]
    rw [Lib.run_noEscape]
    simp only [Result.andThen]
    rw [Oper.upon_value]
    go_wp2
    rw [Lib.run_from_unsafe w ⟨b, 0, none⟩ Tryd.underlying118 Tryd.underlying78 hj hsh Tryd.lies81]
    simp only [Result.andThen]
    rw [Oper.upon_value]
    go_wp2
    go_end0
    exact ⟨rfl, HR.out⟩
  · have HR : Hid (Fr C w w ∧ ∃ v, w.heap[b]? = some (.cells #[.pointer (some ⟨b, 0, none⟩), v, .bool n] 83 (0, 0)) ∧ w.ownsRow C 5 1 v S.length (bys S)) := ⟨Fr.refl _ _, v, hbk, hown⟩
    clear hown hbk h
    go_enter Tryd.func77, Tryd.ntmps77
    go_wp2
    rw [Lib.run_neq_ptr_same w _ Tryd.underlying78 hj]
    go_wp2
    go_end0
    exact ⟨rfl, HR.out⟩

set_option maxHeartbeats 2000000 in
set_option maxRecDepth 100000 in
theorem writeString_any {C b : Nat} {S : Bs} {n : Bool} {w : World} (h : Wtr C b S n w) (s : Bs) (hlen : S.length + s.length ≤ 140737488355328) :
    Calls Tryd.prog 66 #[.pointer (some ⟨b, 0, none⟩), .string (str s)] w fun e w' => e = .returned (.tuple #[.int .i64 (str s).size, .nilIface]) ∧ Wtr C b (S ++ s) n w' ∧ Fr C w w' := by
  have hss := str_size s
  have HC : Hid (Calls Tryd.prog 77 #[.pointer (some ⟨b, 0, none⟩)] w fun e w' => e = .returned (.tuple #[]) ∧ Fr C w w' ∧
      ∃ v, w'.heap[b]? = some (.cells #[.pointer (some ⟨b, 0, none⟩), v, .bool n] 83 (0, 0)) ∧ w'.ownsRow C 5 1 v S.length (bys S)) := copyCheck_any h
  have hCw := h.Cw
  have hCb := h.le
  obtain ⟨i0, hi, hz0, hz1, hz2⟩ := info_parts Tryd.info5
  clear h
  go_enter Tryd.func66, Tryd.ntmps66
  go_wp2_with fail
  refine HC.out.mono ?_
  rintro e w1 ⟨rfl, hf, v, hbk, hown⟩
  have HF : Hid (Fr C w w1) := hf
  have c0 : w1.cell? ⟨b, 0, none⟩ = some (.pointer (some ⟨b, 0, none⟩)) := by rw [Lib.cell_of_heap hbk]; rfl
  have c1 : w1.cell? ⟨b, 1, none⟩ = some v := by rw [Lib.cell_of_heap hbk]; rfl
  have HK : Hid (w1.heap[b]? = some (.cells #[.pointer (some ⟨b, 0, none⟩), v, .bool n] 83 (0, 0))) := hbk
  have HO : Hid (w1.ownsRow C 5 1 v S.length (bys S)) := hown
  have hsz := hf.size
  clear hf hbk hown HC
  go_wp2_with (at_builtin; refine Lib.wpList_append_own_string _ rfl _ _ 79 9 rfl C 5 i0 Tryd.underlying79 Tryd.underlying9 hi hz0 hz1 hz2 _ _ _ rfl HO.out (str s) rfl ?c3 ?c4 ?c5 ?_)
  case c3 => unfold maxLen; omega
  case c4 => omega
  case c5 => omega
  intro v' w2 hown' hgrow _
  have hbk := HK.out
  have hlt : b < w1.heap.size := by
    rcases Nat.lt_or_ge b w1.heap.size with h' | h'
    · exact h'
    · rw [Array.getElem?_eq_none h'] at hbk; cases hbk
  have hb2 : w2.heap[b]? = some (.cells #[.pointer (some ⟨b, 0, none⟩), v, .bool n] 83 (0, 0)) := by
    rw [hgrow.block b hlt (fun e => own_neW HO.out hbk e.symm)]
    exact hbk
  have d1 : w2.cell? ⟨b, 1, none⟩ = some v := by rw [Lib.cell_of_heap hb2]; rfl
  have f1 : w2.frozen? ⟨b, 1, none⟩ = false := Lib.frozen_of_heap hb2 1
  have HR : Hid (Wtr C b (S ++ s) n (w2.setCell ⟨b, 1, none⟩ v') ∧ Fr C w (w2.setCell ⟨b, 1, none⟩ v')) := by
    have hg : w2.grownBy (w2.setCell ⟨b, 1, none⟩ v') (some b) := ⟨rfl, rfl, rfl, by simp [World.setCell], fun k hk hne => heap_setCell_other w2 ⟨b, 1, none⟩ k _ (fun e => hne (by rw [e]))⟩
    have ho2 : w2.ownsRow C 5 1 v' (S ++ s).length (bys (S ++ s)) := by
      have e1 : (S ++ s).length = S.length + (str s).size := by rw [List.length_append, hss]
      rw [e1, bys_app, ← strCells_str s]; exact hown'
    refine ⟨⟨hCb, .pointer (some ⟨b, 0, none⟩), v', .inr rfl, by rw [heap_setCell_same w2 b 1 _ 83 _ hb2]; rfl, ho2.kept hg (.inr (own_neW ho2 hb2))⟩, ?_⟩
    have hrow : ∀ k, v.ownBlock = some k → C ≤ k := fun k hk => (HO.out.lt k hk).1
    refine HF.out.trans ⟨((Below.refl C w1).grown hgrow (by omega) hrow).setCell (p := ⟨b, 1, none⟩) hCb _, fun k hk ht => ?_⟩
    have hne5 : some k ≠ v.ownBlock := by
      intro e
      rcases HO.out.2 with ⟨rfl, _⟩ | ⟨g, cap, cur, rfl, _, hgg, _⟩
      · simp [Value.ownBlock] at e
      · simp only [Value.ownBlock, Option.some.injEq] at e
        subst e
        exact (ht _ _ _ hgg).2 rfl
    rw [hg.block k (Nat.lt_of_lt_of_le hk hgrow.size) (by rintro e; cases e; exact (ht _ _ _ hbk).1 rfl)]
    exact hgrow.block k hk hne5
  obtain ⟨ao, n', cap, rfl⟩ : ∃ ao n' cap, v' = .slice ao n' cap := by
    rcases hown'.2 with ⟨hv, _⟩ | ⟨g, cap, cur, hv, _⟩
    · exact ⟨_, _, _, hv⟩
    · exact ⟨_, _, _, hv⟩
  clear hown' hgrow hb2 HK HO HF hbk
  go_wp2
  go_ret2
  exact ⟨rfl, HR.out⟩
end Go.Proofs.YtmfdmpfeoppnfaaDoor
