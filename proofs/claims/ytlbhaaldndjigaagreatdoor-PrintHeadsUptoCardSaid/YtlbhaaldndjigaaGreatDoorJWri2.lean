/-
  The texts Wri, Wr2, joined.
-/
import Derived.Test.YtlbhaaldndjigaaGreatDoorPtx
import Derived.Lib.Builder
import Derived.Lib.AppendStr
namespace Go.Proofs.YtlbhaaldndjigaaGreatDoor
open Go.RowKit

/-- What stays when a writer writes: all below C; and all blocks that are neither a writer nor a row of bytes. -/
structure Fr (C : Nat) (w w' : World) : Prop where
  below : Below C w w'
  stay : ∀ k, k < w.heap.size → (∀ cs t fz, w.heap[k]? = some (.cells cs t fz) → t ≠ 58 ∧ t ≠ 5) → w'.heap[k]? = w.heap[k]?
theorem Fr.size {C : Nat} {w w' : World} (h : Fr C w w') : w.heap.size ≤ w'.heap.size := h.below.size
theorem Fr.refl (C : Nat) (w : World) : Fr C w w := ⟨Below.refl _ _, fun _ _ _ => rfl⟩
theorem Fr.trans {C : Nat} {a b c : World} (h : Fr C a b) (k : Fr C b c) : Fr C a c :=
  ⟨h.below.trans k.below, fun i hi ht => by
    have e := h.stay i hi ht
    rw [k.stay i (Nat.lt_of_lt_of_le hi h.size) (fun cs t fz hh => ht cs t fz (e ▸ hh)), e]⟩
theorem Fr.of_below {C : Nat} {w w' : World} (hC : C ≤ w.heap.size) (h : Below w.heap.size w w') : Fr C w w' :=
  ⟨⟨h.os, h.tape, h.output, h.size, fun k hk => h.block k (by omega)⟩, fun k hk _ => h.block k hk⟩
theorem Fr.alloc {C : Nat} (w : World) (o : Obj) (hC : C ≤ w.heap.size) : Fr C w (w.alloc o) := Fr.of_below hC ((Below.refl _ _).alloc (Nat.le_refl _) _)
theorem Fr.row {C : Nat} {w w' : World} (h : Fr C w w') {g t : Nat} {L : List Value} (hr : Row w g t L) (h1 : t ≠ 58) (h2 : t ≠ 5) : Row w' g t L := by
  refine ⟨(h.stay g hr.lt ?_).trans hr.heap⟩
  intro cs t' fz e
  rw [hr.heap] at e
  cases e
  exact ⟨h1, h2⟩

/-- The writer at block b has written S, so many blocks are open. -/
structure Wtr (C b : Nat) (S : Bs) (n : Int) (w : World) : Prop where
  le : C ≤ b
  here : ∃ p v, (p = .pointer none ∨ p = .pointer (some ⟨b, 0, none⟩)) ∧ w.heap[b]? = some (.cells #[p, v, .int .i64 n] 58 (0, 0)) ∧ w.ownsRow C 5 1 v S.length (bys S)
theorem Wtr.lt {C b : Nat} {S : Bs} {n : Int} {w : World} (h : Wtr C b S n w) : b < w.heap.size := by
  obtain ⟨p, v, _, e, _⟩ := h.here
  rcases Nat.lt_or_ge b w.heap.size with h' | h'
  · exact h'
  · rw [Array.getElem?_eq_none h'] at e; cases e
theorem Wtr.Cw {C b : Nat} {S : Bs} {n : Int} {w : World} (h : Wtr C b S n w) : C ≤ w.heap.size := Nat.le_of_lt (Nat.lt_of_le_of_lt h.le h.lt)
/-- It stays when nothing that was there turns. -/
theorem Wtr.below {C b : Nat} {S : Bs} {n : Int} {w w' : World} (h : Wtr C b S n w) (hb : Below w.heap.size w w') : Wtr C b S n w' := by
  refine ⟨h.le, ?_⟩
  obtain ⟨p, v, hp, e, hv⟩ := h.here
  refine ⟨p, v, hp, (hb.block b h.lt).trans e, hv.kept (row := none) ⟨hb.os, hb.tape, hb.output, hb.size, fun k hk _ => hb.block k hk⟩ ?_⟩
  cases hh : v.ownBlock with
  | none => exact .inl rfl
  | some k => exact .inr (by simp)
theorem Wtr.alloc {C b : Nat} {S : Bs} {n : Int} {w : World} (h : Wtr C b S n w) (o : Obj) : Wtr C b S n (w.alloc o) := h.below ((Below.refl _ _).alloc (Nat.le_refl _) _)
theorem Wtr.drew {C b : Nat} {S : Bs} {n : Int} {w : World} (h : Wtr C b S n w) : Wtr C b S n w.drew := ⟨h.le, h.here⟩
theorem strCells_str (l : Bs) : Lib.strCells (str l) = bys l := rfl
theorem Tryz.lies56 : liesAt Tryz.prog Tryz.prog.depth 58 (3 / Tryz.prog.cellsOf 58) 0 56 1 = true := by kernel_rfl
theorem own_ne {w : World} {C b : Nat} {v : Value} {k : Nat} {xs : List Value} {cs : Array Value} {fr : Nat × Nat} (hown : w.ownsRow C 5 1 v k xs) (hb : w.heap[b]? = some (.cells cs 58 fr)) : v.ownBlock ≠ some b := by
  rcases hown.2 with ⟨rfl, _⟩ | ⟨g, cap, cur, rfl, _, hg, _⟩
  · simp [Value.ownBlock]
  · intro e
    simp only [Value.ownBlock, Option.some.injEq] at e
    subst e
    rw [hg] at hb
    cases hb

set_option maxHeartbeats 1000000 in
set_option maxRecDepth 100000 in
theorem copyCheck_any {C b : Nat} {S : Bs} {n : Int} {w : World} (h : Wtr C b S n w) :
    Calls Tryz.prog 104 #[.pointer (some ⟨b, 0, none⟩)] w fun e w' => e = .returned (.tuple #[]) ∧ Fr C w w' ∧
      ∃ v, w'.heap[b]? = some (.cells #[.pointer (some ⟨b, 0, none⟩), v, .int .i64 n] 58 (0, 0)) ∧ w'.ownsRow C 5 1 v S.length (bys S) := by
  obtain ⟨p, v, hp, hbk, hown⟩ := h.here
  have hlt := h.lt
  have hCb := h.le
  have c0 : w.cell? ⟨b, 0, none⟩ = some p := by rw [Lib.cell_of_heap hbk]; rfl
  have hsh : w.shape? b = some (58, 3) := by simp [World.shape?, hbk]
  have hfz : w.frozen? ⟨b, 0, none⟩ = false := Lib.frozen_of_heap hbk 0
  obtain ⟨j, hj, hjs⟩ := Option.map_eq_some_iff.1 (show (Tryz.prog.info? 56).map (·.size) = some 2 by kernel_rfl)
  rcases hp with rfl | rfl
  · have HR : Hid (Fr C w (w.setCell ⟨b, 0, none⟩ (.pointer (some ⟨b, 0, none⟩))) ∧
      ∃ v, (w.setCell ⟨b, 0, none⟩ (.pointer (some ⟨b, 0, none⟩))).heap[b]? = some (.cells #[.pointer (some ⟨b, 0, none⟩), v, .int .i64 n] 58 (0, 0)) ∧ (w.setCell ⟨b, 0, none⟩ (.pointer (some ⟨b, 0, none⟩))).ownsRow C 5 1 v S.length (bys S)) := by
      have hg : w.grownBy (w.setCell ⟨b, 0, none⟩ (.pointer (some ⟨b, 0, none⟩))) (some b) := ⟨rfl, rfl, rfl, by simp [World.setCell], fun k hk hne => heap_setCell_other w ⟨b, 0, none⟩ k _ (fun e => hne (by rw [e]))⟩
      refine ⟨⟨(Below.refl _ _).setCell (p := ⟨b, 0, none⟩) hCb _, fun k hk ht => hg.block k hk ?_⟩, v, ?_, hown.kept hg (.inr (own_ne hown hbk))⟩
      · rintro e
        cases e
        exact (ht _ _ _ hbk).1 rfl
      · rw [heap_setCell_same w b 0 _ 58 _ hbk]; rfl
    clear hown hbk h
    go_enter Tryz.func104, Tryz.ntmps104
    go_wp2
    rw [Lib.run_to_unsafe w ⟨b, 0, none⟩ Tryz.underlying53 Tryz.underlying169 hj (by rw [hjs]; decide) hsh (Nat.zero_lt_succ 2)]
    simp only [Result.andThen]
    rw [Oper.upon_value]
    go_wp2
    rw [run_callFunc_extern Tryz.func134 (by kernel_rfl) (by kernel_rfl) (by kernel_rfl) (e := Extern.AbiNoEscape.same) (by kernel_rfl)]
    rw [Lib.run_noEscape]
    simp only [Result.andThen]
    rw [Oper.upon_value]
    go_wp2
    rw [Lib.run_from_unsafe w ⟨b, 0, none⟩ Tryz.underlying169 Tryz.underlying53 hj hsh Tryz.lies56]
    simp only [Result.andThen]
    rw [Oper.upon_value]
    go_wp2
    go_end0
    exact ⟨rfl, HR.out⟩
  · have HR : Hid (Fr C w w ∧ ∃ v, w.heap[b]? = some (.cells #[.pointer (some ⟨b, 0, none⟩), v, .int .i64 n] 58 (0, 0)) ∧ w.ownsRow C 5 1 v S.length (bys S)) := ⟨Fr.refl _ _, v, hbk, hown⟩
    clear hown hbk h
    go_enter Tryz.func104, Tryz.ntmps104
    go_wp2
    rw [Lib.run_neq_ptr_same w _ Tryz.underlying53 hj]
    go_wp2
    go_end0
    exact ⟨rfl, HR.out⟩

set_option maxHeartbeats 2000000 in
set_option maxRecDepth 100000 in
theorem writeString_any {C b : Nat} {S : Bs} {n : Int} {w : World} (h : Wtr C b S n w) (s : Bs) (hlen : S.length + s.length ≤ 140737488355328) :
    Calls Tryz.prog 77 #[.pointer (some ⟨b, 0, none⟩), .string (str s)] w fun e w' => e = .returned (.tuple #[.int .i64 (str s).size, .nilIface]) ∧ Wtr C b (S ++ s) n w' ∧ Fr C w w' := by
  have hss := str_size s
  have HC : Hid (Calls Tryz.prog 104 #[.pointer (some ⟨b, 0, none⟩)] w fun e w' => e = .returned (.tuple #[]) ∧ Fr C w w' ∧
      ∃ v, w'.heap[b]? = some (.cells #[.pointer (some ⟨b, 0, none⟩), v, .int .i64 n] 58 (0, 0)) ∧ w'.ownsRow C 5 1 v S.length (bys S)) := copyCheck_any h
  have hCw := h.Cw
  have hCb := h.le
  obtain ⟨i0, hi, hz0, hz1, hz2⟩ := info_parts Tryz.info5
  clear h
  go_enter Tryz.func77, Tryz.ntmps77
  go_wp2_with fail
  refine HC.out.mono ?_
  rintro e w1 ⟨rfl, hf, v, hbk, hown⟩
  have HF : Hid (Fr C w w1) := hf
  have c0 : w1.cell? ⟨b, 0, none⟩ = some (.pointer (some ⟨b, 0, none⟩)) := by rw [Lib.cell_of_heap hbk]; rfl
  have c1 : w1.cell? ⟨b, 1, none⟩ = some v := by rw [Lib.cell_of_heap hbk]; rfl
  have HK : Hid (w1.heap[b]? = some (.cells #[.pointer (some ⟨b, 0, none⟩), v, .int .i64 n] 58 (0, 0))) := hbk
  have HO : Hid (w1.ownsRow C 5 1 v S.length (bys S)) := hown
  have hsz := hf.size
  clear hf hbk hown HC
  go_wp2_with (at_builtin; refine Lib.wpList_append_own_string _ rfl _ _ 54 9 rfl C 5 i0 Tryz.underlying54 Tryz.underlying9 hi hz0 hz1 hz2 _ _ _ rfl HO.out (str s) rfl ?c3 ?c4 ?c5 ?_)
  case c3 => unfold maxLen; omega
  case c4 => omega
  case c5 => omega
  intro v' w2 hown' hgrow _
  have hbk := HK.out
  have hlt : b < w1.heap.size := by
    rcases Nat.lt_or_ge b w1.heap.size with h' | h'
    · exact h'
    · rw [Array.getElem?_eq_none h'] at hbk; cases hbk
  have hb2 : w2.heap[b]? = some (.cells #[.pointer (some ⟨b, 0, none⟩), v, .int .i64 n] 58 (0, 0)) := by
    rw [hgrow.block b hlt (fun e => own_ne HO.out hbk e.symm)]
    exact hbk
  have d1 : w2.cell? ⟨b, 1, none⟩ = some v := by rw [Lib.cell_of_heap hb2]; rfl
  have f1 : w2.frozen? ⟨b, 1, none⟩ = false := Lib.frozen_of_heap hb2 1
  have HR : Hid (Wtr C b (S ++ s) n (w2.setCell ⟨b, 1, none⟩ v') ∧ Fr C w (w2.setCell ⟨b, 1, none⟩ v')) := by
    have hg : w2.grownBy (w2.setCell ⟨b, 1, none⟩ v') (some b) := ⟨rfl, rfl, rfl, by simp [World.setCell], fun k hk hne => heap_setCell_other w2 ⟨b, 1, none⟩ k _ (fun e => hne (by rw [e]))⟩
    have ho2 : w2.ownsRow C 5 1 v' (S ++ s).length (bys (S ++ s)) := by
      have e1 : (S ++ s).length = S.length + (str s).size := by rw [List.length_append, hss]
      rw [e1, bys_app, ← strCells_str s]; exact hown'
    refine ⟨⟨hCb, .pointer (some ⟨b, 0, none⟩), v', .inr rfl, by rw [heap_setCell_same w2 b 1 _ 58 _ hb2]; rfl, ho2.kept hg (.inr (own_ne ho2 hb2))⟩, ?_⟩
    have hrow : ∀ k, v.ownBlock = some k → C ≤ k := fun k hk => (HO.out.lt k hk).1
    refine HF.out.trans ⟨((Below.refl C w1).grown hgrow (by omega) hrow).setCell (p := ⟨b, 1, none⟩) hCb _, fun k hk ht => ?_⟩
    have hne5 : some k ≠ v.ownBlock := by
      intro e
      rcases HO.out.2 with ⟨rfl, _⟩ | ⟨g, cap, cur, rfl, _, hgg, _⟩
      · simp [Value.ownBlock] at e
      · simp only [Value.ownBlock, Option.some.injEq] at e
        subst e
        exact (ht _ _ _ hgg).2 rfl
    rw [hg.block k (Nat.lt_of_lt_of_le hk hgrow.size) (by rintro e; cases e; exact (ht _ _ _ hbk).1 rfl)]
    exact hgrow.block k hk hne5
  obtain ⟨ao, n', cap, rfl⟩ : ∃ ao n' cap, v' = .slice ao n' cap := by
    rcases hown'.2 with ⟨hv, _⟩ | ⟨g, cap, cur, hv, _⟩
    · exact ⟨_, _, _, hv⟩
    · exact ⟨_, _, _, hv⟩
  clear hown' hgrow hb2 HK HO HF hbk
  go_wp2
  go_ret2
  exact ⟨rfl, HR.out⟩
end Go.Proofs.YtlbhaaldndjigaaGreatDoor

namespace Go.Proofs.YtlbhaaldndjigaaGreatDoor
open Go.RowKit

theorem Wtr.cells {C b : Nat} {S : Bs} {n : Int} {w : World} (h : Wtr C b S n w) : (∃ ao cap, w.cell? ⟨b, 1, none⟩ = some (.slice ao S.length cap)) ∧ w.cell? ⟨b, 2, none⟩ = some (.int .i64 n) := by
  obtain ⟨p, v, _, hbk, hown⟩ := h.here
  refine ⟨?_, by rw [Lib.cell_of_heap hbk]; rfl⟩
  obtain ⟨ao, cap, rfl⟩ : ∃ ao cap, v = .slice ao S.length cap := by
    rcases hown.2 with ⟨hv, h0⟩ | ⟨g, cap, cur, hv, _⟩
    · exact ⟨none, 0, by rw [hv, h0]⟩
    · exact ⟨_, _, hv⟩
  exact ⟨ao, cap, by rw [Lib.cell_of_heap hbk]; rfl⟩

set_option maxHeartbeats 1000000 in
theorem len_any {C b : Nat} {S : Bs} {n : Int} {w : World} (h : Wtr C b S n w) :
    Calls Tryz.prog 44 #[.pointer (some ⟨b, 0, none⟩)] w fun e w' => e = .returned (.int .i64 S.length) ∧ w' = w := by
  obtain ⟨⟨ao, cap, c1⟩, _⟩ := h.cells
  clear h
  generalize S.length = k at *
  go_enter Tryz.func44, Tryz.ntmps44
  go_wp2_with fail
  go_ret
  exact ⟨rfl, rfl⟩
set_option maxHeartbeats 1000000 in
theorem tooLong_any {C b : Nat} {S : Bs} {n : Int} {w : World} (h : Wtr C b S n w) :
    Calls Tryz.prog 21 #[.pointer (some ⟨b, 0, none⟩)] w fun e w' => e = .returned (.bool (decide (1048576 < S.length))) ∧ w' = w := by
  have D : Hid (Calls Tryz.prog 44 #[.pointer (some ⟨b, 0, none⟩)] w fun e w' => e = .returned (.int .i64 S.length) ∧ w' = w) := len_any h
  clear h
  have e1 : decide ((1048576 : Int) < (S.length : Int)) = decide (1048576 < S.length) := by congr 1; simp; omega
  generalize S.length = k at *
  go_enter Tryz.func21, Tryz.ntmps21
  go_wp2_with fail
  refine D.out.mono ?_
  rintro ev w1 ⟨rfl, rfl⟩
  go_wp2_with fail
  go_ret
  exact ⟨by first | rfl | (rw [← e1]; rfl) | simp, rfl⟩

theorem hid0 {p : Prop} (h : p) : Hid p := h
def txs (l : List Bs) : List Value := l.map fun s => Value.string (str s)
theorem txs_get (l : List Bs) (k : Nat) (h : k < l.length) : (txs l)[k]? = some (.string (str l[k])) := by simp [txs, List.getElem?_eq_getElem h]

set_option maxHeartbeats 2000000 in
theorem put_at {C b : Nat} {S : Bs} {n : Int} {w : World} (h : Wtr C b S n w) (l : List Bs) {g : Nat} (hr : Row w g 9 (txs l)) (hl9 : l.length ≤ 1000) (hlen : S.length + l.flatten.length ≤ 140737488355328) :
    Calls Tryz.prog 47 #[.pointer (some ⟨b, 0, none⟩), .slice (some ⟨g, 0, none⟩) l.length l.length] w fun e w' => e = .returned (.tuple #[]) ∧ Wtr C b (S ++ l.flatten) n w' ∧ Fr C w w' := by
  have HH : Hid (Wtr C b S n w) := h
  have HR : Hid (Row w g 9 (txs l)) := hr
  have HL : Hid (S.length + l.flatten.length ≤ 140737488355328) := hlen
  clear h hr hlen
  go_enter Tryz.func47, Tryz.ntmps47
  go_wp2_with fail
  go_loopw [8] (fun i wr => ∃ k : Nat, k ≤ l.length ∧ i = .int .i64 k ∧ Wtr C b (S ++ (l.take k).flatten) n wr ∧ Fr C w wr) (fun i _ => l.length - (intOf i).toNat)
  case atStart => exact ⟨0, by omega, rfl, by simpa using HH.out, Fr.refl _ _⟩
  case round =>
    obtain ⟨k, hk, rfl, hw, hf⟩ := hrel
    have HW : Hid (Wtr C b (S ++ (l.take k).flatten) n wr) := hw
    have HF : Hid (Fr C w wr) := hf
    clear hw hf
    by_cases h3 : k < l.length
    · have i1 : (k : Int) < (l.length : Int) := by omega
      have c1 : wr.cell? ⟨g, k, none⟩ = some (.string (str l[k])) := ((HF.out.row HR.out (by decide) (by decide)).cell k).trans (txs_get l k h3)
      have D : Hid (Calls Tryz.prog 77 #[.pointer (some ⟨b, 0, none⟩), .string (str l[k])] wr fun e w' => e = .returned (.tuple #[.int .i64 (str l[k]).size, .nilIface]) ∧ Wtr C b (S ++ (l.take (k + 1)).flatten) n w' ∧ Fr C wr w') := by
        have e1 : (l.take (k + 1)).flatten = (l.take k).flatten ++ l[k] := by rw [List.take_add_one, List.getElem?_eq_getElem h3, List.flatten_append, Option.toList_some, List.flatten_singleton]
        have e2 : l.flatten.length = ((l.take (k + 1)).flatten).length + ((l.drop (k + 1)).flatten).length := by rw [← List.length_append, ← List.flatten_append, List.take_append_drop]
        have hl := HL.out
        rw [e1, List.length_append] at e2
        refine (writeString_any HW.out l[k] (by rw [List.length_append]; omega)).mono ?_
        rintro _ _ ⟨rfl, h1, h2⟩
        exact ⟨rfl, by rw [e1, ← List.append_assoc]; exact h1, h2⟩
      generalize str l[k] = X at *
      clear HW HL HH HR
      go_wp2_with fail
      refine D.out.mono ?_
      rintro ev w2 ⟨rfl, p1, p2⟩
      go_wp2_with fail
      go_roundw
      case rel => exact ⟨k + 1, by omega, by go_num, p1, HF.out.trans p2⟩
      case measure => simp [intOf]; omega
    · have i1 : ¬ (k : Int) < (l.length : Int) := by omega
      have HX : Hid (Wtr C b (S ++ l.flatten) n wr) := by have := HW.out; rwa [List.take_of_length_le (by omega)] at this
      go_wp2_with fail
      go_end0
      exact ⟨rfl, HX.out, HF.out⟩
theorem put_new {C b : Nat} {S : Bs} {n : Int} {w : World} (h : Wtr C b S n w) (l : List Bs) (hl9 : l.length ≤ 1000) (hlen : S.length + l.flatten.length ≤ 140737488355328) :
    Calls Tryz.prog 47 #[.pointer (some ⟨b, 0, none⟩), .slice (some ⟨w.heap.size, 0, none⟩) l.length l.length] (w.alloc (.cells (txs l).toArray 9)) fun e w' => e = .returned (.tuple #[]) ∧ Wtr C b (S ++ l.flatten) n w' ∧ Fr C w w' := by
  refine (put_at (h.alloc _) l (Row.new w 9 (txs l)) hl9 hlen).mono ?_
  rintro _ _ ⟨rfl, h1, h2⟩
  exact ⟨rfl, h1, (Fr.alloc w _ h.Cw).trans h2⟩
theorem put1 {C b : Nat} {S : Bs} {n : Int} {w : World} (h : Wtr C b S n w) (x : Bs) (hlen : S.length + x.length ≤ 140737488355328) :
    Calls Tryz.prog 47 #[.pointer (some ⟨b, 0, none⟩), .slice (some ⟨w.heap.size, 0, none⟩) 1 1] (w.alloc (.cells #[.string (str x)] 9)) fun e w' => e = .returned (.tuple #[]) ∧ Wtr C b (S ++ x) n w' ∧ Fr C w w' := by
  have := put_new h [x] (by simp) (by simpa using hlen)
  simpa [txs] using this
theorem put2 {C b : Nat} {S : Bs} {n : Int} {w : World} (h : Wtr C b S n w) (x y : Bs) (hlen : S.length + (x ++ y).length ≤ 140737488355328) :
    Calls Tryz.prog 47 #[.pointer (some ⟨b, 0, none⟩), .slice (some ⟨w.heap.size, 0, none⟩) 2 2] (w.alloc (.cells #[.string (str x), .string (str y)] 9)) fun e w' => e = .returned (.tuple #[]) ∧ Wtr C b (S ++ (x ++ y)) n w' ∧ Fr C w w' := by
  have := put_new h [x, y] (by simp) (by simpa using hlen)
  simpa [txs] using this
theorem put3 {C b : Nat} {S : Bs} {n : Int} {w : World} (h : Wtr C b S n w) (x y z : Bs) (hlen : S.length + (x ++ y ++ z).length ≤ 140737488355328) :
    Calls Tryz.prog 47 #[.pointer (some ⟨b, 0, none⟩), .slice (some ⟨w.heap.size, 0, none⟩) 3 3] (w.alloc (.cells #[.string (str x), .string (str y), .string (str z)] 9)) fun e w' => e = .returned (.tuple #[]) ∧ Wtr C b (S ++ (x ++ y ++ z)) n w' ∧ Fr C w w' := by
  have := put_new h [x, y, z] (by simp) (by simpa [Nat.add_assoc] using hlen)
  simpa [txs] using this

set_option maxHeartbeats 1000000 in
theorem life_any {C b : Nat} {S : Bs} {n : Int} {w : World} (h : Wtr C b S n w) (x : Bs) (hlen : S.length + (lifT x).length ≤ 140737488355328) :
    Calls Tryz.prog 48 #[.pointer (some ⟨b, 0, none⟩), .string (str x)] w fun e w' => e = .returned (.tuple #[]) ∧ Wtr C b (S ++ lifT x) n w' ∧ Fr C w w' := by
  have D := hid0 (put2 h [39] x hlen)
  clear h hlen
  go_enter Tryz.func48, Tryz.ntmps48
  go_wp2_with fail
  refine D.out.mono ?_
  rintro ev w2 ⟨rfl, p1, p2⟩
  go_wp2_with fail
  go_end0
  exact ⟨rfl, p1, p2⟩
set_option maxHeartbeats 1000000 in
theorem putIf_any {C b : Nat} {S : Bs} {n : Int} {w : World} (h : Wtr C b S n w) (B : Bool) (x : Bs) (hlen : S.length + (if B then x else []).length ≤ 140737488355328) :
    Calls Tryz.prog 49 #[.pointer (some ⟨b, 0, none⟩), .bool B, .string (str x)] w fun e w' => e = .returned (.tuple #[]) ∧ Wtr C b (S ++ if B then x else []) n w' ∧ Fr C w w' := by
  cases B
  · have HH := hid0 h
    clear h hlen
    go_enter Tryz.func49, Tryz.ntmps49
    go_wp2_with fail
    go_end0
    exact ⟨rfl, by simpa using HH.out, Fr.refl _ _⟩
  · have D := hid0 (put1 h x hlen)
    clear h hlen
    go_enter Tryz.func49, Tryz.ntmps49
    go_wp2_with fail
    refine D.out.mono ?_
    rintro ev w2 ⟨rfl, p1, p2⟩
    go_wp2_with fail
    go_end0
    exact ⟨rfl, p1, p2⟩
set_option maxHeartbeats 2000000 in
theorem newLine_any {C b d : Nat} {S : Bs} {w : World} (h : Wtr C b S (d : Int) w) (hd : d ≤ 1000000) (hlen : S.length + (nlT d).length ≤ 140737488355328) :
    Calls Tryz.prog 41 #[.pointer (some ⟨b, 0, none⟩)] w fun e w' => e = .returned (.tuple #[]) ∧ Wtr C b (S ++ nlT d) d w' ∧ Fr C w w' := by
  have hl : S.length + (d + 1) ≤ 140737488355328 := by simp [nlT, tabsT] at hlen; omega
  have D := hid0 (put1 h [10] (by simp; omega))
  clear h hlen
  go_enter Tryz.func41, Tryz.ntmps41
  go_wp2_with fail
  refine D.out.mono ?_
  rintro ev w2 ⟨rfl, p1, p2⟩
  have HW2 := hid0 p1
  have HF2 := hid0 p2
  have c2 := p1.cells.2
  clear p1 p2 D
  go_wp2_with fail
  go_loopw [9] (fun i wr => ∃ k : Nat, k ≤ d ∧ i = .int .i64 k ∧ Wtr C b (S ++ [10] ++ tabsT k) d wr ∧ Fr C w wr) (fun i _ => d - (intOf i).toNat)
  case atStart => exact ⟨0, by omega, rfl, by simpa [tabsT] using HW2.out, HF2.out⟩
  case round =>
    obtain ⟨k, hk, rfl, hw, hf⟩ := hrel
    have HW := hid0 hw
    have HF := hid0 hf
    clear hw hf
    by_cases h3 : k < d
    · have i1 : (k : Int) < (d : Int) := by omega
      have D := hid0 (put1 HW.out [9] (by simp [tabsT]; omega))
      clear HW
      go_wp2_with fail
      refine D.out.mono ?_
      rintro ev w3 ⟨rfl, p1, p2⟩
      go_wp2_with fail
      go_roundw
      case rel => exact ⟨k + 1, by omega, by go_num, by have := p1; simpa [tabsT, List.replicate_succ', List.append_assoc] using this, HF.out.trans p2⟩
      case measure => simp [intOf]; omega
    · have i1 : ¬ (k : Int) < (d : Int) := by omega
      have hkd : k = d := by omega
      have HX : Hid (Wtr C b (S ++ nlT d) d wr) := by show Wtr C b (S ++ nlT d) d wr; have := HW.out; rw [hkd] at this; simpa [nlT, List.append_assoc] using this
      clear hkd
      go_wp2_with fail
      go_end0
      exact ⟨rfl, HX.out, HF.out⟩
end Go.Proofs.YtlbhaaldndjigaaGreatDoor
