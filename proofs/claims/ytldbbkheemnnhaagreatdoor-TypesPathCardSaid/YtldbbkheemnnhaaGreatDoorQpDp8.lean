/-
  How deep a type is.
-/
import Derived.Test.YtldbbkheemnnhaaGreatDoorJpRq83
namespace Go.Proofs.YtldbbkheemnnhaaGreatDoor
open Go.RowKit
def deepB : Nat -> RTy -> Bool
 | 0, _ => true
 | k + 1, t => decide (2 < t.elem.length) || (decide (70 < t.regs.length) || t.elem.any (deepB k))
theorem deepB_fit : ∀ {k : Nat} {t : RTy}, deepB k t = false -> Fit k t
 | 0, _, h => by simp [deepB] at h
 | k + 1, t, h => by
  simp only [deepB, Bool.or_eq_false_iff, decide_eq_false_iff_not, List.any_eq_false] at h
  exact ⟨by omega, by omega, fun e he => deepB_fit (by have := h.2.2 e he; simpa using this)⟩
set_option maxHeartbeats 16000000 in
set_option maxRecDepth 20000 in
theorem deep10 {K : Ctx} : ∀ (k : Nat) {n : Nat} {m : Int} {w : World} {cs : List Value} {t : RTy}, m = (k : Int) -> m <= 100000 -> RtAt n K w cs t -> K.C <= w.heap.size ->
  Calls Tryz.prog 10 #[.agg cs.toArray, .int .i64 m] w fun ev w' => ev = .returned (.bool (deepB k t)) /\ Below w.heap.size w w'
 | 0, n, m, w, cs, t, hm, _, ht, hC => by
  obtain ⟨n, rfl⟩ : ∃ j, n = j + 1 := by
   cases n with
   | zero => exact ht.elim
   | succ j => exact ⟨j, rfl⟩
  obtain ⟨v2, v3, rfl, _, h2, h3⟩ := ht
  have HA := hidP (alloc_one w (.cells #[.int .i64 t.kind, .string (str t.name), v2, v3] 25))
  clear h2 h3 hC
  obtain rfl : m = 0 := by omega
  clear hm
  generalize t.kind = kd at *
  generalize str t.name = SN at *
  go_enter Tryz.func10, Tryz.ntmps10
  go_wp2_with fail
  go_ret
  exact ⟨retB rfl, HA.out⟩
 | k + 1, n, m, w, cs, t, hm, hm9, ht, hC => by
  have IH := hidP (fun (y : World) (hy : Below w.heap.size w y) (n : Nat) (cs : List Value) (e : RTy) (he : RtAt n K y cs e) => deep10 k (m := m - 1) (by omega) (by omega) he (Nat.le_trans hC hy.size))
  obtain ⟨n, rfl⟩ : ∃ j, n = j + 1 := by
   cases n with
   | zero => exact ht.elim
   | succ j => exact ⟨j, rfl⟩
  obtain ⟨v2, v3, rfl, _, h2, h3⟩ := ht
  obtain ⟨a2, p2, rfl⟩ := Ar.form h2
  obtain ⟨a3, p3, rfl⟩ := Ar.form h3
  have AN := hidP (fun i hi => Ar.each h3 i hi)
  have HC := hidP hC
  have HS := hidP (show deepB (k + 1) t = (decide (2 < t.elem.length) || (decide (70 < t.regs.length) || t.elem.any (deepB k))) from rfl)
  have HA := hidP (alloc_one w (.cells #[.int .i64 t.kind, .string (str t.name), .slice a2 t.regs.length p2, .slice a3 t.elem.length p3] 25))
  have R2 := hidP (Row.new w 25 [.int .i64 t.kind, .string (str t.name), .slice a2 t.regs.length p2, .slice a3 t.elem.length p3])
  have hm1 : 1 <= m := by omega
  clear h2 h3 hC hm
  generalize t.kind = kd at *
  generalize str t.name = SN at *
  generalize hnr : t.regs.length = nr at HS HA R2 ⊢
  clear hnr
  generalize hne : t.elem.length = ne at HS HA R2 ⊢
  have HNE := hidP hne
  clear hne
  have y2 := R2.out.cell 2
  have y3 := R2.out.cell 3
  simp only [List.getElem?_cons_zero, List.getElem?_cons_succ] at y2 y3
  have m1 : ¬ m <= 0 := by omega
  by_cases h2 : 2 < ne
  ·have HQ := hidP (show deepB (k + 1) t = true by rw [HS.out, decide_eq_true h2, Bool.true_or])
   have l2 : (2 : Int) < (ne : Int) := by omega
   clear HS IH AN
   go_enter Tryz.func10, Tryz.ntmps10
   go_wp2_with fail
   go_ret
   exact ⟨retB HQ.out, HA.out⟩
  ·by_cases h7 : 70 < nr
   ·have HQ := hidP (show deepB (k + 1) t = true by rw [HS.out, decide_eq_true h7, Bool.true_or, Bool.or_true])
    have l2 : ¬ (2 : Int) < (ne : Int) := by omega
    have l7 : (70 : Int) < (nr : Int) := by omega
    clear HS IH AN
    go_enter Tryz.func10, Tryz.ntmps10
    go_wp2_with fail
    go_ret
    exact ⟨retB HQ.out, HA.out⟩
   ·have HQ := hidP (show deepB (k + 1) t = t.elem.any (deepB k) by rw [HS.out, decide_eq_false h7, decide_eq_false h2, Bool.false_or, Bool.false_or])
    have l2 : ¬ (2 : Int) < (ne : Int) := by omega
    have l7 : ¬ (70 : Int) < (nr : Int) := by omega
    clear HS
    go_enter Tryz.func10, Tryz.ntmps10
    go_wp2_with fail
    clear y2 y3
    go_loopg [5] ne (fun r v5 wr => ∃ i : Nat, i + r = ne /\ v5 = .int .i64 (i : Int) /\ Below w.heap.size w wr /\ Row wr w.heap.size 25 [.int .i64 kd, .string SN, .slice a2 nr p2, .slice a3 ne p3] /\ (t.elem.drop i).any (deepB k) = t.elem.any (deepB k))
    case atStart => exact ⟨0, by omega, rfl, HA.out, R2.out, rfl⟩
    case round =>
     obtain ⟨i, hi, rfl, hb, hr, hd⟩ := hrel
     have HB := hidP hb
     have HD := hidP hd
     have RW := hidP hr
     have y3 := hr.cell 3
     simp only [List.getElem?_cons_zero, List.getElem?_cons_succ] at y3
     clear hb hd hr HA R2
     by_cases hlt : i < ne
     ·have hil : i < t.elem.length := by have := HNE.out; omega
      obtain ⟨b1, o1, rfl, hb1, c1, hl1, hc1, hp1⟩ := AN.out i hil
      have r1 := hidP (range_le hc1 HB.out (Nat.lt_of_lt_of_le hb1 HC.out))
      have s1 := hidP (show (Tryz.prog.info? 25).map (·.size) = some c1.length by rw [hl1]; exact Tryz.sz25)
      have CALL := hidP (IH.out wr HB.out n c1 _ (hp1.below (below_le HB.out HC.out)))
      have HDD := hidP (show (t.elem.drop i).any (deepB k) = (deepB k t.elem[i] || (t.elem.drop (i + 1)).any (deepB k)) by rw [List.drop_eq_getElem_cons hil, List.any_cons])
      generalize t.elem[i] = x at CALL HDD
      clear hp1 hc1 hl1 hb1 hil
      have l1 : (i : Int) < (ne : Int) := by omega
      go_wp2_with (first | (refine wpList_load_mid rfl 25 (.tmp 30) rfl b1 (o1 + i * 4) rfl c1 _ r1.out Tryz.underlying25 rfl s1.out ?_))
      refine CALL.out.mono ?_
      rintro _ w5 ⟨rfl, hb5⟩
      have HB5 := hidP (HB.out.trans (below_le hb5 HB.out.size))
      have RW5 := hidP (RW.out.below hb5 RW.out.lt)
      clear CALL RW HB hb5 y3 r1
      rcases hpp : deepB k x with _ | _
      ·have HP := hidP hpp
       clear hpp
       go_wp2_with fail
       go_roundg (gk - 1)
       case measure => omega
       case rel => exact ⟨i + 1, by omega, by go_num, HB5.out, RW5.out, by rw [← HD.out, HDD.out, HP.out, Bool.false_or]⟩
      ·have HP := hidP hpp
       clear hpp
       go_wp2_with fail
       go_ret
       exact ⟨retB (by rw [HQ.out, ← HD.out, HDD.out, HP.out, Bool.true_or]), HB5.out⟩
     ·have e : i = ne := by omega
      have HT := hidP (show deepB (k + 1) t = false by
       rw [HQ.out, ← HD.out, List.drop_eq_nil_of_le (by have := HNE.out; omega)]
       rfl)
      subst e
      clear hlt
      go_wp2_with fail
      go_ret
      exact ⟨retB HT.out, HB.out⟩
end Go.Proofs.YtldbbkheemnnhaaGreatDoor
