/-
  The document's own Reader: Hash.
-/
import Derived.Test.YtkgmjhchefkmaaaRft
namespace Go.Proofs.Ytkgmjhchefkmaaa
open Go.RowKit

/-- The array when k bytes are in it. -/
def fill (l : List UInt8) (p k : Nat) : List Value := bys ((l.drop p).take k ++ List.replicate (32 - k) 0)
theorem fill_len (l : List UInt8) (p k : Nat) (hp : p + 32 ≤ l.length) (hk : k ≤ 32) : (fill l p k).length = 32 := by
  unfold fill; rw [bys_len]; simp; omega
theorem fill_next (l : List UInt8) (p k : Nat) (hp : p + 32 ≤ l.length) (hk : k < 32) (j : Nat) (u : Value) (h : (fill l p (k + 1))[j]? = some u) :
    (j = k ∧ u = .int .u8 ((l.getD (p + k) 0).toNat : Int)) ∨ (j ≠ k ∧ (fill l p k)[j]? = some u) := by
  have hj : j < 32 := by
    rcases Nat.lt_or_ge j 32 with h' | h'
    · exact h'
    · rw [List.getElem?_eq_none (by rw [fill_len l p (k + 1) hp (by omega)]; exact h')] at h; cases h
  have len1 := fill_len l p (k + 1) hp (by omega)
  have len0 := fill_len l p k hp (by omega)
  unfold fill at h len1 len0 ⊢
  rw [bys_len] at len1 len0
  rw [bys_get _ j (by omega)] at h
  rcases Nat.lt_trichotomy j k with hjk | hjk | hjk
  · right
    refine ⟨by omega, ?_⟩
    rw [bys_get _ j (by omega), ← h]
    have e1 : j < ((l.drop p).take k).length := by simp; omega
    have e2 : j < ((l.drop p).take (k + 1)).length := by simp; omega
    simp [List.getD, List.getElem?_append_left e1, List.getElem?_append_left e2, hjk, show j < k + 1 by omega]
  · left
    subst hjk
    refine ⟨rfl, ?_⟩
    have e2 : j < ((l.drop p).take (j + 1)).length := by simp; omega
    have := Option.some.inj h
    rw [← this]
    simp [List.getD, List.getElem?_append_left e2]
  · right
    refine ⟨by omega, ?_⟩
    rw [bys_get _ j (by omega), ← h]
    have l1 : ((l.drop p).take k).length = k := by simp; omega
    have l2 : ((l.drop p).take (k + 1)).length = k + 1 := by simp; omega
    rw [List.getD, List.getD, List.getElem?_append_right (by omega), List.getElem?_append_right (by omega), l1, l2, List.getElem?_replicate, List.getElem?_replicate, if_pos (by omega), if_pos (by omega)]
theorem fill_all (l : List UInt8) (p : Nat) : fill l p 32 = bys ((l.drop p).take 32) := by simp [fill]

theorem results42_row (tmps : Array Value) (w : World) (g : Nat) (cs : Array Value) (hs : cs.size = 32) (hp : tmps.getD 2 undef = .pointer (some ⟨g, 0, none⟩)) (hg : w.heap[g]? = some (.cells cs 27 (0, 0))) :
    (results Try.f42 tmps).run Try.prog w = .ok (.agg cs) w := by
  have hp' : tmps[2]?.getD undef = .pointer (some ⟨g, 0, none⟩) := by simpa using hp
  have hi : (Try.prog.info? 27).map (·.size) = some cs.size := by rw [hs]; kernel_rfl
  simp [results, Try.results42, hp', asAddr, run_loadVar_row w g 27 27 cs (0, 0) _ hg Try.underlying27 rfl hi]

/-- Where Hash's loop stands. -/
structure XRel (w : World) (xb : Nat) (l : List UInt8) (p k : Nat) (wr : World) : Prop where
  rf : Rf wr xb l p 0 0
  row : wr.rangeAt (w.heap.size + 1) 0 (fill l p k)
  fz : ∀ j, wr.frozen? ⟨w.heap.size + 1, j, none⟩ = false
  res : wr.heap[w.heap.size]? = some (.cells zeros 27 (0, 0))
  below : Below w.heap.size w wr

theorem XRel.drew {w wr : World} {xb p k : Nat} {l : List UInt8} (h : XRel w xb l p k wr) : XRel w xb l p k wr.drew := ⟨h.rf.drew, h.row, h.fz, h.res, h.below.drew⟩

attribute [local go_sem ↓] Go.wp_at_zero Go.wp_at_succ
set_option maxHeartbeats 2000000 in
set_option maxRecDepth 20000 in
theorem xHash_any (w : World) (xb : Nat) (l : List UInt8) (p : Nat) (h : Rf w xb l p 0 0) :
    Calls Try.prog 42 #[.pointer (some ⟨xb, 0, none⟩)] w fun ev w' => ev = .returned (.agg (bys (rhash l p).1).toArray) ∧ Ox w w' xb l p (rhash l p).2.1 (rhash l p).2.2 := by
  have hA : Below w.heap.size w ((w.alloc (.cells zeros 27)).alloc (.cells zeros 27)) := ((Below.refl w.heap.size w).alloc (Nat.le_refl _) _).alloc (by simp) _
  have hR0 := h.past hA
  have c0 := h.c0
  have c1 := h.c1
  have c2 : w.cell? ⟨xb, 2, none⟩ = some (.int .i64 0) := h.c2
  have hmax := h.max
  have hz := str_size l
  have hxb := h.lt
  have hle := h.le
  have HQ : Hid (rhash l p = if l.length - p < 32 then (List.replicate 32 0, p, 3) else ((l.drop p).take 32, p + 32, 0)) := rfl
  generalize rhash l p = R at HQ ⊢
  clear h
  have HA : Hid (Below w.heap.size w ((w.alloc (.cells zeros 27)).alloc (.cells zeros 27))) := hA
  have HR0 : Hid (Rf ((w.alloc (.cells zeros 27)).alloc (.cells zeros 27)) xb l p 0 0) := hR0
  have HG : Hid (∀ n, (((w.alloc (.cells zeros 27)).alloc (.cells zeros 27)).drewN n).heap[w.heap.size]? = some (.cells zeros 27 (0, 0)) ∧ (((w.alloc (.cells zeros 27)).alloc (.cells zeros 27)).drewN n).heap[w.heap.size + 1]? = some (.cells zeros 27 (0, 0))) := by
    intro n
    have := two_rows (w := w) (Below.refl _ ((w.alloc (.cells zeros 27)).alloc (.cells zeros 27)))
    exact ⟨this.1, this.2.1⟩
  clear hA hR0
  by_cases h0 : l.length - p < 32
  · have HQ2 : Hid (R = (List.replicate 32 0, p, 3)) := by show _ = _; rw [HQ.out, if_pos h0]
    have D : Hid (∀ n, Calls Try.prog 43 #[.pointer (some ⟨xb, 0, none⟩), .int .i64 3, .int .i64 (p : Int)] (((w.alloc (.cells zeros 27)).alloc (.cells zeros 27)).drewN n) fun ev w7 => ev = .returned (.tuple #[]) ∧ Rf w7 xb l p 3 p ∧ w.grownBy w7 (some xb) ∧ w7.heap[w.heap.size]? = some (.cells zeros 27 (0, 0)) ∧ w7.heap[w.heap.size + 1]? = some (.cells zeros 27 (0, 0))) := by
      intro n
      refine (fail_any (((w.alloc (.cells zeros 27)).alloc (.cells zeros 27)).drewN n) xb l p 0 3 p (HR0.out.drewN n)).mono ?_
      rintro ev w7 ⟨rfl, hR, hg⟩
      have hG := HG.out n
      have hs2 : (((w.alloc (.cells zeros 27)).alloc (.cells zeros 27)).drewN n).heap.size = w.heap.size + 2 := by show ((w.alloc _).alloc _).heap.size = _; simp
      refine ⟨rfl, hR, ((grown_below HA.out (some xb)).trans (grown_drewN _ n _)).trans hg, ?_, ?_⟩
      · rw [hg.block w.heap.size (by omega) (by intro e; cases e; omega)]; exact hG.1
      · rw [hg.block (w.heap.size + 1) (by omega) (by intro e; cases e; omega)]; exact hG.2
    generalize str l = S at *
    clear HQ
    go_enter Try.func42, Try.ntmps42
    go_wp2_with fail
    go_quiet (fail)
    go_wp2_with fail
    refine (D.out _).mono ?_
    rintro ev w7 ⟨rfl, hR, g1, G0, G1⟩
    have G3 : (w7.setRow w.heap.size zeros).heap[w.heap.size]? = some (.cells zeros 27 (0, 0)) := setRow_heap w7 _ _ _ 27 _ G0
    have hb8 : Below w.heap.size w7 (w7.setRow w.heap.size zeros) := below_setRow (Below.refl _ _) (Nat.le_refl _) _
    have hR8 := hR.same (hb8.block xb hxb)
    have hi : (Try.prog.info? 27).map (·.size) = some zeros.size := by kernel_rfl
    have AF : Aside (Ox w (w7.setRow w.heap.size zeros) xb l p p 3) := by
      refine ⟨hR8, ?_⟩
      exact ⟨hb8.os.trans g1.os, hb8.tape.trans g1.tape, hb8.output.trans g1.output, Nat.le_trans g1.size hb8.size, fun k hk hne => (hb8.block k hk).trans (g1.block k hk hne)⟩
    clear g1 hR hR8 hb8 D HR0 HG HA
    go_wp2_with (first | (refine wpList_load_row rfl 27 _ rfl (w.heap.size + 1) rfl 27 zeros (0, 0) _ G1 Try.underlying27 rfl hi ?_) | (refine wpList_store_row rfl 27 _ _ rfl w.heap.size zeros rfl rfl 27 zeros G0 hi rfl zeros_one ?_))
    refine bodyPost_ret (v := .agg zeros) (results42_row _ _ w.heap.size zeros rfl rfl G3) rfl ⟨?_, ?_⟩
    · rw [HQ2.out]; rfl
    · rw [HQ2.out]
      exact AF.out
  · have HQ2 : Hid (R = ((l.drop p).take 32, p + 32, 0)) := by show _ = _; rw [HQ.out, if_neg h0]
    obtain ⟨S, HS, k0, hz'⟩ : ∃ S : ByteArray, Hid (str l = S) ∧ w.cell? ⟨xb, 0, none⟩ = some (.string S) ∧ S.size = l.length := ⟨_, rfl, c0, hz⟩
    have HI : Hid (∀ n, XRel w xb l p 0 (((w.alloc (.cells zeros 27)).alloc (.cells zeros 27)).drewN n)) := by
      intro n
      refine ⟨HR0.out.drewN n, ?_, ?_, (HG.out n).1, ?_⟩
      · intro j u hj
        rw [cell_of_row _ (w.heap.size + 1) (0 + j) zeros 27 (0, 0) (HG.out n).2]
        have e : fill l p 0 = zeros.toList := by simp [fill, bys, zeros]
        rw [e] at hj
        simpa using hj
      · intro j
        simp
      · exact ⟨HA.out.os, HA.out.tape, HA.out.output, HA.out.size, HA.out.block⟩
    clear HQ c0 hz
    go_enter Try.func42, Try.ntmps42
    go_wp2_with fail
    go_quiet (fail)
    go_wp2_with fail
    go_loopw [4] (fun i wr => ∃ k : Nat, k ≤ 32 ∧ i = .int .i64 k ∧ XRel w xb l p k wr) (fun i _ => 32 - (intOf i).toNat)
    case atStart => exact ⟨0, by omega, rfl, HI.out _⟩
    case round =>
      obtain ⟨k, hk, rfl, hX⟩ := hrel
      clear HI k0 c1 c2
      have c0 := hX.rf.c0
      rw [HS.out] at c0
      have c1 := hX.rf.c1
      have f1 := hX.rf.fz 1
      by_cases hk3 : k < 32
      · have hpk : p + k < S.size := by omega
        have hx : (S[p + k]).toNat = (l.getD (p + k) 0).toNat := by
          have := HS.out; subst this
          simp [List.getD, List.getElem?_eq_getElem (show p + k < l.length by omega)]; rfl
        have q0 : wr.cell? ⟨w.heap.size + 1, k, none⟩ = some ((fill l p k).getD k undef) := by
          have hl := fill_len l p k (by omega) hk
          have := hX.row k _ (List.getElem?_eq_getElem (by omega))
          rw [Nat.zero_add] at this
          rw [this]
          simp [List.getD, List.getElem?_eq_getElem (show k < (fill l p k).length by omega)]
        have q1 := hX.fz k
        have HN : Hid (XRel w xb l p (k + 1) (wr.setCell ⟨w.heap.size + 1, k, none⟩ (.int .u8 ((l.getD (p + k) 0).toNat : Int)))) := by
          have hne : xb ≠ w.heap.size + 1 := by omega
          refine ⟨hX.rf.same (Below.heap_setCell _ _ _ _ hne), ?_, ?_, ?_, hX.below.setCell (p := ⟨w.heap.size + 1, k, none⟩) (by show w.heap.size ≤ w.heap.size + 1; omega) _⟩
          · intro j u hj
            rw [Nat.zero_add]
            rcases fill_next l p k (by omega) hk3 j u hj with ⟨rfl, rfl⟩ | ⟨hjk, hj'⟩
            · exact World.cell?_setCell_same wr _ _ q0
            · refine (World.cell?_setCell_other (w := wr) (a := ⟨w.heap.size + 1, k, none⟩) (b := ⟨w.heap.size + 1, j, none⟩) (v := _) (fun e => hjk ?_)).trans ?_
              · have := congrArg Addr.off e; exact this.symm
              · have := hX.row j u hj'
                rw [Nat.zero_add] at this
                exact this
          · intro j
            simpa using hX.fz j
          · rw [Below.heap_setCell _ _ _ _ (by show w.heap.size ≠ w.heap.size + 1; omega)]
            exact hX.res
        generalize (l.getD (p + k) 0).toNat = x at *
        generalize (fill l p k).getD k undef = y at *
        have hne : xb ≠ w.heap.size + 1 := by omega
        have hne' : w.heap.size + 1 ≠ xb := by omega
        have hu : x < 256 := by rw [← hx]; exact (S[p + k]).toNat_lt
        have i1 : (p : Int) + (k : Int) < (S.size : Int) := by omega
        have i2 : (0 : Int) ≤ (p : Int) + (k : Int) := by omega
        have i3 : IntKind.i64.wrap ((p : Int) + (k : Int)) = (p : Int) + (k : Int) := by rw [IntKind.wrap_i64]; omega
        have i4 : ((p : Int) + (k : Int)).toNat = p + k := by omega
        clear hX HR0 HG HA
        clear hz'
        go_wp2_with fail
        go_region_held (fun x => x.cell? ⟨xb, 0, none⟩ = some (.string S) ∧ x.cell? ⟨xb, 1, none⟩ = some (.int .i64 (p : Int))) (go_keep) (fail)
        go_wp2_with fail
        go_roundw
        case rel => exact ⟨k + 1, by omega, by go_num, HN.out.drew⟩
        case measure => simp [intOf]; omega
      · obtain rfl : k = 32 := by omega
        have hne : xb ≠ w.heap.size + 1 := by omega
        obtain ⟨X, hXX⟩ : ∃ X, X = bys ((l.drop p).take 32) := ⟨_, rfl⟩
        have hcl : X.length = 32 := by rw [hXX, bys_len]; simp; omega
        have H1 : ∀ v ∈ X, v.oneCell' = true := by rw [hXX]; exact bys_one _
        have G5 : (wr.setCell ⟨xb, 1, none⟩ (.int .i64 ((p : Int) + 32))).rangeAt (w.heap.size + 1) 0 X := by
          intro j u hj
          refine (World.cell?_setCell_other (w := wr) (a := ⟨xb, 1, none⟩) (b := ⟨w.heap.size + 1, 0 + j, none⟩) (v := _) (fun e => hne (congrArg Addr.block e))).trans (hX.row j u ?_)
          rw [fill_all, ← hXX]; exact hj
        have G6 : (wr.setCell ⟨xb, 1, none⟩ (.int .i64 ((p : Int) + 32))).heap[w.heap.size]? = some (.cells zeros 27 (0, 0)) := by rw [Below.heap_setCell _ _ _ _ (by show _ ≠ xb; omega)]; exact hX.res
        have hS5 := hX.rf.atP (p + 32) (by omega)
        have hg5 := (grown_below hX.below (some xb)).trans (grown_set wr xb 1 (.int .i64 ((p + 32 : Nat) : Int)))
        have ew : (.int .i64 ((p + 32 : Nat) : Int) : Value) = .int .i64 ((p : Int) + 32) := by simp
        rw [ew] at hS5 hg5
        have hi : (Try.prog.info? 27).map (·.size) = some X.toArray.size := by rw [List.size_toArray, hcl]; kernel_rfl
        have hi' : (Try.prog.info? 27).map (·.size) = some X.length := by rw [hcl]; kernel_rfl
        have hone : X.toArray.all (·.oneCell') = true := by rw [Array.all_eq_true_iff_forall_mem]; intro u hu; exact H1 u (by simpa using hu)
        have hx32 : X.toArray.size = 32 := by rw [List.size_toArray, hcl]
        have hzs : zeros.size = X.toArray.size := by rw [hx32]; rfl
        have AF : Aside (∀ w5, w5 = wr.setCell ⟨xb, 1, none⟩ (.int .i64 ((p : Int) + 32)) → (w5.setRow w.heap.size X.toArray).heap[w.heap.size]? = some (.cells X.toArray 27 (0, 0)) ∧ Ox w (w5.setRow w.heap.size X.toArray) xb l p (p + 32) 0) := by
          rintro w5 rfl
          have hb5 : Below w.heap.size (wr.setCell ⟨xb, 1, none⟩ (.int .i64 ((p : Int) + 32))) ((wr.setCell ⟨xb, 1, none⟩ (.int .i64 ((p : Int) + 32))).setRow w.heap.size X.toArray) := below_setRow (Below.refl _ _) (Nat.le_refl _) _
          refine ⟨setRow_heap _ _ _ _ 27 _ G6, hS5.same (hb5.block xb hxb), ?_⟩
          exact ⟨hb5.os.trans hg5.os, hb5.tape.trans hg5.tape, hb5.output.trans hg5.output, Nat.le_trans hg5.size hb5.size, fun k hk hne => (hb5.block k hk).trans (hg5.block k hk hne)⟩
        clear hX HR0 HG HA hS5 hg5 ew
        go_wp2_with (first | (refine wpList_load_mid rfl 27 _ rfl (w.heap.size + 1) 0 rfl X _ G5 Try.underlying27 rfl hi' ?_) | (refine wpList_store_row rfl 27 _ _ rfl w.heap.size X.toArray rfl rfl 27 zeros G6 hi hzs hone ?_))
        refine bodyPost_ret (v := .agg X.toArray) (results42_row _ _ w.heap.size X.toArray hx32 rfl (AF.out _ rfl).1) rfl ⟨?_, ?_⟩
        · rw [HQ2.out, hXX]
        · rw [HQ2.out]
          exact (AF.out _ rfl).2
end Go.Proofs.Ytkgmjhchefkmaaa
