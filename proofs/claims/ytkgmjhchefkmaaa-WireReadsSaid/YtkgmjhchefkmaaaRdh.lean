/-
  The Reader's Hash.
-/
import Derived.Test.YtkgmjhchefkmaaaRdt
import Derived.Laws.CopyOwn
namespace Go.Proofs.Ytkgmjhchefkmaaa
open Go.RowKit

/-- Hash's answer. -/
def rhash (l : List UInt8) (p : Nat) : List UInt8 × Nat × Nat :=
  if l.length - p < 32 then (List.replicate 32 0, p, 3) else ((l.drop p).take 32, p + 32, 0)

/-- Thirty-two noughts. -/
def zeros : Array Value := (List.replicate 32 (Value.int .u8 0)).toArray

theorem zeros_one : zeros.all (·.oneCell') = true := by kernel_rfl

theorem results23_row (tmps : Array Value) (w : World) (g : Nat) (cs : Array Value) (e : Value) (hs : cs.size = 32) (hp : tmps.getD 2 undef = .pointer (some ⟨g, 0, none⟩)) (he : tmps.getD 3 undef = e) (hg : w.heap[g]? = some (.cells cs 27 (0, 0))) :
    (results Try.f23 tmps).run Try.prog w = .ok (.tuple #[.agg cs, e]) w := by
  have hp' : tmps[2]?.getD undef = .pointer (some ⟨g, 0, none⟩) := by simpa using hp
  have he' : tmps[3]?.getD undef = e := by simpa using he
  have hi : (Try.prog.info? 27).map (·.size) = some cs.size := by rw [hs]; kernel_rfl
  simp [results, Try.results23, hp', he', asAddr, run_loadVar_row w g 27 27 cs (0, 0) _ hg Try.underlying27 rfl hi]

theorem er_row {w : World} {e : Value} {code pl g : Nat} {cs : Array Value} (h : Er w e code pl) (hg : w.heap[g]? = some (.cells zeros 27 (0, 0))) : Er (w.setRow g cs) e code pl := by
  obtain ⟨b, he, h0, h1, h2⟩ := h.shape
  have hne : b ≠ g := by
    rintro rfl
    rw [cell_of_row w b 0 zeros 27 (0, 0) hg] at h0
    simp [zeros] at h0
  exact ⟨b, he, (cell_setRow_other w g cs ⟨b, 0, none⟩ hne).trans h0, (cell_setRow_other w g cs ⟨b, 1, none⟩ hne).trans h1, (cell_setRow_other w g cs ⟨b, 2, none⟩ hne).trans h2⟩

/-- Two new blocks of noughts ahead of a call that leaves them as they were. -/
theorem two_rows {w w1 : World} (hb : Below ((w.alloc (.cells zeros 27)).alloc (.cells zeros 27)).heap.size ((w.alloc (.cells zeros 27)).alloc (.cells zeros 27)) w1) :
    w1.heap[w.heap.size]? = some (.cells zeros 27 (0, 0)) ∧ w1.heap[w.heap.size + 1]? = some (.cells zeros 27 (0, 0)) ∧ Below w.heap.size w w1 := by
  have hz : ((w.alloc (.cells zeros 27)).alloc (.cells zeros 27)).heap.size = w.heap.size + 2 := by simp
  refine ⟨?_, ?_, ?_⟩
  · rw [hb.block w.heap.size (by omega), Below.heap_alloc _ _ _ (by simp), heap_alloc_new]
  · rw [hb.block (w.heap.size + 1) (by omega)]
    have := heap_alloc_new (w.alloc (.cells zeros 27)) (.cells zeros 27)
    simpa using this
  · exact (((Below.refl w.heap.size w).alloc (Nat.le_refl _) _).alloc (by simp) _).trans (hb.mono (by omega))

set_option maxHeartbeats 2000000 in
set_option maxRecDepth 20000 in
theorem rHash_any (w : World) (rb : Nat) (v : Value) (l : List UInt8) (p : Nat) (h : Rd w rb v l p) :
    Calls Try.prog 23 #[.pointer (some ⟨rb, 0, none⟩)] w fun ev w' => ∃ e, ev = .returned (.tuple #[.agg (bys (rhash l p).1).toArray, e]) ∧ Out w w' rb v l p (rhash l p).2.1 (rhash l p).2.2 e := by
  have hA : Below w.heap.size w ((w.alloc (.cells zeros 27)).alloc (.cells zeros 27)) := ((Below.refl w.heap.size w).alloc (Nat.le_refl _) _).alloc (by simp) _
  have C := left_far _ rb v l p (h.past hA)
  have hle := h.le
  have hmax := h.max
  have hrb := h.lt
  have HR : Hid (∀ w1 (c : Nat), Below w.heap.size w w1 → c ≠ 0 → Calls Try.prog 46 #[.pointer (some ⟨rb, 0, none⟩), .int .i64 (c : Int)] w1 fun ev w' => ∃ e, ev = .returned e ∧ Er w' e c p ∧ Below w1.heap.size w1 w') := fun w1 c hB hc => refuse_any w1 rb v l p c (h.past hB) hc
  have HC : Hid (∀ w1, Below w.heap.size w w1 → w1.cell? ⟨rb, 1, none⟩ = some (.int .i64 (p : Int)) ∧ w1.frozen? ⟨rb, 1, none⟩ = false) := fun w1 hB => ⟨(h.past hB).cell1, (h.past hB).fz⟩
  have A : Aside (Rd w rb v l p) := h
  clear h
  have HQ : Hid (rhash l p = if l.length - p < 32 then (List.replicate 32 0, p, 3) else ((l.drop p).take 32, p + 32, 0)) := rfl
  generalize rhash l p = R at HQ ⊢
  go_enter Try.func23, Try.ntmps23
  go_wp2_with fail
  refine C.mono ?_
  rintro ev w1 ⟨ao, cap, rfl, hL, hb1⟩
  obtain ⟨g0, g1, hB1⟩ := two_rows hb1
  clear C hb1 hA
  by_cases h0 : l.length - p < 32
  · have HQ2 : Hid (R = (List.replicate 32 0, p, 3)) := by show _ = _; rw [HQ.out, if_pos h0]
    have D := HR.out w1 3 hB1 (by decide)
    clear HQ HR hL
    go_wp2_with fail
    refine D.mono ?_
    rintro ev w2 ⟨e, rfl, hE, hb2⟩
    obtain ⟨b, rfl, -⟩ := hE.shape
    have G2 : w2.heap[w.heap.size]? = some (.cells zeros 27 (0, 0)) := by rw [hb2.block w.heap.size (Array.getElem?_eq_some_iff.1 g0).1]; exact g0
    have hB2 := hB1.trans (hb2.mono hB1.size)
    have G3 : (w2.setRow w.heap.size zeros).heap[w.heap.size]? = some (.cells zeros 27 (0, 0)) := setRow_heap w2 _ _ _ 27 _ G2
    have hB3 : Below w.heap.size w (w2.setRow w.heap.size zeros) := below_setRow hB2 (Nat.le_refl _) _
    have HE : Aside (Er (w2.setRow w.heap.size zeros) (.iface 89 (.pointer (some ⟨b, 0, none⟩))) 3 p) := er_row hE G2
    clear hE hb2 hB1 g0 g1
    go_wp2_with (refine wpList_store_row rfl 27 _ _ rfl w.heap.size _ rfl rfl 27 zeros G2 (by kernel_rfl) rfl zeros_one ?_)
    refine bodyPost_ret (v := .tuple #[.agg zeros, .iface 89 (.pointer (some ⟨b, 0, none⟩))]) (results23_row _ _ w.heap.size zeros _ rfl rfl rfl G3) rfl ⟨.iface 89 (.pointer (some ⟨b, 0, none⟩)), ?_, ?_⟩
    · rw [HQ2.out]; rfl
    · rw [HQ2.out]
      exact ⟨.inr ⟨show 3 ≠ 0 by decide, HE.out⟩, A.out.past hB3, grown_below hB3 _⟩
  · have HQ2 : Hid (R = ((l.drop p).take 32, p + 32, 0)) := by show _ = _; rw [HQ.out, if_neg h0]
    obtain ⟨g, o, rfl, hg, hc⟩ := hL.shape.resolve_left (fun hh => by omega)
    obtain ⟨c1, cf⟩ := HC.out w1 hB1
    have hcl : (bys ((l.drop p).take 32)).length = 32 := by rw [bys_len]; simp; omega
    have HX : Hid (∀ j v, (bys ((l.drop p).take 32))[j]? = some v → w1.drew.cell? ((⟨g, o, none⟩ : Addr).add j) = some v) := by
      intro j v hj
      have hlt : j < 32 := by
        rcases Nat.lt_or_ge j 32 with h | h
        · exact h
        · rw [List.getElem?_eq_none (by omega)] at hj; cases hj
      rw [addr_add]
      show w1.cell? _ = _
      rw [hc j (by omega), ← hj, bys_get _ j (by rw [bys_len] at hcl; omega)]
      simp [List.getD, List.getElem?_drop, hlt]
    obtain ⟨X, hX⟩ : ∃ X, X = bys ((l.drop p).take 32) := ⟨_, rfl⟩
    rw [← hX] at HX hcl
    have H1 : Hid (∀ v ∈ X, v.oneCell' = true) := by rw [hX]; exact bys_one _
    have HX0 : Hid (X = bys ((l.drop p).take 32)) := hX
    have HG : Hid (w1.drew.heap[w.heap.size + 1]? = some (.cells (List.replicate 32 (Value.int .u8 0)).toArray 27 (0, 0))) := g1
    have HBd : Hid (Below (w.heap.size + 1) w1 w1.drew) := (Below.refl _ w1).drew
    clear HQ HR hL hc hX HC
    go_wp2_with fail
    go_region_law (refine step_copy_splice rfl (.tmp 18) (.tmp 19) 32 32 rfl 5 Try.underlying32 (by kernel_rfl) (some ⟨w.heap.size + 1, 0, none⟩) (some ⟨g, o, none⟩) 32 32 (l.length - p) cap (by simp [Act.eval, Act.put]) (by simp [Act.eval, Act.put]) (w.heap.size + 1) 0 (List.replicate 32 (Value.int .u8 0)) 27 HG.out X (by rw [hcl]; show 32 = min _ _; omega) (fun _ => ⟨rfl, _, rfl, HX.out⟩) (by simp [hcl]) H1.out (w.heap.size + 1) w1 HBd.out (Nat.le_refl _) ?_; intro w4 hg4 hb4; have c4 := hb4.cell (p := ⟨rb, 1, none⟩) (show rb < w.heap.size + 1 by omega); have f4 := hb4.frozen (p := ⟨rb, 1, none⟩) (show rb < w.heap.size + 1 by omega))
    all_goals
      have ew : IntKind.i64.wrap ((p : Int) + 32) = ((p + 32 : Nat) : Int) := by rw [IntKind.wrap_i64]; omega
      rw [ew]
      have hsp : splice (List.replicate 32 (Value.int .u8 0)) 0 X = X := by unfold splice; rw [List.take_zero, List.nil_append, List.drop_eq_nil_of_le (by simp; omega), List.append_nil]
      have hg4' := hg4.out
      rw [hsp] at hg4'
      have hR4 : Rd w4 rb v l p := (A.out.past hB1).below (C := w.heap.size + 1) (by omega) (fun k e => by have := (A.out.own.lt k e).2; omega) hb4
      have hS := hR4.step (q := p + 32) (by omega)
      have hB4 : Below w.heap.size w w4 := hB1.trans (hb4.mono (by omega))
      have G5 : (w4.setCell ⟨rb, 1, none⟩ (.int .i64 ((p + 32 : Nat) : Int))).heap[w.heap.size + 1]? = some (.cells X.toArray 27 (0, 0)) := by rw [Below.heap_setCell _ _ _ _ (by show _ ≠ rb; omega)]; exact hg4'
      have G6 : (w4.setCell ⟨rb, 1, none⟩ (.int .i64 ((p + 32 : Nat) : Int))).heap[w.heap.size]? = some (.cells zeros 27 (0, 0)) := by rw [Below.heap_setCell _ _ _ _ (by show _ ≠ rb; omega), hb4.block w.heap.size (by omega)]; exact g0
      obtain ⟨w5, hw5⟩ : ∃ w5, w5 = w4.setCell ⟨rb, 1, none⟩ (.int .i64 ((p + 32 : Nat) : Int)) := ⟨_, rfl⟩
      rw [← hw5] at G5 G6 hS ⊢
      have hi : (Try.prog.info? 27).map (·.size) = some X.toArray.size := by rw [List.size_toArray, hcl]; kernel_rfl
      have hone : X.toArray.all (·.oneCell') = true := by rw [Array.all_eq_true_iff_forall_mem]; intro u hu; exact H1.out u (by simpa using hu)
      have hx32 : X.toArray.size = 32 := by rw [List.size_toArray, hcl]
      have hzs : zeros.size = X.toArray.size := by rw [hx32]; rfl
      have G7 : (w5.setRow w.heap.size X.toArray).heap[w.heap.size]? = some (.cells X.toArray 27 (0, 0)) := setRow_heap w5 _ _ _ 27 _ G6
      have hfin : Out w (w5.setRow w.heap.size X.toArray) rb v l p (p + 32) 0 .nilIface := by
        have hb5 : Below w.heap.size w5 (w5.setRow w.heap.size X.toArray) := below_setRow (Below.refl _ _) (Nat.le_refl _) _
        refine ⟨.inl ⟨rfl, rfl⟩, hS.1.below hrb (fun k e => (A.out.own.lt k e).2) hb5, ?_⟩
        have g1 := (grown_below hB4 (some rb)).trans hS.2
        refine ⟨hb5.os.trans g1.os, hb5.tape.trans g1.tape, hb5.output.trans g1.output, Nat.le_trans g1.size hb5.size, fun k hk hne => (hb5.block k hk).trans (g1.block k hk hne)⟩
      have HF : Aside (Out w (w5.setRow w.heap.size X.toArray) rb v l p (p + 32) 0 .nilIface) := hfin
      clear hfin hS hw5 hR4 hB4 hg4 hg4' hb4 c4 f4 hsp ew g0 g1 c1 cf HG HBd HX
      go_wp2_with (first | (refine wpList_load_row rfl 27 _ rfl (w.heap.size + 1) rfl 27 X.toArray (0, 0) _ G5 Try.underlying27 rfl hi ?_) | (refine wpList_store_row rfl 27 _ _ rfl w.heap.size X.toArray rfl rfl 27 zeros G6 hi hzs hone ?_))
      refine bodyPost_ret (v := .tuple #[.agg X.toArray, .nilIface]) (results23_row _ _ w.heap.size X.toArray _ hx32 rfl rfl G7) rfl ⟨.nilIface, ?_, ?_⟩
      · rw [HQ2.out, HX0.out]
      · rw [HQ2.out]
        exact HF.out
end Go.Proofs.Ytkgmjhchefkmaaa
