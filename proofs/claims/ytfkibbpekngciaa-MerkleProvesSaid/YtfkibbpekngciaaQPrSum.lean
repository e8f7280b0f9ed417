/-
  Sum.
-/
import Derived.Test.YtfkibbpekngciaaQPrAll
import Derived.Test.YtfkibbpekngciaaQPrEnd
namespace Go.Proofs.Ytfkibbpekngciaa
open Go.RowKit

def first8 : St := ⟨0x6a09e667, 0xbb67ae85, 0x3c6ef372, 0xa54ff53a, 0x510e527f, 0x9b05688c, 0x1f83d9ab, 0x5be0cd19⟩
/-- The letters when all is done. -/
def sumSt (l : List UInt8) : St :=
  mixes (mixes first8 (l.take (64 * (l.length / 64))) (l.length / 64)) (ended (l.drop (64 * (l.length / 64))) (8 * l.length)) ((ended (l.drop (64 * (l.length / 64))) (8 * l.length)).length / 64)
def St.bytes (s : St) : List UInt8 := four s.a ++ four s.b ++ four s.c ++ four s.d ++ four s.e ++ four s.f ++ four s.g ++ four s.h
theorem St.bytes_len (s : St) : s.bytes.length = 32 := rfl
def sumF (l : List UInt8) : List UInt8 := (sumSt l).bytes

theorem run_index47 (cs : Array Value) (v : Value) (i : Nat) (hi : i < 4) (hv : cs[i]? = some v) (w : World) : (Instr.index 74 (.agg cs) (.int .i64 (i : Int))).run Try.prog w = .ok v w := by
  obtain ⟨i0, h41, hz0, hz1, hz2⟩ := info_parts Try.info5
  have hn : (0 : Int) ≤ i ∧ (i : Int) < 4 := by omega
  simp [Instr.index, run_underlying Try.underlying74, asIntOf, go_sem, hi]
  rw [hv]; rfl

def z25 : List Value := bys (List.replicate 32 0)
def padB (out : List UInt8) (m : Nat) : List UInt8 := out.take m ++ List.replicate (32 - m) 0
theorem padB_len (out : List UInt8) (h : out.length = 32) (m : Nat) (hm : m ≤ 32) : (padB out m).length = 32 := by simp [padB, h]; omega
theorem bys_set (l : List UInt8) (j : Nat) (x : UInt8) : bys (l.set j x) = (bys l).set j (.int .u8 (x.toNat : Int)) := by simp [bys, List.map_set]
theorem padB_set (out : List UInt8) (h : out.length = 32) (m : Nat) (hm : m < 32) : (padB out m).set m (out.getD m 0) = padB out (m + 1) := by
  have hl : (out.take m).length = m := by simp; omega
  obtain ⟨n, hn⟩ : ∃ n, 32 - m = n + 1 := ⟨32 - m - 1, by omega⟩
  unfold padB
  rw [List.set_append_right _ _ (by omega), hl, Nat.sub_self, hn, List.replicate_succ, List.set_cons_zero, List.take_add_one, List.append_assoc]
  have e : out[m]?.toList = [out.getD m 0] := by simp [List.getD, List.getElem?_eq_getElem (show m < out.length by omega)]
  rw [e, List.singleton_append]
  congr 3
  omega
theorem padB_all (out : List UInt8) (h : out.length = 32) : padB out 32 = out := by simp [padB, ← h]

/-- Where Sum stands ahead of its bytes. -/
structure PRel (w : World) (s : St) (wr : World) : Prop where
  res : Row wr w.heap.size 26 z25
  row : Row wr (w.heap.size + 1) 71 (u32s s.list)
  below : Below w.heap.size w wr
theorem PRel.drew {w wr : World} {s : St} (h : PRel w s wr) : PRel w s wr.drew := ⟨h.res.drew, h.row.drew, h.below.drew⟩
theorem PRel.past {w wr w' : World} {s : St} (h : PRel w s wr) (hb : Below wr.heap.size wr w') : PRel w s w' :=
  ⟨h.res.below hb h.res.lt, h.row.below hb h.row.lt, h.below.trans (hb.mono h.below.size)⟩
theorem PRel.stored {w wr : World} {s : St} (h : PRel w s wr) (r : St) : PRel w r (stored wr (w.heap.size + 1) r) :=
  ⟨stored_other r h.res (by omega), stored_row r h.row, stored_below r h.below (by omega)⟩
theorem PRel.cells {w wr : World} {a b c d e f g h : Int} (H : PRel w ⟨a, b, c, d, e, f, g, h⟩ wr) :
    wr.cell? ⟨w.heap.size + 1, 0, none⟩ = some (.int .u32 a) ∧ wr.cell? ⟨w.heap.size + 1, 1, none⟩ = some (.int .u32 b) ∧ wr.cell? ⟨w.heap.size + 1, 2, none⟩ = some (.int .u32 c) ∧ wr.cell? ⟨w.heap.size + 1, 3, none⟩ = some (.int .u32 d) ∧
    wr.cell? ⟨w.heap.size + 1, 4, none⟩ = some (.int .u32 e) ∧ wr.cell? ⟨w.heap.size + 1, 5, none⟩ = some (.int .u32 f) ∧ wr.cell? ⟨w.heap.size + 1, 6, none⟩ = some (.int .u32 g) ∧ wr.cell? ⟨w.heap.size + 1, 7, none⟩ = some (.int .u32 h) :=
  ⟨H.row.cell 0, H.row.cell 1, H.row.cell 2, H.row.cell 3, H.row.cell 4, H.row.cell 5, H.row.cell 6, H.row.cell 7⟩

/-- A slice's first bytes, as mixAll wants them. -/
theorem mixAll_sl (w : World) (s : St) (v : Value) (l : List UInt8) (h : Sl w v l) (q : Nat) (hl : l.length = 64 * q) (hq : q ≤ 1000000000000) :
    Calls Try.prog 39 #[s.val, v] w fun ev w' => ev = .returned (mixes s l q).val ∧ Below w.heap.size w w' := by
  rcases h.shape with ⟨ao, rfl, rfl⟩ | ⟨b, o, cap, rfl, hcap, hc⟩
  · obtain rfl : q = 0 := by simp at hl; omega
    exact mixAll_any w s ao 0 0 [] rfl (by omega) (by omega)
  · rw [hl]
    exact mixAll_any w s (some ⟨b, o, none⟩) cap q l hl hq (fun _ => ⟨b, o, rfl, by omega, fun i hi => hc i (by omega)⟩)

theorem Sl.ofOwn {w : World} {B : Nat} {v : Value} {l : List UInt8} (h : w.ownsRow B 5 1 v l.length (bys l)) : Sl w v l := by
  refine ⟨?_⟩
  rcases h.2 with ⟨rfl, h0⟩ | ⟨g, cap, cur, rfl, hrest⟩
  · exact .inl ⟨none, rfl, List.eq_nil_of_length_eq_zero h0⟩
  · refine .inr ⟨g, 0, cap, rfl, hrest.2.2.1, fun i hi => ?_⟩
    rw [Nat.zero_add, h.cellAt i (by omega), bys_get l i hi]
/-- Where Sum's loops over the bytes stand. -/
structure URel (w : World) (gs : Nat) (out : List UInt8) (m : Nat) (wr : World) : Prop where
  res : Row wr w.heap.size 26 z25
  sum : Row wr gs 26 (bys (padB out m))
  lt : w.heap.size < gs
  below : Below w.heap.size w wr
theorem URel.past {w wr w' : World} {gs m : Nat} {out : List UInt8} (h : URel w gs out m wr) (hb : Below wr.heap.size wr w') : URel w gs out m w' :=
  ⟨h.res.below hb h.res.lt, h.sum.below hb h.sum.lt, h.lt, h.below.trans (hb.mono h.below.size)⟩
theorem URel.cell {w wr : World} {gs m : Nat} {out : List UInt8} (h : URel w gs out m wr) (hl : out.length = 32) (hm : m < 32) : wr.cell? ⟨gs, m, none⟩ = some (.int .u8 (((padB out m).getD m 0).toNat : Int)) := by
  rw [h.sum.cell m, bys_get _ _ (by rw [padB_len _ hl _ (by omega)]; exact hm)]
theorem URel.next {w wr : World} {gs m : Nat} {out : List UInt8} (h : URel w gs out m wr) (hl : out.length = 32) (hm : m < 32) : URel w gs out (m + 1) (wr.setCell ⟨gs, m, none⟩ (.int .u8 ((out.getD m 0).toNat : Int))) := by
  have hlt := h.lt
  refine ⟨h.res.other (by omega) _, ?_, h.lt, h.below.setCell (p := ⟨gs, m, none⟩) (by show w.heap.size ≤ gs; omega) _⟩
  have := h.sum.set m (.int .u8 ((out.getD m 0).toNat : Int))
  rw [← bys_set, padB_set out hl m hm] at this
  exact this
theorem four4 {k : Nat} (h : k < 4) : k = 0 ∨ k = 1 ∨ k = 2 ∨ k = 3 := by omega
theorem bytes_at (s : St) (k j : Nat) (hk : k < 8) (hj : j < 4) : (four (s.list.getD k 0)).getD j 0 = s.bytes.getD (4 * k + j) 0 := by
  rcases eight hk with rfl | rfl | rfl | rfl | rfl | rfl | rfl | rfl <;> rcases four4 hj with rfl | rfl | rfl | rfl <;> rfl
theorem wp_world {P : Program} {c : Code} {Q : Exit → Act → World → Prop} {a : Act} {w w' : World} (e : w = w') (h : Code.wp P c Q a w) : Code.wp P c Q a w' := e ▸ h

attribute [local go_sem ↓] Go.wp_at_zero Go.wp_at_succ
set_option maxHeartbeats 4000000 in
set_option maxRecDepth 20000 in
theorem sum_some (w : World) (b o cap : Nat) (l : List UInt8) (hcap : l.length ≤ cap) (hc : ∀ i, i < l.length → w.cell? ⟨b, o + i, none⟩ = some (.int .u8 ((l.getD i 0).toNat : Int))) (hl : l.length ≤ 1000000000) :
    Calls Try.prog 25 #[.slice (some ⟨b, o, none⟩) l.length cap] w fun ev w' => ev = .returned (.agg (bys (sumF l)).toArray) ∧ Below w.heap.size w w' := by
  obtain ⟨q, hq⟩ : ∃ q, q = l.length / 64 := ⟨_, rfl⟩
  obtain ⟨r, hr⟩ : ∃ r, r = 64 * q := ⟨_, rfl⟩
  have hrl : r ≤ l.length := by omega
  obtain ⟨E, hE⟩ : ∃ E, E = ended (l.drop r) (8 * l.length) := ⟨_, rfl⟩
  obtain ⟨m, hm⟩ : ∃ m, E.length = 64 * m := ⟨E.length / 64, by
    have := noughts_end (l.drop r).length
    rw [hE, ended_len]; omega⟩
  have hm2 : m ≤ 1000000 := by
    have := noughts_le (l.drop r).length
    have h2 := ended_len (l.drop r) (8 * l.length)
    rw [← hE, hm, List.length_drop] at h2
    rw [List.length_drop] at this
    omega
  have hS : sumSt l = mixes (mixes first8 (l.take r) q) E m := by
    unfold sumSt
    rw [← hq, ← hr, ← hE, hm]
    congr 1
    omega
  have H0 : Hid (PRel w first8 ((w.alloc (.cells z25.toArray 26)).alloc (.cells (u32s first8.list).toArray 71))) := by
    refine ⟨(Row.new w 26 z25).below ((Below.refl _ _).alloc (Nat.le_refl _) _) (by simp), ?_, ((Below.refl w.heap.size w).alloc (Nat.le_refl _) _).alloc (by simp) _⟩
    have := Row.new (w.alloc (.cells z25.toArray 26)) 71 (u32s first8.list)
    simpa using this
  have H1 : Hid (∀ y, PRel w first8 y → Calls Try.prog 39 #[first8.val, .slice (some ⟨b, o, none⟩) r cap] y fun ev y' => ev = .returned (mixes first8 (l.take r) q).val ∧ PRel w first8 y') := by
    intro y hy
    have hlen : (l.take r).length = r := by simp; omega
    have hs : Sl y (.slice (some ⟨b, o, none⟩) r cap) (l.take r) := by
      refine ⟨.inr ⟨b, o, cap, by rw [hlen], by omega, fun i hi => ?_⟩⟩
      have hi2 := hc i (by omega)
      rw [hy.below.cell (p := ⟨b, o + i, none⟩) (World.block_lt_of_cell? w _ hi2), hi2]
      simp [List.getD, List.getElem?_take_of_lt (show i < r by omega)]
    refine (mixAll_sl y first8 _ _ hs q (by omega) (by omega)).mono ?_
    rintro ev y' ⟨rfl, hb⟩
    exact ⟨rfl, hy.past hb⟩
  have H2 : Hid (∀ y, PRel w (mixes first8 (l.take r) q) y → ∀ o2 c2 n2, n2 = l.length - r → (0 < n2 → o2 = o + r) → n2 ≤ c2 → Calls Try.prog 40 #[.slice (some ⟨b, o2, none⟩) n2 c2, .int .u64 (8 * (l.length : Int))] y fun ev y' => ∃ v', ev = .returned v' ∧ PRel w (mixes first8 (l.take r) q) y' ∧ Sl y' v' E) := by
    intro y hy o2 c2 n2 hn2 ho hc2
    have hlen : (l.drop r).length = n2 := by simp; omega
    have hs : Sl y (.slice (some ⟨b, o2, none⟩) n2 c2) (l.drop r) := by
      refine ⟨.inr ⟨b, o2, c2, by rw [hlen], by omega, fun i hi => ?_⟩⟩
      have hi2 := hc (r + i) (by omega)
      rw [ho (by omega), Nat.add_assoc, hy.below.cell (p := ⟨b, o + (r + i), none⟩) (World.block_lt_of_cell? w _ hi2), hi2]
      simp [List.getD]
    have K := ending_any y _ _ (8 * l.length) hs (by omega)
    rw [← hE] at K
    refine K.mono ?_
    rintro ev y' ⟨v', rfl, hown, hb⟩
    exact ⟨v', rfl, hy.past hb, Sl.ofOwn hown⟩
  have H3 : Hid (∀ y v', PRel w (mixes first8 (l.take r) q) y → Sl y v' E → Calls Try.prog 39 #[(mixes first8 (l.take r) q).val, v'] y fun ev y' => ev = .returned (mixes (mixes first8 (l.take r) q) E m).val ∧ PRel w (mixes first8 (l.take r) q) y') := by
    intro y v' hy hs
    refine (mixAll_sl y _ v' E hs m hm (by omega)).mono ?_
    rintro ev y' ⟨rfl, hb⟩
    exact ⟨rfl, hy.past hb⟩
  have HN2 : Hid (∀ y, PRel w (mixes first8 (l.take r) q) y → PRel w (mixes (mixes first8 (l.take r) q) E m) (stored y (w.heap.size + 1) (mixes (mixes first8 (l.take r) q) E m))) := fun y hy => hy.stored _
  have HS : Hid (sumSt l = mixes (mixes first8 (l.take r) q) E m) := hS
  have hfv : first8.val = .agg #[.int .u32 0x6a09e667, .int .u32 0xbb67ae85, .int .u32 0x3c6ef372, .int .u32 0xa54ff53a, .int .u32 0x510e527f, .int .u32 0x9b05688c, .int .u32 0x1f83d9ab, .int .u32 0x5be0cd19] := rfl
  rw [hfv] at H1
  have HN1 : Hid (∀ y, PRel w first8 y → PRel w (mixes first8 (l.take r) q) (stored y (w.heap.size + 1) (mixes first8 (l.take r) q))) := fun y hy => hy.stored _
  generalize mixes first8 (l.take r) q = S1 at *
  generalize mixes S1 E m = S2 at *
  obtain ⟨a1, b1, c1, d1, e1, f1, g1, h1⟩ := S1
  obtain ⟨a2, b2, c2, d2, e2, f2, g2, h2⟩ := S2
  unfold St.val at H1 H3
  clear hfv
  obtain ⟨W0, hW0⟩ : ∃ W0, W0 = (w.alloc (.cells z25.toArray 26)).alloc (.cells (u32s first8.list).toArray 71) := ⟨_, rfl⟩
  rw [← hW0] at H0
  have AW : Aside (W0 = (w.alloc (.cells z25.toArray 26)).alloc (.cells (u32s first8.list).toArray 71)) := hW0
  have hP0 := H0.out
  obtain ⟨p0, p1, p2, p3, p4, p5, p6, p7⟩ := hP0.cells
  have hP0' := hP0.drew
  clear H0 hP0 hS hW0
  have hrI : (l.length : Int) - (l.length : Int) % 64 = (r : Int) := by omega
  have hrc : (r : Int) ≤ (cap : Int) := by omega
  have HQ : Hid (r = 64 * q) := hr
  clear hr hq hc
  have hE' : Hid (E = ended (l.drop r) (8 * l.length)) := hE
  clear hE
  go_enter Try.func25, Try.ntmps25
  go_wp2_with fail
  refine wp_world AW.out ?_
  clear AW
  go_region_with (go_at_call 39; refine (H1.out _ ?_).mono ?_; assumption; rintro ev w7 ⟨rfl, hA7⟩; obtain ⟨r0, r1, r2, r3, r4, r5, r6, r7⟩ := hA7.cells; have z0 := hA7.row.fz 0; have z1 := hA7.row.fz 1; have z2 := hA7.row.fz 2; have z3 := hA7.row.fz 3; have z4 := hA7.row.fz 4; have z5 := hA7.row.fz 5; have z6 := hA7.row.fz 6; have z7 := hA7.row.fz 7)
  have hP8 := HN1.out _ hA7
  clear hP0' p0 p1 p2 p3 p4 p5 p6 p7 r0 r1 r2 r3 r4 r5 r6 r7 z0 z1 z2 z3 z4 z5 z6 z7 hA7 H1 HN1
  clear W0
  generalize hW8 : stored w7 (w.heap.size + 1) ⟨a1, b1, c1, d1, e1, f1, g1, h1⟩ = w8 at *
  unfold stored at hW8
  rw [hW8]
  clear hW8
  clear w7
  obtain ⟨p0, p1, p2, p3, p4, p5, p6, p7⟩ := hP8.cells
  have hP8' := hP8.drew
  have i1 : IntKind.u64.wrap (l.length : Int) = (l.length : Int) := by
    have : IntKind.u64.wrap (l.length : Int) = (l.length : Int) % 18446744073709551616 := by simp [IntKind.wrap, IntKind.bits, IntKind.signed]
    rw [this]; omega
  have i2 : IntKind.u64.wrap (8 * (l.length : Int)) = 8 * (l.length : Int) := by
    have : IntKind.u64.wrap (8 * (l.length : Int)) = (8 * (l.length : Int)) % 18446744073709551616 := by simp [IntKind.wrap, IntKind.bits, IntKind.signed]
    rw [this]; omega
  have i3 : (r : Int) ≤ (l.length : Int) := by omega
  have HZ : Hid ((sumSt l).bytes = (St.mk a2 b2 c2 d2 e2 f2 g2 h2).bytes) := by show _ = _; rw [HS.out]
  have HX : Hid (∀ (k : Nat), k < 8 → ∀ w : World, (Instr.index 71 (.agg #[.int .u32 a2, .int .u32 b2, .int .u32 c2, .int .u32 d2, .int .u32 e2, .int .u32 f2, .int .u32 g2, .int .u32 h2]) (.int .i64 (k : Int))).run Try.prog w = .ok (.int .u32 ((St.mk a2 b2 c2 d2 e2 f2 g2 h2).list.getD k 0)) w) := by
    intro k hk w
    refine run_index43 _ _ k hk ?_ w
    rcases eight hk with rfl | rfl | rfl | rfl | rfl | rfl | rfl | rfl <;> rfl
  clear HS hm hm2 HQ hE'
  rcases Classical.em (cap = r) with rfl | hcr
  all_goals go_wp2_with fail
  all_goals go_region_with (first | (go_at_call 40; refine (H2.out _ ?_ _ _ _ ?_ ?_ ?_).mono ?_; assumption; omega; omega; omega; rintro ev w6 ⟨v6, rfl, hA6, hSl6⟩; obtain ⟨q0, q1, q2, q3, q4, q5, q6, q7⟩ := hA6.cells) | (go_at_call 39; refine (H3.out _ _ ?_ ?_).mono ?_; assumption; assumption; rintro ev w7 ⟨rfl, hA7⟩; obtain ⟨r0, r1, r2, r3, r4, r5, r6, r7⟩ := hA7.cells; have z0 := hA7.row.fz 0; have z1 := hA7.row.fz 1; have z2 := hA7.row.fz 2; have z3 := hA7.row.fz 3; have z4 := hA7.row.fz 4; have z5 := hA7.row.fz 5; have z6 := hA7.row.fz 6; have z7 := hA7.row.fz 7))
  all_goals
    have hP9 := HN2.out _ hA7
    clear r0 r1 r2 r3 r4 r5 r6 r7 z0 z1 z2 z3 z4 z5 z6 z7 hA7 H2 H3 HN2 hA6 hSl6 q0 q1 q2 q3 q4 q5 q6 q7 hP8' hP8 p0 p1 p2 p3 p4 p5 p6 p7
    generalize hW9 : stored w7 (w.heap.size + 1) ⟨a2, b2, c2, d2, e2, f2, g2, h2⟩ = w9 at *
    unfold stored at hW9
    rw [hW9]
    clear hW9
    clear w7
    have HP : Hid (URel w w9.heap.size (St.mk a2 b2 c2 d2 e2 f2 g2 h2).bytes 0 (w9.alloc (.cells z25.toArray 26))) := by
      refine ⟨hP9.res.below ((Below.refl _ _).alloc (Nat.le_refl _) _) hP9.res.lt, Row.new w9 26 z25, hP9.res.lt, hP9.below.alloc hP9.below.size _⟩
    have hPa := fun o => (hP9.past (w' := w9.alloc o) ((Below.refl _ _).alloc (Nat.le_refl _) _)).cells
    have p0 := fun o => (hPa o).1
    have p1 := fun o => (hPa o).2.1
    have p2 := fun o => (hPa o).2.2.1
    have p3 := fun o => (hPa o).2.2.2.1
    have p4 := fun o => (hPa o).2.2.2.2.1
    have p5 := fun o => (hPa o).2.2.2.2.2.1
    have p6 := fun o => (hPa o).2.2.2.2.2.2.1
    have p7 := fun o => (hPa o).2.2.2.2.2.2.2
    clear hP9 hPa
    go_wp2_with fail
    clear p0 p1 p2 p3 p4 p5 p6 p7
    generalize w9.heap.size = gs at *
    go_loopw [33] (fun i wr => ∃ k : Nat, k ≤ 8 ∧ i = .int .i64 k ∧ URel w gs (St.mk a2 b2 c2 d2 e2 f2 g2 h2).bytes (4 * k) wr) (fun i _ => 8 - (intOf i).toNat)
    case atStart => exact ⟨0, by omega, rfl, HP.out⟩
    case round =>
      obtain ⟨k, hk, rfl, hU⟩ := hrel
      clear HP
      by_cases hk3 : k < 8
      · have hx := HX.out k hk3
        have HF : Hid (∀ j, j < 4 → (four ((St.mk a2 b2 c2 d2 e2 f2 g2 h2).list.getD k 0)).getD j 0 = (St.mk a2 b2 c2 d2 e2 f2 g2 h2).bytes.getD (4 * k + j) 0) := fun j hj => bytes_at _ k j hk3 hj
        have C := high_any ((St.mk a2 b2 c2 d2 e2 f2 g2 h2).list.getD k 0)
        have HU : Hid (URel w gs (St.mk a2 b2 c2 d2 e2 f2 g2 h2).bytes (4 * k) wr) := hU
        have hlen := St.bytes_len (St.mk a2 b2 c2 d2 e2 f2 g2 h2)
        clear HX hU
        generalize (St.mk a2 b2 c2 d2 e2 f2 g2 h2).bytes = out at *
        generalize (St.mk a2 b2 c2 d2 e2 f2 g2 h2).list.getD k 0 = xk at *
        go_wp2_with fail
        refine (C wr).mono ?_
        rintro ev w10 ⟨rfl, hb10⟩
        clear C
        have HV : Hid (URel w gs out (4 * k + 0) w10) := HU.out.past hb10
        have HY : Hid (∀ (j : Nat), j < 4 → ∀ w : World, (Instr.index 74 (.agg (bys (four xk)).toArray) (.int .i64 (j : Int))).run Try.prog w = .ok (.int .u8 ((out.getD (4 * k + j) 0).toNat : Int)) w) := by
          intro j hj w
          refine run_index47 _ _ j hj ?_ w
          rw [← HF.out j hj]
          have := bys_get (four xk) j hj
          simpa using this
        clear HU HF hb10 hx
        generalize (bys (four xk)).toArray = Y at *
        rename World => wB
        go_wp2_with fail
        go_loopw [39] (fun i wr => ∃ j : Nat, j ≤ 4 ∧ i = .int .i64 j ∧ URel w gs out (4 * k + j) wr) (fun i _ => 4 - (intOf i).toNat)
        case atStart => exact ⟨0, by omega, rfl, HV.out⟩
        case round =>
          obtain ⟨j, hj, rfl, hU⟩ := hrel
          clear HV
          by_cases hj3 : j < 4
          · have hy := HY.out j hj3
            have q0 := hU.cell hlen (by omega)
            have q1 := hU.sum.fz (4 * k + j)
            have HN : Hid (URel w gs out (4 * k + (j + 1)) (wr.setCell ⟨gs, 4 * k + j, none⟩ (.int .u8 ((out.getD (4 * k + j) 0).toNat : Int)))) := hU.next hlen (by omega)
            clear HY hU
            generalize (out.getD (4 * k + j) 0).toNat = xx at *
            generalize ((padB out (4 * k + j)).getD (4 * k + j) 0).toNat = yy at *
            have l1 : (j : Int) < 4 := by omega
            have l2 : 4 * (k : Int) + (j : Int) < 32 := by omega
            have l3 : IntKind.i64.wrap (4 * (k : Int) + (j : Int)) = 4 * (k : Int) + (j : Int) := by rw [IntKind.wrap_i64]; omega
            have l4 : (4 * (k : Int) + (j : Int)).toNat = 4 * k + j := by omega
            have l5 : (0 : Int) ≤ 4 * (k : Int) + (j : Int) := by omega
            go_wp2_with fail
            go_roundw
            case rel => exact ⟨j + 1, by omega, by go_num, HN.out⟩
            case measure => simp [intOf]; omega
          · have HW : Hid (URel w gs out (4 * (k + 1)) wr) := by
              obtain rfl : j = 4 := by omega
              exact hU
            have hj4 : (j : Int) = 4 := by omega
            rw [hj4]
            clear hU HY hj hj3 hj4
            go_wp2_with fail
            go_roundw
            case rel => exact ⟨k + 1, by omega, by go_num, HW.out⟩
            case measure => simp [intOf]; omega
      · have hk8 : k = 8 := by omega
        subst hk8
        have hlen := St.bytes_len (St.mk a2 b2 c2 d2 e2 f2 g2 h2)
        have hout : (St.mk a2 b2 c2 d2 e2 f2 g2 h2).bytes = sumF l := HZ.out.symm
        have hsum : Row wr gs 26 (bys (sumF l)) := by
          have := hU.sum
          rw [padB_all _ hlen, hout] at this
          exact this
        rw [hout] at hlen
        have HB : Hid (Below w.heap.size w (wr.setRow w.heap.size (bys (sumF l)).toArray)) := below_setRow hU.below (Nat.le_refl _) _
        have hres := hU.res.heap
        have hrow := hsum.heap
        have hres2 := (hU.res.setRow (bys (sumF l))).heap
        have hi : (Try.prog.info? 26).map (·.size) = some (bys (sumF l)).toArray.size := by rw [List.size_toArray, bys_len, hlen]; exact Try.info26
        have hz : z25.toArray.size = (bys (sumF l)).toArray.size := by rw [List.size_toArray, List.size_toArray, bys_len, hlen]; rfl
        have hone := all_one (bys_one (sumF l))
        obtain ⟨Y2, hY2⟩ : ∃ Y2, Y2 = (bys (sumF l)).toArray := ⟨_, rfl⟩
        rw [← hY2] at HB hrow hres2 hi hz hone
        have HY : Hid (Y2 = (bys (sumF l)).toArray) := hY2
        clear hU hY2 hsum HX hlen hout
        go_wp2_with (first | (refine wpList_load_row rfl 26 _ rfl gs rfl 26 Y2 (0, 0) _ hrow Try.underlying26 rfl hi ?_) | (refine wpList_store_row rfl 26 _ _ rfl w.heap.size Y2 rfl rfl 26 z25.toArray hres hi hz hone ?_))
        refine bodyPost_ret (v := .agg Y2) (results_cell_row Try.results25 _ _ w.heap.size 26 Y2 (0, 0) _ rfl hres2 Try.underlying26 rfl hi) rfl ⟨by rw [HY.out], HB.out⟩

set_option maxHeartbeats 4000000 in
set_option maxRecDepth 20000 in
theorem sum_nil (w : World) : Calls Try.prog 25 #[.slice none 0 0] w fun ev w' => ev = .returned (.agg (bys (sumF [])).toArray) ∧ Below w.heap.size w w' := by
  obtain ⟨l, hl0⟩ : ∃ l : List UInt8, l = [] := ⟨_, rfl⟩
  have hsl : ∀ y, Sl y (.slice none 0 0) l := fun y => ⟨.inl ⟨_, rfl, hl0⟩⟩
  obtain ⟨E, hE⟩ : ∃ E, E = ended l 0 := ⟨_, rfl⟩
  obtain ⟨m, hm⟩ : ∃ m, E.length = 64 * m := ⟨1, by rw [hE, hl0]; rfl⟩
  have hm1 : m = 1 := by
    have : E.length = 64 := by rw [hE, hl0]; rfl
    omega
  have hS : sumSt l = mixes (mixes first8 l 0) E m := by
    rw [hm1, hE, hl0]; rfl
  have H0 : Hid (PRel w first8 ((w.alloc (.cells z25.toArray 26)).alloc (.cells (u32s first8.list).toArray 71))) := by
    refine ⟨(Row.new w 26 z25).below ((Below.refl _ _).alloc (Nat.le_refl _) _) (by simp), ?_, ((Below.refl w.heap.size w).alloc (Nat.le_refl _) _).alloc (by simp) _⟩
    have := Row.new (w.alloc (.cells z25.toArray 26)) 71 (u32s first8.list)
    simpa using this
  have H1 : Hid (∀ y, PRel w first8 y → Calls Try.prog 39 #[first8.val, .slice none 0 0] y fun ev y' => ev = .returned (mixes first8 l 0).val ∧ PRel w first8 y') := by
    intro y hy
    refine (mixAll_sl y first8 _ _ (hsl y) 0 (by rw [hl0]; rfl) (by omega)).mono ?_
    rintro ev y' ⟨rfl, hb⟩
    exact ⟨rfl, hy.past hb⟩
  have H2 : Hid (∀ y, PRel w (mixes first8 l 0) y → Calls Try.prog 40 #[.slice none 0 0, .int .u64 0] y fun ev y' => ∃ v', ev = .returned v' ∧ PRel w (mixes first8 l 0) y' ∧ Sl y' v' E) := by
    intro y hy
    have K := ending_any y _ _ 0 (hsl y) (by rw [hl0]; simp)
    rw [← hE] at K
    refine K.mono ?_
    rintro ev y' ⟨v', rfl, hown, hb⟩
    exact ⟨v', rfl, hy.past hb, Sl.ofOwn hown⟩
  have H3 : Hid (∀ y v', PRel w (mixes first8 l 0) y → Sl y v' E → Calls Try.prog 39 #[(mixes first8 l 0).val, v'] y fun ev y' => ev = .returned (mixes (mixes first8 l 0) E m).val ∧ PRel w (mixes first8 l 0) y') := by
    intro y v' hy hs
    refine (mixAll_sl y _ v' E hs m hm (by omega)).mono ?_
    rintro ev y' ⟨rfl, hb⟩
    exact ⟨rfl, hy.past hb⟩
  have HN2 : Hid (∀ y, PRel w (mixes first8 l 0) y → PRel w (mixes (mixes first8 l 0) E m) (stored y (w.heap.size + 1) (mixes (mixes first8 l 0) E m))) := fun y hy => hy.stored _
  have HS : Hid (sumSt l = mixes (mixes first8 l 0) E m) := hS
  have hfv : first8.val = .agg #[.int .u32 0x6a09e667, .int .u32 0xbb67ae85, .int .u32 0x3c6ef372, .int .u32 0xa54ff53a, .int .u32 0x510e527f, .int .u32 0x9b05688c, .int .u32 0x1f83d9ab, .int .u32 0x5be0cd19] := rfl
  rw [hfv] at H1
  have HN1 : Hid (∀ y, PRel w first8 y → PRel w (mixes first8 l 0) (stored y (w.heap.size + 1) (mixes first8 l 0))) := fun y hy => hy.stored _
  have HL : Hid (l = []) := hl0
  clear hsl hl0 hE hm hm1 hS
  rw [← HL.out]
  generalize mixes first8 l 0 = S1 at *
  generalize mixes S1 E m = S2 at *
  obtain ⟨a1, b1, c1, d1, e1, f1, g1, h1⟩ := S1
  obtain ⟨a2, b2, c2, d2, e2, f2, g2, h2⟩ := S2
  unfold St.val at H1 H3
  clear hfv
  obtain ⟨W0, hW0⟩ : ∃ W0, W0 = (w.alloc (.cells z25.toArray 26)).alloc (.cells (u32s first8.list).toArray 71) := ⟨_, rfl⟩
  rw [← hW0] at H0
  have AW : Aside (W0 = (w.alloc (.cells z25.toArray 26)).alloc (.cells (u32s first8.list).toArray 71)) := hW0
  have hP0 := H0.out
  obtain ⟨p0, p1, p2, p3, p4, p5, p6, p7⟩ := hP0.cells
  have hP0' := hP0.drew
  clear H0 hP0 hW0
  go_enter Try.func25, Try.ntmps25
  go_wp2_with fail
  refine wp_world AW.out ?_
  clear AW
  go_region_with (go_at_call 39; refine (H1.out _ ?_).mono ?_; assumption; rintro ev w7 ⟨rfl, hA7⟩; obtain ⟨r0, r1, r2, r3, r4, r5, r6, r7⟩ := hA7.cells; have z0 := hA7.row.fz 0; have z1 := hA7.row.fz 1; have z2 := hA7.row.fz 2; have z3 := hA7.row.fz 3; have z4 := hA7.row.fz 4; have z5 := hA7.row.fz 5; have z6 := hA7.row.fz 6; have z7 := hA7.row.fz 7)
  have hP8 := HN1.out _ hA7
  clear hP0' p0 p1 p2 p3 p4 p5 p6 p7 r0 r1 r2 r3 r4 r5 r6 r7 z0 z1 z2 z3 z4 z5 z6 z7 hA7 H1 HN1
  clear W0
  generalize hW8 : stored w7 (w.heap.size + 1) ⟨a1, b1, c1, d1, e1, f1, g1, h1⟩ = w8 at *
  unfold stored at hW8
  rw [hW8]
  clear hW8
  clear w7
  obtain ⟨p0, p1, p2, p3, p4, p5, p6, p7⟩ := hP8.cells
  have hP8' := hP8.drew
  have HZ : Hid ((sumSt l).bytes = (St.mk a2 b2 c2 d2 e2 f2 g2 h2).bytes) := by show _ = _; rw [HS.out]
  have HX : Hid (∀ (k : Nat), k < 8 → ∀ w : World, (Instr.index 71 (.agg #[.int .u32 a2, .int .u32 b2, .int .u32 c2, .int .u32 d2, .int .u32 e2, .int .u32 f2, .int .u32 g2, .int .u32 h2]) (.int .i64 (k : Int))).run Try.prog w = .ok (.int .u32 ((St.mk a2 b2 c2 d2 e2 f2 g2 h2).list.getD k 0)) w) := by
    intro k hk w
    refine run_index43 _ _ k hk ?_ w
    rcases eight hk with rfl | rfl | rfl | rfl | rfl | rfl | rfl | rfl <;> rfl
  clear HS HL
  go_wp2_with fail
  go_region_with (first | (go_at_call 40; refine (H2.out _ ?_).mono ?_; assumption; rintro ev w6 ⟨v6, rfl, hA6, hSl6⟩; obtain ⟨q0, q1, q2, q3, q4, q5, q6, q7⟩ := hA6.cells) | (go_at_call 39; refine (H3.out _ _ ?_ ?_).mono ?_; assumption; assumption; rintro ev w7 ⟨rfl, hA7⟩; obtain ⟨r0, r1, r2, r3, r4, r5, r6, r7⟩ := hA7.cells; have z0 := hA7.row.fz 0; have z1 := hA7.row.fz 1; have z2 := hA7.row.fz 2; have z3 := hA7.row.fz 3; have z4 := hA7.row.fz 4; have z5 := hA7.row.fz 5; have z6 := hA7.row.fz 6; have z7 := hA7.row.fz 7))
  all_goals
    have hP9 := HN2.out _ hA7
    clear r0 r1 r2 r3 r4 r5 r6 r7 z0 z1 z2 z3 z4 z5 z6 z7 hA7 H2 H3 HN2 hA6 hSl6 q0 q1 q2 q3 q4 q5 q6 q7 hP8' hP8 p0 p1 p2 p3 p4 p5 p6 p7
    generalize hW9 : stored w7 (w.heap.size + 1) ⟨a2, b2, c2, d2, e2, f2, g2, h2⟩ = w9 at *
    unfold stored at hW9
    rw [hW9]
    clear hW9
    clear w7
    have HP : Hid (URel w w9.heap.size (St.mk a2 b2 c2 d2 e2 f2 g2 h2).bytes 0 (w9.alloc (.cells z25.toArray 26))) := by
      refine ⟨hP9.res.below ((Below.refl _ _).alloc (Nat.le_refl _) _) hP9.res.lt, Row.new w9 26 z25, hP9.res.lt, hP9.below.alloc hP9.below.size _⟩
    have hPa := fun o => (hP9.past (w' := w9.alloc o) ((Below.refl _ _).alloc (Nat.le_refl _) _)).cells
    have p0 := fun o => (hPa o).1
    have p1 := fun o => (hPa o).2.1
    have p2 := fun o => (hPa o).2.2.1
    have p3 := fun o => (hPa o).2.2.2.1
    have p4 := fun o => (hPa o).2.2.2.2.1
    have p5 := fun o => (hPa o).2.2.2.2.2.1
    have p6 := fun o => (hPa o).2.2.2.2.2.2.1
    have p7 := fun o => (hPa o).2.2.2.2.2.2.2
    clear hP9 hPa
    go_wp2_with fail
    clear p0 p1 p2 p3 p4 p5 p6 p7
    generalize w9.heap.size = gs at *
    go_loopw [33] (fun i wr => ∃ k : Nat, k ≤ 8 ∧ i = .int .i64 k ∧ URel w gs (St.mk a2 b2 c2 d2 e2 f2 g2 h2).bytes (4 * k) wr) (fun i _ => 8 - (intOf i).toNat)
    case atStart => exact ⟨0, by omega, rfl, HP.out⟩
    case round =>
      obtain ⟨k, hk, rfl, hU⟩ := hrel
      clear HP
      by_cases hk3 : k < 8
      · have hx := HX.out k hk3
        have HF : Hid (∀ j, j < 4 → (four ((St.mk a2 b2 c2 d2 e2 f2 g2 h2).list.getD k 0)).getD j 0 = (St.mk a2 b2 c2 d2 e2 f2 g2 h2).bytes.getD (4 * k + j) 0) := fun j hj => bytes_at _ k j hk3 hj
        have C := high_any ((St.mk a2 b2 c2 d2 e2 f2 g2 h2).list.getD k 0)
        have HU : Hid (URel w gs (St.mk a2 b2 c2 d2 e2 f2 g2 h2).bytes (4 * k) wr) := hU
        have hlen := St.bytes_len (St.mk a2 b2 c2 d2 e2 f2 g2 h2)
        clear HX hU
        generalize (St.mk a2 b2 c2 d2 e2 f2 g2 h2).bytes = out at *
        generalize (St.mk a2 b2 c2 d2 e2 f2 g2 h2).list.getD k 0 = xk at *
        go_wp2_with fail
        refine (C wr).mono ?_
        rintro ev w10 ⟨rfl, hb10⟩
        clear C
        have HV : Hid (URel w gs out (4 * k + 0) w10) := HU.out.past hb10
        have HY : Hid (∀ (j : Nat), j < 4 → ∀ w : World, (Instr.index 74 (.agg (bys (four xk)).toArray) (.int .i64 (j : Int))).run Try.prog w = .ok (.int .u8 ((out.getD (4 * k + j) 0).toNat : Int)) w) := by
          intro j hj w
          refine run_index47 _ _ j hj ?_ w
          rw [← HF.out j hj]
          have := bys_get (four xk) j hj
          simpa using this
        clear HU HF hb10 hx
        generalize (bys (four xk)).toArray = Y at *
        rename World => wB
        go_wp2_with fail
        go_loopw [39] (fun i wr => ∃ j : Nat, j ≤ 4 ∧ i = .int .i64 j ∧ URel w gs out (4 * k + j) wr) (fun i _ => 4 - (intOf i).toNat)
        case atStart => exact ⟨0, by omega, rfl, HV.out⟩
        case round =>
          obtain ⟨j, hj, rfl, hU⟩ := hrel
          clear HV
          by_cases hj3 : j < 4
          · have hy := HY.out j hj3
            have q0 := hU.cell hlen (by omega)
            have q1 := hU.sum.fz (4 * k + j)
            have HN : Hid (URel w gs out (4 * k + (j + 1)) (wr.setCell ⟨gs, 4 * k + j, none⟩ (.int .u8 ((out.getD (4 * k + j) 0).toNat : Int)))) := hU.next hlen (by omega)
            clear HY hU
            generalize (out.getD (4 * k + j) 0).toNat = xx at *
            generalize ((padB out (4 * k + j)).getD (4 * k + j) 0).toNat = yy at *
            have l1 : (j : Int) < 4 := by omega
            have l2 : 4 * (k : Int) + (j : Int) < 32 := by omega
            have l3 : IntKind.i64.wrap (4 * (k : Int) + (j : Int)) = 4 * (k : Int) + (j : Int) := by rw [IntKind.wrap_i64]; omega
            have l4 : (4 * (k : Int) + (j : Int)).toNat = 4 * k + j := by omega
            have l5 : (0 : Int) ≤ 4 * (k : Int) + (j : Int) := by omega
            go_wp2_with fail
            go_roundw
            case rel => exact ⟨j + 1, by omega, by go_num, HN.out⟩
            case measure => simp [intOf]; omega
          · have HW : Hid (URel w gs out (4 * (k + 1)) wr) := by
              obtain rfl : j = 4 := by omega
              exact hU
            have hj4 : (j : Int) = 4 := by omega
            rw [hj4]
            clear hU HY hj hj3 hj4
            go_wp2_with fail
            go_roundw
            case rel => exact ⟨k + 1, by omega, by go_num, HW.out⟩
            case measure => simp [intOf]; omega
      · have hk8 : k = 8 := by omega
        subst hk8
        have hlen := St.bytes_len (St.mk a2 b2 c2 d2 e2 f2 g2 h2)
        have hout : (St.mk a2 b2 c2 d2 e2 f2 g2 h2).bytes = sumF l := HZ.out.symm
        have hsum : Row wr gs 26 (bys (sumF l)) := by
          have := hU.sum
          rw [padB_all _ hlen, hout] at this
          exact this
        rw [hout] at hlen
        have HB : Hid (Below w.heap.size w (wr.setRow w.heap.size (bys (sumF l)).toArray)) := below_setRow hU.below (Nat.le_refl _) _
        have hres := hU.res.heap
        have hrow := hsum.heap
        have hres2 := (hU.res.setRow (bys (sumF l))).heap
        have hi : (Try.prog.info? 26).map (·.size) = some (bys (sumF l)).toArray.size := by rw [List.size_toArray, bys_len, hlen]; exact Try.info26
        have hz : z25.toArray.size = (bys (sumF l)).toArray.size := by rw [List.size_toArray, List.size_toArray, bys_len, hlen]; rfl
        have hone := all_one (bys_one (sumF l))
        obtain ⟨Y2, hY2⟩ : ∃ Y2, Y2 = (bys (sumF l)).toArray := ⟨_, rfl⟩
        rw [← hY2] at HB hrow hres2 hi hz hone
        have HY : Hid (Y2 = (bys (sumF l)).toArray) := hY2
        clear hU hY2 hsum HX hlen hout
        go_wp2_with (first | (refine wpList_load_row rfl 26 _ rfl gs rfl 26 Y2 (0, 0) _ hrow Try.underlying26 rfl hi ?_) | (refine wpList_store_row rfl 26 _ _ rfl w.heap.size Y2 rfl rfl 26 z25.toArray hres hi hz hone ?_))
        refine bodyPost_ret (v := .agg Y2) (results_cell_row Try.results25 _ _ w.heap.size 26 Y2 (0, 0) _ rfl hres2 Try.underlying26 rfl hi) rfl ⟨by rw [HY.out], HB.out⟩

set_option maxHeartbeats 4000000 in
set_option maxRecDepth 20000 in
theorem sum_spot (w : World) (ad : Addr) : Calls Try.prog 25 #[.slice (some ad) 0 0] w fun ev w' => ev = .returned (.agg (bys (sumF [])).toArray) ∧ Below w.heap.size w w' := by
  obtain ⟨l, hl0⟩ : ∃ l : List UInt8, l = [] := ⟨_, rfl⟩
  have hsl : ∀ y, Sl y (.slice (some ad) 0 0) l := fun y => ⟨.inl ⟨_, rfl, hl0⟩⟩
  obtain ⟨E, hE⟩ : ∃ E, E = ended l 0 := ⟨_, rfl⟩
  obtain ⟨m, hm⟩ : ∃ m, E.length = 64 * m := ⟨1, by rw [hE, hl0]; rfl⟩
  have hm1 : m = 1 := by
    have : E.length = 64 := by rw [hE, hl0]; rfl
    omega
  have hS : sumSt l = mixes (mixes first8 l 0) E m := by
    rw [hm1, hE, hl0]; rfl
  have H0 : Hid (PRel w first8 ((w.alloc (.cells z25.toArray 26)).alloc (.cells (u32s first8.list).toArray 71))) := by
    refine ⟨(Row.new w 26 z25).below ((Below.refl _ _).alloc (Nat.le_refl _) _) (by simp), ?_, ((Below.refl w.heap.size w).alloc (Nat.le_refl _) _).alloc (by simp) _⟩
    have := Row.new (w.alloc (.cells z25.toArray 26)) 71 (u32s first8.list)
    simpa using this
  have H1 : Hid (∀ y, PRel w first8 y → Calls Try.prog 39 #[first8.val, .slice (some ad) 0 0] y fun ev y' => ev = .returned (mixes first8 l 0).val ∧ PRel w first8 y') := by
    intro y hy
    refine (mixAll_sl y first8 _ _ (hsl y) 0 (by rw [hl0]; rfl) (by omega)).mono ?_
    rintro ev y' ⟨rfl, hb⟩
    exact ⟨rfl, hy.past hb⟩
  have H2 : Hid (∀ y, PRel w (mixes first8 l 0) y → Calls Try.prog 40 #[.slice (some ad) 0 0, .int .u64 0] y fun ev y' => ∃ v', ev = .returned v' ∧ PRel w (mixes first8 l 0) y' ∧ Sl y' v' E) := by
    intro y hy
    have K := ending_any y _ _ 0 (hsl y) (by rw [hl0]; simp)
    rw [← hE] at K
    refine K.mono ?_
    rintro ev y' ⟨v', rfl, hown, hb⟩
    exact ⟨v', rfl, hy.past hb, Sl.ofOwn hown⟩
  have H3 : Hid (∀ y v', PRel w (mixes first8 l 0) y → Sl y v' E → Calls Try.prog 39 #[(mixes first8 l 0).val, v'] y fun ev y' => ev = .returned (mixes (mixes first8 l 0) E m).val ∧ PRel w (mixes first8 l 0) y') := by
    intro y v' hy hs
    refine (mixAll_sl y _ v' E hs m hm (by omega)).mono ?_
    rintro ev y' ⟨rfl, hb⟩
    exact ⟨rfl, hy.past hb⟩
  have HN2 : Hid (∀ y, PRel w (mixes first8 l 0) y → PRel w (mixes (mixes first8 l 0) E m) (stored y (w.heap.size + 1) (mixes (mixes first8 l 0) E m))) := fun y hy => hy.stored _
  have HS : Hid (sumSt l = mixes (mixes first8 l 0) E m) := hS
  have hfv : first8.val = .agg #[.int .u32 0x6a09e667, .int .u32 0xbb67ae85, .int .u32 0x3c6ef372, .int .u32 0xa54ff53a, .int .u32 0x510e527f, .int .u32 0x9b05688c, .int .u32 0x1f83d9ab, .int .u32 0x5be0cd19] := rfl
  rw [hfv] at H1
  have HN1 : Hid (∀ y, PRel w first8 y → PRel w (mixes first8 l 0) (stored y (w.heap.size + 1) (mixes first8 l 0))) := fun y hy => hy.stored _
  have HL : Hid (l = []) := hl0
  clear hsl hl0 hE hm hm1 hS
  rw [← HL.out]
  generalize mixes first8 l 0 = S1 at *
  generalize mixes S1 E m = S2 at *
  obtain ⟨a1, b1, c1, d1, e1, f1, g1, h1⟩ := S1
  obtain ⟨a2, b2, c2, d2, e2, f2, g2, h2⟩ := S2
  unfold St.val at H1 H3
  clear hfv
  obtain ⟨W0, hW0⟩ : ∃ W0, W0 = (w.alloc (.cells z25.toArray 26)).alloc (.cells (u32s first8.list).toArray 71) := ⟨_, rfl⟩
  rw [← hW0] at H0
  have AW : Aside (W0 = (w.alloc (.cells z25.toArray 26)).alloc (.cells (u32s first8.list).toArray 71)) := hW0
  have hP0 := H0.out
  obtain ⟨p0, p1, p2, p3, p4, p5, p6, p7⟩ := hP0.cells
  have hP0' := hP0.drew
  clear H0 hP0 hW0
  go_enter Try.func25, Try.ntmps25
  go_wp2_with fail
  refine wp_world AW.out ?_
  clear AW
  go_region_with (go_at_call 39; refine (H1.out _ ?_).mono ?_; assumption; rintro ev w7 ⟨rfl, hA7⟩; obtain ⟨r0, r1, r2, r3, r4, r5, r6, r7⟩ := hA7.cells; have z0 := hA7.row.fz 0; have z1 := hA7.row.fz 1; have z2 := hA7.row.fz 2; have z3 := hA7.row.fz 3; have z4 := hA7.row.fz 4; have z5 := hA7.row.fz 5; have z6 := hA7.row.fz 6; have z7 := hA7.row.fz 7)
  have hP8 := HN1.out _ hA7
  clear hP0' p0 p1 p2 p3 p4 p5 p6 p7 r0 r1 r2 r3 r4 r5 r6 r7 z0 z1 z2 z3 z4 z5 z6 z7 hA7 H1 HN1
  clear W0
  generalize hW8 : stored w7 (w.heap.size + 1) ⟨a1, b1, c1, d1, e1, f1, g1, h1⟩ = w8 at *
  unfold stored at hW8
  rw [hW8]
  clear hW8
  clear w7
  obtain ⟨p0, p1, p2, p3, p4, p5, p6, p7⟩ := hP8.cells
  have hP8' := hP8.drew
  have HZ : Hid ((sumSt l).bytes = (St.mk a2 b2 c2 d2 e2 f2 g2 h2).bytes) := by show _ = _; rw [HS.out]
  have HX : Hid (∀ (k : Nat), k < 8 → ∀ w : World, (Instr.index 71 (.agg #[.int .u32 a2, .int .u32 b2, .int .u32 c2, .int .u32 d2, .int .u32 e2, .int .u32 f2, .int .u32 g2, .int .u32 h2]) (.int .i64 (k : Int))).run Try.prog w = .ok (.int .u32 ((St.mk a2 b2 c2 d2 e2 f2 g2 h2).list.getD k 0)) w) := by
    intro k hk w
    refine run_index43 _ _ k hk ?_ w
    rcases eight hk with rfl | rfl | rfl | rfl | rfl | rfl | rfl | rfl <;> rfl
  clear HS HL
  go_wp2_with fail
  go_region_with (first | (go_at_call 40; refine (H2.out _ ?_).mono ?_; assumption; rintro ev w6 ⟨v6, rfl, hA6, hSl6⟩; obtain ⟨q0, q1, q2, q3, q4, q5, q6, q7⟩ := hA6.cells) | (go_at_call 39; refine (H3.out _ _ ?_ ?_).mono ?_; assumption; assumption; rintro ev w7 ⟨rfl, hA7⟩; obtain ⟨r0, r1, r2, r3, r4, r5, r6, r7⟩ := hA7.cells; have z0 := hA7.row.fz 0; have z1 := hA7.row.fz 1; have z2 := hA7.row.fz 2; have z3 := hA7.row.fz 3; have z4 := hA7.row.fz 4; have z5 := hA7.row.fz 5; have z6 := hA7.row.fz 6; have z7 := hA7.row.fz 7))
  all_goals
    have hP9 := HN2.out _ hA7
    clear r0 r1 r2 r3 r4 r5 r6 r7 z0 z1 z2 z3 z4 z5 z6 z7 hA7 H2 H3 HN2 hA6 hSl6 q0 q1 q2 q3 q4 q5 q6 q7 hP8' hP8 p0 p1 p2 p3 p4 p5 p6 p7
    generalize hW9 : stored w7 (w.heap.size + 1) ⟨a2, b2, c2, d2, e2, f2, g2, h2⟩ = w9 at *
    unfold stored at hW9
    rw [hW9]
    clear hW9
    clear w7
    have HP : Hid (URel w w9.heap.size (St.mk a2 b2 c2 d2 e2 f2 g2 h2).bytes 0 (w9.alloc (.cells z25.toArray 26))) := by
      refine ⟨hP9.res.below ((Below.refl _ _).alloc (Nat.le_refl _) _) hP9.res.lt, Row.new w9 26 z25, hP9.res.lt, hP9.below.alloc hP9.below.size _⟩
    have hPa := fun o => (hP9.past (w' := w9.alloc o) ((Below.refl _ _).alloc (Nat.le_refl _) _)).cells
    have p0 := fun o => (hPa o).1
    have p1 := fun o => (hPa o).2.1
    have p2 := fun o => (hPa o).2.2.1
    have p3 := fun o => (hPa o).2.2.2.1
    have p4 := fun o => (hPa o).2.2.2.2.1
    have p5 := fun o => (hPa o).2.2.2.2.2.1
    have p6 := fun o => (hPa o).2.2.2.2.2.2.1
    have p7 := fun o => (hPa o).2.2.2.2.2.2.2
    clear hP9 hPa
    go_wp2_with fail
    clear p0 p1 p2 p3 p4 p5 p6 p7
    generalize w9.heap.size = gs at *
    go_loopw [33] (fun i wr => ∃ k : Nat, k ≤ 8 ∧ i = .int .i64 k ∧ URel w gs (St.mk a2 b2 c2 d2 e2 f2 g2 h2).bytes (4 * k) wr) (fun i _ => 8 - (intOf i).toNat)
    case atStart => exact ⟨0, by omega, rfl, HP.out⟩
    case round =>
      obtain ⟨k, hk, rfl, hU⟩ := hrel
      clear HP
      by_cases hk3 : k < 8
      · have hx := HX.out k hk3
        have HF : Hid (∀ j, j < 4 → (four ((St.mk a2 b2 c2 d2 e2 f2 g2 h2).list.getD k 0)).getD j 0 = (St.mk a2 b2 c2 d2 e2 f2 g2 h2).bytes.getD (4 * k + j) 0) := fun j hj => bytes_at _ k j hk3 hj
        have C := high_any ((St.mk a2 b2 c2 d2 e2 f2 g2 h2).list.getD k 0)
        have HU : Hid (URel w gs (St.mk a2 b2 c2 d2 e2 f2 g2 h2).bytes (4 * k) wr) := hU
        have hlen := St.bytes_len (St.mk a2 b2 c2 d2 e2 f2 g2 h2)
        clear HX hU
        generalize (St.mk a2 b2 c2 d2 e2 f2 g2 h2).bytes = out at *
        generalize (St.mk a2 b2 c2 d2 e2 f2 g2 h2).list.getD k 0 = xk at *
        go_wp2_with fail
        refine (C wr).mono ?_
        rintro ev w10 ⟨rfl, hb10⟩
        clear C
        have HV : Hid (URel w gs out (4 * k + 0) w10) := HU.out.past hb10
        have HY : Hid (∀ (j : Nat), j < 4 → ∀ w : World, (Instr.index 74 (.agg (bys (four xk)).toArray) (.int .i64 (j : Int))).run Try.prog w = .ok (.int .u8 ((out.getD (4 * k + j) 0).toNat : Int)) w) := by
          intro j hj w
          refine run_index47 _ _ j hj ?_ w
          rw [← HF.out j hj]
          have := bys_get (four xk) j hj
          simpa using this
        clear HU HF hb10 hx
        generalize (bys (four xk)).toArray = Y at *
        rename World => wB
        go_wp2_with fail
        go_loopw [39] (fun i wr => ∃ j : Nat, j ≤ 4 ∧ i = .int .i64 j ∧ URel w gs out (4 * k + j) wr) (fun i _ => 4 - (intOf i).toNat)
        case atStart => exact ⟨0, by omega, rfl, HV.out⟩
        case round =>
          obtain ⟨j, hj, rfl, hU⟩ := hrel
          clear HV
          by_cases hj3 : j < 4
          · have hy := HY.out j hj3
            have q0 := hU.cell hlen (by omega)
            have q1 := hU.sum.fz (4 * k + j)
            have HN : Hid (URel w gs out (4 * k + (j + 1)) (wr.setCell ⟨gs, 4 * k + j, none⟩ (.int .u8 ((out.getD (4 * k + j) 0).toNat : Int)))) := hU.next hlen (by omega)
            clear HY hU
            generalize (out.getD (4 * k + j) 0).toNat = xx at *
            generalize ((padB out (4 * k + j)).getD (4 * k + j) 0).toNat = yy at *
            have l1 : (j : Int) < 4 := by omega
            have l2 : 4 * (k : Int) + (j : Int) < 32 := by omega
            have l3 : IntKind.i64.wrap (4 * (k : Int) + (j : Int)) = 4 * (k : Int) + (j : Int) := by rw [IntKind.wrap_i64]; omega
            have l4 : (4 * (k : Int) + (j : Int)).toNat = 4 * k + j := by omega
            have l5 : (0 : Int) ≤ 4 * (k : Int) + (j : Int) := by omega
            go_wp2_with fail
            go_roundw
            case rel => exact ⟨j + 1, by omega, by go_num, HN.out⟩
            case measure => simp [intOf]; omega
          · have HW : Hid (URel w gs out (4 * (k + 1)) wr) := by
              obtain rfl : j = 4 := by omega
              exact hU
            have hj4 : (j : Int) = 4 := by omega
            rw [hj4]
            clear hU HY hj hj3 hj4
            go_wp2_with fail
            go_roundw
            case rel => exact ⟨k + 1, by omega, by go_num, HW.out⟩
            case measure => simp [intOf]; omega
      · have hk8 : k = 8 := by omega
        subst hk8
        have hlen := St.bytes_len (St.mk a2 b2 c2 d2 e2 f2 g2 h2)
        have hout : (St.mk a2 b2 c2 d2 e2 f2 g2 h2).bytes = sumF l := HZ.out.symm
        have hsum : Row wr gs 26 (bys (sumF l)) := by
          have := hU.sum
          rw [padB_all _ hlen, hout] at this
          exact this
        rw [hout] at hlen
        have HB : Hid (Below w.heap.size w (wr.setRow w.heap.size (bys (sumF l)).toArray)) := below_setRow hU.below (Nat.le_refl _) _
        have hres := hU.res.heap
        have hrow := hsum.heap
        have hres2 := (hU.res.setRow (bys (sumF l))).heap
        have hi : (Try.prog.info? 26).map (·.size) = some (bys (sumF l)).toArray.size := by rw [List.size_toArray, bys_len, hlen]; exact Try.info26
        have hz : z25.toArray.size = (bys (sumF l)).toArray.size := by rw [List.size_toArray, List.size_toArray, bys_len, hlen]; rfl
        have hone := all_one (bys_one (sumF l))
        obtain ⟨Y2, hY2⟩ : ∃ Y2, Y2 = (bys (sumF l)).toArray := ⟨_, rfl⟩
        rw [← hY2] at HB hrow hres2 hi hz hone
        have HY : Hid (Y2 = (bys (sumF l)).toArray) := hY2
        clear hU hY2 hsum HX hlen hout
        go_wp2_with (first | (refine wpList_load_row rfl 26 _ rfl gs rfl 26 Y2 (0, 0) _ hrow Try.underlying26 rfl hi ?_) | (refine wpList_store_row rfl 26 _ _ rfl w.heap.size Y2 rfl rfl 26 z25.toArray hres hi hz hone ?_))
        refine bodyPost_ret (v := .agg Y2) (results_cell_row Try.results25 _ _ w.heap.size 26 Y2 (0, 0) _ rfl hres2 Try.underlying26 rfl hi) rfl ⟨by rw [HY.out], HB.out⟩

theorem sum_any (w : World) (v : Value) (l : List UInt8) (h : Sl w v l) (hl : l.length ≤ 1000000000) :
    Calls Try.prog 25 #[v] w fun ev w' => ev = .returned (.agg (bys (sumF l)).toArray) ∧ Below w.heap.size w w' := by
  rcases h.shape with ⟨_ | ad, rfl, rfl⟩ | ⟨b, o, cap, rfl, hcap, hc⟩
  · exact sum_nil w
  · exact sum_spot w ad
  · exact sum_some w b o cap l hcap hc hl
end Go.Proofs.Ytfkibbpekngciaa
