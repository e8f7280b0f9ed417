/-
  The texts Stg, Err, Pub, joined.
-/
import Derived.Test.YtlbhaaldndjigaaGreatDoorJWri2
import Derived.Test.YtlbhaaldndjigaaGreatDoorJMat4
import Derived.Test.YtlbhaaldndjigaaGreatDoorCrw
namespace Go.Proofs.YtlbhaaldndjigaaGreatDoor
open Go.RowKit

theorem Tryz.usNone (W : World) (q : Option Addr) : (Builtin.unsafeString_ #[99, 3] 9 #[.pointer q, .int .i64 0]).run Tryz.prog W = .ok (.string .empty) W := by
  cases q <;> kernel_rfl
theorem bel_drew {C : Nat} (w : World) : Below C w w.drew := ⟨rfl, rfl, rfl, Nat.le_refl _, fun _ _ => rfl⟩

set_option maxHeartbeats 2000000 in
set_option maxRecDepth 100000 in
theorem string_any {C b : Nat} {S : Bs} {n : Int} {w : World} (h : Wtr C b S n w) :
    Calls Tryz.prog 22 #[.pointer (some ⟨b, 0, none⟩)] w fun e w' => e = .returned (.string (str S)) ∧ Below C w w' := by
  obtain ⟨p, v, hp, hbk, hown⟩ := h.here
  have hCw := h.Cw
  have hlt := h.lt
  cases S with
  | nil =>
    have hUS := Tryz.usNone
    rcases hown.2 with ⟨rfl, _⟩ | ⟨g, cap, cur, rfl, hbg, hg, _, _, _, _⟩
    · have c1 : w.drew.cell? ⟨b, 1, none⟩ = some (.slice none 0 0) := by
        have : w.drew.heap[b]? = some (.cells #[p, .slice none 0 0, .int .i64 n] 58 (0, 0)) := hbk
        rw [Lib.cell_of_heap this]; rfl
      have hSD : (Builtin.unsafeSliceData_ #[54] 99 #[.slice none 0 0]).run Tryz.prog w.drew = .ok (.pointer none) w.drew := rfl
      have HB := hid0 (bel_drew (C := C) w)
      clear hown hbk hp h hCw hlt
      go_enter Tryz.func22, Tryz.ntmps22
      go_wp2_with fail
      go_region
      all_goals (go_wp2_with fail; go_ret; exact ⟨rfl, HB.out⟩)
    · by_cases hc0 : cap = 0
      · subst hc0
        have c1 : w.drew.cell? ⟨b, 1, none⟩ = some (.slice (some ⟨g, 0, none⟩) 0 0) := by
          have : w.drew.heap[b]? = some (.cells #[p, .slice (some ⟨g, 0, none⟩) 0 0, .int .i64 n] 58 (0, 0)) := hbk
          rw [Lib.cell_of_heap this]; rfl
        have hSD : (Builtin.unsafeSliceData_ #[54] 99 #[.slice (some ⟨g, 0, none⟩) 0 0]).run Tryz.prog w.drew = .ok (.pointer (some ⟨w.drew.heap.size, 0, none⟩)) (w.drew.alloc (.view ⟨g, 0, none⟩ 5)) :=
          Lib.run_unsafeSliceData_zero w.drew _ _ 5 Tryz.underlying99 ⟨g, 0, none⟩ 0 (5, cur.size) (by have hg' : w.drew.heap[g]? = some (.cells cur 5 (0, 0)) := hg; simp [World.shape?, hg'])
        have c2 : (w.drew.alloc (.view ⟨g, 0, none⟩ 5)).cell? ⟨b, 1, none⟩ = some (.slice (some ⟨g, 0, none⟩) 0 0) := by
          have : (w.drew.alloc (.view ⟨g, 0, none⟩ 5)).heap[b]? = _ := (Lib.alloc_old w.drew _ b hlt).trans hbk
          rw [Lib.cell_of_heap this]; rfl
        have c3 : (w.alloc (.view ⟨g, 0, none⟩ 5)).drew.cell? ⟨b, 1, none⟩ = some (.slice (some ⟨g, 0, none⟩) 0 0) := c2
        have c0 : w.cell? ⟨b, 1, none⟩ = some (.slice (some ⟨g, 0, none⟩) 0 0) := c1
        have HB := hid0 ((bel_drew (C := C) w).alloc hCw (.view ⟨g, 0, none⟩ 5))
        clear hown hbk hp h hCw hlt hg hbg
        go_enter Tryz.func22, Tryz.ntmps22
        go_wp2_with fail
        go_region
        all_goals (go_wp2_with fail; go_ret; exact ⟨rfl, HB.out⟩)
      · have c1 : w.drew.cell? ⟨b, 1, none⟩ = some (.slice (some ⟨g, 0, none⟩) 0 cap) := by
          have : w.drew.heap[b]? = some (.cells #[p, .slice (some ⟨g, 0, none⟩) 0 cap, .int .i64 n] 58 (0, 0)) := hbk
          rw [Lib.cell_of_heap this]; rfl
        have hSD : (Builtin.unsafeSliceData_ #[54] 99 #[.slice (some ⟨g, 0, none⟩) 0 cap]).run Tryz.prog w.drew = .ok (.pointer (some ⟨g, 0, none⟩)) w.drew :=
          Lib.run_unsafeSliceData_row _ _ _ _ _ _ hc0
        have HB := hid0 (bel_drew (C := C) w)
        clear hown hbk hp h hCw hlt hg hbg hc0
        go_enter Tryz.func22, Tryz.ntmps22
        go_wp2_with fail
        go_region
        all_goals (go_wp2_with fail; go_ret; exact ⟨rfl, HB.out⟩)
  | cons x r =>
    obtain ⟨l, hl⟩ : ∃ l, l = x :: r := ⟨_, rfl⟩
    rw [← hl] at hown ⊢
    have h0 : l ≠ [] := by rw [hl]; simp
    clear hl
    have hl0 : l.length ≠ 0 := by simpa using h0
    obtain ⟨g, cap, cur, rfl, hbg, hg, hnc, hcm, hcs, htake⟩ : ∃ g cap cur, v = .slice (some ⟨g, 0, none⟩) l.length cap ∧ C ≤ g ∧ w.heap[g]? = some (.cells cur 5 (0, 0)) ∧ l.length ≤ cap ∧ cap ≤ maxLen ∧ cur.size = cap * 1 ∧ cur.toList.take (l.length * 1) = bys l := by
      rcases hown.2 with ⟨_, hz⟩ | ⟨g, cap, cur, hv, r⟩
      · exact absurd hz hl0
      · exact ⟨g, cap, cur, hv, r⟩
    have c1 : w.drew.cell? ⟨b, 1, none⟩ = some (.slice (some ⟨g, 0, none⟩) l.length cap) := by
      have : w.drew.heap[b]? = some (.cells #[p, .slice (some ⟨g, 0, none⟩) l.length cap, .int .i64 n] 58 (0, 0)) := hbk
      rw [Lib.cell_of_heap this]; rfl
    have hSD : (Builtin.unsafeSliceData_ #[54] 99 #[.slice (some ⟨g, 0, none⟩) l.length cap]).run Tryz.prog w.drew = .ok (.pointer (some ⟨g, 0, none⟩)) w.drew :=
      Lib.run_unsafeSliceData_row _ _ _ _ _ _ (by omega)
    have hcell : ∀ (j : Nat) (x : UInt8), l[j]? = some x → w.drew.cell? ((⟨g, 0, none⟩ : Addr).add j) = some (.int .u8 x.toNat) := by
      intro j x hx
      have hj : j < l.length := (List.getElem?_eq_some_iff.1 hx).1
      have e1 : (bys l)[j]? = some (.int .u8 x.toNat) := by simp [bys, hx]
      rw [← htake, Nat.mul_one, List.getElem?_take_of_lt hj] at e1
      rw [addr_add, Nat.zero_add]
      have : w.drew.heap[g]? = some (.cells cur 5 (0, 0)) := hg
      rw [Lib.cell_of_heap this]
      simpa using e1
    have hUS : (Builtin.unsafeString_ #[99, 3] 9 #[.pointer (some ⟨g, 0, none⟩), .int .i64 l.length]).run Tryz.prog w.drew = .ok (.string ⟨l.toArray⟩) (w.drew.freeze ⟨g, 0, none⟩ l.length) :=
      Lib.run_unsafeString_row w.drew 99 3 9 5 Tryz.underlying99 (by kernel_rfl) g cur.size (by have hg' : w.drew.heap[g]? = some (.cells cur 5 (0, 0)) := hg; simp [World.shape?, hg']) l h0 (by omega) (by unfold maxLen at hcm; omega) hcell
    have HB := hid0 (Lib.below_freeze (bel_drew (C := C) w) (p := ⟨g, 0, none⟩) hbg l.length)
    have HE : Hid (str l = ⟨l.toArray⟩) := rfl
    rw [HE.out]
    clear hown hbk hp h hCw hlt hg hbg htake hcell hcs hnc hl0 h0
    generalize (⟨l.toArray⟩ : ByteArray) = X at *
    go_enter Tryz.func22, Tryz.ntmps22
    go_wp2_with fail
    go_region
    all_goals (go_wp2_with fail; go_ret; exact ⟨rfl, HB.out⟩)
end Go.Proofs.YtlbhaaldndjigaaGreatDoor

namespace Go.Proofs.YtlbhaaldndjigaaGreatDoor
open Go.RowKit

theorem below_drewE {B : Nat} {w w' : World} (h : Below B w w') (n : Nat) : Below B w (w'.drewN n) := ⟨h.os, h.tape, h.output, h.size, h.block⟩

/-- An error of one link, with its number and its place. -/
structure Er (w : World) (e : Value) (code : Nat) (pl : Nat) : Prop where
  shape : ∃ b, e = .iface 90 (.pointer (some ⟨b, 0, none⟩)) ∧ w.cell? ⟨b, 0, none⟩ = some (.int .i64 (code : Int)) ∧ w.cell? ⟨b, 1, none⟩ = some (.int .i64 (pl : Int)) ∧ w.cell? ⟨b, 2, none⟩ = some (.iface 52 (.int .i64 (code : Int)))
theorem Er.below {w w' : World} {e : Value} {code pl : Nat} (h : Er w e code pl) (hb : Below w.heap.size w w') : Er w' e code pl := by
  obtain ⟨b, he, h0, h1, h2⟩ := h.shape
  have hlt := World.block_lt_of_cell? w _ h0
  exact ⟨b, he, (hb.cell (p := ⟨b, 0, none⟩) hlt).trans h0, (hb.cell (p := ⟨b, 1, none⟩) hlt).trans h1, (hb.cell (p := ⟨b, 2, none⟩) hlt).trans h2⟩

set_option maxHeartbeats 1000000 in
theorem new_any (w : World) (code pl : Nat) (hc : code ≠ 0) :
    Calls Tryz.prog 19 #[.int .i64 (code : Int), .int .i64 (pl : Int)] w fun ev w' => ∃ e, ev = .returned e ∧ Er w' e code pl ∧ Below w.heap.size w w' := by
  go_enter Tryz.func19, Tryz.ntmps19
  go_wp2_with fail
  go_ret
  refine ⟨_, rfl, ⟨w.heap.size, rfl, ?_, ?_, ?_⟩, (Below.refl _ _).alloc (Nat.le_refl _) _⟩
  · simp
  · simp
  · simp


theorem Tryz.is51 (p : Option Addr) (xT : TypeId) (w : World) : (Instr.typeAssert (.iface 90 (.pointer p)) xT 90 true).run Tryz.prog w = .ok (.tuple #[.pointer p, .bool true]) w := by kernel_rfl
theorem Tryz.not51_43 (n : Int) (w : World) : (Instr.typeAssert (.iface 52 (.int .i64 n)) 29 90 true).run Tryz.prog w = .ok (.tuple #[.pointer none, .bool false]) w := by kernel_rfl

theorem told_nil (w : World) :
    Calls Tryz.prog 24 #[.nilIface] w fun ev w' => ev = .returned (.tuple #[.int .i64 0, .int .i64 0]) ∧ w' = w := by
  go_enter Tryz.func24, Tryz.ntmps24
  go_wp2_with fail
  go_ret2
  exact ⟨rfl, rfl⟩

set_option maxHeartbeats 2000000 in
set_option maxRecDepth 20000 in
theorem told_er (w : World) (e : Value) (c p : Nat) (h : Er w e c p) :
    Calls Tryz.prog 24 #[e] w fun ev w' => ev = .returned (.tuple #[.int .i64 (c : Int), .int .i64 (p : Int)]) ∧ Below w.heap.size w w' := by
  obtain ⟨b, rfl, h0, h1, h2⟩ := h.shape
  clear h
  have k1 := Tryz.is51
  have k2 := Tryz.not51_43
  go_enter Tryz.func24, Tryz.ntmps24
  go_wp2_with fail
  go_quiet (fail)
  go_wp2_with fail
  refine wp_loop_rounds 1 ?_
  rw [rounds_succ]
  go_wp2_with fail
  go_ret2
  exact ⟨rfl, below_drewE (Below.refl _ _) _⟩

set_option maxHeartbeats 2000000 in
theorem is_any (w : World) (e : Value) (c p : Nat) (a b : Int) (h : (c = 0 ∧ p = 0 ∧ e = .nilIface) ∨ Er w e c p) (ha : a = (c : Int)) (hb : b = (p : Int)) :
    Calls Tryz.prog 10 #[e, .int .i64 a, .int .i64 b] w fun ev w' => ev = .returned (.bool true) ∧ Below w.heap.size w w' := by
  subst ha hb
  have C : Calls Tryz.prog 24 #[e] w fun ev w' => ev = .returned (.tuple #[.int .i64 (c : Int), .int .i64 (p : Int)]) ∧ Below w.heap.size w w' := by
    rcases h with ⟨rfl, rfl, rfl⟩ | h
    · refine (told_nil w).mono ?_
      rintro ev w' ⟨rfl, rfl⟩
      exact ⟨rfl, Below.refl _ _⟩
    · exact told_er w e c p h
  rcases h with ⟨hc0, hp0, rfl⟩ | h
  · clear hc0 hp0
    go_enter Tryz.func10, Tryz.ntmps10
    go_wp2_with fail
    refine C.mono ?_
    rintro ev w1 ⟨rfl, hb⟩
    go_wp2_with fail
    go_ret
    exact ⟨rfl, hb⟩
  · obtain ⟨b, rfl, -⟩ := h.shape
    clear h
    go_enter Tryz.func10, Tryz.ntmps10
    go_wp2_with fail
    refine C.mono ?_
    rintro ev w1 ⟨rfl, hb⟩
    go_wp2_with fail
    go_ret
    exact ⟨rfl, hb⟩

end Go.Proofs.YtlbhaaldndjigaaGreatDoor

namespace Go.Proofs.YtlbhaaldndjigaaGreatDoor
open Go.RowKit

theorem Wtr.new {C : Nat} (w : World) (hC : C ≤ w.heap.size) : Wtr C w.heap.size [] 0 (w.alloc (.cells #[.pointer none, .slice none 0 0, .int .i64 0] 58)) :=
  ⟨hC, .pointer none, .slice none 0 0, .inl rfl, heap_alloc_new w _, World.ownsRow_nil _ _ _ _⟩
/-- A value in a variable of its own, ahead of a new writer. -/
theorem boxed {K : Ctx} {w : World} (cs : List Value) (t : Nat) :
    Lies (K.up (w.heap.size + 1)) ((w.alloc (.cells cs.toArray t)).alloc (.cells #[.pointer none, .slice none 0 0, .int .i64 0] 58)) cs.length w.heap.size 0 cs ∧
    Wtr (w.heap.size + 1) (w.heap.size + 1) [] 0 ((w.alloc (.cells cs.toArray t)).alloc (.cells #[.pointer none, .slice none 0 0, .int .i64 0] 58)) ∧
    Below w.heap.size w ((w.alloc (.cells cs.toArray t)).alloc (.cells #[.pointer none, .slice none 0 0, .int .i64 0] 58)) := by
  have hs : (w.alloc (.cells cs.toArray t)).heap.size = w.heap.size + 1 := size_alloc _ _
  have r1 : Row ((w.alloc (.cells cs.toArray t)).alloc (.cells #[.pointer none, .slice none 0 0, .int .i64 0] 58)) w.heap.size t cs := (Row.new w t cs).alloc _
  refine ⟨⟨Nat.lt_succ_self _, fun j _ => by rw [Nat.zero_add]; exact r1.cell j⟩, ?_, alloc_two w _ _⟩
  have := Wtr.new (C := w.heap.size + 1) (w.alloc (.cells cs.toArray t)) (by omega)
  rw [hs] at this
  exact this

set_option maxHeartbeats 4000000 in
theorem typeP_any {K : Ctx} {m : Nat} {w : World} (hC : K.C ≤ w.heap.size) {cs : List Value} {t : Ty} (hx : TyAt m K w cs t) (hlen : (tyT t).length ≤ 140737488355328) :
    Calls Tryz.prog 11 #[.agg cs.toArray] w fun e w' => e = .returned (.string (str (tyT t))) ∧ Below w.heap.size w w' := by
  obtain ⟨b1, b2, b3⟩ := boxed (K := K) (w := w) cs 38
  have hk := below_le b3 hC
  have l4 := hx.len4
  rw [l4] at b1
  have D1 : Hid (Calls Tryz.prog 25 #[.pointer (some ⟨w.heap.size + 1, 0, none⟩), .pointer (some ⟨w.heap.size, 0, none⟩)] ((w.alloc (.cells cs.toArray 38)).alloc (.cells #[.pointer none, .slice none 0 0, .int .i64 0] 58)) fun e w' => e = .returned (.tuple #[]) ∧ Wtr (w.heap.size + 1) (w.heap.size + 1) (tyT t) 0 w' ∧ Below w.heap.size w w') := by
    refine (typeOf_any (K := K.up (w.heap.size + 1)) ((hx.below hk).up (by omega)) b1 b2 (by simpa using hlen)).mono ?_
    rintro _ _ ⟨rfl, p1, p2⟩
    exact ⟨rfl, by have h := p1; rw [List.nil_append] at h; exact h, b3.trans (below_le p2.below (Nat.le_succ _))⟩
  have D2 : Hid (∀ y, Wtr (w.heap.size + 1) (w.heap.size + 1) (tyT t) 0 y → Below w.heap.size w y → Calls Tryz.prog 22 #[.pointer (some ⟨w.heap.size + 1, 0, none⟩)] y fun e w' => e = .returned (.string (str (tyT t))) ∧ Below w.heap.size w w') := by
    intro y hw hy
    refine (string_any hw).mono ?_
    rintro _ _ ⟨rfl, p1⟩
    exact ⟨rfl, hy.trans (below_le p1 (Nat.le_succ _))⟩
  obtain ⟨v2, v3, rfl⟩ : ∃ v2 v3, cs = [.int .i64 t.kind, .string (str t.name), v2, v3] := by
    cases m with
    | zero => exact hx.elim
    | succ m => obtain ⟨v2, v3, e, _⟩ := hx; exact ⟨v2, v3, e⟩
  obtain ⟨a2, k2, c2, a3, k3, c3, e1, e2⟩ : ∃ a2 k2 c2 a3 k3 c3, v2 = .slice a2 k2 c2 ∧ v3 = .slice a3 k3 c3 := by
    cases m with
    | zero => exact hx.elim
    | succ m =>
      obtain ⟨u2, u3, e, _, h2, h3⟩ := hx
      simp only [List.cons.injEq, and_true, true_and] at e
      obtain ⟨a2, c2, f2, _⟩ := h2.shape
      obtain ⟨a3, c3, f3, _⟩ := h3.shape
      exact ⟨a2, _, c2, a3, _, c3, by rw [e.1, f2], by rw [e.2, f3]⟩
  subst e1 e2
  clear hx b1 b2 b3 hk l4 hlen
  generalize tyT t = TT at *
  generalize str TT = XX at *
  generalize str t.name = X at *
  generalize t.kind = kd at *
  go_enter Tryz.func11, Tryz.ntmps11
  go_wp2_with fail
  refine D1.out.mono ?_
  rintro ev w1 ⟨rfl, p1, q1⟩
  go_wp2_with fail
  refine (D2.out _ p1 q1).mono ?_
  rintro ev w2 ⟨rfl, q2⟩
  go_wp2_with fail
  go_ret
  exact ⟨rfl, q2⟩

set_option maxHeartbeats 4000000 in
theorem headP_any {K : Ctx} {n : Nat} {w : World} (hC : K.C ≤ w.heap.size) {cs : List Value} {f : Fnc} (hx : FncAt n K w cs f) (hlen : (headT f).length ≤ 140737488355328) :
    Calls Tryz.prog 13 #[.agg cs.toArray] w fun e w' => e = .returned (.string (str (headT f))) ∧ Below w.heap.size w w' := by
  obtain ⟨b1, b2, b3⟩ := boxed (K := K) (w := w) cs 43
  have hk := below_le b3 hC
  have l10 : cs.length = 10 := by
    obtain ⟨v2, v3, ts, v8, rfl, _, _, _, ⟨m, ht⟩, _⟩ := hx
    have := ht.len4
    simp [this]
  rw [l10] at b1
  have D1 : Hid (Calls Tryz.prog 27 #[.pointer (some ⟨w.heap.size + 1, 0, none⟩), .pointer (some ⟨w.heap.size, 0, none⟩)] ((w.alloc (.cells cs.toArray 43)).alloc (.cells #[.pointer none, .slice none 0 0, .int .i64 0] 58)) fun e w' => e = .returned (.tuple #[]) ∧ Wtr (w.heap.size + 1) (w.heap.size + 1) (headT f) 0 w' ∧ Below w.heap.size w w') := by
    refine (head_any (K := K.up (w.heap.size + 1)) ((hx.below hk).up (by omega)) b1 b2 (by simpa using hlen)).mono ?_
    rintro _ _ ⟨rfl, p1, p2⟩
    exact ⟨rfl, by have h := p1; rw [List.nil_append] at h; exact h, b3.trans (below_le p2.below (Nat.le_succ _))⟩
  have D2 : Hid (∀ y, Wtr (w.heap.size + 1) (w.heap.size + 1) (headT f) 0 y → Below w.heap.size w y → Calls Tryz.prog 22 #[.pointer (some ⟨w.heap.size + 1, 0, none⟩)] y fun e w' => e = .returned (.string (str (headT f))) ∧ Below w.heap.size w w') := by
    intro y hw hy
    refine (string_any hw).mono ?_
    rintro _ _ ⟨rfl, p1⟩
    exact ⟨rfl, hy.trans (below_le p1 (Nat.le_succ _))⟩
  obtain ⟨v2, v3, ts, v8, rfl, -, h2, h3, ht, h8⟩ := hx
  obtain ⟨p2, m2, rfl⟩ := h2.form
  obtain ⟨p3, m3, rfl⟩ := h3.form
  obtain ⟨p8, m8, rfl⟩ := h8.form
  obtain ⟨u2, k2, c2, u3, k3, c3, rfl⟩ := ht.open
  clear h2 h3 ht h8 b1 b2 b3 hk l10 hlen
  generalize headT f = TT at *
  generalize str TT = XX at *
  generalize str f.name = X at *
  generalize str f.result.name = X2 at *
  generalize f.result.kind = kd at *
  generalize f.pub = pb at *
  generalize f.pos = ps at *
  generalize f.lives.length = l2 at *
  generalize f.params.length = l3 at *
  generalize f.body.length = l8 at *
  go_enter Tryz.func13, Tryz.ntmps13
  go_wp2_with fail
  refine D1.out.mono ?_
  rintro ev w1 ⟨rfl, p1, q1⟩
  go_wp2_with fail
  refine (D2.out _ p1 q1).mono ?_
  rintro ev w2 ⟨rfl, q2⟩
  go_wp2_with fail
  go_ret
  exact ⟨rfl, q2⟩

/-- What Crate answers of a crate that may be and whose text is not too long. -/
theorem crateP_ok {K : Ctx} {n : Nat} {w : World} (he : Env K w) (hK : 1 < K.C) (tb : Tb w) {cs : List Value} {c : Crt} (hx : CrtAt n K w cs c) (hm : MayCrt n c) (hlen : (crtT Lib.itoa c).length ≤ 1048576) :
    Calls Tryz.prog 8 #[.agg cs.toArray] w fun e w' => e = .returned (.tuple #[.string (str (crtT Lib.itoa c)), .nilIface]) ∧ Below w.heap.size w w' := by
  have hC := he.C
  have D0 : Hid (Calls Tryz.prog 18 #[.agg cs.toArray] (w.alloc (.cells cs.toArray 25)) fun e w' => e = .returned (.bool true) ∧ Below (w.heap.size + 1) (w.alloc (.cells cs.toArray 25)) w') := by
    have hA := below_le (alloc_one w (.cells cs.toArray 25)) hC
    have := may_any (he.below hA) (hx.below hA) true ⟨fun _ => hm, fun _ => rfl⟩
    rw [size_alloc] at this
    exact this
  have D1 : Hid (∀ y, Below (w.heap.size + 1) (w.alloc (.cells cs.toArray 25)) y → Calls Tryz.prog 20 #[.pointer (some ⟨y.heap.size, 0, none⟩), .pointer (some ⟨w.heap.size, 0, none⟩)] (y.alloc (.cells #[.pointer none, .slice none 0 0, .int .i64 0] 58)) fun e w' => e = .returned (.tuple #[]) ∧ Wtr (w.heap.size + 1) y.heap.size (crtT Lib.itoa c) 0 w' ∧ Below w.heap.size w w') := by
    intro y hy
    have hsz : w.heap.size + 1 ≤ y.heap.size := by have := hy.size; rw [size_alloc] at this; exact this
    have hY : Below w.heap.size w y := (alloc_one w _).trans (below_le hy (Nat.le_succ _))
    have hZ : Below (w.heap.size + 1) y (y.alloc (.cells #[.pointer none, .slice none 0 0, .int .i64 0] 58)) := below_le (alloc_one y _) hsz
    have hk : Below w.heap.size w (y.alloc (.cells #[.pointer none, .slice none 0 0, .int .i64 0] 58)) := hY.trans (below_le hZ (Nat.le_succ _))
    have l2 : cs.length = 2 := by obtain ⟨_, _, rfl, _⟩ := hx; rfl
    have r1 : Row (y.alloc (.cells #[.pointer none, .slice none 0 0, .int .i64 0] 58)) w.heap.size 25 cs := ((Row.new w 25 cs).below hy (Nat.lt_succ_self _)).alloc _
    have hkc := below_le hk hC
    refine (crate_any (K := K.up (w.heap.size + 1)) (show 1 < w.heap.size + 1 by omega) (tb.below hkc hK) ((hx.below hkc).up (by omega)) ⟨Nat.lt_succ_self _, fun j _ => by rw [Nat.zero_add]; exact r1.cell j⟩ (fun f hf => ((hm.2.2 f hf).2.2.2.2).1) (Wtr.new y hsz) (by omega)).mono ?_
    rintro _ _ ⟨rfl, ⟨T, hO, p1⟩, p2⟩
    have := hO.whole
    rw [if_pos hlen] at this
    subst this
    exact ⟨rfl, p1, hk.trans (below_le p2.below (Nat.le_succ _))⟩
  have D2 : Hid (∀ y b, Wtr (w.heap.size + 1) b (crtT Lib.itoa c) 0 y → Calls Tryz.prog 21 #[.pointer (some ⟨b, 0, none⟩)] y fun e w' => e = .returned (.bool false) ∧ w' = y) := by
    intro y b hw
    have := tooLong_any hw
    rw [decide_eq_false (by omega)] at this
    exact this
  have D3 : Hid (∀ y b, Wtr (w.heap.size + 1) b (crtT Lib.itoa c) 0 y → Below w.heap.size w y → Calls Tryz.prog 22 #[.pointer (some ⟨b, 0, none⟩)] y fun e w' => e = .returned (.string (str (crtT Lib.itoa c))) ∧ Below w.heap.size w w') := by
    intro y b hw hy
    refine (string_any hw).mono ?_
    rintro _ _ ⟨rfl, p1⟩
    exact ⟨rfl, hy.trans (below_le p1 (Nat.le_succ _))⟩
  obtain ⟨v0, v1, rfl, h0, h1⟩ := hx
  obtain ⟨a0, n0, rfl⟩ := h0.form
  obtain ⟨a1, n1, rfl⟩ := h1.form
  clear h0 h1 hm tb he hlen hC
  generalize crtT Lib.itoa c = TT at *
  generalize str TT = XX at *
  generalize c.structs.length = k0 at *
  generalize c.funcs.length = k1 at *
  go_enter Tryz.func8, Tryz.ntmps8
  go_wp2_with fail
  refine D0.out.mono ?_
  rintro ev w1 ⟨rfl, q1⟩
  go_wp2_with fail
  refine (D1.out _ q1).mono ?_
  rintro ev w2 ⟨rfl, p2, q2⟩
  go_wp2_with fail
  refine (D2.out _ _ p2).mono ?_
  rintro ev w3 ⟨rfl, rfl⟩
  go_wp2_with fail
  refine (D3.out _ _ p2 q2).mono ?_
  rintro ev w4 ⟨rfl, q4⟩
  go_wp2_with fail
  go_ret2
  exact ⟨rfl, q4⟩
end Go.Proofs.YtlbhaaldndjigaaGreatDoor
