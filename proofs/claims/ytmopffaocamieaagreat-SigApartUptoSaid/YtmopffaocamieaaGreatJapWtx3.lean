/-
  The texts Wtx, Err, Wrd, joined.
-/
import Derived.Test.YtmopffaocamieaaGreatJapWmm2
import Derived.Test.YtmopffaocamieaaGreatJapMat4
namespace Go.Proofs.YtmopffaocamieaaGreat
open Go.RowKit

set_option maxHeartbeats 1000000 in
theorem wBool_any (B wb : Nat) (x : Bool) (v : Value) (l : List UInt8) (w : World) (h : Wr B w wb v l) (hl : l.length ≤ 1000000000000) :
    Calls Tryz.prog 162 #[.pointer (some ⟨wb, 0, none⟩), .bool x] w fun ev w' => ev = .returned (.tuple #[]) ∧ ∃ v', Wr B w' wb v' (l ++ [if x then 1 else 0]) ∧ Mv w w' wb v v' := by
  cases x
  · have C := put_one B wb v l 0 0 rfl w h (by omega)
    clear h
    go_enter Tryz.func162, Tryz.ntmps162
    go_wp2_with fail
    refine C.mono ?_
    rintro ev w1 ⟨rfl, hv, hb⟩
    go_wp2_with fail
    go_end0
    exact ⟨rfl, hv, hb⟩
  · have C := put_one B wb v l 1 1 rfl w h (by omega)
    clear h
    go_enter Tryz.func162, Tryz.ntmps162
    go_wp2_with fail
    refine C.mono ?_
    rintro ev w1 ⟨rfl, hv, hb⟩
    go_wp2_with fail
    exact bodyPost_ret (v := .tuple #[]) (by simp [results, Tryz.results162, go_sem]) rfl ⟨rfl, hv, hb⟩

theorem bytesRow_get (s : ByteArray) (c j : Nat) (h : j < s.data.toList.length) : (bytesRow s c)[j]? = (bys s.data.toList)[j]? := by
  unfold bytesRow bys
  rw [Array.getElem?_append_left (by simpa using h)]
  simp
theorem cell_string (w : World) (s : ByteArray) (c : Nat) (m : Nat × Nat) : ∀ j u, (bys s.data.toList)[j]? = some u → (w.drew.alloc (.cells (bytesRow s c) 5 m)).cell? ((⟨w.heap.size, 0, none⟩ : Addr).add j) = some u := by
  intro j u hj
  have hl : j < s.data.toList.length := by
    rcases Nat.lt_or_ge j s.data.toList.length with h | h
    · exact h
    · rw [List.getElem?_eq_none (by rw [bys_len]; exact h)] at hj; cases hj
  rw [addr_add, cell_of_row _ w.heap.size (0 + j) (bytesRow s c) 5 m (heap_alloc_new w.drew _), Nat.zero_add, bytesRow_get s c j hl, hj]

set_option maxHeartbeats 1000000 in
theorem wText_any (B wb : Nat) (s : ByteArray) (v : Value) (l : List UInt8) (w : World) (h : Wr B w wb v l) (hs : s.size ≤ 1000000000) (hl : l.length ≤ 900000000000) :
    Calls Tryz.prog 66 #[.pointer (some ⟨wb, 0, none⟩), .string s] w fun ev w' => ev = .returned (.tuple #[]) ∧ ∃ v', Wr B w' wb v' (l ++ (enc s.size ++ s.data.toList)) ∧ Mv w w' wb v v' := by
  have C := wUint_any B wb s.size v l w h (by omega) (by omega)
  have he := enc_len_10 (v := s.size) (by omega)
  have HD : Hid (∀ (w1 : World) (v1 : Value) (c : Nat), Wr B w1 wb v1 (l ++ enc s.size) → Calls Tryz.prog 114 #[.pointer (some ⟨wb, 0, none⟩), .slice (some ⟨w1.heap.size, 0, none⟩) s.size c] (w1.drew.alloc (.cells (bytesRow s c) 5 ((bytesRow s c).size, (bytesRow s c).size + 1))) fun ev w' => ev = .returned (.tuple #[]) ∧ ∃ v', Wr B w' wb v' ((l ++ enc s.size) ++ s.data.toList) ∧ Mv w1 w' wb v1 v') := by
    intro w1 v1 c hW
    have hA : Below w1.heap.size w1 (w1.drew.alloc (.cells (bytesRow s c) 5 ((bytesRow s c).size, (bytesRow s c).size + 1))) := ((Below.refl w1.heap.size w1).drew).alloc (Nat.le_refl _) _
    refine (put_any B wb s.size c v1 (l ++ enc s.size) s.data.toList ⟨w1.heap.size, 0, none⟩ _ (hW.past hA) (by simp) (cell_string w1 s c _) (by simp; omega)).mono ?_
    rintro ev w' ⟨rfl, v', hv, hb⟩
    exact ⟨rfl, v', hv, (Mv.past hA _ _).trans hb⟩
  have kc := fun (w : World) (s : ByteArray) => run_bytes_of_string (P := Tryz.prog) w 9 33 5 s Tryz.underlying9 Tryz.underlying33 Tryz.underlying5
  clear h
  go_enter Tryz.func66, Tryz.ntmps66
  go_wp2_with fail
  refine C.mono ?_
  rintro ev w1 ⟨rfl, v1, hW1, hb1⟩
  have D := fun c => HD.out w1 v1 c hW1
  clear HD C hW1
  go_wp2_with fail
  refine (D _).mono ?_
  rintro ev w2 ⟨rfl, v2, hW2, hb2⟩
  go_wp2_with fail
  go_end0
  exact ⟨rfl, v2, by simpa using hW2, hb1.trans hb2⟩

/-- bytes.Clone: a slice of its own, with the same bytes. -/
theorem Tryz.eqNil32 (w : World) (a : Option Addr) (n c : Nat) : (binOp .eql 33 (.slice a n c) (.slice none 0 0)).run Tryz.prog w = .ok (.bool a.isNone) w := Lib.run_eql_slice_nil w 33 5 a n c 0 0 Tryz.underlying33
theorem sl_nil_clone (w : World) : Calls Tryz.prog 71 #[.slice none 0 0] w fun ev w' => ev = .returned (.slice none 0 0) ∧ w' = w := by
  have kq := Tryz.eqNil32
  go_enter Tryz.func71, Tryz.ntmps71
  go_wp2_with fail
  go_ret
  exact ⟨rfl, rfl⟩

set_option maxHeartbeats 1000000 in
theorem sl_clone (w : World) (b o cap : Nat) (l : List UInt8) (hc : ∀ i, i < l.length → w.cell? ⟨b, o + i, none⟩ = some (.int .u8 ((l.getD i 0).toNat : Int))) (hl : l.length ≤ 1099511627776) :
    Calls Tryz.prog 71 #[.slice (some ⟨b, o, none⟩) l.length cap] w fun ev w' => ∃ v, ev = .returned v ∧ w'.ownsRow w.heap.size 5 1 v l.length (bys l) ∧ Below w.heap.size w w' := by
  obtain ⟨i0, hi, hz0, hz1, hz2⟩ := info_parts Tryz.info5
  have hA : Below w.heap.size w (w.alloc (.cells #[] 5)) := (Below.refl _ _).alloc (Nat.le_refl _) _
  have hm : (w.alloc (.cells #[] 5)).ownsRow w.heap.size 5 1 (.slice (some ⟨w.heap.size, 0, none⟩) 0 0) 0 [] := World.ownsRow_made w #[] 0 (Nat.le_refl _) (by decide) rfl
  have HN : Hid (∀ j u, (bys l)[j]? = some u → (w.alloc (.cells #[] 5)).cell? ((⟨b, o, none⟩ : Addr).add j) = some u) := by
    intro j u hj
    have hlt : j < l.length := by
      rcases Nat.lt_or_ge j l.length with h | h
      · exact h
      · rw [List.getElem?_eq_none (by rw [bys_len]; exact h)] at hj; cases hj
    rw [addr_add, hA.cell (p := ⟨b, o + j, none⟩) (World.block_lt_of_cell? w _ (hc j hlt)), hc j hlt]
    rw [bys_get l j hlt] at hj
    exact hj
  clear hc
  have kq := Tryz.eqNil32
  go_enter Tryz.func71, Tryz.ntmps71
  go_wp2_with (at_builtin; refine wpList_append_own_at _ rfl _ _ 33 rfl w.heap.size 5 i0 (.int .u8 0) 1 1 Tryz.underlying33 hi hz0 hz1 hz2 rfl (by decide) _ _ _ rfl hm ⟨b, o, none⟩ l.length cap (bys l) rfl (by simp [bys_len]) HN.out (bys_one l) (by unfold maxLen; omega) (by omega) (by simp) ?_)
  intro v' w1 hown' hgrow _ _
  obtain ⟨ao', cap', rfl⟩ := own_shape hown'
  have R : Below w.heap.size w w1 := hA.grown hgrow (by simp) (fun k e => by simp [Value.ownBlock] at e; omega)
  clear hgrow hm hA
  go_wp2
  go_ret
  exact ⟨_, rfl, by simpa using hown', R⟩

theorem clone_any (w : World) (v : Value) (l : List UInt8) (h : Sw w v l) (hn : ∀ cap, v = .slice none 0 cap → cap = 0) (hl : l.length ≤ 1099511627776) :
    Calls Tryz.prog 71 #[v] w fun ev w' => ∃ v', ev = .returned v' ∧ w'.ownsRow w.heap.size 5 1 v' l.length (bys l) ∧ Below w.heap.size w w' := by
  rcases h.shape with ⟨cap, rfl, rfl⟩ | ⟨b, o, cap, rfl, hc⟩
  · obtain rfl := hn cap rfl
    refine (sl_nil_clone w).mono ?_
    rintro ev w' ⟨rfl, rfl⟩
    exact ⟨_, rfl, World.ownsRow_nil _ _ _ _, Below.refl _ _⟩
  · exact sl_clone w b o cap l hc hl

set_option maxHeartbeats 1000000 in
theorem wBytes_any (B wb : Nat) (v : Value) (l : List UInt8) (w : World) (h : Wr B w wb v l) (hl : l.length ≤ 1099511627776) :
    Calls Tryz.prog 31 #[.pointer (some ⟨wb, 0, none⟩)] w fun ev w' => ∃ v', ev = .returned v' ∧ w'.ownsRow w.heap.size 5 1 v' l.length (bys l) ∧ Below w.heap.size w w' := by
  have C := clone_any w v l (Sw.ofOwn h.own) (by
    intro cap e
    rcases h.own.2 with ⟨h0, _⟩ | ⟨g, c, cur, h0, _⟩
    · rw [h0] at e; simp at e; exact e.symm
    · rw [h0] at e; simp at e) hl
  have hc := h.cell
  obtain ⟨ao, cap, rfl⟩ := own_shape h.own
  clear h
  go_enter Tryz.func31, Tryz.ntmps31
  go_wp2_with fail
  refine C.mono ?_
  rintro ev w1 ⟨v', rfl, hown, hb⟩
  obtain ⟨ao', cap', rfl⟩ := own_shape hown
  go_wp2_with fail
  go_ret
  exact ⟨_, rfl, hown, hb⟩
end Go.Proofs.YtmopffaocamieaaGreat

namespace Go.Proofs.YtmopffaocamieaaGreat
open Go.RowKit

theorem below_drewE {B : Nat} {w w' : World} (h : Below B w w') (n : Nat) : Below B w (w'.drewN n) := ⟨h.os, h.tape, h.output, h.size, h.block⟩

/-- An error of one link, with its number and its place. -/
structure Er (w : World) (e : Value) (code : Nat) (pl : Nat) : Prop where
  shape : ∃ b, e = .iface 123 (.pointer (some ⟨b, 0, none⟩)) ∧ w.cell? ⟨b, 0, none⟩ = some (.int .i64 (code : Int)) ∧ w.cell? ⟨b, 1, none⟩ = some (.int .i64 (pl : Int)) ∧ w.cell? ⟨b, 2, none⟩ = some (.iface 72 (.int .i64 (code : Int)))
theorem Er.below {w w' : World} {e : Value} {code pl : Nat} (h : Er w e code pl) (hb : Below w.heap.size w w') : Er w' e code pl := by
  obtain ⟨b, he, h0, h1, h2⟩ := h.shape
  have hlt := World.block_lt_of_cell? w _ h0
  exact ⟨b, he, (hb.cell (p := ⟨b, 0, none⟩) hlt).trans h0, (hb.cell (p := ⟨b, 1, none⟩) hlt).trans h1, (hb.cell (p := ⟨b, 2, none⟩) hlt).trans h2⟩

set_option maxHeartbeats 1000000 in
theorem new_any (w : World) (code pl : Nat) (hc : code ≠ 0) :
    Calls Tryz.prog 28 #[.int .i64 (code : Int), .int .i64 (pl : Int)] w fun ev w' => ∃ e, ev = .returned e ∧ Er w' e code pl ∧ Below w.heap.size w w' := by
  go_enter Tryz.func28, Tryz.ntmps28
  go_wp2_with fail
  go_ret
  refine ⟨_, rfl, ⟨w.heap.size, rfl, ?_, ?_, ?_⟩, (Below.refl _ _).alloc (Nat.le_refl _) _⟩
  · simp
  · simp
  · simp


theorem Tryz.is51 (p : Option Addr) (xT : TypeId) (w : World) : (Instr.typeAssert (.iface 123 (.pointer p)) xT 123 true).run Tryz.prog w = .ok (.tuple #[.pointer p, .bool true]) w := by kernel_rfl
theorem Tryz.not51_43 (n : Int) (w : World) : (Instr.typeAssert (.iface 72 (.int .i64 n)) 35 123 true).run Tryz.prog w = .ok (.tuple #[.pointer none, .bool false]) w := by kernel_rfl

theorem told_nil (w : World) :
    Calls Tryz.prog 39 #[.nilIface] w fun ev w' => ev = .returned (.tuple #[.int .i64 0, .int .i64 0]) ∧ w' = w := by
  go_enter Tryz.func39, Tryz.ntmps39
  go_wp2_with fail
  go_ret2
  exact ⟨rfl, rfl⟩

set_option maxHeartbeats 2000000 in
set_option maxRecDepth 20000 in
theorem told_er (w : World) (e : Value) (c p : Nat) (h : Er w e c p) :
    Calls Tryz.prog 39 #[e] w fun ev w' => ev = .returned (.tuple #[.int .i64 (c : Int), .int .i64 (p : Int)]) ∧ Below w.heap.size w w' := by
  obtain ⟨b, rfl, h0, h1, h2⟩ := h.shape
  clear h
  have k1 := Tryz.is51
  have k2 := Tryz.not51_43
  go_enter Tryz.func39, Tryz.ntmps39
  go_wp2_with fail
  go_quiet (fail)
  go_wp2_with fail
  refine wp_loop_rounds 1 ?_
  rw [rounds_succ]
  go_wp2_with fail
  go_ret2
  exact ⟨rfl, below_drewE (Below.refl _ _) _⟩

set_option maxHeartbeats 2000000 in
theorem is_any (w : World) (e : Value) (c p : Nat) (a b : Int) (h : (c = 0 ∧ p = 0 ∧ e = .nilIface) ∨ Er w e c p) (ha : a = (c : Int)) (hb : b = (p : Int)) :
    Calls Tryz.prog 17 #[e, .int .i64 a, .int .i64 b] w fun ev w' => ev = .returned (.bool true) ∧ Below w.heap.size w w' := by
  subst ha hb
  have C : Calls Tryz.prog 39 #[e] w fun ev w' => ev = .returned (.tuple #[.int .i64 (c : Int), .int .i64 (p : Int)]) ∧ Below w.heap.size w w' := by
    rcases h with ⟨rfl, rfl, rfl⟩ | h
    · refine (told_nil w).mono ?_
      rintro ev w' ⟨rfl, rfl⟩
      exact ⟨rfl, Below.refl _ _⟩
    · exact told_er w e c p h
  rcases h with ⟨hc0, hp0, rfl⟩ | h
  · clear hc0 hp0
    go_enter Tryz.func17, Tryz.ntmps17
    go_wp2_with fail
    refine C.mono ?_
    rintro ev w1 ⟨rfl, hb⟩
    go_wp2_with fail
    go_ret
    exact ⟨rfl, hb⟩
  · obtain ⟨b, rfl, -⟩ := h.shape
    clear h
    go_enter Tryz.func17, Tryz.ntmps17
    go_wp2_with fail
    refine C.mono ?_
    rintro ev w1 ⟨rfl, hb⟩
    go_wp2_with fail
    go_ret
    exact ⟨rfl, hb⟩

end Go.Proofs.YtmopffaocamieaaGreat

namespace Go.Proofs.YtmopffaocamieaaGreat
open Go.RowKit

/-- A Reader at block rb that stands at p of the bytes l; v: its slice. -/
structure Rd (w : World) (rb : Nat) (v : Value) (l : List UInt8) (p : Nat) : Prop where
  cell0 : w.cell? ⟨rb, 0, none⟩ = some v
  cell1 : w.cell? ⟨rb, 1, none⟩ = some (.int .i64 (p : Int))
  fz : w.frozen? ⟨rb, 1, none⟩ = false
  own : w.ownsRow 0 5 1 v l.length (bys l)
  ne : v.ownBlock ≠ some rb
  le : p ≤ l.length
  max : l.length ≤ 1099511627776

theorem Rd.lt {w : World} {rb : Nat} {v : Value} {l : List UInt8} {p : Nat} (h : Rd w rb v l p) : rb < w.heap.size := World.block_lt_of_cell? w _ h.cell0
theorem Rd.same {w w' : World} {rb : Nat} {v : Value} {l : List UInt8} {p : Nat} (h : Rd w rb v l p) (h1 : w'.heap[rb]? = w.heap[rb]?) (h2 : ∀ k, v.ownBlock = some k → w'.heap[k]? = w.heap[k]?) : Rd w' rb v l p :=
  ⟨(World.cell?_of_block (a := ⟨rb, 0, none⟩) h1).trans h.cell0, (World.cell?_of_block (a := ⟨rb, 1, none⟩) h1).trans h.cell1, (World.frozen?_of_block (a := ⟨rb, 1, none⟩) h1).trans h.fz, own_same h.own h2, h.ne, h.le, h.max⟩
theorem Rd.below {C : Nat} {w w' : World} {rb : Nat} {v : Value} {l : List UInt8} {p : Nat} (h : Rd w rb v l p) (hC : rb < C) (hk : ∀ k, v.ownBlock = some k → k < C) (hb : Below C w w') : Rd w' rb v l p :=
  h.same (hb.block rb hC) (fun k e => hb.block k (hk k e))
theorem Rd.past {w w' : World} {rb : Nat} {v : Value} {l : List UInt8} {p : Nat} (h : Rd w rb v l p) (hb : Below w.heap.size w w') : Rd w' rb v l p :=
  h.below h.lt (fun k e => (h.own.lt k e).2) hb
/-- It goes on. -/
theorem Rd.step {w : World} {rb : Nat} {v : Value} {l : List UInt8} {p q : Nat} (h : Rd w rb v l p) (hq : q ≤ l.length) : Rd (w.setCell ⟨rb, 1, none⟩ (.int .i64 (q : Int))) rb v l q ∧ w.grownBy (w.setCell ⟨rb, 1, none⟩ (.int .i64 (q : Int))) (some rb) := by
  refine ⟨⟨?_, World.cell?_setCell_same w _ _ h.cell1, by simpa using h.fz, own_same h.own (fun k e => Below.heap_setCell _ _ _ _ (fun e' => h.ne (by rw [e, e']))), h.ne, hq, h.max⟩, rfl, rfl, rfl, ?_, ?_⟩
  · exact (World.cell?_setCell_other (w := w) (a := ⟨rb, 1, none⟩) (b := ⟨rb, 0, none⟩) (v := .int .i64 (q : Int)) (by simp)).trans h.cell0
  · exact ((Below.refl rb w).setCell (p := ⟨rb, 1, none⟩) (Nat.le_refl _) _).size
  · intro k hk hne
    exact Below.heap_setCell _ _ _ _ (fun e => hne (by rw [e]))

set_option maxHeartbeats 1000000 in
theorem newReader_any (w : World) (v : Value) (l : List UInt8) (h : Sw w v l) (hn : ∀ cap, v = .slice none 0 cap → cap = 0) (hl : l.length ≤ 1099511627776) :
    Calls Tryz.prog 88 #[v] w fun ev w' => ∃ rb v', ev = .returned (.pointer (some ⟨rb, 0, none⟩)) ∧ Rd w' rb v' l 0 ∧ w.heap.size ≤ rb ∧ (∀ k, v'.ownBlock = some k → w.heap.size ≤ k) ∧ Below w.heap.size w w' := by
  have C := clone_any w v l h hn hl
  obtain ⟨ao, n, cap, rfl⟩ : ∃ ao n cap, v = .slice ao n cap := by
    rcases h.shape with ⟨cap, rfl, _⟩ | ⟨b, o, cap, rfl, _⟩
    · exact ⟨_, _, _, rfl⟩
    · exact ⟨_, _, _, rfl⟩
  clear h hn
  go_enter Tryz.func88, Tryz.ntmps88
  go_wp2_with fail
  refine C.mono ?_
  rintro ev w1 ⟨v', rfl, hown, hb⟩
  clear C
  obtain ⟨ao', cap', rfl⟩ := own_shape hown
  have hs := hb.size
  have hk := fun k e => (hown.lt k e)
  have A : Aside (w1.ownsRow w.heap.size 5 1 (.slice ao' l.length cap') l.length (bys l)) := hown
  clear hown
  go_wp2_with fail
  go_ret
  refine ⟨w1.heap.size, .slice ao' l.length cap', rfl, ⟨?_, ?_, ?_, own_lower (A.out.alloc _) (Nat.zero_le _), ?_, Nat.zero_le _, hl⟩, hs, fun k e => (hk k e).1, hb.alloc hs _⟩
  · simp
  · simp
  · simp
  · intro e; have := (hk _ e).2; omega

theorem below_drewN {B : Nat} {a w : World} (h : Below B a w) (n : Nat) : Below B a (w.drewN n) := ⟨h.os, h.tape, h.output, h.size, h.block⟩

/-- The bytes from a place on. -/
theorem sl_cut {w : World} {g cap p : Nat} {l : List UInt8} (h : ∀ i, i < l.length → w.cell? ⟨g, i, none⟩ = some (.int .u8 ((l.getD i 0).toNat : Int))) (hp : p ≤ l.length) (hc : l.length ≤ cap) :
    Sw w (.slice (if cap = p then some ⟨g, 0, none⟩ else some ⟨g, p, none⟩) (l.length - p) (cap - p)) (l.drop p) := by
  refine ⟨.inr ?_⟩
  by_cases e : cap = p
  · refine ⟨g, 0, cap - p, by rw [if_pos e, List.length_drop], fun i hi => ?_⟩
    rw [List.length_drop] at hi
    omega
  · refine ⟨g, p, cap - p, by rw [if_neg e, List.length_drop], fun i hi => ?_⟩
    rw [List.length_drop] at hi
    rw [h (p + i) (by omega)]
    simp [List.getD, List.getElem?_drop]

/-- What is left, as a slice. -/
theorem left_any (w : World) (rb : Nat) (v : Value) (l : List UInt8) (p : Nat) (h : Rd w rb v l p) :
    Calls Tryz.prog 148 #[.pointer (some ⟨rb, 0, none⟩)] w fun ev w' => ∃ v', ev = .returned v' ∧ Sw w' v' (l.drop p) ∧ Below w.heap.size w w' := by
  have c0 := h.cell0
  have c1 := h.cell1
  have hle := h.le
  have hmax := h.max
  rcases h.own.2 with ⟨rfl, hn⟩ | ⟨g, cap, cur, rfl, _, hg, hnc, hcm, hcs, ht⟩
  · obtain rfl : p = 0 := by omega
    have hl0 := List.eq_nil_of_length_eq_zero hn
    subst hl0
    clear h
    go_enter Tryz.func148, Tryz.ntmps148
    go_wp2_with fail
    go_quiet (fail)
    go_wp2_with fail
    go_ret
    exact ⟨_, rfl, ⟨.inl ⟨0, rfl, rfl⟩⟩, below_drewN (Below.refl _ _) _⟩
  · have HS : Hid (∀ n, Sw (w.drewN n) (.slice (if cap = p then some ⟨g, 0, none⟩ else some ⟨g, p, none⟩) (l.length - p) (cap - p)) (l.drop p)) := fun n =>
      sl_cut (fun i hi => by rw [World.cell?_drewN, h.own.cellAt i (by omega), bys_get l i hi]) hle hnc
    unfold maxLen at hcm
    clear h
    by_cases e : cap = p
    · have HT : Hid (∀ n, Sw (w.drewN n) (.slice (some ⟨g, 0, none⟩) (l.length - p) 0) (l.drop p)) := fun n => by have := HS.out n; rw [if_pos e] at this; simpa [e] using this
      go_enter Tryz.func148, Tryz.ntmps148
      go_wp2_with fail
      go_quiet (fail)
      go_wp2_with fail
      go_ret
      exact ⟨_, rfl, HT.out _, below_drewN (Below.refl _ _) _⟩
    · have HT : Hid (∀ n, Sw (w.drewN n) (.slice (some ⟨g, p, none⟩) (l.length - p) (cap - p)) (l.drop p)) := fun n => by have := HS.out n; rw [if_neg e] at this; exact this
      go_enter Tryz.func148, Tryz.ntmps148
      go_wp2_with fail
      go_quiet (fail)
      go_wp2_with fail
      go_ret
      exact ⟨_, rfl, HT.out _, below_drewN (Below.refl _ _) _⟩

theorem at_any (w : World) (rb : Nat) (v : Value) (l : List UInt8) (p : Nat) (h : Rd w rb v l p) :
    Calls Tryz.prog 183 #[.pointer (some ⟨rb, 0, none⟩)] w fun ev w' => ev = .returned (.int .i64 (p : Int)) ∧ w' = w := by
  have c1 := h.cell1
  clear h
  go_enter Tryz.func183, Tryz.ntmps183
  go_wp2_with fail
  go_ret
  exact ⟨rfl, rfl⟩

set_option maxHeartbeats 1000000 in
theorem refuse_any (w : World) (rb : Nat) (v : Value) (l : List UInt8) (p code : Nat) (h : Rd w rb v l p) (hc : code ≠ 0) :
    Calls Tryz.prog 149 #[.pointer (some ⟨rb, 0, none⟩), .int .i64 (code : Int)] w fun ev w' => ∃ e, ev = .returned e ∧ Er w' e code p ∧ Below w.heap.size w w' := by
  have C := at_any w rb v l p h
  have D := new_any w code p hc
  clear h
  go_enter Tryz.func149, Tryz.ntmps149
  go_wp2_with fail
  refine C.mono ?_
  rintro ev w1 ⟨rfl, rfl⟩
  go_wp2_with fail
  refine D.mono ?_
  rintro ev w2 ⟨e, rfl, hE, hb⟩
  obtain ⟨b, rfl, h0, h1, h2⟩ := hE.shape
  go_wp2_with fail
  go_ret
  exact ⟨_, rfl, hE, hb⟩

set_option maxHeartbeats 1000000 in
theorem end_any (w : World) (rb : Nat) (v : Value) (l : List UInt8) (p : Nat) (h : Rd w rb v l p) :
    Calls Tryz.prog 95 #[.pointer (some ⟨rb, 0, none⟩)] w fun ev w' => ∃ e, ev = .returned e ∧ (if p < l.length then Er w' e 4 p else e = .nilIface) ∧ Below w.heap.size w w' := by
  have C := left_any w rb v l p h
  have HD : Hid (∀ w1, Below w.heap.size w w1 → Calls Tryz.prog 149 #[.pointer (some ⟨rb, 0, none⟩), .int .i64 4] w1 fun ev w' => ∃ e, ev = .returned e ∧ Er w' e 4 p ∧ Below w1.heap.size w1 w') := fun w1 hb => refuse_any w1 rb v l p 4 (h.past hb) (by decide)
  have hle := h.le
  have hmax := h.max
  clear h
  go_enter Tryz.func95, Tryz.ntmps95
  go_wp2_with fail
  refine C.mono ?_
  rintro ev w1 ⟨v', rfl, hS, hb⟩
  have D := HD.out w1 hb
  clear HD C
  obtain ⟨ao, cap, rfl⟩ : ∃ ao cap, v' = .slice ao (l.length - p) cap := by
    rcases hS.shape with ⟨cap, rfl, h0⟩ | ⟨b, o, cap, rfl, _⟩
    · have := congrArg List.length h0
      rw [List.length_drop, List.length_nil] at this
      exact ⟨none, cap, by rw [this]⟩
    · exact ⟨_, cap, by rw [List.length_drop]⟩
  by_cases hlt : p < l.length
  · go_wp2_with fail
    refine D.mono ?_
    rintro ev w2 ⟨e, rfl, hE, hb2⟩
    obtain ⟨b, rfl, -⟩ := hE.shape
    go_wp2_with fail
    go_ret
    exact ⟨_, rfl, hE, hb.trans (hb2.mono hb.size)⟩
  · go_wp2_with fail
    go_ret
    exact ⟨_, rfl, rfl, hb⟩
end Go.Proofs.YtmopffaocamieaaGreat
