/-
  The statements' own step 'write': one thing, by the program and by the document.
-/
import Derived.Test.YtkgmjhchefkmaaaTld
import Derived.Deep.MidRow
namespace Go.Proofs.Ytkgmjhchefkmaaa
open Go.RowKit

/-- One thing of the statements' lists. -/
structure Opv where
  kind : Int
  n : Int
  most : Int
  v : Nat
  b : Bool
  s : ByteArray
  h : List UInt8

/-- How it lies in memory. -/
def Opv.cells (o : Opv) : List Value := [.int .i64 o.kind, .int .i64 o.n, .int .i64 o.most, .int .u64 (o.v : Int), .bool o.b, .string o.s] ++ bys o.h
structure Opv.ok (o : Opv) : Prop where
  kind0 : -9223372036854775808 ≤ o.kind
  kind1 : o.kind ≤ 9223372036854775807
  n0 : -9223372036854775808 ≤ o.n
  n1 : o.n ≤ 9223372036854775807
  most0 : -9223372036854775808 ≤ o.most
  most1 : o.most ≤ 9223372036854775807
  v1 : o.v < 18446744073709551616
  h32 : o.h.length = 32

/-- Which thing it is: 0 to 5. -/
def Opv.sort (o : Opv) : Nat := (o.kind % 6).toNat
theorem Opv.sort_lt (o : Opv) : o.sort < 6 := by unfold Opv.sort; omega
/-- Its bytes. -/
def Opv.msg (o : Opv) : List UInt8 :=
  if o.sort = 0 ∨ o.sort = 2 then enc o.v else if o.sort = 1 then enc (zig o.n) else if o.sort = 3 then [if o.b then 1 else 0] else if o.sort = 4 then enc o.s.size ++ o.s.data.toList else o.h

theorem tmod6 (k : Int) : -5 ≤ k.tmod 6 ∧ k.tmod 6 ≤ 5 ∧ (k.tmod 6 + 6) % 6 = k % 6 := by
  rcases Int.lt_or_le k 0 with h | h
  · have e : k.tmod 6 = -((-k) % 6) := by
      conv => lhs; rw [show k = -(-k) by omega, Int.neg_tmod]
      rw [Int.tmod_eq_emod_of_nonneg (by omega)]
    rw [e]; omega
  · rw [Int.tmod_eq_emod_of_nonneg h]; omega

/-- The remainder as the statements reckon it. -/
theorem Opv.rem (o : Opv) : ∃ t : Int, o.kind.tmod 6 = t ∧ -5 ≤ t ∧ t ≤ 5 ∧ (t + 6) % 6 = (o.sort : Int) := by
  obtain ⟨h1, h2, h3⟩ := tmod6 o.kind
  refine ⟨_, rfl, h1, h2, ?_⟩
  rw [h3]; unfold Opv.sort; omega

/-- The box of a thing, behind a step of the Writer. -/
theorem box_kept {B : Nat} {w w1 : World} {wb : Nat} {v v1 : Value} {l : List UInt8} {C : Array Value} (hW : Wr B w wb v l) (h : Mv (w.alloc (.cells C 29)) w1 wb v v1) : w1.heap[w.heap.size]? = some (.cells C 29 (0, 0)) := by
  rw [h.block w.heap.size (by simp) (by have := hW.lt; omega) (fun e => by have := (hW.own.lt _ e).2; omega)]
  exact heap_alloc_new w _
theorem box_cell {w : World} {g : Nat} {C : List Value} (h : w.heap[g]? = some (.cells C.toArray 29 (0, 0))) (j : Nat) : w.cell? ⟨g, j, none⟩ = C[j]? := by
  rw [cell_of_row w g j C.toArray 29 (0, 0) h]; simp

set_option maxHeartbeats 4000000 in
set_option maxRecDepth 20000 in
theorem write_uint (B wb : Nat) (o : Opv) (v : Value) (l : List UInt8) (w : World) (hk : o.sort = 0 ∨ o.sort = 2) (ho : o.ok) (h : Wr B w wb v l) (hl : l.length ≤ 1000000000) :
    Calls Try.prog 12 #[.pointer (some ⟨wb, 0, none⟩), .agg o.cells.toArray] w fun ev w' => ev = .returned (.string (str o.msg)) ∧ (∃ v', Wr B w' wb v' (l ++ o.msg) ∧ Mv w w' wb v v') := by
  obtain ⟨t, e1, e2, e3, e4⟩ := o.rem
  have hm : o.msg = enc o.v := by unfold Opv.msg; rw [if_pos hk]
  rw [hm]
  have hA : Below w.heap.size w (w.alloc (.cells o.cells.toArray 29)) := (Below.refl _ _).alloc (Nat.le_refl _) _
  have C1 := wUint_any B wb o.v v l _ (h.past hA) ho.v1 (by omega)
  have HB : Hid (∀ w1 v1, Mv (w.alloc (.cells o.cells.toArray 29)) w1 wb v v1 → w1.cell? ⟨w.heap.size, 3, none⟩ = some (.int .u64 (o.v : Int))) := fun w1 v1 hm => by
    rw [box_cell (box_kept h hm)]; rfl
  have k0 : o.cells[0]? = some (.int .i64 o.kind) := rfl
  have k3 : o.cells[3]? = some (.int .u64 (o.v : Int)) := rfl
  have C2 := fun w => refUint_any o.v w ho.v1
  have k5 : (t + 6) % 6 = 0 ∨ (t + 6) % 6 = 2 := by omega
  have hMA : Mv w (w.alloc (.cells o.cells.toArray 29)) wb v v := Mv.past hA _ _
  generalize o.cells = C at *
  generalize str (enc o.v) = S at C2 ⊢
  generalize enc o.v = E at *
  clear h hm hk ho hA
  rcases k5 with k5 | k5
  all_goals
    go_enter Try.func12, Try.ntmps12
    go_wp2_with fail
    refine C1.mono ?_
    rintro ev w1 ⟨rfl, v1, hW1, hm1⟩
    have q3 := HB.out w1 v1 hm1
    go_wp2_with fail
    refine (C2 _).mono ?_
    rintro ev w2 ⟨rfl, hb2⟩
    have hW2 := hW1.past hb2
    go_wp2_with fail
    go_ret
    exact ⟨rfl, v1, hW2, hMA.trans (hm1.trans (Mv.past hb2 _ _))⟩

set_option maxHeartbeats 4000000 in
set_option maxRecDepth 20000 in
theorem write_int (B wb : Nat) (o : Opv) (v : Value) (l : List UInt8) (w : World) (hk : o.sort = 1) (ho : o.ok) (h : Wr B w wb v l) (hl : l.length ≤ 1000000000) :
    Calls Try.prog 12 #[.pointer (some ⟨wb, 0, none⟩), .agg o.cells.toArray] w fun ev w' => ev = .returned (.string (str o.msg)) ∧ (∃ v', Wr B w' wb v' (l ++ o.msg) ∧ Mv w w' wb v v') := by
  obtain ⟨t, e1, e2, e3, e4⟩ := o.rem
  have hm : o.msg = enc (zig o.n) := by unfold Opv.msg; rw [if_neg (by omega), if_pos hk]
  rw [hm]
  have hA : Below w.heap.size w (w.alloc (.cells o.cells.toArray 29)) := (Below.refl _ _).alloc (Nat.le_refl _) _
  have C1 := wInt_any B wb o.n v l _ (h.past hA) ho.n0 ho.n1 (by omega)
  have HB : Hid (∀ w1 v1, Mv (w.alloc (.cells o.cells.toArray 29)) w1 wb v v1 → w1.cell? ⟨w.heap.size, 1, none⟩ = some (.int .i64 o.n)) := fun w1 v1 hm => by
    rw [box_cell (box_kept h hm)]; rfl
  have k0 : o.cells[0]? = some (.int .i64 o.kind) := rfl
  have k3 : o.cells[1]? = some (.int .i64 o.n) := rfl
  have C2 := fun w => refInt_any o.n w ho.n0 ho.n1
  have k5 : (t + 6) % 6 = 1 := by omega
  have hMA : Mv w (w.alloc (.cells o.cells.toArray 29)) wb v v := Mv.past hA _ _
  generalize o.cells = C at *
  generalize str (enc (zig o.n)) = S at C2 ⊢
  generalize enc (zig o.n) = E at *
  clear h hm hk ho hA
  go_enter Try.func12, Try.ntmps12
  go_wp2_with fail
  refine C1.mono ?_
  rintro ev w1 ⟨rfl, v1, hW1, hm1⟩
  have q3 := HB.out w1 v1 hm1
  go_wp2_with fail
  refine (C2 _).mono ?_
  rintro ev w2 ⟨rfl, hb2⟩
  have hW2 := hW1.past hb2
  go_wp2_with fail
  go_ret
  exact ⟨rfl, v1, hW2, hMA.trans (hm1.trans (Mv.past hb2 _ _))⟩

set_option maxHeartbeats 4000000 in
set_option maxRecDepth 20000 in
theorem write_bool (B wb : Nat) (o : Opv) (v : Value) (l : List UInt8) (w : World) (hk : o.sort = 3) (h : Wr B w wb v l) (hl : l.length ≤ 1000000000) :
    Calls Try.prog 12 #[.pointer (some ⟨wb, 0, none⟩), .agg o.cells.toArray] w fun ev w' => ev = .returned (.string (str o.msg)) ∧ (∃ v', Wr B w' wb v' (l ++ o.msg) ∧ Mv w w' wb v v') := by
  obtain ⟨t, e1, e2, e3, e4⟩ := o.rem
  have hm : o.msg = [if o.b then 1 else 0] := by unfold Opv.msg; rw [if_neg (by omega), if_neg (by omega), if_pos hk]
  rw [hm]
  have hA : Below w.heap.size w (w.alloc (.cells o.cells.toArray 29)) := (Below.refl _ _).alloc (Nat.le_refl _) _
  have C1 := wBool_any B wb o.b v l _ (h.past hA) (by omega)
  have HB : Hid (∀ w1 v1, Mv (w.alloc (.cells o.cells.toArray 29)) w1 wb v v1 → w1.cell? ⟨w.heap.size, 4, none⟩ = some (.bool o.b)) := fun w1 v1 hm => by
    rw [box_cell (box_kept h hm)]; rfl
  have k0 : o.cells[0]? = some (.int .i64 o.kind) := rfl
  have k3 : o.cells[4]? = some (.bool o.b) := rfl
  have C2 := fun w => refBool_any o.b w
  have k5 : (t + 6) % 6 = 3 := by omega
  have hMA : Mv w (w.alloc (.cells o.cells.toArray 29)) wb v v := Mv.past hA _ _
  generalize o.cells = C at *
  generalize str ([if o.b then 1 else 0]) = S at C2 ⊢
  generalize ([if o.b then 1 else 0] : List UInt8) = E at *
  clear h hm hk hA
  go_enter Try.func12, Try.ntmps12
  go_wp2_with fail
  refine C1.mono ?_
  rintro ev w1 ⟨rfl, v1, hW1, hm1⟩
  have q3 := HB.out w1 v1 hm1
  go_wp2_with fail
  refine (C2 _).mono ?_
  rintro ev w2 ⟨rfl, hb2⟩
  have hW2 := hW1.past hb2
  go_wp2_with fail
  go_ret
  exact ⟨rfl, v1, hW2, hMA.trans (hm1.trans (Mv.past hb2 _ _))⟩

set_option maxHeartbeats 4000000 in
set_option maxRecDepth 20000 in
theorem write_text (B wb : Nat) (o : Opv) (v : Value) (l : List UInt8) (w : World) (hk : o.sort = 4) (hs : o.s.size ≤ 1000000) (h : Wr B w wb v l) (hl : l.length ≤ 1000000000) :
    Calls Try.prog 12 #[.pointer (some ⟨wb, 0, none⟩), .agg o.cells.toArray] w fun ev w' => ev = .returned (.string (str o.msg)) ∧ (∃ v', Wr B w' wb v' (l ++ o.msg) ∧ Mv w w' wb v v') := by
  obtain ⟨t, e1, e2, e3, e4⟩ := o.rem
  have hm : o.msg = enc o.s.size ++ o.s.data.toList := by unfold Opv.msg; rw [if_neg (by omega), if_neg (by omega), if_neg (by omega), if_pos hk]
  rw [hm]
  have hA : Below w.heap.size w (w.alloc (.cells o.cells.toArray 29)) := (Below.refl _ _).alloc (Nat.le_refl _) _
  have C1 := wText_any B wb o.s v l _ (h.past hA) (by omega) (by omega)
  have HB : Hid (∀ w1 v1, Mv (w.alloc (.cells o.cells.toArray 29)) w1 wb v v1 → w1.cell? ⟨w.heap.size, 5, none⟩ = some (.string o.s)) := fun w1 v1 hm => by
    rw [box_cell (box_kept h hm)]; rfl
  have k0 : o.cells[0]? = some (.int .i64 o.kind) := rfl
  have k3 : o.cells[5]? = some (.string o.s) := rfl
  have C2 := fun w => refText_any o.s w (by omega)
  have k5 : (t + 6) % 6 = 4 := by omega
  have hMA : Mv w (w.alloc (.cells o.cells.toArray 29)) wb v v := Mv.past hA _ _
  generalize o.cells = C at *
  generalize str (enc o.s.size ++ o.s.data.toList) = S at C2 ⊢
  generalize enc o.s.size ++ o.s.data.toList = E at *
  clear h hm hk hA
  go_enter Try.func12, Try.ntmps12
  go_wp2_with fail
  refine C1.mono ?_
  rintro ev w1 ⟨rfl, v1, hW1, hm1⟩
  have q3 := HB.out w1 v1 hm1
  go_wp2_with fail
  refine (C2 _).mono ?_
  rintro ev w2 ⟨rfl, hb2⟩
  have hW2 := hW1.past hb2
  go_wp2_with fail
  go_ret
  exact ⟨rfl, v1, hW2, hMA.trans (hm1.trans (Mv.past hb2 _ _))⟩

set_option maxHeartbeats 4000000 in
set_option maxRecDepth 20000 in
theorem write_hash (B wb : Nat) (o : Opv) (v : Value) (l : List UInt8) (w : World) (hk : o.sort = 5) (ho : o.ok) (h : Wr B w wb v l) (hl : l.length ≤ 1000000000) :
    Calls Try.prog 12 #[.pointer (some ⟨wb, 0, none⟩), .agg o.cells.toArray] w fun ev w' => ev = .returned (.string (str o.msg)) ∧ (∃ v', Wr B w' wb v' (l ++ o.msg) ∧ Mv w w' wb v v') := by
  obtain ⟨t, e1, e2, e3, e4⟩ := o.rem
  have hm : o.msg = o.h := by unfold Opv.msg; rw [if_neg (by omega), if_neg (by omega), if_neg (by omega), if_neg (by omega)]
  rw [hm]
  have hA : Below w.heap.size w (w.alloc (.cells o.cells.toArray 29)) := (Below.refl _ _).alloc (Nat.le_refl _) _
  have C1 := wHash_any B wb o.h v l _ (h.past hA) ho.h32 (by omega)
  have HB : Hid (∀ w1 v1, Mv (w.alloc (.cells o.cells.toArray 29)) w1 wb v v1 → w1.rangeAt w.heap.size 6 (bys o.h)) := fun w1 v1 hm j u hj => by
    rw [box_cell (box_kept h hm)]; unfold Opv.cells; rw [List.getElem?_append_right (by simp)]; simpa using hj
  have HB0 : Hid ((w.alloc (.cells o.cells.toArray 29)).rangeAt w.heap.size 6 (bys o.h)) := HB.out _ v (Mv.past (Below.refl _ _) _ _)
  have hi : (Try.prog.info? 27).map (·.size) = some (bys o.h).length := by rw [bys_len, ho.h32]; kernel_rfl
  have k0 : o.cells[0]? = some (.int .i64 o.kind) := rfl
  have C2 := fun w => refHash_any o.h w ho.h32
  have k5 : (t + 6) % 6 = 5 := by omega
  have hMA : Mv w (w.alloc (.cells o.cells.toArray 29)) wb v v := Mv.past hA _ _
  generalize o.cells = C at *
  generalize str (o.h) = S at C2 ⊢
  generalize o.h = E at *
  generalize hY : bys E = Y at *
  clear h hm hk ho hA
  go_enter Try.func12, Try.ntmps12
  go_wp2_with (refine wpList_load_mid rfl 27 _ rfl w.heap.size 6 rfl Y _ HB0.out Try.underlying27 rfl hi ?_)
  refine C1.mono ?_
  rintro ev w1 ⟨rfl, v1, hW1, hm1⟩
  have q3 := HB.out w1 v1 hm1
  go_wp2_with (refine wpList_load_mid rfl 27 _ rfl w.heap.size 6 rfl Y _ q3 Try.underlying27 rfl hi ?_)
  refine (C2 _).mono ?_
  rintro ev w2 ⟨rfl, hb2⟩
  have hW2 := hW1.past hb2
  go_wp2_with fail
  go_ret
  exact ⟨rfl, v1, hW2, hMA.trans (hm1.trans (Mv.past hb2 _ _))⟩

theorem write_any (B wb : Nat) (o : Opv) (v : Value) (l : List UInt8) (w : World) (ho : o.ok) (hs : o.s.size ≤ 1000000) (h : Wr B w wb v l) (hl : l.length ≤ 1000000000) :
    Calls Try.prog 12 #[.pointer (some ⟨wb, 0, none⟩), .agg o.cells.toArray] w fun ev w' => ev = .returned (.string (str o.msg)) ∧ (∃ v', Wr B w' wb v' (l ++ o.msg) ∧ Mv w w' wb v v') := by
  have hlt := o.sort_lt
  by_cases h0 : o.sort = 0 ∨ o.sort = 2
  · exact write_uint B wb o v l w h0 ho h hl
  by_cases h1 : o.sort = 1
  · exact write_int B wb o v l w h1 ho h hl
  by_cases h3 : o.sort = 3
  · exact write_bool B wb o v l w h3 h hl
  by_cases h4 : o.sort = 4
  · exact write_text B wb o v l w h4 hs h hl
  · exact write_hash B wb o v l w (by omega) ho h hl
end Go.Proofs.Ytkgmjhchefkmaaa
