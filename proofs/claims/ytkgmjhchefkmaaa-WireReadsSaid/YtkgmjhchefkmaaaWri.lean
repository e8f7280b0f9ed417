/-
  The Writer's Int, Bool, Text, Hash, Bytes.
-/
import Derived.Test.YtkgmjhchefkmaaaPut
namespace Go.Proofs.Ytkgmjhchefkmaaa
open Go.RowKit

theorem not64 {x : Int} (h1 : -9223372036854775808 ≤ x) (h2 : x ≤ 9223372036854775807) : bits .xor .i64 (-1) x = -x - 1 := by
  show IntKind.i64.wrap ((BitVec.ofInt 64 (-1) ^^^ BitVec.ofInt 64 x).toNat : Int) = _
  have h : BitVec.ofInt 64 (-1) = BitVec.allOnes 64 := by decide
  rw [h, BitVec.allOnes_xor, BitVec.toNat_not, BitVec.toNat_ofInt, IntKind.wrap_i64]
  omega

set_option maxHeartbeats 1000000 in
theorem wInt_any (B wb : Nat) (x : Int) (v : Value) (l : List UInt8) (w : World) (h : Wr B w wb v l) (h1 : -9223372036854775808 ≤ x) (h2 : x ≤ 9223372036854775807) (hl : l.length ≤ 1000000000000) :
    Calls Try.prog 26 #[.pointer (some ⟨wb, 0, none⟩), .int .i64 x] w fun ev w' => ev = .returned (.tuple #[]) ∧ ∃ v', Wr B w' wb v' (l ++ enc (zig x)) ∧ Mv w w' wb v v' := by
  have C := wUint_any B wb (zig x) v l w h (zig_lt h1 h2) hl
  clear h
  by_cases hx : x < 0
  · have e := not64 h1 h2
    have ez : -2 * x - 1 = ((zig x : Nat) : Int) := by unfold zig; rw [if_pos hx]; omega
    rw [← ez] at C
    clear ez
    go_enter Try.func26, Try.ntmps26
    go_wp2_with fail
    have e3 : IntKind.u64.wrap (IntKind.u64.wrap (2 * IntKind.u64.wrap (-x - 1)) + 1) = -2 * x - 1 := by simp only [IntKind.wrap_u64]; omega
    rw [e3]
    refine C.mono ?_
    rintro ev w1 ⟨rfl, hv, hb⟩
    go_wp2_with fail
    exact bodyPost_ret (v := .tuple #[]) (by simp [results, Try.results26, go_sem]) rfl ⟨rfl, hv, hb⟩
  · have ez : 2 * x = ((zig x : Nat) : Int) := by unfold zig; rw [if_neg hx]; omega
    rw [← ez] at C
    clear ez
    go_enter Try.func26, Try.ntmps26
    go_wp2_with fail
    refine C.mono ?_
    rintro ev w1 ⟨rfl, hv, hb⟩
    go_wp2_with fail
    go_end0
    exact ⟨rfl, hv, hb⟩

set_option maxHeartbeats 1000000 in
theorem wBool_any (B wb : Nat) (x : Bool) (v : Value) (l : List UInt8) (w : World) (h : Wr B w wb v l) (hl : l.length ≤ 1000000000000) :
    Calls Try.prog 27 #[.pointer (some ⟨wb, 0, none⟩), .bool x] w fun ev w' => ev = .returned (.tuple #[]) ∧ ∃ v', Wr B w' wb v' (l ++ [if x then 1 else 0]) ∧ Mv w w' wb v v' := by
  cases x
  · have C := put_one B wb v l 0 0 rfl w h (by omega)
    clear h
    go_enter Try.func27, Try.ntmps27
    go_wp2_with fail
    refine C.mono ?_
    rintro ev w1 ⟨rfl, hv, hb⟩
    go_wp2_with fail
    go_end0
    exact ⟨rfl, hv, hb⟩
  · have C := put_one B wb v l 1 1 rfl w h (by omega)
    clear h
    go_enter Try.func27, Try.ntmps27
    go_wp2_with fail
    refine C.mono ?_
    rintro ev w1 ⟨rfl, hv, hb⟩
    go_wp2_with fail
    exact bodyPost_ret (v := .tuple #[]) (by simp [results, Try.results27, go_sem]) rfl ⟨rfl, hv, hb⟩

theorem bytesRow_get (s : ByteArray) (c j : Nat) (h : j < s.data.toList.length) : (bytesRow s c)[j]? = (bys s.data.toList)[j]? := by
  unfold bytesRow bys
  rw [Array.getElem?_append_left (by simpa using h)]
  simp
theorem cell_string (w : World) (s : ByteArray) (c : Nat) (m : Nat × Nat) : ∀ j u, (bys s.data.toList)[j]? = some u → (w.drew.alloc (.cells (bytesRow s c) 5 m)).cell? ((⟨w.heap.size, 0, none⟩ : Addr).add j) = some u := by
  intro j u hj
  have hl : j < s.data.toList.length := by
    rcases Nat.lt_or_ge j s.data.toList.length with h | h
    · exact h
    · rw [List.getElem?_eq_none (by rw [bys_len]; exact h)] at hj; cases hj
  rw [addr_add, cell_of_row _ w.heap.size (0 + j) (bytesRow s c) 5 m (heap_alloc_new w.drew _), Nat.zero_add, bytesRow_get s c j hl, hj]

set_option maxHeartbeats 1000000 in
theorem wText_any (B wb : Nat) (s : ByteArray) (v : Value) (l : List UInt8) (w : World) (h : Wr B w wb v l) (hs : s.size ≤ 1000000000) (hl : l.length ≤ 900000000000) :
    Calls Try.prog 28 #[.pointer (some ⟨wb, 0, none⟩), .string s] w fun ev w' => ev = .returned (.tuple #[]) ∧ ∃ v', Wr B w' wb v' (l ++ (enc s.size ++ s.data.toList)) ∧ Mv w w' wb v v' := by
  have C := wUint_any B wb s.size v l w h (by omega) (by omega)
  have he := enc_len_10 (v := s.size) (by omega)
  have HD : Hid (∀ (w1 : World) (v1 : Value) (c : Nat), Wr B w1 wb v1 (l ++ enc s.size) → Calls Try.prog 49 #[.pointer (some ⟨wb, 0, none⟩), .slice (some ⟨w1.heap.size, 0, none⟩) s.size c] (w1.drew.alloc (.cells (bytesRow s c) 5 ((bytesRow s c).size, (bytesRow s c).size + 1))) fun ev w' => ev = .returned (.tuple #[]) ∧ ∃ v', Wr B w' wb v' ((l ++ enc s.size) ++ s.data.toList) ∧ Mv w1 w' wb v1 v') := by
    intro w1 v1 c hW
    have hA : Below w1.heap.size w1 (w1.drew.alloc (.cells (bytesRow s c) 5 ((bytesRow s c).size, (bytesRow s c).size + 1))) := ((Below.refl w1.heap.size w1).drew).alloc (Nat.le_refl _) _
    refine (put_any B wb s.size c v1 (l ++ enc s.size) s.data.toList ⟨w1.heap.size, 0, none⟩ _ (hW.past hA) (by simp) (cell_string w1 s c _) (by simp; omega)).mono ?_
    rintro ev w' ⟨rfl, v', hv, hb⟩
    exact ⟨rfl, v', hv, (Mv.past hA _ _).trans hb⟩
  have kc := fun (w : World) (s : ByteArray) => run_bytes_of_string (P := Try.prog) w 9 32 5 s Try.underlying9 Try.underlying32 Try.underlying5
  clear h
  go_enter Try.func28, Try.ntmps28
  go_wp2_with fail
  refine C.mono ?_
  rintro ev w1 ⟨rfl, v1, hW1, hb1⟩
  have D := fun c => HD.out w1 v1 c hW1
  clear HD C hW1
  go_wp2_with fail
  refine (D _).mono ?_
  rintro ev w2 ⟨rfl, v2, hW2, hb2⟩
  go_wp2_with fail
  go_end0
  exact ⟨rfl, v2, by simpa using hW2, hb1.trans hb2⟩

/-- A sum as a value. -/
def hash (h : List UInt8) : Value := .agg (bys h).toArray

set_option maxHeartbeats 1000000 in
theorem wHash_any (B wb : Nat) (x : List UInt8) (v : Value) (l : List UInt8) (w : World) (h : Wr B w wb v l) (hx : x.length = 32) (hl : l.length ≤ 1000000000000) :
    Calls Try.prog 29 #[.pointer (some ⟨wb, 0, none⟩), .agg (bys x).toArray] w fun ev w' => ev = .returned (.tuple #[]) ∧ ∃ v', Wr B w' wb v' (l ++ x) ∧ Mv w w' wb v v' := by
  have hA : Below w.heap.size w (w.alloc (.cells (bys x).toArray 27)) := (Below.refl _ _).alloc (Nat.le_refl _) _
  have C := put_any B wb 32 32 v l x ⟨w.heap.size, 0, none⟩ _ (h.past hA) hx (by
    intro j u hj
    rw [addr_add, cell_of_row _ w.heap.size (0 + j) (bys x).toArray 27 (0, 0) (heap_alloc_new w _), Nat.zero_add]
    simpa using hj) (by omega)
  clear h
  go_enter Try.func29, Try.ntmps29
  go_wp2_with fail
  refine C.mono ?_
  rintro ev w1 ⟨rfl, v', hv, hb⟩
  go_wp2_with fail
  go_end0
  exact ⟨rfl, v', hv, (Mv.past hA _ _).trans hb⟩

/-- bytes.Clone: a slice of its own, with the same bytes. -/
theorem Try.eqNil32 (w : World) (a : Option Addr) (n c : Nat) : (binOp .eql 32 (.slice a n c) (.slice none 0 0)).run Try.prog w = .ok (.bool a.isNone) w := Lib.run_eql_slice_nil w 32 5 a n c 0 0 Try.underlying32
theorem sl_nil_clone (w : World) : Calls Try.prog 36 #[.slice none 0 0] w fun ev w' => ev = .returned (.slice none 0 0) ∧ w' = w := by
  have kq := Try.eqNil32
  go_enter Try.func36, Try.ntmps36
  go_wp2_with fail
  go_ret
  exact ⟨rfl, rfl⟩

set_option maxHeartbeats 1000000 in
theorem sl_clone (w : World) (b o cap : Nat) (l : List UInt8) (hc : ∀ i, i < l.length → w.cell? ⟨b, o + i, none⟩ = some (.int .u8 ((l.getD i 0).toNat : Int))) (hl : l.length ≤ 1099511627776) :
    Calls Try.prog 36 #[.slice (some ⟨b, o, none⟩) l.length cap] w fun ev w' => ∃ v, ev = .returned v ∧ w'.ownsRow w.heap.size 5 1 v l.length (bys l) ∧ Below w.heap.size w w' := by
  obtain ⟨i0, hi, hz0, hz1, hz2⟩ := info_parts Try.info5
  have hA : Below w.heap.size w (w.alloc (.cells #[] 5)) := (Below.refl _ _).alloc (Nat.le_refl _) _
  have hm : (w.alloc (.cells #[] 5)).ownsRow w.heap.size 5 1 (.slice (some ⟨w.heap.size, 0, none⟩) 0 0) 0 [] := World.ownsRow_made w #[] 0 (Nat.le_refl _) (by decide) rfl
  have HN : Hid (∀ j u, (bys l)[j]? = some u → (w.alloc (.cells #[] 5)).cell? ((⟨b, o, none⟩ : Addr).add j) = some u) := by
    intro j u hj
    have hlt : j < l.length := by
      rcases Nat.lt_or_ge j l.length with h | h
      · exact h
      · rw [List.getElem?_eq_none (by rw [bys_len]; exact h)] at hj; cases hj
    rw [addr_add, hA.cell (p := ⟨b, o + j, none⟩) (World.block_lt_of_cell? w _ (hc j hlt)), hc j hlt]
    rw [bys_get l j hlt] at hj
    exact hj
  clear hc
  have kq := Try.eqNil32
  go_enter Try.func36, Try.ntmps36
  go_wp2_with (at_builtin; refine wpList_append_own_at _ rfl _ _ 32 rfl w.heap.size 5 i0 (.int .u8 0) 1 1 Try.underlying32 hi hz0 hz1 hz2 rfl (by decide) _ _ _ rfl hm ⟨b, o, none⟩ l.length cap (bys l) rfl (by simp [bys_len]) HN.out (bys_one l) (by unfold maxLen; omega) (by omega) (by simp) ?_)
  intro v' w1 hown' hgrow _ _
  obtain ⟨ao', cap', rfl⟩ := own_shape hown'
  have R : Below w.heap.size w w1 := hA.grown hgrow (by simp) (fun k e => by simp [Value.ownBlock] at e; omega)
  clear hgrow hm hA
  go_wp2
  go_ret
  exact ⟨_, rfl, by simpa using hown', R⟩

theorem clone_any (w : World) (v : Value) (l : List UInt8) (h : Sl w v l) (hn : ∀ cap, v = .slice none 0 cap → cap = 0) (hl : l.length ≤ 1099511627776) :
    Calls Try.prog 36 #[v] w fun ev w' => ∃ v', ev = .returned v' ∧ w'.ownsRow w.heap.size 5 1 v' l.length (bys l) ∧ Below w.heap.size w w' := by
  rcases h.shape with ⟨cap, rfl, rfl⟩ | ⟨b, o, cap, rfl, hc⟩
  · obtain rfl := hn cap rfl
    refine (sl_nil_clone w).mono ?_
    rintro ev w' ⟨rfl, rfl⟩
    exact ⟨_, rfl, World.ownsRow_nil _ _ _ _, Below.refl _ _⟩
  · exact sl_clone w b o cap l hc hl

set_option maxHeartbeats 1000000 in
theorem wBytes_any (B wb : Nat) (v : Value) (l : List UInt8) (w : World) (h : Wr B w wb v l) (hl : l.length ≤ 1099511627776) :
    Calls Try.prog 13 #[.pointer (some ⟨wb, 0, none⟩)] w fun ev w' => ∃ v', ev = .returned v' ∧ w'.ownsRow w.heap.size 5 1 v' l.length (bys l) ∧ Below w.heap.size w w' := by
  have C := clone_any w v l (Sl.ofOwn h.own) (by
    intro cap e
    rcases h.own.2 with ⟨h0, _⟩ | ⟨g, c, cur, h0, _⟩
    · rw [h0] at e; simp at e; exact e.symm
    · rw [h0] at e; simp at e) hl
  have hc := h.cell
  obtain ⟨ao, cap, rfl⟩ := own_shape h.own
  clear h
  go_enter Try.func13, Try.ntmps13
  go_wp2_with fail
  refine C.mono ?_
  rintro ev w1 ⟨v', rfl, hown, hb⟩
  obtain ⟨ao', cap', rfl⟩ := own_shape hown
  go_wp2_with fail
  go_ret
  exact ⟨_, rfl, hown, hb⟩
end Go.Proofs.Ytkgmjhchefkmaaa
