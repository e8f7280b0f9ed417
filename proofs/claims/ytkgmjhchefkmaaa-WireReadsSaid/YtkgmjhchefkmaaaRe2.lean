/-
  The document's own answer to what is written, gone on with: Int, Bool, Text, Hash.
-/
import Derived.Test.YtkgmjhchefkmaaaRef
namespace Go.Proofs.Ytkgmjhchefkmaaa
open Go.RowKit

set_option maxHeartbeats 1000000 in
theorem refInt_any (x : Int) (w : World) (h1 : -9223372036854775808 ≤ x) (h2 : x ≤ 9223372036854775807) :
    Calls Try.prog 32 #[.int .i64 x] w fun ev w' => ev = .returned (.string (str (enc (zig x)))) ∧ Below w.heap.size w w' := by
  have C := refUint_any (zig x) w (zig_lt h1 h2)
  generalize hS : str (enc (zig x)) = S at C ⊢
  clear hS
  by_cases hx : x < 0
  · have ez : -(x + 1) * 2 + 1 = ((zig x : Nat) : Int) := by unfold zig; rw [if_pos hx]; omega
    rw [← ez] at C
    clear ez
    go_enter Try.func32, Try.ntmps32
    go_wp2_with fail
    refine C.mono ?_
    rintro ev w1 ⟨rfl, hb⟩
    go_wp2_with fail
    go_ret
    exact ⟨rfl, hb⟩
  · have ez : x * 2 = ((zig x : Nat) : Int) := by unfold zig; rw [if_neg hx]; omega
    rw [← ez] at C
    clear ez
    go_enter Try.func32, Try.ntmps32
    go_wp2_with fail
    refine C.mono ?_
    rintro ev w1 ⟨rfl, hb⟩
    go_wp2_with fail
    go_ret
    exact ⟨rfl, hb⟩

theorem refBool_any (x : Bool) (w : World) :
    Calls Try.prog 33 #[.bool x] w fun ev w' => ev = .returned (.string (str [if x then 1 else 0])) ∧ Below w.heap.size w w' := by
  cases x
  · go_enter Try.func33, Try.ntmps33
    go_wp2_with fail
    go_ret
    exact ⟨rfl, Below.refl _ _⟩
  · go_enter Try.func33, Try.ntmps33
    go_wp2_with fail
    go_ret
    exact ⟨rfl, Below.refl _ _⟩

set_option maxHeartbeats 1000000 in
theorem refText_any (s : ByteArray) (w : World) (hs : s.size ≤ 1000000000) :
    Calls Try.prog 34 #[.string s] w fun ev w' => ev = .returned (.string (str (enc s.size ++ s.data.toList))) ∧ Below w.heap.size w w' := by
  have C := refUint_any s.size w (by omega)
  have hz : (str (enc s.size)).size ≤ 10 := by rw [str_size]; exact enc_len_10 (by omega)
  have HS : Hid (str (enc s.size ++ s.data.toList) = str (enc s.size) ++ s) := by show _ = _; rw [← str_app, str_of]
  generalize str (enc s.size) = S at C hz HS
  go_enter Try.func34, Try.ntmps34
  go_wp2_with fail
  refine C.mono ?_
  rintro ev w1 ⟨rfl, hb⟩
  have hz2 : ¬ 9223372036854775807 < S.size + s.size := by omega
  go_wp2_with fail
  go_ret
  exact ⟨by rw [HS.out]; rfl, hb⟩

theorem bys_snoc (l : List UInt8) (k : Nat) (h : k < l.length) : bys (l.take (k + 1)) = bys (l.take k) ++ [.int .u8 ((l.getD k 0).toNat : Int)] := by
  have hq : l.getD k 0 = l[k] := by simp [List.getD, List.getElem?_eq_getElem h]
  rw [hq, List.take_succ_eq_append_getElem h, bys_app]
  rfl

/-- 'string(b)' of a slice that holds the bytes l. -/
theorem conv_sl (w : World) (v : Value) (l : List UInt8) (h : Sl w v l) : (convert 32 9 v).run Try.prog w = .ok (.string (str l)) w := by
  rcases h.shape with ⟨cap, rfl, rfl⟩ | ⟨b, o, cap, rfl, hc⟩
  · exact run_convert_bytes_nil w 32 5 Try.underlying32 Try.underlying5 0 cap 9 Try.underlying9
  · refine run_convert_bytes_back w 32 9 5 ⟨b, o, none⟩ cap l Try.underlying32 Try.underlying5 Try.underlying9 ?_
    intro j hj
    rw [addr_add, hc j hj]
    simp [List.getD, List.getElem?_eq_getElem hj]

/-- What the loop of Hash has gathered. -/
structure HRel (w : World) (x : List UInt8) (k : Nat) (v : Value) (wr : World) : Prop where
  own : wr.ownsRow (w.heap.size + 1) 5 1 v k (bys (x.take k))
  below : Below (w.heap.size + 1) (w.alloc (.cells (bys x).toArray 27)) wr
theorem HRel.step {w wr w1 : World} {x : List UInt8} {k : Nat} {v v' : Value} {o : Obj} (h : HRel w x k v wr) (hk : k < x.length)
    (hown : w1.ownsRow (w.heap.size + 1) 5 1 v' (k + 1) (bys (x.take k) ++ [.int .u8 ((x.getD k 0).toNat : Int)])) (hgrow : (wr.alloc o).grownBy w1 v.ownBlock) : HRel w x (k + 1) v' w1 := by
  have hs := h.below.size
  simp at hs
  exact ⟨by rw [bys_snoc x k hk]; exact hown, (h.below.alloc (by omega) o).grown hgrow (by simp; omega) (fun k hk => (h.own.lt k hk).1)⟩
theorem HRel.cell {w wr : World} {x : List UInt8} {k : Nat} {v : Value} (h : HRel w x k v wr) (j : Nat) (hj : j < x.length) : wr.cell? ⟨w.heap.size, j, none⟩ = some (.int .u8 ((x.getD j 0).toNat : Int)) := by
  rw [h.below.cell (p := ⟨w.heap.size, j, none⟩) (Nat.lt_succ_self _), cell_of_row _ w.heap.size j (bys x).toArray 27 (0, 0) (heap_alloc_new w _)]
  simpa using bys_get x j hj

set_option maxHeartbeats 2000000 in
set_option maxRecDepth 20000 in
theorem refHash_any (x : List UInt8) (w : World) (hx : x.length = 32) :
    Calls Try.prog 35 #[.agg (bys x).toArray] w fun ev w' => ev = .returned (.string (str x)) ∧ Below w.heap.size w w' := by
  obtain ⟨i0, hi, hz0, hz1, hz2⟩ := info_parts Try.info5
  go_enter Try.func35, Try.ntmps35
  go_wp2_with fail
  go_loopw [3, 4] (fun v i wr => ∃ k : Nat, k ≤ 32 ∧ i = .int .i64 k ∧ HRel w x k v wr) (fun _ i _ => 32 - (intOf i).toNat)
  case atStart => exact ⟨0, by omega, rfl, World.ownsRow_nil _ _ _ _, Below.refl _ _⟩
  case round =>
    obtain ⟨k, hk, rfl, hR⟩ := hrel
    have hown := hR.own
    have hsz := hR.below.size
    simp at hsz
    have A : Aside (HRel w x k u3 wr) := hR
    by_cases hlt : k < 32
    · have q1 := hR.cell k (by omega)
      clear hR
      generalize hvk : ((x.getD k 0).toNat : Int) = y at q1
      have HV : Hid (((x.getD k 0).toNat : Int) = y) := hvk
      clear hvk
      go_wp2_with (first
        | (at_builtin; refine wpList_append_own _ rfl _ _ 32 rfl (w.heap.size + 1) 5 i0 (.int .u8 0) 1 1 Try.underlying32 hi hz0 hz1 hz2 rfl (by decide) _ _ _ rfl (hown.alloc _) ⟨wr.heap.size, 0, none⟩ 1 1 [.int .u8 y] rfl rfl (cell_one_new _ _ _) (by intro u hu; simp at hu; subst hu; rfl) (by unfold maxLen; omega) (by omega) (by simp; omega) ?_))
      intro v' w1' hown' hgrow _
      have R := A.out.step (by omega) (by rw [HV.out]; exact hown') hgrow
      obtain ⟨ao', cap', rfl⟩ := own_shape hown'
      clear hown' hgrow hown A
      go_wp2_with fail
      go_roundw
      case rel => exact ⟨k + 1, by omega, by go_num, R⟩
      case measure => simp [intOf]; omega
    · obtain rfl : k = 32 := by omega
      have hxx : x.take 32 = x := List.take_of_length_le (by omega)
      have kc := conv_sl wr u3 x (Sl.ofOwn (B := w.heap.size + 1) (by rw [hx]; simpa [hxx] using hown))
      clear hR hown hxx
      go_wp2_with fail
      go_ret
      exact ⟨rfl, (((Below.refl _ w).alloc (Nat.le_refl _) _)).trans (A.out.below.mono (by omega))⟩
end Go.Proofs.Ytkgmjhchefkmaaa
