/-
  Slices as texts; sums held against each other.
-/
import Derived.Test.YtfkibbpekngciaaQPrEnd
import Derived.Deep.AppendLies
import Derived.OwnWalk
import Derived.Deep.RegionLaw
import Derived.Stop.BytesEq
namespace Go.Proofs.Ytfkibbpekngciaa
open Go.RowKit

def str (l : List UInt8) : ByteArray := ⟨l.toArray⟩
theorem str_size (l : List UInt8) : (str l).size = l.length := by simp [str, ByteArray.size]
theorem conv_sl (w : World) (v : Value) (l : List UInt8) (h : Sl w v l) : (convert 39 9 v).run Try.prog w = .ok (.string (str l)) w := by
  rcases h.shape with ⟨_ | ad, rfl, rfl⟩ | ⟨b, o, cap, rfl, _, hc⟩
  · exact run_convert_bytes_nil w 39 5 Try.underlying39 Try.underlying5 0 0 9 Try.underlying9
  · exact run_convert_bytes_back w 39 9 5 ad 0 [] Try.underlying39 Try.underlying5 Try.underlying9 (fun j hj => by cases hj)
  · refine run_convert_bytes_back w 39 9 5 ⟨b, o, none⟩ cap l Try.underlying39 Try.underlying5 Try.underlying9 ?_
    intro j hj
    rw [addr_add, hc j hj]
    simp [List.getD, List.getElem?_eq_getElem hj]
theorem Sl.ofOwn' {w : World} {B : Nat} {v : Value} {l : List UInt8} (h : w.ownsRow B 5 1 v l.length (bys l)) : Sl w v l := by
  refine ⟨?_⟩
  rcases h.2 with ⟨rfl, h0⟩ | ⟨g, cap, cur, rfl, hrest⟩
  · exact .inl ⟨none, rfl, List.eq_nil_of_length_eq_zero h0⟩
  · refine .inr ⟨g, 0, cap, rfl, hrest.2.2.1, fun i hi => ?_⟩
    rw [Nat.zero_add, h.cellAt i (by omega), bys_get l i hi]
theorem run_index25 (cs : Array Value) (v : Value) (i : Nat) (hi : i < 32) (hv : cs[i]? = some v) (w : World) : (Instr.index 26 (.agg cs) (.int .i64 (i : Int))).run Try.prog w = .ok v w := by
  obtain ⟨i0, h41, hz0, hz1, hz2⟩ := info_parts Try.info5
  have hn : (0 : Int) ≤ i ∧ (i : Int) < 32 := by omega
  simp [Instr.index, run_underlying Try.underlying26, asIntOf, go_sem, hi]
  rw [hv]; rfl
theorem size5 (w : World) : (sizeOf 5).run Try.prog w = .ok 1 w := by
  obtain ⟨i0, hi, hz0, hz1, hz2⟩ := info_parts Try.info5
  simp [sizeOf, typeInfo, hi, hz1]
theorem eql25 (w : World) (a b : List UInt8) (ha : a.length = 32) (hb : b.length = 32) : (binOp .eql 26 (.agg (bys a).toArray) (.agg (bys b).toArray)).run Try.prog w = .ok (.bool (a == b)) w :=
  run_eql_bytes (P := Try.prog) w 26 5 32 Try.underlying26 Try.underlying5 size5 a b ha hb
theorem equ25 (w : World) (a b : List UInt8) (ha : a.length = 32) (hb : b.length = 32) : (Op.equalIn 10000 26 (.agg (bys a).toArray) (.agg (bys b).toArray)).run Try.prog w = .ok (a == b) w :=
  run_equalIn_bytes (P := Try.prog) w 9998 26 5 32 Try.underlying26 Try.underlying5 size5 a b ha hb
theorem neq25 (w : World) (a b : List UInt8) (ha : a.length = 32) (hb : b.length = 32) : (binOp .neq 26 (.agg (bys a).toArray) (.agg (bys b).toArray)).run Try.prog w = .ok (.bool (!(a == b))) w := by
  rw [run_neq_struct, equ25 w a b ha hb]; rfl

end Go.Proofs.Ytfkibbpekngciaa
