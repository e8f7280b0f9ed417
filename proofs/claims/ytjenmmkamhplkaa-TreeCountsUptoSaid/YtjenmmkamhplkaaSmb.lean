/-
  The state of the walk over one statement.
-/
import Derived.Test.YtjenmmkamhplkaaWth
import Derived.Test.YtjenmmkamhplkaaSms
namespace Go.Proofs.Ytjenmmkamhplkaa
open Go.RowKit

/-- Where the walk over one statement stands: how much is left, what is left of the statement's copy, the closure's cells. -/
structure Sm (K : Ctx) (w : World) (gb m L : Nat) (cells : List Value) (a : World) : Prop where
  bod : Bod K gb L a
  row : Row a (w.heap.size + 1) 50 cells
  rb : Row a w.heap.size 94 [.pointer (some ⟨gb, 0, none⟩)]
  rd : Row a (w.heap.size + 1 + 1) 3 [.int .i64 (64 - (m : Int))]
  stay : Stay (fun k => k = gb) w a
  lt : gb < w.heap.size
  C : K.C ≤ w.heap.size
theorem Sm.kb {K : Ctx} {w a : World} {gb m L : Nat} {cells : List Value} (h : Sm K w gb m L cells a) : Below K.C w a := h.stay.below h.C (fun k hk => by have := h.bod.hi; omega)
theorem Sm.next {K : Ctx} {w a a' : World} {gb m L : Nat} {cells cells' : List Value} (h : Sm K w gb m L cells a) (r : Row a' (w.heap.size + 1) 50 cells') (s : Stay (fun k => k = w.heap.size + 1) a a') : Sm K w gb m L cells' a' := by
  have hlt := h.lt
  have hC := h.C
  refine ⟨⟨h.bod.env.below (s.below h.bod.env.C (fun k hk => by omega)), s.row h.bod.row (by omega), h.bod.hi, h.bod.most⟩, r, s.row h.rb (by omega), s.row h.rd (by omega), h.stay.step s (fun i hi hY => by omega), hlt, hC⟩
theorem Sm.nextB {K : Ctx} {w a a' : World} {gb m L L' : Nat} {cells cells' : List Value} (h : Sm K w gb m L cells a) (r : Row a' (w.heap.size + 1) 50 cells') (s : Stay (fun k => k = w.heap.size + 1 ∨ k = gb) a a') (rL : Row a' gb 73 [.int .i64 (L' : Int)]) (hL : L' ≤ 2000) : Sm K w gb m L' cells' a' := by
  have hlt := h.lt
  have hC := h.C
  have hhi := h.bod.hi
  refine ⟨⟨h.bod.env.below (s.below h.bod.env.C (fun k hk => by omega)), rL, hhi, hL⟩, r, s.row h.rb (by omega), s.row h.rd (by omega), h.stay.step s (fun i hi hY => by omega), hlt, hC⟩
theorem Sm.first {K : Ctx} {w : World} {gb m L : Nat} (cells : List Value) (h : Bod K gb L w) :
    Sm K w gb m L cells (((w.alloc (.cells #[.pointer (some ⟨gb, 0, none⟩)] 94)).alloc (.cells cells.toArray 50)).alloc (.cells #[.int .i64 (64 - (m : Int))] 3)) := by
  have hA := alloc_two w (.cells #[.pointer (some ⟨gb, 0, none⟩)] 94) (.cells cells.toArray 50)
  have hA3 := alloc_one ((w.alloc (.cells #[.pointer (some ⟨gb, 0, none⟩)] 94)).alloc (.cells cells.toArray 50)) (.cells #[.int .i64 (64 - (m : Int))] 3)
  have hb := hA.trans (below_le hA3 hA.size)
  have r1 := (Row.new (w.alloc (.cells #[.pointer (some ⟨gb, 0, none⟩)] 94)) 50 cells).alloc (.cells #[.int .i64 (64 - (m : Int))] 3)
  rw [size_alloc] at r1
  have r2 := Row.new ((w.alloc (.cells #[.pointer (some ⟨gb, 0, none⟩)] 94)).alloc (.cells cells.toArray 50)) 3 [.int .i64 (64 - (m : Int))]
  rw [size_alloc, size_alloc] at r2
  exact ⟨h.below hb, r1, ((Row.new w 94 [.pointer (some ⟨gb, 0, none⟩)]).alloc _).alloc _, r2, Stay.of_below hb, h.row.lt, h.env.C⟩
/-- The last question: is what is left zero? -/
theorem Sm.last {n : Nat} {K : Ctx} {w a : World} {gb m L : Nat} {cells : List Value} (h : Sm K w gb m L cells a) {v : St} (hv : StAt (n + 1) K a cells v) (k p : Int) (B : Bool) (hB : B = true ↔ v = St.bare k p) :
    Calls Try.prog 45 #[.pointer (some ⟨w.heap.size + 1, 0, none⟩), .pointer (some ⟨a.heap.size, 0, none⟩)] (a.alloc (.cells #[.int .i64 k, .int .i64 p, .bool false, .string ⟨#[]⟩, .int .i64 0, .string ⟨#[]⟩, .slice none 0 0, .slice none 0 0, .bool false, .string ⟨#[]⟩, .slice none 0 0, .int .i64 0, .int .i64 0, .int .i64 0, .string ⟨#[]⟩, .slice none 0 0, .int .i64 0, .int .i64 0, .string ⟨#[]⟩, .slice none 0 0, .int .i64 0, .string ⟨#[]⟩, .slice none 0 0, .string ⟨#[]⟩, .slice none 0 0, .slice none 0 0, .int .i64 0, .int .i64 0, .string ⟨#[]⟩, .slice none 0 0, .slice none 0 0, .slice none 0 0] 50)) fun ev w' => ev = .returned (.bool B) ∧ Stay (fun k => k = gb) w w' ∧ Row w' gb 73 [.int .i64 (L : Int)] := by
  have hA := alloc_one a (.cells #[.int .i64 k, .int .i64 p, .bool false, .string ⟨#[]⟩, .int .i64 0, .string ⟨#[]⟩, .slice none 0 0, .slice none 0 0, .bool false, .string ⟨#[]⟩, .slice none 0 0, .int .i64 0, .int .i64 0, .int .i64 0, .string ⟨#[]⟩, .slice none 0 0, .int .i64 0, .int .i64 0, .string ⟨#[]⟩, .slice none 0 0, .int .i64 0, .string ⟨#[]⟩, .slice none 0 0, .string ⟨#[]⟩, .slice none 0 0, .slice none 0 0, .int .i64 0, .int .i64 0, .string ⟨#[]⟩, .slice none 0 0, .slice none 0 0, .slice none 0 0] 50)
  have hC := h.bod.env.C
  refine (sameStmt_at (n + 1) ((h.row.alloc _).cells 32) ((Row.new a 50 (stCells k p)).cells 32) (hv.below (below_le hA hC)) (st_zero n K _ k p) B hB).mono ?_
  rintro _ _ ⟨rfl, q, rfl⟩
  exact ⟨rfl, ((h.stay.trans (Stay.of_below hA)).drewN q), ((h.bod.row.alloc _).drewN)⟩
end Go.Proofs.Ytjenmmkamhplkaa
