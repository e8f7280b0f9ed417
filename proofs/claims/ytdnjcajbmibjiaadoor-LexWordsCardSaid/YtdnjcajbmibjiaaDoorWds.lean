/-
  LexWords.
-/
import Derived.Test.YtdnjcajbmibjiaaDoorBls
namespace Go.Proofs.YtdnjcajbmibjiaaDoor
open Go.RowKit

def signsL : List (List UInt8) := [[40], [41], [123], [125], [60], [62], [44], [59], [58], [58, 58], [46], [42], [38], [43], [45], [45, 62], [61], [61, 61], [33]]
theorem signs_row (w : World) : Row (w.alloc (.cells #[.string ⟨#[40]⟩, .string ⟨#[41]⟩, .string ⟨#[123]⟩, .string ⟨#[125]⟩, .string ⟨#[60]⟩, .string ⟨#[62]⟩, .string ⟨#[44]⟩, .string ⟨#[59]⟩, .string ⟨#[58]⟩, .string ⟨#[58, 58]⟩, .string ⟨#[46]⟩, .string ⟨#[42]⟩, .string ⟨#[38]⟩, .string ⟨#[43]⟩, .string ⟨#[45]⟩, .string ⟨#[45, 62]⟩, .string ⟨#[61]⟩, .string ⟨#[61, 61]⟩, .string ⟨#[33]⟩] 9)) w.heap.size 9 (signsL.map fun x => .string (str x)) := Row.new w 9 _
theorem signs_at (k : Nat) (h : k < 19) : (signsL.map fun x => Value.string (str x))[k]? = some (.string (str (signsL.getD k []))) := by
  have : k < signsL.length := h
  simp [List.getD, List.getElem?_eq_getElem this]
/-- The four tokens that are asked for. -/
def wantT (x s : List UInt8) : List Tok := [⟨2, x, 0⟩, ⟨5, s, x.length⟩, ⟨1, x ++ [95], x.length + s.length⟩, ⟨3, x, 2 * x.length + s.length + 2⟩]
def wantS (x s : List UInt8) : List UInt8 := x ++ s ++ x ++ [95, 32, 39] ++ x

set_option maxRecDepth 100000 in
theorem words_lex (i j : Nat) (hi : i < 17) (hj : j < 19) : lexF (wantS (wordsL.getD i []) (signsL.getD j [])) = (wantT (wordsL.getD i []) (signsL.getD j []) ++ [endTok (wantS (wordsL.getD i []) (signsL.getD j [])).length], none) := by
  have h1 : i = 0 ∨ i = 1 ∨ i = 2 ∨ i = 3 ∨ i = 4 ∨ i = 5 ∨ i = 6 ∨ i = 7 ∨ i = 8 ∨ i = 9 ∨ i = 10 ∨ i = 11 ∨ i = 12 ∨ i = 13 ∨ i = 14 ∨ i = 15 ∨ i = 16 := by omega
  have h2 : j = 0 ∨ j = 1 ∨ j = 2 ∨ j = 3 ∨ j = 4 ∨ j = 5 ∨ j = 6 ∨ j = 7 ∨ j = 8 ∨ j = 9 ∨ j = 10 ∨ j = 11 ∨ j = 12 ∨ j = 13 ∨ j = 14 ∨ j = 15 ∨ j = 16 ∨ j = 17 ∨ j = 18 := by omega
  clear hi hj
  rcases h1 with rfl | rfl | rfl | rfl | rfl | rfl | rfl | rfl | rfl | rfl | rfl | rfl | rfl | rfl | rfl | rfl | rfl <;>
    rcases h2 with rfl | rfl | rfl | rfl | rfl | rfl | rfl | rfl | rfl | rfl | rfl | rfl | rfl | rfl | rfl | rfl | rfl | rfl | rfl <;> rfl
theorem words_names (i : Nat) (hi : i < 17) : isWord (wordsL.getD i []) = true ∧ nameB (wordsL.getD i []) = false ∧ nameB (wordsL.getD i [] ++ [95]) = true ∧ isWord (wordsL.getD i [] ++ [95]) = false ∧ (wordsL.getD i []).length ≤ 8 := by
  have h1 : i = 0 ∨ i = 1 ∨ i = 2 ∨ i = 3 ∨ i = 4 ∨ i = 5 ∨ i = 6 ∨ i = 7 ∨ i = 8 ∨ i = 9 ∨ i = 10 ∨ i = 11 ∨ i = 12 ∨ i = 13 ∨ i = 14 ∨ i = 15 ∨ i = 16 := by omega
  clear hi
  rcases h1 with rfl | rfl | rfl | rfl | rfl | rfl | rfl | rfl | rfl | rfl | rfl | rfl | rfl | rfl | rfl | rfl | rfl <;> exact ⟨rfl, rfl, rfl, rfl, by decide⟩
theorem signs_len (j : Nat) (hj : j < 19) : (signsL.getD j []).length ≤ 2 := by
  have h2 : j = 0 ∨ j = 1 ∨ j = 2 ∨ j = 3 ∨ j = 4 ∨ j = 5 ∨ j = 6 ∨ j = 7 ∨ j = 8 ∨ j = 9 ∨ j = 10 ∨ j = 11 ∨ j = 12 ∨ j = 13 ∨ j = 14 ∨ j = 15 ∨ j = 16 ∨ j = 17 ∨ j = 18 := by omega
  clear hj
  rcases h2 with rfl | rfl | rfl | rfl | rfl | rfl | rfl | rfl | rfl | rfl | rfl | rfl | rfl | rfl | rfl | rfl | rfl | rfl | rfl <;> decide
/-- A slice of four tokens, in one operation. -/
theorem build29four {ops : Array Oper} {rest : List Oper} {o : Oper} {a : Act} {w : World} {Q : Exit → Act → World → Prop} (hgd : o.guard = none) (x0 x1 x2 x3 : Operand) (ho : o.op = .buildSlice 23 4 #[(0, x0), (1, x1), (2, x2), (3, x3)])
    (t0 t1 t2 t3 : Tok) (h0 : a.eval x0 = .agg t0.cells.toArray) (h1 : a.eval x1 = .agg t1.cells.toArray) (h2 : a.eval x2 = .agg t2.cells.toArray) (h3 : a.eval x3 = .agg t3.cells.toArray)
    (k : wpList Tryd.prog ops Q rest (a.put o.dst (.slice (some ⟨w.heap.size, 0, none⟩) 4 4)) (w.alloc (.cells (tvs [t0, t1, t2, t3]).toArray 29))) : wpList Tryd.prog ops Q (o :: rest) a w := by
  obtain ⟨i0, hi, hz0, hz1, hz2⟩ := info_parts Tryd.info29z
  refine wpList_plain hgd fun _ hK => wp_buildSlice 23 29 4 _ ho (tvs [t0, t1, t2, t3]).toArray i0 (.agg #[.int .i64 0, .string ⟨#[]⟩, .int .i64 0]) Tryd.underlying23 hi hz0 (by rw [hz1]; decide) (by rw [hz1]; decide) ?_ (hK _ _ k)
  have hw := Go.Great.fill_whole (s := 3) (by decide) [.agg t0.cells.toArray, .agg t1.cells.toArray, .agg t2.cells.toArray, .agg t3.cells.toArray] ((Array.range (4 * 3)).map ((Value.agg #[.int .i64 0, .string ⟨#[]⟩, .int .i64 0]).cells[· % (Value.agg #[.int .i64 0, .string ⟨#[]⟩, .int .i64 0]).cells.size]!)) (by intro v hv; simp at hv; rcases hv with rfl | rfl | rfl | rfl <;> simp [Value.cells, Tok.cells]) (by simp)
  rw [hz1]
  simp only [List.map_toArray, List.map_cons, List.map_nil, h0, h1, h2, h3]
  simp only [List.zipIdx_cons, List.zipIdx_nil, List.map_cons, List.map_nil] at hw
  refine Eq.trans hw ?_
  simp [Value.cells, tvs, Tok.cells]

set_option maxHeartbeats 16000000 in
set_option maxRecDepth 20000 in
theorem words_walk (p q : Int) (w : World) (hg : Glob w) : Calls Tryd.prog 3 #[.int .i64 p, .int .i64 q] w fun ev w' => ev = .returned (.bool true) ∧ Below w.heap.size w w' := by
  obtain ⟨r1, c, f1, f2, f3, f4, f5⟩ := place_of p 17 (by omega)
  obtain ⟨r2, d, g1, g2, g3, g4, g5⟩ := place_of q 19 (by omega)
  have f1' : p.tmod 17 = r1 := f1
  have f2' : -17 < r1 := f2
  have f3' : r1 < 17 := f3
  have f4' : (r1 + 17) % 17 = (c : Int) := f4
  have g1' : q.tmod 19 = r2 := g1
  have g2' : -19 < r2 := g2
  have g3' : r2 < 19 := g3
  have g4' : (r2 + 19) % 19 = (d : Int) := g4
  have ic : (c : Int) < 17 := by omega
  have id_ : (d : Int) < 19 := by omega
  have m1 : ((w.alloc (.cells #[.string ⟨#[102, 110]⟩, .string ⟨#[115, 116, 114, 117, 99, 116]⟩, .string ⟨#[112, 117, 98]⟩, .string ⟨#[108, 101, 116]⟩, .string ⟨#[109, 117, 116]⟩, .string ⟨#[105, 102]⟩, .string ⟨#[101, 108, 115, 101]⟩, .string ⟨#[119, 104, 105, 108, 101]⟩, .string ⟨#[108, 111, 111, 112]⟩, .string ⟨#[98, 114, 101, 97, 107]⟩, .string ⟨#[99, 111, 110, 116, 105, 110, 117, 101]⟩, .string ⟨#[114, 101, 116, 117, 114, 110]⟩, .string ⟨#[100, 114, 111, 112]⟩, .string ⟨#[116, 114, 117, 101]⟩, .string ⟨#[102, 97, 108, 115, 101]⟩, .string ⟨#[105, 110, 116]⟩, .string ⟨#[98, 111, 111, 108]⟩] 9)).alloc (.cells #[.string ⟨#[40]⟩, .string ⟨#[41]⟩, .string ⟨#[123]⟩, .string ⟨#[125]⟩, .string ⟨#[60]⟩, .string ⟨#[62]⟩, .string ⟨#[44]⟩, .string ⟨#[59]⟩, .string ⟨#[58]⟩, .string ⟨#[58, 58]⟩, .string ⟨#[46]⟩, .string ⟨#[42]⟩, .string ⟨#[38]⟩, .string ⟨#[43]⟩, .string ⟨#[45]⟩, .string ⟨#[45, 62]⟩, .string ⟨#[61]⟩, .string ⟨#[61, 61]⟩, .string ⟨#[33]⟩] 9)).cell? ⟨w.heap.size, c, none⟩ = some (.string (str (wordsL.getD c []))) := by
    have h1 := ((wordsL_row w).below ((Below.refl (w.alloc (.cells #[.string ⟨#[102, 110]⟩, .string ⟨#[115, 116, 114, 117, 99, 116]⟩, .string ⟨#[112, 117, 98]⟩, .string ⟨#[108, 101, 116]⟩, .string ⟨#[109, 117, 116]⟩, .string ⟨#[105, 102]⟩, .string ⟨#[101, 108, 115, 101]⟩, .string ⟨#[119, 104, 105, 108, 101]⟩, .string ⟨#[108, 111, 111, 112]⟩, .string ⟨#[98, 114, 101, 97, 107]⟩, .string ⟨#[99, 111, 110, 116, 105, 110, 117, 101]⟩, .string ⟨#[114, 101, 116, 117, 114, 110]⟩, .string ⟨#[100, 114, 111, 112]⟩, .string ⟨#[116, 114, 117, 101]⟩, .string ⟨#[102, 97, 108, 115, 101]⟩, .string ⟨#[105, 110, 116]⟩, .string ⟨#[98, 111, 111, 108]⟩] 9)).heap.size (w.alloc (.cells #[.string ⟨#[102, 110]⟩, .string ⟨#[115, 116, 114, 117, 99, 116]⟩, .string ⟨#[112, 117, 98]⟩, .string ⟨#[108, 101, 116]⟩, .string ⟨#[109, 117, 116]⟩, .string ⟨#[105, 102]⟩, .string ⟨#[101, 108, 115, 101]⟩, .string ⟨#[119, 104, 105, 108, 101]⟩, .string ⟨#[108, 111, 111, 112]⟩, .string ⟨#[98, 114, 101, 97, 107]⟩, .string ⟨#[99, 111, 110, 116, 105, 110, 117, 101]⟩, .string ⟨#[114, 101, 116, 117, 114, 110]⟩, .string ⟨#[100, 114, 111, 112]⟩, .string ⟨#[116, 114, 117, 101]⟩, .string ⟨#[102, 97, 108, 115, 101]⟩, .string ⟨#[105, 110, 116]⟩, .string ⟨#[98, 111, 111, 108]⟩] 9))).alloc (Nat.le_refl _) (.cells #[.string ⟨#[40]⟩, .string ⟨#[41]⟩, .string ⟨#[123]⟩, .string ⟨#[125]⟩, .string ⟨#[60]⟩, .string ⟨#[62]⟩, .string ⟨#[44]⟩, .string ⟨#[59]⟩, .string ⟨#[58]⟩, .string ⟨#[58, 58]⟩, .string ⟨#[46]⟩, .string ⟨#[42]⟩, .string ⟨#[38]⟩, .string ⟨#[43]⟩, .string ⟨#[45]⟩, .string ⟨#[45, 62]⟩, .string ⟨#[61]⟩, .string ⟨#[61, 61]⟩, .string ⟨#[33]⟩] 9)) (by simp)).cell c
    exact h1.trans (words_at c f5)
  have m2 : ((w.alloc (.cells #[.string ⟨#[102, 110]⟩, .string ⟨#[115, 116, 114, 117, 99, 116]⟩, .string ⟨#[112, 117, 98]⟩, .string ⟨#[108, 101, 116]⟩, .string ⟨#[109, 117, 116]⟩, .string ⟨#[105, 102]⟩, .string ⟨#[101, 108, 115, 101]⟩, .string ⟨#[119, 104, 105, 108, 101]⟩, .string ⟨#[108, 111, 111, 112]⟩, .string ⟨#[98, 114, 101, 97, 107]⟩, .string ⟨#[99, 111, 110, 116, 105, 110, 117, 101]⟩, .string ⟨#[114, 101, 116, 117, 114, 110]⟩, .string ⟨#[100, 114, 111, 112]⟩, .string ⟨#[116, 114, 117, 101]⟩, .string ⟨#[102, 97, 108, 115, 101]⟩, .string ⟨#[105, 110, 116]⟩, .string ⟨#[98, 111, 111, 108]⟩] 9)).alloc (.cells #[.string ⟨#[40]⟩, .string ⟨#[41]⟩, .string ⟨#[123]⟩, .string ⟨#[125]⟩, .string ⟨#[60]⟩, .string ⟨#[62]⟩, .string ⟨#[44]⟩, .string ⟨#[59]⟩, .string ⟨#[58]⟩, .string ⟨#[58, 58]⟩, .string ⟨#[46]⟩, .string ⟨#[42]⟩, .string ⟨#[38]⟩, .string ⟨#[43]⟩, .string ⟨#[45]⟩, .string ⟨#[45, 62]⟩, .string ⟨#[61]⟩, .string ⟨#[61, 61]⟩, .string ⟨#[33]⟩] 9)).cell? ⟨w.heap.size + 1, d, none⟩ = some (.string (str (signsL.getD d []))) := by
    have h1 := (signs_row (w.alloc (.cells #[.string ⟨#[102, 110]⟩, .string ⟨#[115, 116, 114, 117, 99, 116]⟩, .string ⟨#[112, 117, 98]⟩, .string ⟨#[108, 101, 116]⟩, .string ⟨#[109, 117, 116]⟩, .string ⟨#[105, 102]⟩, .string ⟨#[101, 108, 115, 101]⟩, .string ⟨#[119, 104, 105, 108, 101]⟩, .string ⟨#[108, 111, 111, 112]⟩, .string ⟨#[98, 114, 101, 97, 107]⟩, .string ⟨#[99, 111, 110, 116, 105, 110, 117, 101]⟩, .string ⟨#[114, 101, 116, 117, 114, 110]⟩, .string ⟨#[100, 114, 111, 112]⟩, .string ⟨#[116, 114, 117, 101]⟩, .string ⟨#[102, 97, 108, 115, 101]⟩, .string ⟨#[105, 110, 116]⟩, .string ⟨#[98, 111, 111, 108]⟩] 9))).cell d
    have hs : (w.alloc (.cells #[.string ⟨#[102, 110]⟩, .string ⟨#[115, 116, 114, 117, 99, 116]⟩, .string ⟨#[112, 117, 98]⟩, .string ⟨#[108, 101, 116]⟩, .string ⟨#[109, 117, 116]⟩, .string ⟨#[105, 102]⟩, .string ⟨#[101, 108, 115, 101]⟩, .string ⟨#[119, 104, 105, 108, 101]⟩, .string ⟨#[108, 111, 111, 112]⟩, .string ⟨#[98, 114, 101, 97, 107]⟩, .string ⟨#[99, 111, 110, 116, 105, 110, 117, 101]⟩, .string ⟨#[114, 101, 116, 117, 114, 110]⟩, .string ⟨#[100, 114, 111, 112]⟩, .string ⟨#[116, 114, 117, 101]⟩, .string ⟨#[102, 97, 108, 115, 101]⟩, .string ⟨#[105, 110, 116]⟩, .string ⟨#[98, 111, 111, 108]⟩] 9)).heap.size = w.heap.size + 1 := by simp
    rw [hs] at h1
    exact h1.trans (signs_at d g5)
  have hB0 : Below w.heap.size w ((w.alloc (.cells #[.string ⟨#[102, 110]⟩, .string ⟨#[115, 116, 114, 117, 99, 116]⟩, .string ⟨#[112, 117, 98]⟩, .string ⟨#[108, 101, 116]⟩, .string ⟨#[109, 117, 116]⟩, .string ⟨#[105, 102]⟩, .string ⟨#[101, 108, 115, 101]⟩, .string ⟨#[119, 104, 105, 108, 101]⟩, .string ⟨#[108, 111, 111, 112]⟩, .string ⟨#[98, 114, 101, 97, 107]⟩, .string ⟨#[99, 111, 110, 116, 105, 110, 117, 101]⟩, .string ⟨#[114, 101, 116, 117, 114, 110]⟩, .string ⟨#[100, 114, 111, 112]⟩, .string ⟨#[116, 114, 117, 101]⟩, .string ⟨#[102, 97, 108, 115, 101]⟩, .string ⟨#[105, 110, 116]⟩, .string ⟨#[98, 111, 111, 108]⟩] 9)).alloc (.cells #[.string ⟨#[40]⟩, .string ⟨#[41]⟩, .string ⟨#[123]⟩, .string ⟨#[125]⟩, .string ⟨#[60]⟩, .string ⟨#[62]⟩, .string ⟨#[44]⟩, .string ⟨#[59]⟩, .string ⟨#[58]⟩, .string ⟨#[58, 58]⟩, .string ⟨#[46]⟩, .string ⟨#[42]⟩, .string ⟨#[38]⟩, .string ⟨#[43]⟩, .string ⟨#[45]⟩, .string ⟨#[45, 62]⟩, .string ⟨#[61]⟩, .string ⟨#[61, 61]⟩, .string ⟨#[33]⟩] 9)) := ((Below.refl w.heap.size w).alloc (Nat.le_refl _) _).alloc (by simp) _
  obtain ⟨n1, n2, n3, n4, n5⟩ := words_names c f5
  have n6 := signs_len d g5
  have hlex := words_lex c d f5 g5
  obtain ⟨x, hx⟩ : ∃ x, x = wordsL.getD c [] := ⟨_, rfl⟩
  obtain ⟨s, hs⟩ : ∃ s, s = signsL.getD d [] := ⟨_, rfl⟩
  rw [← hx] at m1 n1 n2 n3 n4 n5 hlex
  rw [← hs] at m2 n6 hlex
  clear hx hs f1 f2 f3 f4 g1 g2 g3 g4 f5 g5
  have L := lex_toks (wantS x s) (by simp only [wantS, List.length_append, List.length_cons, List.length_nil]; omega) _ hlex (by simp) ((w.alloc (.cells #[.string ⟨#[102, 110]⟩, .string ⟨#[115, 116, 114, 117, 99, 116]⟩, .string ⟨#[112, 117, 98]⟩, .string ⟨#[108, 101, 116]⟩, .string ⟨#[109, 117, 116]⟩, .string ⟨#[105, 102]⟩, .string ⟨#[101, 108, 115, 101]⟩, .string ⟨#[119, 104, 105, 108, 101]⟩, .string ⟨#[108, 111, 111, 112]⟩, .string ⟨#[98, 114, 101, 97, 107]⟩, .string ⟨#[99, 111, 110, 116, 105, 110, 117, 101]⟩, .string ⟨#[114, 101, 116, 117, 114, 110]⟩, .string ⟨#[100, 114, 111, 112]⟩, .string ⟨#[116, 114, 117, 101]⟩, .string ⟨#[102, 97, 108, 115, 101]⟩, .string ⟨#[105, 110, 116]⟩, .string ⟨#[98, 111, 111, 108]⟩] 9)).alloc (.cells #[.string ⟨#[40]⟩, .string ⟨#[41]⟩, .string ⟨#[123]⟩, .string ⟨#[125]⟩, .string ⟨#[60]⟩, .string ⟨#[62]⟩, .string ⟨#[44]⟩, .string ⟨#[59]⟩, .string ⟨#[58]⟩, .string ⟨#[58, 58]⟩, .string ⟨#[46]⟩, .string ⟨#[42]⟩, .string ⟨#[38]⟩, .string ⟨#[43]⟩, .string ⟨#[45]⟩, .string ⟨#[45, 62]⟩, .string ⟨#[61]⟩, .string ⟨#[61, 61]⟩, .string ⟨#[33]⟩] 9)) (hg.below hB0)
  have hT5 : (wantT x s ++ [endTok (wantS x s).length]).length = 5 := rfl
  rw [hT5] at L
  have CT : Hid (∀ y, Below w.heap.size w y → Calls Tryd.prog 11 #[] y fun ev w' => ev = .returned (.bool true) ∧ Below y.heap.size y w') := fun y hy => told_any y (hg.below hy)
  have CW : Hid (∀ y, Calls Tryd.prog 12 #[.string (str x)] y fun ev w' => ev = .returned (.bool true) ∧ w' = y) := fun y => by have := word_any x y; rw [n1] at this; exact this
  have CN : Hid (∀ y, Calls Tryd.prog 13 #[.string (str x)] y fun ev w' => ev = .returned (.bool false) ∧ w' = y) := fun y => by have := name_any x (by omega) y; rw [n2] at this; exact this
  have CN2 : Hid (∀ y, Calls Tryd.prog 13 #[.string (str (x ++ [95]))] y fun ev w' => ev = .returned (.bool true) ∧ w' = y) := fun y => by have := name_any (x ++ [95]) (by simp; omega) y; rw [n3] at this; exact this
  have CW2 : Hid (∀ y, Calls Tryd.prog 12 #[.string (str (x ++ [95]))] y fun ev w' => ev = .returned (.bool false) ∧ w' = y) := fun y => by have := word_any (x ++ [95]) y; rw [n4] at this; exact this
  have k1 : str x ++ str s = str (x ++ s) := str_app _ _
  have k2 : str (x ++ s) ++ str x = str (x ++ s ++ x) := str_app _ _
  have k3 : str (x ++ s ++ x) ++ ⟨#[95, 32, 39]⟩ = str (x ++ s ++ x ++ [95, 32, 39]) := str_app _ [95, 32, 39]
  have k4 : str (x ++ s ++ x ++ [95, 32, 39]) ++ str x = str (wantS x s) := str_app _ _
  have k5 : str x ++ ⟨#[95]⟩ = str (x ++ [95]) := str_app _ [95]
  have z1 := str_size x
  have z2 := str_size s
  have z3 := str_size (x ++ s)
  have z4 := str_size (x ++ s ++ x)
  have z5 := str_size (x ++ s ++ x ++ [95, 32, 39])
  simp only [List.length_append, List.length_cons, List.length_nil] at z3 z4 z5
  have HE : Hid (∀ i, i < 4 → ∃ t, (wantT x s)[i]? = some t ∧ (wantT x s ++ [endTok (wantS x s).length])[i]? = some t) := fun i hi => by
    have : i = 0 ∨ i = 1 ∨ i = 2 ∨ i = 3 := by omega
    rcases this with rfl | rfl | rfl | rfl <;> exact ⟨_, rfl, rfl⟩
  have C0 : Hid ((⟨2, x, 0⟩ : Tok).cells = [.int .i64 2, .string (str x), .int .i64 0]) := rfl
  have C1 : Hid ((⟨5, s, x.length⟩ : Tok).cells = [.int .i64 5, .string (str s), .int .i64 (x.length : Int)]) := rfl
  have C2 : Hid ((⟨1, x ++ [95], x.length + s.length⟩ : Tok).cells = [.int .i64 1, .string (str (x ++ [95])), .int .i64 ((x.length : Int) + (s.length : Int))]) := by
    show _ = _
    simp [Tok.cells]
  have C3 : Hid ((⟨3, x, 2 * x.length + s.length + 2⟩ : Tok).cells = [.int .i64 3, .string (str x), .int .i64 (2 * (x.length : Int) + (s.length : Int) + 2)]) := by
    show _ = _
    simp [Tok.cells]
  have HW : Hid (wantT x s = [⟨2, x, 0⟩, ⟨5, s, x.length⟩, ⟨1, x ++ [95], x.length + s.length⟩, ⟨3, x, 2 * x.length + s.length + 2⟩]) := rfl
  obtain ⟨t0, ht0⟩ : ∃ t0 : Tok, t0 = ⟨2, x, 0⟩ := ⟨_, rfl⟩
  obtain ⟨t1, ht1⟩ : ∃ t1 : Tok, t1 = ⟨5, s, x.length⟩ := ⟨_, rfl⟩
  obtain ⟨t2, ht2⟩ : ∃ t2 : Tok, t2 = ⟨1, x ++ [95], x.length + s.length⟩ := ⟨_, rfl⟩
  obtain ⟨t3, ht3⟩ : ∃ t3 : Tok, t3 = ⟨3, x, 2 * x.length + s.length + 2⟩ := ⟨_, rfl⟩
  rw [← ht0] at C0
  rw [← ht1] at C1
  rw [← ht2] at C2
  rw [← ht3] at C3
  rw [← ht0, ← ht1, ← ht2, ← ht3] at HW
  generalize wantT x s = Wt at *
  generalize endTok (wantS x s).length = en at *
  clear ht0 ht1 ht2 ht3 hlex hT5 n1 n2 n3 n4 hg
  generalize str (wantS x s) = SZ at *
  generalize str (x ++ s ++ x ++ [95, 32, 39]) = P3 at *
  generalize str (x ++ s ++ x) = P2 at *
  generalize str (x ++ s) = P1 at *
  generalize str (x ++ [95]) = SU at *
  generalize str x = SX at *
  generalize str s = SS at *
  generalize x.length = lx at *
  generalize s.length = ls at *
  have HB0 : Hid (Below w.heap.size w ((w.alloc (.cells #[.string ⟨#[102, 110]⟩, .string ⟨#[115, 116, 114, 117, 99, 116]⟩, .string ⟨#[112, 117, 98]⟩, .string ⟨#[108, 101, 116]⟩, .string ⟨#[109, 117, 116]⟩, .string ⟨#[105, 102]⟩, .string ⟨#[101, 108, 115, 101]⟩, .string ⟨#[119, 104, 105, 108, 101]⟩, .string ⟨#[108, 111, 111, 112]⟩, .string ⟨#[98, 114, 101, 97, 107]⟩, .string ⟨#[99, 111, 110, 116, 105, 110, 117, 101]⟩, .string ⟨#[114, 101, 116, 117, 114, 110]⟩, .string ⟨#[100, 114, 111, 112]⟩, .string ⟨#[116, 114, 117, 101]⟩, .string ⟨#[102, 97, 108, 115, 101]⟩, .string ⟨#[105, 110, 116]⟩, .string ⟨#[98, 111, 111, 108]⟩] 9)).alloc (.cells #[.string ⟨#[40]⟩, .string ⟨#[41]⟩, .string ⟨#[123]⟩, .string ⟨#[125]⟩, .string ⟨#[60]⟩, .string ⟨#[62]⟩, .string ⟨#[44]⟩, .string ⟨#[59]⟩, .string ⟨#[58]⟩, .string ⟨#[58, 58]⟩, .string ⟨#[46]⟩, .string ⟨#[42]⟩, .string ⟨#[38]⟩, .string ⟨#[43]⟩, .string ⟨#[45]⟩, .string ⟨#[45, 62]⟩, .string ⟨#[61]⟩, .string ⟨#[61, 61]⟩, .string ⟨#[33]⟩] 9))) := hB0
  clear hB0
  go_enter Tryd.func3, Tryd.ntmps3
  go_wp2_with fail
  refine L.mono ?_
  rintro ev w1 ⟨b, cap, rfl, hsT, hcap, hb1⟩
  have HB1 : Hid (Below w.heap.size w w1) := nextB HB0.out hb1
  clear L m1 m2 HB0 hb1
  obtain ⟨W, hW⟩ : ∃ W, W = w1.alloc (.cells (tvs [t0, t1, t2, t3]).toArray 29) := ⟨_, rfl⟩
  have hbW : Below w1.heap.size w1 W := by rw [hW]; exact (Below.refl _ _).alloc (Nat.le_refl _) _
  have HT : Hid (∀ y, Below W.heap.size W y → Ts y (.slice (some ⟨b, 0, none⟩) 5 cap) (Wt ++ [en]) ∧ Ts y (.slice (some ⟨w1.heap.size, 0, none⟩) 4 4) Wt) := fun y hy => by
    refine ⟨(hsT.below hbW).below hy, Ts.below ⟨.inr ⟨w1.heap.size, 4, ?_, ?_, ?_⟩⟩ hy⟩
    · rw [HW.out]; rfl
    · rw [HW.out]; exact Nat.le_refl _
    · rw [HW.out, hW]; exact (Row.new w1 29 (tvs [t0, t1, t2, t3])).range
  have HBW : Hid (Below w.heap.size w W) := nextB HB1.out hbW
  have AW : Aside (W = w1.alloc (.cells (tvs [t0, t1, t2, t3]).toArray 29)) := hW
  clear hsT hcap hW hbW
  obtain ⟨g, hg⟩ : ∃ g, g = w1.heap.size := ⟨_, rfl⟩
  have AG : Aside (g = w1.heap.size) := hg
  rw [← hg] at HT
  clear hg
  go_wp2_with (refine build29four rfl _ _ _ _ rfl t0 t1 t2 t3 (by rw [C0.out]; rfl) (by rw [C1.out]; rfl) (by rw [C2.out]; rfl) (by rw [C3.out]; rfl) ?_; rw [← AW.out, ← AG.out])
  go_loopw [12] (fun i wr => ∃ j : Nat, j ≤ 4 ∧ i = .int .i64 (j : Int) ∧ Below W.heap.size W wr) (fun i _ => 4 - (intOf i).toNat)
  case atStart => exact ⟨0, by omega, rfl, Below.refl _ _⟩
  case round =>
    obtain ⟨j, hj, rfl, hb⟩ := hrel
    have HB : Hid (Below W.heap.size W wr) := hb
    by_cases h3 : j < 4
    · have l1 : (j : Int) < 4 := by omega
      have l2 : (j : Int) < 5 := by omega
      obtain ⟨t, e1, e2⟩ := HE.out j h3
      obtain ⟨x0, x1, x2⟩ := (HT.out wr hb).1.three j t e2
      obtain ⟨y0, y1, y2⟩ := (HT.out wr hb).2.three j t e1
      clear e1 e2 hb HT HE AW AG
      generalize str t.text = S1 at *
      generalize t.kind = tk at *
      generalize t.place = tp at *
      go_wp2_with fail
      go_quiet (fail)
      go_wp2_with fail
      go_roundw
      case rel => exact ⟨j + 1, by omega, by go_num, below_drewN HB.out _⟩
      case measure => simp [intOf]; omega
    · obtain rfl : j = 4 := by omega
      have HB5 : Hid (Below w.heap.size w wr) := nextB HBW.out hb
      clear hb HT HE AW AG
      go_wp2_with fail
      refine (CT.out _ HB5.out).mono ?_
      rintro ev w5 ⟨rfl, hb5⟩
      have HB6 : Hid (Below w.heap.size w w5) := nextB HB5.out hb5
      go_wp2_with fail
      refine (CW.out _).mono ?_
      rintro ev w6 ⟨rfl, hw⟩
      replace hw := hw.symm
      subst hw
      go_wp2_with fail
      refine (CN.out _).mono ?_
      rintro ev w6 ⟨rfl, hw⟩
      replace hw := hw.symm
      subst hw
      go_wp2_with fail
      refine (CN2.out _).mono ?_
      rintro ev w6 ⟨rfl, hw⟩
      replace hw := hw.symm
      subst hw
      go_wp2_with fail
      refine (CW2.out _).mono ?_
      rintro ev w6 ⟨rfl, hw⟩
      replace hw := hw.symm
      subst hw
      go_wp2_with fail
      go_ret
      exact ⟨rfl, HB6.out⟩
end Go.Proofs.YtdnjcajbmibjiaaDoor
