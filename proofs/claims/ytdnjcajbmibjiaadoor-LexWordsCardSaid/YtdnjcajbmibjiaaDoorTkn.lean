/-
  Tokens in memory: rows of tokens; strings.Clone; the program's token.
-/
import Derived.Test.YtdnjcajbmibjiaaDoorFst
import Derived.Great.BuildSlice
import Derived.Laws.StructEq
namespace Go.Proofs.YtdnjcajbmibjiaaDoor
open Go.RowKit

theorem below_grown {B : Nat} {w w' : World} {row : Option Nat} (h : w.grownBy w' row) (hB : B ≤ w.heap.size) (hr : ∀ k, row = some k → B ≤ k) : Below B w w' :=
  (Below.refl B w).grown h hB hr
theorem nextB {w w1 w2 : World} (h1 : Below w.heap.size w w1) (h2 : Below w1.heap.size w1 w2) : Below w.heap.size w w2 := h1.trans (h2.mono h1.size)
/-- A token as cells. -/
def Tok.cells (t : Tok) : List Value := [.int .i64 (t.kind : Int), .string (str t.text), .int .i64 (t.place : Int)]
def tvs (T : List Tok) : List Value := T.flatMap Tok.cells
theorem tvs_snoc (T : List Tok) (t : Tok) : tvs (T ++ [t]) = tvs T ++ t.cells := by simp [tvs]
theorem tvs_len : ∀ T : List Tok, (tvs T).length = T.length * 3
  | [] => rfl
  | a :: T => by
    show (a.cells ++ tvs T).length = _
    rw [List.length_append, tvs_len T, List.length_cons]
    show 3 + _ = _
    omega
theorem tvs_get : ∀ (T : List Tok) (q c : Nat), c < 3 → (tvs T)[q * 3 + c]? = (T[q]?).bind fun t => t.cells[c]?
  | [], q, c, _ => by simp [tvs]
  | a :: T, 0, c, hc => by
    show (a.cells ++ tvs T)[0 * 3 + c]? = _
    rw [List.getElem?_append_left (by show _ < 3; omega)]; simp
  | a :: T, q + 1, c, hc => by
    show (a.cells ++ tvs T)[(q + 1) * 3 + c]? = _
    rw [List.getElem?_append_right (by show 3 ≤ _; omega), show (q + 1) * 3 + c - a.cells.length = q * 3 + c by show _ - 3 = _; omega, tvs_get T q c hc]
    simp
theorem tvs_one (T : List Tok) : ∀ u ∈ tvs T, u.oneCell' = true := fun u hu => by
  obtain ⟨b, _, hb⟩ := List.mem_flatMap.1 hu
  simp only [Tok.cells, List.mem_cons, List.not_mem_nil, or_false] at hb
  rcases hb with rfl | rfl | rfl <;> rfl
theorem Tryd.info29z : (Tryd.prog.info? 29).map (fun i => (i.zero, i.size, i.bytes)) = some (some (.agg #[.int .i64 0, .string ⟨#[]⟩, .int .i64 0]), 3, 32) := by kernel_rfl
theorem Tryd.info29 : (Tryd.prog.info? 29).map (·.size) = some 3 := by kernel_rfl
theorem range_below {w w' : World} {g o : Nat} {L : List Value} (h : w.rangeAt g o L) (hb : Below w.heap.size w w') : w'.rangeAt g o L := fun j u hj => by
  have := h j u hj
  rw [hb.cell (p := ⟨g, o + j, none⟩) (World.block_lt_of_cell? w _ this)]; exact this

/-- The slice v holds these tokens. -/
structure Ts (w : World) (v : Value) (T : List Tok) : Prop where
  shape : (∃ cap, v = .slice none 0 cap ∧ T = []) ∨ ∃ b cap, v = .slice (some ⟨b, 0, none⟩) T.length cap ∧ T.length ≤ cap ∧ w.rangeAt b 0 (tvs T)
theorem Ts.below {w w' : World} {v : Value} {T : List Tok} (h : Ts w v T) (hb : Below w.heap.size w w') : Ts w' v T := by
  refine ⟨?_⟩
  rcases h.shape with h | ⟨b, cap, rfl, hcap, hc⟩
  · exact .inl h
  · exact .inr ⟨b, cap, rfl, hcap, range_below hc hb⟩
theorem own_range {w : World} {B g cap e size n : Nat} {xs : List Value} (h : w.ownsRow B e size (.slice (some ⟨g, 0, none⟩) n cap) n xs) : w.rangeAt g 0 xs := fun j u hj => by
  rcases h.2 with ⟨e, _⟩ | ⟨g', cap', cur, e, _, hg, _, _, hs, ht⟩
  · cases e
  · cases e
    rw [Nat.zero_add, cell_of_row w g j cur _ (0, 0) hg, ← hj, ← ht, List.getElem?_take]
    have hj' : j < n * size := by
      have := h.1
      rcases Nat.lt_or_ge j xs.length with h' | h'
      · omega
      · rw [List.getElem?_eq_none h'] at hj; cases hj
    rw [if_pos hj']; simp
theorem Ts.ofOwn {w : World} {B : Nat} {v : Value} {T : List Tok} (h : w.ownsRow B 29 3 v T.length (tvs T)) : Ts w v T := by
  refine ⟨?_⟩
  rcases h.2 with ⟨rfl, h0⟩ | ⟨g, cap, cur, rfl, hrest⟩
  · exact .inl ⟨0, rfl, List.eq_nil_of_length_eq_zero h0⟩
  · exact .inr ⟨g, cap, rfl, hrest.2.2.1, own_range h⟩
theorem own_same' {w w' : World} {B t s n : Nat} {v : Value} {xs : List Value} (h : w.ownsRow B t s v n xs) (hs : ∀ k, v.ownBlock = some k → w'.heap[k]? = w.heap[k]?) : w'.ownsRow B t s v n xs := by
  refine ⟨h.1, ?_⟩
  rcases h.2 with hn | ⟨g, cap, cur, rfl, hb, hgg, rest⟩
  · exact .inl hn
  · exact .inr ⟨g, cap, cur, rfl, hb, by rw [hs g rfl]; exact hgg, rest⟩
theorem own_past' {w w' : World} {B t s n : Nat} {v : Value} {xs : List Value} (h : w.ownsRow B t s v n xs) (hb : Below w.heap.size w w') : w'.ownsRow B t s v n xs :=
  own_same' h (fun k e => hb.block k (h.lt k e).2)

/-- One more token: a slice of one and append, two operations. -/
theorem build29 {ops : Array Oper} {rest : List Oper} {o : Oper} {a : Act} {w : World} {Q : Exit → Act → World → Prop} (hgd : o.guard = none) (x : Operand) (ho : o.op = .buildSlice 23 1 #[(0, x)])
    (t : Tok) (hx : a.eval x = .agg t.cells.toArray)
    (k : wpList Tryd.prog ops Q rest (a.put o.dst (.slice (some ⟨w.heap.size, 0, none⟩) 1 1)) (w.alloc (.cells t.cells.toArray 29))) : wpList Tryd.prog ops Q (o :: rest) a w := by
  obtain ⟨i0, hi, hz0, hz1, hz2⟩ := info_parts Tryd.info29z
  refine wpList_plain hgd fun _ hK => wp_buildSlice 23 29 1 _ ho t.cells.toArray i0 (.agg #[.int .i64 0, .string ⟨#[]⟩, .int .i64 0]) Tryd.underlying23 hi hz0 (by rw [hz1]; decide) (by rw [hz1]; decide) ?_ (hK _ _ k)
  have hw := Go.Great.fill_whole (s := 3) (by decide) [.agg t.cells.toArray] ((Array.range (1 * 3)).map ((Value.agg #[.int .i64 0, .string ⟨#[]⟩, .int .i64 0]).cells[· % (Value.agg #[.int .i64 0, .string ⟨#[]⟩, .int .i64 0]).cells.size]!)) (by simp [Value.cells, Tok.cells]) (by simp)
  rw [hz1]
  simp only [List.map_toArray, List.map_cons, List.map_nil, hx]
  simp only [List.zipIdx_cons, List.zipIdx_nil, List.map_cons, List.map_nil] at hw
  refine Eq.trans hw ?_
  simp [Value.cells]
theorem app29 {ops : Array Oper} {rest : List Oper} {o : Oper} {a : Act} {w : World} {Q : Exit → Act → World → Prop} {B : Nat} {v : Value} {T : List Tok} (hgd : o.guard = none) (s x : Operand)
    (ho : o.op = .call { callee := .builtin .append, args := #[s, x], argTypes := #[23, 23] }) (hs : a.eval s = v) (hown : w.ownsRow B 29 3 v T.length (tvs T)) (hB : B ≤ w.heap.size)
    (g c : Nat) (t : Tok) (hx : a.eval x = .slice (some ⟨g, 0, none⟩) 1 c) (hr : w.rangeAt g 0 t.cells) (hn : T.length ≤ 10000000)
    (k : ∀ v' w', w'.ownsRow B 29 3 v' (T ++ [t]).length (tvs (T ++ [t])) → Below B w w' → wpList Tryd.prog ops Q rest (a.put o.dst v') w') :
    wpList Tryd.prog ops Q (o :: rest) a w := by
  obtain ⟨i0, hi, hz0, hz1, hz2⟩ := info_parts Tryd.info29z
  obtain ⟨v', w', hrr, h2, h3, h4, h5⟩ := run_append_own_at (P := Tryd.prog) w B 23 o.type 29 i0 (.agg #[.int .i64 0, .string ⟨#[]⟩, .int .i64 0]) 3 32 Tryd.underlying23 hi hz0 hz1 hz2 rfl (by decide) _ _ _ hown ⟨g, 0, none⟩ 1 c t.cells (by rfl) (fun j u hj => by rw [addr_add]; exact hr j u hj) (fun u hu => tvs_one [t] u (by simpa [tvs] using hu)) (by unfold maxLen; omega) (by omega) hB
  refine wpList_plain hgd fun _ hK => ?_
  unfold Oper.wp execOp
  simp only [ho, resolve, invoke, builtin, Sem.run_bind, Sem.run_pure, Result.andThen_ok, List.map_toArray, List.map_cons, List.map_nil, hs, hx, hrr]
  refine hK _ _ (k v' w' ?_ (below_grown h3 hB (fun k e => (hown.lt k e).1)))
  rw [tvs_snoc, List.length_append]; exact h2

theorem clone_any (l : List UInt8) (hl : l.length ≤ 140737488355328) (w : World) : Calls Tryd.prog 39 #[.string (str l)] w fun ev w' => ev = .returned (.string (str l)) ∧ Below w.heap.size w w' := by
  have C := Tryd.stringslite_Clone (str l) w (by rw [str_size]; omega)
  generalize str l = S at *
  go_enter Tryd.func39, Tryd.ntmps39
  go_wp2_with fail
  refine C.mono ?_
  rintro ev w2 ⟨rfl, hb⟩
  clear C
  go_wp2_with fail
  go_ret
  exact ⟨rfl, hb⟩
theorem results22_row (tmps : Array Value) (w : World) (g : Nat) (cs : Array Value) (hs : cs.size = 3) (hp : tmps.getD 6 undef = .pointer (some ⟨g, 0, none⟩)) (hg : w.heap[g]? = some (.cells cs 29 (0, 0))) :
    (results Tryd.f22 tmps).run Tryd.prog w = .ok (.agg cs) w := by
  have hp' : tmps[6]?.getD undef = .pointer (some ⟨g, 0, none⟩) := by simpa using hp
  have hi : (Tryd.prog.info? 29).map (·.size) = some cs.size := by rw [hs]; exact Tryd.info29
  simp [results, Tryd.results22, hp', asAddr, run_loadVar_row w g 29 29 cs (0, 0) _ hg Tryd.underlying29 rfl hi]

set_option maxHeartbeats 4000000 in
theorem token_any (k p : Nat) (l : List UInt8) (h1 : 1 ≤ l.length) (hl : l.length ≤ 140737488355328) (w : World) :
    Calls Tryd.prog 22 #[.int .i64 (k : Int), .string (str l), .int .i64 (p : Int)] w fun ev w' => ev = .returned (.agg (Tok.cells ⟨k, textOf k l, p⟩).toArray) ∧ Below w.heap.size w w' := by
  have hsz := str_size l
  have hE := str_from l 1
  obtain ⟨X, hX⟩ : ∃ X, textOf k l = X := ⟨_, rfl⟩
  have C := clone_any X (by rw [← hX]; unfold textOf; split <;> (try rw [List.length_drop]) <;> omega) (w.alloc (.cells #[.int .i64 0, .string ⟨#[]⟩, .int .i64 0] 29))
  have hA : Below w.heap.size w (w.alloc (.cells #[.int .i64 0, .string ⟨#[]⟩, .int .i64 0] 29)) := (Below.refl _ _).alloc (Nat.le_refl _) _
  have HR : Hid (∀ y, Below (w.alloc (.cells #[.int .i64 0, .string ⟨#[]⟩, .int .i64 0] 29)).heap.size (w.alloc (.cells #[.int .i64 0, .string ⟨#[]⟩, .int .i64 0] 29)) y → y.heap[w.heap.size]? = some (.cells #[.int .i64 0, .string ⟨#[]⟩, .int .i64 0] 29 (0, 0)) ∧ (y.setRow w.heap.size (Tok.cells ⟨k, X, p⟩).toArray).heap[w.heap.size]? = some (.cells (Tok.cells ⟨k, X, p⟩).toArray 29 (0, 0)) ∧ Below w.heap.size w (y.setRow w.heap.size (Tok.cells ⟨k, X, p⟩).toArray)) := by
    intro y hy
    have hr : Row y w.heap.size 29 [.int .i64 0, .string ⟨#[]⟩, .int .i64 0] := (Row.new w 29 [.int .i64 0, .string ⟨#[]⟩, .int .i64 0]).below hy (by simp)
    exact ⟨hr.heap, (hr.setRow _).heap, below_setRow (nextB hA hy) (Nat.le_refl _) _⟩
  have hi : (Tryd.prog.info? 29).map (·.size) = some (#[.int .i64 (k : Int), .string (str X), .int .i64 (p : Int)] : Array Value).size := Tryd.info29
  have hone : (#[.int .i64 (k : Int), .string (str X), .int .i64 (p : Int)] : Array Value).all (·.oneCell') = true := by simp [Value.oneCell']
  rw [hX]
  by_cases h3 : k = 3
  · subst h3
    rw [textOf, if_pos rfl] at hX
    rw [hX] at hE
    clear hX hA
    simp only [Tok.cells] at HR ⊢
    generalize str X = S1 at *
    generalize str l = S at *
    generalize l.length = n at *
    go_enter Tryd.func22, Tryd.ntmps22
    go_wp2_with fail
    refine C.mono ?_
    rintro ev w2 ⟨rfl, hb⟩
    obtain ⟨G1, G2, G3⟩ := HR.out w2 hb
    have A3 : Aside _ := G3
    clear G3 HR C hb
    go_wp2_with (refine wpList_store_row rfl 29 _ _ rfl w.heap.size #[.int .i64 (3 : Nat), .string S1, .int .i64 (p : Int)] rfl rfl 29 _ G1 hi rfl hone ?_)
    refine bodyPost_ret (v := .agg #[.int .i64 (3 : Nat), .string S1, .int .i64 (p : Int)]) (results22_row _ _ w.heap.size _ rfl rfl G2) rfl ⟨?_, A3.out⟩
    rfl
  · have h3' : (k : Int) ≠ 3 := by omega
    rw [textOf, if_neg h3] at hX
    subst hX
    clear hE hA h3
    simp only [Tok.cells] at HR ⊢
    generalize str l = S at *
    generalize l.length = n at *
    go_enter Tryd.func22, Tryd.ntmps22
    go_wp2_with fail
    refine C.mono ?_
    rintro ev w2 ⟨rfl, hb⟩
    obtain ⟨G1, G2, G3⟩ := HR.out w2 hb
    have A3 : Aside _ := G3
    clear G3 HR C hb
    go_wp2_with (refine wpList_store_row rfl 29 _ _ rfl w.heap.size #[.int .i64 (k : Int), .string S, .int .i64 (p : Int)] rfl rfl 29 _ G1 hi rfl hone ?_)
    refine bodyPost_ret (v := .agg #[.int .i64 (k : Int), .string S, .int .i64 (p : Int)]) (results22_row _ _ w.heap.size _ rfl rfl G2) rfl ⟨?_, A3.out⟩
    rfl
end Go.Proofs.YtdnjcajbmibjiaaDoor
