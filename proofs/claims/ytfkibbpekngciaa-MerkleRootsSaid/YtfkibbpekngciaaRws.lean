/-
  Rows of sums.
-/
import Derived.Test.YtfkibbpekngciaaTre
import Derived.Test.YtfkibbpekngciaaLas
import Derived.Great.BuildSlice
namespace Go.Proofs.Ytfkibbpekngciaa
open Go.RowKit

/-- Sums, one behind the other, as cells. -/
def rows26 (ks : List Bys) : List Value := ks.flatMap bys
theorem rows26_snoc (ks : List Bys) (h : Bys) : rows26 (ks ++ [h]) = rows26 ks ++ bys h := by simp [rows26]
theorem rows26_len : ∀ (l : List Bys), (∀ a ∈ l, a.length = 32) → (rows26 l).length = l.length * 32
  | [], _ => rfl
  | a :: l, h => by
    show (bys a ++ rows26 l).length = _
    rw [List.length_append, rows26_len l (fun b hb => h b (by simp [hb])), bys_len, h a (by simp), List.length_cons]
    omega
theorem flat_get : ∀ (ks : List Bys), (∀ a ∈ ks, a.length = 32) → ∀ q c, q < ks.length → c < 32 → (rows26 ks)[q * 32 + c]? = (bys (ks.getD q []))[c]?
  | [], _, q, c, hq, _ => by simp at hq
  | a :: ks, h, q, c, hq, hc => by
    have ha : (bys a).length = 32 := by rw [bys_len]; exact h a (by simp)
    show (bys a ++ rows26 ks)[q * 32 + c]? = _
    cases q with
    | zero => rw [List.getElem?_append_left (by omega)]; simp
    | succ q =>
      rw [List.getElem?_append_right (by omega), ha, show (q + 1) * 32 + c - 32 = q * 32 + c by omega, flat_get ks (fun b hb => h b (by simp [hb])) q c (by simpa using hq) hc]
      simp
theorem rows26_one (l : List Bys) : ∀ u ∈ rows26 l, u.oneCell' = true := fun u hu => by
  obtain ⟨b, _, hb⟩ := List.mem_flatMap.1 hu
  exact bys_one b u hb
theorem Try.info26z : (Try.prog.info? 26).map (fun i => (i.zero, i.size, i.bytes)) = some (some (.agg (bys zero32).toArray), 32, 32) := by kernel_rfl
theorem range_below {w w' : World} {g o : Nat} {L : List Value} (h : w.rangeAt g o L) (hb : Below w.heap.size w w') : w'.rangeAt g o L := fun j u hj => by
  have := h j u hj
  rw [hb.cell (p := ⟨g, o + j, none⟩) (World.block_lt_of_cell? w _ this)]; exact this

/-- One more sum, at the operation itself. -/
theorem wpo_app26 {o : Oper} {a : Act} {K : Act → World → Prop} {Q : Exit → Act → World → Prop} {w : World} {B : Nat} {v : Value} {P : List Bys} (s x : Operand)
    (ho : o.op = .call { callee := .builtin .append, args := #[s, x], argTypes := #[28, 28] }) (hs : a.eval s = v) (hown : w.ownsRow B 26 32 v P.length (rows26 P)) (hB : B ≤ w.heap.size)
    (g c : Nat) (h : Bys) (hl : h.length = 32) (hx : a.eval x = .slice (some ⟨g, 0, none⟩) 1 c) (hr : w.rangeAt g 0 (bys h)) (hn : P.length ≤ 1000000)
    (k : ∀ v' w', w'.ownsRow B 26 32 v' (P ++ [h]).length (rows26 (P ++ [h])) → Below B w w' → w.grownBy w' v.ownBlock → (v'.ownBlock = v.ownBlock ∨ v'.ownBlock = some w.heap.size) → K (a.put o.dst v') w') :
    Oper.wp Try.prog o a w K Q := by
  obtain ⟨i0, hi, hz0, hz1, hz2⟩ := info_parts Try.info26z
  obtain ⟨v', w', hr, h2, h3, h4, h5⟩ := run_append_own_at (P := Try.prog) w B 28 o.type 26 i0 (.agg (bys zero32).toArray) 32 32 Try.underlying28 hi hz0 hz1 hz2 rfl (by decide) _ _ _ hown ⟨g, 0, none⟩ 1 c (bys h) (by simp [bys_len, hl]) (fun j u hj => by rw [addr_add]; exact hr j u hj) (bys_one h) (by unfold maxLen; omega) (by omega) hB
  unfold Oper.wp execOp
  simp only [ho, resolve, invoke, builtin, Sem.run_bind, Sem.run_pure, Result.andThen_ok, List.map_toArray, List.map_cons, List.map_nil, hs, hx, hr]
  refine k v' w' ?_ (below_grown h3 hB (fun k e => (hown.lt k e).1)) h3 h5
  rw [rows26_snoc, List.length_append]; exact h2
/-- A slice of one sum, at the operation itself. -/
theorem wpo_build26 {o : Oper} {a : Act} {K : Act → World → Prop} {Q : Exit → Act → World → Prop} {w : World} (x : Operand) (ho : o.op = .buildSlice 28 1 #[(0, x)]) (L : List Value) (hx : a.eval x = .agg L.toArray) (hL : L.length = 32)
    (h : K (a.put o.dst (.slice (some ⟨w.heap.size, 0, none⟩) 1 1)) (w.alloc (.cells L.toArray 26))) : Oper.wp Try.prog o a w K Q := by
  obtain ⟨i0, hi, hz0, hz1, hz2⟩ := info_parts Try.info26z
  refine wp_buildSlice 28 26 1 _ ho L.toArray i0 (.agg (bys zero32).toArray) Try.underlying28 hi hz0 (by rw [hz1]; decide) (by rw [hz1]; decide) ?_ h
  have hw := Go.Great.fill_whole (s := 32) (by decide) [.agg L.toArray] ((Array.range (1 * 32)).map ((Value.agg (bys zero32).toArray).cells[· % (Value.agg (bys zero32).toArray).cells.size]!)) (by simp [Value.cells, hL]) (by simp)
  rw [hz1]
  simp only [List.map_toArray, List.map_cons, List.map_nil, hx]
  simp only [List.zipIdx_cons, List.zipIdx_nil, List.map_cons, List.map_nil] at hw
  refine Eq.trans hw ?_
  simp [Value.cells]
theorem want {c p q : Prop} [Decidable c] (hc : c) (h : p) : if c then p else q := by rw [if_pos hc]; exact h

/-- The slice v holds these sums. -/
structure Hs (w : World) (v : Value) (P : List Bys) : Prop where
  each : ∀ p ∈ P, p.length = 32
  shape : (∃ ao cap, v = .slice ao 0 cap ∧ P = []) ∨ ∃ b off cap, v = .slice (some ⟨b, off, none⟩) P.length cap ∧ P.length ≤ cap ∧ w.rangeAt b off (rows26 P)
theorem Hs.below {w w' : World} {v : Value} {P : List Bys} (h : Hs w v P) (hb : Below w.heap.size w w') : Hs w' v P := by
  refine ⟨h.each, ?_⟩
  rcases h.shape with h | ⟨b, off, cap, rfl, hcap, hc⟩
  · exact .inl h
  · exact .inr ⟨b, off, cap, rfl, hcap, range_below hc hb⟩
theorem Hs.slice {w : World} {v : Value} {P : List Bys} (h : Hs w v P) : ∃ ao cap, v = .slice ao P.length cap := by
  rcases h.shape with ⟨_, _, rfl, rfl⟩ | ⟨b, off, cap, rfl, _⟩
  · exact ⟨_, _, rfl⟩
  · exact ⟨_, _, rfl⟩
theorem own_range {w : World} {B g cap e size n : Nat} {xs : List Value} (h : w.ownsRow B e size (.slice (some ⟨g, 0, none⟩) n cap) n xs) : w.rangeAt g 0 xs := fun j u hj => by
  rcases h.2 with ⟨e, _⟩ | ⟨g', cap', cur, e, _, hg, _, _, hs, ht⟩
  · cases e
  · cases e
    rw [Nat.zero_add, cell_of_row w g j cur _ (0, 0) hg, ← hj, ← ht, List.getElem?_take]
    have hj' : j < n * size := by
      have := h.1
      rcases Nat.lt_or_ge j xs.length with h' | h'
      · omega
      · rw [List.getElem?_eq_none h'] at hj; cases hj
    rw [if_pos hj']; simp
theorem Hs.ofOwn {w : World} {B : Nat} {v : Value} {P : List Bys} (h : w.ownsRow B 26 32 v P.length (rows26 P)) (h32 : ∀ p ∈ P, p.length = 32) : Hs w v P := by
  refine ⟨h32, ?_⟩
  rcases h.2 with ⟨rfl, h0⟩ | ⟨g, cap, cur, rfl, hrest⟩
  · exact .inl ⟨none, 0, rfl, List.eq_nil_of_length_eq_zero h0⟩
  · exact .inr ⟨g, 0, cap, rfl, hrest.2.2.1, own_range h⟩
theorem own_same' {w w' : World} {B t s n : Nat} {v : Value} {xs : List Value} (h : w.ownsRow B t s v n xs) (hs : ∀ k, v.ownBlock = some k → w'.heap[k]? = w.heap[k]?) : w'.ownsRow B t s v n xs := by
  refine ⟨h.1, ?_⟩
  rcases h.2 with hn | ⟨g, cap, cur, rfl, hb, hgg, rest⟩
  · exact .inl hn
  · exact .inr ⟨g, cap, cur, rfl, hb, by rw [hs g rfl]; exact hgg, rest⟩
theorem own_past' {w w' : World} {B t s n : Nat} {v : Value} {xs : List Value} (h : w.ownsRow B t s v n xs) (hb : Below w.heap.size w w') : w'.ownsRow B t s v n xs :=
  own_same' h (fun k e => hb.block k (h.lt k e).2)
/-- A row of one's own is no variable of another type. -/
theorem own_apart {w : World} {B t s n g t' : Nat} {v : Value} {xs L : List Value} (h : w.ownsRow B t s v n xs) (r : Row w g t' L) (hne : t ≠ t') : ∀ k, v.ownBlock = some k → k ≠ g := fun k e hk => by
  subst hk
  rcases h.2 with ⟨rfl, _⟩ | ⟨g', cap, cur, rfl, _, hgg, _⟩
  · simp [Value.ownBlock] at e
  · simp [Value.ownBlock] at e
    subst e
    rw [r.heap] at hgg
    cases hgg
    exact hne rfl
end Go.Proofs.Ytfkibbpekngciaa
