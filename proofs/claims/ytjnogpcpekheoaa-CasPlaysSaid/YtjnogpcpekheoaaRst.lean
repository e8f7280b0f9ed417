/-
  The document's store: what it holds; where a sum stands.
-/
import Derived.Test.YtjnogpcpekheoaaTwo
namespace Go.Proofs.Ytjnogpcpekheoaa
open Go.RowKit Go.Maps

/-- The keys of pairs. -/
def ks (r : List (Bys × Bys)) : List Bys := r.map (·.1)
def bs (r : List (Bys × Bys)) : List Bys := r.map (·.2)
theorem ks_len (r : List (Bys × Bys)) : (ks r).length = r.length := by simp [ks]
theorem bs_len (r : List (Bys × Bys)) : (bs r).length = r.length := by simp [bs]

/-- The document's store at block xb: pairs by rising sums; its blocks are in O. -/
structure Ref (O : Nat → Prop) (w : World) (xb room : Nat) (r : List (Bys × Bys)) : Prop where
  rows : ∃ vs vb, w.cell? ⟨xb, 1, none⟩ = some vs ∧ w.cell? ⟨xb, 2, none⟩ = some vb ∧ w.ownsRow 0 35 32 vs r.length (rows35 (ks r)) ∧ w.ownsRow 0 9 1 vb r.length (strs (bs r)) ∧ (∀ k, vs.ownBlock = some k → O k ∧ k ≠ xb) ∧ (∀ k, vb.ownBlock = some k → O k ∧ k ≠ xb)
  own : O xb
  room_ : w.cell? ⟨xb, 0, none⟩ = some (.int .i64 (room : Int))
  len : ∀ p ∈ r, p.1.length = 32
  up : (ks r).Pairwise (fun a b => less a b = true)
  few : r.length ≤ 1000000
  fz : ∀ j, w.frozen? ⟨xb, j, none⟩ = false

theorem own_same32 {w w' : World} {B n : Nat} {v : Value} {xs : List Value} (h : w.ownsRow B 35 32 v n xs) (hs : ∀ k, v.ownBlock = some k → w'.heap[k]? = w.heap[k]?) : w'.ownsRow B 35 32 v n xs := by
  refine ⟨h.1, ?_⟩
  rcases h.2 with h' | ⟨g, cap, cur, rfl, hB, hg, hn, hc, hs', ht⟩
  · exact .inl h'
  · exact .inr ⟨g, cap, cur, rfl, hB, (hs g rfl).trans hg, hn, hc, hs', ht⟩
/-- It stays while its blocks stay. -/
theorem Ref.same {O : Nat → Prop} {w w' : World} {xb room : Nat} {r : List (Bys × Bys)} (h : Ref O w xb room r) (hs : ∀ k, O k → k < w.heap.size → w'.heap[k]? = w.heap[k]?) : Ref O w' xb room r := by
  obtain ⟨vs, vb, c1, c2, o1, o2, b1, b2⟩ := h.rows
  have hx := hs xb h.own (World.block_lt_of_cell? w ⟨xb, 1, none⟩ c1)
  have hc : ∀ o u, w.cell? ⟨xb, o, none⟩ = some u → w'.cell? ⟨xb, o, none⟩ = some u := fun o u hu => by
    unfold World.cell? at *; rw [hx]; exact hu
  exact ⟨⟨vs, vb, hc _ _ c1, hc _ _ c2, own_same32 o1 (fun k e => hs k (b1 k e).1 (o1.lt k e).2), own_same o2 (fun k e => hs k (b2 k e).1 (o2.lt k e).2), b1, b2⟩, h.own, hc _ _ h.room_, h.len, h.up, h.few, fun j => (World.frozen?_of_block (a := ⟨xb, j, none⟩) hx).trans (h.fz j)⟩
theorem Ref.below {O : Nat → Prop} {w w' : World} {xb room : Nat} {r : List (Bys × Bys)} (h : Ref O w xb room r) (hb : Below w.heap.size w w') : Ref O w' xb room r := h.same (fun k _ hk => hb.block k hk)
theorem Ref.wide {O O' : Nat → Prop} {w : World} {xb room : Nat} {r : List (Bys × Bys)} (h : Ref O w xb room r) (hO : ∀ k, k < w.heap.size → O k → O' k) : Ref O' w xb room r := by
  obtain ⟨vs, vb, c1, c2, o1, o2, b1, b2⟩ := h.rows
  exact ⟨⟨vs, vb, c1, c2, o1, o2, fun k e => ⟨hO k (o1.lt k e).2 (b1 k e).1, (b1 k e).2⟩, fun k e => ⟨hO k (o2.lt k e).2 (b2 k e).1, (b2 k e).2⟩⟩, hO xb (World.block_lt_of_cell? w ⟨xb, 1, none⟩ c1) h.own, h.room_, h.len, h.up, h.few, h.fz⟩
theorem Ref.lt {O : Nat → Prop} {w : World} {xb room : Nat} {r : List (Bys × Bys)} (h : Ref O w xb room r) : xb < w.heap.size := World.block_lt_of_cell? w ⟨xb, 0, none⟩ h.room_
/-- It stays while a map turns. -/
theorem Ref.map {O : Nat → Prop} {w w' : World} {xb room x : Nat} {r : List (Bys × Bys)} (h : Ref O w xb room r) (hg : w.grownBy w' (some x)) (hx : ∃ es c, w.heap[x]? = some (.map es c)) : Ref O w' xb room r := by
  obtain ⟨es, cc, hm⟩ := hx
  obtain ⟨vs, vb, c1, c2, o1, o2, b1, b2⟩ := h.rows
  have hxb : w'.heap[xb]? = w.heap[xb]? := hg.block xb h.lt (fun e => by
    have e' : xb = x := Option.some.inj e
    rw [← e'] at hm
    unfold World.cell? at c1; rw [hm] at c1; cases c1)
  have hc : ∀ o u, w.cell? ⟨xb, o, none⟩ = some u → w'.cell? ⟨xb, o, none⟩ = some u := fun o u hu => by
    unfold World.cell? at *; rw [hxb]; exact hu
  refine ⟨⟨vs, vb, hc _ _ c1, hc _ _ c2, own_same32 o1 (fun k e => hg.block k (o1.lt k e).2 (fun e' => ?_)), own_map o2 hg ⟨es, cc, hm⟩, b1, b2⟩, h.own, hc _ _ h.room_, h.len, h.up, h.few, fun j => (World.frozen?_of_block (a := ⟨xb, j, none⟩) hxb).trans (h.fz j)⟩
  have e'' : k = x := Option.some.inj e'
  rw [← e''] at hm
  exact own_ne o1 (x := k) (fun cs t fr h' => by rw [hm] at h'; cases h') e

/-- Where a sum stands: behind those that are less. -/
def pos (r : List (Bys × Bys)) (h : Bys) : Nat := ((ks r).takeWhile (fun a => less a h)).length
theorem pos_le (r : List (Bys × Bys)) (h : Bys) : pos r h ≤ r.length := by
  have := (List.takeWhile_prefix (l := ks r) (fun a => less a h)).length_le
  rw [ks_len] at this; exact this
/-- That is how far a loop goes. -/
theorem pos_of : ∀ (l : List Bys) (h : Bys) (q : Nat), q ≤ l.length → (∀ p, p < q → less (l.getD p []) h = true) → (q < l.length → less (l.getD q []) h = false) → (l.takeWhile (fun a => less a h)).length = q
  | [], h, q, hq, _, _ => by simp at hq ⊢; omega
  | x :: l, h, 0, _, _, h2 => by
    have := h2 (by simp)
    simp at this
    rw [List.takeWhile_cons, this]; simp
  | x :: l, h, q + 1, hq, h1, h2 => by
    have h0 := h1 0 (by omega)
    simp at h0
    rw [List.takeWhile_cons, h0]
    simp
    refine pos_of l h q (by simpa using hq) (fun p hp => ?_) (fun hlt => ?_)
    · have := h1 (p + 1) (by omega); simpa using this
    · have := h2 (by simpa using hlt); simpa using this
/-- In a rising list a sum is there exactly if it stands there. -/
theorem there_at {l : List Bys} {h : Bys} {q : Nat} (hup : l.Pairwise (fun a b => less a b = true)) (h1 : ∀ p, p < q → less (l.getD p []) h = true) (h2 : q < l.length → less (l.getD q []) h = false) : h ∈ l ↔ q < l.length ∧ l.getD q [] = h := by
  constructor
  · intro hm
    obtain ⟨i, hi, e⟩ := List.getElem_of_mem hm
    have ei : l.getD i [] = h := by simp [List.getD, List.getElem?_eq_getElem hi, e]
    have hiq : ¬ i < q := fun hlt => by
      have := h1 i hlt
      rw [ei, less_irrefl] at this
      cases this
    have hql : q < l.length := by omega
    refine ⟨hql, ?_⟩
    by_cases e2 : i = q
    · rw [← e2]; exact ei
    · have := List.pairwise_iff_getElem.1 hup q i hql hi (by omega)
      have e3 : less (l.getD q []) h = true := by
        rw [← e]; simpa [List.getD, List.getElem?_eq_getElem hql] using this
      rw [h2 hql] at e3
      cases e3
  · rintro ⟨hq, e⟩
    rw [← e]
    simp [List.getD, List.getElem?_eq_getElem hq]
section
variable {ops : Array Oper} {rest : List Oper} {o : Oper} {a : Act} {C : World → Prop} {Q : Act → Prop}
/-- A load in a region that only reads, wanted though guarded. -/
theorem quiet_loadG (hw : Region.wanted o (yielded ops a.tmps) = true) (ty : TypeId) (x : Operand) (ho : o.op = .load ty x) (g of : Nat) (hx : a.eval x = .pointer (some ⟨g, of, none⟩)) (v : Value)
    (hr : ∀ w, C w → (loadVar ty ⟨g, of, none⟩).run Try.prog w = .ok v w) (k : wpQuiet Try.prog ops C Q rest (a.put o.dst v)) : wpQuiet Try.prog ops C Q (o :: rest) a := by
  unfold wpQuiet
  rw [if_pos hw]
  refine ⟨v, fun w hw => ?_, k⟩
  unfold Oper.quietAt execOp
  simp only [ho, hx, Instr.loadAt, Instr.sureAddr, Sem.run_bind, Sem.run_pure, Result.andThen_ok, hr w hw]
  exact ⟨rfl, rfl⟩
end
/-- The row of its sums. -/
theorem lies_own {w : World} {B g cap n : Nat} {l : List Bys} (hown : w.ownsRow B 35 32 (.slice (some ⟨g, 0, none⟩) n cap) n (rows35 l)) (h : ∀ a ∈ l, a.length = 32) (hn : n = l.length) : Lies w g l := by
  subst hn
  have hI : Inhabited Hsh := ⟨⟨List.replicate 32 0, rfl⟩⟩
  have h1 := lies_of (holds_of hown h)
  have h2 : (arrH l).toList.map (·.1) = l := by
    unfold arrH
    simp only [List.map_map]
    refine (List.map_congr_left (fun a ha => ?_)).trans (List.map_id l)
    exact toH_val (h a ha)
  rw [h2] at h1
  exact h1
/-- A row that is not empty has a block. -/
theorem own_at32 {w : World} {B n : Nat} {v : Value} {xs : List Value} (h : w.ownsRow B 35 32 v n xs) (h0 : 0 < n) : ∃ g cap, v = .slice (some ⟨g, 0, none⟩) n cap ∧ n ≤ cap := by
  rcases h.2 with ⟨_, h1⟩ | ⟨g, cap, cur, e, _, _, hc, _⟩
  · omega
  · exact ⟨g, cap, e, hc⟩
theorem own_shape32 {w : World} {B n : Nat} {v : Value} {xs : List Value} (h : w.ownsRow B 35 32 v n xs) : ∃ ao cap, v = .slice ao n cap ∧ n ≤ cap := by
  rcases h.2 with ⟨e, h1⟩ | ⟨g, cap, cur, e, _, _, hc, _⟩
  · exact ⟨_, _, by rw [e, h1], by omega⟩
  · exact ⟨_, _, e, hc⟩
theorem Ref.klen {O : Nat → Prop} {w : World} {xb room : Nat} {r : List (Bys × Bys)} (h : Ref O w xb room r) : ∀ a ∈ ks r, a.length = 32 := fun a ha => by
  obtain ⟨p, hp, rfl⟩ := List.mem_map.1 ha
  exact h.len p hp
end Go.Proofs.Ytjnogpcpekheoaa
