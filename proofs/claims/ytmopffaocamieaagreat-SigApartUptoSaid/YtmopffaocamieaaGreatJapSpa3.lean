/-
  The texts Spa, Apd, Own, joined.
-/
import Derived.Test.YtmopffaocamieaaGreatJapMty3
import Derived.Test.YtmopffaocamieaaGreatJapSmy3
import Derived.Great.BuildSlice
import Derived.Laws.OwnMore
import Derived.Test.YtmopffaocamieaaGreatJapSub4
namespace Go.Proofs.YtmopffaocamieaaGreat
open Go.RowKit

theorem flat_lenS {z : Nat} : ∀ {L : List (List Value)}, (∀ c ∈ L, c.length = z) → L.flatten.length = L.length * z
  | [], _ => by simp
  | c :: L, h => by
    rw [List.flatten_cons, List.length_append, h c (by simp), flat_lenS (fun x hx => h x (List.mem_cons_of_mem _ hx)), List.length_cons, Nat.add_mul]
    omega
theorem flat_at {z : Nat} : ∀ {L : List (List Value)}, (∀ c ∈ L, c.length = z) → ∀ (i j : Nat) (hi : i < L.length), j < z → L.flatten[i * z + j]? = L[i][j]?
  | [], _, i, _, hi, _ => by simp at hi
  | c :: L, h, 0, j, _, hj => by
    have hc := h c (by simp)
    rw [List.flatten_cons, Nat.zero_mul, Nat.zero_add, List.getElem?_append_left (by omega)]
    rfl
  | c :: L, h, i + 1, j, hi, hj => by
    have hc := h c (by simp)
    rw [List.flatten_cons, List.getElem?_append_right (by rw [hc, Nat.add_mul]; omega), hc, show (i + 1) * z + j - z = i * z + j by rw [Nat.add_mul]; omega]
    exact flat_at (fun x hx => h x (List.mem_cons_of_mem _ hx)) i j (by simpa using hi) hj
theorem flat_div {z j n : Nat} (hz : 0 < z) (h : j < n * z) : ∃ i r, i < n ∧ r < z ∧ j = i * z + r := by
  refine ⟨j / z, j % z, ?_, Nat.mod_lt _ hz, ?_⟩
  · exact Nat.div_lt_of_lt_mul (by rw [Nat.mul_comm]; exact h)
  · have := Nat.div_add_mod j z
    rw [Nat.mul_comm] at this
    omega
/-- These cells are these things. -/
structure Cel {α : Type} (z : Nat) (P : List Value → α → Prop) (L : List (List Value)) (l : List α) : Prop where
  len : L.length = l.length
  each : ∀ i (h : i < L.length) (h' : i < l.length), L[i].length = z ∧ P L[i] l[i] ∧ ∀ u ∈ L[i], u.oneCell' = true
theorem Cel.all {α : Type} {z : Nat} {P : List Value → α → Prop} {L : List (List Value)} {l : List α} (h : Cel z P L l) : ∀ c ∈ L, c.length = z := by
  intro c hc
  obtain ⟨i, hi, rfl⟩ := List.getElem_of_mem hc
  exact (h.each i hi (by rw [← h.len]; exact hi)).1
theorem Cel.ones {α : Type} {z : Nat} {P : List Value → α → Prop} {L : List (List Value)} {l : List α} (h : Cel z P L l) : ∀ u ∈ L.flatten, u.oneCell' = true := by
  intro u hu
  obtain ⟨c, hc, hu⟩ := List.mem_flatten.1 hu
  obtain ⟨i, hi, rfl⟩ := List.getElem_of_mem hc
  exact (h.each i hi (by rw [← h.len]; exact hi)).2.2 u hu
theorem Cel.mono {α : Type} {z : Nat} {P P' : List Value → α → Prop} {L : List (List Value)} {l : List α} (h : Cel z P L l) (hp : ∀ cs x, P cs x → P' cs x) : Cel z P' L l :=
  ⟨h.len, fun i h1 h2 => ⟨(h.each i h1 h2).1, hp _ _ (h.each i h1 h2).2.1, (h.each i h1 h2).2.2⟩⟩
theorem Cel.app {α : Type} {z : Nat} {P : List Value → α → Prop} {L M : List (List Value)} {l m : List α} (h : Cel z P L l) (k : Cel z P M m) : Cel z P (L ++ M) (l ++ m) := by
  refine ⟨by rw [List.length_append, List.length_append, h.len, k.len], fun i h1 h2 => ?_⟩
  have hl := h.len
  rw [List.length_append] at h1 h2
  rcases Nat.lt_or_ge i L.length with hi | hi
  · rw [List.getElem_append_left hi, List.getElem_append_left (by omega)]
    exact h.each i hi (by omega)
  · rw [List.getElem_append_right hi, List.getElem_append_right (by omega)]
    have := k.each (i - L.length) (by omega) (by omega)
    simp only [hl] at this ⊢
    exact this
theorem Cel.one {α : Type} {z : Nat} {P : List Value → α → Prop} {c : List Value} {x : α} (hl : c.length = z) (hp : P c x) (h1 : ∀ u ∈ c, u.oneCell' = true) : Cel z P [c] [x] := by
  refine ⟨rfl, fun i h _ => ?_⟩
  obtain rfl : i = 0 := by simp at h; omega
  exact ⟨hl, hp, h1⟩
theorem Cel.drop {α : Type} {z : Nat} {P : List Value → α → Prop} {L : List (List Value)} {l : List α} (h : Cel z P L l) : Cel z P (L.drop 1) (l.drop 1) := by
  refine ⟨by rw [List.length_drop, List.length_drop, h.len], fun i h1 h2 => ?_⟩
  rw [List.length_drop] at h1 h2
  rw [List.getElem_drop, List.getElem_drop]
  exact h.each (1 + i) (by omega) (by omega)
/-- What may be appended: cells that lie in a row, or nothing. -/
def Sou (w : World) (v : Value) (m : Nat) (news : List Value) : Prop :=
  ∃ ao c, v = .slice ao m c ∧ (ao = none → m = 0) ∧ ∀ j u, news[j]? = some u → ∃ b o, ao = some ⟨b, o, none⟩ ∧ w.cell? ⟨b, o + j, none⟩ = some u
theorem Sou.keep {w w' : World} {v : Value} {m : Nat} {news : List Value} (h : Sou w v m news) (hk : ∀ (p : Addr) u, w.cell? p = some u → w'.cell? p = some u) : Sou w' v m news := by
  obtain ⟨ao, c, e, h1, h2⟩ := h
  refine ⟨ao, c, e, h1, fun j u hu => ?_⟩
  obtain ⟨b, o, e, hc⟩ := h2 j u hu
  exact ⟨b, o, e, hk _ _ hc⟩
theorem Ar.cel {α : Type} {z bz : Nat} (hz : 0 < z) {P : List Value → α → Prop} {K : Ctx} {w : World} {v : Value} {l : List α} (h : Ar z bz P K w v l) (h1 : ∀ cs x, P cs x → ∀ u ∈ cs, u.oneCell' = true) :
    ∃ L, Cel z P L l ∧ ∃ ao cap, v = .slice ao l.length cap ∧ l.length ≤ cap ∧ (ao = none → l.length = 0) ∧ (∀ j u, L.flatten[j]? = some u → ∃ b o, ao = some ⟨b, o, none⟩ ∧ b < K.C ∧ w.cell? ⟨b, o + j, none⟩ = some u) := by
  obtain ⟨ao, cap, e, hc, hb, hA⟩ := h.shape
  have key : ∀ i, ∃ cs : List Value, ∀ (hi : i < l.length), cs.length = z ∧ P cs l[i] ∧ ∃ b o, ao = some ⟨b, o, none⟩ ∧ b < K.C ∧ ∀ j, j < z → w.cell? ⟨b, o + i * z + j, none⟩ = cs[j]? := by
    intro i
    by_cases hi : i < l.length
    · obtain ⟨b, o, e, hbC, cs, hl, hcs, hp⟩ := hA i hi
      exact ⟨cs, fun _ => ⟨hl, hp, b, o, e, hbC, hcs⟩⟩
    · exact ⟨[], fun h => absurd h hi⟩
  obtain ⟨q, hq⟩ : ∃ q : Nat → List Value, ∀ i (hi : i < l.length), (q i).length = z ∧ P (q i) l[i] ∧ ∃ b o, ao = some ⟨b, o, none⟩ ∧ b < K.C ∧ ∀ j, j < z → w.cell? ⟨b, o + i * z + j, none⟩ = (q i)[j]? :=
    ⟨fun i => (key i).choose, fun i hi => (key i).choose_spec hi⟩
  have hC : Cel z P ((List.range l.length).map q) l := by
    refine ⟨by simp, fun i h1' h2' => ?_⟩
    obtain ⟨a1, a2, _⟩ := hq i h2'
    simp only [List.getElem_map, List.getElem_range]
    exact ⟨a1, a2, h1 _ _ a2⟩
  refine ⟨_, hC, ao, cap, e, hc, fun hn => ?_, fun j u hu => ?_⟩
  · rcases Nat.eq_zero_or_pos l.length with h0 | h0
    · exact h0
    · obtain ⟨b, o, e', _⟩ := hA 0 h0
      rw [hn] at e'; cases e'
  · have hjl : j < l.length * z := by
      have := (List.getElem?_eq_some_iff.1 hu).1
      rw [flat_lenS hC.all] at this
      simpa using this
    obtain ⟨i, r, hi, hr, rfl⟩ := flat_div hz hjl
    obtain ⟨a1, a2, b, o, e', hbC, hcs⟩ := hq i hi
    rw [flat_at hC.all i r (by simpa using hi) hr] at hu
    simp only [List.getElem_map, List.getElem_range] at hu
    refine ⟨b, o, e', hbC, ?_⟩
    rw [← hu, ← hcs r hr, Nat.add_assoc]
/-- A row of one's own holds these things. -/
theorem ar_own {α : Type} {z bz B el : Nat} {P : List Value → α → Prop} {K : Ctx} {w : World} {v : Value} {L : List (List Value)} {l : List α} (hc : Cel z P L l) (h : w.ownsRow B el z v l.length L.flatten) (hK : w.heap.size ≤ K.C) (hb : l.length * bz ≤ 140737488355328) : Ar z bz P K w v l := by
  obtain ⟨hlen, h⟩ := h
  rcases h with ⟨rfl, h0⟩ | ⟨g, cap, cur, rfl, hg, hh, h1, h2, h3, h4⟩
  · have : l = [] := List.length_eq_zero_iff.1 h0
    subst this
    exact nil_ar
  · have hR : Row w g el cur.toList := ⟨by simpa using hh⟩
    refine ⟨some ⟨g, 0, none⟩, cap, rfl, h1, hb, fun i hi => ?_⟩
    have hi' : i < L.length := by rw [hc.len]; exact hi
    obtain ⟨a1, a2, _⟩ := hc.each i hi' hi
    refine ⟨g, 0, rfl, Nat.lt_of_lt_of_le hR.lt hK, L[i], a1, fun j hj => ?_, a2⟩
    have e1 := flat_at hc.all i j hi' hj
    rw [← e1, Nat.zero_add, hR.cell]
    have h5 : (cur.toList.take (l.length * z))[i * z + j]? = L.flatten[i * z + j]? := by rw [h4]
    have hlt : i * z + j < l.length * z := by
      have : (i + 1) * z ≤ l.length * z := Nat.mul_le_mul_right _ hi
      rw [Nat.add_mul] at this
      omega
    rw [List.getElem?_take_of_lt hlt] at h5
    exact h5
/-- One row behind another. -/
theorem run_appS {w : World} {B t e z bz ty n m : Nat} {Z : Value} {v u : Value} {xs news : List Value} (hu : Tryz.prog.underlying t = some (.slice e)) (hz : (Tryz.prog.info? e).map (fun i => (i.zero, i.size, i.bytes)) = some (some Z, z, bz)) (hZ : Z.cells.size = z) (h0 : 0 < z)
    (hown : w.ownsRow B e z v n xs) (hB : B ≤ w.heap.size) (hs : Sou w u m news) (hl : news.length = m * z) (h1 : ∀ x ∈ news, x.oneCell' = true) (hn : n + m ≤ 100000) (hbz : bz ≤ 1000) :
    ∃ v' w', (Builtin.append_ #[t, t] ty #[v, u]).run Tryz.prog w = .ok v' w' ∧ w'.ownsRow B e z v' (n + m) (xs ++ news) ∧ w.grownBy w' v.ownBlock := by
  obtain ⟨i0, hi, hz0, hz1, hz2⟩ := info_parts hz
  obtain ⟨ao, c, rfl, hno, hcell⟩ := hs
  cases ao with
  | none =>
    obtain rfl := hno rfl
    obtain rfl : news = [] := List.length_eq_zero_iff.1 (by rw [hl]; omega)
    refine ⟨v, w, ?_, by simpa using hown, ⟨rfl, rfl, rfl, Nat.le_refl _, fun _ _ _ => rfl⟩⟩
    rcases hown.2 with ⟨rfl, rfl⟩ | ⟨g, cap, cur, rfl, _, _, hnc, _⟩
    · simp [Builtin.append_, run_underlying hu, sizeOf, typeInfo, hi, Builtin.lenOf, Builtin.firstCells]
    · simp [Builtin.append_, run_underlying hu, sizeOf, typeInfo, hi, Builtin.lenOf, Builtin.firstCells, hnc, storeCells]
  | some ad =>
    obtain ⟨v', w', hrr, h2, h3, _⟩ := run_append_own_at (P := Tryz.prog) w B t ty e i0 Z z bz hu hi hz0 hz1 hz2 hZ h0 _ _ _ hown ad m c news hl (fun j x hj => by
      obtain ⟨b, o, e', hc⟩ := hcell j x hj
      cases e'
      rw [addr_add]; exact hc) h1 (by unfold maxLen; omega) (by
        have : (n + m) * bz ≤ 100000 * 1000 := Nat.mul_le_mul hn hbz
        omega) hB
    exact ⟨v', w', hrr, h2, h3⟩
theorem wpo_appS {o : Oper} {a : Act} {K : Act → World → Prop} {Q : Exit → Act → World → Prop} {w : World} {B t e z bz n m : Nat} {Z : Value} {v u : Value} {xs news : List Value} (s x : Operand) (ho : o.op = .call { callee := .builtin .append, args := #[s, x], argTypes := #[t, t] })
    (hu : Tryz.prog.underlying t = some (.slice e)) (hz : (Tryz.prog.info? e).map (fun i => (i.zero, i.size, i.bytes)) = some (some Z, z, bz)) (hZ : Z.cells.size = z) (h0 : 0 < z) (hs : a.eval s = v) (hx : a.eval x = u)
    (hown : w.ownsRow B e z v n xs) (hB : B ≤ w.heap.size) (hsr : Sou w u m news) (hl : news.length = m * z) (h1 : ∀ x ∈ news, x.oneCell' = true) (hn : n + m ≤ 100000) (hbz : bz ≤ 1000)
    (k : ∀ v' w', w'.ownsRow B e z v' (n + m) (xs ++ news) → w.grownBy w' v.ownBlock → K (a.put o.dst v') w') : Oper.wp Tryz.prog o a w K Q := by
  obtain ⟨v', w', hrr, h2, h3⟩ := run_appS (ty := o.type) hu hz hZ h0 hown hB hsr hl h1 hn hbz
  unfold Oper.wp execOp
  simp only [ho, resolve, invoke, builtin, Sem.run_bind, Sem.run_pure, Result.andThen_ok, List.map_toArray, List.map_cons, List.map_nil, hs, hx, hrr]
  exact k v' w' h2 h3
end Go.Proofs.YtmopffaocamieaaGreat

namespace Go.Proofs.YtmopffaocamieaaGreat
open Go.RowKit

theorem hidA {p : Prop} (h : p) : Hid p := h
theorem Tryz.info58z : (Tryz.prog.info? 58).map (fun i => (i.zero, i.size, i.bytes)) = some (some (.agg [Value.bool false, .string (str []), .slice none 0 0, .slice none 0 0, .int .i64 0].toArray), 5, 80) := by kernel_rfl
theorem Tryz.info65z : (Tryz.prog.info? 65).map (fun i => (i.zero, i.size, i.bytes)) = some (some (.agg (Value.bool false :: .string (str []) :: .slice none 0 0 :: .slice none 0 0 :: (tyCells 0 ++ [.slice none 0 0, .int .i64 0])).toArray), 10, 176) := by kernel_rfl
theorem bsliceL {ops : Array Oper} {rest : List Oper} {o : Oper} {a : Act} {w : World} {Q : Exit → Act → World → Prop} (hgd : o.guard = none) (ty el sz bz : Nat) (Z : List Value) (x : Operand) (ho : o.op = .buildSlice ty 1 #[(0, x)])
    (hu : Tryz.prog.underlying ty = some (.slice el)) (hz : (Tryz.prog.info? el).map (fun i => (i.zero, i.size, i.bytes)) = some (some (.agg Z.toArray), sz, bz)) (h1 : 0 < sz) (h2 : sz ≤ 1000)
    (cs : List Value) (hl : cs.length = sz) (hx : a.eval x = .agg cs.toArray)
    (k : ∀ w', Row w' w.heap.size el cs → Below w.heap.size w w' → w.heap.size < w'.heap.size → wpList Tryz.prog ops Q rest (a.put o.dst (.slice (some ⟨w.heap.size, 0, none⟩) 1 1)) w') : wpList Tryz.prog ops Q (o :: rest) a w := by
  obtain ⟨i0, hi, hz0, hz1, hz2⟩ := info_parts hz
  refine wpList_plain hgd fun _ hK => wp_buildSlice ty el 1 _ ho cs.toArray i0 (.agg Z.toArray) hu hi hz0 (by rw [hz1]; omega) (by rw [hz1]; omega) ?_ (hK _ _ (k _ (Row.new w el cs) (alloc_one _ _) (by rw [size_alloc]; omega)))
  have hw := Go.Great.fill_whole (s := sz) h1 [.agg cs.toArray] ((Array.range (1 * sz)).map ((Value.agg Z.toArray).cells[· % (Value.agg Z.toArray).cells.size]!)) (by simp [Value.cells, hl]) (by simp)
  rw [hz1]
  simp only [List.map_toArray, List.map_cons, List.map_nil, hx]
  simp only [List.zipIdx_cons, List.zipIdx_nil, List.map_cons, List.map_nil] at hw
  refine Eq.trans hw ?_
  simp [Value.cells]
theorem grown_le {w w' : World} {C : Nat} {r : Option Nat} (h : w.grownBy w' r) (hB : C ≤ w.heap.size) (hr : ∀ k, r = some k → C ≤ k) : Below C w w' := (Below.refl C w).grown h hB hr
theorem own_slice {w : World} {B t s n : Nat} {v : Value} {xs : List Value} (h : w.ownsRow B t s v n xs) : ∃ ao cap, v = .slice ao n cap := by
  rcases h.2 with ⟨e, h0⟩ | ⟨g, cap, cur, e, _⟩
  · exact ⟨_, _, by rw [e, h0]⟩
  · exact ⟨_, _, e⟩
theorem wpl_appS {ops : Array Oper} {rest : List Oper} {o : Oper} {a : Act} {Q : Exit → Act → World → Prop} {w : World} {B t e z bz n m : Nat} {Z : Value} {v u : Value} {xs news : List Value} (hgd : o.guard = none) (s x : Operand) (ho : o.op = .call { callee := .builtin .append, args := #[s, x], argTypes := #[t, t] })
    (hu : Tryz.prog.underlying t = some (.slice e)) (hz : (Tryz.prog.info? e).map (fun i => (i.zero, i.size, i.bytes)) = some (some Z, z, bz)) (hZ : Z.cells.size = z) (h0 : 0 < z) (hs : a.eval s = v) (hx : a.eval x = u)
    (hown : w.ownsRow B e z v n xs) (hB : B ≤ w.heap.size) (hsr : Sou w u m news) (hl : news.length = m * z) (h1 : ∀ x ∈ news, x.oneCell' = true) (hn : n + m ≤ 100000) (hbz : bz ≤ 1000)
    (k : ∀ v' w', w'.ownsRow B e z v' (n + m) (xs ++ news) → Below B w w' → (∃ ao c, v' = .slice ao (n + m) c) → wpList Tryz.prog ops Q rest (a.put o.dst v') w') : wpList Tryz.prog ops Q (o :: rest) a w :=
  wpList_plain hgd fun _ hK => wpo_appS s x ho hu hz hZ h0 hs hx hown hB hsr hl h1 hn hbz (fun v' w' h2 h3 => hK _ _ (k v' w' h2 (grown_le h3 hB (fun k e => (hown.lt k e).1)) (own_slice h2)))
end Go.Proofs.YtmopffaocamieaaGreat

namespace Go.Proofs.YtmopffaocamieaaGreat
open Go.RowKit

structure ArQ {α : Type} (z bz : Nat) (P : List Value → α → Prop) (Q : Nat → Prop) (w : World) (v : Value) (l : List α) : Prop where
  shape : ∃ ao cap, v = .slice ao l.length cap ∧ l.length ≤ cap ∧ l.length * bz ≤ 140737488355328 ∧
    ∀ i (h : i < l.length), ∃ b o, ao = some ⟨b, o, none⟩ ∧ Q b ∧ ∃ cs, cs.length = z ∧ (∀ j, j < z → w.cell? ⟨b, o + i * z + j, none⟩ = cs[j]?) ∧ P cs l[i]
/-- What stays: the blocks of Q are as they were. -/
structure Kp (Q Q' : Nat → Prop) (w w' : World) : Prop where
  sub : ∀ b, Q b → Q' b
  blk : ∀ b, Q b → w'.heap[b]? = w.heap[b]?
theorem Kp.cell {Q Q' : Nat → Prop} {w w' : World} (h : Kp Q Q' w w') {b o : Nat} (hb : Q b) : w'.cell? ⟨b, o, none⟩ = w.cell? ⟨b, o, none⟩ := by
  unfold World.cell?
  simp only [h.blk b hb]
theorem ArQ.mono {α : Type} {z bz : Nat} {P P' : List Value → α → Prop} {Q Q' : Nat → Prop} {w w' : World} {v : Value} {l : List α} (h : ArQ z bz P Q w v l)
    (hk : Kp Q Q' w w') (hp : ∀ cs x, x ∈ l → P cs x → P' cs x) : ArQ z bz P' Q' w' v l := by
  obtain ⟨ao, cap, e, h1, h2, h3⟩ := h.shape
  refine ⟨ao, cap, e, h1, h2, fun i hi => ?_⟩
  obtain ⟨b, o, e1, hc, cs, hl, hcs, hq⟩ := h3 i hi
  refine ⟨b, o, e1, hk.sub b hc, cs, hl, fun j hj => ?_, hp _ _ (List.getElem_mem hi) hq⟩
  rw [hk.cell hc]
  exact hcs j hj
theorem ArQ.to {α : Type} {z bz : Nat} {P P' : List Value → α → Prop} {Q : Nat → Prop} {K : Ctx} {w : World} {v : Value} {l : List α} (h : ArQ z bz P Q w v l)
    (hk : ∀ b, Q b → b < K.C) (hp : ∀ cs x, x ∈ l → P cs x → P' cs x) : Ar z bz P' K w v l := by
  obtain ⟨ao, cap, e, h1, h2, h3⟩ := h.shape
  refine ⟨ao, cap, e, h1, h2, fun i hi => ?_⟩
  obtain ⟨b, o, e1, hc, cs, hl, hcs, hq⟩ := h3 i hi
  exact ⟨b, o, e1, hk b hc, cs, hl, hcs, hp _ _ (List.getElem_mem hi) hq⟩
theorem Ar.toQ {α : Type} {z bz : Nat} {P P' : List Value → α → Prop} {Q : Nat → Prop} {K : Ctx} {w : World} {v : Value} {l : List α} (h : Ar z bz P K w v l)
    (hk : ∀ b, b < K.C → Q b) (hp : ∀ cs x, x ∈ l → P cs x → P' cs x) : ArQ z bz P' Q w v l := by
  obtain ⟨ao, cap, e, h1, h2, h3⟩ := h.shape
  refine ⟨ao, cap, e, h1, h2, fun i hi => ?_⟩
  obtain ⟨b, o, e1, hc, cs, hl, hcs, hq⟩ := h3 i hi
  exact ⟨b, o, e1, hk b hc, cs, hl, hcs, hp _ _ (List.getElem_mem hi) hq⟩
theorem nil_arQ {α : Type} {z bz : Nat} {P : List Value → α → Prop} {Q : Nat → Prop} {w : World} : ArQ z bz P Q w (.slice none 0 0) ([] : List α) := ⟨none, 0, rfl, Nat.le_refl _, by simp, fun _ h => by cases h⟩
theorem ArQ.form {α : Type} {z bz : Nat} {P : List Value → α → Prop} {Q : Nat → Prop} {w : World} {v : Value} {l : List α} (h : ArQ z bz P Q w v l) : ∃ ao cap, v = .slice ao l.length cap := by
  obtain ⟨ao, cap, e, _⟩ := h.shape; exact ⟨ao, cap, e⟩

def TxQ (B : Nat) (cs : List Value) (s : Bs) : Prop := cs = [.string (str s)] ∧ s.length ≤ B
def StrQ (Q : Nat → Prop) (B : Nat) (w : World) (v : Value) (l : List Bs) : Prop := ArQ 1 16 (TxQ B) Q w v l
def TyQ : Nat → (Nat → Prop) → Nat → World → List Value → Ty → Prop
  | 0, _, _, _, _, _ => False
  | n + 1, Q, B, w, cs, t => ∃ v2 v3, cs = [.int .i64 t.kind, .string (str t.name), v2, v3] ∧ t.name.length ≤ B ∧ StrQ Q B w v2 t.lives ∧ ArQ 4 72 (TyQ n Q B w) Q w v3 t.elem
def IsTyQ (Q : Nat → Prop) (B : Nat) (w : World) (cs : List Value) (t : Ty) : Prop := ∃ n, TyQ n Q B w cs t
def PlQ (Q : Nat → Prop) (B : Nat) (w : World) (cs : List Value) (p : Pl) : Prop :=
  ∃ v1, cs = [.string (str p.name), v1] ∧ p.name.length ≤ B ∧ StrQ Q B w v1 p.path
def OprQ (Q : Nat → Prop) (B : Nat) (w : World) (cs : List Value) (x : Opr) : Prop :=
  ∃ ps, cs = .int .i64 x.kind :: .int .i64 x.n :: ps ∧ PlQ Q B w ps x.place
def VaQ (Q : Nat → Prop) (B : Nat) (w : World) (cs : List Value) (x : Va) : Prop :=
  ∃ xa xb ps vn va, cs = .int .i64 x.kind :: (xa ++ (xb ++ (.int .i64 x.op :: (ps ++ [.string (str x.name), vn, va])))) ∧
    OprQ Q B w xa x.a ∧ OprQ Q B w xb x.b ∧ PlQ Q B w ps x.place ∧ x.name.length ≤ B ∧ StrQ Q B w vn x.names ∧ ArQ 4 56 (OprQ Q B w) Q w va x.args
def StQ : Nat → (Nat → Prop) → Nat → World → List Value → St → Prop
  | 0, _, _, _, _, _ => False
  | n + 1, Q, B, w, cs, s => ∃ ts ps vs os vt ve, cs = .int .i64 s.kind :: .int .i64 s.pos :: .bool s.mu :: .string (str s.name) :: (ts ++ (.bool s.has :: (ps ++ (vs ++ (os ++ [vt, ve]))))) ∧
    s.name.length ≤ B ∧ IsTyQ Q B w ts s.ty ∧ PlQ Q B w ps s.place ∧ VaQ Q B w vs s.val ∧ OprQ Q B w os s.cond ∧ ArQ 32 496 (StQ n Q B w) Q w vt s.thn ∧ ArQ 32 496 (StQ n Q B w) Q w ve s.els
def LfeQ (Q : Nat → Prop) (B : Nat) (w : World) (cs : List Value) (x : Lfe) : Prop :=
  ∃ v1, cs = [.string (str x.name), v1] ∧ x.name.length ≤ B ∧ StrQ Q B w v1 x.over
def FldQ (Q : Nat → Prop) (B : Nat) (w : World) (cs : List Value) (x : Fld) : Prop :=
  ∃ ts, cs = .bool x.mu :: .string (str x.name) :: ts ∧ x.name.length ≤ B ∧ IsTyQ Q B w ts x.ty
def SctQ (Q : Nat → Prop) (B : Nat) (w : World) (cs : List Value) (x : Sct) : Prop :=
  ∃ v2 v3, cs = [.bool x.pub, .string (str x.name), v2, v3, .int .i64 x.pos] ∧ x.name.length ≤ B ∧ StrQ Q B w v2 x.lives ∧ ArQ 6 96 (FldQ Q B w) Q w v3 x.fields
def FncQ (n : Nat) (Q : Nat → Prop) (B : Nat) (w : World) (cs : List Value) (x : Fnc) : Prop :=
  ∃ v2 v3 ts v8, cs = .bool x.pub :: .string (str x.name) :: v2 :: v3 :: (ts ++ [v8, .int .i64 x.pos]) ∧ x.name.length ≤ B ∧
    ArQ 2 40 (LfeQ Q B w) Q w v2 x.lives ∧ ArQ 6 96 (FldQ Q B w) Q w v3 x.params ∧ IsTyQ Q B w ts x.result ∧ ArQ 32 496 (StQ n Q B w) Q w v8 x.body
def CrtQ (n : Nat) (Q : Nat → Prop) (B : Nat) (w : World) (cs : List Value) (x : Crt) : Prop :=
  ∃ v0 v1, cs = [v0, v1] ∧ ArQ 5 80 (SctQ Q B w) Q w v0 x.structs ∧ ArQ 10 176 (FncQ n Q B w) Q w v1 x.funcs
section
variable {Q Q' : Nat → Prop} {B : Nat} {w w' : World}
theorem StrQ.mono {v : Value} {l : List Bs} (h : StrQ Q B w v l) (hk : Kp Q Q' w w') : StrQ Q' B w' v l := ArQ.mono h hk fun _ _ _ h => h
theorem TyQ.mono (hk : Kp Q Q' w w') : ∀ {n : Nat} {cs : List Value} {t : Ty}, TyQ n Q B w cs t → TyQ n Q' B w' cs t
  | 0, _, _, h => h.elim
  | n + 1, _, _, h => by
    obtain ⟨v2, v3, e, h1, h2, h3⟩ := h
    exact ⟨v2, v3, e, h1, h2.mono hk, h3.mono hk fun _ _ _ h => TyQ.mono hk h⟩
theorem IsTyQ.mono {cs : List Value} {t : Ty} (h : IsTyQ Q B w cs t) (hk : Kp Q Q' w w') : IsTyQ Q' B w' cs t := by obtain ⟨n, h⟩ := h; exact ⟨n, h.mono hk⟩
theorem PlQ.mono {cs : List Value} {t : Pl} (h : PlQ Q B w cs t) (hk : Kp Q Q' w w') : PlQ Q' B w' cs t := by obtain ⟨v1, e, h1, h2⟩ := h; exact ⟨v1, e, h1, h2.mono hk⟩
theorem OprQ.mono {cs : List Value} {t : Opr} (h : OprQ Q B w cs t) (hk : Kp Q Q' w w') : OprQ Q' B w' cs t := by obtain ⟨v1, e, h1⟩ := h; exact ⟨v1, e, h1.mono hk⟩
theorem VaQ.mono {cs : List Value} {t : Va} (h : VaQ Q B w cs t) (hk : Kp Q Q' w w') : VaQ Q' B w' cs t := by
  obtain ⟨xa, xb, ps, vn, va, e, h1, h2, h3, h4, h5, h6⟩ := h
  exact ⟨xa, xb, ps, vn, va, e, h1.mono hk, h2.mono hk, h3.mono hk, h4, h5.mono hk, h6.mono hk fun _ _ _ h => h.mono hk⟩
theorem StQ.mono (hk : Kp Q Q' w w') : ∀ {n : Nat} {cs : List Value} {t : St}, StQ n Q B w cs t → StQ n Q' B w' cs t
  | 0, _, _, h => h.elim
  | n + 1, _, _, h => by
    obtain ⟨ts, ps, vs, os, vt, ve, e, h1, h2, h3, h4, h5, h6, h7⟩ := h
    exact ⟨ts, ps, vs, os, vt, ve, e, h1, h2.mono hk, h3.mono hk, h4.mono hk, h5.mono hk, h6.mono hk fun _ _ _ h => StQ.mono hk h, h7.mono hk fun _ _ _ h => StQ.mono hk h⟩
theorem LfeQ.mono {cs : List Value} {t : Lfe} (h : LfeQ Q B w cs t) (hk : Kp Q Q' w w') : LfeQ Q' B w' cs t := by obtain ⟨v1, e, h1, h2⟩ := h; exact ⟨v1, e, h1, h2.mono hk⟩
theorem FldQ.mono {cs : List Value} {t : Fld} (h : FldQ Q B w cs t) (hk : Kp Q Q' w w') : FldQ Q' B w' cs t := by obtain ⟨v1, e, h1, h2⟩ := h; exact ⟨v1, e, h1, h2.mono hk⟩
theorem SctQ.mono {cs : List Value} {t : Sct} (h : SctQ Q B w cs t) (hk : Kp Q Q' w w') : SctQ Q' B w' cs t := by
  obtain ⟨v2, v3, e, h1, h2, h3⟩ := h; exact ⟨v2, v3, e, h1, h2.mono hk, h3.mono hk fun _ _ _ h => h.mono hk⟩
theorem FncQ.mono {n : Nat} {cs : List Value} {t : Fnc} (h : FncQ n Q B w cs t) (hk : Kp Q Q' w w') : FncQ n Q' B w' cs t := by
  obtain ⟨v2, v3, ts, v8, e, h1, h2, h3, h4, h5⟩ := h
  exact ⟨v2, v3, ts, v8, e, h1, h2.mono hk fun _ _ _ h => h.mono hk, h3.mono hk fun _ _ _ h => h.mono hk, h4.mono hk, h5.mono hk fun _ _ _ h => StQ.mono hk h⟩
theorem CrtQ.mono {n : Nat} {cs : List Value} {t : Crt} (h : CrtQ n Q B w cs t) (hk : Kp Q Q' w w') : CrtQ n Q' B w' cs t := by
  obtain ⟨v0, v1, e, h1, h2⟩ := h; exact ⟨v0, v1, e, h1.mono hk fun _ _ _ h => h.mono hk, h2.mono hk fun _ _ _ h => h.mono hk⟩
variable {K : Ctx}
theorem StrQ.to {v : Value} {l : List Bs} (h : StrQ Q K.B w v l) (hk : ∀ b, Q b → b < K.C) : Strs K w v l := ArQ.to h hk fun _ _ _ h => h
theorem TyQ.to (hk : ∀ b, Q b → b < K.C) : ∀ {n : Nat} {cs : List Value} {t : Ty}, TyQ n Q K.B w cs t → TyAt n K w cs t
  | 0, _, _, h => h.elim
  | n + 1, _, _, h => by
    obtain ⟨v2, v3, e, h1, h2, h3⟩ := h
    exact ⟨v2, v3, e, h1, h2.to hk, h3.to hk fun _ _ _ h => TyQ.to hk h⟩
theorem IsTyQ.to {cs : List Value} {t : Ty} (h : IsTyQ Q K.B w cs t) (hk : ∀ b, Q b → b < K.C) : IsTy K w cs t := by obtain ⟨n, h⟩ := h; exact ⟨n, h.to hk⟩
theorem PlQ.to {cs : List Value} {t : Pl} (h : PlQ Q K.B w cs t) (hk : ∀ b, Q b → b < K.C) : PlAt K w cs t := by obtain ⟨v1, e, h1, h2⟩ := h; exact ⟨v1, e, h1, h2.to hk⟩
theorem OprQ.to {cs : List Value} {t : Opr} (h : OprQ Q K.B w cs t) (hk : ∀ b, Q b → b < K.C) : OprAt K w cs t := by obtain ⟨v1, e, h1⟩ := h; exact ⟨v1, e, h1.to hk⟩
theorem VaQ.to {cs : List Value} {t : Va} (h : VaQ Q K.B w cs t) (hk : ∀ b, Q b → b < K.C) : VaAt K w cs t := by
  obtain ⟨xa, xb, ps, vn, va, e, h1, h2, h3, h4, h5, h6⟩ := h
  exact ⟨xa, xb, ps, vn, va, e, h1.to hk, h2.to hk, h3.to hk, h4, h5.to hk, h6.to hk fun _ _ _ h => h.to hk⟩
theorem StQ.to (hk : ∀ b, Q b → b < K.C) : ∀ {n : Nat} {cs : List Value} {t : St}, StQ n Q K.B w cs t → StAt n K w cs t
  | 0, _, _, h => h.elim
  | n + 1, _, _, h => by
    obtain ⟨ts, ps, vs, os, vt, ve, e, h1, h2, h3, h4, h5, h6, h7⟩ := h
    exact ⟨ts, ps, vs, os, vt, ve, e, h1, h2.to hk, h3.to hk, h4.to hk, h5.to hk, h6.to hk fun _ _ _ h => StQ.to hk h, h7.to hk fun _ _ _ h => StQ.to hk h⟩
theorem LfeQ.to {cs : List Value} {t : Lfe} (h : LfeQ Q K.B w cs t) (hk : ∀ b, Q b → b < K.C) : LfeAt K w cs t := by obtain ⟨v1, e, h1, h2⟩ := h; exact ⟨v1, e, h1, h2.to hk⟩
theorem FldQ.to {cs : List Value} {t : Fld} (h : FldQ Q K.B w cs t) (hk : ∀ b, Q b → b < K.C) : FldAt K w cs t := by obtain ⟨v1, e, h1, h2⟩ := h; exact ⟨v1, e, h1, h2.to hk⟩
theorem SctQ.to {cs : List Value} {t : Sct} (h : SctQ Q K.B w cs t) (hk : ∀ b, Q b → b < K.C) : SctAt K w cs t := by
  obtain ⟨v2, v3, e, h1, h2, h3⟩ := h; exact ⟨v2, v3, e, h1, h2.to hk, h3.to hk fun _ _ _ h => h.to hk⟩
theorem FncQ.to {n : Nat} {cs : List Value} {t : Fnc} (h : FncQ n Q K.B w cs t) (hk : ∀ b, Q b → b < K.C) : FncAt n K w cs t := by
  obtain ⟨v2, v3, ts, v8, e, h1, h2, h3, h4, h5⟩ := h
  exact ⟨v2, v3, ts, v8, e, h1, h2.to hk fun _ _ _ h => h.to hk, h3.to hk fun _ _ _ h => h.to hk, h4.to hk, h5.to hk fun _ _ _ h => StQ.to hk h⟩
theorem CrtQ.to {n : Nat} {cs : List Value} {t : Crt} (h : CrtQ n Q K.B w cs t) (hk : ∀ b, Q b → b < K.C) : CrtAt n K w cs t := by
  obtain ⟨v0, v1, e, h1, h2⟩ := h; exact ⟨v0, v1, e, h1.to hk fun _ _ _ h => h.to hk, h2.to hk fun _ _ _ h => h.to hk⟩
end
/-- The blocks that are new since w. -/
def Fr (w w' : World) (b : Nat) : Prop := w.heap.size ≤ b ∧ b < w'.heap.size
/-- What is new stays, while one elder block turns. -/
theorem Kp.fr {w0 w a b : World} {g : Nat} (h : Stay (fun k => k = g) a b) (hg : g < w.heap.size) (h0 : w0.heap.size ≤ w.heap.size) : Kp (Fr w a) (Fr w0 b) a b :=
  ⟨fun k hk => ⟨Nat.le_trans h0 hk.1, Nat.lt_of_lt_of_le hk.2 h.size⟩, fun k hk => h.block k hk.2 (fun e => by have := hk.1; omega)⟩
theorem Kp.fr' {w0 w a : World} (h0 : w0.heap.size ≤ w.heap.size) : Kp (Fr w a) (Fr w0 a) a a := ⟨fun _ hk => ⟨Nat.le_trans h0 hk.1, hk.2⟩, fun _ _ => rfl⟩
end Go.Proofs.YtmopffaocamieaaGreat
