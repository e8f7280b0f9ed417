/-
  The texts Spa, Apd, Lxa, joined.
-/
import Derived.Test.YtldbbkheemnnhaaGreatDoorJpBas5
import Derived.Test.YtldbbkheemnnhaaGreatDoorJpYpa3
import Derived.Great.BuildSlice
import Derived.Laws.OwnMore
import Derived.Test.YtldbbkheemnnhaaGreatDoorJpByt5
import Derived.Laws.StructEq
namespace Go.Proofs.YtldbbkheemnnhaaGreatDoor
open Go.RowKit
theorem flat_lenS {z : Nat} : ∀ {L : List (List Value)}, (∀ c ∈ L, c.length = z) -> L.flatten.length = L.length * z
 | [], _ => by simp
 | c :: L, h => by
  rw [List.flatten_cons, List.length_append, h c (by simp), flat_lenS (fun x hx => h x (List.mem_cons_of_mem _ hx)), List.length_cons, Nat.add_mul]
  omega
theorem flat_at {z : Nat} : ∀ {L : List (List Value)}, (∀ c ∈ L, c.length = z) -> ∀ (i j : Nat) (hi : i < L.length), j < z -> L.flatten[i * z + j]? = L[i][j]?
 | [], _, i, _, hi, _ => by simp at hi
 | c :: L, h, 0, j, _, hj => by
  have hc := h c (by simp)
  rw [List.flatten_cons, Nat.zero_mul, Nat.zero_add, List.getElem?_append_left (by omega)]
  rfl
 | c :: L, h, i + 1, j, hi, hj => by
  have hc := h c (by simp)
  rw [List.flatten_cons, List.getElem?_append_right (by rw [hc, Nat.add_mul]; omega), hc, show (i + 1) * z + j - z = i * z + j by rw [Nat.add_mul]; omega]
  exact flat_at (fun x hx => h x (List.mem_cons_of_mem _ hx)) i j (by simpa using hi) hj
theorem flat_div {z j n : Nat} (hz : 0 < z) (h : j < n * z) : ∃ i r, i < n /\ r < z /\ j = i * z + r := by
 refine ⟨j / z, j % z, ?_, Nat.mod_lt _ hz, ?_⟩
 ·exact Nat.div_lt_of_lt_mul (by rw [Nat.mul_comm]; exact h)
 ·have := Nat.div_add_mod j z
  rw [Nat.mul_comm] at this
  omega
structure Cel {α : Type} (z : Nat) (P : List Value -> α -> Prop) (L : List (List Value)) (l : List α) : Prop where
 len : L.length = l.length
 each : ∀ i (h : i < L.length) (h' : i < l.length), L[i].length = z /\ P L[i] l[i] /\ ∀ u ∈ L[i], u.oneCell' = true
theorem Cel.all {α : Type} {z : Nat} {P : List Value -> α -> Prop} {L : List (List Value)} {l : List α} (h : Cel z P L l) : ∀ c ∈ L, c.length = z := by
 intro c hc
 obtain ⟨i, hi, rfl⟩ := List.getElem_of_mem hc
 exact (h.each i hi (by rw [← h.len]; exact hi)).1
theorem Cel.ones {α : Type} {z : Nat} {P : List Value -> α -> Prop} {L : List (List Value)} {l : List α} (h : Cel z P L l) : ∀ u ∈ L.flatten, u.oneCell' = true := by
 intro u hu
 obtain ⟨c, hc, hu⟩ := List.mem_flatten.1 hu
 obtain ⟨i, hi, rfl⟩ := List.getElem_of_mem hc
 exact (h.each i hi (by rw [← h.len]; exact hi)).2.2 u hu
theorem Cel.mono {α : Type} {z : Nat} {P P' : List Value -> α -> Prop} {L : List (List Value)} {l : List α} (h : Cel z P L l) (hp : ∀ cs x, P cs x -> P' cs x) : Cel z P' L l :=
 ⟨h.len, fun i h1 h2 => ⟨(h.each i h1 h2).1, hp _ _ (h.each i h1 h2).2.1, (h.each i h1 h2).2.2⟩⟩
theorem Cel.app {α : Type} {z : Nat} {P : List Value -> α -> Prop} {L M : List (List Value)} {l m : List α} (h : Cel z P L l) (k : Cel z P M m) : Cel z P (L ++ M) (l ++ m) := by
 refine ⟨by rw [List.length_append, List.length_append, h.len, k.len], fun i h1 h2 => ?_⟩
 have hl := h.len
 rw [List.length_append] at h1 h2
 rcases Nat.lt_or_ge i L.length with hi | hi
 ·rw [List.getElem_append_left hi, List.getElem_append_left (by omega)]
  exact h.each i hi (by omega)
 ·rw [List.getElem_append_right hi, List.getElem_append_right (by omega)]
  have := k.each (i - L.length) (by omega) (by omega)
  simp only [hl] at this ⊢
  exact this
theorem Cel.one {α : Type} {z : Nat} {P : List Value -> α -> Prop} {c : List Value} {x : α} (hl : c.length = z) (hp : P c x) (h1 : ∀ u ∈ c, u.oneCell' = true) : Cel z P [c] [x] := by
 refine ⟨rfl, fun i h _ => ?_⟩
 obtain rfl : i = 0 := by simp at h; omega
 exact ⟨hl, hp, h1⟩
theorem Cel.drop {α : Type} {z : Nat} {P : List Value -> α -> Prop} {L : List (List Value)} {l : List α} (h : Cel z P L l) : Cel z P (L.drop 1) (l.drop 1) := by
 refine ⟨by rw [List.length_drop, List.length_drop, h.len], fun i h1 h2 => ?_⟩
 rw [List.length_drop] at h1 h2
 rw [List.getElem_drop, List.getElem_drop]
 exact h.each (1 + i) (by omega) (by omega)
def Sou (w : World) (v : Value) (m : Nat) (news : List Value) : Prop :=
 ∃ ao c, v = .slice ao m c /\ (ao = none -> m = 0) /\ ∀ j u, news[j]? = some u -> ∃ b o, ao = some ⟨b, o, none⟩ /\ w.cell? ⟨b, o + j, none⟩ = some u
theorem Sou.keep {w w' : World} {v : Value} {m : Nat} {news : List Value} (h : Sou w v m news) (hk : ∀ (p : Addr) u, w.cell? p = some u -> w'.cell? p = some u) : Sou w' v m news := by
 obtain ⟨ao, c, e, h1, h2⟩ := h
 refine ⟨ao, c, e, h1, fun j u hu => ?_⟩
 obtain ⟨b, o, e, hc⟩ := h2 j u hu
 exact ⟨b, o, e, hk _ _ hc⟩
theorem Ar.cel {α : Type} {z bz : Nat} (hz : 0 < z) {P : List Value -> α -> Prop} {K : Ctx} {w : World} {v : Value} {l : List α} (h : Ar z bz P K w v l) (h1 : ∀ cs x, P cs x -> ∀ u ∈ cs, u.oneCell' = true) :
  ∃ L, Cel z P L l /\ ∃ ao cap, v = .slice ao l.length cap /\ l.length <= cap /\ (ao = none -> l.length = 0) /\ (∀ j u, L.flatten[j]? = some u -> ∃ b o, ao = some ⟨b, o, none⟩ /\ b < K.C /\ w.cell? ⟨b, o + j, none⟩ = some u) := by
 obtain ⟨ao, cap, e, hc, hb, hA⟩ := h.shape
 have key : ∀ i, ∃ cs : List Value, ∀ (hi : i < l.length), cs.length = z /\ P cs l[i] /\ ∃ b o, ao = some ⟨b, o, none⟩ /\ b < K.C /\ ∀ j, j < z -> w.cell? ⟨b, o + i * z + j, none⟩ = cs[j]? := by
  intro i
  by_cases hi : i < l.length
  ·obtain ⟨b, o, e, hbC, cs, hl, hcs, hp⟩ := hA i hi
   exact ⟨cs, fun _ => ⟨hl, hp, b, o, e, hbC, hcs⟩⟩
  ·exact ⟨[], fun h => absurd h hi⟩
 obtain ⟨q, hq⟩ : ∃ q : Nat -> List Value, ∀ i (hi : i < l.length), (q i).length = z /\ P (q i) l[i] /\ ∃ b o, ao = some ⟨b, o, none⟩ /\ b < K.C /\ ∀ j, j < z -> w.cell? ⟨b, o + i * z + j, none⟩ = (q i)[j]? :=
  ⟨fun i => (key i).choose, fun i hi => (key i).choose_spec hi⟩
 have hC : Cel z P ((List.range l.length).map q) l := by
  refine ⟨by simp, fun i h1' h2' => ?_⟩
  obtain ⟨a1, a2, _⟩ := hq i h2'
  simp only [List.getElem_map, List.getElem_range]
  exact ⟨a1, a2, h1 _ _ a2⟩
 refine ⟨_, hC, ao, cap, e, hc, fun hn => ?_, fun j u hu => ?_⟩
 ·rcases Nat.eq_zero_or_pos l.length with h0 | h0
  ·exact h0
  ·obtain ⟨b, o, e', _⟩ := hA 0 h0
   rw [hn] at e'; cases e'
 ·have hjl : j < l.length * z := by
   have := (List.getElem?_eq_some_iff.1 hu).1
   rw [flat_lenS hC.all] at this
   simpa using this
  obtain ⟨i, r, hi, hr, rfl⟩ := flat_div hz hjl
  obtain ⟨a1, a2, b, o, e', hbC, hcs⟩ := hq i hi
  rw [flat_at hC.all i r (by simpa using hi) hr] at hu
  simp only [List.getElem_map, List.getElem_range] at hu
  refine ⟨b, o, e', hbC, ?_⟩
  rw [← hu, ← hcs r hr, Nat.add_assoc]
theorem ar_own {α : Type} {z bz B el : Nat} {P : List Value -> α -> Prop} {K : Ctx} {w : World} {v : Value} {L : List (List Value)} {l : List α} (hc : Cel z P L l) (h : w.ownsRow B el z v l.length L.flatten) (hK : w.heap.size <= K.C) (hb : l.length * bz <= 140737488355328) : Ar z bz P K w v l := by
 obtain ⟨hlen, h⟩ := h
 rcases h with ⟨rfl, h0⟩ | ⟨g, cap, cur, rfl, hg, hh, h1, h2, h3, h4⟩
 ·have : l = [] := List.length_eq_zero_iff.1 h0
  subst this
  exact nil_ar
 ·have hR : Row w g el cur.toList := ⟨by simpa using hh⟩
  refine ⟨some ⟨g, 0, none⟩, cap, rfl, h1, hb, fun i hi => ?_⟩
  have hi' : i < L.length := by rw [hc.len]; exact hi
  obtain ⟨a1, a2, _⟩ := hc.each i hi' hi
  refine ⟨g, 0, rfl, Nat.lt_of_lt_of_le hR.lt hK, L[i], a1, fun j hj => ?_, a2⟩
  have e1 := flat_at hc.all i j hi' hj
  rw [← e1, Nat.zero_add, hR.cell]
  have h5 : (cur.toList.take (l.length * z))[i * z + j]? = L.flatten[i * z + j]? := by rw [h4]
  have hlt : i * z + j < l.length * z := by
   have : (i + 1) * z <= l.length * z := Nat.mul_le_mul_right _ hi
   rw [Nat.add_mul] at this
   omega
  rw [List.getElem?_take_of_lt hlt] at h5
  exact h5
theorem run_appS {w : World} {B t e z bz ty n m : Nat} {Z : Value} {v u : Value} {xs news : List Value} (hu : Tryz.prog.underlying t = some (.slice e)) (hz : (Tryz.prog.info? e).map (fun i => (i.zero, i.size, i.bytes)) = some (some Z, z, bz)) (hZ : Z.cells.size = z) (h0 : 0 < z)
  (hown : w.ownsRow B e z v n xs) (hB : B <= w.heap.size) (hs : Sou w u m news) (hl : news.length = m * z) (h1 : ∀ x ∈ news, x.oneCell' = true) (hn : n + m <= 100000) (hbz : bz <= 1000) :
  ∃ v' w', (Builtin.append_ #[t, t] ty #[v, u]).run Tryz.prog w = .ok v' w' /\ w'.ownsRow B e z v' (n + m) (xs ++ news) /\ w.grownBy w' v.ownBlock := by
 obtain ⟨i0, hi, hz0, hz1, hz2⟩ := info_parts hz
 obtain ⟨ao, c, rfl, hno, hcell⟩ := hs
 cases ao with
 | none =>
  obtain rfl := hno rfl
  obtain rfl : news = [] := List.length_eq_zero_iff.1 (by rw [hl]; omega)
  refine ⟨v, w, ?_, by simpa using hown, ⟨rfl, rfl, rfl, Nat.le_refl _, fun _ _ _ => rfl⟩⟩
  rcases hown.2 with ⟨rfl, rfl⟩ | ⟨g, cap, cur, rfl, _, _, hnc, _⟩
  ·simp [Builtin.append_, run_underlying hu, sizeOf, typeInfo, hi, Builtin.lenOf, Builtin.firstCells]
  ·simp [Builtin.append_, run_underlying hu, sizeOf, typeInfo, hi, Builtin.lenOf, Builtin.firstCells, hnc, storeCells]
 | some ad =>
  obtain ⟨v', w', hrr, h2, h3, _⟩ := run_append_own_at (P := Tryz.prog) w B t ty e i0 Z z bz hu hi hz0 hz1 hz2 hZ h0 _ _ _ hown ad m c news hl (fun j x hj => by
   obtain ⟨b, o, e', hc⟩ := hcell j x hj
   cases e'
   rw [addr_add]; exact hc) h1 (by unfold maxLen; omega) (by
    have : (n + m) * bz <= 100000 * 1000 := Nat.mul_le_mul hn hbz
    omega) hB
  exact ⟨v', w', hrr, h2, h3⟩
theorem wpo_appS {o : Oper} {a : Act} {K : Act -> World -> Prop} {Q : Exit -> Act -> World -> Prop} {w : World} {B t e z bz n m : Nat} {Z : Value} {v u : Value} {xs news : List Value} (s x : Operand) (ho : o.op = .call { callee := .builtin .append, args := #[s, x], argTypes := #[t, t] })
  (hu : Tryz.prog.underlying t = some (.slice e)) (hz : (Tryz.prog.info? e).map (fun i => (i.zero, i.size, i.bytes)) = some (some Z, z, bz)) (hZ : Z.cells.size = z) (h0 : 0 < z) (hs : a.eval s = v) (hx : a.eval x = u)
  (hown : w.ownsRow B e z v n xs) (hB : B <= w.heap.size) (hsr : Sou w u m news) (hl : news.length = m * z) (h1 : ∀ x ∈ news, x.oneCell' = true) (hn : n + m <= 100000) (hbz : bz <= 1000)
  (k : ∀ v' w', w'.ownsRow B e z v' (n + m) (xs ++ news) -> w.grownBy w' v.ownBlock -> K (a.put o.dst v') w') : Oper.wp Tryz.prog o a w K Q := by
 obtain ⟨v', w', hrr, h2, h3⟩ := run_appS (ty := o.type) hu hz hZ h0 hown hB hsr hl h1 hn hbz
 unfold Oper.wp execOp
 simp only [ho, resolve, invoke, builtin, Sem.run_bind, Sem.run_pure, Result.andThen_ok, List.map_toArray, List.map_cons, List.map_nil, hs, hx, hrr]
 exact k v' w' h2 h3
end Go.Proofs.YtldbbkheemnnhaaGreatDoor

namespace Go.Proofs.YtldbbkheemnnhaaGreatDoor
open Go.RowKit
theorem grown_le {w w' : World} {C : Nat} {r : Option Nat} (h : w.grownBy w' r) (hB : C <= w.heap.size) (hr : ∀ k, r = some k -> C <= k) : Below C w w' := (Below.refl C w).grown h hB hr
theorem own_slice {w : World} {B t s n : Nat} {v : Value} {xs : List Value} (h : w.ownsRow B t s v n xs) : ∃ ao cap, v = .slice ao n cap := by
 rcases h.2 with ⟨e, h0⟩ | ⟨g, cap, cur, e, _⟩
 ·exact ⟨_, _, by rw [e, h0]⟩
 ·exact ⟨_, _, e⟩
theorem wpl_appS {ops : Array Oper} {rest : List Oper} {o : Oper} {a : Act} {Q : Exit -> Act -> World -> Prop} {w : World} {B t e z bz n m : Nat} {Z : Value} {v u : Value} {xs news : List Value} (hgd : o.guard = none) (s x : Operand) (ho : o.op = .call { callee := .builtin .append, args := #[s, x], argTypes := #[t, t] })
  (hu : Tryz.prog.underlying t = some (.slice e)) (hz : (Tryz.prog.info? e).map (fun i => (i.zero, i.size, i.bytes)) = some (some Z, z, bz)) (hZ : Z.cells.size = z) (h0 : 0 < z) (hs : a.eval s = v) (hx : a.eval x = u)
  (hown : w.ownsRow B e z v n xs) (hB : B <= w.heap.size) (hsr : Sou w u m news) (hl : news.length = m * z) (h1 : ∀ x ∈ news, x.oneCell' = true) (hn : n + m <= 100000) (hbz : bz <= 1000)
  (k : ∀ v' w', w'.ownsRow B e z v' (n + m) (xs ++ news) -> Below B w w' -> (∃ ao c, v' = .slice ao (n + m) c) -> wpList Tryz.prog ops Q rest (a.put o.dst v') w') : wpList Tryz.prog ops Q (o :: rest) a w :=
 wpList_plain hgd fun _ hK => wpo_appS s x ho hu hz hZ h0 hs hx hown hB hsr hl h1 hn hbz (fun v' w' h2 h3 => hK _ _ (k v' w' h2 (grown_le h3 hB (fun k e => (hown.lt k e).1)) (own_slice h2)))
end Go.Proofs.YtldbbkheemnnhaaGreatDoor

namespace Go.Proofs.YtldbbkheemnnhaaGreatDoor
open Go.RowKit
theorem pair_cases {l : List UInt8} (h : signs2.contains l = true) : l = [58, 58] ∨ l = [45, 62] ∨ l = [61, 61] := by
 simpa only [signs2, List.contains_eq_mem, List.mem_cons, List.not_mem_nil, decide_eq_true_eq, or_false] using h
def remF : List UInt8 -> Nat
 | [] => 0
 | c :: t => if c = 10 then 0 else remF t + 1
theorem remF_le : ∀ l : List UInt8, remF l <= l.length
 | [] => by simp [remF]
 | c :: t => by have := remF_le t; simp only [remF, List.length_cons]; split <;> omega
theorem skp_rem : ∀ l : List UInt8, skp true l = remF l + skp false (l.drop (remF l))
 | [] => rfl
 | c :: t => by
  have ih := skp_rem t
  simp only [skp, remF]
  by_cases h : c = 10
  ·subst h
   simp [skp, isBl]
  ·have h' : ¬ c.toNat = 10 := fun e => h (UInt8.toNat_inj.1 (by simpa using e))
   rw [if_neg h, decide_eq_false h']
   simp only [Bool.not_false, ih, List.drop_succ_cons]
   omega
theorem pair_head {c : UInt8} {t : List UInt8} (h : signs2.contains ((c :: t).take 2) = true) : c = 58 ∨ c = 45 ∨ c = 61 := by
 rcases pair_cases h with h | h | h
 ·left; cases t <;> simp at h; exact h.1
 ·right; left; cases t <;> simp at h; exact h.1
 ·right; right; cases t <;> simp at h; exact h.1
theorem signF_one {c : UInt8} {t : List UInt8} (h : signs2.contains ((c :: t).take 2) = false) (h1 : signs1.contains c = true) : signF (c :: t) = 1 := by
 simp only [signF, h, h1]; rfl
theorem signF_two {l : List UInt8} (h : signs2.contains (l.take 2) = true) : signF l = 2 := by
 simp only [signF, h]; rfl
theorem signF_no {c : UInt8} {t : List UInt8} (h1 : signs1.contains c = false) : signF (c :: t) = 0 := by
 have h : signs2.contains ((c :: t).take 2) = false := by
  cases h : signs2.contains ((c :: t).take 2)
  ·rfl
  ·rcases pair_head h with rfl | rfl | rfl <;> cases h1
 simp only [signF, h, h1]; rfl
def numA (a : Nat) (l : List UInt8) : Nat := l.foldl (fun n c => n * 10 + (c.toNat - 48)) a
structure Glob (w : World) : Prop where
 syn : ∃ ev, w.cell? ⟨1, 0, none⟩ = some ev /\ (ev = .nilIface ∨ ∃ te pe, ev = .iface te pe)
 rng : ∃ ev, w.cell? ⟨2, 0, none⟩ = some ev /\ (ev = .nilIface ∨ ∃ te pe, ev = .iface te pe)
theorem Glob.below {w w' : World} (h : Glob w) (hb : Below w.heap.size w w') : Glob w' := by
 obtain ⟨e1, h1, k1⟩ := h.syn
 obtain ⟨e2, h2, k2⟩ := h.rng
 exact ⟨⟨e1, (hb.cell (p := ⟨1, 0, none⟩) (World.block_lt_of_cell? w _ h1)).trans h1, k1⟩, ⟨e2, (hb.cell (p := ⟨2, 0, none⟩) (World.block_lt_of_cell? w _ h2)).trans h2, k2⟩⟩
theorem nextB {w w1 w2 : World} (h1 : Below w.heap.size w w1) (h2 : Below w1.heap.size w1 w2) : Below w.heap.size w w2 := h1.trans (h2.mono h1.size)
def Tok.cells (t : Tok) : List Value := [.int .i64 (t.kind : Int), .string (str t.text), .int .i64 (t.place : Int)]
def tvs (T : List Tok) : List Value := T.flatMap Tok.cells
theorem tvs_snoc (T : List Tok) (t : Tok) : tvs (T ++ [t]) = tvs T ++ t.cells := by simp [tvs]
theorem tvs_get : ∀ (T : List Tok) (q c : Nat), c < 3 -> (tvs T)[q * 3 + c]? = (T[q]?).bind fun t => t.cells[c]?
 | [], q, c, _ => by simp [tvs]
 | a :: T, 0, c, hc => by
  show (a.cells ++ tvs T)[0 * 3 + c]? = _
  rw [List.getElem?_append_left (by show _ < 3; omega)]; simp
 | a :: T, q + 1, c, hc => by
  show (a.cells ++ tvs T)[(q + 1) * 3 + c]? = _
  rw [List.getElem?_append_right (by show 3 <= _; omega), show (q + 1) * 3 + c - a.cells.length = q * 3 + c by show _ - 3 = _; omega, tvs_get T q c hc]
  simp
theorem tvs_one (T : List Tok) : ∀ u ∈ tvs T, u.oneCell' = true := fun u hu => by
 obtain ⟨b, _, hb⟩ := List.mem_flatMap.1 hu
 simp only [Tok.cells, List.mem_cons, List.not_mem_nil, or_false] at hb
 rcases hb with rfl | rfl | rfl <;> rfl
theorem Tryz.info29z : (Tryz.prog.info? 109).map (fun i => (i.zero, i.size, i.bytes)) = some (some (.agg #[.int .i64 0, .string ⟨#[]⟩, .int .i64 0]), 3, 32) := by kernel_rfl
theorem Tryz.info29 : (Tryz.prog.info? 109).map (·.size) = some 3 := by kernel_rfl
theorem range_below {w w' : World} {g o : Nat} {L : List Value} (h : w.rangeAt g o L) (hb : Below w.heap.size w w') : w'.rangeAt g o L := fun j u hj => by
 have := h j u hj
 rw [hb.cell (p := ⟨g, o + j, none⟩) (World.block_lt_of_cell? w _ this)]; exact this
structure Ts (w : World) (v : Value) (T : List Tok) : Prop where
 shape : (∃ cap, v = .slice none 0 cap /\ T = []) ∨ ∃ b cap, v = .slice (some ⟨b, 0, none⟩) T.length cap /\ T.length <= cap /\ w.rangeAt b 0 (tvs T)
theorem Ts.below {w w' : World} {v : Value} {T : List Tok} (h : Ts w v T) (hb : Below w.heap.size w w') : Ts w' v T := by
 refine ⟨?_⟩
 rcases h.shape with h | ⟨b, cap, rfl, hcap, hc⟩
 ·exact .inl h
 ·exact .inr ⟨b, cap, rfl, hcap, range_below hc hb⟩
theorem own_range {w : World} {B g cap e size n : Nat} {xs : List Value} (h : w.ownsRow B e size (.slice (some ⟨g, 0, none⟩) n cap) n xs) : w.rangeAt g 0 xs := fun j u hj => by
 rcases h.2 with ⟨e, _⟩ | ⟨g', cap', cur, e, _, hg, _, _, hs, ht⟩
 ·cases e
 ·cases e
  rw [Nat.zero_add, cell_of_row w g j cur _ (0, 0) hg, ← hj, ← ht, List.getElem?_take]
  have hj' : j < n * size := by
   have := h.1
   rcases Nat.lt_or_ge j xs.length with h' | h'
   ·omega
   ·rw [List.getElem?_eq_none h'] at hj; cases hj
  rw [if_pos hj']; simp
theorem Ts.ofOwn {w : World} {B : Nat} {v : Value} {T : List Tok} (h : w.ownsRow B 109 3 v T.length (tvs T)) : Ts w v T := by
 refine ⟨?_⟩
 rcases h.2 with ⟨rfl, h0⟩ | ⟨g, cap, cur, rfl, hrest⟩
 ·exact .inl ⟨0, rfl, List.eq_nil_of_length_eq_zero h0⟩
 ·exact .inr ⟨g, cap, rfl, hrest.2.2.1, own_range h⟩
theorem own_same' {w w' : World} {B t s n : Nat} {v : Value} {xs : List Value} (h : w.ownsRow B t s v n xs) (hs : ∀ k, v.ownBlock = some k -> w'.heap[k]? = w.heap[k]?) : w'.ownsRow B t s v n xs := by
 refine ⟨h.1, ?_⟩
 rcases h.2 with hn | ⟨g, cap, cur, rfl, hb, hgg, rest⟩
 ·exact .inl hn
 ·exact .inr ⟨g, cap, cur, rfl, hb, by rw [hs g rfl]; exact hgg, rest⟩
theorem own_past' {w w' : World} {B t s n : Nat} {v : Value} {xs : List Value} (h : w.ownsRow B t s v n xs) (hb : Below w.heap.size w w') : w'.ownsRow B t s v n xs :=
 own_same' h (fun k e => hb.block k (h.lt k e).2)
theorem build29 {ops : Array Oper} {rest : List Oper} {o : Oper} {a : Act} {w : World} {Q : Exit -> Act -> World -> Prop} (hgd : o.guard = none) (x : Operand) (ho : o.op = .buildSlice 99 1 #[(0, x)])
  (t : Tok) (hx : a.eval x = .agg t.cells.toArray)
  (k : wpList Tryz.prog ops Q rest (a.put o.dst (.slice (some ⟨w.heap.size, 0, none⟩) 1 1)) (w.alloc (.cells t.cells.toArray 109))) : wpList Tryz.prog ops Q (o :: rest) a w := by
 obtain ⟨i0, hi, hz0, hz1, hz2⟩ := info_parts Tryz.info29z
 refine wpList_plain hgd fun _ hK => wp_buildSlice 99 109 1 _ ho t.cells.toArray i0 (.agg #[.int .i64 0, .string ⟨#[]⟩, .int .i64 0]) Tryz.underlying99 hi hz0 (by rw [hz1]; decide) (by rw [hz1]; decide) ?_ (hK _ _ k)
 have hw := Go.Great.fill_whole (s := 3) (by decide) [.agg t.cells.toArray] ((Array.range (1 * 3)).map ((Value.agg #[.int .i64 0, .string ⟨#[]⟩, .int .i64 0]).cells[· % (Value.agg #[.int .i64 0, .string ⟨#[]⟩, .int .i64 0]).cells.size]!)) (by simp [Value.cells, Tok.cells]) (by simp)
 rw [hz1]
 simp only [List.map_toArray, List.map_cons, List.map_nil, hx]
 simp only [List.zipIdx_cons, List.zipIdx_nil, List.map_cons, List.map_nil] at hw
 refine Eq.trans hw ?_
 simp [Value.cells]
theorem app29 {ops : Array Oper} {rest : List Oper} {o : Oper} {a : Act} {w : World} {Q : Exit -> Act -> World -> Prop} {B : Nat} {v : Value} {T : List Tok} (hgd : o.guard = none) (s x : Operand)
  (ho : o.op = .call { callee := .builtin .append, args := #[s, x], argTypes := #[99, 99] }) (hs : a.eval s = v) (hown : w.ownsRow B 109 3 v T.length (tvs T)) (hB : B <= w.heap.size)
  (g c : Nat) (t : Tok) (hx : a.eval x = .slice (some ⟨g, 0, none⟩) 1 c) (hr : w.rangeAt g 0 t.cells) (hn : T.length <= 10000000)
  (k : ∀ v' w', w'.ownsRow B 109 3 v' (T ++ [t]).length (tvs (T ++ [t])) -> Below B w w' -> wpList Tryz.prog ops Q rest (a.put o.dst v') w') :
  wpList Tryz.prog ops Q (o :: rest) a w := by
 obtain ⟨i0, hi, hz0, hz1, hz2⟩ := info_parts Tryz.info29z
 obtain ⟨v', w', hrr, h2, h3, h4, h5⟩ := run_append_own_at (P := Tryz.prog) w B 99 o.type 109 i0 (.agg #[.int .i64 0, .string ⟨#[]⟩, .int .i64 0]) 3 32 Tryz.underlying99 hi hz0 hz1 hz2 rfl (by decide) _ _ _ hown ⟨g, 0, none⟩ 1 c t.cells (by rfl) (fun j u hj => by rw [addr_add]; exact hr j u hj) (fun u hu => tvs_one [t] u (by simpa [tvs] using hu)) (by unfold maxLen; omega) (by omega) hB
 refine wpList_plain hgd fun _ hK => ?_
 unfold Oper.wp execOp
 simp only [ho, resolve, invoke, builtin, Sem.run_bind, Sem.run_pure, Result.andThen_ok, List.map_toArray, List.map_cons, List.map_nil, hs, hx, hrr]
 refine hK _ _ (k v' w' ?_ (grown_le h3 hB (fun k e => (hown.lt k e).1)))
 rw [tvs_snoc, List.length_append]; exact h2
structure LRel (l : List UInt8) (w : World) (p : Nat) (T : List Tok) (v : Value) (wr : World) : Prop where
 le : p <= l.length
 few : T.length <= p
 eq : lexF l = (T ++ (lxr (l.length - p + 1) p (l.drop p)).1, (lxr (l.length - p + 1) p (l.drop p)).2)
 own : wr.ownsRow w.heap.size 109 3 v T.length (tvs T)
 below : Below w.heap.size w wr
theorem LRel.start (l : List UInt8) (w : World) : LRel l w (skp false l) [] (.slice none 0 0) w :=
 ⟨skp_le _ _, by simp, by rw [lexF_start]; simp, ⟨rfl, .inl ⟨rfl, rfl⟩⟩, Below.refl _ _⟩
theorem LRel.next {l : List UInt8} {w wr : World} {p : Nat} {T : List Tok} {v : Value} (h : LRel l w p T v wr) {k n : Nat} (hp : p < l.length) (ht : tokF (l.drop p) = some (k, n)) {v' : Value} {w' : World}
  (ho : w'.ownsRow w.heap.size 109 3 v' (T ++ [(⟨k, textOf k ((l.drop p).take n), p⟩ : Tok)]).length (tvs (T ++ [(⟨k, textOf k ((l.drop p).take n), p⟩ : Tok)]))) (hb : Below w.heap.size w w') :
  LRel l w (p + n + skp false (l.drop (p + n))) (T ++ [(⟨k, textOf k ((l.drop p).take n), p⟩ : Tok)]) v' w' := by
 have hn := tokF_le ht
 rw [List.length_drop] at hn
 have hs := skp_le false (l.drop (p + n))
 rw [List.length_drop] at hs
 refine ⟨by omega, ?_, ?_, ho, hb⟩
 ·have := h.few
  simp; omega
 ·rw [h.eq, lxr_step l p k n hp ht]
  simp
theorem load29g {ops : Array Oper} {rest : List Oper} {o : Oper} {a : Act} {w : World} {Q : Exit -> Act -> World -> Prop} (hgd : Region.wanted o (yielded ops a.tmps) = true) (x : Operand) (ho : o.op = .load 109 x) (b off : Nat) (k p : Int) (s : ByteArray) (hx : a.eval x = .pointer (some ⟨b, off, none⟩)) (hr : w.rangeAt b off [.int .i64 k, .string s, .int .i64 p])
  (h : wpList Tryz.prog ops Q rest (a.put o.dst (.agg #[.int .i64 k, .string s, .int .i64 p])) w) : wpList Tryz.prog ops Q (o :: rest) a w :=
 wpList_step fun K hK => by
  rw [if_pos hgd]
  exact wp_load_mid 109 x ho b off hx [.int .i64 k, .string s, .int .i64 p] _ hr Tryz.underlying109 rfl Tryz.info29 (hK _ _ h)
theorem Tryz.own : ownKnob Tryz.prog.godebug = none := by kernel_rfl
structure BRel (w : World) (n i : Nat) (wr : World) : Prop where
 row : ∃ L, Row wr w.heap.size 5 L /\ L.length = n /\ ∀ j, j < i -> L[j]? = some (.int .u8 32)
 below : Below w.heap.size w wr
theorem BRel.next {w wr : World} {n i : Nat} (h : BRel w n i wr) (hi : i < n) : BRel w n (i + 1) (wr.setCell ⟨w.heap.size, i, none⟩ (.int .u8 32)) := by
 obtain ⟨L, hR, hl, hj⟩ := h.row
 refine ⟨⟨L.set i (.int .u8 32), hR.set i _, by simpa using hl, fun j hjj => ?_⟩, h.below.setCell (p := ⟨w.heap.size, i, none⟩) (Nat.le_refl _) _⟩
 rcases Nat.lt_or_ge j i with h' | h'
 ·rw [List.getElem?_set_ne (by omega)]; exact hj j h'
 ·obtain rfl : j = i := by omega
  rw [List.getElem?_set_self (by omega)]
theorem BRel.cell {w wr : World} {n i : Nat} (h : BRel w n i wr) (hi : i < n) : ∃ v, wr.cell? ⟨w.heap.size, i, none⟩ = some v /\ wr.frozen? ⟨w.heap.size, i, none⟩ = false := by
 obtain ⟨L, hR, hl, hj⟩ := h.row
 exact ⟨L[i]'(by omega), by rw [hR.cell i, List.getElem?_eq_getElem], hR.fz i⟩
theorem made_len (n : Nat) : (madeCells #[.int .u8 0] n).toList.length = n := by
 simp [madeCells]
theorem BRel.start (w : World) (n : Nat) : BRel w n 0 (w.alloc (.cells (madeCells #[.int .u8 0] n) 5)) :=
 ⟨⟨(madeCells #[.int .u8 0] n).toList, by simpa using Row.new w 5 (madeCells #[.int .u8 0] n).toList, made_len n, fun j h => by omega⟩, (Below.refl _ _).alloc (Nat.le_refl _) _⟩
theorem Ts.slice {w : World} {v : Value} {T : List Tok} (h : Ts w v T) : ∃ ao cap, v = .slice ao T.length cap := by
 rcases h.shape with ⟨cap, rfl, rfl⟩ | ⟨b', cap', e, h1, hr⟩
 ·exact ⟨_, _, rfl⟩
 ·exact ⟨_, _, e⟩
end Go.Proofs.YtldbbkheemnnhaaGreatDoor
