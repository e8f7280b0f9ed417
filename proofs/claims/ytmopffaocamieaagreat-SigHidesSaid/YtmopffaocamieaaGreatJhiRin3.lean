/-
  The texts Rin, Spa, Apd, joined.
-/
import Derived.Test.YtmopffaocamieaaGreatJhiMat4
import Derived.Orders
import Derived.Test.YtmopffaocamieaaGreatJhiMty3
import Derived.Great.BuildSlice
import Derived.Laws.OwnMore
import Derived.Test.YtmopffaocamieaaGreatJhiSub4
namespace Go.Proofs.YtmopffaocamieaaGreat
open Go.RowKit

theorem count_set {l : List Bool} : ∀ {i : Nat}, l[i]? = some false → (l.set i true).count false + 1 = l.count false := by
  induction l with
  | nil => intro i h; simp at h
  | cons x l ih =>
    intro i h
    cases i with
    | zero =>
      simp only [List.getElem?_cons_zero, Option.some.injEq] at h
      subst h
      simp
    | succ i =>
      simp only [List.getElem?_cons_succ] at h
      have := ih h
      cases x <;> simp <;> omega
section
variable {P : Program} {ops : Array Oper} {Q : Exit → Act → World → Prop} {md : Region.Mode}
theorem wpAny_inv {Inv : (Nat → Bool) → Act → World → Prop}
    (hed : ∀ (i : Nat) (o : Oper), ops[i]? = some o → ∀ e ∈ o.after.toList, e.on < i)
    (hstep : ∀ (d : Nat → Bool) (a : Act) (w : World) (i : Nat) (o : Oper), ops[i]? = some o → Inv d a w → d i = false → (∀ e ∈ o.after.toList, Region.binds md e = true → d e.on = true) → wpOp P ops Q i (Inv (fun j => if j = i then true else d j)) a w)
    (hend : ∀ a w, Inv (fun _ => true) a w → Q .normal a w) :
    ∀ (fuel : Nat) (l : Array Bool) (a : Act) (w : World), l.size = ops.size → l.toList.count false ≤ fuel → Inv (fun j => l.getD j true) a w → wpAny P md ops Q fuel l a w := by
  have hall : ∀ (l : Array Bool), l.size = ops.size → Region.ready md ops l = [] → ∀ j, l.getD j true = true := by
    intro l hl hr j
    induction j using Nat.strongRecOn with
    | ind j ih =>
    cases hj : l.getD j true with
    | true => rfl
    | false =>
      exfalso
      have hlt : j < l.size := by
        rcases Nat.lt_or_ge j l.size with h | h
        · exact h
        · rw [Array.getD_eq_getD_getElem?, Array.getElem?_eq_none h] at hj
          cases hj
      have ho : ops[j]? = some ops[j] := Array.getElem?_eq_getElem (by omega)
      have hm : j ∈ Region.ready md ops l := by
        unfold Region.ready
        rw [List.mem_filter]
        refine ⟨List.mem_range.2 (by omega), ?_⟩
        rw [hj, ho]
        simp only [Bool.not_false, Bool.true_and, Option.map_some, Option.getD_some]
        rw [Array.all_eq_true_iff_forall_mem]
        intro e he
        have h1 := hed j _ ho e (Array.mem_toList_iff.2 he)
        have h2 := ih e.on h1
        have h3 : l.getD e.on false = true := by
          rw [Array.getD_eq_getD_getElem?, Array.getElem?_eq_getElem (by omega)] at h2 ⊢
          exact h2
        rw [h3, Bool.or_true]
      rw [hr] at hm
      cases hm
  intro fuel
  induction fuel with
  | zero =>
    intro l a w hl hc hI
    have h0 : ∀ j, l.getD j true = true := by
      intro j
      cases hj : l.getD j true with
      | true => rfl
      | false =>
        exfalso
        have hlt : j < l.size := by
          rcases Nat.lt_or_ge j l.size with h | h
          · exact h
          · rw [Array.getD_eq_getD_getElem?, Array.getElem?_eq_none h] at hj
            cases hj
        have hm : false ∈ l.toList := by
          rw [Array.getD_eq_getD_getElem?, Array.getElem?_eq_getElem hlt, Option.getD_some] at hj
          rw [← hj]
          exact Array.getElem_mem_toList hlt
        have := List.count_pos_iff.2 hm
        omega
    have e : (fun j => l.getD j true) = fun _ => true := funext h0
    rw [e] at hI
    refine ⟨?_, hend a w hI⟩
    unfold Region.ready
    rw [List.filter_eq_nil_iff]
    intro i _
    rw [h0 i]
    simp
  | succ fuel ih =>
    intro l a w hl hc hI
    refine ⟨fun hr => ?_, fun i hi => ?_⟩
    · have e : (fun j => l.getD j true) = fun _ => true := funext (hall l hl hr)
      rw [e] at hI
      exact hend a w hI
    · unfold Region.ready at hi
      rw [List.mem_filter, List.mem_range] at hi
      obtain ⟨hlt, hb⟩ := hi
      have ho : ops[i]? = some ops[i] := Array.getElem?_eq_getElem hlt
      rw [ho] at hb
      simp only [Option.map_some, Option.getD_some, Bool.and_eq_true, Bool.not_eq_true'] at hb
      obtain ⟨hf, he⟩ := hb
      rw [Array.all_eq_true_iff_forall_mem] at he
      refine wpOp_mono ?_ (hstep _ a w i _ ho hI hf ?_)
      · intro a' w' h'
        refine ih _ a' w' (by simpa using hl) ?_ ?_
        · have h1 : l.toList[i]? = some false := by
            rw [Array.getD_eq_getD_getElem?, Array.getElem?_eq_getElem (by omega), Option.getD_some] at hf
            rw [Array.getElem?_toList, Array.getElem?_eq_getElem (by omega), hf]
          have h2 := count_set h1
          rw [Array.toList_setIfInBounds]
          omega
        · have e : (fun j => (l.setIfInBounds i true).getD j true) = fun j => if j = i then true else l.getD j true := by
            funext j
            rw [Array.getD_eq_getD_getElem?, Array.getD_eq_getD_getElem?, Array.getElem?_setIfInBounds]
            by_cases hji : i = j
            · subst hji
              rw [if_pos rfl, if_pos rfl, if_pos (by omega)]
              rfl
            · rw [if_neg hji, if_neg (fun h => hji h.symm)]
          rw [e]
          exact h'
      · intro e hem hbd
        have h1 := he e (Array.mem_toList_iff.1 hem)
        rw [hbd] at h1
        simp only [Bool.not_true, Bool.false_or] at h1
        have h2 := hed i _ ho e hem
        rw [Array.getD_eq_getD_getElem?, Array.getElem?_eq_getElem (by omega)] at h1 ⊢
        exact h1
theorem wp_region_inv {id : Nat} {a : Act} {w : World} {Inv : (Nat → Bool) → Act → World → Prop} (hm : P.follows .mixedOrders = true)
    (hed : ∀ (i : Nat) (o : Oper), ops[i]? = some o → ∀ e ∈ o.after.toList, e.on < i)
    (h0 : Inv (fun j => decide (ops.size ≤ j)) a w.drew)
    (hstep : ∀ (d : Nat → Bool) (a : Act) (w : World) (i : Nat) (o : Oper), ops[i]? = some o → Inv d a w → d i = false → (∀ e ∈ o.after.toList, Region.binds .any e = true → d e.on = true) → wpOp P ops Q i (Inv (fun j => if j = i then true else d j)) a w)
    (hend : ∀ a w, Inv (fun _ => true) a w → Q .normal a w) : (Code.region id ops true).wp P Q a w := by
  refine wp_region_any hm (wpAny_inv hed hstep hend ops.size _ a _ (by simp) ?_ ?_)
  · simp
  · have e : (fun j => (Array.replicate ops.size false).getD j true) = fun j => decide (ops.size ≤ j) := by
      funext j
      rw [Array.getD_eq_getD_getElem?, Array.getElem?_replicate]
      by_cases h : j < ops.size
      · rw [if_pos h, decide_eq_false (by omega)]; rfl
      · rw [if_neg h, decide_eq_true (by omega)]; rfl
    rw [e]
    exact h0
end
end Go.Proofs.YtmopffaocamieaaGreat

namespace Go.Proofs.YtmopffaocamieaaGreat
open Go.RowKit

theorem flat_lenS {z : Nat} : ∀ {L : List (List Value)}, (∀ c ∈ L, c.length = z) → L.flatten.length = L.length * z
  | [], _ => by simp
  | c :: L, h => by
    rw [List.flatten_cons, List.length_append, h c (by simp), flat_lenS (fun x hx => h x (List.mem_cons_of_mem _ hx)), List.length_cons, Nat.add_mul]
    omega
theorem flat_at {z : Nat} : ∀ {L : List (List Value)}, (∀ c ∈ L, c.length = z) → ∀ (i j : Nat) (hi : i < L.length), j < z → L.flatten[i * z + j]? = L[i][j]?
  | [], _, i, _, hi, _ => by simp at hi
  | c :: L, h, 0, j, _, hj => by
    have hc := h c (by simp)
    rw [List.flatten_cons, Nat.zero_mul, Nat.zero_add, List.getElem?_append_left (by omega)]
    rfl
  | c :: L, h, i + 1, j, hi, hj => by
    have hc := h c (by simp)
    rw [List.flatten_cons, List.getElem?_append_right (by rw [hc, Nat.add_mul]; omega), hc, show (i + 1) * z + j - z = i * z + j by rw [Nat.add_mul]; omega]
    exact flat_at (fun x hx => h x (List.mem_cons_of_mem _ hx)) i j (by simpa using hi) hj
theorem flat_div {z j n : Nat} (hz : 0 < z) (h : j < n * z) : ∃ i r, i < n ∧ r < z ∧ j = i * z + r := by
  refine ⟨j / z, j % z, ?_, Nat.mod_lt _ hz, ?_⟩
  · exact Nat.div_lt_of_lt_mul (by rw [Nat.mul_comm]; exact h)
  · have := Nat.div_add_mod j z
    rw [Nat.mul_comm] at this
    omega
/-- These cells are these things. -/
structure Cel {α : Type} (z : Nat) (P : List Value → α → Prop) (L : List (List Value)) (l : List α) : Prop where
  len : L.length = l.length
  each : ∀ i (h : i < L.length) (h' : i < l.length), L[i].length = z ∧ P L[i] l[i] ∧ ∀ u ∈ L[i], u.oneCell' = true
theorem Cel.all {α : Type} {z : Nat} {P : List Value → α → Prop} {L : List (List Value)} {l : List α} (h : Cel z P L l) : ∀ c ∈ L, c.length = z := by
  intro c hc
  obtain ⟨i, hi, rfl⟩ := List.getElem_of_mem hc
  exact (h.each i hi (by rw [← h.len]; exact hi)).1
theorem Cel.ones {α : Type} {z : Nat} {P : List Value → α → Prop} {L : List (List Value)} {l : List α} (h : Cel z P L l) : ∀ u ∈ L.flatten, u.oneCell' = true := by
  intro u hu
  obtain ⟨c, hc, hu⟩ := List.mem_flatten.1 hu
  obtain ⟨i, hi, rfl⟩ := List.getElem_of_mem hc
  exact (h.each i hi (by rw [← h.len]; exact hi)).2.2 u hu
theorem Cel.mono {α : Type} {z : Nat} {P P' : List Value → α → Prop} {L : List (List Value)} {l : List α} (h : Cel z P L l) (hp : ∀ cs x, P cs x → P' cs x) : Cel z P' L l :=
  ⟨h.len, fun i h1 h2 => ⟨(h.each i h1 h2).1, hp _ _ (h.each i h1 h2).2.1, (h.each i h1 h2).2.2⟩⟩
theorem Cel.app {α : Type} {z : Nat} {P : List Value → α → Prop} {L M : List (List Value)} {l m : List α} (h : Cel z P L l) (k : Cel z P M m) : Cel z P (L ++ M) (l ++ m) := by
  refine ⟨by rw [List.length_append, List.length_append, h.len, k.len], fun i h1 h2 => ?_⟩
  have hl := h.len
  rw [List.length_append] at h1 h2
  rcases Nat.lt_or_ge i L.length with hi | hi
  · rw [List.getElem_append_left hi, List.getElem_append_left (by omega)]
    exact h.each i hi (by omega)
  · rw [List.getElem_append_right hi, List.getElem_append_right (by omega)]
    have := k.each (i - L.length) (by omega) (by omega)
    simp only [hl] at this ⊢
    exact this
theorem Cel.one {α : Type} {z : Nat} {P : List Value → α → Prop} {c : List Value} {x : α} (hl : c.length = z) (hp : P c x) (h1 : ∀ u ∈ c, u.oneCell' = true) : Cel z P [c] [x] := by
  refine ⟨rfl, fun i h _ => ?_⟩
  obtain rfl : i = 0 := by simp at h; omega
  exact ⟨hl, hp, h1⟩
theorem Cel.drop {α : Type} {z : Nat} {P : List Value → α → Prop} {L : List (List Value)} {l : List α} (h : Cel z P L l) : Cel z P (L.drop 1) (l.drop 1) := by
  refine ⟨by rw [List.length_drop, List.length_drop, h.len], fun i h1 h2 => ?_⟩
  rw [List.length_drop] at h1 h2
  rw [List.getElem_drop, List.getElem_drop]
  exact h.each (1 + i) (by omega) (by omega)
/-- What may be appended: cells that lie in a row, or nothing. -/
def Sou (w : World) (v : Value) (m : Nat) (news : List Value) : Prop :=
  ∃ ao c, v = .slice ao m c ∧ (ao = none → m = 0) ∧ ∀ j u, news[j]? = some u → ∃ b o, ao = some ⟨b, o, none⟩ ∧ w.cell? ⟨b, o + j, none⟩ = some u
theorem Sou.keep {w w' : World} {v : Value} {m : Nat} {news : List Value} (h : Sou w v m news) (hk : ∀ (p : Addr) u, w.cell? p = some u → w'.cell? p = some u) : Sou w' v m news := by
  obtain ⟨ao, c, e, h1, h2⟩ := h
  refine ⟨ao, c, e, h1, fun j u hu => ?_⟩
  obtain ⟨b, o, e, hc⟩ := h2 j u hu
  exact ⟨b, o, e, hk _ _ hc⟩
theorem Ar.cel {α : Type} {z bz : Nat} (hz : 0 < z) {P : List Value → α → Prop} {K : Ctx} {w : World} {v : Value} {l : List α} (h : Ar z bz P K w v l) (h1 : ∀ cs x, P cs x → ∀ u ∈ cs, u.oneCell' = true) :
    ∃ L, Cel z P L l ∧ ∃ ao cap, v = .slice ao l.length cap ∧ l.length ≤ cap ∧ (ao = none → l.length = 0) ∧ (∀ j u, L.flatten[j]? = some u → ∃ b o, ao = some ⟨b, o, none⟩ ∧ b < K.C ∧ w.cell? ⟨b, o + j, none⟩ = some u) := by
  obtain ⟨ao, cap, e, hc, hb, hA⟩ := h.shape
  have key : ∀ i, ∃ cs : List Value, ∀ (hi : i < l.length), cs.length = z ∧ P cs l[i] ∧ ∃ b o, ao = some ⟨b, o, none⟩ ∧ b < K.C ∧ ∀ j, j < z → w.cell? ⟨b, o + i * z + j, none⟩ = cs[j]? := by
    intro i
    by_cases hi : i < l.length
    · obtain ⟨b, o, e, hbC, cs, hl, hcs, hp⟩ := hA i hi
      exact ⟨cs, fun _ => ⟨hl, hp, b, o, e, hbC, hcs⟩⟩
    · exact ⟨[], fun h => absurd h hi⟩
  obtain ⟨q, hq⟩ : ∃ q : Nat → List Value, ∀ i (hi : i < l.length), (q i).length = z ∧ P (q i) l[i] ∧ ∃ b o, ao = some ⟨b, o, none⟩ ∧ b < K.C ∧ ∀ j, j < z → w.cell? ⟨b, o + i * z + j, none⟩ = (q i)[j]? :=
    ⟨fun i => (key i).choose, fun i hi => (key i).choose_spec hi⟩
  have hC : Cel z P ((List.range l.length).map q) l := by
    refine ⟨by simp, fun i h1' h2' => ?_⟩
    obtain ⟨a1, a2, _⟩ := hq i h2'
    simp only [List.getElem_map, List.getElem_range]
    exact ⟨a1, a2, h1 _ _ a2⟩
  refine ⟨_, hC, ao, cap, e, hc, fun hn => ?_, fun j u hu => ?_⟩
  · rcases Nat.eq_zero_or_pos l.length with h0 | h0
    · exact h0
    · obtain ⟨b, o, e', _⟩ := hA 0 h0
      rw [hn] at e'; cases e'
  · have hjl : j < l.length * z := by
      have := (List.getElem?_eq_some_iff.1 hu).1
      rw [flat_lenS hC.all] at this
      simpa using this
    obtain ⟨i, r, hi, hr, rfl⟩ := flat_div hz hjl
    obtain ⟨a1, a2, b, o, e', hbC, hcs⟩ := hq i hi
    rw [flat_at hC.all i r (by simpa using hi) hr] at hu
    simp only [List.getElem_map, List.getElem_range] at hu
    refine ⟨b, o, e', hbC, ?_⟩
    rw [← hu, ← hcs r hr, Nat.add_assoc]
/-- A row of one's own holds these things. -/
theorem ar_own {α : Type} {z bz B el : Nat} {P : List Value → α → Prop} {K : Ctx} {w : World} {v : Value} {L : List (List Value)} {l : List α} (hc : Cel z P L l) (h : w.ownsRow B el z v l.length L.flatten) (hK : w.heap.size ≤ K.C) (hb : l.length * bz ≤ 140737488355328) : Ar z bz P K w v l := by
  obtain ⟨hlen, h⟩ := h
  rcases h with ⟨rfl, h0⟩ | ⟨g, cap, cur, rfl, hg, hh, h1, h2, h3, h4⟩
  · have : l = [] := List.length_eq_zero_iff.1 h0
    subst this
    exact nil_ar
  · have hR : Row w g el cur.toList := ⟨by simpa using hh⟩
    refine ⟨some ⟨g, 0, none⟩, cap, rfl, h1, hb, fun i hi => ?_⟩
    have hi' : i < L.length := by rw [hc.len]; exact hi
    obtain ⟨a1, a2, _⟩ := hc.each i hi' hi
    refine ⟨g, 0, rfl, Nat.lt_of_lt_of_le hR.lt hK, L[i], a1, fun j hj => ?_, a2⟩
    have e1 := flat_at hc.all i j hi' hj
    rw [← e1, Nat.zero_add, hR.cell]
    have h5 : (cur.toList.take (l.length * z))[i * z + j]? = L.flatten[i * z + j]? := by rw [h4]
    have hlt : i * z + j < l.length * z := by
      have : (i + 1) * z ≤ l.length * z := Nat.mul_le_mul_right _ hi
      rw [Nat.add_mul] at this
      omega
    rw [List.getElem?_take_of_lt hlt] at h5
    exact h5
/-- One row behind another. -/
theorem run_appS {w : World} {B t e z bz ty n m : Nat} {Z : Value} {v u : Value} {xs news : List Value} (hu : Tryz.prog.underlying t = some (.slice e)) (hz : (Tryz.prog.info? e).map (fun i => (i.zero, i.size, i.bytes)) = some (some Z, z, bz)) (hZ : Z.cells.size = z) (h0 : 0 < z)
    (hown : w.ownsRow B e z v n xs) (hB : B ≤ w.heap.size) (hs : Sou w u m news) (hl : news.length = m * z) (h1 : ∀ x ∈ news, x.oneCell' = true) (hn : n + m ≤ 100000) (hbz : bz ≤ 1000) :
    ∃ v' w', (Builtin.append_ #[t, t] ty #[v, u]).run Tryz.prog w = .ok v' w' ∧ w'.ownsRow B e z v' (n + m) (xs ++ news) ∧ w.grownBy w' v.ownBlock := by
  obtain ⟨i0, hi, hz0, hz1, hz2⟩ := info_parts hz
  obtain ⟨ao, c, rfl, hno, hcell⟩ := hs
  cases ao with
  | none =>
    obtain rfl := hno rfl
    obtain rfl : news = [] := List.length_eq_zero_iff.1 (by rw [hl]; omega)
    refine ⟨v, w, ?_, by simpa using hown, ⟨rfl, rfl, rfl, Nat.le_refl _, fun _ _ _ => rfl⟩⟩
    rcases hown.2 with ⟨rfl, rfl⟩ | ⟨g, cap, cur, rfl, _, _, hnc, _⟩
    · simp [Builtin.append_, run_underlying hu, sizeOf, typeInfo, hi, Builtin.lenOf, Builtin.firstCells]
    · simp [Builtin.append_, run_underlying hu, sizeOf, typeInfo, hi, Builtin.lenOf, Builtin.firstCells, hnc, storeCells]
  | some ad =>
    obtain ⟨v', w', hrr, h2, h3, _⟩ := run_append_own_at (P := Tryz.prog) w B t ty e i0 Z z bz hu hi hz0 hz1 hz2 hZ h0 _ _ _ hown ad m c news hl (fun j x hj => by
      obtain ⟨b, o, e', hc⟩ := hcell j x hj
      cases e'
      rw [addr_add]; exact hc) h1 (by unfold maxLen; omega) (by
        have : (n + m) * bz ≤ 100000 * 1000 := Nat.mul_le_mul hn hbz
        omega) hB
    exact ⟨v', w', hrr, h2, h3⟩
theorem wpo_appS {o : Oper} {a : Act} {K : Act → World → Prop} {Q : Exit → Act → World → Prop} {w : World} {B t e z bz n m : Nat} {Z : Value} {v u : Value} {xs news : List Value} (s x : Operand) (ho : o.op = .call { callee := .builtin .append, args := #[s, x], argTypes := #[t, t] })
    (hu : Tryz.prog.underlying t = some (.slice e)) (hz : (Tryz.prog.info? e).map (fun i => (i.zero, i.size, i.bytes)) = some (some Z, z, bz)) (hZ : Z.cells.size = z) (h0 : 0 < z) (hs : a.eval s = v) (hx : a.eval x = u)
    (hown : w.ownsRow B e z v n xs) (hB : B ≤ w.heap.size) (hsr : Sou w u m news) (hl : news.length = m * z) (h1 : ∀ x ∈ news, x.oneCell' = true) (hn : n + m ≤ 100000) (hbz : bz ≤ 1000)
    (k : ∀ v' w', w'.ownsRow B e z v' (n + m) (xs ++ news) → w.grownBy w' v.ownBlock → K (a.put o.dst v') w') : Oper.wp Tryz.prog o a w K Q := by
  obtain ⟨v', w', hrr, h2, h3⟩ := run_appS (ty := o.type) hu hz hZ h0 hown hB hsr hl h1 hn hbz
  unfold Oper.wp execOp
  simp only [ho, resolve, invoke, builtin, Sem.run_bind, Sem.run_pure, Result.andThen_ok, List.map_toArray, List.map_cons, List.map_nil, hs, hx, hrr]
  exact k v' w' h2 h3
end Go.Proofs.YtmopffaocamieaaGreat

namespace Go.Proofs.YtmopffaocamieaaGreat
open Go.RowKit

theorem hidA {p : Prop} (h : p) : Hid p := h
theorem Tryz.info58z : (Tryz.prog.info? 58).map (fun i => (i.zero, i.size, i.bytes)) = some (some (.agg [Value.bool false, .string (str []), .slice none 0 0, .slice none 0 0, .int .i64 0].toArray), 5, 80) := by kernel_rfl
theorem Tryz.info65z : (Tryz.prog.info? 65).map (fun i => (i.zero, i.size, i.bytes)) = some (some (.agg (Value.bool false :: .string (str []) :: .slice none 0 0 :: .slice none 0 0 :: (tyCells 0 ++ [.slice none 0 0, .int .i64 0])).toArray), 10, 176) := by kernel_rfl
theorem bsliceL {ops : Array Oper} {rest : List Oper} {o : Oper} {a : Act} {w : World} {Q : Exit → Act → World → Prop} (hgd : o.guard = none) (ty el sz bz : Nat) (Z : List Value) (x : Operand) (ho : o.op = .buildSlice ty 1 #[(0, x)])
    (hu : Tryz.prog.underlying ty = some (.slice el)) (hz : (Tryz.prog.info? el).map (fun i => (i.zero, i.size, i.bytes)) = some (some (.agg Z.toArray), sz, bz)) (h1 : 0 < sz) (h2 : sz ≤ 1000)
    (cs : List Value) (hl : cs.length = sz) (hx : a.eval x = .agg cs.toArray)
    (k : ∀ w', Row w' w.heap.size el cs → Below w.heap.size w w' → w.heap.size < w'.heap.size → wpList Tryz.prog ops Q rest (a.put o.dst (.slice (some ⟨w.heap.size, 0, none⟩) 1 1)) w') : wpList Tryz.prog ops Q (o :: rest) a w := by
  obtain ⟨i0, hi, hz0, hz1, hz2⟩ := info_parts hz
  refine wpList_plain hgd fun _ hK => wp_buildSlice ty el 1 _ ho cs.toArray i0 (.agg Z.toArray) hu hi hz0 (by rw [hz1]; omega) (by rw [hz1]; omega) ?_ (hK _ _ (k _ (Row.new w el cs) (alloc_one _ _) (by rw [size_alloc]; omega)))
  have hw := Go.Great.fill_whole (s := sz) h1 [.agg cs.toArray] ((Array.range (1 * sz)).map ((Value.agg Z.toArray).cells[· % (Value.agg Z.toArray).cells.size]!)) (by simp [Value.cells, hl]) (by simp)
  rw [hz1]
  simp only [List.map_toArray, List.map_cons, List.map_nil, hx]
  simp only [List.zipIdx_cons, List.zipIdx_nil, List.map_cons, List.map_nil] at hw
  refine Eq.trans hw ?_
  simp [Value.cells]
theorem grown_le {w w' : World} {C : Nat} {r : Option Nat} (h : w.grownBy w' r) (hB : C ≤ w.heap.size) (hr : ∀ k, r = some k → C ≤ k) : Below C w w' := (Below.refl C w).grown h hB hr
theorem own_slice {w : World} {B t s n : Nat} {v : Value} {xs : List Value} (h : w.ownsRow B t s v n xs) : ∃ ao cap, v = .slice ao n cap := by
  rcases h.2 with ⟨e, h0⟩ | ⟨g, cap, cur, e, _⟩
  · exact ⟨_, _, by rw [e, h0]⟩
  · exact ⟨_, _, e⟩
theorem wpl_appS {ops : Array Oper} {rest : List Oper} {o : Oper} {a : Act} {Q : Exit → Act → World → Prop} {w : World} {B t e z bz n m : Nat} {Z : Value} {v u : Value} {xs news : List Value} (hgd : o.guard = none) (s x : Operand) (ho : o.op = .call { callee := .builtin .append, args := #[s, x], argTypes := #[t, t] })
    (hu : Tryz.prog.underlying t = some (.slice e)) (hz : (Tryz.prog.info? e).map (fun i => (i.zero, i.size, i.bytes)) = some (some Z, z, bz)) (hZ : Z.cells.size = z) (h0 : 0 < z) (hs : a.eval s = v) (hx : a.eval x = u)
    (hown : w.ownsRow B e z v n xs) (hB : B ≤ w.heap.size) (hsr : Sou w u m news) (hl : news.length = m * z) (h1 : ∀ x ∈ news, x.oneCell' = true) (hn : n + m ≤ 100000) (hbz : bz ≤ 1000)
    (k : ∀ v' w', w'.ownsRow B e z v' (n + m) (xs ++ news) → Below B w w' → (∃ ao c, v' = .slice ao (n + m) c) → wpList Tryz.prog ops Q rest (a.put o.dst v') w') : wpList Tryz.prog ops Q (o :: rest) a w :=
  wpList_plain hgd fun _ hK => wpo_appS s x ho hu hz hZ h0 hs hx hown hB hsr hl h1 hn hbz (fun v' w' h2 h3 => hK _ _ (k v' w' h2 (grown_le h3 hB (fun k e => (hown.lt k e).1)) (own_slice h2)))
end Go.Proofs.YtmopffaocamieaaGreat
