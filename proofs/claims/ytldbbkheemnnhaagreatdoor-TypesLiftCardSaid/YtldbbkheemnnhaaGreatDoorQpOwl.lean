/-
  A row that is copied into memory of its own, and each of its things turned: the bookkeeping.
-/
import Derived.Test.YtldbbkheemnnhaaGreatDoorJpPq82
namespace Go.Proofs.YtldbbkheemnnhaaGreatDoor
open Go.RowKit
theorem below_grownO {B : Nat} {w w' : World} {row : Option Nat} (h : w.grownBy w' row) (hB : B <= w.heap.size) (hr : ∀ k, row = some k -> B <= k) : Below B w w' :=
 (Below.refl B w).grown h hB hr
theorem flat_len {z : Nat} : ∀ {css : List (List Value)}, (∀ c ∈ css, c.length = z) -> css.flatten.length = css.length * z
 | [], _ => by simp
 | c :: css, h => by
  have h1 := flat_len (css := css) (fun c hc => h c (List.mem_cons_of_mem _ hc))
  have h2 := h c (List.mem_cons_self)
  simp only [List.flatten_cons, List.length_append, List.length_cons, h1, h2, Nat.succ_mul]
  omega
theorem flat_get {z : Nat} : ∀ {css : List (List Value)}, (∀ c ∈ css, c.length = z) -> ∀ (i : Nat) (h : i < css.length) (j : Nat), j < z -> css.flatten[i * z + j]? = css[i][j]?
 | [], _, _, h, _, _ => by cases h
 | c :: css, hz, 0, _, j, hj => by
  have h2 := hz c (List.mem_cons_self)
  simp only [List.flatten_cons, Nat.zero_mul, Nat.zero_add, List.getElem_cons_zero]
  exact List.getElem?_append_left (by omega)
 | c :: css, hz, i + 1, h, j, hj => by
  have h2 := hz c (List.mem_cons_self)
  have h3 := flat_get (css := css) (fun c hc => hz c (List.mem_cons_of_mem _ hc)) i (by simpa using h) j hj
  simp only [List.flatten_cons, List.getElem_cons_succ]
  rw [List.getElem?_append_right (by rw [h2, Nat.succ_mul]; omega), ← h3]
  congr 1
  rw [h2, Nat.succ_mul]; omega
theorem Ar.rows {α : Type} {z bz : Nat} {P : List Value -> α -> Prop} {K : Ctx} {w : World} {v : Value} {l : List α} (h : Ar z bz P K w v l) (one : ∀ cs x, P cs x -> ∀ u ∈ cs, u.oneCell' = true) :
  ∃ (ao : Option Addr) (cap : Nat) (css : List (List Value)), v = .slice ao l.length cap /\ css.length = l.length /\ (∀ c ∈ css, c.length = z) /\ (∀ i (h : i < l.length) (h' : i < css.length), P css[i] l[i]) /\ (∀ u ∈ css.flatten, u.oneCell' = true) /\
   (l = [] ∨ ∃ b o, ao = some ⟨b, o, none⟩ /\ ∀ j u, css.flatten[j]? = some u -> w.cell? ⟨b, o + j, none⟩ = some u) := by
 obtain ⟨ao, cap, e, h1, h2, h3⟩ := h.shape
 have key : ∀ k, k <= l.length -> ∃ css : List (List Value), css.length = k /\ (∀ c ∈ css, c.length = z) /\ (∀ i (h : i < l.length) (h' : i < css.length), P css[i] l[i] /\ ∃ b o, ao = some ⟨b, o, none⟩ /\ ∀ j, j < z -> w.cell? ⟨b, o + i * z + j, none⟩ = css[i][j]?) := by
  intro k
  induction k with
  | zero => intro _; exact ⟨[], rfl, fun c h => absurd h (by simp), fun i _ h => absurd h (by simp)⟩
  | succ k ih =>
   intro hk
   obtain ⟨css, c1, c2, c3⟩ := ih (by omega)
   obtain ⟨b, o, e1, _, cs, hl, hcs, hp⟩ := h3 k (by omega)
   refine ⟨css ++ [cs], by simp [c1], ?_, ?_⟩
   ·intro c hc
    rcases List.mem_append.1 hc with hc | hc
    ·exact c2 c hc
    ·simp at hc; subst hc; exact hl
   ·intro i hi hi'
    rcases Nat.lt_or_ge i css.length with hlt | hge
    ·have := c3 i hi hlt
     rw [List.getElem_append_left hlt]
     exact this
    ·obtain rfl : i = k := by simp at hi'; omega
     rw [List.getElem_append_right hge]
     simp only [c1, Nat.sub_self, List.getElem_cons_zero]
     exact ⟨hp, b, o, e1, hcs⟩
 obtain ⟨css, c1, c2, c3⟩ := key l.length (Nat.le_refl _)
 refine ⟨ao, cap, css, e, c1, c2, fun i h h' => (c3 i h h').1, ?_, ?_⟩
 ·intro u hu
  obtain ⟨c, hc, hu⟩ := List.mem_flatten.1 hu
  obtain ⟨i, hi, rfl⟩ := List.getElem_of_mem hc
  exact one _ _ (c3 i (by omega) hi).1 u hu
 ·cases hl : l with
  | nil => exact .inl rfl
  | cons x l' =>
   right
   have h0 : 0 < l.length := by rw [hl]; simp
   obtain ⟨_, b, o, eao, _⟩ := c3 0 h0 (by omega)
   refine ⟨b, o, eao, fun j u hj => ?_⟩
   have hlt := (List.getElem?_eq_some_iff.1 hj).1
   rw [flat_len c2] at hlt
   have hz : 0 < z := by
    rcases Nat.eq_zero_or_pos z with h | h
    ·subst h; omega
    ·exact h
   have hi : j / z < css.length := by rw [Nat.div_lt_iff_lt_mul hz]; exact hlt
   have hm : j % z < z := Nat.mod_lt _ hz
   have hdm : j / z * z + j % z = j := by rw [Nat.mul_comm]; exact Nat.div_add_mod j z
   obtain ⟨_, b', o', e2, hc⟩ := c3 (j / z) (by omega) hi
   rw [eao] at e2
   obtain ⟨rfl, rfl⟩ : b = b' /\ o = o' := by injection e2 with e2; injection e2 with e3 e4; exact ⟨e3, e4⟩
   have h5 := hc (j % z) hm
   rw [show o + j / z * z + j % z = o + j by omega] at h5
   rw [h5, ← flat_get c2 (j / z) hi (j % z) hm, hdm]
   exact hj
theorem app_all {ops : Array Oper} {rest : List Oper} {o : Oper} {a : Act} {Q : Exit -> Act -> World -> Prop} {w : World} (hgd : o.guard = none) (s x : Operand) (t el z bz : Nat) (Z : Value)
  (ho : o.op = .call { callee := .builtin .append, args := #[s, x], argTypes := #[t, t] }) (hs : a.eval s = .slice none 0 0) (hu : Tryz.prog.underlying t = some (.slice el))
  (hz : (Tryz.prog.info? el).map (fun i => (i.zero, i.size, i.bytes)) = some (some Z, z, bz)) (hZ : Z.cells.size = z) (h0 : 0 < z)
  (ao : Option Addr) (m cap : Nat) (css : List (List Value)) (hx : a.eval x = .slice ao m cap) (hl : css.length = m) (hc : ∀ c ∈ css, c.length = z) (h1 : ∀ u ∈ css.flatten, u.oneCell' = true)
  (hcell : m = 0 ∨ ∃ b o, ao = some ⟨b, o, none⟩ /\ ∀ j u, css.flatten[j]? = some u -> w.cell? ⟨b, o + j, none⟩ = some u) (hm : m <= 4611686018427387904) (hb : m * bz <= 140737488355328)
  (k : (m = 0 -> wpList Tryz.prog ops Q rest (a.put o.dst (.slice none 0 0)) w) /\ (∀ g1 cp sp w', 0 < m -> m <= cp -> w.heap.size <= g1 -> Row w' g1 el (css.flatten ++ sp) -> Below w.heap.size w w' -> wpList Tryz.prog ops Q rest (a.put o.dst (.slice (some ⟨g1, 0, none⟩) m cp)) w')) :
  wpList Tryz.prog ops Q (o :: rest) a w := by
 obtain ⟨i0, hi, hz0, hz1, hz2⟩ := info_parts hz
 refine wpList_plain hgd fun K hK => ?_
 rcases Nat.eq_zero_or_pos m with h | h
 ·subst h
  have hr : (Builtin.append_ #[t, t] o.type #[.slice none 0 0, .slice ao 0 cap]).run Tryz.prog w = .ok (.slice none 0 0) w := by
   cases ao with
   | none => simp [Builtin.append_, run_underlying hu, sizeOf, typeInfo, hi, Builtin.lenOf, Builtin.firstCells]
   | some ad => simp [Builtin.append_, run_underlying hu, sizeOf, typeInfo, hi, Builtin.lenOf, Builtin.firstCells, loadCells, loadCellsFrom]
  unfold Oper.wp execOp
  simp only [ho, resolve, invoke, builtin, Sem.run_bind, Sem.run_pure, Result.andThen_ok, List.map_toArray, List.map_cons, List.map_nil, hs, hx, hr]
  exact hK _ _ (k.1 rfl)
 ·rcases hcell with hcell | ⟨b, oo, rfl, hcell⟩
  ·omega
  obtain ⟨v', w', hrr, h2, h3, h4, h5⟩ := run_append_own_at (P := Tryz.prog) w w.heap.size t o.type el i0 Z z bz hu hi hz0 hz1 hz2 hZ h0 (.slice none 0 0) 0 [] (World.ownsRow_nil w _ _ _) ⟨b, oo, none⟩ m cap css.flatten (by rw [flat_len hc, hl])
   (fun j u hj => by rw [addr_add]; exact hcell j u hj) h1 (by unfold maxLen; omega) (by rw [Nat.zero_add]; exact hb) (Nat.le_refl _)
  unfold Oper.wp execOp
  simp only [ho, resolve, invoke, builtin, Sem.run_bind, Sem.run_pure, Result.andThen_ok, List.map_toArray, List.map_cons, List.map_nil, hs, hx, hrr]
  have hB : Below w.heap.size w w' := below_grownO h3 (Nat.le_refl _) (fun k e => by cases e)
  rw [Nat.zero_add, List.nil_append] at h2
  rcases h2.2 with ⟨rfl, hm0⟩ | ⟨g1, cp, cur, rfl, hg1, hh, hcp, _, hsz, htk⟩
  ·omega
  refine hK _ _ (k.2 g1 cp (cur.toList.drop (m * z)) w' h hcp hg1 ⟨?_⟩ hB)
  have e : css.flatten ++ cur.toList.drop (m * z) = cur.toList := by rw [← htk, List.take_append_drop]
  rw [e]
  simpa using hh
theorem app_zero {ops : Array Oper} {rest : List Oper} {o : Oper} {a : Act} {Q : Exit -> Act -> World -> Prop} {w : World} (hgd : o.guard = none) (s x : Operand) (t el z bz : Nat) (Z : Value)
  (ho : o.op = .call { callee := .builtin .append, args := #[s, x], argTypes := #[t, t] }) (hs : a.eval s = .slice none 0 0) (hu : Tryz.prog.underlying t = some (.slice el))
  (hz : (Tryz.prog.info? el).map (fun i => (i.zero, i.size, i.bytes)) = some (some Z, z, bz)) (hZ : Z.cells.size = z) (h0 : 0 < z) (ao : Option Addr) (cap : Nat) (hx : a.eval x = .slice ao 0 cap)
  (k : wpList Tryz.prog ops Q rest (a.put o.dst (.slice none 0 0)) w) : wpList Tryz.prog ops Q (o :: rest) a w :=
 app_all hgd s x t el z bz Z ho hs hu hz hZ h0 ao 0 cap [] hx rfl (fun _ h => by cases h) (fun _ h => by cases h) (.inl rfl) (by omega) (by omega) ⟨fun _ => k, fun _ _ _ _ h => by omega⟩
theorem app_some {ops : Array Oper} {rest : List Oper} {o : Oper} {a : Act} {Q : Exit -> Act -> World -> Prop} {w : World} (hgd : o.guard = none) (s x : Operand) (t el z bz : Nat) (Z : Value)
  (ho : o.op = .call { callee := .builtin .append, args := #[s, x], argTypes := #[t, t] }) (hs : a.eval s = .slice none 0 0) (hu : Tryz.prog.underlying t = some (.slice el))
  (hz : (Tryz.prog.info? el).map (fun i => (i.zero, i.size, i.bytes)) = some (some Z, z, bz)) (hZ : Z.cells.size = z) (h0 : 0 < z)
  (ao : Option Addr) (m cap : Nat) (css : List (List Value)) (hx : a.eval x = .slice ao m cap)
  (hh : 0 < m /\ css.length = m /\ (∀ c ∈ css, c.length = z) /\ (∀ u ∈ css.flatten, u.oneCell' = true) /\ (m = 0 ∨ ∃ b o, ao = some ⟨b, o, none⟩ /\ ∀ j u, css.flatten[j]? = some u -> w.cell? ⟨b, o + j, none⟩ = some u) /\ m <= 4611686018427387904 /\ m * bz <= 140737488355328)
  (k : ∀ g1 cp sp w', m <= cp -> w.heap.size <= g1 -> Row w' g1 el (css.flatten ++ sp) -> Below w.heap.size w w' -> wpList Tryz.prog ops Q rest (a.put o.dst (.slice (some ⟨g1, 0, none⟩) m cp)) w') :
  wpList Tryz.prog ops Q (o :: rest) a w :=
 app_all hgd s x t el z bz Z ho hs hu hz hZ h0 ao m cap css hx hh.2.1 hh.2.2.1 hh.2.2.2.1 hh.2.2.2.2.1 hh.2.2.2.2.2.1 hh.2.2.2.2.2.2 ⟨fun h => absurd h (by omega), fun g1 cp sp w' _ h1 h2 h3 h4 => k g1 cp sp w' h1 h2 h3 h4⟩
def OutC (z : Nat) {α : Type} (PQ : (Nat -> Prop) -> Nat -> World -> List Value -> α -> Prop) (y : α) (B : Nat) (w : World) (g t : Nat) (A R : List Value) (w' : World) : Prop :=
 ∃ cs', cs'.length = z /\ Stay (fun k => k = g) w w' /\ Row w' g t (A ++ (cs' ++ R)) /\ PQ (Fr w w') B w' cs' y
def OutL (z bz : Nat) {α : Type} (PQ : (Nat -> Prop) -> Nat -> World -> List Value -> α -> Prop) (l : List α) (B : Nat) (w : World) (g t : Nat) (A R : List Value) (w' : World) : Prop :=
 ∃ v', Stay (fun k => k = g) w w' /\ Row w' g t (A ++ (v' :: R)) /\ ArQ z bz (PQ (Fr w w') B w') (Fr w w') w' v' l
def OwnC (f z : Nat) {α : Type} (P : Ctx -> World -> List Value -> α -> Prop) (PQ : (Nat -> Prop) -> Nat -> World -> List Value -> α -> Prop) (F : α -> α) : Prop :=
 ∀ {K : Ctx} {w : World} {g t : Nat} {A cs R : List Value} {x : α} {o : Nat}, Row w g t (A ++ (cs ++ R)) -> A.length = o -> P K w cs x -> K.C <= g ->
  Calls Tryz.prog f #[.pointer (some ⟨g, o, none⟩)] w fun ev w' => ev = .returned (.tuple #[]) /\ OutC z PQ (F x) K.B w g t A R w'
def OwnL (f e z bz : Nat) {α : Type} (P : Ctx -> World -> List Value -> α -> Prop) (PQ : (Nat -> Prop) -> Nat -> World -> List Value -> α -> Prop) (F : α -> α) : Prop :=
 ∀ {K : Ctx} {w : World} {g t : Nat} {A R : List Value} {v : Value} {l : List α} {o : Nat}, Row w g t (A ++ (v :: R)) -> A.length = o -> Ar z bz (P K w) K w v l -> K.C <= g ->
  Calls Tryz.prog f #[.pointer (some ⟨g, o, none⟩), .func (.func e) #[] #[]] w fun ev w' => ev = .returned (.tuple #[]) /\ OutL z bz PQ (l.map F) K.B w g t A R w'
structure Kin {α : Type} (z : Nat) (P : Ctx -> World -> List Value -> α -> Prop) (PQ : (Nat -> Prop) -> Nat -> World -> List Value -> α -> Prop) : Prop where
 one : ∀ {K : Ctx} {w : World} {cs : List Value} {x : α}, P K w cs x -> ∀ u ∈ cs, u.oneCell' = true
 below : ∀ {K : Ctx} {w w' : World} {cs : List Value} {x : α}, P K w cs x -> Below K.C w w' -> P K w' cs x
 mono : ∀ {Q Q' : Nat -> Prop} {B : Nat} {w w' : World} {cs : List Value} {x : α}, PQ Q B w cs x -> Kp Q Q' w w' -> PQ Q' B w' cs x
structure Inv {α : Type} (PQ : (Nat -> Prop) -> Nat -> World -> List Value -> α -> Prop) (F : α -> α) (B z : Nat) (l : List α) (css : List (List Value)) (sp A R : List Value) (v' : Value) (w w1 : World) (g g1 t el k : Nat) (wr : World) : Prop where
 ex : ∃ dn : List (List Value), dn.length = k /\ (∀ c ∈ dn, c.length = z) /\ Row wr g t (A ++ (v' :: R)) /\ Row wr g1 el (dn.flatten ++ ((css.drop k).flatten ++ sp)) /\ Stay (fun k => k = g) w wr /\ w1.heap.size <= wr.heap.size /\
  ∀ j (h : j < dn.length) (h' : j < l.length), PQ (Fr w1 wr) B wr dn[j] (F l[j])
theorem Inv.call {α : Type} {e z : Nat} {P : Ctx -> World -> List Value -> α -> Prop} {PQ : (Nat -> Prop) -> Nat -> World -> List Value -> α -> Prop} {F : α -> α} (E : OwnC e z P PQ F) (kin : Kin z P PQ)
  {K : Ctx} {l : List α} {css : List (List Value)} {sp A R : List Value} {v' : Value} {w w1 wr : World} {g g1 t el k : Nat} (h : Inv PQ F K.B z l css sp A R v' w w1 g g1 t el k wr) (hg : K.C <= g) (hgw : g < w.heap.size) (hg1 : w.heap.size <= g1) (hg1' : g1 < w1.heap.size)
  (hl : css.length = l.length) (hP : ∀ i (h : i < l.length) (h' : i < css.length), P K w css[i] l[i]) (hk : k < l.length) (off : Nat) (ho : off = k * z) :
  Calls Tryz.prog e #[.pointer (some ⟨g1, off, none⟩)] wr fun ev w2 => ev = .returned (.tuple #[]) /\ Inv PQ F K.B z l css sp A R v' w w1 g g1 t el (k + 1) w2 := by
 obtain ⟨dn, d1, d2, d3, d4, d5, d6, d7⟩ := h.ex
 have hkc : k < css.length := by omega
 have hB : Below K.C w wr := d5.below (by omega) (fun q hq => by omega)
 have hx := kin.below (hP k hk hkc) hB
 have e1 : css.drop k = css[k] :: css.drop (k + 1) := List.drop_eq_getElem_cons hkc
 rw [e1, List.flatten_cons, List.append_assoc] at d4
 refine (E d4 (by rw [flat_len d2, d1, ho]) hx (by omega)).mono ?_
 rintro _ w2 ⟨rfl, cs', hc', s2, r2, q2⟩
 have hsz := s2.size
 refine ⟨rfl, ⟨dn ++ [cs'], by simp [d1], ?_, ?_, ?_, ?_, by omega, ?_⟩⟩
 ·intro c hc
  rcases List.mem_append.1 hc with hc | hc
  ·exact d2 c hc
  ·simp at hc; subst hc; exact hc'
 ·exact s2.row d3 (by omega)
 ·rw [List.flatten_append, List.append_assoc]
  simpa using r2
 ·exact d5.step s2 (fun i hi h => by omega)
 ·intro j hj hj'
  rcases Nat.lt_or_ge j dn.length with hlt | hge
  ·rw [List.getElem_append_left hlt]
   exact kin.mono (d7 j hlt hj') (Kp.fr s2 hg1' (Nat.le_refl _))
  ·obtain rfl : j = k := by simp at hj; omega
   rw [List.getElem_append_right hge]
   simp only [d1, Nat.sub_self, List.getElem_cons_zero]
   exact kin.mono q2 (Kp.fr' d6)
theorem Inv.done {α : Type} {z bz : Nat} {P : Ctx -> World -> List Value -> α -> Prop} {PQ : (Nat -> Prop) -> Nat -> World -> List Value -> α -> Prop} {F : α -> α} (kin : Kin z P PQ)
  {B : Nat} {l : List α} {css : List (List Value)} {sp A R : List Value} {w w1 wr : World} {g g1 t el cp : Nat} (h : Inv PQ F B z l css sp A R (.slice (some ⟨g1, 0, none⟩) l.length cp) w w1 g g1 t el l.length wr) (hg1 : w.heap.size <= g1) (hg1' : g1 < w1.heap.size) (hw1 : w.heap.size <= w1.heap.size)
  (hcp : l.length <= cp) (hb : l.length * bz <= 140737488355328) :
  OutL z bz PQ (l.map F) B w g t A R wr := by
 obtain ⟨dn, d1, d2, d3, d4, d5, d6, d7⟩ := h.ex
 refine ⟨_, d5, d3, ⟨some ⟨g1, 0, none⟩, cp, by rw [List.length_map], by rw [List.length_map]; exact hcp, by rw [List.length_map]; exact hb, fun i hi => ?_⟩⟩
 rw [List.length_map] at hi
 have hid : i < dn.length := by omega
 refine ⟨g1, 0, rfl, ⟨hg1, by omega⟩, dn[i], d2 _ (List.getElem_mem hid), fun j hj => ?_, ?_⟩
 ·have h1 : (i + 1) * z <= dn.length * z := Nat.mul_le_mul_right z hid
  rw [Nat.succ_mul] at h1
  rw [Nat.zero_add, d4.cell, List.getElem?_append_left (by rw [flat_len d2]; omega), flat_get d2 i hid j hj]
 ·rw [List.getElem_map]
  exact kin.mono (d7 i hid hi) (Kp.fr' hw1)
end Go.Proofs.YtldbbkheemnnhaaGreatDoor
