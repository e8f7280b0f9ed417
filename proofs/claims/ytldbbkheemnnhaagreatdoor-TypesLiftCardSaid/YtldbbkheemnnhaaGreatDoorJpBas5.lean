/-
  The texts Bas, Law, Als, Smt, Mty, joined.
-/
import Derived.Test.YtldbbkheemnnhaaGreatDoorJpEql4
import Derived.Test.YtldbbkheemnnhaaGreatDoorJpByt5
namespace Go.Proofs.YtldbbkheemnnhaaGreatDoor
open Go.RowKit
structure Stay (X : Nat -> Prop) (w w' : World) : Prop where
 os : w'.os = w.os
 tape : w'.tape = w.tape
 output : w'.output = w.output
 size : w.heap.size <= w'.heap.size
 block : ∀ k, k < w.heap.size -> ¬ X k -> w'.heap[k]? = w.heap[k]?
theorem Stay.refl (X : Nat -> Prop) (w : World) : Stay X w w := ⟨rfl, rfl, rfl, Nat.le_refl _, fun _ _ _ => rfl⟩
theorem Stay.step {X Y : Nat -> Prop} {a b c : World} (h : Stay X a b) (k : Stay Y b c) (hy : ∀ i, i < a.heap.size -> Y i -> X i) : Stay X a c :=
 ⟨k.os.trans h.os, k.tape.trans h.tape, k.output.trans h.output, Nat.le_trans h.size k.size, fun i hi hn =>
  (k.block i (Nat.lt_of_lt_of_le hi h.size) (fun hY => hn (hy i hi hY))).trans (h.block i hi hn)⟩
theorem Stay.trans {X : Nat -> Prop} {a b c : World} (h : Stay X a b) (k : Stay X b c) : Stay X a c := h.step k fun _ _ h => h
theorem Stay.of_below {X : Nat -> Prop} {w w' : World} (h : Below w.heap.size w w') : Stay X w w' := ⟨h.os, h.tape, h.output, h.size, fun k hk _ => h.block k hk⟩
theorem Stay.below {X : Nat -> Prop} {w w' : World} (h : Stay X w w') {C : Nat} (hC : C <= w.heap.size) (hX : ∀ k, X k -> C <= k) : Below C w w' :=
 ⟨h.os, h.tape, h.output, h.size, fun k hk => h.block k (by omega) (fun hx => by have := hX k hx; omega)⟩
theorem Stay.row {X : Nat -> Prop} {w w' : World} (h : Stay X w w') {g t : Nat} {L : List Value} (hr : Row w g t L) (hg : ¬ X g) : Row w' g t L :=
 ⟨(h.block g hr.lt hg).trans hr.heap⟩
theorem Stay.alloc {X : Nat -> Prop} {a w : World} (h : Stay X a w) (o : Obj) : Stay X a (w.alloc o) := h.trans (Stay.of_below ((Below.refl _ _).alloc (Nat.le_refl _) _))
theorem Stay.drew {X : Nat -> Prop} {a w : World} (h : Stay X a w) : Stay X a w.drew := ⟨h.os, h.tape, h.output, h.size, h.block⟩
theorem Stay.drewN {X : Nat -> Prop} {a w : World} (h : Stay X a w) (n : Nat) : Stay X a (w.drewN n) := ⟨h.os, h.tape, h.output, h.size, h.block⟩
theorem Stay.set {X : Nat -> Prop} {a w : World} (h : Stay X a w) {g : Nat} (hg : g < a.heap.size -> X g) (j : Nat) (v : Value) : Stay X a (w.setCell ⟨g, j, none⟩ v) := by
 refine ⟨h.os, h.tape, h.output, ?_, fun k hk hx => ?_⟩
 ·have := h.size
  have e : (w.setCell ⟨g, j, none⟩ v).heap.size = w.heap.size := by simp [World.setCell]
  omega
 ·rw [heap_setCell_other w ⟨g, j, none⟩ k v (by rintro rfl; exact hx (hg hk))]
  exact h.block k hk hx
theorem below_le {C D : Nat} {w w' : World} (h : Below D w w') (hC : C <= D) : Below C w w' := ⟨h.os, h.tape, h.output, h.size, fun k hk => h.block k (by omega)⟩
theorem Row.alloc {w : World} {g t : Nat} {L : List Value} (h : Row w g t L) (o : Obj) : Row (w.alloc o) g t L := (Stay.alloc (Stay.refl (fun _ => False) w) o).row h (fun h => h)
theorem Row.cells {w : World} {g t : Nat} {L : List Value} (h : Row w g t L) (z : Nat) : ∀ j, j < z -> w.cell? ⟨g, 0 + j, none⟩ = L[j]? := fun j _ => by rw [Nat.zero_add]; exact h.cell j
structure Env (K : Ctx) (w : World) : Prop where
 C : K.C <= w.heap.size
 z : 1 < K.C
 ml : ∃ m, w.cell? ⟨1, 0, none⟩ = some (.int .i64 m)
 B : K.B <= 1048576
theorem Env.below {K : Ctx} {w w' : World} (h : Env K w) (hb : Below K.C w w') : Env K w' := by
 refine ⟨Nat.le_trans h.C hb.size, h.z, ?_, h.B⟩
 obtain ⟨m, hm⟩ := h.ml
 exact ⟨m, (hb.cell (p := ⟨1, 0, none⟩) h.z).trans hm⟩
theorem nil_ar {α : Type} {z bz : Nat} {P : List Value -> α -> Prop} {K : Ctx} {w : World} : Ar z bz P K w (.slice none 0 0) [] := ⟨none, 0, rfl, Nat.le_refl _, by simp, fun _ h => by cases h⟩
def Ty.zero : Ty := ⟨0, [], [], []⟩
def Pl.zero : Pl := ⟨[], []⟩
def Opr.zero : Opr := ⟨0, 0, Pl.zero⟩
def Va.zero : Va := ⟨0, Opr.zero, Opr.zero, 0, Pl.zero, [], [], []⟩
def tyCells (k : Int) : List Value := [.int .i64 k, .string (str []), .slice none 0 0, .slice none 0 0]
theorem kind_at (K : Ctx) (w : World) (k : Int) : IsTy K w (tyCells k) ⟨k, [], [], []⟩ := ⟨1, _, _, rfl, by simp, nil_ar, nil_ar⟩
def plCells : List Value := [.string (str []), .slice none 0 0]
def oprCells : List Value := [.int .i64 0, .int .i64 0, .string (str []), .slice none 0 0]
def vaCells (k : Int) : List Value := .int .i64 k :: (oprCells ++ (oprCells ++ (.int .i64 0 :: (plCells ++ [.string (str []), .slice none 0 0, .slice none 0 0]))))
def stCells (k p : Int) : List Value := .int .i64 k :: .int .i64 p :: .bool false :: .string (str []) :: (tyCells 0 ++ (.bool false :: (plCells ++ (vaCells 0 ++ (oprCells ++ [.slice none 0 0, .slice none 0 0])))))
def St.bare (k p : Int) : St := ⟨k, p, false, [], Ty.zero, false, Pl.zero, Va.zero, Opr.zero, [], []⟩
end Go.Proofs.YtldbbkheemnnhaaGreatDoor

namespace Go.Proofs.YtldbbkheemnnhaaGreatDoor
open Go.RowKit
theorem setRow_alloc (w : World) (t : TypeId) (old cells : Array Value) : (w.alloc (.cells old t)).setRow w.heap.size cells = w.alloc (.cells cells t) := by
 unfold World.setRow World.alloc
 simp only
 congr 1
 apply Array.ext
 ·simp
 ·intro i h1 h2
  rw [Array.getElem_modify]
  simp only [Array.size_modify, Array.size_push] at h1
  by_cases hi : w.heap.size = i
  ·subst hi; simp
  ·rw [if_neg hi]
   have hlt : i < w.heap.size := by omega
   rw [Array.getElem_push_lt hlt, Array.getElem_push_lt hlt]
theorem store_new {P : Program} {ops : Array Oper} {rest : List Oper} {o : Oper} {a : Act} {w : World} {Q : Exit -> Act -> World -> Prop} (hgd : o.guard = none) (ty : TypeId) (x y : Operand) (ho : o.op = .store ty x y)
  (cells old : Array Value) (t : TypeId) (hx : a.eval x = .pointer (some ⟨w.heap.size, 0, none⟩)) (hy : a.eval y = .agg cells) (hi : (P.info? ty).map (·.size) = some cells.size)
  (hold : old.size = cells.size) (h1 : cells.all (·.oneCell') = true)
  (h : wpList P ops Q rest (a.put o.dst undef) (w.alloc (.cells cells t))) : wpList P ops Q (o :: rest) a (w.alloc (.cells old t)) := by
 refine wpList_store_row hgd ty x y ho w.heap.size cells hx hy t old (heap_alloc_new w _) hi hold h1 ?_
 rw [setRow_alloc]; exact h
theorem load_new {P : Program} {ops : Array Oper} {rest : List Oper} {o : Oper} {a : Act} {w : World} {Q : Exit -> Act -> World -> Prop} (hgd : o.guard = none) (ty : TypeId) (x : Operand) (ho : o.op = .load ty x)
  (cs : List Value) (t : TypeId) (d : TypeDesc) (hx : a.eval x = .pointer (some ⟨w.heap.size, 0, none⟩)) (hu : P.underlying ty = some d) (hd : d.isRow = true) (hi : (P.info? ty).map (·.size) = some cs.length)
  (h : wpList P ops Q rest (a.put o.dst (.agg cs.toArray)) (w.alloc (.cells cs.toArray t))) : wpList P ops Q (o :: rest) a (w.alloc (.cells cs.toArray t)) :=
 wpList_load_mid hgd ty x ho w.heap.size 0 hx cs d (Row.new w t cs).range hu hd hi h
theorem one_mem {cs : List Value} (h : ∀ u ∈ cs, u.oneCell' = true) : cs.toArray.all (·.oneCell') = true := all_one h
theorem Ar.one {α : Type} {z bz : Nat} {P : List Value -> α -> Prop} {K : Ctx} {w : World} {v : Value} {l : List α} (h : Ar z bz P K w v l) : v.oneCell' = true := by
 obtain ⟨ao, cap, rfl, _⟩ := h.shape; rfl
theorem ones_nil : ∀ u ∈ ([] : List Value), u.oneCell' = true := fun _ h => by cases h
theorem ones_cons {v : Value} {l : List Value} (h : v.oneCell' = true) (hl : ∀ u ∈ l, u.oneCell' = true) : ∀ u ∈ v :: l, u.oneCell' = true := by
 intro u hu
 rcases List.mem_cons.1 hu with rfl | h'
 ·exact h
 ·exact hl u h'
theorem ones_app {a b : List Value} (h : ∀ u ∈ a, u.oneCell' = true) (hl : ∀ u ∈ b, u.oneCell' = true) : ∀ u ∈ a ++ b, u.oneCell' = true := by
 intro u hu
 rcases List.mem_append.1 hu with h' | h'
 ·exact h u h'
 ·exact hl u h'
theorem TyAt.one : ∀ {n : Nat} {K : Ctx} {w : World} {cs : List Value} {t : Ty}, TyAt n K w cs t -> ∀ u ∈ cs, u.oneCell' = true
 | 0, _, _, _, _, h => h.elim
 | _ + 1, _, _, _, _, h => by obtain ⟨v2, v3, rfl, _, h1, h2⟩ := h; exact ones_cons rfl (ones_cons rfl (ones_cons h1.one (ones_cons h2.one ones_nil)))
theorem IsTy.one {K : Ctx} {w : World} {cs : List Value} {t : Ty} (h : IsTy K w cs t) : ∀ u ∈ cs, u.oneCell' = true := by obtain ⟨n, h⟩ := h; exact h.one
theorem PlAt.one {K : Ctx} {w : World} {cs : List Value} {t : Pl} (h : PlAt K w cs t) : ∀ u ∈ cs, u.oneCell' = true := by
 obtain ⟨v, rfl, _, h⟩ := h; exact ones_cons rfl (ones_cons h.one ones_nil)
theorem OprAt.one {K : Ctx} {w : World} {cs : List Value} {t : Opr} (h : OprAt K w cs t) : ∀ u ∈ cs, u.oneCell' = true := by
 obtain ⟨ps, rfl, h⟩ := h; exact ones_cons rfl (ones_cons rfl h.one)
theorem VaAt.one {K : Ctx} {w : World} {cs : List Value} {t : Va} (h : VaAt K w cs t) : ∀ u ∈ cs, u.oneCell' = true := by
 obtain ⟨xa, xb, ps, vn, va, rfl, h1, h2, h3, _, h4, h5⟩ := h
 exact ones_cons rfl (ones_app h1.one (ones_app h2.one (ones_cons rfl (ones_app h3.one (ones_cons rfl (ones_cons h4.one (ones_cons h5.one ones_nil)))))))
theorem StAt.one : ∀ {n : Nat} {K : Ctx} {w : World} {cs : List Value} {t : St}, StAt n K w cs t -> ∀ u ∈ cs, u.oneCell' = true
 | 0, _, _, _, _, h => h.elim
 | _ + 1, _, _, _, _, h => by
  obtain ⟨ts, ps, vs, os, vt, ve, rfl, _, h1, h2, h3, h4, h5, h6⟩ := h
  exact ones_cons rfl (ones_cons rfl (ones_cons rfl (ones_cons rfl (ones_app h1.one (ones_cons rfl (ones_app h2.one (ones_app h3.one (ones_app h4.one (ones_cons h5.one (ones_cons h6.one ones_nil))))))))))
theorem LfeAt.one {K : Ctx} {w : World} {cs : List Value} {t : Lfe} (h : LfeAt K w cs t) : ∀ u ∈ cs, u.oneCell' = true := by
 obtain ⟨v, rfl, _, h⟩ := h; exact ones_cons rfl (ones_cons h.one ones_nil)
theorem FldAt.one {K : Ctx} {w : World} {cs : List Value} {t : Fld} (h : FldAt K w cs t) : ∀ u ∈ cs, u.oneCell' = true := by
 obtain ⟨v, rfl, _, h⟩ := h; exact ones_cons rfl (ones_cons rfl h.one)
theorem SctAt.one {K : Ctx} {w : World} {cs : List Value} {t : Sct} (h : SctAt K w cs t) : ∀ u ∈ cs, u.oneCell' = true := by
 obtain ⟨v, v', rfl, _, h1, h2⟩ := h; exact ones_cons rfl (ones_cons rfl (ones_cons h1.one (ones_cons h2.one (ones_cons rfl ones_nil))))
theorem FncAt.one {n : Nat} {K : Ctx} {w : World} {cs : List Value} {t : Fnc} (h : FncAt n K w cs t) : ∀ u ∈ cs, u.oneCell' = true := by
 obtain ⟨v2, v3, ts, v8, rfl, _, h1, h2, h3, h4⟩ := h
 exact ones_cons rfl (ones_cons rfl (ones_cons h1.one (ones_cons h2.one (ones_app h3.one (ones_cons h4.one (ones_cons rfl ones_nil))))))
end Go.Proofs.YtldbbkheemnnhaaGreatDoor

namespace Go.Proofs.YtldbbkheemnnhaaGreatDoor
open Go.RowKit
theorem word_life {l : List UInt8} (h : isWord l = true) : lifeB l = true := by
 rcases word_cases h with rfl | rfl | rfl | rfl | rfl | rfl | rfl | rfl | rfl | rfl | rfl | rfl | rfl | rfl | rfl | rfl | rfl <;> decide
theorem life_or (l : List UInt8) : (nameB l || isWord l) = lifeB l := by
 rw [← life_name]
 cases h : isWord l
 ·simp
 ·rw [word_life h]; simp
def stepB (l : Bs) : Bool := decide (l = [42]) || nameB l
theorem lifeB_calls_48 (l : Bs) (hl : l.length <= 9223372036854775807) (w : World) : Calls Tryz.prog 160 #[.string (str l)] w fun ev w' => ev = .returned (.bool (lifeB l)) /\ w' = w := by
 have N := name_any l hl w
 have W := word_any l w
 rw [← life_or]
 generalize str l = S at *
 generalize isWord l = i at *
 cases hn : nameB l
 ·rw [hn] at N
  clear hn
  go_enter Tryz.func160, Tryz.ntmps160
  go_wp2_with (first | (go_at_call 95; refine N.mono ?_; rintro ev w2 ⟨rfl, rfl⟩) | (go_at_call 121; refine W.mono ?_; rintro ev w2 ⟨rfl, rfl⟩))
  go_ret
  exact ⟨by simp, rfl⟩
 ·rw [hn] at N
  clear hn
  go_enter Tryz.func160, Tryz.ntmps160
  go_wp2_with (first | (go_at_call 95; refine N.mono ?_; rintro ev w2 ⟨rfl, rfl⟩) | (go_at_call 121; refine W.mono ?_; rintro ev w2 ⟨rfl, rfl⟩))
  go_ret
  exact ⟨by simp, rfl⟩
set_option maxHeartbeats 4000000 in
theorem allLives {K : Ctx} {w : World} {v : Value} {l : List Bs} (ha : Strs K w v l) :
  Calls Tryz.prog 195 #[v, .func (.func 160) #[] #[]] w fun ev w' => ev = .returned (.bool (l.all lifeB)) /\ w' = w := by
 obtain ⟨ao, cap, rfl, hc, hb, hA⟩ := ha.shape
 have hsm := K.small
 have hl9 : l.length <= 9223372036854775807 := by omega
 have HA : Hid (∀ i (h : i < l.length), ∃ b o, ao = some ⟨b, o, none⟩ /\ w.cell? ⟨b, o + i, none⟩ = some (.string (str l[i])) /\ Calls Tryz.prog 160 #[.string (str l[i])] w fun ev w' => ev = .returned (.bool (lifeB l[i])) /\ w' = w) := by
  intro i h
  obtain ⟨b, o, e, _, cs, hl, hcs, hx⟩ := hA i h
  have := hcs 0 (by omega)
  rw [hx.1] at this
  exact ⟨b, o, e, by simpa using this, lifeB_calls_48 _ (by have := hx.2; omega) w⟩
 obtain ⟨B, hB⟩ : ∃ B, l.all lifeB = B := ⟨_, rfl⟩
 rw [hB]
 have HB : Hid (l.all lifeB = B) := hB
 clear hA hB ha hb
 go_enter Tryz.func195, Tryz.ntmps195
 go_wp2_with fail
 go_loopw [9] (fun i wr => ∃ k : Nat, k <= l.length /\ i = .int .i64 k /\ (∀ j (h : j < l.length), j < k -> lifeB l[j] = true) /\ wr = w) (fun i _ => l.length - (intOf i).toNat)
 case atStart => exact ⟨0, by omega, rfl, fun j _ h => by omega, rfl⟩
 case round =>
  obtain ⟨k, hk, rfl, hj, rfl⟩ := hrel
  have HJ : Hid (∀ j (h : j < l.length), j < k -> lifeB l[j] = true) := hj
  clear hj
  by_cases h3 : k < l.length
  ·obtain ⟨b, o, e, hcell, D⟩ := HA.out k h3
   subst e
   have i1 : (k : Int) < (l.length : Int) := by omega
   cases hp : lifeB l[k]
   ·have HF : Hid (B = false) := by
     show B = false
     rw [← HB.out, List.all_eq_false]
     exact ⟨_, List.getElem_mem h3, by rw [hp]; simp⟩
    rw [hp] at D
    clear hp HA
    generalize str l[k] = X at *
    go_wp2_with (go_at_call 160; refine D.mono ?_; rintro ev w2 ⟨rfl, rfl⟩)
    go_ret
    exact ⟨by rw [HF.out]; rfl, by trivial⟩
   ·have HJ' : Hid (∀ j (h : j < l.length), j < k + 1 -> lifeB l[j] = true) := by
     intro j h hjk
     rcases Nat.lt_or_ge j k with h' | h'
     ·exact HJ.out j h h'
     ·obtain rfl : j = k := by omega
      exact hp
    rw [hp] at D
    clear hp HA
    generalize str l[k] = X at *
    go_wp2_with (go_at_call 160; refine D.mono ?_; rintro ev w2 ⟨rfl, rfl⟩)
    go_roundw
    case rel => exact ⟨k + 1, by omega, by go_num, HJ'.out, by trivial⟩
    case measure => simp [intOf]; omega
  ·have HF : Hid (B = true) := by
    show B = true
    rw [← HB.out, List.all_eq_true]
    intro x hx
    obtain ⟨j, hj, rfl⟩ := List.getElem_of_mem hx
    exact HJ.out j hj (by omega)
   have i1 : ¬ (k : Int) < (l.length : Int) := by omega
   go_wp2_with fail
   go_ret
   exact ⟨by rw [HF.out]; rfl, by trivial⟩
set_option maxHeartbeats 4000000 in
theorem partsLives {K : Ctx} {w : World} {v : Value} {l : List Bs} (ha : Strs K w v l) :
  Calls Tryz.prog 159 #[v, .func (.func 160) #[] #[]] w fun ev w' => ev = .returned (.bool (decide (l.length <= 64) && l.all lifeB)) /\ w' = w := by
 have D := allLives ha
 obtain ⟨ao, cap, rfl, hc, hb, _⟩ := ha.shape
 have hl9 : l.length <= 9223372036854775807 := by omega
 clear hb ha
 generalize l.all lifeB = A at *
 by_cases h : l.length <= 64
 ·have b1 : decide ((l.length : Int) <= 64) = true := by simp; omega
  have i1 : (l.length : Int) <= 64 := by omega
  rw [decide_eq_true h]
  go_enter Tryz.func159, Tryz.ntmps159
  go_wp2_with (go_at_call 195; refine D.mono ?_; rintro ev w2 ⟨rfl, rfl⟩)
  go_ret
  exact ⟨by simp, rfl⟩
 ·have b1 : decide ((l.length : Int) <= 64) = false := by simp; omega
  have i1 : ¬ (l.length : Int) <= 64 := by omega
  rw [decide_eq_false h]
  go_enter Tryz.func159, Tryz.ntmps159
  go_wp2_with fail
  go_ret
  exact ⟨by simp, rfl⟩
end Go.Proofs.YtldbbkheemnnhaaGreatDoor

namespace Go.Proofs.YtldbbkheemnnhaaGreatDoor
open Go.RowKit
set_option maxHeartbeats 8000000 in
set_option maxRecDepth 20000 in
theorem sameType_of {n : Nat} (ih : ∀ {K : Ctx} (w : World) {va vb : Value} {la lb : List Ty}, Ar 4 72 (TyAt n K w) K w va la -> Ar 4 72 (TyAt n K w) K w vb lb -> ∀ (B : Bool), (B = true ↔ la = lb) -> Calls Tryz.prog 240 #[va, vb, .func (.func 216) #[] #[]] w fun ev w' => ev = .returned (.bool B) /\ ∃ m, w' = w.drewN m)
  {K : Ctx} {w : World} {x y : Ty} {b o b' o' : Nat} {cs cs' : List Value} (hc : ∀ j, j < 4 -> w.cell? ⟨b, o + j, none⟩ = cs[j]?) (hc' : ∀ j, j < 4 -> w.cell? ⟨b', o' + j, none⟩ = cs'[j]?)
  (hx : TyAt (n + 1) K w cs x) (hy : TyAt (n + 1) K w cs' y) (B : Bool) (hB : B = true ↔ x = y) :
  Calls Tryz.prog 216 #[.pointer (some ⟨b, o, none⟩), .pointer (some ⟨b', o', none⟩)] w fun ev w' => ev = .returned (.bool B) /\ ∃ m, w' = w.drewN m := by
 obtain ⟨v2, v3, rfl, hl1, h2, h3⟩ := id hx
 obtain ⟨u2, u3, rfl, hl2, g2, g3⟩ := id hy
 have c0 : w.cell? ⟨b, o, none⟩ = some (.int .i64 x.kind) := hc 0 (by decide)
 have d0 : w.cell? ⟨b', o', none⟩ = some (.int .i64 y.kind) := hc' 0 (by decide)
 have c1 : w.cell? ⟨b, o + 1, none⟩ = some (.string (str x.name)) := hc 1 (by decide)
 have d1 : w.cell? ⟨b', o' + 1, none⟩ = some (.string (str y.name)) := hc' 1 (by decide)
 have c2 : w.cell? ⟨b, o + 2, none⟩ = some v2 := hc 2 (by decide)
 have d2 : w.cell? ⟨b', o' + 2, none⟩ = some u2 := hc' 2 (by decide)
 have c3 : w.cell? ⟨b, o + 3, none⟩ = some v3 := hc 3 (by decide)
 have d3 : w.cell? ⟨b', o' + 3, none⟩ = some u3 := hc' 3 (by decide)
 have HB : Hid (B = true ↔ x = y) := hB
 clear hB
 have q0 : (x.kind == y.kind) = true ↔ x.kind = y.kind := beq_iff_eq
 have q1 : ((str x.name).toList == (str y.name).toList) = true ↔ x.name = y.name := by rw [str_beq]; exact decide_eq_true_iff
 have q2 : Hid (∀ (B : Bool), (B = true ↔ x.lives = y.lives) -> ∀ n, Calls Tryz.prog 239 #[v2, u2] (w.drewN n) fun ev w' => ev = .returned (.bool B) /\ ∃ m, w' = (w.drewN n).drewN m) := by
  intro B hB n
  exact equal_any (h2.below (Below.drewN _ _ _)) (g2.below (Below.drewN _ _ _)) B hB
 have q3 : Hid (∀ (B : Bool), (B = true ↔ x.elem = y.elem) -> ∀ n, Calls Tryz.prog 240 #[v3, u3, .func (.func 216) #[] #[]] (w.drewN n) fun ev w' => ev = .returned (.bool B) /\ ∃ m, w' = (w.drewN n).drewN m) := by
  intro B hB n
  exact ih (w.drewN n) (h3.mono (Below.drewN _ _ _) fun _ _ _ h => h.below (Below.drewN _ _ _)) (g3.mono (Below.drewN _ _ _) fun _ _ _ h => h.below (Below.drewN _ _ _)) B hB
 clear hc hc'
 by_cases e0 : x.kind = y.kind
 rotate_left
 ·have HF : Hid (B = false) := by
   show B = false
   cases hB : B
   ·rfl
   ·exact absurd (congrArg Ty.kind (HB.out.1 hB)) e0
  replace q0 := Bool.eq_false_iff.2 (fun h => e0 (q0.1 h))
  clear HB q1 q2 q3 e0 hx hy c1 d1 c2 d2 c3 d3 hl1 hl2 h2 h3 g2 g3 ih
  generalize x.kind = s0 at *
  generalize y.kind = t0 at *
  go_enter Tryz.func216, Tryz.ntmps216
  go_wp2_with fail
  go_quiet (fail)
  go_wp2_with fail
  go_ret
  exact ⟨by rw [HF.out]; rfl, _, rfl⟩
 by_cases e1 : x.name = y.name
 rotate_left
 ·have HF : Hid (B = false) := by
   show B = false
   cases hB : B
   ·rfl
   ·exact absurd (congrArg Ty.name (HB.out.1 hB)) e1
  replace q0 := q0.2 e0
  replace q1 := Bool.eq_false_iff.2 (fun h => e1 (q1.1 h))
  clear HB q2 q3 e0 e1 hx hy c2 d2 c3 d3 hl1 hl2 h2 h3 g2 g3 ih
  generalize x.kind = s0 at *
  generalize y.kind = t0 at *
  generalize str x.name = s1 at *
  generalize str y.name = t1 at *
  go_enter Tryz.func216, Tryz.ntmps216
  go_wp2_with fail
  go_quiet (fail)
  go_wp2_with fail
  go_ret
  exact ⟨by rw [HF.out]; rfl, _, rfl⟩
 by_cases e2 : x.lives = y.lives
 rotate_left
 ·have HF : Hid (B = false) := by
   show B = false
   cases hB : B
   ·rfl
   ·exact absurd (congrArg Ty.lives (HB.out.1 hB)) e2
  replace q0 := q0.2 e0
  replace q1 := q1.2 e1
  have r2 : Hid (∀ n, Calls Tryz.prog 239 #[v2, u2] (w.drewN n) fun ev w' => ev = .returned (.bool false) /\ ∃ m, w' = (w.drewN n).drewN m) := q2.out false ⟨fun h => (by cases h), fun h => absurd h e2⟩
  clear HB q2 q3 e0 e1 e2 hx hy c3 d3 hl1 hl2 h2 h3 g2 g3 ih
  generalize x.kind = s0 at *
  generalize y.kind = t0 at *
  generalize str x.name = s1 at *
  generalize str y.name = t1 at *
  go_enter Tryz.func216, Tryz.ntmps216
  go_wp2_with fail
  go_quiet (first | (go_at_call 239; exact Calls.quiet_of (r2.out _)))
  go_wp2_with fail
  go_ret
  exact ⟨by rw [HF.out]; rfl, _, rfl⟩
 by_cases e3 : x.elem = y.elem
 rotate_left
 ·have HF : Hid (B = false) := by
   show B = false
   cases hB : B
   ·rfl
   ·exact absurd (congrArg Ty.elem (HB.out.1 hB)) e3
  replace q0 := q0.2 e0
  replace q1 := q1.2 e1
  have r2 : Hid (∀ n, Calls Tryz.prog 239 #[v2, u2] (w.drewN n) fun ev w' => ev = .returned (.bool true) /\ ∃ m, w' = (w.drewN n).drewN m) := q2.out true ⟨fun _ => e2, fun _ => rfl⟩
  have r3 : Hid (∀ n, Calls Tryz.prog 240 #[v3, u3, .func (.func 216) #[] #[]] (w.drewN n) fun ev w' => ev = .returned (.bool false) /\ ∃ m, w' = (w.drewN n).drewN m) := q3.out false ⟨fun h => (by cases h), fun h => absurd h e3⟩
  clear HB q2 q3 e0 e1 e2 e3 hx hy  hl1 hl2 h2 h3 g2 g3 ih
  generalize x.kind = s0 at *
  generalize y.kind = t0 at *
  generalize str x.name = s1 at *
  generalize str y.name = t1 at *
  go_enter Tryz.func216, Tryz.ntmps216
  go_wp2_with fail
  go_quiet (first | (go_at_call 239; exact Calls.quiet_of (r2.out _)) | (go_at_call 240; exact Calls.quiet_of (r3.out _)))
  go_wp2_with fail
  go_ret
  exact ⟨by rw [HF.out]; rfl, _, rfl⟩
 have HF : Hid (B = true) := by
  refine HB.out.2 ?_
  clear q0 q1 q2 q3 HB hx hy c0 d0 c1 d1 c2 d2 c3 d3 hl1 hl2 h2 h3 g2 g3 ih
  cases x; cases y; simp only at e0 e1 e2 e3; subst e0 e1 e2 e3; rfl
 replace q0 := q0.2 e0
 replace q1 := q1.2 e1
 have r2 : Hid (∀ n, Calls Tryz.prog 239 #[v2, u2] (w.drewN n) fun ev w' => ev = .returned (.bool true) /\ ∃ m, w' = (w.drewN n).drewN m) := q2.out true ⟨fun _ => e2, fun _ => rfl⟩
 have r3 : Hid (∀ n, Calls Tryz.prog 240 #[v3, u3, .func (.func 216) #[] #[]] (w.drewN n) fun ev w' => ev = .returned (.bool true) /\ ∃ m, w' = (w.drewN n).drewN m) := q3.out true ⟨fun _ => e3, fun _ => rfl⟩
 clear HB q2 q3 e0 e1 e2 e3 hx hy  hl1 hl2 h2 h3 g2 g3 ih
 generalize x.kind = s0 at *
 generalize y.kind = t0 at *
 generalize str x.name = s1 at *
 generalize str y.name = t1 at *
 go_enter Tryz.func216, Tryz.ntmps216
 go_wp2_with fail
 go_quiet (first | (go_at_call 239; exact Calls.quiet_of (r2.out _)) | (go_at_call 240; exact Calls.quiet_of (r3.out _)))
 go_wp2_with fail
 go_ret
 exact ⟨by rw [HF.out]; rfl, _, rfl⟩
theorem sameType_at : ∀ (n : Nat) {K : Ctx} {w : World} {x y : Ty} {b o b' o' : Nat} {cs cs' : List Value}, (∀ j, j < 4 -> w.cell? ⟨b, o + j, none⟩ = cs[j]?) -> (∀ j, j < 4 -> w.cell? ⟨b', o' + j, none⟩ = cs'[j]?) ->
  TyAt n K w cs x -> TyAt n K w cs' y -> ∀ (B : Bool), (B = true ↔ x = y) ->
  Calls Tryz.prog 216 #[.pointer (some ⟨b, o, none⟩), .pointer (some ⟨b', o', none⟩)] w fun ev w' => ev = .returned (.bool B) /\ ∃ m, w' = w.drewN m
 | 0, _, _, _, _, _, _, _, _, _, _, _, _, hx, _, _, _ => hx.elim
 | n + 1, _, _, _, _, _, _, _, _, _, _, hc, hc', hx, hy, B, hB => sameType_of (fun w _ _ _ _ ha hb B hB => sameTypes_of (fun _ _ _ _ _ _ _ _ m B hc hc' hx hy hB =>
   sameType_at n (w := w.drewN m) hc hc' (hx.below (Below.drewN _ _ _)) (hy.below (Below.drewN _ _ _)) B hB) ha hb B hB) hc hc' hx hy B hB
theorem TyAt.more {K : Ctx} {w : World} : ∀ {n : Nat} {cs : List Value} {t : Ty}, TyAt n K w cs t -> TyAt (n + 1) K w cs t
 | 0, _, _, h => h.elim
 | n + 1, _, _, h => by
  obtain ⟨v2, v3, e, h1, h2, h3⟩ := h
  exact ⟨v2, v3, e, h1, h2, h3.mono (Below.refl _ _) fun _ _ _ h => TyAt.more h⟩
theorem TyAt.upto {K : Ctx} {w : World} {n m : Nat} {cs : List Value} {t : Ty} (h : TyAt n K w cs t) (hm : n <= m) : TyAt m K w cs t := by
 induction hm with
 | refl => exact h
 | step _ ih => exact ih.more
theorem sameType_any {K : Ctx} {w : World} {x y : Ty} {b o b' o' : Nat} {cs cs' : List Value} (hc : ∀ j, j < 4 -> w.cell? ⟨b, o + j, none⟩ = cs[j]?) (hc' : ∀ j, j < 4 -> w.cell? ⟨b', o' + j, none⟩ = cs'[j]?)
  (hx : IsTy K w cs x) (hy : IsTy K w cs' y) (B : Bool) (hB : B = true ↔ x = y) :
  Calls Tryz.prog 216 #[.pointer (some ⟨b, o, none⟩), .pointer (some ⟨b', o', none⟩)] w fun ev w' => ev = .returned (.bool B) /\ ∃ m, w' = w.drewN m := by
 obtain ⟨n, hx⟩ := hx
 obtain ⟨m, hy⟩ := hy
 exact sameType_at (max n m) hc hc' (hx.upto (by omega)) (hy.upto (by omega)) B hB
end Go.Proofs.YtldbbkheemnnhaaGreatDoor

namespace Go.Proofs.YtldbbkheemnnhaaGreatDoor
open Go.RowKit
theorem alloc_one (w : World) (a : Obj) : Below w.heap.size w (w.alloc a) := (Below.refl _ _).alloc (Nat.le_refl _) _
theorem size_alloc (w : World) (a : Obj) : (w.alloc a).heap.size = w.heap.size + 1 := by unfold World.alloc; simp only [Array.size_push]
theorem alloc_two (w : World) (a b : Obj) : Below w.heap.size w ((w.alloc a).alloc b) := (alloc_one w a).trans (below_le (alloc_one _ b) (by rw [size_alloc]; omega))
set_option maxHeartbeats 4000000 in
theorem sameTypes2_any {K : Ctx} {w : World} (hC : K.C <= w.heap.size) {x y : Ty} {cs cs' : List Value} (hx : IsTy K w cs x) (hy : IsTy K w cs' y) (B : Bool) (hB : B = true ↔ x = y) :
  Calls Tryz.prog 199 #[.agg cs.toArray, .agg cs'.toArray] w fun ev w' => ev = .returned (.bool B) /\ Below w.heap.size w w' := by
 have hA := alloc_two w (.cells cs.toArray 36) (.cells cs'.toArray 36)
 have D : Hid (Calls Tryz.prog 216 #[.pointer (some ⟨w.heap.size, 0, none⟩), .pointer (some ⟨w.heap.size + 1, 0, none⟩)] ((w.alloc (.cells cs.toArray 36)).alloc (.cells cs'.toArray 36)) fun ev w' => ev = .returned (.bool B) /\ Below w.heap.size w w') := by
  refine (sameType_any (((Row.new w 36 cs).alloc _).cells 4) (by have := (Row.new (w.alloc (.cells cs.toArray 36)) 36 cs').cells 4; rw [size_alloc] at this; exact this) (hx.below (below_le hA hC)) (hy.below (below_le hA hC)) B hB).mono ?_
  rintro _ _ ⟨rfl, m, rfl⟩
  exact ⟨rfl, hA.trans (Below.drewN _ _ _)⟩
 clear hx hy hA hB
 go_enter Tryz.func199, Tryz.ntmps199
 go_wp2_with (go_at_call 216; refine D.out.mono ?_; rintro ev w2 ⟨rfl, hb2⟩)
 go_ret
 exact ⟨rfl, hb2⟩
def farB (s : Bs) : Bool := nameB (Lib.cut s [58, 58]).1 && (!(Lib.cut s [58, 58]).2.2 || nameB (Lib.cut s [58, 58]).2.1)
theorem cut_len (s : Bs) : (Lib.cut s [58, 58]).1.length <= s.length /\ (Lib.cut s [58, 58]).2.1.length <= s.length := by
 unfold Lib.cut
 split
 ·simp; omega
 ·simp
set_option maxHeartbeats 4000000 in
theorem far_any (s : Bs) (hs : s.length <= 1048576) (w : World) (hm : ∃ m, w.cell? ⟨1, 0, none⟩ = some (.int .i64 m)) :
  Calls Tryz.prog 215 #[.string (str s)] w fun ev w' => ev = .returned (.bool (farB s)) /\ ∃ m, w' = w.drewN m := by
 obtain ⟨m, hm⟩ := hm
 have e1 : (str s).data.toList = s := by simp [str]
 have e2 : (str [58, 58]).data.toList = [58, 58] := by simp [str]
 have D : Calls Tryz.prog 238 #[.string (str s), .string ⟨#[58, 58]⟩] w fun e w' => e = .returned (.tuple #[.string (str (Lib.cut s [58, 58]).1), .string (str (Lib.cut s [58, 58]).2.1), .bool (Lib.cut s [58, 58]).2.2]) /\ ∃ n, w' = w.drewN n := by
  have D := Tryz.strings_Cut (str s) (str [58, 58]) m w (by rw [str_size]; omega) hm
  rw [e1, e2] at D
  exact D
 have hc := cut_len s
 have N1 : Hid (∀ y, Calls Tryz.prog 95 #[.string (str (Lib.cut s [58, 58]).1)] y fun ev w' => ev = .returned (.bool (nameB (Lib.cut s [58, 58]).1)) /\ w' = y) := fun y => name_any _ (by omega) y
 have N2 : Hid (∀ y, Calls Tryz.prog 95 #[.string (str (Lib.cut s [58, 58]).2.1)] y fun ev w' => ev = .returned (.bool (nameB (Lib.cut s [58, 58]).2.1)) /\ w' = y) := fun y => name_any _ (by omega) y
 unfold farB
 clear e1 e2 hc hm
 generalize hA : nameB (Lib.cut s [58, 58]).1 = A at *
 generalize hA2 : nameB (Lib.cut s [58, 58]).2.1 = A2 at *
 clear hA hA2
 generalize str (Lib.cut s [58, 58]).1 = S1 at *
 generalize str (Lib.cut s [58, 58]).2.1 = S2 at *
 generalize (Lib.cut s [58, 58]).2.2 = F at *
 generalize str s = S at *
 cases A <;> cases F <;> (go_enter Tryz.func215, Tryz.ntmps215; go_wp2_with (first | (go_at_call 238; refine D.mono ?_; rintro ev w2 ⟨rfl, n, rfl⟩) | (go_at_call_of 95 S1; refine (N1.out _).mono ?_; rintro ev w2 ⟨rfl, rfl⟩) | (go_at_call_of 95 S2; refine (N2.out _).mono ?_; rintro ev w2 ⟨rfl, rfl⟩)); go_ret; exact ⟨by simp, _, rfl⟩)
end Go.Proofs.YtldbbkheemnnhaaGreatDoor
