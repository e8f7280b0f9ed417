/-
  The texts Bas, Law, joined.
-/
import Derived.Test.YtjenmmkamhplkaaJSub2
namespace Go.Proofs.Ytjenmmkamhplkaa
open Go.RowKit

/-- All blocks that were there, but those of X, stay. -/
structure Stay (X : Nat → Prop) (w w' : World) : Prop where
  os : w'.os = w.os
  tape : w'.tape = w.tape
  output : w'.output = w.output
  size : w.heap.size ≤ w'.heap.size
  block : ∀ k, k < w.heap.size → ¬ X k → w'.heap[k]? = w.heap[k]?
theorem Stay.refl (X : Nat → Prop) (w : World) : Stay X w w := ⟨rfl, rfl, rfl, Nat.le_refl _, fun _ _ _ => rfl⟩
/-- One step more, which may turn blocks that were not there at the beginning. -/
theorem Stay.step {X Y : Nat → Prop} {a b c : World} (h : Stay X a b) (k : Stay Y b c) (hy : ∀ i, i < a.heap.size → Y i → X i) : Stay X a c :=
  ⟨k.os.trans h.os, k.tape.trans h.tape, k.output.trans h.output, Nat.le_trans h.size k.size, fun i hi hn =>
    (k.block i (Nat.lt_of_lt_of_le hi h.size) (fun hY => hn (hy i hi hY))).trans (h.block i hi hn)⟩
theorem Stay.trans {X : Nat → Prop} {a b c : World} (h : Stay X a b) (k : Stay X b c) : Stay X a c := h.step k fun _ _ h => h
theorem Stay.of_below {X : Nat → Prop} {w w' : World} (h : Below w.heap.size w w') : Stay X w w' := ⟨h.os, h.tape, h.output, h.size, fun k hk _ => h.block k hk⟩
theorem Stay.below {X : Nat → Prop} {w w' : World} (h : Stay X w w') {C : Nat} (hC : C ≤ w.heap.size) (hX : ∀ k, X k → C ≤ k) : Below C w w' :=
  ⟨h.os, h.tape, h.output, h.size, fun k hk => h.block k (by omega) (fun hx => by have := hX k hx; omega)⟩
theorem Stay.row {X : Nat → Prop} {w w' : World} (h : Stay X w w') {g t : Nat} {L : List Value} (hr : Row w g t L) (hg : ¬ X g) : Row w' g t L :=
  ⟨(h.block g hr.lt hg).trans hr.heap⟩
theorem Stay.alloc {X : Nat → Prop} {a w : World} (h : Stay X a w) (o : Obj) : Stay X a (w.alloc o) := h.trans (Stay.of_below ((Below.refl _ _).alloc (Nat.le_refl _) _))
theorem Stay.drew {X : Nat → Prop} {a w : World} (h : Stay X a w) : Stay X a w.drew := ⟨h.os, h.tape, h.output, h.size, h.block⟩
theorem Stay.drewN {X : Nat → Prop} {a w : World} (h : Stay X a w) (n : Nat) : Stay X a (w.drewN n) := ⟨h.os, h.tape, h.output, h.size, h.block⟩
theorem Stay.set {X : Nat → Prop} {a w : World} (h : Stay X a w) {g : Nat} (hg : g < a.heap.size → X g) (j : Nat) (v : Value) : Stay X a (w.setCell ⟨g, j, none⟩ v) := by
  refine ⟨h.os, h.tape, h.output, ?_, fun k hk hx => ?_⟩
  · have := h.size
    have e : (w.setCell ⟨g, j, none⟩ v).heap.size = w.heap.size := by simp [World.setCell]
    omega
  · rw [heap_setCell_other w ⟨g, j, none⟩ k v (by rintro rfl; exact hx (hg hk))]
    exact h.block k hk hx
theorem below_le {C D : Nat} {w w' : World} (h : Below D w w') (hC : C ≤ D) : Below C w w' := ⟨h.os, h.tape, h.output, h.size, fun k hk => h.block k (by omega)⟩
theorem Row.alloc {w : World} {g t : Nat} {L : List Value} (h : Row w g t L) (o : Obj) : Row (w.alloc o) g t L := (Stay.alloc (Stay.refl (fun _ => False) w) o).row h (fun h => h)
theorem Row.cells {w : World} {g t : Nat} {L : List Value} (h : Row w g t L) (z : Nat) : ∀ j, j < z → w.cell? ⟨g, 0 + j, none⟩ = L[j]? := fun j _ => by rw [Nat.zero_add]; exact h.cell j

/-- What is known of a world: all that is spoken of lies below C; the library's variable is a number; texts are not too long to be looked through. -/
structure Env (K : Ctx) (w : World) : Prop where
  C : K.C ≤ w.heap.size
  z : 0 < K.C
  ml : ∃ m, w.cell? ⟨0, 0, none⟩ = some (.int .i64 m)
  B : K.B ≤ 1048576
theorem Env.below {K : Ctx} {w w' : World} (h : Env K w) (hb : Below K.C w w') : Env K w' := by
  refine ⟨Nat.le_trans h.C hb.size, h.z, ?_, h.B⟩
  obtain ⟨m, hm⟩ := h.ml
  exact ⟨m, (hb.cell (p := ⟨0, 0, none⟩) h.z).trans hm⟩

theorem nil_ar {α : Type} {z bz : Nat} {P : List Value → α → Prop} {K : Ctx} {w : World} : Ar z bz P K w (.slice none 0 0) [] := ⟨none, 0, rfl, Nat.le_refl _, by simp, fun _ h => by cases h⟩
def Ty.zero : Ty := ⟨0, [], [], []⟩
def Pl.zero : Pl := ⟨[], []⟩
def Opr.zero : Opr := ⟨0, 0, Pl.zero⟩
def Va.zero : Va := ⟨0, Opr.zero, Opr.zero, 0, Pl.zero, [], [], []⟩
def tyCells (k : Int) : List Value := [.int .i64 k, .string (str []), .slice none 0 0, .slice none 0 0]
theorem kind_at (K : Ctx) (w : World) (k : Int) : IsTy K w (tyCells k) ⟨k, [], [], []⟩ := ⟨1, _, _, rfl, by simp, nil_ar, nil_ar⟩
def plCells : List Value := [.string (str []), .slice none 0 0]
theorem pl_zero (K : Ctx) (w : World) : PlAt K w plCells Pl.zero := ⟨_, rfl, by simp [Pl.zero], nil_ar⟩
def oprCells : List Value := [.int .i64 0, .int .i64 0, .string (str []), .slice none 0 0]
theorem opr_zero (K : Ctx) (w : World) : OprAt K w oprCells Opr.zero := ⟨_, rfl, pl_zero K w⟩
def vaCells (k : Int) : List Value := .int .i64 k :: (oprCells ++ (oprCells ++ (.int .i64 0 :: (plCells ++ [.string (str []), .slice none 0 0, .slice none 0 0]))))
theorem va_zero (K : Ctx) (w : World) (k : Int) : VaAt K w (vaCells k) { Va.zero with kind := k } := ⟨_, _, _, _, _, rfl, opr_zero K w, opr_zero K w, pl_zero K w, by simp [Va.zero], nil_ar, nil_ar⟩
def stCells (k p : Int) : List Value := .int .i64 k :: .int .i64 p :: .bool false :: .string (str []) :: (tyCells 0 ++ (.bool false :: (plCells ++ (vaCells 0 ++ (oprCells ++ [.slice none 0 0, .slice none 0 0])))))
def St.bare (k p : Int) : St := ⟨k, p, false, [], Ty.zero, false, Pl.zero, Va.zero, Opr.zero, [], []⟩
theorem st_zero (n : Nat) (K : Ctx) (w : World) (k p : Int) : StAt (n + 1) K w (stCells k p) (St.bare k p) :=
  ⟨_, _, _, _, _, _, rfl, by simp [St.bare], kind_at K w 0, pl_zero K w, va_zero K w 0, opr_zero K w, nil_ar, nil_ar⟩
end Go.Proofs.Ytjenmmkamhplkaa

namespace Go.Proofs.Ytjenmmkamhplkaa
open Go.RowKit

theorem setRow_alloc (w : World) (t : TypeId) (old cells : Array Value) : (w.alloc (.cells old t)).setRow w.heap.size cells = w.alloc (.cells cells t) := by
  unfold World.setRow World.alloc
  simp only
  congr 1
  apply Array.ext
  · simp
  · intro i h1 h2
    rw [Array.getElem_modify]
    simp only [Array.size_modify, Array.size_push] at h1
    by_cases hi : w.heap.size = i
    · subst hi; simp
    · rw [if_neg hi]
      have hlt : i < w.heap.size := by omega
      rw [Array.getElem_push_lt hlt, Array.getElem_push_lt hlt]
theorem store_new {P : Program} {ops : Array Oper} {rest : List Oper} {o : Oper} {a : Act} {w : World} {Q : Exit → Act → World → Prop} (hgd : o.guard = none) (ty : TypeId) (x y : Operand) (ho : o.op = .store ty x y)
    (cells old : Array Value) (t : TypeId) (hx : a.eval x = .pointer (some ⟨w.heap.size, 0, none⟩)) (hy : a.eval y = .agg cells) (hi : (P.info? ty).map (·.size) = some cells.size)
    (hold : old.size = cells.size) (h1 : cells.all (·.oneCell') = true)
    (h : wpList P ops Q rest (a.put o.dst undef) (w.alloc (.cells cells t))) : wpList P ops Q (o :: rest) a (w.alloc (.cells old t)) := by
  refine wpList_store_row hgd ty x y ho w.heap.size cells hx hy t old (heap_alloc_new w _) hi hold h1 ?_
  rw [setRow_alloc]; exact h
theorem load_new {P : Program} {ops : Array Oper} {rest : List Oper} {o : Oper} {a : Act} {w : World} {Q : Exit → Act → World → Prop} (hgd : o.guard = none) (ty : TypeId) (x : Operand) (ho : o.op = .load ty x)
    (cs : List Value) (t : TypeId) (d : TypeDesc) (hx : a.eval x = .pointer (some ⟨w.heap.size, 0, none⟩)) (hu : P.underlying ty = some d) (hd : d.isRow = true) (hi : (P.info? ty).map (·.size) = some cs.length)
    (h : wpList P ops Q rest (a.put o.dst (.agg cs.toArray)) (w.alloc (.cells cs.toArray t))) : wpList P ops Q (o :: rest) a (w.alloc (.cells cs.toArray t)) :=
  wpList_load_mid hgd ty x ho w.heap.size 0 hx cs d (Row.new w t cs).range hu hd hi h

theorem one_mem {cs : List Value} (h : ∀ u ∈ cs, u.oneCell' = true) : cs.toArray.all (·.oneCell') = true := all_one h
theorem Ar.one {α : Type} {z bz : Nat} {P : List Value → α → Prop} {K : Ctx} {w : World} {v : Value} {l : List α} (h : Ar z bz P K w v l) : v.oneCell' = true := by
  obtain ⟨ao, cap, rfl, _⟩ := h.shape; rfl
theorem ones_nil : ∀ u ∈ ([] : List Value), u.oneCell' = true := fun _ h => by cases h
theorem ones_cons {v : Value} {l : List Value} (h : v.oneCell' = true) (hl : ∀ u ∈ l, u.oneCell' = true) : ∀ u ∈ v :: l, u.oneCell' = true := by
  intro u hu
  rcases List.mem_cons.1 hu with rfl | h'
  · exact h
  · exact hl u h'
theorem ones_app {a b : List Value} (h : ∀ u ∈ a, u.oneCell' = true) (hl : ∀ u ∈ b, u.oneCell' = true) : ∀ u ∈ a ++ b, u.oneCell' = true := by
  intro u hu
  rcases List.mem_append.1 hu with h' | h'
  · exact h u h'
  · exact hl u h'
theorem TyAt.one : ∀ {n : Nat} {K : Ctx} {w : World} {cs : List Value} {t : Ty}, TyAt n K w cs t → ∀ u ∈ cs, u.oneCell' = true
  | 0, _, _, _, _, h => h.elim
  | _ + 1, _, _, _, _, h => by obtain ⟨v2, v3, rfl, _, h1, h2⟩ := h; exact ones_cons rfl (ones_cons rfl (ones_cons h1.one (ones_cons h2.one ones_nil)))
theorem IsTy.one {K : Ctx} {w : World} {cs : List Value} {t : Ty} (h : IsTy K w cs t) : ∀ u ∈ cs, u.oneCell' = true := by obtain ⟨n, h⟩ := h; exact h.one
theorem PlAt.one {K : Ctx} {w : World} {cs : List Value} {t : Pl} (h : PlAt K w cs t) : ∀ u ∈ cs, u.oneCell' = true := by
  obtain ⟨v, rfl, _, h⟩ := h; exact ones_cons rfl (ones_cons h.one ones_nil)
theorem OprAt.one {K : Ctx} {w : World} {cs : List Value} {t : Opr} (h : OprAt K w cs t) : ∀ u ∈ cs, u.oneCell' = true := by
  obtain ⟨ps, rfl, h⟩ := h; exact ones_cons rfl (ones_cons rfl h.one)
theorem VaAt.one {K : Ctx} {w : World} {cs : List Value} {t : Va} (h : VaAt K w cs t) : ∀ u ∈ cs, u.oneCell' = true := by
  obtain ⟨xa, xb, ps, vn, va, rfl, h1, h2, h3, _, h4, h5⟩ := h
  exact ones_cons rfl (ones_app h1.one (ones_app h2.one (ones_cons rfl (ones_app h3.one (ones_cons rfl (ones_cons h4.one (ones_cons h5.one ones_nil)))))))
theorem StAt.one : ∀ {n : Nat} {K : Ctx} {w : World} {cs : List Value} {t : St}, StAt n K w cs t → ∀ u ∈ cs, u.oneCell' = true
  | 0, _, _, _, _, h => h.elim
  | _ + 1, _, _, _, _, h => by
    obtain ⟨ts, ps, vs, os, vt, ve, rfl, _, h1, h2, h3, h4, h5, h6⟩ := h
    exact ones_cons rfl (ones_cons rfl (ones_cons rfl (ones_cons rfl (ones_app h1.one (ones_cons rfl (ones_app h2.one (ones_app h3.one (ones_app h4.one (ones_cons h5.one (ones_cons h6.one ones_nil))))))))))
theorem LfeAt.one {K : Ctx} {w : World} {cs : List Value} {t : Lfe} (h : LfeAt K w cs t) : ∀ u ∈ cs, u.oneCell' = true := by
  obtain ⟨v, rfl, _, h⟩ := h; exact ones_cons rfl (ones_cons h.one ones_nil)
theorem FldAt.one {K : Ctx} {w : World} {cs : List Value} {t : Fld} (h : FldAt K w cs t) : ∀ u ∈ cs, u.oneCell' = true := by
  obtain ⟨v, rfl, _, h⟩ := h; exact ones_cons rfl (ones_cons rfl h.one)
theorem SctAt.one {K : Ctx} {w : World} {cs : List Value} {t : Sct} (h : SctAt K w cs t) : ∀ u ∈ cs, u.oneCell' = true := by
  obtain ⟨v, v', rfl, _, h1, h2⟩ := h; exact ones_cons rfl (ones_cons rfl (ones_cons h1.one (ones_cons h2.one (ones_cons rfl ones_nil))))
theorem FncAt.one {n : Nat} {K : Ctx} {w : World} {cs : List Value} {t : Fnc} (h : FncAt n K w cs t) : ∀ u ∈ cs, u.oneCell' = true := by
  obtain ⟨v2, v3, ts, v8, rfl, _, h1, h2, h3, h4⟩ := h
  exact ones_cons rfl (ones_cons rfl (ones_cons h1.one (ones_cons h2.one (ones_app h3.one (ones_cons h4.one (ones_cons rfl ones_nil))))))
end Go.Proofs.Ytjenmmkamhplkaa
