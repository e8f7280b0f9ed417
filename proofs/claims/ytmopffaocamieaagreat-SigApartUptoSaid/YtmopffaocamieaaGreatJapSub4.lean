/-
  The texts Sub, Shf, Bas, Law, joined.
-/
import Derived.Test.YtmopffaocamieaaGreatJapEql2
import Derived.Shelf.LaysM
import Derived.Shelf.Strconv.Clone
import Derived.Shelf.Strings.Search1
import Derived.Shelf.Strings.Search2
import Derived.Shelf.Strings.Cut
import Derived.Shelf.Strings.Shaped
import Derived.Test.YtmopffaocamieaaGreatJapMat4
namespace Go.Proofs.YtmopffaocamieaaGreat
open Go.RowKit

theorem Below.drewN (C : Nat) (w : World) (n : Nat) : Below C w (w.drewN n) := ⟨rfl, rfl, rfl, Nat.le_refl _, fun _ _ => rfl⟩
theorem sub_of (A ts R : List Value) {k : Nat} (hk : A.length = k) (j : Nat) (hj : j < ts.length) : (A ++ (ts ++ R))[k + j]? = ts[j]? := by
  rw [List.getElem?_append_right (by omega), show k + j - A.length = j by omega, List.getElem?_append_left hj]
/-- A part of the cells that lie at an address. -/
theorem part_at {w : World} {b o z : Nat} {cs : List Value} (hc : ∀ j, j < z → w.cell? ⟨b, o + j, none⟩ = cs[j]?) (A ts R : List Value) {k n : Nat} (hk : A.length = k) (hn : ts.length = n) (hz : k + n ≤ z) (e : cs = A ++ (ts ++ R)) :
    ∀ j, j < n → w.cell? ⟨b, o + k + j, none⟩ = ts[j]? := fun j hj => by
  rw [Nat.add_assoc, hc (k + j) (by omega), e]
  exact sub_of A ts R hk j (by omega)
theorem TyAt.len : ∀ {n : Nat} {K : Ctx} {w : World} {cs : List Value} {t : Ty}, TyAt n K w cs t → cs.length = 4
  | 0, _, _, _, _, h => h.elim
  | _ + 1, _, _, _, _, h => by obtain ⟨v2, v3, rfl, _⟩ := h; rfl
theorem IsTy.len {K : Ctx} {w : World} {cs : List Value} {t : Ty} (h : IsTy K w cs t) : cs.length = 4 := by obtain ⟨n, h⟩ := h; exact h.len
theorem PlAt.len {K : Ctx} {w : World} {cs : List Value} {t : Pl} (h : PlAt K w cs t) : cs.length = 2 := by obtain ⟨v, rfl, _⟩ := h; rfl
theorem OprAt.len {K : Ctx} {w : World} {cs : List Value} {t : Opr} (h : OprAt K w cs t) : cs.length = 4 := by obtain ⟨ps, rfl, h⟩ := h; simp [h.len]
theorem VaAt.len {K : Ctx} {w : World} {cs : List Value} {t : Va} (h : VaAt K w cs t) : cs.length = 15 := by
  obtain ⟨xa, xb, ps, vn, va, rfl, h1, h2, h3, _⟩ := h; simp [h1.len, h2.len, h3.len]
theorem StAt.len : ∀ {n : Nat} {K : Ctx} {w : World} {cs : List Value} {t : St}, StAt n K w cs t → cs.length = 32
  | 0, _, _, _, _, h => h.elim
  | _ + 1, _, _, _, _, h => by obtain ⟨ts, ps, vs, os, vt, ve, rfl, _, h1, h2, h3, h4, _⟩ := h; simp [h1.len, h2.len, h3.len, h4.len]
theorem LfeAt.len {K : Ctx} {w : World} {cs : List Value} {t : Lfe} (h : LfeAt K w cs t) : cs.length = 2 := by obtain ⟨v, rfl, _⟩ := h; rfl
theorem FldAt.len {K : Ctx} {w : World} {cs : List Value} {t : Fld} (h : FldAt K w cs t) : cs.length = 6 := by obtain ⟨v, rfl, _, h⟩ := h; simp [h.len]
theorem SctAt.len {K : Ctx} {w : World} {cs : List Value} {t : Sct} (h : SctAt K w cs t) : cs.length = 5 := by obtain ⟨v, v', rfl, _⟩ := h; rfl
theorem FncAt.len {n : Nat} {K : Ctx} {w : World} {cs : List Value} {t : Fnc} (h : FncAt n K w cs t) : cs.length = 10 := by
  obtain ⟨v2, v3, ts, v8, rfl, _, _, _, h, _⟩ := h; simp [h.len]
end Go.Proofs.YtmopffaocamieaaGreat

namespace Go.Proofs.YtmopffaocamieaaGreat
open Go.Shelf
def Tryz.laysM316_ren : Go.Shelf.Ren := ⟨fun | 316 => 62 | n => n, fun | 9 => 9 | 3 => 3 | 4 => 4 | 37 => 33 | 0 => 0 | 127 => 184 | 5 => 5 | n => n, fun | n => n⟩
theorem Tryz.laysM316 : Go.Proofs.LaysM.n316 Tryz.prog Tryz.laysM316_ren := {
  mixed := by kernel_rfl
  f316 := Tryz.func62.trans (congrArg some (by kernel_rfl))
  t0 := Tryz.underlying0
  a0 := Tryz.isAgg0
  z0 := Tryz.sizeOf0
  v0 := Tryz.zeroValue0
  t3 := Tryz.underlying3
  a3 := Tryz.isAgg3
  z3 := Tryz.sizeOf3
  v3 := Tryz.zeroValue3
  t4 := Tryz.underlying4
  a4 := Tryz.isAgg4
  z4 := Tryz.sizeOf4
  v4 := Tryz.zeroValue4
  t9 := Tryz.underlying9
  a9 := Tryz.isAgg9
  z9 := Tryz.sizeOf9
  v9 := Tryz.zeroValue9
  t37 := Tryz.underlying33
  a37 := Tryz.isAgg33
  z37 := Tryz.sizeOf33
  v37 := Tryz.zeroValue33
  t127 := Tryz.underlying184
  a127 := Tryz.isAgg184
  z127 := Tryz.sizeOf184
  v127 := Tryz.zeroValue184
  t5 := Tryz.underlying5
  a5 := Tryz.isAgg5
  z5 := Tryz.sizeOf5
  v5 := Tryz.zeroValue5
  i0 := by kernel_rfl
  i3 := by kernel_rfl
  i4 := by kernel_rfl
  i5 := by kernel_rfl
  i9 := by kernel_rfl
  i37 := by kernel_rfl
  i127 := by kernel_rfl }
open Go.RowKit in
theorem Tryz.stringslite_Clone (s : ByteArray) (w : World) (hlim : s.size ≤ 281474976710656) :
    Calls Tryz.prog 62 #[.string s] w fun e w' => e = .returned (.string s) ∧ Below w.heap.size w w' := Any.stringslite_Clone Tryz.laysM316 s w hlim
def Tryz.lays145_ren : Go.Shelf.Ren := ⟨fun | 145 => 203 | 220 => 214 | 219 => 217 | 217 => 218 | 225 => 219 | 224 => 220 | 267 => 221 | 266 => 222 | 314 => 223 | n => n, fun | 9 => 9 | 4 => 4 | 59 => 271 | 3 => 3 | 5 => 5 | 46 => 144 | 146 => 284 | 51 => 137 | n => n, fun | 1 => 0 | n => n⟩
theorem Tryz.lays145 : Go.Proofs.Lays.n145 Tryz.prog Tryz.lays145_ren := {
  mixed := by kernel_rfl
  f145 := Tryz.func203.trans (congrArg some (by kernel_rfl))
  f217 := Tryz.func218.trans (congrArg some (by kernel_rfl))
  f219 := Tryz.func217.trans (congrArg some (by kernel_rfl))
  f220 := Tryz.func214.trans (congrArg some (by kernel_rfl))
  f224 := Tryz.func220.trans (congrArg some (by kernel_rfl))
  f225 := Tryz.func219.trans (congrArg some (by kernel_rfl))
  f266 := Tryz.func222.trans (congrArg some (by kernel_rfl))
  f267 := Tryz.func221.trans (congrArg some (by kernel_rfl))
  f314 := Tryz.func223.trans (congrArg some (by kernel_rfl))
  t3 := Tryz.underlying3
  a3 := Tryz.isAgg3
  z3 := Tryz.sizeOf3
  v3 := Tryz.zeroValue3
  t4 := Tryz.underlying4
  a4 := Tryz.isAgg4
  z4 := Tryz.sizeOf4
  v4 := Tryz.zeroValue4
  t5 := Tryz.underlying5
  a5 := Tryz.isAgg5
  z5 := Tryz.sizeOf5
  v5 := Tryz.zeroValue5
  t9 := Tryz.underlying9
  a9 := Tryz.isAgg9
  z9 := Tryz.sizeOf9
  v9 := Tryz.zeroValue9
  t46 := Tryz.underlying144
  a46 := Tryz.isAgg144
  z46 := Tryz.sizeOf144
  v46 := Tryz.zeroValue144
  t51 := Tryz.underlying137
  a51 := Tryz.isAgg137
  z51 := Tryz.sizeOf137
  v51 := Tryz.zeroValue137
  t59 := Tryz.underlying271
  a59 := Tryz.isAgg271
  z59 := Tryz.sizeOf271
  v59 := Tryz.zeroValue271
  t146 := Tryz.underlying284
  a146 := Tryz.isAgg284
  z146 := Tryz.sizeOf284
  v146 := Tryz.zeroValue284
  g1 := by kernel_rfl }
open Go.RowKit Go.Lib in
theorem Tryz.strings_Cut (s sep : ByteArray) (m : Int) (w : World) (hs : s.size < 4294967281) (hm : w.cell? ⟨0, 0, none⟩ = some (.int .i64 m)) :
    Calls Tryz.prog 203 #[.string s, .string sep] w fun e w' => e = .returned (.tuple #[.string ⟨(Lib.cut s.data.toList sep.data.toList).1.toArray⟩, .string ⟨(Lib.cut s.data.toList sep.data.toList).2.1.toArray⟩, .bool (Lib.cut s.data.toList sep.data.toList).2.2]) ∧ ∃ n, w' = w.drewN n := Any.strings_Cut Tryz.lays145 s sep m w hs hm
def Tryz.laysM145_ren : Go.Shelf.Ren := ⟨fun | 145 => 203 | 220 => 214 | 219 => 217 | 217 => 218 | 225 => 219 | 224 => 220 | 267 => 221 | 266 => 222 | 314 => 223 | n => n, fun | 9 => 9 | 4 => 4 | 59 => 271 | 3 => 3 | 5 => 5 | 46 => 144 | 146 => 284 | 51 => 137 | n => n, fun | 1 => 0 | n => n⟩
theorem Tryz.laysM145 : Go.Proofs.LaysM.n145 Tryz.prog Tryz.laysM145_ren := {
  mixed := by kernel_rfl
  f145 := Tryz.func203.trans (congrArg some (by kernel_rfl))
  f217 := Tryz.func218.trans (congrArg some (by kernel_rfl))
  f219 := Tryz.func217.trans (congrArg some (by kernel_rfl))
  f220 := Tryz.func214.trans (congrArg some (by kernel_rfl))
  f224 := Tryz.func220.trans (congrArg some (by kernel_rfl))
  f225 := Tryz.func219.trans (congrArg some (by kernel_rfl))
  f266 := Tryz.func222.trans (congrArg some (by kernel_rfl))
  f267 := Tryz.func221.trans (congrArg some (by kernel_rfl))
  f314 := Tryz.func223.trans (congrArg some (by kernel_rfl))
  t3 := Tryz.underlying3
  a3 := Tryz.isAgg3
  z3 := Tryz.sizeOf3
  v3 := Tryz.zeroValue3
  t4 := Tryz.underlying4
  a4 := Tryz.isAgg4
  z4 := Tryz.sizeOf4
  v4 := Tryz.zeroValue4
  t5 := Tryz.underlying5
  a5 := Tryz.isAgg5
  z5 := Tryz.sizeOf5
  v5 := Tryz.zeroValue5
  t9 := Tryz.underlying9
  a9 := Tryz.isAgg9
  z9 := Tryz.sizeOf9
  v9 := Tryz.zeroValue9
  t46 := Tryz.underlying144
  a46 := Tryz.isAgg144
  z46 := Tryz.sizeOf144
  v46 := Tryz.zeroValue144
  t51 := Tryz.underlying137
  a51 := Tryz.isAgg137
  z51 := Tryz.sizeOf137
  v51 := Tryz.zeroValue137
  t59 := Tryz.underlying271
  a59 := Tryz.isAgg271
  z59 := Tryz.sizeOf271
  v59 := Tryz.zeroValue271
  t146 := Tryz.underlying284
  a146 := Tryz.isAgg284
  z146 := Tryz.sizeOf284
  v146 := Tryz.zeroValue284
  g1 := by kernel_rfl
  i3 := by kernel_rfl
  i4 := by kernel_rfl
  i5 := by kernel_rfl
  i9 := by kernel_rfl
  i46 := by kernel_rfl
  i51 := by kernel_rfl
  i59 := by kernel_rfl
  i146 := by kernel_rfl
  m1 := by kernel_rfl
  s1_3 := fun w h => Go.Proofs.cell_of_shapedOpen_int (zero := #[.int .i64 0]) (t := 3) h (of_decide_eq_true (by kernel_rfl)) (by kernel_rfl) rfl (by kernel_rfl) (by kernel_rfl) Tryz.underlying3 }
open Go.RowKit Go.Lib in
theorem Tryz.strings_Cut_shaped (s sep : ByteArray) (w : World) (h : w.ShapedOpen Tryz.prog) (hs : s.size < 4294967281) :
    Calls Tryz.prog 203 #[.string s, .string sep] w fun e w' => e = .returned (.tuple #[.string ⟨(Lib.cut s.data.toList sep.data.toList).1.toArray⟩, .string ⟨(Lib.cut s.data.toList sep.data.toList).2.1.toArray⟩, .bool (Lib.cut s.data.toList sep.data.toList).2.2]) ∧ ∃ n, w' = w.drewN n := Any.strings_Cut_shaped Tryz.laysM145 s sep w h hs
end Go.Proofs.YtmopffaocamieaaGreat

namespace Go.Proofs.YtmopffaocamieaaGreat
open Go.RowKit

/-- All blocks that were there, but those of X, stay. -/
structure Stay (X : Nat → Prop) (w w' : World) : Prop where
  os : w'.os = w.os
  tape : w'.tape = w.tape
  output : w'.output = w.output
  size : w.heap.size ≤ w'.heap.size
  block : ∀ k, k < w.heap.size → ¬ X k → w'.heap[k]? = w.heap[k]?
theorem Stay.refl (X : Nat → Prop) (w : World) : Stay X w w := ⟨rfl, rfl, rfl, Nat.le_refl _, fun _ _ _ => rfl⟩
/-- One step more, which may turn blocks that were not there at the beginning. -/
theorem Stay.step {X Y : Nat → Prop} {a b c : World} (h : Stay X a b) (k : Stay Y b c) (hy : ∀ i, i < a.heap.size → Y i → X i) : Stay X a c :=
  ⟨k.os.trans h.os, k.tape.trans h.tape, k.output.trans h.output, Nat.le_trans h.size k.size, fun i hi hn =>
    (k.block i (Nat.lt_of_lt_of_le hi h.size) (fun hY => hn (hy i hi hY))).trans (h.block i hi hn)⟩
theorem Stay.trans {X : Nat → Prop} {a b c : World} (h : Stay X a b) (k : Stay X b c) : Stay X a c := h.step k fun _ _ h => h
theorem Stay.of_below {X : Nat → Prop} {w w' : World} (h : Below w.heap.size w w') : Stay X w w' := ⟨h.os, h.tape, h.output, h.size, fun k hk _ => h.block k hk⟩
theorem Stay.below {X : Nat → Prop} {w w' : World} (h : Stay X w w') {C : Nat} (hC : C ≤ w.heap.size) (hX : ∀ k, X k → C ≤ k) : Below C w w' :=
  ⟨h.os, h.tape, h.output, h.size, fun k hk => h.block k (by omega) (fun hx => by have := hX k hx; omega)⟩
theorem Stay.row {X : Nat → Prop} {w w' : World} (h : Stay X w w') {g t : Nat} {L : List Value} (hr : Row w g t L) (hg : ¬ X g) : Row w' g t L :=
  ⟨(h.block g hr.lt hg).trans hr.heap⟩
theorem Stay.alloc {X : Nat → Prop} {a w : World} (h : Stay X a w) (o : Obj) : Stay X a (w.alloc o) := h.trans (Stay.of_below ((Below.refl _ _).alloc (Nat.le_refl _) _))
theorem Stay.drew {X : Nat → Prop} {a w : World} (h : Stay X a w) : Stay X a w.drew := ⟨h.os, h.tape, h.output, h.size, h.block⟩
theorem Stay.drewN {X : Nat → Prop} {a w : World} (h : Stay X a w) (n : Nat) : Stay X a (w.drewN n) := ⟨h.os, h.tape, h.output, h.size, h.block⟩
theorem Stay.set {X : Nat → Prop} {a w : World} (h : Stay X a w) {g : Nat} (hg : g < a.heap.size → X g) (j : Nat) (v : Value) : Stay X a (w.setCell ⟨g, j, none⟩ v) := by
  refine ⟨h.os, h.tape, h.output, ?_, fun k hk hx => ?_⟩
  · have := h.size
    have e : (w.setCell ⟨g, j, none⟩ v).heap.size = w.heap.size := by simp [World.setCell]
    omega
  · rw [heap_setCell_other w ⟨g, j, none⟩ k v (by rintro rfl; exact hx (hg hk))]
    exact h.block k hk hx
theorem below_le {C D : Nat} {w w' : World} (h : Below D w w') (hC : C ≤ D) : Below C w w' := ⟨h.os, h.tape, h.output, h.size, fun k hk => h.block k (by omega)⟩
theorem Row.alloc {w : World} {g t : Nat} {L : List Value} (h : Row w g t L) (o : Obj) : Row (w.alloc o) g t L := (Stay.alloc (Stay.refl (fun _ => False) w) o).row h (fun h => h)
theorem Row.cells {w : World} {g t : Nat} {L : List Value} (h : Row w g t L) (z : Nat) : ∀ j, j < z → w.cell? ⟨g, 0 + j, none⟩ = L[j]? := fun j _ => by rw [Nat.zero_add]; exact h.cell j

/-- What is known of a world: all that is spoken of lies below C; the library's variable is a number; texts are not too long to be looked through. -/
structure Env (K : Ctx) (w : World) : Prop where
  C : K.C ≤ w.heap.size
  z : 0 < K.C
  ml : ∃ m, w.cell? ⟨0, 0, none⟩ = some (.int .i64 m)
  B : K.B ≤ 1048576
theorem Env.below {K : Ctx} {w w' : World} (h : Env K w) (hb : Below K.C w w') : Env K w' := by
  refine ⟨Nat.le_trans h.C hb.size, h.z, ?_, h.B⟩
  obtain ⟨m, hm⟩ := h.ml
  exact ⟨m, (hb.cell (p := ⟨0, 0, none⟩) h.z).trans hm⟩

theorem nil_ar {α : Type} {z bz : Nat} {P : List Value → α → Prop} {K : Ctx} {w : World} : Ar z bz P K w (.slice none 0 0) [] := ⟨none, 0, rfl, Nat.le_refl _, by simp, fun _ h => by cases h⟩
def Ty.zero : Ty := ⟨0, [], [], []⟩
def Pl.zero : Pl := ⟨[], []⟩
def Opr.zero : Opr := ⟨0, 0, Pl.zero⟩
def Va.zero : Va := ⟨0, Opr.zero, Opr.zero, 0, Pl.zero, [], [], []⟩
def tyCells (k : Int) : List Value := [.int .i64 k, .string (str []), .slice none 0 0, .slice none 0 0]
theorem kind_at (K : Ctx) (w : World) (k : Int) : IsTy K w (tyCells k) ⟨k, [], [], []⟩ := ⟨1, _, _, rfl, by simp, nil_ar, nil_ar⟩
def plCells : List Value := [.string (str []), .slice none 0 0]
theorem pl_zero (K : Ctx) (w : World) : PlAt K w plCells Pl.zero := ⟨_, rfl, by simp [Pl.zero], nil_ar⟩
def oprCells : List Value := [.int .i64 0, .int .i64 0, .string (str []), .slice none 0 0]
theorem opr_zero (K : Ctx) (w : World) : OprAt K w oprCells Opr.zero := ⟨_, rfl, pl_zero K w⟩
def vaCells (k : Int) : List Value := .int .i64 k :: (oprCells ++ (oprCells ++ (.int .i64 0 :: (plCells ++ [.string (str []), .slice none 0 0, .slice none 0 0]))))
theorem va_zero (K : Ctx) (w : World) (k : Int) : VaAt K w (vaCells k) { Va.zero with kind := k } := ⟨_, _, _, _, _, rfl, opr_zero K w, opr_zero K w, pl_zero K w, by simp [Va.zero], nil_ar, nil_ar⟩
def stCells (k p : Int) : List Value := .int .i64 k :: .int .i64 p :: .bool false :: .string (str []) :: (tyCells 0 ++ (.bool false :: (plCells ++ (vaCells 0 ++ (oprCells ++ [.slice none 0 0, .slice none 0 0])))))
def St.bare (k p : Int) : St := ⟨k, p, false, [], Ty.zero, false, Pl.zero, Va.zero, Opr.zero, [], []⟩
theorem st_zero (n : Nat) (K : Ctx) (w : World) (k p : Int) : StAt (n + 1) K w (stCells k p) (St.bare k p) :=
  ⟨_, _, _, _, _, _, rfl, by simp [St.bare], kind_at K w 0, pl_zero K w, va_zero K w 0, opr_zero K w, nil_ar, nil_ar⟩
end Go.Proofs.YtmopffaocamieaaGreat

namespace Go.Proofs.YtmopffaocamieaaGreat
open Go.RowKit

theorem setRow_alloc (w : World) (t : TypeId) (old cells : Array Value) : (w.alloc (.cells old t)).setRow w.heap.size cells = w.alloc (.cells cells t) := by
  unfold World.setRow World.alloc
  simp only
  congr 1
  apply Array.ext
  · simp
  · intro i h1 h2
    rw [Array.getElem_modify]
    simp only [Array.size_modify, Array.size_push] at h1
    by_cases hi : w.heap.size = i
    · subst hi; simp
    · rw [if_neg hi]
      have hlt : i < w.heap.size := by omega
      rw [Array.getElem_push_lt hlt, Array.getElem_push_lt hlt]
theorem store_new {P : Program} {ops : Array Oper} {rest : List Oper} {o : Oper} {a : Act} {w : World} {Q : Exit → Act → World → Prop} (hgd : o.guard = none) (ty : TypeId) (x y : Operand) (ho : o.op = .store ty x y)
    (cells old : Array Value) (t : TypeId) (hx : a.eval x = .pointer (some ⟨w.heap.size, 0, none⟩)) (hy : a.eval y = .agg cells) (hi : (P.info? ty).map (·.size) = some cells.size)
    (hold : old.size = cells.size) (h1 : cells.all (·.oneCell') = true)
    (h : wpList P ops Q rest (a.put o.dst undef) (w.alloc (.cells cells t))) : wpList P ops Q (o :: rest) a (w.alloc (.cells old t)) := by
  refine wpList_store_row hgd ty x y ho w.heap.size cells hx hy t old (heap_alloc_new w _) hi hold h1 ?_
  rw [setRow_alloc]; exact h
theorem load_new {P : Program} {ops : Array Oper} {rest : List Oper} {o : Oper} {a : Act} {w : World} {Q : Exit → Act → World → Prop} (hgd : o.guard = none) (ty : TypeId) (x : Operand) (ho : o.op = .load ty x)
    (cs : List Value) (t : TypeId) (d : TypeDesc) (hx : a.eval x = .pointer (some ⟨w.heap.size, 0, none⟩)) (hu : P.underlying ty = some d) (hd : d.isRow = true) (hi : (P.info? ty).map (·.size) = some cs.length)
    (h : wpList P ops Q rest (a.put o.dst (.agg cs.toArray)) (w.alloc (.cells cs.toArray t))) : wpList P ops Q (o :: rest) a (w.alloc (.cells cs.toArray t)) :=
  wpList_load_mid hgd ty x ho w.heap.size 0 hx cs d (Row.new w t cs).range hu hd hi h

theorem one_mem {cs : List Value} (h : ∀ u ∈ cs, u.oneCell' = true) : cs.toArray.all (·.oneCell') = true := all_one h
theorem Ar.one {α : Type} {z bz : Nat} {P : List Value → α → Prop} {K : Ctx} {w : World} {v : Value} {l : List α} (h : Ar z bz P K w v l) : v.oneCell' = true := by
  obtain ⟨ao, cap, rfl, _⟩ := h.shape; rfl
theorem ones_nil : ∀ u ∈ ([] : List Value), u.oneCell' = true := fun _ h => by cases h
theorem ones_cons {v : Value} {l : List Value} (h : v.oneCell' = true) (hl : ∀ u ∈ l, u.oneCell' = true) : ∀ u ∈ v :: l, u.oneCell' = true := by
  intro u hu
  rcases List.mem_cons.1 hu with rfl | h'
  · exact h
  · exact hl u h'
theorem ones_app {a b : List Value} (h : ∀ u ∈ a, u.oneCell' = true) (hl : ∀ u ∈ b, u.oneCell' = true) : ∀ u ∈ a ++ b, u.oneCell' = true := by
  intro u hu
  rcases List.mem_append.1 hu with h' | h'
  · exact h u h'
  · exact hl u h'
theorem TyAt.one : ∀ {n : Nat} {K : Ctx} {w : World} {cs : List Value} {t : Ty}, TyAt n K w cs t → ∀ u ∈ cs, u.oneCell' = true
  | 0, _, _, _, _, h => h.elim
  | _ + 1, _, _, _, _, h => by obtain ⟨v2, v3, rfl, _, h1, h2⟩ := h; exact ones_cons rfl (ones_cons rfl (ones_cons h1.one (ones_cons h2.one ones_nil)))
theorem IsTy.one {K : Ctx} {w : World} {cs : List Value} {t : Ty} (h : IsTy K w cs t) : ∀ u ∈ cs, u.oneCell' = true := by obtain ⟨n, h⟩ := h; exact h.one
theorem PlAt.one {K : Ctx} {w : World} {cs : List Value} {t : Pl} (h : PlAt K w cs t) : ∀ u ∈ cs, u.oneCell' = true := by
  obtain ⟨v, rfl, _, h⟩ := h; exact ones_cons rfl (ones_cons h.one ones_nil)
theorem OprAt.one {K : Ctx} {w : World} {cs : List Value} {t : Opr} (h : OprAt K w cs t) : ∀ u ∈ cs, u.oneCell' = true := by
  obtain ⟨ps, rfl, h⟩ := h; exact ones_cons rfl (ones_cons rfl h.one)
theorem VaAt.one {K : Ctx} {w : World} {cs : List Value} {t : Va} (h : VaAt K w cs t) : ∀ u ∈ cs, u.oneCell' = true := by
  obtain ⟨xa, xb, ps, vn, va, rfl, h1, h2, h3, _, h4, h5⟩ := h
  exact ones_cons rfl (ones_app h1.one (ones_app h2.one (ones_cons rfl (ones_app h3.one (ones_cons rfl (ones_cons h4.one (ones_cons h5.one ones_nil)))))))
theorem StAt.one : ∀ {n : Nat} {K : Ctx} {w : World} {cs : List Value} {t : St}, StAt n K w cs t → ∀ u ∈ cs, u.oneCell' = true
  | 0, _, _, _, _, h => h.elim
  | _ + 1, _, _, _, _, h => by
    obtain ⟨ts, ps, vs, os, vt, ve, rfl, _, h1, h2, h3, h4, h5, h6⟩ := h
    exact ones_cons rfl (ones_cons rfl (ones_cons rfl (ones_cons rfl (ones_app h1.one (ones_cons rfl (ones_app h2.one (ones_app h3.one (ones_app h4.one (ones_cons h5.one (ones_cons h6.one ones_nil))))))))))
theorem LfeAt.one {K : Ctx} {w : World} {cs : List Value} {t : Lfe} (h : LfeAt K w cs t) : ∀ u ∈ cs, u.oneCell' = true := by
  obtain ⟨v, rfl, _, h⟩ := h; exact ones_cons rfl (ones_cons h.one ones_nil)
theorem FldAt.one {K : Ctx} {w : World} {cs : List Value} {t : Fld} (h : FldAt K w cs t) : ∀ u ∈ cs, u.oneCell' = true := by
  obtain ⟨v, rfl, _, h⟩ := h; exact ones_cons rfl (ones_cons rfl h.one)
theorem SctAt.one {K : Ctx} {w : World} {cs : List Value} {t : Sct} (h : SctAt K w cs t) : ∀ u ∈ cs, u.oneCell' = true := by
  obtain ⟨v, v', rfl, _, h1, h2⟩ := h; exact ones_cons rfl (ones_cons rfl (ones_cons h1.one (ones_cons h2.one (ones_cons rfl ones_nil))))
theorem FncAt.one {n : Nat} {K : Ctx} {w : World} {cs : List Value} {t : Fnc} (h : FncAt n K w cs t) : ∀ u ∈ cs, u.oneCell' = true := by
  obtain ⟨v2, v3, ts, v8, rfl, _, h1, h2, h3, h4⟩ := h
  exact ones_cons rfl (ones_cons rfl (ones_cons h1.one (ones_cons h2.one (ones_app h3.one (ones_cons h4.one (ones_cons rfl ones_nil))))))
end Go.Proofs.YtmopffaocamieaaGreat
