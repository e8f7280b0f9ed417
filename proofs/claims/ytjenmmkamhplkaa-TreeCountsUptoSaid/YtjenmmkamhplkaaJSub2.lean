/-
  The texts Sub, Shf, joined.
-/
import Derived.Test.YtjenmmkamhplkaaSls
import Derived.Shelf.LaysM
import Derived.Shelf.Strconv.Clone
import Derived.Shelf.Strings.Search1
import Derived.Shelf.Strings.Search2
import Derived.Shelf.Strings.Cut
import Derived.Shelf.Strings.Shaped
import Derived.Test.YtjenmmkamhplkaaJMat3
namespace Go.Proofs.Ytjenmmkamhplkaa
open Go.RowKit

theorem Below.drewN (C : Nat) (w : World) (n : Nat) : Below C w (w.drewN n) := ⟨rfl, rfl, rfl, Nat.le_refl _, fun _ _ => rfl⟩
theorem sub_of (A ts R : List Value) {k : Nat} (hk : A.length = k) (j : Nat) (hj : j < ts.length) : (A ++ (ts ++ R))[k + j]? = ts[j]? := by
  rw [List.getElem?_append_right (by omega), show k + j - A.length = j by omega, List.getElem?_append_left hj]
/-- A part of the cells that lie at an address. -/
theorem part_at {w : World} {b o z : Nat} {cs : List Value} (hc : ∀ j, j < z → w.cell? ⟨b, o + j, none⟩ = cs[j]?) (A ts R : List Value) {k n : Nat} (hk : A.length = k) (hn : ts.length = n) (hz : k + n ≤ z) (e : cs = A ++ (ts ++ R)) :
    ∀ j, j < n → w.cell? ⟨b, o + k + j, none⟩ = ts[j]? := fun j hj => by
  rw [Nat.add_assoc, hc (k + j) (by omega), e]
  exact sub_of A ts R hk j (by omega)
theorem TyAt.len : ∀ {n : Nat} {K : Ctx} {w : World} {cs : List Value} {t : Ty}, TyAt n K w cs t → cs.length = 4
  | 0, _, _, _, _, h => h.elim
  | _ + 1, _, _, _, _, h => by obtain ⟨v2, v3, rfl, _⟩ := h; rfl
theorem IsTy.len {K : Ctx} {w : World} {cs : List Value} {t : Ty} (h : IsTy K w cs t) : cs.length = 4 := by obtain ⟨n, h⟩ := h; exact h.len
theorem PlAt.len {K : Ctx} {w : World} {cs : List Value} {t : Pl} (h : PlAt K w cs t) : cs.length = 2 := by obtain ⟨v, rfl, _⟩ := h; rfl
theorem OprAt.len {K : Ctx} {w : World} {cs : List Value} {t : Opr} (h : OprAt K w cs t) : cs.length = 4 := by obtain ⟨ps, rfl, h⟩ := h; simp [h.len]
theorem VaAt.len {K : Ctx} {w : World} {cs : List Value} {t : Va} (h : VaAt K w cs t) : cs.length = 15 := by
  obtain ⟨xa, xb, ps, vn, va, rfl, h1, h2, h3, _⟩ := h; simp [h1.len, h2.len, h3.len]
theorem StAt.len : ∀ {n : Nat} {K : Ctx} {w : World} {cs : List Value} {t : St}, StAt n K w cs t → cs.length = 32
  | 0, _, _, _, _, h => h.elim
  | _ + 1, _, _, _, _, h => by obtain ⟨ts, ps, vs, os, vt, ve, rfl, _, h1, h2, h3, h4, _⟩ := h; simp [h1.len, h2.len, h3.len, h4.len]
theorem LfeAt.len {K : Ctx} {w : World} {cs : List Value} {t : Lfe} (h : LfeAt K w cs t) : cs.length = 2 := by obtain ⟨v, rfl, _⟩ := h; rfl
theorem FldAt.len {K : Ctx} {w : World} {cs : List Value} {t : Fld} (h : FldAt K w cs t) : cs.length = 6 := by obtain ⟨v, rfl, _, h⟩ := h; simp [h.len]
theorem SctAt.len {K : Ctx} {w : World} {cs : List Value} {t : Sct} (h : SctAt K w cs t) : cs.length = 5 := by obtain ⟨v, v', rfl, _⟩ := h; rfl
theorem FncAt.len {n : Nat} {K : Ctx} {w : World} {cs : List Value} {t : Fnc} (h : FncAt n K w cs t) : cs.length = 10 := by
  obtain ⟨v2, v3, ts, v8, rfl, _, _, _, h, _⟩ := h; simp [h.len]
end Go.Proofs.Ytjenmmkamhplkaa

namespace Go.Proofs.Ytjenmmkamhplkaa
open Go.Shelf
def Try.laysM316_ren : Go.Shelf.Ren := ⟨fun | 316 => 27 | n => n, fun | 9 => 9 | 3 => 3 | 4 => 4 | 37 => 90 | 0 => 0 | 127 => 91 | 5 => 5 | n => n, fun | n => n⟩
theorem Try.laysM316 : Go.Proofs.LaysM.n316 Try.prog Try.laysM316_ren := {
  mixed := by kernel_rfl
  f316 := Try.func27.trans (congrArg some (by kernel_rfl))
  t0 := Try.underlying0
  a0 := Try.isAgg0
  z0 := Try.sizeOf0
  v0 := Try.zeroValue0
  t3 := Try.underlying3
  a3 := Try.isAgg3
  z3 := Try.sizeOf3
  v3 := Try.zeroValue3
  t4 := Try.underlying4
  a4 := Try.isAgg4
  z4 := Try.sizeOf4
  v4 := Try.zeroValue4
  t9 := Try.underlying9
  a9 := Try.isAgg9
  z9 := Try.sizeOf9
  v9 := Try.zeroValue9
  t37 := Try.underlying90
  a37 := Try.isAgg90
  z37 := Try.sizeOf90
  v37 := Try.zeroValue90
  t127 := Try.underlying91
  a127 := Try.isAgg91
  z127 := Try.sizeOf91
  v127 := Try.zeroValue91
  t5 := Try.underlying5
  a5 := Try.isAgg5
  z5 := Try.sizeOf5
  v5 := Try.zeroValue5
  i0 := by kernel_rfl
  i3 := by kernel_rfl
  i4 := by kernel_rfl
  i5 := by kernel_rfl
  i9 := by kernel_rfl
  i37 := by kernel_rfl
  i127 := by kernel_rfl }
open Go.RowKit in
theorem Try.stringslite_Clone (s : ByteArray) (w : World) (hlim : s.size ≤ 281474976710656) :
    Calls Try.prog 27 #[.string s] w fun e w' => e = .returned (.string s) ∧ Below w.heap.size w w' := Any.stringslite_Clone Try.laysM316 s w hlim
def Try.lays145_ren : Go.Shelf.Ren := ⟨fun | 145 => 78 | 220 => 83 | 219 => 85 | 217 => 86 | 225 => 87 | 224 => 88 | 267 => 89 | 266 => 90 | 314 => 91 | n => n, fun | 9 => 9 | 4 => 4 | 59 => 123 | 3 => 3 | 5 => 5 | 46 => 132 | 146 => 134 | 51 => 133 | n => n, fun | 1 => 0 | n => n⟩
theorem Try.lays145 : Go.Proofs.Lays.n145 Try.prog Try.lays145_ren := {
  mixed := by kernel_rfl
  f145 := Try.func78.trans (congrArg some (by kernel_rfl))
  f217 := Try.func86.trans (congrArg some (by kernel_rfl))
  f219 := Try.func85.trans (congrArg some (by kernel_rfl))
  f220 := Try.func83.trans (congrArg some (by kernel_rfl))
  f224 := Try.func88.trans (congrArg some (by kernel_rfl))
  f225 := Try.func87.trans (congrArg some (by kernel_rfl))
  f266 := Try.func90.trans (congrArg some (by kernel_rfl))
  f267 := Try.func89.trans (congrArg some (by kernel_rfl))
  f314 := Try.func91.trans (congrArg some (by kernel_rfl))
  t3 := Try.underlying3
  a3 := Try.isAgg3
  z3 := Try.sizeOf3
  v3 := Try.zeroValue3
  t4 := Try.underlying4
  a4 := Try.isAgg4
  z4 := Try.sizeOf4
  v4 := Try.zeroValue4
  t5 := Try.underlying5
  a5 := Try.isAgg5
  z5 := Try.sizeOf5
  v5 := Try.zeroValue5
  t9 := Try.underlying9
  a9 := Try.isAgg9
  z9 := Try.sizeOf9
  v9 := Try.zeroValue9
  t46 := Try.underlying132
  a46 := Try.isAgg132
  z46 := Try.sizeOf132
  v46 := Try.zeroValue132
  t51 := Try.underlying133
  a51 := Try.isAgg133
  z51 := Try.sizeOf133
  v51 := Try.zeroValue133
  t59 := Try.underlying123
  a59 := Try.isAgg123
  z59 := Try.sizeOf123
  v59 := Try.zeroValue123
  t146 := Try.underlying134
  a146 := Try.isAgg134
  z146 := Try.sizeOf134
  v146 := Try.zeroValue134
  g1 := by kernel_rfl }
open Go.RowKit Go.Lib in
theorem Try.strings_Cut (s sep : ByteArray) (m : Int) (w : World) (hs : s.size < 4294967281) (hm : w.cell? ⟨0, 0, none⟩ = some (.int .i64 m)) :
    Calls Try.prog 78 #[.string s, .string sep] w fun e w' => e = .returned (.tuple #[.string ⟨(Lib.cut s.data.toList sep.data.toList).1.toArray⟩, .string ⟨(Lib.cut s.data.toList sep.data.toList).2.1.toArray⟩, .bool (Lib.cut s.data.toList sep.data.toList).2.2]) ∧ ∃ n, w' = w.drewN n := Any.strings_Cut Try.lays145 s sep m w hs hm
def Try.laysM145_ren : Go.Shelf.Ren := ⟨fun | 145 => 78 | 220 => 83 | 219 => 85 | 217 => 86 | 225 => 87 | 224 => 88 | 267 => 89 | 266 => 90 | 314 => 91 | n => n, fun | 9 => 9 | 4 => 4 | 59 => 123 | 3 => 3 | 5 => 5 | 46 => 132 | 146 => 134 | 51 => 133 | n => n, fun | 1 => 0 | n => n⟩
theorem Try.laysM145 : Go.Proofs.LaysM.n145 Try.prog Try.laysM145_ren := {
  mixed := by kernel_rfl
  f145 := Try.func78.trans (congrArg some (by kernel_rfl))
  f217 := Try.func86.trans (congrArg some (by kernel_rfl))
  f219 := Try.func85.trans (congrArg some (by kernel_rfl))
  f220 := Try.func83.trans (congrArg some (by kernel_rfl))
  f224 := Try.func88.trans (congrArg some (by kernel_rfl))
  f225 := Try.func87.trans (congrArg some (by kernel_rfl))
  f266 := Try.func90.trans (congrArg some (by kernel_rfl))
  f267 := Try.func89.trans (congrArg some (by kernel_rfl))
  f314 := Try.func91.trans (congrArg some (by kernel_rfl))
  t3 := Try.underlying3
  a3 := Try.isAgg3
  z3 := Try.sizeOf3
  v3 := Try.zeroValue3
  t4 := Try.underlying4
  a4 := Try.isAgg4
  z4 := Try.sizeOf4
  v4 := Try.zeroValue4
  t5 := Try.underlying5
  a5 := Try.isAgg5
  z5 := Try.sizeOf5
  v5 := Try.zeroValue5
  t9 := Try.underlying9
  a9 := Try.isAgg9
  z9 := Try.sizeOf9
  v9 := Try.zeroValue9
  t46 := Try.underlying132
  a46 := Try.isAgg132
  z46 := Try.sizeOf132
  v46 := Try.zeroValue132
  t51 := Try.underlying133
  a51 := Try.isAgg133
  z51 := Try.sizeOf133
  v51 := Try.zeroValue133
  t59 := Try.underlying123
  a59 := Try.isAgg123
  z59 := Try.sizeOf123
  v59 := Try.zeroValue123
  t146 := Try.underlying134
  a146 := Try.isAgg134
  z146 := Try.sizeOf134
  v146 := Try.zeroValue134
  g1 := by kernel_rfl
  i3 := by kernel_rfl
  i4 := by kernel_rfl
  i5 := by kernel_rfl
  i9 := by kernel_rfl
  i46 := by kernel_rfl
  i51 := by kernel_rfl
  i59 := by kernel_rfl
  i146 := by kernel_rfl
  m1 := by kernel_rfl
  s1_3 := fun w h => Go.Proofs.cell_of_shapedOpen_int (zero := #[.int .i64 0]) (t := 3) h (of_decide_eq_true (by kernel_rfl)) (by kernel_rfl) rfl (by kernel_rfl) (by kernel_rfl) Try.underlying3 }
open Go.RowKit Go.Lib in
theorem Try.strings_Cut_shaped (s sep : ByteArray) (w : World) (h : w.ShapedOpen Try.prog) (hs : s.size < 4294967281) :
    Calls Try.prog 78 #[.string s, .string sep] w fun e w' => e = .returned (.tuple #[.string ⟨(Lib.cut s.data.toList sep.data.toList).1.toArray⟩, .string ⟨(Lib.cut s.data.toList sep.data.toList).2.1.toArray⟩, .bool (Lib.cut s.data.toList sep.data.toList).2.2]) ∧ ∃ n, w' = w.drewN n := Any.strings_Cut_shaped Try.laysM145 s sep w h hs
end Go.Proofs.Ytjenmmkamhplkaa
