/-
  The texts Val, Cnt, joined.
-/
import Derived.Test.YtjenmmkamhplkaaVl2
import Derived.Test.YtjenmmkamhplkaaVl3
namespace Go.Proofs.Ytjenmmkamhplkaa
open Go.RowKit

set_option maxHeartbeats 8000000 in
theorem mayVal_no {K : Ctx} {w : World} {x : Va} {pa pb pp pn pv : Option Addr} {na nb np ca cb cp cn cv : Nat} (_h4 : Strs K w (.slice pn x.names.length cn) x.names) (k0 : ¬ (x.kind = 1 ∨ x.kind = 2 ∨ x.kind = 3 ∨ x.kind = 4 ∨ x.kind = 5 ∨ x.kind = 6 ∨ x.kind = 7)) (B : Bool) (hB : B = true ↔ MayVa x) :
    Calls Try.prog 67 #[.agg #[.int .i64 x.kind, .int .i64 x.a.kind, .int .i64 x.a.n, .string (str x.a.place.name), .slice pa na ca, .int .i64 x.b.kind, .int .i64 x.b.n, .string (str x.b.place.name), .slice pb nb cb, .int .i64 x.op, .string (str x.place.name), .slice pp np cp, .string (str x.name), .slice pn x.names.length cn, .slice pv x.args.length cv]] w fun ev w' => ev = .returned (.bool B) ∧ Below w.heap.size w w' := by
  obtain rfl := bool_false hB (va_none k0)
  have HA : Hid (Below w.heap.size w (w.alloc (.cells #[.int .i64 x.kind, .int .i64 x.a.kind, .int .i64 x.a.n, .string (str x.a.place.name), .slice pa na ca, .int .i64 x.b.kind, .int .i64 x.b.n, .string (str x.b.place.name), .slice pb nb cb, .int .i64 x.op, .string (str x.place.name), .slice pp np cp, .string (str x.name), .slice pn x.names.length cn, .slice pv x.args.length cv] 48))) := alloc_one w _
  have b5 : (x.kind == 5) = false := by simp; omega
  have b1 : (x.kind == 1) = false := by simp; omega
  have b4 : (x.kind == 4) = false := by simp; omega
  have b2 : (x.kind == 2) = false := by simp; omega
  have b3 : (x.kind == 3) = false := by simp; omega
  have b7 : (x.kind == 7) = false := by simp; omega
  have b6 : (x.kind == 6) = false := by simp; omega
  clear hB k0 _h4
  generalize x.kind = kd at *
  generalize x.op = oo at *
  generalize x.a.kind = ak at *
  generalize x.a.n = an at *
  generalize str x.a.place.name = as1 at *
  generalize x.b.kind = bk at *
  generalize x.b.n = bn at *
  generalize str x.b.place.name = bs1 at *
  generalize str x.place.name = ps1 at *
  generalize str x.name = ns1 at *
  generalize x.names.length = l1 at *
  generalize x.args.length = l2 at *
  go_enter Try.func67, Try.ntmps67
  go_wp2_with fail
  go_ret
  exact ⟨rfl, HA.out⟩
theorem VaAt.open {K : Ctx} {w : World} {cs : List Value} {x : Va} (h : VaAt K w cs x) : ∃ (pa pb pp pn pv : Option Addr) (na nb np ca cb cp cn cv : Nat),
    cs = [.int .i64 x.kind, .int .i64 x.a.kind, .int .i64 x.a.n, .string (str x.a.place.name), .slice pa na ca, .int .i64 x.b.kind, .int .i64 x.b.n, .string (str x.b.place.name), .slice pb nb cb, .int .i64 x.op, .string (str x.place.name), .slice pp np cp, .string (str x.name), .slice pn x.names.length cn, .slice pv x.args.length cv] ∧ OprAt K w [.int .i64 x.a.kind, .int .i64 x.a.n, .string (str x.a.place.name), .slice pa na ca] x.a ∧ OprAt K w [.int .i64 x.b.kind, .int .i64 x.b.n, .string (str x.b.place.name), .slice pb nb cb] x.b ∧ PlAt K w [.string (str x.place.name), .slice pp np cp] x.place ∧ x.name.length ≤ K.B ∧ Strs K w (.slice pn x.names.length cn) x.names ∧ Ar 4 56 (OprAt K w) K w (.slice pv x.args.length cv) x.args := by
  obtain ⟨xa, xb, ps, vn, va, rfl, h1, h2, h3, hl, h4, h5⟩ := h
  obtain ⟨pa, na, ca, rfl⟩ := h1.open
  obtain ⟨pb, nb, cb, rfl⟩ := h2.open
  obtain ⟨pp, np, cp, rfl⟩ := h3.open
  obtain ⟨pn, cn, rfl⟩ := h4.form
  obtain ⟨pv, cv, rfl⟩ := h5.form
  exact ⟨pa, pb, pp, pn, pv, na, nb, np, ca, cb, cp, cn, cv, rfl, h1, h2, h3, hl, h4, h5⟩
theorem mayValue_any {K : Ctx} {w : World} (he : Env K w) {x : Va} {cs : List Value} (hx : VaAt K w cs x) (B : Bool) (hB : B = true ↔ MayVa x) :
    Calls Try.prog 67 #[.agg cs.toArray] w fun ev w' => ev = .returned (.bool B) ∧ Below w.heap.size w w' := by
  obtain ⟨pa, pb, pp, pn, pv, na, nb, np, ca, cb, cp, cn, cv, rfl, h1, h2, h3, hl, h4, h5⟩ := hx.open
  by_cases k1 : x.kind = 1
  · exact mayVal_1 he h1 h2 h3 hl h4 h5 k1 B hB
  by_cases k2 : x.kind = 2
  · exact mayVal_2 he h1 h2 h3 hl h4 h5 k2 B hB
  by_cases k3 : x.kind = 3
  · exact mayVal_3 he h1 h2 h3 hl h4 h5 k3 B hB
  by_cases k4 : x.kind = 4
  · exact mayVal_4 he h1 h2 h3 hl h4 h5 k4 B hB
  by_cases k5 : x.kind = 5
  · exact mayVal_5 he h1 h2 h3 hl h4 h5 k5 B hB
  by_cases k6 : x.kind = 6
  · exact mayVal_6 he h1 h2 h3 hl h4 h5 k6 B hB
  by_cases k7 : x.kind = 7
  · exact mayVal_7 he h1 h2 h3 hl h4 h5 k7 B hB
  exact mayVal_no h4 (by omega) B hB
end Go.Proofs.Ytjenmmkamhplkaa

namespace Go.Proofs.Ytjenmmkamhplkaa
open Go.RowKit

/-- How many statements there are within one. -/
def inner : Nat → St → Nat
  | 0, _ => 0
  | n + 1, s => (s.thn.map fun t => 1 + inner n t).sum + (s.els.map fun t => 1 + inner n t).sum
def cnt (n : Nat) (l : List St) : Nat := (l.map fun t => 1 + inner n t).sum
theorem inner_succ (n : Nat) (s : St) : inner (n + 1) s = cnt n s.thn + cnt n s.els := rfl
theorem cnt_nil (n : Nat) : cnt n [] = 0 := rfl
theorem cnt_cons (n : Nat) (s : St) (l : List St) : cnt n (s :: l) = 1 + inner n s + cnt n l := rfl
def MayCal (v : Va) : Prop := v.kind = 6 ∧ MayVa v
/-- May a statement be, if sub says which blocks may be within it? -/
def StOk (sub : List St → Prop) (s : St) : Prop :=
  (s.kind = 1 ∧ nameB s.name = true ∧ MayTy 64 s.ty ∧ (s.has = true → MayVa s.val) ∧ { s with name := [], ty := Ty.zero, has := false, val := (if s.has then Va.zero else s.val), mu := false } = St.bare s.kind s.pos) ∨
  (s.kind = 2 ∧ MayPl s.place ∧ MayVa s.val ∧ { s with place := Pl.zero, val := Va.zero } = St.bare s.kind s.pos) ∨
  (s.kind = 3 ∧ MayCal s.val ∧ { s with val := Va.zero } = St.bare s.kind s.pos) ∨
  (s.kind = 4 ∧ (s.has = true → sub s.els) ∧ MayOpr s.cond ∧ sub s.thn ∧ { s with has := false, els := (if s.has then [] else s.els), cond := Opr.zero, thn := [] } = St.bare s.kind s.pos) ∨
  (s.kind = 5 ∧ MayOpr s.cond ∧ sub s.thn ∧ { s with cond := Opr.zero, thn := [] } = St.bare s.kind s.pos) ∨
  ((s.kind = 6 ∨ s.kind = 7) ∧ sub s.thn ∧ { s with thn := [] } = St.bare s.kind s.pos) ∨
  ((s.kind = 8 ∨ s.kind = 9) ∧ s = St.bare s.kind s.pos) ∨
  (s.kind = 10 ∧ (s.has = true → MayVa s.val) ∧ { s with has := false, val := (if s.has then Va.zero else s.val) } = St.bare s.kind s.pos) ∨
  (s.kind = 11 ∧ MayPl s.place ∧ { s with place := Pl.zero } = St.bare s.kind s.pos)
/-- May these statements be, if so many blocks may stand within one another? -/
def MayBlk : Nat → List St → Prop
  | 0, _ => False
  | m + 1, l => ∀ s ∈ l, StOk (MayBlk m) s
theorem ok_let {sub : List St → Prop} {s : St} (h : s.kind = 1) : StOk sub s ↔ nameB s.name = true ∧ MayTy 64 s.ty ∧ (s.has = true → MayVa s.val) ∧ { s with name := [], ty := Ty.zero, has := false, val := (if s.has then Va.zero else s.val), mu := false } = St.bare s.kind s.pos := by
  constructor
  · rintro (⟨_, h'⟩ | ⟨h', _⟩ | ⟨h', _⟩ | ⟨h', _⟩ | ⟨h', _⟩ | ⟨h', _⟩ | ⟨h', _⟩ | ⟨h', _⟩ | ⟨h', _⟩) <;> first | exact h' | omega
  · exact fun h' => .inl ⟨h, h'⟩
theorem ok_set {sub : List St → Prop} {s : St} (h : s.kind = 2) : StOk sub s ↔ MayPl s.place ∧ MayVa s.val ∧ { s with place := Pl.zero, val := Va.zero } = St.bare s.kind s.pos := by
  constructor
  · rintro (⟨h', _⟩ | ⟨_, h'⟩ | ⟨h', _⟩ | ⟨h', _⟩ | ⟨h', _⟩ | ⟨h', _⟩ | ⟨h', _⟩ | ⟨h', _⟩ | ⟨h', _⟩) <;> first | exact h' | omega
  · exact fun h' => .inr (.inl ⟨h, h'⟩)
theorem ok_call {sub : List St → Prop} {s : St} (h : s.kind = 3) : StOk sub s ↔ MayCal s.val ∧ { s with val := Va.zero } = St.bare s.kind s.pos := by
  constructor
  · rintro (⟨h', _⟩ | ⟨h', _⟩ | ⟨_, h'⟩ | ⟨h', _⟩ | ⟨h', _⟩ | ⟨h', _⟩ | ⟨h', _⟩ | ⟨h', _⟩ | ⟨h', _⟩) <;> first | exact h' | omega
  · exact fun h' => .inr (.inr (.inl ⟨h, h'⟩))
theorem ok_iff {sub : List St → Prop} {s : St} (h : s.kind = 4) : StOk sub s ↔ (s.has = true → sub s.els) ∧ MayOpr s.cond ∧ sub s.thn ∧ { s with has := false, els := (if s.has then [] else s.els), cond := Opr.zero, thn := [] } = St.bare s.kind s.pos := by
  constructor
  · rintro (⟨h', _⟩ | ⟨h', _⟩ | ⟨h', _⟩ | ⟨_, h'⟩ | ⟨h', _⟩ | ⟨h', _⟩ | ⟨h', _⟩ | ⟨h', _⟩ | ⟨h', _⟩) <;> first | exact h' | omega
  · exact fun h' => .inr (.inr (.inr (.inl ⟨h, h'⟩)))
theorem ok_whl {sub : List St → Prop} {s : St} (h : s.kind = 5) : StOk sub s ↔ MayOpr s.cond ∧ sub s.thn ∧ { s with cond := Opr.zero, thn := [] } = St.bare s.kind s.pos := by
  constructor
  · rintro (⟨h', _⟩ | ⟨h', _⟩ | ⟨h', _⟩ | ⟨h', _⟩ | ⟨_, h'⟩ | ⟨h', _⟩ | ⟨h', _⟩ | ⟨h', _⟩ | ⟨h', _⟩) <;> first | exact h' | omega
  · exact fun h' => .inr (.inr (.inr (.inr (.inl ⟨h, h'⟩))))
theorem ok_loop {sub : List St → Prop} {s : St} (h : s.kind = 6 ∨ s.kind = 7) : StOk sub s ↔ sub s.thn ∧ { s with thn := [] } = St.bare s.kind s.pos := by
  constructor
  · rintro (⟨h', _⟩ | ⟨h', _⟩ | ⟨h', _⟩ | ⟨h', _⟩ | ⟨h', _⟩ | ⟨_, h'⟩ | ⟨h', _⟩ | ⟨h', _⟩ | ⟨h', _⟩) <;> first | exact h' | omega
  · exact fun h' => .inr (.inr (.inr (.inr (.inr (.inl ⟨h, h'⟩)))))
theorem ok_brk {sub : List St → Prop} {s : St} (h : s.kind = 8 ∨ s.kind = 9) : StOk sub s ↔ s = St.bare s.kind s.pos := by
  constructor
  · rintro (⟨h', _⟩ | ⟨h', _⟩ | ⟨h', _⟩ | ⟨h', _⟩ | ⟨h', _⟩ | ⟨h', _⟩ | ⟨_, h'⟩ | ⟨h', _⟩ | ⟨h', _⟩) <;> first | exact h' | omega
  · exact fun h' => .inr (.inr (.inr (.inr (.inr (.inr (.inl ⟨h, h'⟩))))))
theorem ok_ret {sub : List St → Prop} {s : St} (h : s.kind = 10) : StOk sub s ↔ (s.has = true → MayVa s.val) ∧ { s with has := false, val := (if s.has then Va.zero else s.val) } = St.bare s.kind s.pos := by
  constructor
  · rintro (⟨h', _⟩ | ⟨h', _⟩ | ⟨h', _⟩ | ⟨h', _⟩ | ⟨h', _⟩ | ⟨h', _⟩ | ⟨h', _⟩ | ⟨_, h'⟩ | ⟨h', _⟩) <;> first | exact h' | omega
  · exact fun h' => .inr (.inr (.inr (.inr (.inr (.inr (.inr (.inl ⟨h, h'⟩)))))))
theorem ok_drop {sub : List St → Prop} {s : St} (h : s.kind = 11) : StOk sub s ↔ MayPl s.place ∧ { s with place := Pl.zero } = St.bare s.kind s.pos := by
  constructor
  · rintro (⟨h', _⟩ | ⟨h', _⟩ | ⟨h', _⟩ | ⟨h', _⟩ | ⟨h', _⟩ | ⟨h', _⟩ | ⟨h', _⟩ | ⟨h', _⟩ | ⟨_, h'⟩) <;> first | exact h' | omega
  · exact fun h' => .inr (.inr (.inr (.inr (.inr (.inr (.inr (.inr (⟨h, h'⟩))))))))
theorem ok_none {sub : List St → Prop} {s : St} (h : ¬ (1 ≤ s.kind ∧ s.kind ≤ 11)) : ¬ StOk sub s := by
  rintro (⟨h', _⟩ | ⟨h', _⟩ | ⟨h', _⟩ | ⟨h', _⟩ | ⟨h', _⟩ | ⟨h', _⟩ | ⟨h', _⟩ | ⟨h', _⟩ | ⟨h', _⟩) <;> omega
end Go.Proofs.Ytjenmmkamhplkaa
