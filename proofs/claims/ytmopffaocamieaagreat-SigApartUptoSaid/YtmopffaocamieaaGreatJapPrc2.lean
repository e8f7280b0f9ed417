/-
  The texts Prc, Cn2, joined.
-/
import Derived.Test.YtmopffaocamieaaGreatQapPll
import Derived.Test.YtmopffaocamieaaGreatQapMfd
namespace Go.Proofs.YtmopffaocamieaaGreat
open Go.RowKit

/-- Types that may be: their bytes hang on the type alone. -/
theorem tyB_may {K : Ctx} {w : World} : ∀ (m n : Nat) (cs : List Value) (t : Ty), TyAt n K w cs t → MayTy m t → Kd n t ∧ tyB n t = tyB m t
  | 0, _, _, _, _, h => h.elim
  | m + 1, 0, _, _, h, _ => h.elim
  | m + 1, n + 1, cs, t, h, hm => by
    obtain ⟨v2, v3, rfl, _, _, h3⟩ := h
    rcases hm with ⟨hk, _, _, he⟩ | ⟨hk, _, _, _, he⟩ | ⟨hk, _, _, _, e, he, hm⟩
    · refine ⟨⟨by omega, by omega, fun x hx => by rw [he] at hx; cases hx⟩, ?_⟩
      simp only [tyB, he, List.map_nil]
    · refine ⟨⟨by omega, by omega, fun x hx => by rw [he] at hx; cases hx⟩, ?_⟩
      simp only [tyB, he, List.map_nil]
    · obtain ⟨_, _, _, _, _, hA⟩ := h3.shape
      obtain ⟨b, o, _, _, cs', _, _, hq⟩ := hA 0 (by rw [he]; exact Nat.zero_lt_one)
      have e0 : t.elem[0]'(by rw [he]; exact Nat.zero_lt_one) = e := by simp only [he, List.getElem_cons_zero]
      rw [e0] at hq
      obtain ⟨k1, k2⟩ := tyB_may m n cs' e hq hm
      refine ⟨⟨by omega, by omega, fun x hx => by rw [he] at hx; rw [List.mem_singleton.1 hx]; exact k1⟩, ?_⟩
      simp only [tyB, he, List.map_cons, List.map_nil, k2]
theorem tyW_may {K : Ctx} {w : World} {cs : List Value} {t : Ty} (h : IsTy K w cs t) (hm : MayTy 64 t) : TyW K w cs t (tyB 64 t) := by
  obtain ⟨n, h⟩ := h
  obtain ⟨k1, k2⟩ := tyB_may 64 n cs t h hm
  exact ⟨n, h, k1, k2⟩
theorem tyW_res {K : Ctx} {w : World} {cs : List Value} {t : Ty} (h : IsTy K w cs t) (hm : MayRes t) : TyW K w cs t (tyB 64 t) := by
  rcases hm with rfl | hm
  · obtain ⟨n, h⟩ := h
    cases n with
    | zero => exact h.elim
    | succ n => exact ⟨n + 1, h, ⟨by decide, by decide, fun x hx => by cases hx⟩, rfl⟩
  · exact tyW_may h hm
def fldB (f : Fld) : Bs := txB f.name ++ tyB 64 f.ty
def muB (b : Bool) : Bs := [if b then 1 else 0]
def parB (f : Fld) : Bs := muB f.mu ++ fldB f
def lfeB (x : Lfe) : Bs := txB x.name ++ lsB txB x.over
theorem fldW_may {K : Ctx} {w : World} {cs : List Value} {x : Fld} (h : FldAt K w cs x) (hm : MayPar x) : FldW K w cs x (tyB 64 x.ty) := by
  obtain ⟨ts, e, _, ht⟩ := h
  exact ⟨ts, e, tyW_may ht hm.2⟩

set_option maxHeartbeats 4000000 in
theorem putParam_any {K : Ctx} {B wb : Nat} (hKB : K.C ≤ B) {w : World} {cs : List Value} {x : Fld} {bs : Bs} (hx : FldW K w cs x bs) : Wc B wb 120 cs w (muB x.mu ++ (txB x.name ++ bs)) := by
  intro v a hW hlen
  obtain ⟨ts, rfl, ht⟩ := hx.shape
  have HX := hidS hx
  obtain ⟨t2, m2, d2, t3, m3, d3, rfl⟩ := (show IsTy K w ts x.ty from (by obtain ⟨n, h1, _⟩ := ht.shape; exact ⟨n, h1⟩)).open
  clear ht
  have hc0 := hidS hW.cell
  have P0 := Ps.first hW [.bool x.mu, .string (str x.name), .int .i64 x.ty.kind, .string (str x.ty.name), .slice t2 m2 d2, .slice t3 m3 d3] 82
  simp only [List.length_append] at hlen
  have C0 : Hid (∀ w1 v1, Ps B w w1 wb v1 (a) w.heap.size (w.heap.size + 1) [.bool x.mu, .string (str x.name), .int .i64 x.ty.kind, .string (str x.ty.name), .slice t2 m2 d2, .slice t3 m3 d3] 82 → Calls Tryz.prog 162 #[.pointer (some ⟨wb, 0, none⟩), .bool x.mu] w1 fun ev w' => ev = .returned (.tuple #[]) ∧ ∃ v', Ps B w w' wb v' (a ++ (muB x.mu)) w.heap.size (w.heap.size + 1) [.bool x.mu, .string (str x.name), .int .i64 x.ty.kind, .string (str x.ty.name), .slice t2 m2 d2, .slice t3 m3 d3] 82) := by
    intro w1 v1 P1
    have hk := below_le P1.bel hKB
    refine (wBool_any B wb x.mu v1 _ _ P1.wr (by omega)).mono ?_
    rintro _ w2 ⟨rfl, v', h1, h2⟩
    exact ⟨rfl, v', P1.mv h1 h2⟩
  have C1 : Hid (∀ w1 v1, Ps B w w1 wb v1 (a ++ (muB x.mu)) w.heap.size (w.heap.size + 1) [.bool x.mu, .string (str x.name), .int .i64 x.ty.kind, .string (str x.ty.name), .slice t2 m2 d2, .slice t3 m3 d3] 82 → Calls Tryz.prog 117 #[.agg #[.pointer (some ⟨wb, 0, none⟩)], .agg #[.bool x.mu, .string (str x.name), .int .i64 x.ty.kind, .string (str x.ty.name), .slice t2 m2 d2, .slice t3 m3 d3]] w1 fun ev w' => ev = .returned (.tuple #[]) ∧ ∃ v', Ps B w w' wb v' (a ++ (muB x.mu) ++ (txB x.name ++ bs)) w.heap.size (w.heap.size + 1) [.bool x.mu, .string (str x.name), .int .i64 x.ty.kind, .string (str x.ty.name), .slice t2 m2 d2, .slice t3 m3 d3] 82) := by
    intro w1 v1 P1
    have hk := below_le P1.bel hKB
    refine (putField_any hKB (HX.out.below hk) v1 _ P1.wr (by simp only [List.length_append]; omega)).mono ?_
    rintro _ w2 ⟨rfl, v', h1, h2⟩
    exact ⟨rfl, v', P1.mv h1 h2⟩
  have HM : Hid (∀ w' v', Ps B w w' wb v' (a ++ (muB x.mu) ++ (txB x.name ++ bs)) w.heap.size (w.heap.size + 1) [.bool x.mu, .string (str x.name), .int .i64 x.ty.kind, .string (str x.ty.name), .slice t2 m2 d2, .slice t3 m3 d3] 82 → ∃ v', Wr B w' wb v' (a ++ (muB x.mu ++ (txB x.name ++ bs))) ∧ Mv w w' wb v v') := by
    intro w' v' P
    obtain ⟨v0, e0, q⟩ := P.all
    rw [hc0.out] at e0
    cases e0
    refine ⟨v', ?_, q⟩
    have := P.wr
    simp only [List.append_assoc] at this ⊢
    exact this
  have D0 := hidS (C0.out _ _ P0)
  clear P0 hW hc0 C0 hx HX
  generalize str x.name = NM at *
  generalize str x.ty.name = TN at *
  generalize x.ty.kind = TK at *
  generalize x.mu = MU at *
  go_enter Tryz.func120, Tryz.ntmps120
  go_wp2_with fail
  refine D0.out.mono ?_
  rintro _ w1 ⟨rfl, v1, P1⟩
  have D1 := hidS (C1.out _ _ P1)
  have a75 : _ = some (Value.pointer (some ⟨wb, 0, none⟩)) := P1.r1.cell 0
  have b0 : _ = some (Value.bool MU) := P1.r2.cell 0
  have b1 : _ = some (Value.string (NM)) := P1.r2.cell 1
  have b2 : _ = some (Value.int .i64 TK) := P1.r2.cell 2
  have b3 : _ = some (Value.string (TN)) := P1.r2.cell 3
  have b4 : _ = some (Value.slice t2 m2 d2) := P1.r2.cell 4
  have b5 : _ = some (Value.slice t3 m3 d3) := P1.r2.cell 5
  clear D0 C1 P1
  go_wp2_with fail
  refine D1.out.mono ?_
  rintro _ w2 ⟨rfl, v2, P2⟩
  have HF := hidS (HM.out _ _ P2)
  clear HM P2 D1
  go_wp2_with fail
  go_end0
  exact ⟨rfl, HF.out⟩

set_option maxHeartbeats 4000000 in
theorem putLife_any {K : Ctx} {B wb : Nat} (hKB : K.C ≤ B) {w : World} {cs : List Value} {x : Lfe} (hx : LfeAt K w cs x) : Wc B wb 119 cs w (txB x.name ++ lsB txB x.over) := by
  intro v a hW hlen
  have HX := hidS hx
  obtain ⟨v1', rfl, hnm, ho⟩ := hx
  obtain ⟨a1, c1, e1⟩ := Ar.form ho
  obtain ⟨n1, hn1⟩ : ∃ n1, n1 = x.over.length := ⟨_, rfl⟩
  rw [← hn1] at e1
  subst e1
  clear hn1
  have hc0 := hidS hW.cell
  have P0 := Ps.first hW [.string (str x.name), .slice a1 n1 c1] 85
  simp only [List.length_append] at hlen
  have C0 : Hid (∀ w1 v1, Ps B w w1 wb v1 (a) w.heap.size (w.heap.size + 1) [.string (str x.name), .slice a1 n1 c1] 85 → Calls Tryz.prog 66 #[.pointer (some ⟨wb, 0, none⟩), .string (str x.name)] w1 fun ev w' => ev = .returned (.tuple #[]) ∧ ∃ v', Ps B w w' wb v' (a ++ (txB x.name)) w.heap.size (w.heap.size + 1) [.string (str x.name), .slice a1 n1 c1] 85) := by
    intro w1 v1 P1
    have hk := below_le P1.bel hKB
    refine (wTx_any B wb x.name v1 _ _ P1.wr (by omega)).mono ?_
    rintro _ w2 ⟨rfl, v', h1, h2⟩
    exact ⟨rfl, v', P1.mv h1 h2⟩
  have C1 : Hid (∀ w1 v1, Ps B w w1 wb v1 (a ++ (txB x.name)) w.heap.size (w.heap.size + 1) [.string (str x.name), .slice a1 n1 c1] 85 → Calls Tryz.prog 115 #[.agg #[.pointer (some ⟨wb, 0, none⟩)], .slice a1 n1 c1, .func (.func 66) #[.pointer (some ⟨wb, 0, none⟩)] #[]] w1 fun ev w' => ev = .returned (.tuple #[]) ∧ ∃ v', Ps B w w' wb v' (a ++ (txB x.name) ++ (lsB txB x.over)) w.heap.size (w.heap.size + 1) [.string (str x.name), .slice a1 n1 c1] 85) := by
    intro w1 v1 P1
    have hk := below_le P1.bel hKB
    refine (putStrs_any B wb hKB (Strs.below ho hk) v1 _ P1.wr (by simp only [List.length_append]; omega)).mono ?_
    rintro _ w2 ⟨rfl, v', h1, h2⟩
    exact ⟨rfl, v', P1.mv h1 h2⟩
  have HM : Hid (∀ w' v', Ps B w w' wb v' (a ++ (txB x.name) ++ (lsB txB x.over)) w.heap.size (w.heap.size + 1) [.string (str x.name), .slice a1 n1 c1] 85 → ∃ v', Wr B w' wb v' (a ++ (txB x.name ++ lsB txB x.over)) ∧ Mv w w' wb v v') := by
    intro w' v' P
    obtain ⟨v0, e0, q⟩ := P.all
    rw [hc0.out] at e0
    cases e0
    refine ⟨v', ?_, q⟩
    have := P.wr
    simp only [List.append_assoc] at this ⊢
    exact this
  have D0 := hidS (C0.out _ _ P0)
  clear P0 hW hc0 C0 HX ho hnm
  generalize str x.name = NM at *
  go_enter Tryz.func119, Tryz.ntmps119
  go_wp2_with fail
  refine D0.out.mono ?_
  rintro _ w1 ⟨rfl, v1, P1⟩
  have D1 := hidS (C1.out _ _ P1)
  have a75 : _ = some (Value.pointer (some ⟨wb, 0, none⟩)) := P1.r1.cell 0
  have b0 : _ = some (Value.string (NM)) := P1.r2.cell 0
  have b1 : _ = some (Value.slice a1 n1 c1) := P1.r2.cell 1
  clear D0 C1 P1
  go_wp2_with fail
  refine D1.out.mono ?_
  rintro _ w2 ⟨rfl, v2, P2⟩
  have HF := hidS (HM.out _ _ P2)
  clear HM P2 D1
  go_wp2_with fail
  go_end0
  exact ⟨rfl, HF.out⟩
end Go.Proofs.YtmopffaocamieaaGreat

namespace Go.Proofs.YtmopffaocamieaaGreat
open Go.RowKit

/-- How many statements there are within one. -/
def inner : Nat → St → Nat
  | 0, _ => 0
  | n + 1, s => (s.thn.map fun t => 1 + inner n t).sum + (s.els.map fun t => 1 + inner n t).sum
def cnt (n : Nat) (l : List St) : Nat := (l.map fun t => 1 + inner n t).sum
theorem inner_succ (n : Nat) (s : St) : inner (n + 1) s = cnt n s.thn + cnt n s.els := rfl
theorem cnt_nil (n : Nat) : cnt n [] = 0 := rfl
theorem cnt_cons (n : Nat) (s : St) (l : List St) : cnt n (s :: l) = 1 + inner n s + cnt n l := rfl
theorem wrap_small {a : Int} (h1 : -9223372036854775808 ≤ a) (h2 : a ≤ 9223372036854775807) : IntKind.i64.wrap a = a := by
  have e := IntKind.wrap_i64 a
  rw [e]
  omega
theorem want {c p q : Prop} [Decidable c] (hc : c) (h : p) : if c then p else q := by rw [if_pos hc]; exact h
theorem Tryz.info49z : (Tryz.prog.info? 114).map (fun i => (i.zero, i.size, i.bytes)) = some (some (.agg (stCells 0 0).toArray), 32, 496) := by kernel_rfl
end Go.Proofs.YtmopffaocamieaaGreat
