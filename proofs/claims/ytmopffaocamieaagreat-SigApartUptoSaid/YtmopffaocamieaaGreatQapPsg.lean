/-
  Structs, functions and whole sigs are written.
-/
import Derived.Test.YtmopffaocamieaaGreatJapPrc2
import Derived.Test.YtmopffaocamieaaGreatJapSmy3
import Derived.Test.YtmopffaocamieaaGreatJapBar2
namespace Go.Proofs.YtmopffaocamieaaGreat
open Go.RowKit

theorem ar_mem {α : Type} {z bz B wb f : Nat} {P : World → List Value → α → Prop} {K : Ctx} (hKB : K.C ≤ B) {w : World} {u : Value} {l : List α} (g : α → Bs) (ha : Ar z bz (P w) K w u l)
    (h1 : ∀ cs x, P w cs x → ∀ u ∈ cs, u.oneCell' = true) (hb : ∀ cs x y, Below K.C w y → P w cs x → P y cs x) (hw : ∀ x ∈ l, ∀ cs y, P y cs x → Wc B wb f cs y (g x)) :
    ∃ ao cap, u = .slice ao l.length cap ∧ ∀ i (h : i < l.length), ∃ b o, ao = some ⟨b, o, none⟩ ∧ ∃ cs : List Value, cs.length = z ∧ (∀ u ∈ cs, u.oneCell' = true) ∧ ∀ y, Below B w y → y.rangeAt b (o + i * z) cs ∧ Wc B wb f cs y (g l[i]) := by
  obtain ⟨ao, cap, e, _, _, hA⟩ := ha.shape
  refine ⟨ao, cap, e, fun i h => ?_⟩
  obtain ⟨b, o, e', hbC, cs, hl, hcs, hp⟩ := hA i h
  refine ⟨b, o, e', cs, hl, h1 cs _ hp, fun y hy => ⟨fun j v hj => ?_, hw _ (List.getElem_mem h) cs y (hb _ _ y (below_le hy hKB) hp)⟩⟩
  have hjz : j < z := by rw [← hl]; exact (List.getElem?_eq_some_iff.1 hj).1
  rw [hy.cell (p := ⟨b, o + i * z + j, none⟩) (Nat.lt_of_lt_of_le hbC hKB), hcs j hjz]
  exact hj
theorem field_wc {K : Ctx} {B wb : Nat} (hKB : K.C ≤ B) {w : World} {cs : List Value} {x : Fld} (h : FldAt K w cs x) (hm : MayPar x) : Wc B wb 117 cs w (fldB x) := putField_any hKB (fldW_may h hm)
theorem param_wc {K : Ctx} {B wb : Nat} (hKB : K.C ≤ B) {w : World} {cs : List Value} {x : Fld} (h : FldAt K w cs x) (hm : MayPar x) : Wc B wb 120 cs w (parB x) := putParam_any hKB (fldW_may h hm)
def sctB (x : Sct) : Bs := txB x.name ++ (lsB txB x.lives ++ lsB fldB x.fields)
def fncB (x : Fnc) : Bs := txB x.name ++ (lsB lfeB x.lives ++ (lsB parB x.params ++ tyB 64 x.result))
def sigB (s : Bs) (c : Crt) : Bs := txB [85, 83, 73, 71] ++ (txB s ++ (lsB sctB c.structs ++ lsB fncB c.funcs))

set_option maxHeartbeats 4000000 in
theorem putStruct_any {K : Ctx} {B wb : Nat} (hKB : K.C ≤ B) {w : World} {cs : List Value} {x : Sct} (hx : SctAt K w cs x) (hm : MaySct x) : Wc B wb 68 cs w (sctB x) := by
  intro v a hW hlen
  have HX := hidS hx
  obtain ⟨v2', v3', rfl, hnm, ho, hf⟩ := hx
  obtain ⟨a2, c2, e2⟩ := Ar.form ho
  obtain ⟨a3, c3, e3⟩ := Ar.form hf
  obtain ⟨n2, hn2⟩ : ∃ n2, n2 = x.lives.length := ⟨_, rfl⟩
  obtain ⟨n3, hn3⟩ : ∃ n3, n3 = x.fields.length := ⟨_, rfl⟩
  rw [← hn2] at e2
  rw [← hn3] at e3
  subst e2 e3
  clear hn2 hn3
  have hc0 := hidS hW.cell
  have P0 := Ps.first hW [.bool x.pub, .string (str x.name), .slice a2 n2 c2, .slice a3 n3 c3, .int .i64 x.pos] 58
  unfold sctB at hlen ⊢
  simp only [List.length_append] at hlen
  have C0 : Hid (∀ w1 v1, Ps B w w1 wb v1 (a) w.heap.size (w.heap.size + 1) [.bool x.pub, .string (str x.name), .slice a2 n2 c2, .slice a3 n3 c3, .int .i64 x.pos] 58 → Calls Tryz.prog 66 #[.pointer (some ⟨wb, 0, none⟩), .string (str x.name)] w1 fun ev w' => ev = .returned (.tuple #[]) ∧ ∃ v', Ps B w w' wb v' (a ++ (txB x.name)) w.heap.size (w.heap.size + 1) [.bool x.pub, .string (str x.name), .slice a2 n2 c2, .slice a3 n3 c3, .int .i64 x.pos] 58) := by
    intro w1 v1 P1
    have hk := below_le P1.bel hKB
    refine (wTx_any B wb x.name v1 _ _ P1.wr (by omega)).mono ?_
    rintro _ w2 ⟨rfl, v', h1, h2⟩
    exact ⟨rfl, v', P1.mv h1 h2⟩
  have C1 : Hid (∀ w1 v1, Ps B w w1 wb v1 (a ++ (txB x.name)) w.heap.size (w.heap.size + 1) [.bool x.pub, .string (str x.name), .slice a2 n2 c2, .slice a3 n3 c3, .int .i64 x.pos] 58 → Calls Tryz.prog 115 #[.agg #[.pointer (some ⟨wb, 0, none⟩)], .slice a2 n2 c2, .func (.func 66) #[.pointer (some ⟨wb, 0, none⟩)] #[]] w1 fun ev w' => ev = .returned (.tuple #[]) ∧ ∃ v', Ps B w w' wb v' (a ++ (txB x.name) ++ (lsB txB x.lives)) w.heap.size (w.heap.size + 1) [.bool x.pub, .string (str x.name), .slice a2 n2 c2, .slice a3 n3 c3, .int .i64 x.pos] 58) := by
    intro w1 v1 P1
    have hk := below_le P1.bel hKB
    refine (putStrs_any B wb hKB (Strs.below ho hk) v1 _ P1.wr (by simp only [List.length_append]; omega)).mono ?_
    rintro _ w2 ⟨rfl, v', h1, h2⟩
    exact ⟨rfl, v', P1.mv h1 h2⟩
  have C2 : Hid (∀ w1 v1, Ps B w w1 wb v1 (a ++ (txB x.name) ++ (lsB txB x.lives)) w.heap.size (w.heap.size + 1) [.bool x.pub, .string (str x.name), .slice a2 n2 c2, .slice a3 n3 c3, .int .i64 x.pos] 58 → Calls Tryz.prog 116 #[.agg #[.pointer (some ⟨wb, 0, none⟩)], .slice a3 n3 c3, .func (.func 117) #[.agg #[.pointer (some ⟨wb, 0, none⟩)]] #[]] w1 fun ev w' => ev = .returned (.tuple #[]) ∧ ∃ v', Ps B w w' wb v' (a ++ (txB x.name) ++ (lsB txB x.lives) ++ (lsB fldB x.fields)) w.heap.size (w.heap.size + 1) [.bool x.pub, .string (str x.name), .slice a2 n2 c2, .slice a3 n3 c3, .int .i64 x.pos] 58) := by
    intro w1 v1 P1
    have hk := below_le P1.bel hKB
    refine (putL116_117 fldB B wb (by have := hm.2.2.1; omega) (ar_mem (P := fun w => FldAt K w) hKB fldB (hf.mono hk fun _ _ _ q => q.below hk) (fun _ _ q => q.one) (fun _ _ _ hb q => q.below hb) (fun f hf cs y q => field_wc hKB q (hm.2.2.2 f hf).2)) v1 _ P1.wr (by simp only [List.length_append]; omega)).mono ?_
    rintro _ w2 ⟨rfl, v', h1, h2⟩
    exact ⟨rfl, v', P1.mv h1 h2⟩
  have HM : Hid (∀ w' v', Ps B w w' wb v' (a ++ (txB x.name) ++ (lsB txB x.lives) ++ (lsB fldB x.fields)) w.heap.size (w.heap.size + 1) [.bool x.pub, .string (str x.name), .slice a2 n2 c2, .slice a3 n3 c3, .int .i64 x.pos] 58 → ∃ v', Wr B w' wb v' (a ++ (txB x.name ++ (lsB txB x.lives ++ lsB fldB x.fields))) ∧ Mv w w' wb v v') := by
    intro w' v' P
    obtain ⟨v0, e0, q⟩ := P.all
    rw [hc0.out] at e0
    cases e0
    refine ⟨v', ?_, q⟩
    have := P.wr
    simp only [List.append_assoc] at this ⊢
    exact this
  have D0 := hidS (C0.out _ _ P0)
  clear P0 hW hc0 C0 HX ho hf hnm hm
  generalize str x.name = NM at *
  generalize x.pub = PB at *
  generalize x.pos = PO at *
  go_enter Tryz.func68, Tryz.ntmps68
  go_wp2_with fail
  refine D0.out.mono ?_
  rintro _ w1 ⟨rfl, v1, P1⟩
  have D1 := hidS (C1.out _ _ P1)
  have a75 : _ = some (Value.pointer (some ⟨wb, 0, none⟩)) := P1.r1.cell 0
  have b0 : _ = some (Value.bool PB) := P1.r2.cell 0
  have b1 : _ = some (Value.string (NM)) := P1.r2.cell 1
  have b2 : _ = some (Value.slice a2 n2 c2) := P1.r2.cell 2
  have b3 : _ = some (Value.slice a3 n3 c3) := P1.r2.cell 3
  have b4 : _ = some (Value.int .i64 PO) := P1.r2.cell 4
  clear D0 C1 P1
  go_wp2_with fail
  refine D1.out.mono ?_
  rintro _ w2 ⟨rfl, v2, P2⟩
  have D2 := hidS (C2.out _ _ P2)
  clear a75 b0 b1 b2 b3 b4
  have a75 : _ = some (Value.pointer (some ⟨wb, 0, none⟩)) := P2.r1.cell 0
  have b0 : _ = some (Value.bool PB) := P2.r2.cell 0
  have b1 : _ = some (Value.string (NM)) := P2.r2.cell 1
  have b2 : _ = some (Value.slice a2 n2 c2) := P2.r2.cell 2
  have b3 : _ = some (Value.slice a3 n3 c3) := P2.r2.cell 3
  have b4 : _ = some (Value.int .i64 PO) := P2.r2.cell 4
  clear D1 C2 P2
  go_wp2_with fail
  refine D2.out.mono ?_
  rintro _ w3 ⟨rfl, v3, P3⟩
  have HF := hidS (HM.out _ _ P3)
  clear HM P3 D2
  go_wp2_with fail
  go_end0
  exact ⟨rfl, HF.out⟩

set_option maxHeartbeats 4000000 in
theorem putFunc_any {K : Ctx} {B wb : Nat} (hKB : K.C ≤ B) {w : World} {n : Nat} {cs : List Value} {x : Fnc} (hx : FncAt n K w cs x) (hm : MayFn0 x) : Wc B wb 70 cs w (fncB x) := by
  intro v a hW hlen
  have HX := hidS hx
  obtain ⟨v2', v3', ts, v8', rfl, hnm, ho, hf, hr, hbd⟩ := hx
  obtain ⟨t2, m2, d2, t3, m3, d3, rfl⟩ := hr.open
  obtain ⟨a2, c2, e2⟩ := Ar.form ho
  obtain ⟨a3, c3, e3⟩ := Ar.form hf
  obtain ⟨a8, c8, e8⟩ := Ar.form hbd
  obtain ⟨n2, hn2⟩ : ∃ n2, n2 = x.lives.length := ⟨_, rfl⟩
  obtain ⟨n3, hn3⟩ : ∃ n3, n3 = x.params.length := ⟨_, rfl⟩
  obtain ⟨n8, hn8⟩ : ∃ n8, n8 = x.body.length := ⟨_, rfl⟩
  rw [← hn2] at e2
  rw [← hn3] at e3
  rw [← hn8] at e8
  subst e2 e3 e8
  clear hn2 hn3 hn8
  have hc0 := hidS hW.cell
  have P0 := Ps.first hW [.bool x.pub, .string (str x.name), .slice a2 n2 c2, .slice a3 n3 c3, .int .i64 x.result.kind, .string (str x.result.name), .slice t2 m2 d2, .slice t3 m3 d3, .slice a8 n8 c8, .int .i64 x.pos] 65
  unfold fncB at hlen ⊢
  simp only [List.length_append] at hlen
  have C0 : Hid (∀ w1 v1, Ps B w w1 wb v1 (a) w.heap.size (w.heap.size + 1) [.bool x.pub, .string (str x.name), .slice a2 n2 c2, .slice a3 n3 c3, .int .i64 x.result.kind, .string (str x.result.name), .slice t2 m2 d2, .slice t3 m3 d3, .slice a8 n8 c8, .int .i64 x.pos] 65 → Calls Tryz.prog 66 #[.pointer (some ⟨wb, 0, none⟩), .string (str x.name)] w1 fun ev w' => ev = .returned (.tuple #[]) ∧ ∃ v', Ps B w w' wb v' (a ++ (txB x.name)) w.heap.size (w.heap.size + 1) [.bool x.pub, .string (str x.name), .slice a2 n2 c2, .slice a3 n3 c3, .int .i64 x.result.kind, .string (str x.result.name), .slice t2 m2 d2, .slice t3 m3 d3, .slice a8 n8 c8, .int .i64 x.pos] 65) := by
    intro w1 v1 P1
    have hk := below_le P1.bel hKB
    refine (wTx_any B wb x.name v1 _ _ P1.wr (by omega)).mono ?_
    rintro _ w2 ⟨rfl, v', h1, h2⟩
    exact ⟨rfl, v', P1.mv h1 h2⟩
  have C1 : Hid (∀ w1 v1, Ps B w w1 wb v1 (a ++ (txB x.name)) w.heap.size (w.heap.size + 1) [.bool x.pub, .string (str x.name), .slice a2 n2 c2, .slice a3 n3 c3, .int .i64 x.result.kind, .string (str x.result.name), .slice t2 m2 d2, .slice t3 m3 d3, .slice a8 n8 c8, .int .i64 x.pos] 65 → Calls Tryz.prog 118 #[.agg #[.pointer (some ⟨wb, 0, none⟩)], .slice a2 n2 c2, .func (.func 119) #[.agg #[.pointer (some ⟨wb, 0, none⟩)]] #[]] w1 fun ev w' => ev = .returned (.tuple #[]) ∧ ∃ v', Ps B w w' wb v' (a ++ (txB x.name) ++ (lsB lfeB x.lives)) w.heap.size (w.heap.size + 1) [.bool x.pub, .string (str x.name), .slice a2 n2 c2, .slice a3 n3 c3, .int .i64 x.result.kind, .string (str x.result.name), .slice t2 m2 d2, .slice t3 m3 d3, .slice a8 n8 c8, .int .i64 x.pos] 65) := by
    intro w1 v1 P1
    have hk := below_le P1.bel hKB
    refine (putL118_119 lfeB B wb (by have := hm.2.1.1; omega) (ar_mem (P := fun w => LfeAt K w) hKB lfeB (ho.mono hk fun _ _ _ q => q.below hk) (fun _ _ q => q.one) (fun _ _ _ hb q => q.below hb) (fun f hf cs y q => putLife_any hKB q)) v1 _ P1.wr (by simp only [List.length_append]; omega)).mono ?_
    rintro _ w2 ⟨rfl, v', h1, h2⟩
    exact ⟨rfl, v', P1.mv h1 h2⟩
  have C2 : Hid (∀ w1 v1, Ps B w w1 wb v1 (a ++ (txB x.name) ++ (lsB lfeB x.lives)) w.heap.size (w.heap.size + 1) [.bool x.pub, .string (str x.name), .slice a2 n2 c2, .slice a3 n3 c3, .int .i64 x.result.kind, .string (str x.result.name), .slice t2 m2 d2, .slice t3 m3 d3, .slice a8 n8 c8, .int .i64 x.pos] 65 → Calls Tryz.prog 116 #[.agg #[.pointer (some ⟨wb, 0, none⟩)], .slice a3 n3 c3, .func (.func 120) #[.agg #[.pointer (some ⟨wb, 0, none⟩)]] #[]] w1 fun ev w' => ev = .returned (.tuple #[]) ∧ ∃ v', Ps B w w' wb v' (a ++ (txB x.name) ++ (lsB lfeB x.lives) ++ (lsB parB x.params)) w.heap.size (w.heap.size + 1) [.bool x.pub, .string (str x.name), .slice a2 n2 c2, .slice a3 n3 c3, .int .i64 x.result.kind, .string (str x.result.name), .slice t2 m2 d2, .slice t3 m3 d3, .slice a8 n8 c8, .int .i64 x.pos] 65) := by
    intro w1 v1 P1
    have hk := below_le P1.bel hKB
    refine (putL116_120 parB B wb (by have := hm.2.2.1.1; omega) (ar_mem (P := fun w => FldAt K w) hKB parB (hf.mono hk fun _ _ _ q => q.below hk) (fun _ _ q => q.one) (fun _ _ _ hb q => q.below hb) (fun f hf cs y q => param_wc hKB q (hm.2.2.1.2 f hf))) v1 _ P1.wr (by simp only [List.length_append]; omega)).mono ?_
    rintro _ w2 ⟨rfl, v', h1, h2⟩
    exact ⟨rfl, v', P1.mv h1 h2⟩
  have C3 : Hid (∀ w1 v1, Ps B w w1 wb v1 (a ++ (txB x.name) ++ (lsB lfeB x.lives) ++ (lsB parB x.params)) w.heap.size (w.heap.size + 1) [.bool x.pub, .string (str x.name), .slice a2 n2 c2, .slice a3 n3 c3, .int .i64 x.result.kind, .string (str x.result.name), .slice t2 m2 d2, .slice t3 m3 d3, .slice a8 n8 c8, .int .i64 x.pos] 65 → Calls Tryz.prog 121 #[.agg #[.pointer (some ⟨wb, 0, none⟩)], .agg #[.int .i64 x.result.kind, .string (str x.result.name), .slice t2 m2 d2, .slice t3 m3 d3]] w1 fun ev w' => ev = .returned (.tuple #[]) ∧ ∃ v', Ps B w w' wb v' (a ++ (txB x.name) ++ (lsB lfeB x.lives) ++ (lsB parB x.params) ++ (tyB 64 x.result)) w.heap.size (w.heap.size + 1) [.bool x.pub, .string (str x.name), .slice a2 n2 c2, .slice a3 n3 c3, .int .i64 x.result.kind, .string (str x.result.name), .slice t2 m2 d2, .slice t3 m3 d3, .slice a8 n8 c8, .int .i64 x.pos] 65) := by
    intro w1 v1 P1
    have hk := below_le P1.bel hKB
    refine ((tyW_res (hr.below hk) hm.2.2.2).wc hKB v1 _ P1.wr (by simp only [List.length_append]; omega)).mono ?_
    rintro _ w2 ⟨rfl, v', h1, h2⟩
    exact ⟨rfl, v', P1.mv h1 h2⟩
  have HM : Hid (∀ w' v', Ps B w w' wb v' (a ++ (txB x.name) ++ (lsB lfeB x.lives) ++ (lsB parB x.params) ++ (tyB 64 x.result)) w.heap.size (w.heap.size + 1) [.bool x.pub, .string (str x.name), .slice a2 n2 c2, .slice a3 n3 c3, .int .i64 x.result.kind, .string (str x.result.name), .slice t2 m2 d2, .slice t3 m3 d3, .slice a8 n8 c8, .int .i64 x.pos] 65 → ∃ v', Wr B w' wb v' (a ++ (txB x.name ++ (lsB lfeB x.lives ++ (lsB parB x.params ++ tyB 64 x.result)))) ∧ Mv w w' wb v v') := by
    intro w' v' P
    obtain ⟨v0, e0, q⟩ := P.all
    rw [hc0.out] at e0
    cases e0
    refine ⟨v', ?_, q⟩
    have := P.wr
    simp only [List.append_assoc] at this ⊢
    exact this
  have D0 := hidS (C0.out _ _ P0)
  clear P0 hW hc0 C0 HX ho hf hnm hm hr hbd
  generalize str x.name = NM at *
  generalize x.pub = PB at *
  generalize x.pos = PO at *
  generalize x.result.kind = RK at *
  generalize str x.result.name = RN at *
  go_enter Tryz.func70, Tryz.ntmps70
  go_wp2_with fail
  refine D0.out.mono ?_
  rintro _ w1 ⟨rfl, v1, P1⟩
  have D1 := hidS (C1.out _ _ P1)
  have a75 : _ = some (Value.pointer (some ⟨wb, 0, none⟩)) := P1.r1.cell 0
  have b0 : _ = some (Value.bool PB) := P1.r2.cell 0
  have b1 : _ = some (Value.string (NM)) := P1.r2.cell 1
  have b2 : _ = some (Value.slice a2 n2 c2) := P1.r2.cell 2
  have b3 : _ = some (Value.slice a3 n3 c3) := P1.r2.cell 3
  have b4 : _ = some (Value.int .i64 RK) := P1.r2.cell 4
  have b5 : _ = some (Value.string (RN)) := P1.r2.cell 5
  have b6 : _ = some (Value.slice t2 m2 d2) := P1.r2.cell 6
  have b7 : _ = some (Value.slice t3 m3 d3) := P1.r2.cell 7
  have b8 : _ = some (Value.slice a8 n8 c8) := P1.r2.cell 8
  have b9 : _ = some (Value.int .i64 PO) := P1.r2.cell 9
  clear D0 C1 P1
  go_wp2_with fail
  refine D1.out.mono ?_
  rintro _ w2 ⟨rfl, v2, P2⟩
  have D2 := hidS (C2.out _ _ P2)
  clear a75 b0 b1 b2 b3 b4 b5 b6 b7 b8 b9
  have a75 : _ = some (Value.pointer (some ⟨wb, 0, none⟩)) := P2.r1.cell 0
  have b0 : _ = some (Value.bool PB) := P2.r2.cell 0
  have b1 : _ = some (Value.string (NM)) := P2.r2.cell 1
  have b2 : _ = some (Value.slice a2 n2 c2) := P2.r2.cell 2
  have b3 : _ = some (Value.slice a3 n3 c3) := P2.r2.cell 3
  have b4 : _ = some (Value.int .i64 RK) := P2.r2.cell 4
  have b5 : _ = some (Value.string (RN)) := P2.r2.cell 5
  have b6 : _ = some (Value.slice t2 m2 d2) := P2.r2.cell 6
  have b7 : _ = some (Value.slice t3 m3 d3) := P2.r2.cell 7
  have b8 : _ = some (Value.slice a8 n8 c8) := P2.r2.cell 8
  have b9 : _ = some (Value.int .i64 PO) := P2.r2.cell 9
  clear D1 C2 P2
  go_wp2_with fail
  refine D2.out.mono ?_
  rintro _ w3 ⟨rfl, v3, P3⟩
  have D3 := hidS (C3.out _ _ P3)
  clear a75 b0 b1 b2 b3 b4 b5 b6 b7 b8 b9
  have a75 : _ = some (Value.pointer (some ⟨wb, 0, none⟩)) := P3.r1.cell 0
  have b0 : _ = some (Value.bool PB) := P3.r2.cell 0
  have b1 : _ = some (Value.string (NM)) := P3.r2.cell 1
  have b2 : _ = some (Value.slice a2 n2 c2) := P3.r2.cell 2
  have b3 : _ = some (Value.slice a3 n3 c3) := P3.r2.cell 3
  have b4 : _ = some (Value.int .i64 RK) := P3.r2.cell 4
  have b5 : _ = some (Value.string (RN)) := P3.r2.cell 5
  have b6 : _ = some (Value.slice t2 m2 d2) := P3.r2.cell 6
  have b7 : _ = some (Value.slice t3 m3 d3) := P3.r2.cell 7
  have b8 : _ = some (Value.slice a8 n8 c8) := P3.r2.cell 8
  have b9 : _ = some (Value.int .i64 PO) := P3.r2.cell 9
  clear D2 C3 P3
  go_wp2_with fail
  refine D3.out.mono ?_
  rintro _ w4 ⟨rfl, v4, P4⟩
  have HF := hidS (HM.out _ _ P4)
  clear HM P4 D3
  go_wp2_with fail
  go_end0
  exact ⟨rfl, HF.out⟩

set_option maxHeartbeats 4000000 in
theorem putSig_any {K : Ctx} {B wb : Nat} (hKB : K.C ≤ B) {w : World} {n : Nat} {u0 u1 : Value} {c : Crt} (s : Bs) (hx : CrtAt n K w [u0, u1] c) (hm : MayCr0 c) : Wc B wb 30 [.string (str s), u0, u1] w (sigB s c) := by
  intro v a hW hlen
  have HX := hidS hx
  obtain ⟨x0, x1, e, ho, hf⟩ := hx
  cases e
  obtain ⟨a2, c2, e2⟩ := Ar.form ho
  obtain ⟨a3, c3, e3⟩ := Ar.form hf
  obtain ⟨n2, hn2⟩ : ∃ n2, n2 = c.structs.length := ⟨_, rfl⟩
  obtain ⟨n3, hn3⟩ : ∃ n3, n3 = c.funcs.length := ⟨_, rfl⟩
  rw [← hn2] at e2
  rw [← hn3] at e3
  subst e2 e3
  clear hn2 hn3
  have hc0 := hidS hW.cell
  have P0 := Ps.first hW [.string (str s), .slice a2 n2 c2, .slice a3 n3 c3] 27
  unfold sigB at hlen ⊢
  simp only [List.length_append] at hlen
  have C0 : Hid (∀ w1 v1, Ps B w w1 wb v1 (a) w.heap.size (w.heap.size + 1) [.string (str s), .slice a2 n2 c2, .slice a3 n3 c3] 27 → Calls Tryz.prog 66 #[.pointer (some ⟨wb, 0, none⟩), .string ⟨#[85, 83, 73, 71]⟩] w1 fun ev w' => ev = .returned (.tuple #[]) ∧ ∃ v', Ps B w w' wb v' (a ++ (txB [85, 83, 73, 71])) w.heap.size (w.heap.size + 1) [.string (str s), .slice a2 n2 c2, .slice a3 n3 c3] 27) := by
    intro w1 v1 P1
    have hk := below_le P1.bel hKB
    refine (wTx_any B wb [85, 83, 73, 71] v1 _ _ P1.wr (by omega)).mono ?_
    rintro _ w2 ⟨rfl, v', h1, h2⟩
    exact ⟨rfl, v', P1.mv h1 h2⟩
  have C1 : Hid (∀ w1 v1, Ps B w w1 wb v1 (a ++ (txB [85, 83, 73, 71])) w.heap.size (w.heap.size + 1) [.string (str s), .slice a2 n2 c2, .slice a3 n3 c3] 27 → Calls Tryz.prog 66 #[.pointer (some ⟨wb, 0, none⟩), .string (str s)] w1 fun ev w' => ev = .returned (.tuple #[]) ∧ ∃ v', Ps B w w' wb v' (a ++ (txB [85, 83, 73, 71]) ++ (txB s)) w.heap.size (w.heap.size + 1) [.string (str s), .slice a2 n2 c2, .slice a3 n3 c3] 27) := by
    intro w1 v1 P1
    have hk := below_le P1.bel hKB
    refine (wTx_any B wb s v1 _ _ P1.wr (by simp only [List.length_append]; omega)).mono ?_
    rintro _ w2 ⟨rfl, v', h1, h2⟩
    exact ⟨rfl, v', P1.mv h1 h2⟩
  have C2 : Hid (∀ w1 v1, Ps B w w1 wb v1 (a ++ (txB [85, 83, 73, 71]) ++ (txB s)) w.heap.size (w.heap.size + 1) [.string (str s), .slice a2 n2 c2, .slice a3 n3 c3] 27 → Calls Tryz.prog 67 #[.agg #[.pointer (some ⟨wb, 0, none⟩)], .slice a2 n2 c2, .func (.func 68) #[.agg #[.pointer (some ⟨wb, 0, none⟩)]] #[]] w1 fun ev w' => ev = .returned (.tuple #[]) ∧ ∃ v', Ps B w w' wb v' (a ++ (txB [85, 83, 73, 71]) ++ (txB s) ++ (lsB sctB c.structs)) w.heap.size (w.heap.size + 1) [.string (str s), .slice a2 n2 c2, .slice a3 n3 c3] 27) := by
    intro w1 v1 P1
    have hk := below_le P1.bel hKB
    refine (putL67_68 sctB B wb (by have := hm.1; omega) (ar_mem (P := fun w => SctAt K w) hKB sctB (ho.mono hk fun _ _ _ q => q.below hk) (fun _ _ q => q.one) (fun _ _ _ hb q => q.below hb) (fun f hf cs y q => putStruct_any hKB q (hm.2.1 f hf))) v1 _ P1.wr (by simp only [List.length_append]; omega)).mono ?_
    rintro _ w2 ⟨rfl, v', h1, h2⟩
    exact ⟨rfl, v', P1.mv h1 h2⟩
  have C3 : Hid (∀ w1 v1, Ps B w w1 wb v1 (a ++ (txB [85, 83, 73, 71]) ++ (txB s) ++ (lsB sctB c.structs)) w.heap.size (w.heap.size + 1) [.string (str s), .slice a2 n2 c2, .slice a3 n3 c3] 27 → Calls Tryz.prog 69 #[.agg #[.pointer (some ⟨wb, 0, none⟩)], .slice a3 n3 c3, .func (.func 70) #[.agg #[.pointer (some ⟨wb, 0, none⟩)]] #[]] w1 fun ev w' => ev = .returned (.tuple #[]) ∧ ∃ v', Ps B w w' wb v' (a ++ (txB [85, 83, 73, 71]) ++ (txB s) ++ (lsB sctB c.structs) ++ (lsB fncB c.funcs)) w.heap.size (w.heap.size + 1) [.string (str s), .slice a2 n2 c2, .slice a3 n3 c3] 27) := by
    intro w1 v1 P1
    have hk := below_le P1.bel hKB
    refine (putL69_70 fncB B wb (by have := hm.1; omega) (ar_mem (P := fun w => FncAt n K w) hKB fncB (hf.mono hk fun _ _ _ q => q.below hk) (fun _ _ q => q.one) (fun _ _ _ hb q => q.below hb) (fun f hf cs y q => putFunc_any hKB q (hm.2.2 f hf))) v1 _ P1.wr (by simp only [List.length_append]; omega)).mono ?_
    rintro _ w2 ⟨rfl, v', h1, h2⟩
    exact ⟨rfl, v', P1.mv h1 h2⟩
  have HM : Hid (∀ w' v', Ps B w w' wb v' (a ++ (txB [85, 83, 73, 71]) ++ (txB s) ++ (lsB sctB c.structs) ++ (lsB fncB c.funcs)) w.heap.size (w.heap.size + 1) [.string (str s), .slice a2 n2 c2, .slice a3 n3 c3] 27 → ∃ v', Wr B w' wb v' (a ++ (txB [85, 83, 73, 71] ++ (txB s ++ (lsB sctB c.structs ++ lsB fncB c.funcs)))) ∧ Mv w w' wb v v') := by
    intro w' v' P
    obtain ⟨v0, e0, q⟩ := P.all
    rw [hc0.out] at e0
    cases e0
    refine ⟨v', ?_, q⟩
    have := P.wr
    simp only [List.append_assoc] at this ⊢
    exact this
  have D0 := hidS (C0.out _ _ P0)
  clear P0 hW hc0 C0 HX ho hf hm
  generalize str s = NM at *
  go_enter Tryz.func30, Tryz.ntmps30
  go_wp2_with fail
  refine D0.out.mono ?_
  rintro _ w1 ⟨rfl, v1, P1⟩
  have D1 := hidS (C1.out _ _ P1)
  have a75 : _ = some (Value.pointer (some ⟨wb, 0, none⟩)) := P1.r1.cell 0
  have b0 : _ = some (Value.string (NM)) := P1.r2.cell 0
  have b1 : _ = some (Value.slice a2 n2 c2) := P1.r2.cell 1
  have b2 : _ = some (Value.slice a3 n3 c3) := P1.r2.cell 2
  clear D0 C1 P1
  go_wp2_with fail
  refine D1.out.mono ?_
  rintro _ w2 ⟨rfl, v2, P2⟩
  have D2 := hidS (C2.out _ _ P2)
  clear a75 b0 b1 b2
  have a75 : _ = some (Value.pointer (some ⟨wb, 0, none⟩)) := P2.r1.cell 0
  have b0 : _ = some (Value.string (NM)) := P2.r2.cell 0
  have b1 : _ = some (Value.slice a2 n2 c2) := P2.r2.cell 1
  have b2 : _ = some (Value.slice a3 n3 c3) := P2.r2.cell 2
  clear D1 C2 P2
  go_wp2_with fail
  refine D2.out.mono ?_
  rintro _ w3 ⟨rfl, v3, P3⟩
  have D3 := hidS (C3.out _ _ P3)
  clear a75 b0 b1 b2
  have a75 : _ = some (Value.pointer (some ⟨wb, 0, none⟩)) := P3.r1.cell 0
  have b0 : _ = some (Value.string (NM)) := P3.r2.cell 0
  have b1 : _ = some (Value.slice a2 n2 c2) := P3.r2.cell 1
  have b2 : _ = some (Value.slice a3 n3 c3) := P3.r2.cell 2
  clear D2 C3 P3
  go_wp2_with fail
  refine D3.out.mono ?_
  rintro _ w4 ⟨rfl, v4, P4⟩
  have HF := hidS (HM.out _ _ P4)
  clear HM P4 D3
  go_wp2_with fail
  go_end0
  exact ⟨rfl, HF.out⟩
end Go.Proofs.YtmopffaocamieaaGreat
