/-
  The texts Smy, Smz, Rin, joined.
-/
import Derived.Test.YtmopffaocamieaaGreatQapMa0
import Derived.Test.YtmopffaocamieaaGreatJapSn03
import Derived.Test.YtmopffaocamieaaGreatJapMat4
import Derived.Orders
namespace Go.Proofs.YtmopffaocamieaaGreat
open Go.RowKit

/-- No struct is wrong in a sig. -/
def OkS (s : Sct) : Prop := s.pub = true ∧ s.pos = 0
def OkF (f : Fnc) : Prop := f.pub = true ∧ f.pos = 0 ∧ f.body = []

set_option maxHeartbeats 2000000 in
theorem noSct_any {K : Ctx} {w : World} {x : Sct} {cs : List Value} (hx : SctAt K w cs x) (B : Bool) (hB : B = true ↔ ¬ OkS x) :
    Calls Tryz.prog 42 #[.agg cs.toArray] w fun ev w' => ev = .returned (.bool B) ∧ Below w.heap.size w w' := by
  obtain ⟨v2, v3, rfl, _, h1, h2⟩ := hx
  obtain ⟨a2, c2, rfl⟩ := h1.form
  obtain ⟨a3, c3, rfl⟩ := h2.form
  have HB : Hid (B = true ↔ ¬ (x.pub = true ∧ x.pos = 0)) := hB
  clear hB h1 h2
  generalize x.lives.length = n2 at *
  generalize x.fields.length = n3 at *
  generalize str x.name = NM at *
  generalize x.pos = PO at *
  generalize x.pub = PB at *
  cases PB with
  | false =>
    obtain rfl : B = true := HB.out.2 (fun h => by cases h.1)
    clear HB
    go_enter Tryz.func42, Tryz.ntmps42
    go_wp2_with fail
    go_ret
    exact ⟨rfl, alloc_one _ _⟩
  | true =>
    by_cases hp : PO = 0
    · subst hp
      obtain rfl : B = false := bool_false HB.out (fun h => h ⟨rfl, rfl⟩)
      clear HB
      go_enter Tryz.func42, Tryz.ntmps42
      go_wp2_with fail
      go_ret
      exact ⟨rfl, alloc_one _ _⟩
    · obtain rfl : B = true := HB.out.2 (fun h => hp h.2)
      have b0 : (PO == 0) = false := by rw [beq_eq_false_iff_ne]; exact hp
      have b1 : (PO != 0) = true := by simp [bne, b0]
      clear HB
      go_enter Tryz.func42, Tryz.ntmps42
      go_wp2_with fail
      go_ret
      exact ⟨rfl, alloc_one _ _⟩
set_option maxHeartbeats 2000000 in
theorem noFnc_any {n : Nat} {K : Ctx} {w : World} {x : Fnc} {cs : List Value} (hx : FncAt n K w cs x) (B : Bool) (hB : B = true ↔ ¬ OkF x) :
    Calls Tryz.prog 44 #[.agg cs.toArray] w fun ev w' => ev = .returned (.bool B) ∧ Below w.heap.size w w' := by
  obtain ⟨v2, v3, ts, v8, rfl, _, h1, h2, h3, h4⟩ := hx
  obtain ⟨t2, m2, d2, t3, m3, d3, rfl⟩ := h3.open
  obtain ⟨a2, c2, rfl⟩ := h1.form
  obtain ⟨a3, c3, rfl⟩ := h2.form
  obtain ⟨a8, c8, rfl⟩ := h4.form
  have HB : Hid (B = true ↔ ¬ (x.pub = true ∧ x.pos = 0 ∧ x.body = [])) := hB
  have HL : Hid (x.body = [] ↔ x.body.length = 0) := List.length_eq_zero_iff.symm
  clear hB h1 h2 h3 h4
  by_cases hb : x.body.length = 0
  · rw [hb]
    have hb' := HL.out.2 hb
    clear hb HL
    generalize x.lives.length = n2 at *
    generalize x.params.length = n3 at *
    generalize str x.name = NM at *
    generalize x.result.kind = RK at *
    generalize str x.result.name = RN at *
    generalize x.pos = PO at *
    generalize x.pub = PB at *
    cases PB with
    | false =>
      obtain rfl : B = true := HB.out.2 (fun h => by cases h.1)
      clear HB hb'
      go_enter Tryz.func44, Tryz.ntmps44
      go_wp2_with fail
      go_ret
      exact ⟨rfl, alloc_one _ _⟩
    | true =>
      by_cases hp : PO = 0
      · subst hp
        obtain rfl : B = false := bool_false HB.out (fun h => h ⟨rfl, rfl, hb'⟩)
        clear HB hb'
        go_enter Tryz.func44, Tryz.ntmps44
        go_wp2_with fail
        go_ret
        exact ⟨rfl, alloc_one _ _⟩
      · obtain rfl : B = true := HB.out.2 (fun h => hp h.2.1)
        have b0 : (PO == 0) = false := by rw [beq_eq_false_iff_ne]; exact hp
        have b1 : (PO != 0) = true := by simp [bne, b0]
        clear HB hb'
        go_enter Tryz.func44, Tryz.ntmps44
        go_wp2_with fail
        go_ret
        exact ⟨rfl, alloc_one _ _⟩
  · obtain rfl : B = true := HB.out.2 (fun h => hb (HL.out.1 h.2.2))
    have j0 : (0 : Int) < (x.body.length : Int) := by omega
    have j1 : decide (0 < x.body.length) = true := by simp; omega
    clear HB HL hb
    generalize x.lives.length = n2 at *
    generalize x.params.length = n3 at *
    generalize str x.name = NM at *
    generalize x.result.kind = RK at *
    generalize str x.result.name = RN at *
    generalize x.body.length = BL at *
    generalize x.pos = PO at *
    generalize x.pub = PB at *
    cases PB with
    | false =>
      go_enter Tryz.func44, Tryz.ntmps44
      go_wp2_with fail
      go_ret
      exact ⟨rfl, alloc_one _ _⟩
    | true =>
      by_cases hp : PO = 0
      · subst hp
        go_enter Tryz.func44, Tryz.ntmps44
        go_wp2_with fail
        go_ret
        exact ⟨rfl, alloc_one _ _⟩
      · have b0 : (PO == 0) = false := by rw [beq_eq_false_iff_ne]; exact hp
        have b1 : (PO != 0) = true := by simp [bne, b0]
        go_enter Tryz.func44, Tryz.ntmps44
        go_wp2_with fail
        go_ret
        exact ⟨rfl, alloc_one _ _⟩

set_option maxHeartbeats 8000000 in
set_option maxRecDepth 20000 in
theorem index80_any {K : Ctx} {w : World} (hC : K.C ≤ w.heap.size) {v : Value} {l : List Sct} (ha : Ar 5 80 (SctAt K w) K w v l) :
    Calls Tryz.prog 80 #[v, .func (.func 42) #[] #[]] w fun ev w' => ∃ r : Int, ev = .returned (.int .i64 r) ∧ (0 ≤ r ↔ ∃ x ∈ l, ¬ OkS x) ∧ Below w.heap.size w w' := by
  obtain ⟨ao, cap, rfl, hc, hb, hA⟩ := ha.shape
  have hl9 : l.length ≤ 9223372036854775807 := by omega
  have HA : Hid (∀ i (h : i < l.length) (y : World), Below w.heap.size w y → ∃ b o, ao = some ⟨b, o, none⟩ ∧ ∃ cs, cs.length = 5 ∧ y.rangeAt b (o + i * 5) cs ∧ ∀ B : Bool, (B = true ↔ ¬ OkS l[i]) → Calls Tryz.prog 42 #[.agg cs.toArray] y fun ev w' => ev = .returned (.bool B) ∧ Below w.heap.size w w') := by
    intro i h y hy
    obtain ⟨b, o, e, hbC, cs, hl, hcs, hx⟩ := hA i h
    have hK := below_le hy hC
    refine ⟨b, o, e, cs, hl, fun j u hj => ?_, fun B hB => (noSct_any (hx.below hK) B hB).mono fun _ _ q => ⟨q.1, hy.trans (q.2.mono hy.size)⟩⟩
    have hjz : j < 5 := by rw [← hl]; exact (List.getElem?_eq_some_iff.1 hj).1
    rw [hK.cell (p := ⟨b, o + i * 5 + j, none⟩) hbC, hcs j hjz]; exact hj
  clear hA ha hb hC hc
  go_enter Tryz.func80, Tryz.ntmps80
  go_wp2_with fail
  go_loopw [8] (fun i wr => ∃ k : Nat, k ≤ l.length ∧ i = .int .i64 k ∧ (∀ j (h : j < l.length), j < k → OkS l[j]) ∧ Below w.heap.size w wr) (fun i _ => l.length - (intOf i).toNat)
  case atStart => exact ⟨0, by omega, rfl, fun j _ h => by omega, Below.refl _ _⟩
  case round =>
    obtain ⟨k, hk, rfl, hj, hB⟩ := hrel
    have HJ := hidS hj
    have HB := hidS hB
    clear hj
    by_cases h3 : k < l.length
    · obtain ⟨b, o, e, cs, hl, hr, hcall⟩ := HA.out k h3 wr hB
      subst e
      have i1 : (k : Int) < (l.length : Int) := by omega
      by_cases hp : OkS l[k]
      · have D := hidS (hcall false ⟨fun h => (by cases h), fun h => absurd hp h⟩)
        have HP := hidS hp
        clear hcall hp HA hB
        go_wp2_with (refine wpList_load_mid rfl 58 (.tmp 14) rfl b (o + k * 5) rfl cs _ hr Tryz.underlying58 rfl (by rw [hl]; kernel_rfl) ?_)
        refine D.out.mono ?_
        rintro _ w1 ⟨rfl, hb1⟩
        go_wp2_with fail
        go_roundw
        case rel =>
          refine ⟨k + 1, by omega, by go_num, fun j h hjk => ?_, hb1⟩
          rcases Nat.lt_or_ge j k with hl' | hl'
          · exact HJ.out j h hl'
          · obtain rfl : j = k := by omega
            exact HP.out
        case measure => simp [intOf]; omega
      · have D := hidS (hcall true ⟨fun _ => hp, fun _ => rfl⟩)
        have HP : Hid (∃ x ∈ l, ¬ OkS x) := ⟨_, List.getElem_mem h3, hp⟩
        clear hcall hp HA hB
        go_wp2_with (refine wpList_load_mid rfl 58 (.tmp 14) rfl b (o + k * 5) rfl cs _ hr Tryz.underlying58 rfl (by rw [hl]; kernel_rfl) ?_)
        refine D.out.mono ?_
        rintro _ w1 ⟨rfl, hb1⟩
        go_wp2_with fail
        go_ret
        exact ⟨_, rfl, ⟨fun _ => HP.out, fun _ => by omega⟩, hb1⟩
    · have i1 : ¬ (k : Int) < (l.length : Int) := by omega
      have HN : Hid (¬ ∃ x ∈ l, ¬ OkS x) := hidS (by
        rintro ⟨x, hx, hn⟩
        obtain ⟨j, hj, rfl⟩ := List.getElem_of_mem hx
        exact hn (HJ.out j hj (by omega)))
      clear HA hB
      go_wp2_with fail
      go_ret
      exact ⟨_, rfl, ⟨fun h => absurd h (by decide), fun h => absurd h HN.out⟩, HB.out⟩
theorem cont41_any {K : Ctx} {w : World} (hC : K.C ≤ w.heap.size) {v : Value} {l : List Sct} (ha : Ar 5 80 (SctAt K w) K w v l) (B : Bool) (hB : B = true ↔ ∃ x ∈ l, ¬ OkS x) :
    Calls Tryz.prog 41 #[v, .func (.func 42) #[] #[]] w fun ev w' => ev = .returned (.bool B) ∧ Below w.heap.size w w' := by
  have C := index80_any hC ha
  obtain ⟨ao, cap, rfl⟩ := ha.form
  clear ha
  go_enter Tryz.func41, Tryz.ntmps41
  go_wp2_with fail
  refine C.mono ?_
  rintro _ w1 ⟨r, rfl, hr, hb⟩
  have e : decide (0 ≤ r) = B := by
    rw [Bool.eq_iff_iff, hB, ← hr]; simp
  clear C hr hB
  go_wp2_with fail
  go_ret
  exact ⟨by rw [← e]; rfl, hb⟩

set_option maxHeartbeats 8000000 in
set_option maxRecDepth 20000 in
theorem index81_any {n : Nat} {K : Ctx} {w : World} (hC : K.C ≤ w.heap.size) {v : Value} {l : List Fnc} (ha : Ar 10 176 (FncAt n K w) K w v l) :
    Calls Tryz.prog 81 #[v, .func (.func 44) #[] #[]] w fun ev w' => ∃ r : Int, ev = .returned (.int .i64 r) ∧ (0 ≤ r ↔ ∃ x ∈ l, ¬ OkF x) ∧ Below w.heap.size w w' := by
  obtain ⟨ao, cap, rfl, hc, hb, hA⟩ := ha.shape
  have hl9 : l.length ≤ 9223372036854775807 := by omega
  have HA : Hid (∀ i (h : i < l.length) (y : World), Below w.heap.size w y → ∃ b o, ao = some ⟨b, o, none⟩ ∧ ∃ cs, cs.length = 10 ∧ y.rangeAt b (o + i * 10) cs ∧ ∀ B : Bool, (B = true ↔ ¬ OkF l[i]) → Calls Tryz.prog 44 #[.agg cs.toArray] y fun ev w' => ev = .returned (.bool B) ∧ Below w.heap.size w w') := by
    intro i h y hy
    obtain ⟨b, o, e, hbC, cs, hl, hcs, hx⟩ := hA i h
    have hK := below_le hy hC
    refine ⟨b, o, e, cs, hl, fun j u hj => ?_, fun B hB => (noFnc_any (hx.below hK) B hB).mono fun _ _ q => ⟨q.1, hy.trans (q.2.mono hy.size)⟩⟩
    have hjz : j < 10 := by rw [← hl]; exact (List.getElem?_eq_some_iff.1 hj).1
    rw [hK.cell (p := ⟨b, o + i * 10 + j, none⟩) hbC, hcs j hjz]; exact hj
  clear hA ha hb hC hc
  go_enter Tryz.func81, Tryz.ntmps81
  go_wp2_with fail
  go_loopw [8] (fun i wr => ∃ k : Nat, k ≤ l.length ∧ i = .int .i64 k ∧ (∀ j (h : j < l.length), j < k → OkF l[j]) ∧ Below w.heap.size w wr) (fun i _ => l.length - (intOf i).toNat)
  case atStart => exact ⟨0, by omega, rfl, fun j _ h => by omega, Below.refl _ _⟩
  case round =>
    obtain ⟨k, hk, rfl, hj, hB⟩ := hrel
    have HJ := hidS hj
    have HB := hidS hB
    clear hj
    by_cases h3 : k < l.length
    · obtain ⟨b, o, e, cs, hl, hr, hcall⟩ := HA.out k h3 wr hB
      subst e
      have i1 : (k : Int) < (l.length : Int) := by omega
      by_cases hp : OkF l[k]
      · have D := hidS (hcall false ⟨fun h => (by cases h), fun h => absurd hp h⟩)
        have HP := hidS hp
        clear hcall hp HA hB
        go_wp2_with (refine wpList_load_mid rfl 65 (.tmp 14) rfl b (o + k * 10) rfl cs _ hr Tryz.underlying65 rfl (by rw [hl]; kernel_rfl) ?_)
        refine D.out.mono ?_
        rintro _ w1 ⟨rfl, hb1⟩
        go_wp2_with fail
        go_roundw
        case rel =>
          refine ⟨k + 1, by omega, by go_num, fun j h hjk => ?_, hb1⟩
          rcases Nat.lt_or_ge j k with hl' | hl'
          · exact HJ.out j h hl'
          · obtain rfl : j = k := by omega
            exact HP.out
        case measure => simp [intOf]; omega
      · have D := hidS (hcall true ⟨fun _ => hp, fun _ => rfl⟩)
        have HP : Hid (∃ x ∈ l, ¬ OkF x) := ⟨_, List.getElem_mem h3, hp⟩
        clear hcall hp HA hB
        go_wp2_with (refine wpList_load_mid rfl 65 (.tmp 14) rfl b (o + k * 10) rfl cs _ hr Tryz.underlying65 rfl (by rw [hl]; kernel_rfl) ?_)
        refine D.out.mono ?_
        rintro _ w1 ⟨rfl, hb1⟩
        go_wp2_with fail
        go_ret
        exact ⟨_, rfl, ⟨fun _ => HP.out, fun _ => by omega⟩, hb1⟩
    · have i1 : ¬ (k : Int) < (l.length : Int) := by omega
      have HN : Hid (¬ ∃ x ∈ l, ¬ OkF x) := hidS (by
        rintro ⟨x, hx, hn⟩
        obtain ⟨j, hj, rfl⟩ := List.getElem_of_mem hx
        exact hn (HJ.out j hj (by omega)))
      clear HA hB
      go_wp2_with fail
      go_ret
      exact ⟨_, rfl, ⟨fun h => absurd h (by decide), fun h => absurd h HN.out⟩, HB.out⟩
theorem cont43_any {n : Nat} {K : Ctx} {w : World} (hC : K.C ≤ w.heap.size) {v : Value} {l : List Fnc} (ha : Ar 10 176 (FncAt n K w) K w v l) (B : Bool) (hB : B = true ↔ ∃ x ∈ l, ¬ OkF x) :
    Calls Tryz.prog 43 #[v, .func (.func 44) #[] #[]] w fun ev w' => ev = .returned (.bool B) ∧ Below w.heap.size w w' := by
  have C := index81_any hC ha
  obtain ⟨ao, cap, rfl⟩ := ha.form
  clear ha
  go_enter Tryz.func43, Tryz.ntmps43
  go_wp2_with fail
  refine C.mono ?_
  rintro _ w1 ⟨r, rfl, hr, hb⟩
  have e : decide (0 ≤ r) = B := by
    rw [Bool.eq_iff_iff, hB, ← hr]; simp
  clear C hr hB
  go_wp2_with fail
  go_ret
  exact ⟨by rw [← e]; rfl, hb⟩
end Go.Proofs.YtmopffaocamieaaGreat

namespace Go.Proofs.YtmopffaocamieaaGreat
open Go.RowKit

def MaySig (s : Bs) (c : Crt) : Prop := nameB s = true ∧ (∀ x ∈ c.structs, OkS x) ∧ (∀ f ∈ c.funcs, OkF f) ∧ MayCr0 c
theorem not_all {α : Type} {l : List α} {P : α → Prop} (h : ¬ ∀ x ∈ l, P x) : ∃ x ∈ l, ¬ P x := Classical.byContradiction fun hn => h fun x hx => Classical.byContradiction fun hp => hn ⟨x, hx, hp⟩

set_option maxHeartbeats 4000000 in
theorem sigMay_any {n : Nat} {K : Ctx} {w : World} (he : Env K w) {c : Crt} {u0 u1 : Value} (hx : CrtAt n K w [u0, u1] c) (s : Bs) (hs : s.length ≤ 140737488355328) (B : Bool) (hB : B = true ↔ MaySig s c) :
    Calls Tryz.prog 18 #[.agg #[.string (str s), u0, u1]] w fun ev w' => ev = .returned (.bool B) ∧ Below w.heap.size w w' := by
  have hA := alloc_one w (.cells #[.string (str s), u0, u1] 27)
  have N : Hid (Calls Tryz.prog 40 #[.string (str s)] (w.alloc (.cells #[.string (str s), u0, u1] 27)) fun ev w' => ev = .returned (.bool (nameB s)) ∧ w' = w.alloc (.cells #[.string (str s), u0, u1] 27)) := name_any s (by omega) _
  obtain ⟨x0, x1, e, h0, h1⟩ := hx
  cases e
  have HE := hidS he
  have C1 : Hid (∀ B, (B = true ↔ ∃ x ∈ c.structs, ¬ OkS x) → Calls Tryz.prog 41 #[u0, .func (.func 42) #[] #[]] (w.alloc (.cells #[.string (str s), u0, u1] 27)) fun ev w' => ev = .returned (.bool B) ∧ Below w.heap.size w w' ∧ Row w' w.heap.size 27 [.string (str s), u0, u1]) := by
    intro B hB
    have hK := below_le hA he.C
    refine (cont41_any (K := K) (Nat.le_trans he.C hA.size) (h0.mono hK fun _ _ _ q => q.below hK) B hB).mono ?_
    rintro _ w1 ⟨rfl, hb⟩
    have R := Row.new w 27 [.string (str s), u0, u1]
    exact ⟨rfl, hA.trans (hb.mono hA.size), R.below hb R.lt⟩
  have C2 : Hid (∀ w1, Below w.heap.size w w1 → Row w1 w.heap.size 27 [.string (str s), u0, u1] → ∀ B, (B = true ↔ ∃ x ∈ c.funcs, ¬ OkF x) → Calls Tryz.prog 43 #[u1, .func (.func 44) #[] #[]] w1 fun ev w' => ev = .returned (.bool B) ∧ Below w.heap.size w w' ∧ Row w' w.heap.size 27 [.string (str s), u0, u1]) := by
    intro w1 k1 k2 B hB
    have hK := below_le k1 he.C
    refine (cont43_any (K := K) (Nat.le_trans he.C k1.size) (h1.mono hK fun _ _ _ q => q.below hK) B hB).mono ?_
    rintro _ w2 ⟨rfl, hb⟩
    exact ⟨rfl, k1.trans (hb.mono k1.size), k2.below hb k2.lt⟩
  have C3 : Hid (∀ w1, Below w.heap.size w w1 → (∀ f ∈ c.funcs, OkF f) → ∀ B, (B = true ↔ MayCr0 c) → Calls Tryz.prog 45 #[.agg #[u0, u1]] w1 fun ev w' => ev = .returned (.bool B) ∧ Below w.heap.size w w') := by
    intro w1 k1 hf B hB
    have hK := below_le k1 he.C
    refine (may0_any (he.below hK) (cs := [u0, u1]) (CrtAt.below ⟨u0, u1, rfl, h0, h1⟩ hK) (fun f hm => (hf f hm).2.2) B hB).mono ?_
    rintro _ w2 ⟨rfl, hb⟩
    exact ⟨rfl, k1.trans (hb.mono k1.size)⟩
  have HB : Hid (B = true ↔ MaySig s c) := hB
  have HA := hidS hA
  obtain ⟨a0, c0, rfl⟩ := h0.form
  obtain ⟨a1, c1, rfl⟩ := h1.form
  clear h0 h1 he hA hB HE
  generalize c.structs.length = n0 at *
  generalize c.funcs.length = n1 at *
  cases hn : nameB s
  · obtain rfl := bool_false HB.out (fun h => by have := h.1; rw [hn] at this; cases this)
    rw [hn] at N
    clear C1 C2 C3 HB
    generalize str s = SS at *
    go_enter Tryz.func18, Tryz.ntmps18
    go_wp2_with fail
    refine N.out.mono ?_
    rintro _ _ ⟨rfl, rfl⟩
    go_wp2_with fail
    go_ret
    exact ⟨rfl, HA.out⟩
  rw [hn] at N
  by_cases hS : ∀ x ∈ c.structs, OkS x
  rotate_left
  · obtain rfl := bool_false HB.out (fun h => hS h.2.1)
    have U1 := hidS (C1.out true ⟨fun _ => not_all hS, fun _ => rfl⟩)
    clear C1 C2 C3 HB hS HA
    generalize str s = SS at *
    go_enter Tryz.func18, Tryz.ntmps18
    go_wp2_with fail
    refine N.out.mono ?_
    rintro _ _ ⟨rfl, rfl⟩
    go_wp2_with fail
    refine U1.out.mono ?_
    rintro _ w1 ⟨rfl, k1, k2⟩
    go_wp2_with fail
    go_ret
    exact ⟨rfl, k1⟩
  have U1 := hidS (C1.out false ⟨fun h => (by cases h), fun ⟨x, hx, h⟩ => absurd (hS x hx) h⟩)
  by_cases hF : ∀ x ∈ c.funcs, OkF x
  rotate_left
  · obtain rfl := bool_false HB.out (fun h => hF h.2.2.1)
    have U2 : Hid (∀ w1 k1 k2, _) := fun w1 k1 k2 => C2.out w1 k1 k2 true ⟨fun _ => not_all hF, fun _ => rfl⟩
    clear C1 C2 C3 HB hS hF HA
    generalize str s = SS at *
    go_enter Tryz.func18, Tryz.ntmps18
    go_wp2_with fail
    refine N.out.mono ?_
    rintro _ _ ⟨rfl, rfl⟩
    go_wp2_with fail
    refine U1.out.mono ?_
    rintro _ w1 ⟨rfl, k1, k2⟩
    have y2 := k2.cell 2
    simp only [List.getElem?_cons_zero, List.getElem?_cons_succ] at y2
    have D2 := hidS (U2.out w1 k1 k2)
    clear U1 U2 k1 k2
    go_wp2_with fail
    refine D2.out.mono ?_
    rintro _ w2 ⟨rfl, k1, k2⟩
    go_wp2_with fail
    go_ret
    exact ⟨rfl, k1⟩
  have U2 : Hid (∀ w1 k1 k2, _) := fun w1 k1 k2 => C2.out w1 k1 k2 false ⟨fun h => (by cases h), fun ⟨x, hx, h⟩ => absurd (hF x hx) h⟩
  have U3 : Hid (∀ w1 k1, _) := fun w1 k1 => C3.out w1 k1 hF B ⟨fun h => (HB.out.1 h).2.2.2, fun h => HB.out.2 ⟨hn, hS, hF, h⟩⟩
  clear C1 C2 C3 HB hS hF HA
  generalize str s = SS at *
  go_enter Tryz.func18, Tryz.ntmps18
  go_wp2_with fail
  refine N.out.mono ?_
  rintro _ _ ⟨rfl, rfl⟩
  go_wp2_with fail
  refine U1.out.mono ?_
  rintro _ w1 ⟨rfl, k1, k2⟩
  have y2 := k2.cell 2
  simp only [List.getElem?_cons_zero, List.getElem?_cons_succ] at y2
  have D2 := hidS (U2.out w1 k1 k2)
  clear U1 U2 k1 k2
  go_wp2_with fail
  refine D2.out.mono ?_
  rintro _ w2 ⟨rfl, k1, k2⟩
  have y1 := k2.cell 1
  have y3 := k2.cell 2
  simp only [List.getElem?_cons_zero, List.getElem?_cons_succ] at y1 y3
  have D3 := hidS (U3.out w2 k1)
  clear D2 U3 k1 k2 y2
  go_wp2_with fail
  refine D3.out.mono ?_
  rintro _ w3 ⟨rfl, k1⟩
  go_wp2_with fail
  go_ret
  exact ⟨rfl, k1⟩
end Go.Proofs.YtmopffaocamieaaGreat

namespace Go.Proofs.YtmopffaocamieaaGreat
open Go.RowKit

theorem count_set {l : List Bool} : ∀ {i : Nat}, l[i]? = some false → (l.set i true).count false + 1 = l.count false := by
  induction l with
  | nil => intro i h; simp at h
  | cons x l ih =>
    intro i h
    cases i with
    | zero =>
      simp only [List.getElem?_cons_zero, Option.some.injEq] at h
      subst h
      simp
    | succ i =>
      simp only [List.getElem?_cons_succ] at h
      have := ih h
      cases x <;> simp <;> omega
section
variable {P : Program} {ops : Array Oper} {Q : Exit → Act → World → Prop} {md : Region.Mode}
theorem wpAny_inv {Inv : (Nat → Bool) → Act → World → Prop}
    (hed : ∀ (i : Nat) (o : Oper), ops[i]? = some o → ∀ e ∈ o.after.toList, e.on < i)
    (hstep : ∀ (d : Nat → Bool) (a : Act) (w : World) (i : Nat) (o : Oper), ops[i]? = some o → Inv d a w → d i = false → (∀ e ∈ o.after.toList, Region.binds md e = true → d e.on = true) → wpOp P ops Q i (Inv (fun j => if j = i then true else d j)) a w)
    (hend : ∀ a w, Inv (fun _ => true) a w → Q .normal a w) :
    ∀ (fuel : Nat) (l : Array Bool) (a : Act) (w : World), l.size = ops.size → l.toList.count false ≤ fuel → Inv (fun j => l.getD j true) a w → wpAny P md ops Q fuel l a w := by
  have hall : ∀ (l : Array Bool), l.size = ops.size → Region.ready md ops l = [] → ∀ j, l.getD j true = true := by
    intro l hl hr j
    induction j using Nat.strongRecOn with
    | ind j ih =>
    cases hj : l.getD j true with
    | true => rfl
    | false =>
      exfalso
      have hlt : j < l.size := by
        rcases Nat.lt_or_ge j l.size with h | h
        · exact h
        · rw [Array.getD_eq_getD_getElem?, Array.getElem?_eq_none h] at hj
          cases hj
      have ho : ops[j]? = some ops[j] := Array.getElem?_eq_getElem (by omega)
      have hm : j ∈ Region.ready md ops l := by
        unfold Region.ready
        rw [List.mem_filter]
        refine ⟨List.mem_range.2 (by omega), ?_⟩
        rw [hj, ho]
        simp only [Bool.not_false, Bool.true_and, Option.map_some, Option.getD_some]
        rw [Array.all_eq_true_iff_forall_mem]
        intro e he
        have h1 := hed j _ ho e (Array.mem_toList_iff.2 he)
        have h2 := ih e.on h1
        have h3 : l.getD e.on false = true := by
          rw [Array.getD_eq_getD_getElem?, Array.getElem?_eq_getElem (by omega)] at h2 ⊢
          exact h2
        rw [h3, Bool.or_true]
      rw [hr] at hm
      cases hm
  intro fuel
  induction fuel with
  | zero =>
    intro l a w hl hc hI
    have h0 : ∀ j, l.getD j true = true := by
      intro j
      cases hj : l.getD j true with
      | true => rfl
      | false =>
        exfalso
        have hlt : j < l.size := by
          rcases Nat.lt_or_ge j l.size with h | h
          · exact h
          · rw [Array.getD_eq_getD_getElem?, Array.getElem?_eq_none h] at hj
            cases hj
        have hm : false ∈ l.toList := by
          rw [Array.getD_eq_getD_getElem?, Array.getElem?_eq_getElem hlt, Option.getD_some] at hj
          rw [← hj]
          exact Array.getElem_mem_toList hlt
        have := List.count_pos_iff.2 hm
        omega
    have e : (fun j => l.getD j true) = fun _ => true := funext h0
    rw [e] at hI
    refine ⟨?_, hend a w hI⟩
    unfold Region.ready
    rw [List.filter_eq_nil_iff]
    intro i _
    rw [h0 i]
    simp
  | succ fuel ih =>
    intro l a w hl hc hI
    refine ⟨fun hr => ?_, fun i hi => ?_⟩
    · have e : (fun j => l.getD j true) = fun _ => true := funext (hall l hl hr)
      rw [e] at hI
      exact hend a w hI
    · unfold Region.ready at hi
      rw [List.mem_filter, List.mem_range] at hi
      obtain ⟨hlt, hb⟩ := hi
      have ho : ops[i]? = some ops[i] := Array.getElem?_eq_getElem hlt
      rw [ho] at hb
      simp only [Option.map_some, Option.getD_some, Bool.and_eq_true, Bool.not_eq_true'] at hb
      obtain ⟨hf, he⟩ := hb
      rw [Array.all_eq_true_iff_forall_mem] at he
      refine wpOp_mono ?_ (hstep _ a w i _ ho hI hf ?_)
      · intro a' w' h'
        refine ih _ a' w' (by simpa using hl) ?_ ?_
        · have h1 : l.toList[i]? = some false := by
            rw [Array.getD_eq_getD_getElem?, Array.getElem?_eq_getElem (by omega), Option.getD_some] at hf
            rw [Array.getElem?_toList, Array.getElem?_eq_getElem (by omega), hf]
          have h2 := count_set h1
          rw [Array.toList_setIfInBounds]
          omega
        · have e : (fun j => (l.setIfInBounds i true).getD j true) = fun j => if j = i then true else l.getD j true := by
            funext j
            rw [Array.getD_eq_getD_getElem?, Array.getD_eq_getD_getElem?, Array.getElem?_setIfInBounds]
            by_cases hji : i = j
            · subst hji
              rw [if_pos rfl, if_pos rfl, if_pos (by omega)]
              rfl
            · rw [if_neg hji, if_neg (fun h => hji h.symm)]
          rw [e]
          exact h'
      · intro e hem hbd
        have h1 := he e (Array.mem_toList_iff.1 hem)
        rw [hbd] at h1
        simp only [Bool.not_true, Bool.false_or] at h1
        have h2 := hed i _ ho e hem
        rw [Array.getD_eq_getD_getElem?, Array.getElem?_eq_getElem (by omega)] at h1 ⊢
        exact h1
theorem wp_region_inv {id : Nat} {a : Act} {w : World} {Inv : (Nat → Bool) → Act → World → Prop} (hm : P.follows .mixedOrders = true)
    (hed : ∀ (i : Nat) (o : Oper), ops[i]? = some o → ∀ e ∈ o.after.toList, e.on < i)
    (h0 : Inv (fun j => decide (ops.size ≤ j)) a w.drew)
    (hstep : ∀ (d : Nat → Bool) (a : Act) (w : World) (i : Nat) (o : Oper), ops[i]? = some o → Inv d a w → d i = false → (∀ e ∈ o.after.toList, Region.binds .any e = true → d e.on = true) → wpOp P ops Q i (Inv (fun j => if j = i then true else d j)) a w)
    (hend : ∀ a w, Inv (fun _ => true) a w → Q .normal a w) : (Code.region id ops true).wp P Q a w := by
  refine wp_region_any hm (wpAny_inv hed hstep hend ops.size _ a _ (by simp) ?_ ?_)
  · simp
  · have e : (fun j => (Array.replicate ops.size false).getD j true) = fun j => decide (ops.size ≤ j) := by
      funext j
      rw [Array.getD_eq_getD_getElem?, Array.getElem?_replicate]
      by_cases h : j < ops.size
      · rw [if_pos h, decide_eq_false (by omega)]; rfl
      · rw [if_neg h, decide_eq_true (by omega)]; rfl
    rw [e]
    exact h0
end
end Go.Proofs.YtmopffaocamieaaGreat
