/-
  ShaSums' walk.
-/
import Derived.Test.YtnfiecafkapgmaaXsm
import Derived.Test.YtnfiecafkapgmaaBck
namespace Go.Proofs.Ytnfiecafkapgmaa
open Go.RowKit

/-- The bytes, so many times. -/
def rep (l : List UInt8) : Nat → List UInt8
  | 0 => []
  | k + 1 => rep l k ++ l
theorem rep_len (l : List UInt8) (k : Nat) : (rep l k).length = k * l.length := by
  induction k with
  | zero => simp [rep]
  | succ k ih => rw [rep, List.length_append, ih, Nat.succ_mul]

/-- What came in: a slice of bytes, of whatever shape. -/
structure By (w : World) (v : Value) (l : List UInt8) : Prop where
  shape : (∃ cap, v = .slice none 0 cap ∧ l = []) ∨ ∃ ad cap, v = .slice (some ad) l.length cap ∧ ∀ j u, (bys l)[j]? = some u → w.cell? (ad.add j) = some u
theorem By.below {w w' : World} {v : Value} {l : List UInt8} (h : By w v l) (hb : Below w.heap.size w w') : By w' v l := by
  refine ⟨?_⟩
  rcases h.shape with h | ⟨ad, cap, rfl, hc⟩
  · exact .inl h
  · refine .inr ⟨ad, cap, rfl, fun j u hj => ?_⟩
    rw [hb.cell (World.block_lt_of_cell? w _ (hc j u hj))]
    exact hc j u hj

/-- An append of what came in, onto a slice of one's own. -/
theorem app_by {ops : Array Oper} {rest : List Oper} {o : Oper} {a : Act} {Q : Exit → Act → World → Prop} {w : World} {B : Nat} {v vb : Value} {l nw : List UInt8} (hgd : o.guard = none) (s x : Operand)
    (ho : o.op = .call { callee := .builtin .append, args := #[s, x], argTypes := #[22, 22] }) (hs : a.eval s = v) (hown : w.ownsRow B 5 1 v l.length (bys l)) (hB : B ≤ w.heap.size)
    (hx : a.eval x = vb) (hBy : By w vb nw) (hl : l.length + nw.length ≤ 100000000000000)
    (h : ∀ v' w', w'.ownsRow B 5 1 v' (l ++ nw).length (bys (l ++ nw)) → Below B w w' → wpList Try.prog ops Q rest (a.put o.dst v') w') :
    wpList Try.prog ops Q (o :: rest) a w := by
  obtain ⟨i0, hi, hz0, hz1, hz2⟩ := info_parts Try.info5
  rcases hBy.shape with ⟨cap, hv, rfl⟩ | ⟨ad, cap, hv, hc⟩
  · refine wpList_plain hgd fun K hK => ?_
    have hr : (Builtin.append_ #[22, 22] o.type #[v, .slice none 0 cap]).run Try.prog w = .ok v w := by
      rcases hown.2 with ⟨rfl, h0⟩ | ⟨g, cp, cur, rfl, _, _, hle, _⟩
      · simp [Builtin.append_, run_underlying Try.underlying22, sizeOf, typeInfo, hi, Builtin.lenOf, Builtin.firstCells]
      · simp [Builtin.append_, run_underlying Try.underlying22, sizeOf, typeInfo, hi, storeCells, Builtin.lenOf, Builtin.firstCells, hle]
    unfold Oper.wp execOp
    simp only [ho, resolve, invoke, builtin, Sem.run_bind, Sem.run_pure, Result.andThen_ok, List.map_toArray, List.map_cons, List.map_nil, hs, hx, hv, hr]
    exact hK _ _ (h v w (by rw [List.append_nil]; exact hown) (Below.refl _ _))
  · refine wpList_append_own_at w hgd s x 22 ho B 5 i0 (.int .u8 0) 1 1 Try.underlying22 hi hz0 hz1 hz2 rfl (by decide) _ _ _ hs hown ad nw.length cap (bys nw) (hx.trans hv) (by simp [bys_len]) hc (bys_one nw) (by unfold maxLen; omega) (by omega) hB ?_
    intro v' w' hown' hgrow _ _
    refine h v' w' ?_ (below_grown hgrow hB (fun k e => (hown.lt k e).1))
    rw [bys_app, List.length_append]; exact hown'

theorem i64_wrap_of {x : Int} (h0 : 0 ≤ x) (h1 : x ≤ 1000000) : IntKind.i64.wrap x = x := by
  simp [IntKind.wrap, IntKind.bits, IntKind.signed]; omega
theorem and7 (n : Int) : ∃ k : Nat, k ≤ 7 ∧ bits .and .i64 n 7 = (k : Int) := by
  have hb : bits .and .i64 n 7 = IntKind.i64.wrap (((BitVec.ofInt 64 n) &&& (BitVec.ofInt 64 7)).toNat : Int) := rfl
  have h1 : (BitVec.ofInt 64 7).toNat = 7 := rfl
  rw [hb, BitVec.toNat_and, h1]
  generalize (BitVec.ofInt 64 n).toNat = A
  have hA : A &&& 7 ≤ 7 := Nat.and_le_right
  generalize A &&& 7 = k at *
  refine ⟨k, hA, ?_⟩
  rw [i64_wrap_of (by omega) (by omega)]

/-- Where the loop that lays the bytes one behind the other stands. -/
structure SmRel (w : World) (l : List UInt8) (i : Nat) (v : Value) (wr : World) : Prop where
  own : wr.ownsRow w.heap.size 5 1 v (rep l i).length (bys (rep l i))
  below : Below w.heap.size w wr

theorem own_some {w : World} {B n : Nat} {v : Value} {xs : List Value} (h : w.ownsRow B 5 1 v n xs) (h0 : 0 < n) : ∃ g cap, v = .slice (some ⟨g, 0, none⟩) n cap ∧ n ≤ cap := by
  rcases h.2 with ⟨_, h1⟩ | ⟨g, cap, cur, rfl, _, _, hle, _⟩
  · omega
  · exact ⟨g, cap, rfl, hle⟩
/-- The head of what a slice of one's own holds. -/
theorem own_head {w : World} {B g cap n : Nat} {L : List UInt8} (x : UInt8) (h : w.ownsRow B 5 1 (.slice (some ⟨g, 0, none⟩) n cap) n (bys (L ++ [x]))) (hn : n = L.length + 1) (hc : n ≤ cap) : Sl w (.slice (some ⟨g, 0, none⟩) L.length cap) L := by
  refine ⟨.inr ⟨g, 0, cap, rfl, by omega, fun i hi => ?_⟩⟩
  rw [Nat.zero_add, h.cellAt i (by omega), bys_get _ i (by simp; omega)]
  simp [List.getD, List.getElem?_append_left hi]
theorem own_last {w : World} {B g cap n : Nat} {L : List UInt8} (x : UInt8) (h : w.ownsRow B 5 1 (.slice (some ⟨g, 0, none⟩) n cap) n (bys (L ++ [x]))) (hn : n = L.length + 1) : w.cell? ⟨g, L.length, none⟩ = some (.int .u8 (x.toNat : Int)) := by
  rw [h.cellAt L.length (by omega), bys_get _ _ (by simp)]
  simp [List.getD]

attribute [local go_sem ↓] Go.wp_at_zero Go.wp_at_succ
set_option maxHeartbeats 4000000 in
set_option maxRecDepth 20000 in
theorem sums_walk (w : World) (v : Value) (l : List UInt8) (n : Int) (hBy : By w v l) (hl : l.length ≤ 9223372036854775807) :
    Calls Try.prog 3 #[v, .int .i64 n] w fun ev w' => ev = .returned (.bool true) ∧ Below w.heap.size w w' := by
  have T := told_any w
  obtain ⟨k, hk7, hk⟩ := and7 n
  have A : Aside (By w v l) := hBy
  obtain ⟨ao, cp, hv⟩ : ∃ ao cp, v = .slice ao l.length cp := by
    rcases hBy.shape with ⟨cap, rfl, rfl⟩ | ⟨ad, cap, rfl, _⟩
    · exact ⟨_, _, rfl⟩
    · exact ⟨_, _, rfl⟩
  subst hv
  clear hBy
  by_cases h1000 : 1000 < l.length
  · have hq : (1000 : Int) < (l.length : Int) := by omega
    go_enter Try.func3, Try.ntmps3
    go_wp2_with fail
    refine T.mono ?_
    rintro ev w1 ⟨rfl, hb1⟩
    go_wp2_with fail
    go_ret
    exact ⟨rfl, hb1⟩
  · have hq : ¬ (1000 : Int) < (l.length : Int) := by omega
    have hq' : (l.length : Int) ≤ 1000 := by omega
    clear T
    have hk1 : IntKind.i64.wrap (1 + (k : Int)) = 1 + (k : Int) := i64_wrap_of (by omega) (by omega)
    have HI : Hid (SmRel w l 0 (.slice none 0 0) w) := ⟨World.ownsRow_nil _ _ _ _, Below.refl _ _⟩
    go_enter Try.func3, Try.ntmps3
    go_wp2_with fail
    go_loopw [5, 6] (fun v i wr => ∃ m : Nat, m ≤ k + 1 ∧ i = .int .i64 m ∧ SmRel w l m v wr) (fun _ i _ => k + 1 - (intOf i).toNat)
    case atStart => exact ⟨0, by omega, rfl, HI.out⟩
    case round =>
      obtain ⟨m, hm, rfl, hF⟩ := hrel
      clear HI
      by_cases hm3 : m < k + 1
      · have hown := hF.own
        have hBy := A.out.below (w' := wr) (hF.below)
        have hsz := hF.below.size
        have hll : (rep l m).length + l.length ≤ 100000000000000 := by
          rw [rep_len]
          have : m * l.length ≤ 8 * 1000 := Nat.mul_le_mul (by omega) (by omega)
          omega
        have hlt : (m : Int) < 1 + (k : Int) := by omega
        have HB := hF.below
        clear hF
        go_wp2_with (at_builtin; refine app_by rfl _ _ rfl rfl hown hsz rfl hBy hll ?_; intro v2 w2 hown2 hb2)
        go_roundw
        case rel => exact ⟨m + 1, by omega, by go_num, ⟨hown2, HB.trans hb2⟩⟩
        case measure => simp [intOf]; omega
      · obtain rfl : m = k + 1 := by omega
        have hown := hF.own
        have HB := hF.below
        have hL : (rep l (k + 1)).length ≤ 8000 := by
          rw [rep_len]
          exact Nat.mul_le_mul (by omega : k + 1 ≤ 8) (by omega : l.length ≤ 1000)
        clear hF
        generalize rep l (k + 1) = L at *
        have hlt : ¬ ((k + 1 : Nat) : Int) < 1 + (k : Int) := by omega
        have hS : Aside (Sl wr _ L) := Sl.ofOwn hown
        obtain ⟨ao2, cp2, rfl⟩ := own_shape hown
        clear hown
        have hl2 : L.length ≤ 1000000000000 := by omega
        have hl3 : L.length + [(165 : UInt8)].length ≤ 100000000000000 := by simp; omega
        go_wp2_with (first | (at_builtin; refine append_by rfl _ _ rfl rfl rfl hS.out hl2 ?_; intro g gcap w1 hown1 hb1; have hsz1 : wr.heap.size ≤ (w1.alloc (.cells #[.int .u8 165] 5)).heap.size := (by have := hb1.size; simp; omega); have HB1 : Hid (Below wr.heap.size wr (w1.alloc (.cells #[.int .u8 165] 5))) := hb1.alloc hb1.size _; have hown1a : (w1.alloc (.cells #[.int .u8 165] 5)).ownsRow wr.heap.size 5 1 (.slice (some ⟨g, 0, none⟩) L.length gcap) L.length (bys L) := own_past hown1 ((Below.refl _ _).alloc (Nat.le_refl _) _); have hN1 := new_bytes w1 165; clear hown1 hb1) | (at_builtin; refine app_at (nw := [165]) rfl _ _ rfl rfl hown1a hsz1 w1.heap.size 1 rfl hN1 hl3 ?_; intro v3 w3 hown3 hb3 _; obtain ⟨g3, cp3, rfl, hcp3⟩ := own_some hown3 (by simp); have hS3 := own_head 165 hown3 (by simp) hcp3; have hC3 := own_last 165 hown3 (by simp); clear hown3 hown1a hN1; have hcq : L.length + 1 ≤ cp3 := (by simpa using hcp3); clear hcp3))
        have hb13 : Below wr.heap.size wr w3 := HB1.out.trans hb3
        have hS1 : Sl w3 (.slice ao2 L.length cp2) L := hS.out.below hb13
        have C1 := told_any w3
        have C2 : Hid (∀ y, Below w3.heap.size w3 y → Calls Try.prog 8 #[.slice (some ⟨g3, 0, none⟩) L.length cp3] y fun ev w' => ev = .returned (.agg (bys (sumF L)).toArray) ∧ Below y.heap.size y w') := fun y hy => sum_any y _ _ (hS3.below hy) (by omega)
        have C3 : Hid (∀ y, Below w3.heap.size w3 y → Calls Try.prog 9 #[.slice ao2 L.length cp2] y fun ev w' => ev = .returned (.agg (bys (sumF L)).toArray) ∧ Below y.heap.size y w') := fun y hy => xsum_any y _ _ (hS1.below hy) (by omega)
        have kq : ∀ w : World, (Op.equalIn 10000 25 (.agg (bys (sumF L)).toArray) (.agg (bys (sumF L)).toArray)).run Try.prog w = .ok true w := fun w => by rw [equ25 w _ _ (sumF_len _) (sumF_len _), beq_self_eq_true]
        have V1 : Hid (∀ y, Below w3.heap.size w3 y → (convert 22 9 (.slice (some ⟨g3, 0, none⟩) L.length cp3)).run Try.prog y = .ok (.string (str L)) y) := fun y hy => conv_sl y _ _ (hS3.below hy)
        have V2 : Hid (∀ y, Below w3.heap.size w3 y → (convert 22 9 (.slice ao2 L.length cp2)).run Try.prog y = .ok (.string (str L)) y) := fun y hy => conv_sl y _ _ (hS1.below hy)
        have V3 : Hid (∀ y, Below w3.heap.size w3 y → y.cell? ⟨g3, L.length, none⟩ = some (.int .u8 165)) := fun y hy => (hy.cell (p := ⟨g3, L.length, none⟩) (World.block_lt_of_cell? w3 _ hC3)).trans hC3
        have HW : Hid (Below w.heap.size w w3) := HB.trans (hb13.mono HB.size)
        have hwr : IntKind.i64.wrap ((L.length : Int) + 1) = (L.length : Int) + 1 := i64_wrap_of (by omega) (by omega)
        have hcq2 : (L.length : Int) + 1 ≤ (cp3 : Int) := by omega
        clear hS hS1 hS3 hC3 hb13 HB1 hb3 hsz1 HB hl3 A
        generalize (bys (sumF L)).toArray = Y at *
        generalize str L = S at *
        generalize L.length = N at *
        go_wp2_with fail
        refine C1.mono ?_
        rintro ev w4 ⟨rfl, hb4⟩
        clear C1
        go_wp2_with fail
        refine (C2.out w4 hb4).mono ?_
        rintro ev w5 ⟨rfl, hb5⟩
        have hb35 := hb4.trans (hb5.mono hb4.size)
        clear C2
        go_wp2_with fail
        refine (C3.out w5 hb35).mono ?_
        rintro ev w6 ⟨rfl, hb6⟩
        have hb36 := hb35.trans (hb6.mono hb35.size)
        have v1 := V1.out w6 hb36
        have v2 := V2.out w6 hb36
        have v3 := V3.out w6 hb36
        clear C3 V1 V2 V3
        go_wp2_with fail
        go_ret
        exact ⟨by rfl, HW.out.trans (hb36.mono HW.out.size)⟩
end Go.Proofs.Ytnfiecafkapgmaa
