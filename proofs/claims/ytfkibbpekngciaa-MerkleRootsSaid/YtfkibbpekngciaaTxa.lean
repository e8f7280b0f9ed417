/-
  What leaves are made of.
-/
import Derived.Test.YtfkibbpekngciaaStr
import Derived.Test.YtfkibbpekngciaaMat
namespace Go.Proofs.Ytfkibbpekngciaa
open Go.RowKit

/-- An append of what came in, onto a slice of one's own. -/
theorem app_sl {ops : Array Oper} {rest : List Oper} {o : Oper} {a : Act} {Q : Exit → Act → World → Prop} {w : World} {B : Nat} {v vb : Value} {l nw : List UInt8} (hgd : o.guard = none) (s x : Operand)
    (ho : o.op = .call { callee := .builtin .append, args := #[s, x], argTypes := #[39, 39] }) (hs : a.eval s = v) (hown : w.ownsRow B 5 1 v l.length (bys l)) (hB : B ≤ w.heap.size)
    (hx : a.eval x = vb) (hBy : Sl w vb nw) (hl : l.length + nw.length ≤ 100000000000000)
    (h : ∀ v' w', w'.ownsRow B 5 1 v' (l ++ nw).length (bys (l ++ nw)) → Below B w w' → w.grownBy w' v.ownBlock → wpList Try.prog ops Q rest (a.put o.dst v') w') :
    wpList Try.prog ops Q (o :: rest) a w := by
  obtain ⟨i0, hi, hz0, hz1, hz2⟩ := info_parts Try.info5
  have key : ∀ (ad : Addr) (c : Nat), vb = .slice (some ad) nw.length c → (∀ j u, (bys nw)[j]? = some u → w.cell? (ad.add j) = some u) → wpList Try.prog ops Q (o :: rest) a w := by
    intro ad c hv hc
    refine wpList_append_own_at w hgd s x 39 ho B 5 i0 (.int .u8 0) 1 1 Try.underlying39 hi hz0 hz1 hz2 rfl (by decide) _ _ _ hs hown ad nw.length c (bys nw) (hx.trans hv) (by simp [bys_len]) hc (bys_one nw) (by unfold maxLen; omega) (by omega) hB ?_
    intro v' w' hown' hgrow _ _
    refine h v' w' ?_ (below_grown hgrow hB (fun k e => (hown.lt k e).1)) hgrow
    rw [bys_app, List.length_append]; exact hown'
  rcases hBy.shape with ⟨_ | ad, hv, rfl⟩ | ⟨b, of, cap, hv, _, hc⟩
  · refine wpList_plain hgd fun K hK => ?_
    have hr : (Builtin.append_ #[39, 39] o.type #[v, .slice none 0 0]).run Try.prog w = .ok v w := by
      rcases hown.2 with ⟨rfl, h0⟩ | ⟨g, cp, cur, rfl, _, _, hle, _⟩
      · simp [Builtin.append_, run_underlying Try.underlying39, sizeOf, typeInfo, hi, Builtin.lenOf, Builtin.firstCells]
      · simp [Builtin.append_, run_underlying Try.underlying39, sizeOf, typeInfo, hi, storeCells, Builtin.lenOf, Builtin.firstCells, hle]
    unfold Oper.wp execOp
    simp only [ho, resolve, invoke, builtin, Sem.run_bind, Sem.run_pure, Result.andThen_ok, List.map_toArray, List.map_cons, List.map_nil, hs, hx, hv, hr]
    exact hK _ _ (h v w (by rw [List.append_nil]; exact hown) (Below.refl _ _) (grown_below (Below.refl _ _) _))
  · exact key ad 0 hv (fun j u hj => by simp [bys] at hj)
  · refine key ⟨b, of, none⟩ cap hv (fun j u hj => ?_)
    have hlt : j < nw.length := by
      rcases Nat.lt_or_ge j nw.length with h | h
      · exact h
      · rw [List.getElem?_eq_none (by rw [bys_len]; exact h)] at hj; cases hj
    rw [addr_add, hc j hlt, ← bys_get nw j hlt]
    exact hj
/-- A new slice of bytes. -/
theorem own_new (w : World) (l : List UInt8) (h : l.length ≤ 1000000) : (w.alloc (.cells (bys l).toArray 5)).ownsRow w.heap.size 5 1 (.slice (some ⟨w.heap.size, 0, none⟩) l.length l.length) l.length (bys l) :=
  ⟨by rw [bys_len]; omega, .inr ⟨w.heap.size, l.length, (bys l).toArray, rfl, Nat.le_refl _, heap_alloc_new w _, Nat.le_refl _, by unfold maxLen; omega, by simp [bys_len], by rw [Nat.mul_one, ← bys_len]; simp⟩⟩
theorem own_one (w : World) (x : UInt8) : (w.alloc (.cells #[.int .u8 (x.toNat : Int)] 5)).ownsRow w.heap.size 5 1 (.slice (some ⟨w.heap.size, 0, none⟩) 1 1) [x].length (bys [x]) := own_new w [x] (by simp)

set_option maxHeartbeats 1000000 in
theorem leafText_any (w : World) (v : Value) (l : List UInt8) (h : Sl w v l) (hl : l.length ≤ 1000000) :
    Calls Try.prog 36 #[v] w fun ev w' => ∃ v', ev = .returned v' ∧ w'.ownsRow w.heap.size 5 1 v' (0 :: l).length (bys (0 :: l)) ∧ Below w.heap.size w w' := by
  have HA : Hid (Below w.heap.size w (w.alloc (.cells #[.int .u8 0] 5))) := (Below.refl _ _).alloc (Nat.le_refl _) _
  have HO := own_one w 0
  have HS := h.below HA.out
  have hB := HA.out.size
  clear h
  go_enter Try.func36, Try.ntmps36
  go_wp2_with (at_builtin; refine app_sl rfl _ _ rfl rfl HO hB rfl HS (by simp; omega) ?_; intro v2 w2 hown2 hb2 _)
  go_ret
  exact ⟨v2, rfl, hown2, HA.out.trans hb2⟩
set_option maxHeartbeats 1000000 in
theorem xleaf_any (w : World) (v : Value) (l : List UInt8) (h : Sl w v l) (hl : l.length ≤ 1000000) :
    Calls Try.prog 42 #[v] w fun ev w' => ∃ v', ev = .returned v' ∧ w'.ownsRow w.heap.size 5 1 v' (0 :: l).length (bys (0 :: l)) ∧ Below w.heap.size w w' := by
  have HA : Hid (Below w.heap.size w (w.alloc (.cells #[.int .u8 0] 5))) := (Below.refl _ _).alloc (Nat.le_refl _) _
  have HO := own_one w 0
  have HS := h.below HA.out
  have hB := HA.out.size
  clear h
  go_enter Try.func42, Try.ntmps42
  go_wp2_with (at_builtin; refine app_sl rfl _ _ rfl rfl HO hB rfl HS (by simp; omega) ?_; intro v2 w2 hown2 hb2 _)
  go_ret
  exact ⟨v2, rfl, hown2, HA.out.trans hb2⟩
end Go.Proofs.Ytfkibbpekngciaa
