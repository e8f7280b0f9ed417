/-
  The texts Lsm, Txa, Txb, joined.
-/
import Derived.Test.YtfkibbpekngciaaQPrStr
import Derived.Test.YtfkibbpekngciaaQPrMat
import Derived.Deep.RegionHeld3
/- A list of bytes in memory, and its parts. -/
namespace Go.Proofs.Ytfkibbpekngciaa
open Go.RowKit

/-- The slice v holds slices that hold these bytes. -/
structure Ls (w : World) (v : Value) (L : List Bys) : Prop where
  shape : (∃ ao cap, v = .slice ao 0 cap ∧ L = []) ∨ ∃ b off cap, ∃ fv : Nat → Value, v = .slice (some ⟨b, off, none⟩) L.length cap ∧ L.length ≤ cap ∧ ∀ i, i < L.length → w.cell? ⟨b, off + i, none⟩ = some (fv i) ∧ Sl w (fv i) (L.getD i [])
theorem Ls.below {w w' : World} {v : Value} {L : List Bys} (h : Ls w v L) (hb : Below w.heap.size w w') : Ls w' v L := by
  refine ⟨?_⟩
  rcases h.shape with h | ⟨b, off, cap, fv, rfl, hcap, hc⟩
  · exact .inl h
  · refine .inr ⟨b, off, cap, fv, rfl, hcap, fun i hi => ⟨?_, (hc i hi).2.below hb⟩⟩
    rw [hb.cell (p := ⟨b, off + i, none⟩) (World.block_lt_of_cell? w _ (hc i hi).1)]
    exact (hc i hi).1
theorem Ls.slice {w : World} {v : Value} {L : List Bys} (h : Ls w v L) : ∃ ao cp, v = .slice ao L.length cp := by
  rcases h.shape with ⟨_, _, rfl, rfl⟩ | ⟨b, off, cap, fv, rfl, _⟩
  · exact ⟨_, _, rfl⟩
  · exact ⟨_, _, rfl⟩
theorem Ls.some_ {w : World} {v : Value} {L : List Bys} (h : Ls w v L) (h0 : 0 < L.length) : ∃ b off cap, ∃ fv : Nat → Value, v = .slice (some ⟨b, off, none⟩) L.length cap ∧ L.length ≤ cap ∧ ∀ i, i < L.length → w.cell? ⟨b, off + i, none⟩ = some (fv i) ∧ Sl w (fv i) (L.getD i []) := by
  rcases h.shape with ⟨_, _, rfl, rfl⟩ | h
  · simp at h0
  · exact h
theorem Ls.part {w : World} {b off cap : Nat} {L : List Bys} (h : Ls w (.slice (some ⟨b, off, none⟩) L.length cap) L) (i j : Nat) (hij : i < j) (hj : j ≤ L.length) (cap' : Nat) (hc' : j - i ≤ cap') : Ls w (.slice (some ⟨b, off + i, none⟩) (j - i) cap') (seg L i j) := by
  have hl := seg_len L i j hj
  obtain ⟨b', off', cap2, fv, e, _, hc⟩ := h.some_ (by omega)
  cases e
  refine ⟨.inr ⟨b, off + i, cap', fun k => fv (i + k), by rw [hl], by omega, fun k hk => ?_⟩⟩
  have := hc (i + k) (by omega)
  rw [seg_get L i j k (by omega), Nat.add_assoc]
  exact this
theorem seg_head {α : Type} (l : List α) (k : Nat) : seg l 0 k = l.take k := by simp [seg]
theorem seg_tail {α : Type} (l : List α) (k : Nat) : seg l k l.length = l.drop k := by
  unfold seg
  exact List.take_of_length_le (by simp)
end Go.Proofs.Ytfkibbpekngciaa

/- What leaves are made of. -/
namespace Go.Proofs.Ytfkibbpekngciaa
open Go.RowKit

/-- An append of what came in, onto a slice of one's own. -/
theorem app_sl {ops : Array Oper} {rest : List Oper} {o : Oper} {a : Act} {Q : Exit → Act → World → Prop} {w : World} {B : Nat} {v vb : Value} {l nw : List UInt8} (hgd : o.guard = none) (s x : Operand)
    (ho : o.op = .call { callee := .builtin .append, args := #[s, x], argTypes := #[39, 39] }) (hs : a.eval s = v) (hown : w.ownsRow B 5 1 v l.length (bys l)) (hB : B ≤ w.heap.size)
    (hx : a.eval x = vb) (hBy : Sl w vb nw) (hl : l.length + nw.length ≤ 100000000000000)
    (h : ∀ v' w', w'.ownsRow B 5 1 v' (l ++ nw).length (bys (l ++ nw)) → Below B w w' → w.grownBy w' v.ownBlock → wpList Try.prog ops Q rest (a.put o.dst v') w') :
    wpList Try.prog ops Q (o :: rest) a w := by
  obtain ⟨i0, hi, hz0, hz1, hz2⟩ := info_parts Try.info5
  have key : ∀ (ad : Addr) (c : Nat), vb = .slice (some ad) nw.length c → (∀ j u, (bys nw)[j]? = some u → w.cell? (ad.add j) = some u) → wpList Try.prog ops Q (o :: rest) a w := by
    intro ad c hv hc
    refine wpList_append_own_at w hgd s x 39 ho B 5 i0 (.int .u8 0) 1 1 Try.underlying39 hi hz0 hz1 hz2 rfl (by decide) _ _ _ hs hown ad nw.length c (bys nw) (hx.trans hv) (by simp [bys_len]) hc (bys_one nw) (by unfold maxLen; omega) (by omega) hB ?_
    intro v' w' hown' hgrow _ _
    refine h v' w' ?_ (below_grown hgrow hB (fun k e => (hown.lt k e).1)) hgrow
    rw [bys_app, List.length_append]; exact hown'
  rcases hBy.shape with ⟨_ | ad, hv, rfl⟩ | ⟨b, of, cap, hv, _, hc⟩
  · refine wpList_plain hgd fun K hK => ?_
    have hr : (Builtin.append_ #[39, 39] o.type #[v, .slice none 0 0]).run Try.prog w = .ok v w := by
      rcases hown.2 with ⟨rfl, h0⟩ | ⟨g, cp, cur, rfl, _, _, hle, _⟩
      · simp [Builtin.append_, run_underlying Try.underlying39, sizeOf, typeInfo, hi, Builtin.lenOf, Builtin.firstCells]
      · simp [Builtin.append_, run_underlying Try.underlying39, sizeOf, typeInfo, hi, storeCells, Builtin.lenOf, Builtin.firstCells, hle]
    unfold Oper.wp execOp
    simp only [ho, resolve, invoke, builtin, Sem.run_bind, Sem.run_pure, Result.andThen_ok, List.map_toArray, List.map_cons, List.map_nil, hs, hx, hv, hr]
    exact hK _ _ (h v w (by rw [List.append_nil]; exact hown) (Below.refl _ _) (grown_below (Below.refl _ _) _))
  · exact key ad 0 hv (fun j u hj => by simp [bys] at hj)
  · refine key ⟨b, of, none⟩ cap hv (fun j u hj => ?_)
    have hlt : j < nw.length := by
      rcases Nat.lt_or_ge j nw.length with h | h
      · exact h
      · rw [List.getElem?_eq_none (by rw [bys_len]; exact h)] at hj; cases hj
    rw [addr_add, hc j hlt, ← bys_get nw j hlt]
    exact hj
/-- A new slice of bytes. -/
theorem own_new (w : World) (l : List UInt8) (h : l.length ≤ 1000000) : (w.alloc (.cells (bys l).toArray 5)).ownsRow w.heap.size 5 1 (.slice (some ⟨w.heap.size, 0, none⟩) l.length l.length) l.length (bys l) :=
  ⟨by rw [bys_len]; omega, .inr ⟨w.heap.size, l.length, (bys l).toArray, rfl, Nat.le_refl _, heap_alloc_new w _, Nat.le_refl _, by unfold maxLen; omega, by simp [bys_len], by rw [Nat.mul_one, ← bys_len]; simp⟩⟩
theorem own_one (w : World) (x : UInt8) : (w.alloc (.cells #[.int .u8 (x.toNat : Int)] 5)).ownsRow w.heap.size 5 1 (.slice (some ⟨w.heap.size, 0, none⟩) 1 1) [x].length (bys [x]) := own_new w [x] (by simp)

set_option maxHeartbeats 1000000 in
theorem leafText_any (w : World) (v : Value) (l : List UInt8) (h : Sl w v l) (hl : l.length ≤ 1000000) :
    Calls Try.prog 36 #[v] w fun ev w' => ∃ v', ev = .returned v' ∧ w'.ownsRow w.heap.size 5 1 v' (0 :: l).length (bys (0 :: l)) ∧ Below w.heap.size w w' := by
  have HA : Hid (Below w.heap.size w (w.alloc (.cells #[.int .u8 0] 5))) := (Below.refl _ _).alloc (Nat.le_refl _) _
  have HO := own_one w 0
  have HS := h.below HA.out
  have hB := HA.out.size
  clear h
  go_enter Try.func36, Try.ntmps36
  go_wp2_with (at_builtin; refine app_sl rfl _ _ rfl rfl HO hB rfl HS (by simp; omega) ?_; intro v2 w2 hown2 hb2 _)
  go_ret
  exact ⟨v2, rfl, hown2, HA.out.trans hb2⟩
set_option maxHeartbeats 1000000 in
theorem xleaf_any (w : World) (v : Value) (l : List UInt8) (h : Sl w v l) (hl : l.length ≤ 1000000) :
    Calls Try.prog 42 #[v] w fun ev w' => ∃ v', ev = .returned v' ∧ w'.ownsRow w.heap.size 5 1 v' (0 :: l).length (bys (0 :: l)) ∧ Below w.heap.size w w' := by
  have HA : Hid (Below w.heap.size w (w.alloc (.cells #[.int .u8 0] 5))) := (Below.refl _ _).alloc (Nat.le_refl _) _
  have HO := own_one w 0
  have HS := h.below HA.out
  have hB := HA.out.size
  clear h
  go_enter Try.func42, Try.ntmps42
  go_wp2_with (at_builtin; refine app_sl rfl _ _ rfl rfl HO hB rfl HS (by simp; omega) ?_; intro v2 w2 hown2 hb2 _)
  go_ret
  exact ⟨v2, rfl, hown2, HA.out.trans hb2⟩
end Go.Proofs.Ytfkibbpekngciaa

/- What nodes are made of. -/
namespace Go.Proofs.Ytfkibbpekngciaa
open Go.RowKit

def hv (h : List UInt8) : Value := .agg (bys h).toArray
/-- An append of what came in onto a slice of one's own, at the operation itself. -/
theorem wpo_app_sl {o : Oper} {a : Act} {K : Act → World → Prop} {Q : Exit → Act → World → Prop} {w : World} {B : Nat} {v vb : Value} {l nw : List UInt8} (s x : Operand)
    (ho : o.op = .call { callee := .builtin .append, args := #[s, x], argTypes := #[39, 39] }) (hs : a.eval s = v) (hown : w.ownsRow B 5 1 v l.length (bys l)) (hB : B ≤ w.heap.size)
    (hx : a.eval x = vb) (hBy : Sl w vb nw) (hl : l.length + nw.length ≤ 100000000000000)
    (h : ∀ v' w', w'.ownsRow B 5 1 v' (l ++ nw).length (bys (l ++ nw)) → Below B w w' → w.grownBy w' v.ownBlock → K (a.put o.dst v') w') :
    Oper.wp Try.prog o a w K Q := by
  obtain ⟨i0, hi, hz0, hz1, hz2⟩ := info_parts Try.info5
  have key : ∀ (ad : Addr) (c : Nat), vb = .slice (some ad) nw.length c → (∀ j u, (bys nw)[j]? = some u → w.cell? (ad.add j) = some u) → Oper.wp Try.prog o a w K Q := by
    intro ad c hv hc
    obtain ⟨v', w', hr, h2, h3, h4, h5⟩ := run_append_own_at (P := Try.prog) w B 39 o.type 5 i0 (.int .u8 0) 1 1 Try.underlying39 hi hz0 hz1 hz2 rfl (by decide) _ _ _ hown ad nw.length c (bys nw) (by simp [bys_len]) hc (bys_one nw) (by unfold maxLen; omega) (by omega) hB
    unfold Oper.wp execOp
    simp only [ho, resolve, invoke, builtin, Sem.run_bind, Sem.run_pure, Result.andThen_ok, List.map_toArray, List.map_cons, List.map_nil, hs, hx, hv, hr]
    refine h v' w' ?_ (below_grown h3 hB (fun k e => (hown.lt k e).1)) h3
    rw [bys_app, List.length_append]; exact h2
  rcases hBy.shape with ⟨_ | ad, hv, rfl⟩ | ⟨b, of, cap, hv, _, hc⟩
  · have hr : (Builtin.append_ #[39, 39] o.type #[v, .slice none 0 0]).run Try.prog w = .ok v w := by
      rcases hown.2 with ⟨rfl, h0⟩ | ⟨g, cp, cur, rfl, _, _, hle, _⟩
      · simp [Builtin.append_, run_underlying Try.underlying39, sizeOf, typeInfo, hi, Builtin.lenOf, Builtin.firstCells]
      · simp [Builtin.append_, run_underlying Try.underlying39, sizeOf, typeInfo, hi, storeCells, Builtin.lenOf, Builtin.firstCells, hle]
    unfold Oper.wp execOp
    simp only [ho, resolve, invoke, builtin, Sem.run_bind, Sem.run_pure, Result.andThen_ok, List.map_toArray, List.map_cons, List.map_nil, hs, hx, hv, hr]
    exact h v w (by rw [List.append_nil]; exact hown) (Below.refl _ _) (grown_below (Below.refl _ _) _)
  · exact key ad 0 hv (fun j u hj => by simp [bys] at hj)
  · refine key ⟨b, of, none⟩ cap hv (fun j u hj => ?_)
    have hlt : j < nw.length := by
      rcases Nat.lt_or_ge j nw.length with h | h
      · exact h
      · rw [List.getElem?_eq_none (by rw [bys_len]; exact h)] at hj; cases hj
    rw [addr_add, hc j hlt, ← bys_get nw j hlt]
    exact hj
theorem step_app_sl {ops : Array Oper} {o : Oper} {a : Act} {K : Act → World → Prop} {Q : Exit → Act → World → Prop} {E : Prop} {w : World} {B : Nat} {v vb : Value} {l nw : List UInt8} (hgd : o.guard = none) (s x : Operand)
    (ho : o.op = .call { callee := .builtin .append, args := #[s, x], argTypes := #[39, 39] }) (hs : a.eval s = v) (hown : w.ownsRow B 5 1 v l.length (bys l)) (hB : B ≤ w.heap.size)
    (hx : a.eval x = vb) (hBy : Sl w vb nw) (hl : l.length + nw.length ≤ 100000000000000)
    (h : ∀ v' w', w'.ownsRow B 5 1 v' (l ++ nw).length (bys (l ++ nw)) → Below B w w' → w.grownBy w' v.ownBlock → K (a.put o.dst v') w') :
    if Region.wanted o (yielded ops a.tmps) = true then Oper.wp Try.prog o a w K Q else E := by
  rw [if_pos (by simp [Region.wanted, hgd])]
  exact wpo_app_sl s x ho hs hown hB hx hBy hl h
/-- A boxed sum as a slice. -/
theorem Row.sl {w : World} {g t : Nat} {h : List UInt8} (r : Row w g t (bys h)) : Sl w (.slice (some ⟨g, 0, none⟩) h.length h.length) h :=
  ⟨.inr ⟨g, 0, h.length, rfl, Nat.le_refl _, fun i hi => by rw [Nat.zero_add, r.cell i, bys_get h i hi]⟩⟩
theorem Sl.grown {w w' : World} {v u : Value} {l : List UInt8} (h : Sl w v l) (hg : w.grownBy w' u.ownBlock) (hne : ∀ b, v.ownBlock = some b → u.ownBlock ≠ some b) : Sl w' v l := by
  refine ⟨?_⟩
  rcases h.shape with h | ⟨b, o, cap, rfl, hcap, hc⟩
  · exact .inl h
  · refine .inr ⟨b, o, cap, rfl, hcap, fun i hi => ?_⟩
    have hk := hg.block b (World.block_lt_of_cell? w _ (hc i hi)) (fun e => hne b rfl e.symm)
    have := hc i hi
    unfold World.cell? at *; rw [hk]; exact this

theorem wp_at_world {P : Program} {c : Code} {Q : Exit → Act → World → Prop} {a : Act} {w w' : World} (e : w = w') (h : Code.wp P c Q a w) : Code.wp P c Q a w' := e ▸ h

set_option maxHeartbeats 4000000 in
theorem nodeText_any (w : World) (a b : List UInt8) (ha : a.length = 32) (hb : b.length = 32) :
    Calls Try.prog 53 #[hv a, hv b] w fun ev w' => ∃ v', ev = .returned v' ∧ w'.ownsRow w.heap.size 5 1 v' (1 :: (a ++ b)).length (bys (1 :: (a ++ b))) ∧ Below w.heap.size w w' := by
  obtain ⟨W, hW⟩ : ∃ W, W = (w.alloc (.cells (bys a).toArray 26)).alloc (.cells (bys b).toArray 26) := ⟨_, rfl⟩
  have HB0 : Hid (Below w.heap.size w W.drew) := by rw [hW]; exact (((Below.refl _ _).alloc (Nat.le_refl _) _).alloc (by simp) _).drew
  have R1 : Row W.drew w.heap.size 26 (bys a) := by rw [hW]; exact ((Row.new w 26 _).below ((Below.refl _ _).alloc (Nat.le_refl _) _) (by simp)).drew
  have R2 : Row W.drew (w.heap.size + 1) 26 (bys b) := by
    have := Row.new (w.alloc (.cells (bys a).toArray 26)) 26 (bys b)
    rw [hW]; exact (by simpa using this : Row _ _ _ _).drew
  have hsz : W.heap.size = w.heap.size + 2 := by rw [hW]; simp
  have hA : Below W.drew.heap.size W.drew (W.drew.alloc (.cells #[.int .u8 1] 5)) := (Below.refl _ _).alloc (Nat.le_refl _) _
  have HO := own_one W.drew 1
  have S1 := (R1.below hA R1.lt).sl
  have S2 := (R2.below hA R2.lt).sl
  have hB : w.heap.size ≤ (W.drew.alloc (.cells #[.int .u8 1] 5)).heap.size := by simp; omega
  rw [ha] at S1
  rw [hb] at S2
  have HO2 := own_lower HO (B' := w.heap.size) (by show w.heap.size ≤ W.heap.size; omega)
  have HH : Hid (∀ w', (W.drew.alloc (.cells #[.int .u8 1] 5)).grownBy w' (some W.heap.size) → Sl w' (.slice (some ⟨w.heap.size + 1, 0, none⟩) 32 32) b) := fun w' hg => by
    refine S2.grown (u := .slice (some ⟨W.heap.size, 0, none⟩) 1 1) hg (fun k e => ?_)
    have : w.heap.size + 1 = k := Option.some.inj e
    intro e2
    have : W.heap.size = k := Option.some.inj e2
    omega
  have HB2 : Hid (Below w.heap.size w (W.drew.alloc (.cells #[.int .u8 1] 5))) := HB0.out.trans (hA.mono HB0.out.size)
  clear hA R1 R2 HO S2 hsz
  unfold hv
  have HL : Hid (a.length = 32 ∧ b.length = 32) := ⟨ha, hb⟩
  have AW : Aside (W = (w.alloc (.cells (bys a).toArray 26)).alloc (.cells (bys b).toArray 26)) := hW
  clear hW
  generalize (bys a).toArray = Y1 at *
  generalize (bys b).toArray = Y2 at *
  go_enter Try.func53, Try.ntmps53
  go_wp2_with fail
  refine wp_at_world AW.out ?_
  go_region_held3 (fun _ => True) (trivial) (first | (refine step_app_sl (by rfl) _ _ (by rfl) (by rfl) HO2 hB (by rfl) S1 (by simp; omega) ?_; intro v2 w2 hown2 hb2 hg2; have S3 := HH.out w2 hg2; have hB3 := Nat.le_trans HB2.out.size hb2.size) | (refine step_app_sl (by rfl) _ _ (by rfl) (by rfl) hown2 hB3 (by rfl) S3 (by simp; omega) ?_; intro v3 w3 hown3 hb3 hg3))
  go_wp2_with fail
  go_ret
  refine ⟨v3, rfl, ?_, (HB2.out.trans hb2).trans hb3⟩
  have e : (1 : UInt8) :: (a ++ b) = [1] ++ a ++ b := rfl
  rw [e]; exact hown3
end Go.Proofs.Ytfkibbpekngciaa
