/-
  The texts Opl, Prm, joined.
-/
import Derived.Test.YtfkibbpekngciaaJoinXmd5xPr
import Derived.Test.YtfkibbpekngciaaJoinLsm3xPr
import Derived.ChangeSlices
import Derived.Test.YtfkibbpekngciaaJoinTcl2xPr
/- A list of bytes, as it comes in. -/
namespace Go.Proofs.Ytfkibbpekngciaa
open Go.ChangeShapes Go.WideShapes Go.ChangeAt Go.RowKit

theorem Try.cells39 : Try.prog.cellsOf 39 = 1 := by kernel_rfl
/-- The slice v holds n slices, which hold f 0, f 1 and so on. -/
structure Lf (w : World) (v : Value) (n : Nat) (f : Nat → List UInt8) (fv : Nat → Value) : Prop where
  max : n ≤ 9223372036854775807
  shape : (∃ ao cap, v = .slice ao n cap ∧ n = 0) ∨ ∃ b off cap, v = .slice (some ⟨b, off, none⟩) n cap ∧ n ≤ cap ∧ ∀ i, i < n → w.cell? ⟨b, off + i, none⟩ = some (fv i)
  each : ∀ i, i < n → Sl w (fv i) (f i) ∧ (f i).length ≤ 9223372036854775807
theorem Lf.below {w w' : World} {v : Value} {n : Nat} {f : Nat → List UInt8} {fv : Nat → Value} (h : Lf w v n f fv) (hb : Below w.heap.size w w') : Lf w' v n f fv := by
  refine ⟨h.max, ?_, fun i hi => ⟨(h.each i hi).1.below hb, (h.each i hi).2⟩⟩
  rcases h.shape with h | ⟨b, off, cap, rfl, hcap, hc⟩
  · exact .inl h
  · refine .inr ⟨b, off, cap, rfl, hcap, fun i hi => ?_⟩
    rw [hb.cell (p := ⟨b, off + i, none⟩) (World.block_lt_of_cell? w _ (hc i hi))]
    exact hc i hi
section
variable {H : Type} {enc : TypeId × Value → H} {W : World} {fuel : Nat} {x : DataW H × List MemPlace}
theorem sl_of_trod {cs : List Value} (h : DataW.trod enc Try.prog W 0 (fun _ => true) true fuel 39 cs = some x) : ∃ v l, cs = [v] ∧ Sl W v l ∧ l.length ≤ 9223372036854775807 := by
  rcases open_ints Try.underlying39 Try.underlying5 Try.cells5 h with ⟨hcs, hx⟩ | ⟨a, len, cap, zs, hcs, _, hl, hm, hz, hx, hcell, hwz⟩
  · exact ⟨_, [], hcs, ⟨.inl ⟨none, rfl, rfl⟩⟩, by simp⟩
  · simp only [if_true] at hz
    unfold maxLen at hm
    have hlen : ((zs.take len).map fun n => UInt8.ofNat n.toNat).length = len := by rw [List.length_map, List.length_take]; omega
    refine ⟨_, (zs.take len).map fun n => UInt8.ofNat n.toNat, hcs, ⟨?_⟩, by omega⟩
    rcases Nat.eq_zero_or_pos cap with h0 | h0
    · obtain rfl : len = 0 := by omega
      subst h0
      exact .inl ⟨some a, rfl, by simp⟩
    · obtain ⟨b, off, spot⟩ := a
      have hspot : spot = none := by
        have := hcell 0 (by omega)
        simpa [Addr.add] using World.cell?_spot this
      subst hspot
      refine .inr ⟨b, off, cap, by rw [hlen], by omega, fun i hi => ?_⟩
      have hi' : i < len := by omega
      have hc := hcell i (by omega)
      rw [addr_add] at hc
      rw [hc]
      have hiz : i < zs.length := by omega
      have hw := u8_in (hwz (zs[i]) (List.getElem_mem hiz))
      have e : ((zs.take len).map fun n => UInt8.ofNat n.toNat).getD i 0 = UInt8.ofNat (zs[i]).toNat := by
        simp [List.getD, hi', List.getElem?_eq_getElem hiz]
      have e2 : ((UInt8.ofNat (zs[i]).toNat).toNat : Int) = zs[i] := by simp; omega
      rw [e, e2]
      simp [List.getD, List.getElem?_eq_getElem hiz]
end

set_option maxRecDepth 100000 in
theorem open_lf {H : Type} {enc : TypeId × Value → H} {W : World} {base : Nat} {v : Value} {d : DataW H} {p : List MemPlace} (hv : Value.okWide Try.prog W .any base 22 v) (h : DataW.Trod enc Try.prog W 0 (fun _ => true) true 22 v d p) :
    ∃ n f fv, Lf W v n f fv := by
  obtain ⟨a0, len, cap, rfl⟩ := okWide_slice Try.underlying22 hv
  obtain ⟨fuel, hf⟩ := h
  rcases DataW.trod_slice Try.underlying22 hf with ⟨hcs, _⟩ | ⟨a, len', cap', elems, rest, m, _, hcs, _, _, hlc, hcm, hel, hcell, _⟩
  · simp [Value.cells] at hcs
    obtain ⟨rfl, rfl, rfl⟩ := hcs
    exact ⟨0, fun _ => [], fun _ => undef, ⟨by omega, .inl ⟨none, 0, rfl, rfl⟩, fun i hi => by omega⟩⟩
  · simp [Value.cells] at hcs
    obtain ⟨rfl, rfl, rfl⟩ := hcs
    rw [Try.cells39] at hcell
    have key : ∀ i, i < len → ∃ q : Value × List UInt8, Sl W q.1 q.2 ∧ q.2.length ≤ 9223372036854775807 ∧ W.cell? (a.add i) = some q.1 := by
      intro i hi
      have hc := hcell i hi
      rw [List.getElem?_eq_getElem (by omega)] at hc
      obtain ⟨cs, h1, h2⟩ := Option.bind_eq_some_iff.1 hc
      obtain ⟨u, l, rfl, hs, hl⟩ := sl_of_trod h2
      refine ⟨(u, l), hs, hl, ?_⟩
      obtain ⟨_, _, he⟩ := World.cells?_some h1
      have := he 0 (by omega)
      rw [Nat.mul_one] at this
      simpa [Addr.add] using this
    obtain ⟨q, hq⟩ : ∃ q : Nat → Value × List UInt8, ∀ i, i < len → Sl W (q i).1 (q i).2 ∧ (q i).2.length ≤ 9223372036854775807 ∧ W.cell? (a.add i) = some (q i).1 := by
      refine ⟨fun i => if h : i < len then (key i h).choose else (undef, []), fun i hi => ?_⟩
      simp only [dif_pos hi]
      exact (key i hi).choose_spec
    unfold maxLen at hcm
    refine ⟨len, fun i => (q i).2, fun i => (q i).1, ⟨by omega, ?_, fun i hi => ⟨(hq i hi).1, (hq i hi).2.1⟩⟩⟩
    rcases Nat.eq_zero_or_pos len with h0 | h0
    · exact .inl ⟨_, cap, rfl, h0⟩
    · obtain ⟨b, off, spot⟩ := a
      have hspot : spot = none := by
        have := (hq 0 h0).2.2
        simpa [Addr.add] using World.cell?_spot this
      subst hspot
      refine .inr ⟨b, off, cap, rfl, hlc, fun i hi => ?_⟩
      have := (hq i hi).2.2
      rwa [addr_add] at this
set_option maxRecDepth 100000 in
theorem open_ls {H : Type} {enc : TypeId × Value → H} {W : World} {base : Nat} {v : Value} {d : DataW H} {p : List MemPlace} (hv : Value.okWide Try.prog W .any base 22 v) (h : DataW.Trod enc Try.prog W 0 (fun _ => true) true 22 v d p) :
    ∃ L, Ls W v L ∧ L.length ≤ 9223372036854775807 ∧ ∀ b ∈ L, b.length ≤ 9223372036854775807 := by
  obtain ⟨n, f, fv, hL⟩ := open_lf hv h
  have hg : ∀ i, i < n → ((List.range n).map f).getD i [] = f i := fun i hi => by simp [List.getD, hi]
  refine ⟨(List.range n).map f, ⟨?_⟩, by simpa using hL.max, fun b hb => ?_⟩
  · rcases hL.shape with ⟨ao, cap, rfl, rfl⟩ | ⟨b, off, cap, rfl, hcap, hc⟩
    · exact .inl ⟨ao, cap, rfl, rfl⟩
    · refine .inr ⟨b, off, cap, fv, by simp, by simpa using hcap, fun i hi => ?_⟩
      have hi' : i < n := by simpa using hi
      rw [hg i hi']
      exact ⟨hc i hi', (hL.each i hi').1⟩
  · obtain ⟨i, hi, rfl⟩ := List.mem_map.1 hb
    exact (hL.each i (by simpa using hi)).2
end Go.Proofs.Ytfkibbpekngciaa

/- Leaves copied, and one of them turned. -/
namespace Go.Proofs.Ytfkibbpekngciaa
open Go.RowKit

/-- Leaves that came in, appended to an empty row of one's own. -/
theorem app22 {ops : Array Oper} {rest : List Oper} {o : Oper} {a : Act} {Q : Exit → Act → World → Prop} {w : World} {B : Nat} {v : Value} {L : List Bys} (hgd : o.guard = none) (s x : Operand)
    (ho : o.op = .call { callee := .builtin .append, args := #[s, x], argTypes := #[22, 22] }) (hs : a.eval s = v) (hown : w.ownsRow B 39 1 v 0 []) (hB : B ≤ w.heap.size)
    (b off c : Nat) (hx : a.eval x = .slice (some ⟨b, off, none⟩) L.length c) (fv : Nat → Value) (hc : ∀ i, i < L.length → w.cell? ⟨b, off + i, none⟩ = some (fv i) ∧ Sl w (fv i) (L.getD i [])) (hn : L.length ≤ 1000000)
    (k : ∀ v' w', w'.ownsRow B 39 1 v' L.length ((List.range L.length).map fv) → Below B w w' → w.grownBy w' v.ownBlock → wpList Try.prog ops Q rest (a.put o.dst v') w') :
    wpList Try.prog ops Q (o :: rest) a w := by
  obtain ⟨i0, hi, hz0, hz1, hz2⟩ := info_parts Try.info39
  obtain ⟨v', w', hr, h2, h3, h4, h5⟩ := run_append_own_at (P := Try.prog) w B 22 o.type 39 i0 (.slice none 0 0) 1 24 Try.underlying22 hi hz0 hz1 hz2 rfl (by decide) _ _ _ hown ⟨b, off, none⟩ L.length c ((List.range L.length).map fv) (by simp) (fun j u hj => by
    have hj' : j < L.length := by
      have := (List.getElem?_eq_some_iff.1 hj).1
      simpa using this
    rw [addr_add, (hc j hj').1]
    simp [hj'] at hj
    rw [hj]) (fun u hu => by
    obtain ⟨j, hj, rfl⟩ := List.mem_map.1 hu
    obtain ⟨ak, ck, ek⟩ := sl_slice (hc j (by simpa using hj)).2
    rw [ek]; rfl) (by unfold maxLen; omega) (by omega) hB
  refine wpList_plain hgd fun _ hK => ?_
  unfold Oper.wp execOp
  simp only [ho, resolve, invoke, builtin, Sem.run_bind, Sem.run_pure, Result.andThen_ok, List.map_toArray, List.map_cons, List.map_nil, hs, hx, hr]
  refine hK _ _ (k v' w' (by simpa using h2) (below_grown h3 hB (fun q e => (hown.lt q e).1)) h3)
theorem own39_nil (w : World) : (w.alloc (.cells #[] 39)).ownsRow w.heap.size 39 1 (.slice (some ⟨w.heap.size, 0, none⟩) 0 0) 0 [] := World.ownsRow_made w #[] 0 (Nat.le_refl _) (by unfold maxLen; omega) rfl
/-- A row of one's own that is not empty. -/
theorem own_row39 {w : World} {B n : Nat} {v : Value} {xs : List Value} (h : w.ownsRow B 39 1 v n xs) (h0 : 0 < n) : ∃ g cap cur, v = .slice (some ⟨g, 0, none⟩) n cap ∧ B ≤ g ∧ Row w g 39 cur ∧ n ≤ cap ∧ cur.take n = xs := by
  rcases h.2 with ⟨_, h1⟩ | ⟨g, cap, cur, e, hB, hg, h1, h2, h3, h4⟩
  · omega
  · exact ⟨g, cap, cur.toList, e, hB, ⟨by simpa using hg⟩, h1, by simpa using h4⟩
theorem own39_cell {n i : Nat} {cur : List Value} {fv : Nat → Value} (ht : cur.take n = (List.range n).map fv) (hi : i < n) : cur[i]? = some (fv i) := by
  have := congrArg (·[i]?) ht
  simp [hi] at this
  exact this
/-- One leaf of a row is set: it holds the turned leaves. -/
theorem ls_set {w : World} {g cap : Nat} {cur : List Value} {L : List Bys} {bv : Value} {b : Bys} (fv : Nat → Value) (i : Nat) (hi : i < L.length) (hr : Row w g 39 cur) (hcap : L.length ≤ cap) (ht : cur.take L.length = (List.range L.length).map fv)
    (hc : ∀ j, j < L.length → Sl (w.setCell ⟨g, i, none⟩ bv) (fv j) (L.getD j [])) (hb : Sl (w.setCell ⟨g, i, none⟩ bv) bv b) : Ls (w.setCell ⟨g, i, none⟩ bv) (.slice (some ⟨g, 0, none⟩) (L.set i b).length cap) (L.set i b) := by
  refine ⟨.inr ⟨g, 0, cap, fun j => if j = i then bv else fv j, rfl, by simpa using hcap, fun j hj => ?_⟩⟩
  have hj' : j < L.length := by simpa using hj
  have hR := (hr.set i bv).cell (0 + j)
  rw [hR, Nat.zero_add]
  have hcl : L.length ≤ cur.length := by
    have := congrArg List.length ht
    simp at this
    omega
  by_cases e : j = i
  · subst e
    simp only [if_true]
    refine ⟨by simp [List.getElem?_set_self (show j < cur.length by omega)], ?_⟩
    have : (L.set j b).getD j [] = b := by simp [List.getD, hi]
    rw [this]
    exact hb
  · simp only [if_neg e]
    rw [List.getElem?_set_ne (fun h => e h.symm)]
    have h1 : cur[j]? = some (fv j) := by
      have := congrArg (·[j]?) ht
      simp [hj'] at this
      exact this
    refine ⟨h1, ?_⟩
    have : (L.set i b).getD j [] = L.getD j [] := by simp [List.getD, List.getElem?_set_ne (fun h => e h.symm)]
    rw [this]
    exact hc j hj'
end Go.Proofs.Ytfkibbpekngciaa
