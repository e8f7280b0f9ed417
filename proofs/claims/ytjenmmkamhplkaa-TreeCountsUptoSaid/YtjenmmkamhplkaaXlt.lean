/-
  Names, as the document says them: lets and Names.
-/
import Derived.Test.YtjenmmkamhplkaaNms
import Derived.Laws.OwnMore
import Derived.Deep.RegionHeld3
namespace Go.Proofs.Ytjenmmkamhplkaa
open Go.RowKit

theorem hid0 {p : Prop} (h : p) : Hid p := h
theorem own_form {w : World} {B t s n : Nat} {v : Value} {xs : List Value} (h : w.ownsRow B t s v n xs) : ∃ ao m cap, v = .slice ao m cap := by
  rcases h.2 with ⟨e, _⟩ | ⟨g, cap, cur, e, _⟩
  · exact ⟨_, _, _, e⟩
  · exact ⟨_, _, _, e⟩
theorem strs_app (l m : List Bs) : strs (l ++ m) = strs l ++ strs m := by simp [strs]
/-- A row of texts behind another one. -/
theorem run_app9s {w : World} {B B2 ty : Nat} {v u : Value} {T U : List Bs} (hown : w.ownsRow B 9 1 v T.length (strs T)) (hB : B ≤ w.heap.size) (hu : w.ownsRow B2 9 1 u U.length (strs U)) (hn : T.length + U.length ≤ 100000000) :
    ∃ v' w', (Builtin.append_ #[24, 24] ty #[v, u]).run Try.prog w = .ok v' w' ∧ w'.ownsRow B 9 1 v' (T ++ U).length (strs (T ++ U)) ∧ Below B w w' ∧ (∃ ao n cap, v' = .slice ao n cap) := by
  obtain ⟨i0, hi, hz0, hz1, hz2⟩ := info_parts Try.info9z
  rcases hu.2 with ⟨rfl, h0⟩ | ⟨g, cap, cur, rfl, hbg, hgg, hnc, hcm, hcs, htk⟩
  · obtain rfl : U = [] := List.length_eq_zero_iff.1 h0
    refine ⟨v, w, run_append_owned_none (P := Try.prog) (w := w) B 24 ty 9 i0 1 Try.underlying24 hi v _ _ hown, by simpa using hown, Below.refl _ _, own_form hown⟩
  · obtain ⟨v', w', hrr, h2, h3, h4, h5⟩ := run_append_own_at (P := Try.prog) w B 24 ty 9 i0 (.string ⟨#[]⟩) 1 16 Try.underlying24 hi hz0 hz1 hz2 rfl (by decide) _ _ _ hown ⟨g, 0, none⟩ U.length cap (strs U) (by rw [strs_len]; omega) (fun j x hj => by
        have hl : j < U.length := by have := (List.getElem?_eq_some_iff.1 hj).1; rw [strs_len] at this; exact this
        rw [addr_add, Nat.zero_add, hu.cellAt j (by omega)]; exact hj) (fun x hx => by obtain ⟨s, _, rfl⟩ := List.mem_map.1 hx; rfl) (by unfold maxLen; omega) (by omega) hB
    refine ⟨v', w', hrr, ?_, below_grown h3 hB (fun k e => (hown.lt k e).1), own_form h2⟩
    rw [strs_app, List.length_append]; exact h2
theorem wpo_app9s {o : Oper} {a : Act} {K : Act → World → Prop} {Q : Exit → Act → World → Prop} {w : World} {B B2 : Nat} {v : Value} {T : List Bs} (s x : Operand)
    (ho : o.op = .call { callee := .builtin .append, args := #[s, x], argTypes := #[24, 24] }) (hs : a.eval s = v) (hown : w.ownsRow B 9 1 v T.length (strs T)) (hB : B ≤ w.heap.size)
    (u : Value) (U : List Bs) (hx : a.eval x = u) (hu : w.ownsRow B2 9 1 u U.length (strs U)) (hn : T.length + U.length ≤ 100000000)
    (k : ∀ v' w', w'.ownsRow B 9 1 v' (T ++ U).length (strs (T ++ U)) → Below B w w' → (∃ ao n cap, v' = .slice ao n cap) → K (a.put o.dst v') w') : Oper.wp Try.prog o a w K Q := by
  obtain ⟨v', w', hrr, h2, h3, h4⟩ := run_app9s (ty := o.type) hown hB hu hn
  unfold Oper.wp execOp
  simp only [ho, resolve, invoke, builtin, Sem.run_bind, Sem.run_pure, Result.andThen_ok, List.map_toArray, List.map_cons, List.map_nil, hs, hx, hrr]
  exact k v' w' h2 h3 h4
theorem app9s {ops : Array Oper} {rest : List Oper} {o : Oper} {a : Act} {w : World} {Q : Exit → Act → World → Prop} {B B2 : Nat} {v : Value} {T : List Bs} (hgd : o.guard = none) (s x : Operand)
    (ho : o.op = .call { callee := .builtin .append, args := #[s, x], argTypes := #[24, 24] }) (hs : a.eval s = v) (hown : w.ownsRow B 9 1 v T.length (strs T)) (hB : B ≤ w.heap.size)
    (u : Value) (U : List Bs) (hx : a.eval x = u) (hu : w.ownsRow B2 9 1 u U.length (strs U)) (hn : T.length + U.length ≤ 100000000)
    (k : ∀ v' w', w'.ownsRow B 9 1 v' (T ++ U).length (strs (T ++ U)) → Below B w w' → (∃ ao n cap, v' = .slice ao n cap) → wpList Try.prog ops Q rest (a.put o.dst v') w') : wpList Try.prog ops Q (o :: rest) a w := by
  exact wpList_plain hgd fun _ hK => wpo_app9s s x ho hs hown hB u U hx hu hn (fun v' w' h1 h2 h3 => hK _ _ (k v' w' h1 h2 h3))
/-- One text, as it is built for an append. -/
theorem own_one (w : World) (s : Bs) (S : ByteArray) (hS : S = str s) : (w.alloc (.cells #[.string S] 9)).ownsRow w.heap.size 9 1 (.slice (some ⟨w.heap.size, 0, none⟩) 1 1) [s].length (strs [s]) := by
  subst hS
  exact World.ownsRow_lit w #[.string (str s)] 1 (Nat.le_refl _) (by decide) rfl
theorem letN_app (a b : List St) : letN (a ++ b) = letN a ++ letN b := by unfold letN; rw [List.filter_append, List.map_append]
theorem letN_ord (n : Nat) (s : St) : letN (ord (n + 1) s) = (if s.kind = 1 then [s.name] else []) ++ (letN (s.thn.flatMap (ord n)) ++ letN (s.els.flatMap (ord n))) := by
  show letN (s :: _) = _
  rw [← List.singleton_append, letN_app, letN_app]
  congr 1
  unfold letN
  by_cases h : s.kind = 1 <;> simp [h]
theorem own_len {w : World} {B : Nat} {v : Value} {T U : List Bs} (h : w.ownsRow B 9 1 v T.length (strs T)) (e : T = U) : w.ownsRow B 9 1 v U.length (strs U) := by subst e; exact h

set_option maxHeartbeats 8000000 in
set_option maxRecDepth 20000 in
theorem xlets_any : ∀ (n : Nat) {K : Ctx} {w : World} {v : Value} {l : List St}, K.C ≤ w.heap.size → Ar 32 496 (StAt n K w) K w v l → cnt n l ≤ 10000000 →
    Calls Try.prog 18 #[v] w fun ev w' => ∃ u, ev = .returned u ∧ Below w.heap.size w w' ∧ w'.ownsRow w.heap.size 9 1 u (letN (l.flatMap (ord n))).length (strs (letN (l.flatMap (ord n))))
  | 0, K, w, v, l, hC, ha, hm => by
    obtain ⟨ao, cap, rfl, hc, hb, hA⟩ := ha.shape
    have h0 : l = [] := by
      cases l with
      | nil => rfl
      | cons x l => obtain ⟨_, _, _, _, cs, _, _, h⟩ := hA 0 (by simp); exact h.elim
    subst h0
    clear hA ha hb hm
    go_enter Try.func18, Try.ntmps18
    go_wp2_with fail
    go_loopw [3, 4] (fun a i wr => a = .slice none 0 0 ∧ i = .int .i64 0 ∧ wr = w) (fun _ i _ => 0)
    case atStart => exact ⟨rfl, rfl, rfl⟩
    case round =>
      obtain ⟨rfl, rfl, rfl⟩ := hrel
      go_wp2_with fail
      go_ret
      exact ⟨_, rfl, Below.refl _ _, World.ownsRow_nil _ _ _ _⟩
  | n + 1, K, w, v, l, hC, ha, hm => by
    obtain ⟨ao, cap, rfl, hc, hb, hA⟩ := ha.shape
    have hl9 : l.length ≤ 9223372036854775807 := by omega
    have HC := hid0 hC
    have HA : Hid (∀ i (h : i < l.length), ∃ b o vt ve, ao = some ⟨b, o, none⟩ ∧ b < K.C ∧ w.cell? ⟨b, o + i * 32, none⟩ = some (.int .i64 (l[i]).kind) ∧ w.cell? ⟨b, o + i * 32 + 3, none⟩ = some (.string (str (l[i]).name)) ∧ w.cell? ⟨b, o + i * 32 + 30, none⟩ = some vt ∧ w.cell? ⟨b, o + i * 32 + 31, none⟩ = some ve ∧
        (∀ z, Below K.C w z → Calls Try.prog 18 #[vt] z fun ev z' => ∃ u, ev = .returned u ∧ Below z.heap.size z z' ∧ z'.ownsRow z.heap.size 9 1 u (letN ((l[i]).thn.flatMap (ord n))).length (strs (letN ((l[i]).thn.flatMap (ord n))))) ∧
        (∀ z, Below K.C w z → Calls Try.prog 18 #[ve] z fun ev z' => ∃ u, ev = .returned u ∧ Below z.heap.size z z' ∧ z'.ownsRow z.heap.size 9 1 u (letN ((l[i]).els.flatMap (ord n))).length (strs (letN ((l[i]).els.flatMap (ord n)))))) := by
      intro i h
      obtain ⟨b, o, e, hbC, cs, hl, hcs, hx⟩ := hA i h
      obtain ⟨ts, ps, vs, os, vt, ve, rfl, h1, h2, h3', h4, h5, h6, h7⟩ := id hx
      have l1 := h2.len
      have l2 := h3'.len
      have l3 := h4.len
      have l4 := h5.len
      have pb := part_at hcs (.int .i64 (l[i]).kind :: .int .i64 (l[i]).pos :: .bool (l[i]).mu :: .string (str (l[i]).name) :: (ts ++ (.bool (l[i]).has :: (ps ++ (vs ++ os))))) [vt, ve] [] (k := 30) (n := 2) (by simp [l1, l2, l3, l4]) rfl (by decide) (by simp)
      have hcn := at_cnt (n + 1) l i h
      have hin := inner_succ n l[i]
      refine ⟨b, o, vt, ve, e, hbC, hcs 0 (by decide), hcs 3 (by decide), pb 0 (by decide), pb 1 (by decide), fun z hz => xlets_any n (K := K) (Nat.le_trans hC hz.size) ?_ (by omega), fun z hz => xlets_any n (K := K) (Nat.le_trans hC hz.size) ?_ (by omega)⟩
      · exact h6.mono hz fun _ _ _ h => h.below hz
      · exact h7.mono hz fun _ _ _ h => h.below hz
    have HM : Hid (∀ k, k ≤ l.length → (letN ((l.take k).flatMap (ord (n + 1)))).length ≤ 10000000) := by
      intro k hk
      refine Nat.le_trans (letN_len _) ?_
      rw [ords_len]
      exact Nat.le_trans (take_cnt _ _ _) hm
    have HN : Hid (∀ k (h : k < l.length), letN ((l.take (k + 1)).flatMap (ord (n + 1))) = letN ((l.take k).flatMap (ord (n + 1))) ++ ((if (l[k]).kind = 1 then [(l[k]).name] else []) ++ (letN ((l[k]).thn.flatMap (ord n)) ++ letN ((l[k]).els.flatMap (ord n))))) := by
      intro k h
      rw [take_ord _ _ _ h, letN_app, letN_ord]
    clear hA ha hb hm hC
    go_enter Try.func18, Try.ntmps18
    go_wp2_with fail
    go_loopw [3, 4] (fun a i wr => ∃ k : Nat, k ≤ l.length ∧ i = .int .i64 k ∧ (∃ ao m cap, a = .slice ao m cap) ∧ Below w.heap.size w wr ∧ wr.ownsRow w.heap.size 9 1 a (letN ((l.take k).flatMap (ord (n + 1)))).length (strs (letN ((l.take k).flatMap (ord (n + 1)))))) (fun _ i _ => l.length - (intOf i).toNat)
    case atStart => exact ⟨0, by omega, rfl, ⟨_, _, _, rfl⟩, Below.refl _ _, World.ownsRow_nil _ _ _ _⟩
    case round =>
      obtain ⟨k, hk, rfl, ⟨oa, om, oc, rfl⟩, hbw, how⟩ := hrel
      have HB := hid0 hbw
      have HO := hid0 how
      clear hbw how
      by_cases h3 : k < l.length
      · obtain ⟨b, o, vt, ve, e, hbC, c0, c3, c30, c31, dt, de⟩ := HA.out k h3
        subst e
        have i1 : (k : Int) < (l.length : Int) := by omega
        have hbw : b < w.heap.size := Nat.lt_of_lt_of_le hbC HC.out
        have HT : Hid (∀ y, Below K.C w y → y.cell? ⟨b, o + k * 32 + 30, none⟩ = some vt) := fun y hy => (hy.cell (p := ⟨b, o + k * 32 + 30, none⟩) hbC).trans c30
        have HE : Hid (∀ y, Below K.C w y → y.cell? ⟨b, o + k * 32 + 31, none⟩ = some ve) := fun y hy => (hy.cell (p := ⟨b, o + k * 32 + 31, none⟩) hbC).trans c31
        have DT := hid0 dt
        have DE := hid0 de
        have c0' : wr.cell? ⟨b, o + k * 32, none⟩ = some (.int .i64 (l[k]).kind) := (HB.out.cell (p := ⟨b, o + k * 32, none⟩) hbw).trans c0
        have c3' : wr.cell? ⟨b, o + k * 32 + 3, none⟩ = some (.string (str (l[k]).name)) := (HB.out.cell (p := ⟨b, o + k * 32 + 3, none⟩) hbw).trans c3
        have e1 := hid0 (HN.out k h3)
        have f1 := HM.out (k + 1) h3
        clear c0 c3 c30 c31 dt de HA hbC hbw
        by_cases hk1 : (l[k]).kind = 1
        · rw [if_pos hk1] at e1
          rw [hk1] at c0'
          have HK : Hid ((letN ((l.take (k + 1)).flatMap (ord (n + 1)))).length ≤ 10000000) := f1
          rw [e1.out] at f1
          have HF : Hid (∀ T U, T = letN ((l.take k).flatMap (ord (n + 1))) ++ [(l[k]).name] → U = letN ((l[k]).thn.flatMap (ord n)) → T.length + U.length ≤ 100000000) := by
            rintro T U rfl rfl
            simp only [List.length_append] at f1 ⊢
            omega
          have HG : Hid (∀ T U, T = (letN ((l.take k).flatMap (ord (n + 1))) ++ [(l[k]).name]) ++ letN ((l[k]).thn.flatMap (ord n)) → U = letN ((l[k]).els.flatMap (ord n)) → T.length + U.length ≤ 100000000) := by
            rintro T U rfl rfl
            simp only [List.length_append] at f1 ⊢
            omega
          have HF0 : Hid ((letN ((l.take k).flatMap (ord (n + 1)))).length + [(l[k]).name].length ≤ 100000000) := by
            show _ ≤ _
            simp only [List.length_append, List.length_cons, List.length_nil] at f1 ⊢
            omega
          have EE : Hid ((letN ((l.take k).flatMap (ord (n + 1))) ++ [(l[k]).name]) ++ letN ((l[k]).thn.flatMap (ord n)) ++ letN ((l[k]).els.flatMap (ord n)) = letN ((l.take (k + 1)).flatMap (ord (n + 1)))) := by
            show _ = _
            rw [e1.out]; simp only [List.append_assoc]
          clear hk1 f1 e1 HN
          generalize letN ((l.take k).flatMap (ord (n + 1))) = T0 at *
          generalize letN ((l[k]).thn.flatMap (ord n)) = T1 at *
          generalize letN ((l[k]).els.flatMap (ord n)) = T2 at *
          generalize hNM : (l[k]).name = nm at *
          generalize hS : str nm = S at *
          have AS := hid0 hS
          clear hS hNM
          have hA1 := alloc_one wr (.cells #[.string S] 9)
          have OX := hid0 (HO.out.alloc (.cells #[.string S] 9))
          have OU := hid0 (own_one wr nm S AS.out.symm)
          have BX := hid0 (HB.out.trans (below_le hA1 HB.out.size))
          clear hA1
          go_wp2_with (first | (refine app9s rfl _ _ rfl rfl OX.out BX.out.size _ _ rfl OU.out HF0.out ?_; rintro v0 zA OA ha0 ⟨p0, p1, p2, rfl⟩))
          have BA := hid0 (BX.out.trans ha0)
          have OA := hid0 OA
          clear ha0 OX OU BX
          have HA0 : Below K.C w zA.drew := (below_le BA.out HC.out).drew
          have OA : zA.drew.ownsRow w.heap.size 9 1 (.slice p0 p1 p2) (T0 ++ [nm]).length (strs (T0 ++ [nm])) := own_same' OA.out (fun _ _ => rfl)
          have BA : Below w.heap.size w zA.drew := BA.out.drew
          refine wp_region_held_drew (S := fun z => Below K.C w z) (by kernel_rfl) (HA0) (fun hHeld => ?_)
          refine wpAnyH_take (i := 0) (oi := { dst := some 25, op := Op.move (Operand.tmp 3), type := 24, pos := "ref.go:342", after := #[], guard := none }) (v := ?va0) rfl (by kernel_rfl) (by kernel_rfl) (by kernel_rfl) (fun _ _ _ h => h) (Or.inl ⟨by rfl, ?ha0⟩) hHeld ?ra0
          case ha0 => (intro y hy; go_simp; with_reducible rfl)
          try simp only [Act.put, List.setIfInBounds_toArray, List.set_cons_zero, List.set_cons_succ]
          refine wpAnyH_take (i := 1) (oi := { dst := some 26, op := Op.move (Operand.tmp 0), type := 28, pos := "ref.go:342", after := #[], guard := none }) (v := ?va1) rfl (by kernel_rfl) (by kernel_rfl) (by kernel_rfl) (fun _ _ _ h => h) (Or.inl ⟨by rfl, ?ha1⟩) hHeld ?ra1
          case ha1 => (intro y hy; go_simp; with_reducible rfl)
          try simp only [Act.put, List.setIfInBounds_toArray, List.set_cons_zero, List.set_cons_succ]
          refine wpAnyH_take (i := 2) (oi := { dst := some 27, op := Op.move (Operand.tmp 4), type := 3, pos := "ref.go:342", after := #[], guard := none }) (v := ?va2) rfl (by kernel_rfl) (by kernel_rfl) (by kernel_rfl) (fun _ _ _ h => h) (Or.inl ⟨by rfl, ?ha2⟩) hHeld ?ra2
          case ha2 => (intro y hy; go_simp; with_reducible rfl)
          try simp only [Act.put, List.setIfInBounds_toArray, List.set_cons_zero, List.set_cons_succ]
          refine wpAnyH_take (i := 3) (oi := { dst := some 28, op := Op.indexAddr 28 (Operand.tmp 26) (Operand.tmp 27), type := 0, pos := "ref.go:342", after := #[{ on := 1, ground := Ground.data }, { on := 2, ground := Ground.data }], guard := none }) (v := ?va3) rfl (by kernel_rfl) (by kernel_rfl) (by kernel_rfl) (fun _ _ _ h => h) (Or.inl ⟨by rfl, ?ha3⟩) hHeld ?ra3
          case ha3 => (intro y hy; go_simp; with_reducible rfl)
          try simp only [Act.put, List.setIfInBounds_toArray, List.set_cons_zero, List.set_cons_succ]
          refine wpAnyH_take (i := 4) (oi := { dst := some 29, op := Op.fieldAddr 50 (Operand.tmp 28) 9, type := 0, pos := "ref.go:342", after := #[{ on := 3, ground := Ground.data }], guard := none }) (v := ?va4) rfl (by kernel_rfl) (by kernel_rfl) (by kernel_rfl) (fun _ _ _ h => h) (Or.inl ⟨by rfl, ?ha4⟩) hHeld ?ra4
          case ha4 => (intro y hy; go_simp; with_reducible rfl)
          try simp only [Act.put, List.setIfInBounds_toArray, List.set_cons_zero, List.set_cons_succ]
          refine wpAnyH_take (i := 5) (oi := { dst := some 30, op := Op.load 28 (Operand.tmp 29), type := 28, pos := "ref.go:342", after := #[{ on := 4, ground := Ground.data }], guard := none }) (v := ?va5) rfl (by kernel_rfl) (by kernel_rfl) (by kernel_rfl) (fun _ _ _ h => h) (Or.inl ⟨by rfl, ?ha5⟩) hHeld ?ra5
          case ha5 => (intro y hy; have q5 := HT.out y hy; go_simp; with_reducible rfl)
          try simp only [Act.put, List.setIfInBounds_toArray, List.set_cons_zero, List.set_cons_succ]
          refine wpAnyH_take (i := 8) (oi := { dst := some 33, op := Op.move (Operand.tmp 0), type := 28, pos := "ref.go:342", after := #[], guard := none }) (v := ?va8) rfl (by kernel_rfl) (by kernel_rfl) (by kernel_rfl) (fun _ _ _ h => h) (Or.inl ⟨by rfl, ?ha8⟩) hHeld ?ra8
          case ha8 => (intro y hy; go_simp; with_reducible rfl)
          try simp only [Act.put, List.setIfInBounds_toArray, List.set_cons_zero, List.set_cons_succ]
          refine wpAnyH_take (i := 9) (oi := { dst := some 34, op := Op.move (Operand.tmp 4), type := 3, pos := "ref.go:342", after := #[], guard := none }) (v := ?va9) rfl (by kernel_rfl) (by kernel_rfl) (by kernel_rfl) (fun _ _ _ h => h) (Or.inl ⟨by rfl, ?ha9⟩) hHeld ?ra9
          case ha9 => (intro y hy; go_simp; with_reducible rfl)
          try simp only [Act.put, List.setIfInBounds_toArray, List.set_cons_zero, List.set_cons_succ]
          refine wpAnyH_take (i := 10) (oi := { dst := some 35, op := Op.indexAddr 28 (Operand.tmp 33) (Operand.tmp 34), type := 0, pos := "ref.go:342", after := #[{ on := 8, ground := Ground.data }, { on := 9, ground := Ground.data }], guard := none }) (v := ?va10) rfl (by kernel_rfl) (by kernel_rfl) (by kernel_rfl) (fun _ _ _ h => h) (Or.inl ⟨by rfl, ?ha10⟩) hHeld ?ra10
          case ha10 => (intro y hy; go_simp; with_reducible rfl)
          try simp only [Act.put, List.setIfInBounds_toArray, List.set_cons_zero, List.set_cons_succ]
          refine wpAnyH_take (i := 11) (oi := { dst := some 36, op := Op.fieldAddr 50 (Operand.tmp 35) 10, type := 0, pos := "ref.go:342", after := #[{ on := 10, ground := Ground.data }], guard := none }) (v := ?va11) rfl (by kernel_rfl) (by kernel_rfl) (by kernel_rfl) (fun _ _ _ h => h) (Or.inl ⟨by rfl, ?ha11⟩) hHeld ?ra11
          case ha11 => (intro y hy; go_simp; with_reducible rfl)
          try simp only [Act.put, List.setIfInBounds_toArray, List.set_cons_zero, List.set_cons_succ]
          refine wpAnyH_take (i := 12) (oi := { dst := some 37, op := Op.load 28 (Operand.tmp 36), type := 28, pos := "ref.go:342", after := #[{ on := 11, ground := Ground.data }], guard := none }) (v := ?va12) rfl (by kernel_rfl) (by kernel_rfl) (by kernel_rfl) (fun _ _ _ h => h) (Or.inl ⟨by rfl, ?ha12⟩) hHeld ?ra12
          case ha12 => (intro y hy; have q12 := HE.out y hy; go_simp; with_reducible rfl)
          try simp only [Act.put, List.setIfInBounds_toArray, List.set_cons_zero, List.set_cons_succ]
          refine wpAnyH_ready (rs := [6]) (by kernel_rfl) (by simp) ?_
          refine AllReadyH.cons (o := { dst := some 31, op := Op.call { callee := Callee.value (Operand.func 18), args := #[Operand.tmp 30], argTypes := #[28] }, type := 24, pos := "ref.go:342", after := #[{ on := 5, ground := Ground.data }], guard := none }) rfl (fun KK hK => ?_) AllReadyH.nil
          go_simp
          refine (DT.out _ hHeld).mono ?_
          rintro ev z1 ⟨u1, rfl, hb1, ho1⟩
          have O1 := own_past' OA hb1
          have hs1 := hb1.size
          obtain ⟨a1, n1, c1, f1⟩ := own_form ho1
          have H1 : Below K.C w z1 := hHeld.trans (below_le hb1 (Nat.le_trans HC.out hHeld.size))
          have B1 : Below w.heap.size w z1 := BA.trans (below_le hb1 BA.size)
          subst f1
          refine hK.out _ _ (H1) (fun hHeld => ?_)
          clear hK KK
          try simp only [Act.put, List.setIfInBounds_toArray, List.set_cons_zero, List.set_cons_succ]
          refine wpAnyH_ready (rs := [7]) (by kernel_rfl) (by simp) ?_
          refine AllReadyH.cons (o := { dst := some 32, op := Op.call { callee := Callee.builtin Builtin.append, args := #[Operand.tmp 25, Operand.tmp 31], argTypes := #[24, 24] }, type := 24, pos := "ref.go:342", after := #[{ on := 0, ground := Ground.data }, { on := 6, ground := Ground.data }, { on := 6, ground := Ground.chain }], guard := none }) rfl (fun KK hK => ?_) AllReadyH.nil
          refine want (by rfl) ?_
          refine wpo_app9s _ _ rfl rfl O1 B1.size _ _ rfl ho1 (HF.out _ _ rfl rfl) ?_
          rintro v2 z2 O2 hb2 ⟨a2, n2, c2, rfl⟩
          have H2 : Below K.C w z2 := H1.trans (below_le hb2 HC.out)
          have B2 : Below w.heap.size w z2 := B1.trans hb2
          refine hK.out _ _ (H2) (fun hHeld => ?_)
          clear hK KK
          try simp only [Act.put, List.setIfInBounds_toArray, List.set_cons_zero, List.set_cons_succ]
          refine wpAnyH_ready (rs := [13]) (by kernel_rfl) (by simp) ?_
          refine AllReadyH.cons (o := { dst := some 38, op := Op.call { callee := Callee.value (Operand.func 18), args := #[Operand.tmp 37], argTypes := #[28] }, type := 24, pos := "ref.go:342", after := #[{ on := 12, ground := Ground.data }, { on := 7, ground := Ground.chain }], guard := none }) rfl (fun KK hK => ?_) AllReadyH.nil
          go_simp
          refine (DE.out _ H2).mono ?_
          rintro ev z3 ⟨u3, rfl, hb3, ho3⟩
          have O3 := own_past' O2 hb3
          obtain ⟨a3, n3, c3, f3⟩ := own_form ho3
          have H3 : Below K.C w z3 := H2.trans (below_le hb3 (Nat.le_trans HC.out H2.size))
          have B3 : Below w.heap.size w z3 := B2.trans (below_le hb3 B2.size)
          subst f3
          refine hK.out _ _ (H3) (fun hHeld => ?_)
          clear hK KK
          try simp only [Act.put, List.setIfInBounds_toArray, List.set_cons_zero, List.set_cons_succ]
          refine wpAnyH_ready (rs := [14]) (by kernel_rfl) (by simp) ?_
          refine AllReadyH.cons (o := { dst := some 39, op := Op.call { callee := Callee.builtin Builtin.append, args := #[Operand.tmp 32, Operand.tmp 38], argTypes := #[24, 24] }, type := 24, pos := "ref.go:342", after := #[{ on := 7, ground := Ground.data }, { on := 13, ground := Ground.data }, { on := 13, ground := Ground.chain }], guard := none }) rfl (fun KK hK => ?_) AllReadyH.nil
          refine want (by rfl) ?_
          refine wpo_app9s _ _ rfl rfl O3 B3.size _ _ rfl ho3 (HG.out _ _ rfl rfl) ?_
          rintro v4 z4 O4 hb4 ⟨a4, n4, c4, rfl⟩
          have H4 : Below K.C w z4 := H3.trans (below_le hb4 HC.out)
          have B4 : Below w.heap.size w z4 := B3.trans hb4
          refine hK.out _ _ (H4) (fun hHeld => ?_)
          clear hK KK
          try simp only [Act.put, List.setIfInBounds_toArray, List.set_cons_zero, List.set_cons_succ]
          refine wpAnyH_take (i := 15) (oi := { dst := some 3, op := Op.assign (Operand.tmp 39), type := 24, pos := "ref.go:342", after := #[{ on := 14, ground := Ground.data }, { on := 14, ground := Ground.chain }, { on := 0, ground := Ground.phase }, { on := 1, ground := Ground.phase }, { on := 2, ground := Ground.phase }, { on := 3, ground := Ground.phase }, { on := 4, ground := Ground.phase }, { on := 5, ground := Ground.phase }, { on := 6, ground := Ground.phase }, { on := 7, ground := Ground.phase }, { on := 8, ground := Ground.phase }, { on := 9, ground := Ground.phase }, { on := 10, ground := Ground.phase }, { on := 11, ground := Ground.phase }, { on := 12, ground := Ground.phase }, { on := 13, ground := Ground.phase }, { on := 14, ground := Ground.phase }], guard := none }) (v := ?va15) rfl (by kernel_rfl) (by kernel_rfl) (by kernel_rfl) (fun _ _ _ h => h) (Or.inl ⟨by rfl, ?ha15⟩) hHeld ?ra15
          case ha15 => (intro y hy; go_simp; with_reducible rfl)
          try simp only [Act.put, List.setIfInBounds_toArray, List.set_cons_zero, List.set_cons_succ]
          refine wpAnyH_done (by kernel_rfl) ?_ _
          go_wp2_with fail
          go_roundw
          case rel => exact ⟨k + 1, by omega, by go_num, ⟨_, _, _, rfl⟩, B4, own_len O4 EE.out⟩
          case measure => simp [intOf]; omega
        · rw [if_neg hk1, List.nil_append] at e1
          have hkb : ((l[k]).kind == 1) = false := by simpa using hk1
          rw [e1.out] at f1
          have HF : Hid (∀ T U, T = letN ((l.take k).flatMap (ord (n + 1))) → U = letN ((l[k]).thn.flatMap (ord n)) → T.length + U.length ≤ 100000000) := by
            rintro T U rfl rfl
            simp only [List.length_append] at f1 ⊢
            omega
          have HG : Hid (∀ T U, T = letN ((l.take k).flatMap (ord (n + 1))) ++ letN ((l[k]).thn.flatMap (ord n)) → U = letN ((l[k]).els.flatMap (ord n)) → T.length + U.length ≤ 100000000) := by
            rintro T U rfl rfl
            simp only [List.length_append] at f1 ⊢
            omega
          have EE : Hid (letN ((l.take k).flatMap (ord (n + 1))) ++ letN ((l[k]).thn.flatMap (ord n)) ++ letN ((l[k]).els.flatMap (ord n)) = letN ((l.take (k + 1)).flatMap (ord (n + 1)))) := by
            show _ = _
            rw [e1.out]; simp only [List.append_assoc]
          clear hk1 f1 e1 HN c3'
          generalize letN ((l.take k).flatMap (ord (n + 1))) = T0 at *
          generalize letN ((l[k]).thn.flatMap (ord n)) = T1 at *
          generalize letN ((l[k]).els.flatMap (ord n)) = T2 at *
          generalize (l[k]).kind = kd at *
          go_wp2_with fail
          have HA0 : Below K.C w wr.drew := (below_le HB.out HC.out).drew
          have OA : wr.drew.ownsRow w.heap.size 9 1 (.slice oa om oc) T0.length (strs T0) := own_same' HO.out (fun _ _ => rfl)
          have BA : Below w.heap.size w wr.drew := HB.out.drew
          clear HB HO
          refine wp_region_held_drew (S := fun z => Below K.C w z) (by kernel_rfl) (HA0) (fun hHeld => ?_)
          refine wpAnyH_take (i := 0) (oi := { dst := some 25, op := Op.move (Operand.tmp 3), type := 24, pos := "ref.go:342", after := #[], guard := none }) (v := ?vb0) rfl (by kernel_rfl) (by kernel_rfl) (by kernel_rfl) (fun _ _ _ h => h) (Or.inl ⟨by rfl, ?hb0⟩) hHeld ?rb0
          case hb0 => (intro y hy; go_simp; with_reducible rfl)
          try simp only [Act.put, List.setIfInBounds_toArray, List.set_cons_zero, List.set_cons_succ]
          refine wpAnyH_take (i := 1) (oi := { dst := some 26, op := Op.move (Operand.tmp 0), type := 28, pos := "ref.go:342", after := #[], guard := none }) (v := ?vb1) rfl (by kernel_rfl) (by kernel_rfl) (by kernel_rfl) (fun _ _ _ h => h) (Or.inl ⟨by rfl, ?hb1⟩) hHeld ?rb1
          case hb1 => (intro y hy; go_simp; with_reducible rfl)
          try simp only [Act.put, List.setIfInBounds_toArray, List.set_cons_zero, List.set_cons_succ]
          refine wpAnyH_take (i := 2) (oi := { dst := some 27, op := Op.move (Operand.tmp 4), type := 3, pos := "ref.go:342", after := #[], guard := none }) (v := ?vb2) rfl (by kernel_rfl) (by kernel_rfl) (by kernel_rfl) (fun _ _ _ h => h) (Or.inl ⟨by rfl, ?hb2⟩) hHeld ?rb2
          case hb2 => (intro y hy; go_simp; with_reducible rfl)
          try simp only [Act.put, List.setIfInBounds_toArray, List.set_cons_zero, List.set_cons_succ]
          refine wpAnyH_take (i := 3) (oi := { dst := some 28, op := Op.indexAddr 28 (Operand.tmp 26) (Operand.tmp 27), type := 0, pos := "ref.go:342", after := #[{ on := 1, ground := Ground.data }, { on := 2, ground := Ground.data }], guard := none }) (v := ?vb3) rfl (by kernel_rfl) (by kernel_rfl) (by kernel_rfl) (fun _ _ _ h => h) (Or.inl ⟨by rfl, ?hb3⟩) hHeld ?rb3
          case hb3 => (intro y hy; go_simp; with_reducible rfl)
          try simp only [Act.put, List.setIfInBounds_toArray, List.set_cons_zero, List.set_cons_succ]
          refine wpAnyH_take (i := 4) (oi := { dst := some 29, op := Op.fieldAddr 50 (Operand.tmp 28) 9, type := 0, pos := "ref.go:342", after := #[{ on := 3, ground := Ground.data }], guard := none }) (v := ?vb4) rfl (by kernel_rfl) (by kernel_rfl) (by kernel_rfl) (fun _ _ _ h => h) (Or.inl ⟨by rfl, ?hb4⟩) hHeld ?rb4
          case hb4 => (intro y hy; go_simp; with_reducible rfl)
          try simp only [Act.put, List.setIfInBounds_toArray, List.set_cons_zero, List.set_cons_succ]
          refine wpAnyH_take (i := 5) (oi := { dst := some 30, op := Op.load 28 (Operand.tmp 29), type := 28, pos := "ref.go:342", after := #[{ on := 4, ground := Ground.data }], guard := none }) (v := ?vb5) rfl (by kernel_rfl) (by kernel_rfl) (by kernel_rfl) (fun _ _ _ h => h) (Or.inl ⟨by rfl, ?hb5⟩) hHeld ?rb5
          case hb5 => (intro y hy; have q5 := HT.out y hy; go_simp; with_reducible rfl)
          try simp only [Act.put, List.setIfInBounds_toArray, List.set_cons_zero, List.set_cons_succ]
          refine wpAnyH_take (i := 8) (oi := { dst := some 33, op := Op.move (Operand.tmp 0), type := 28, pos := "ref.go:342", after := #[], guard := none }) (v := ?vb8) rfl (by kernel_rfl) (by kernel_rfl) (by kernel_rfl) (fun _ _ _ h => h) (Or.inl ⟨by rfl, ?hb8⟩) hHeld ?rb8
          case hb8 => (intro y hy; go_simp; with_reducible rfl)
          try simp only [Act.put, List.setIfInBounds_toArray, List.set_cons_zero, List.set_cons_succ]
          refine wpAnyH_take (i := 9) (oi := { dst := some 34, op := Op.move (Operand.tmp 4), type := 3, pos := "ref.go:342", after := #[], guard := none }) (v := ?vb9) rfl (by kernel_rfl) (by kernel_rfl) (by kernel_rfl) (fun _ _ _ h => h) (Or.inl ⟨by rfl, ?hb9⟩) hHeld ?rb9
          case hb9 => (intro y hy; go_simp; with_reducible rfl)
          try simp only [Act.put, List.setIfInBounds_toArray, List.set_cons_zero, List.set_cons_succ]
          refine wpAnyH_take (i := 10) (oi := { dst := some 35, op := Op.indexAddr 28 (Operand.tmp 33) (Operand.tmp 34), type := 0, pos := "ref.go:342", after := #[{ on := 8, ground := Ground.data }, { on := 9, ground := Ground.data }], guard := none }) (v := ?vb10) rfl (by kernel_rfl) (by kernel_rfl) (by kernel_rfl) (fun _ _ _ h => h) (Or.inl ⟨by rfl, ?hb10⟩) hHeld ?rb10
          case hb10 => (intro y hy; go_simp; with_reducible rfl)
          try simp only [Act.put, List.setIfInBounds_toArray, List.set_cons_zero, List.set_cons_succ]
          refine wpAnyH_take (i := 11) (oi := { dst := some 36, op := Op.fieldAddr 50 (Operand.tmp 35) 10, type := 0, pos := "ref.go:342", after := #[{ on := 10, ground := Ground.data }], guard := none }) (v := ?vb11) rfl (by kernel_rfl) (by kernel_rfl) (by kernel_rfl) (fun _ _ _ h => h) (Or.inl ⟨by rfl, ?hb11⟩) hHeld ?rb11
          case hb11 => (intro y hy; go_simp; with_reducible rfl)
          try simp only [Act.put, List.setIfInBounds_toArray, List.set_cons_zero, List.set_cons_succ]
          refine wpAnyH_take (i := 12) (oi := { dst := some 37, op := Op.load 28 (Operand.tmp 36), type := 28, pos := "ref.go:342", after := #[{ on := 11, ground := Ground.data }], guard := none }) (v := ?vb12) rfl (by kernel_rfl) (by kernel_rfl) (by kernel_rfl) (fun _ _ _ h => h) (Or.inl ⟨by rfl, ?hb12⟩) hHeld ?rb12
          case hb12 => (intro y hy; have q12 := HE.out y hy; go_simp; with_reducible rfl)
          try simp only [Act.put, List.setIfInBounds_toArray, List.set_cons_zero, List.set_cons_succ]
          refine wpAnyH_ready (rs := [6]) (by kernel_rfl) (by simp) ?_
          refine AllReadyH.cons (o := { dst := some 31, op := Op.call { callee := Callee.value (Operand.func 18), args := #[Operand.tmp 30], argTypes := #[28] }, type := 24, pos := "ref.go:342", after := #[{ on := 5, ground := Ground.data }], guard := none }) rfl (fun KK hK => ?_) AllReadyH.nil
          go_simp
          refine (DT.out _ hHeld).mono ?_
          rintro ev z1 ⟨u1, rfl, hb1, ho1⟩
          have O1 := own_past' OA hb1
          have hs1 := hb1.size
          obtain ⟨a1, n1, c1, f1⟩ := own_form ho1
          have H1 : Below K.C w z1 := hHeld.trans (below_le hb1 (Nat.le_trans HC.out hHeld.size))
          have B1 : Below w.heap.size w z1 := BA.trans (below_le hb1 BA.size)
          subst f1
          refine hK.out _ _ (H1) (fun hHeld => ?_)
          clear hK KK
          try simp only [Act.put, List.setIfInBounds_toArray, List.set_cons_zero, List.set_cons_succ]
          refine wpAnyH_ready (rs := [7]) (by kernel_rfl) (by simp) ?_
          refine AllReadyH.cons (o := { dst := some 32, op := Op.call { callee := Callee.builtin Builtin.append, args := #[Operand.tmp 25, Operand.tmp 31], argTypes := #[24, 24] }, type := 24, pos := "ref.go:342", after := #[{ on := 0, ground := Ground.data }, { on := 6, ground := Ground.data }, { on := 6, ground := Ground.chain }], guard := none }) rfl (fun KK hK => ?_) AllReadyH.nil
          refine want (by rfl) ?_
          refine wpo_app9s _ _ rfl rfl O1 B1.size _ _ rfl ho1 (HF.out _ _ rfl rfl) ?_
          rintro v2 z2 O2 hb2 ⟨a2, n2, c2, rfl⟩
          have H2 : Below K.C w z2 := H1.trans (below_le hb2 HC.out)
          have B2 : Below w.heap.size w z2 := B1.trans hb2
          refine hK.out _ _ (H2) (fun hHeld => ?_)
          clear hK KK
          try simp only [Act.put, List.setIfInBounds_toArray, List.set_cons_zero, List.set_cons_succ]
          refine wpAnyH_ready (rs := [13]) (by kernel_rfl) (by simp) ?_
          refine AllReadyH.cons (o := { dst := some 38, op := Op.call { callee := Callee.value (Operand.func 18), args := #[Operand.tmp 37], argTypes := #[28] }, type := 24, pos := "ref.go:342", after := #[{ on := 12, ground := Ground.data }, { on := 7, ground := Ground.chain }], guard := none }) rfl (fun KK hK => ?_) AllReadyH.nil
          go_simp
          refine (DE.out _ H2).mono ?_
          rintro ev z3 ⟨u3, rfl, hb3, ho3⟩
          have O3 := own_past' O2 hb3
          obtain ⟨a3, n3, c3, f3⟩ := own_form ho3
          have H3 : Below K.C w z3 := H2.trans (below_le hb3 (Nat.le_trans HC.out H2.size))
          have B3 : Below w.heap.size w z3 := B2.trans (below_le hb3 B2.size)
          subst f3
          refine hK.out _ _ (H3) (fun hHeld => ?_)
          clear hK KK
          try simp only [Act.put, List.setIfInBounds_toArray, List.set_cons_zero, List.set_cons_succ]
          refine wpAnyH_ready (rs := [14]) (by kernel_rfl) (by simp) ?_
          refine AllReadyH.cons (o := { dst := some 39, op := Op.call { callee := Callee.builtin Builtin.append, args := #[Operand.tmp 32, Operand.tmp 38], argTypes := #[24, 24] }, type := 24, pos := "ref.go:342", after := #[{ on := 7, ground := Ground.data }, { on := 13, ground := Ground.data }, { on := 13, ground := Ground.chain }], guard := none }) rfl (fun KK hK => ?_) AllReadyH.nil
          refine want (by rfl) ?_
          refine wpo_app9s _ _ rfl rfl O3 B3.size _ _ rfl ho3 (HG.out _ _ rfl rfl) ?_
          rintro v4 z4 O4 hb4 ⟨a4, n4, c4, rfl⟩
          have H4 : Below K.C w z4 := H3.trans (below_le hb4 HC.out)
          have B4 : Below w.heap.size w z4 := B3.trans hb4
          refine hK.out _ _ (H4) (fun hHeld => ?_)
          clear hK KK
          try simp only [Act.put, List.setIfInBounds_toArray, List.set_cons_zero, List.set_cons_succ]
          refine wpAnyH_take (i := 15) (oi := { dst := some 3, op := Op.assign (Operand.tmp 39), type := 24, pos := "ref.go:342", after := #[{ on := 14, ground := Ground.data }, { on := 14, ground := Ground.chain }, { on := 0, ground := Ground.phase }, { on := 1, ground := Ground.phase }, { on := 2, ground := Ground.phase }, { on := 3, ground := Ground.phase }, { on := 4, ground := Ground.phase }, { on := 5, ground := Ground.phase }, { on := 6, ground := Ground.phase }, { on := 7, ground := Ground.phase }, { on := 8, ground := Ground.phase }, { on := 9, ground := Ground.phase }, { on := 10, ground := Ground.phase }, { on := 11, ground := Ground.phase }, { on := 12, ground := Ground.phase }, { on := 13, ground := Ground.phase }, { on := 14, ground := Ground.phase }], guard := none }) (v := ?vb15) rfl (by kernel_rfl) (by kernel_rfl) (by kernel_rfl) (fun _ _ _ h => h) (Or.inl ⟨by rfl, ?hb15⟩) hHeld ?rb15
          case hb15 => (intro y hy; go_simp; with_reducible rfl)
          try simp only [Act.put, List.setIfInBounds_toArray, List.set_cons_zero, List.set_cons_succ]
          refine wpAnyH_done (by kernel_rfl) ?_ _
          go_wp2_with fail
          go_roundw
          case rel => exact ⟨k + 1, by omega, by go_num, ⟨_, _, _, rfl⟩, B4, own_len O4 EE.out⟩
          case measure => simp [intOf]; omega
      · have i1 : ¬ (k : Int) < (l.length : Int) := by omega
        have hfull : Hid (l.take k = l) := List.take_of_length_le (by omega)
        go_wp2_with fail
        go_ret
        refine ⟨_, rfl, HB.out, ?_⟩
        have := HO.out
        rw [hfull.out] at this
        exact this
end Go.Proofs.Ytjenmmkamhplkaa
