/-
  Names: one more text at a row of one's own; the closure that tells names.
-/
import Derived.Test.YtjenmmkamhplkaaWlk
import Derived.Test.YtjenmmkamhplkaaLas
namespace Go.Proofs.Ytjenmmkamhplkaa
open Go.RowKit

theorem want {c p q : Prop} [Decidable c] (hc : c) (h : p) : if c then p else q := by rw [if_pos hc]; exact h
theorem below_grown {B : Nat} {w w' : World} {row : Option Nat} (h : w.grownBy w' row) (hB : B ≤ w.heap.size) (hr : ∀ k, row = some k → B ≤ k) : Below B w w' :=
  (Below.refl B w).grown h hB hr
theorem own_same' {w w' : World} {B t s n : Nat} {v : Value} {xs : List Value} (h : w.ownsRow B t s v n xs) (hs : ∀ k, v.ownBlock = some k → w'.heap[k]? = w.heap[k]?) : w'.ownsRow B t s v n xs := by
  refine ⟨h.1, ?_⟩
  rcases h.2 with hn | ⟨g, cap, cur, rfl, hb, hgg, rest⟩
  · exact .inl hn
  · exact .inr ⟨g, cap, cur, rfl, hb, by rw [hs g rfl]; exact hgg, rest⟩
theorem own_past' {w w' : World} {B t s n : Nat} {v : Value} {xs : List Value} (h : w.ownsRow B t s v n xs) (hb : Below w.heap.size w w') : w'.ownsRow B t s v n xs :=
  own_same' h (fun k e => hb.block k (h.lt k e).2)
theorem own_mono {w : World} {B B' t s n : Nat} {v : Value} {xs : List Value} (h : w.ownsRow B t s v n xs) (hb : B' ≤ B) : w.ownsRow B' t s v n xs := by
  refine ⟨h.1, ?_⟩
  rcases h.2 with hn | ⟨g, cap, cur, e, h1, h2⟩
  · exact .inl hn
  · exact .inr ⟨g, cap, cur, e, Nat.le_trans hb h1, h2⟩
def strs (l : List Bs) : List Value := l.map fun s => .string (str s)
theorem strs_len (l : List Bs) : (strs l).length = l.length := by simp [strs]
theorem strs_snoc (l : List Bs) (s : Bs) : strs (l ++ [s]) = strs l ++ [.string (str s)] := by simp [strs]
theorem Try.info9z : (Try.prog.info? 9).map (fun i => (i.zero, i.size, i.bytes)) = some (some (.string ⟨#[]⟩), 1, 16) := by kernel_rfl
theorem wpo_app9 {o : Oper} {a : Act} {K : Act → World → Prop} {Q : Exit → Act → World → Prop} {w : World} {B : Nat} {v : Value} {T : List Bs} (s x : Operand)
    (ho : o.op = .call { callee := .builtin .append, args := #[s, x], argTypes := #[24, 24] }) (hs : a.eval s = v) (hown : w.ownsRow B 9 1 v T.length (strs T)) (hB : B ≤ w.heap.size)
    (g c : Nat) (t : Bs) (hx : a.eval x = .slice (some ⟨g, 0, none⟩) 1 c) (hr : w.cell? ⟨g, 0, none⟩ = some (.string (str t))) (hn : T.length ≤ 10000000)
    (k : ∀ v' w', w'.ownsRow B 9 1 v' (T ++ [t]).length (strs (T ++ [t])) → Below B w w' → (∃ ao n cap, v' = .slice ao n cap) → w.grownBy w' v.ownBlock → K (a.put o.dst v') w') : Oper.wp Try.prog o a w K Q := by
  obtain ⟨i0, hi, hz0, hz1, hz2⟩ := info_parts Try.info9z
  obtain ⟨v', w', hrr, h2, h3, h4, h5⟩ := run_append_own_at (P := Try.prog) w B 24 o.type 9 i0 (.string ⟨#[]⟩) 1 16 Try.underlying24 hi hz0 hz1 hz2 rfl (by decide) _ _ _ hown ⟨g, 0, none⟩ 1 c [.string (str t)] rfl (fun j u hj => by
    rcases j with _ | j
    · rw [addr_add]; simp at hj; subst hj; exact hr
    · simp at hj) (fun u hu => by simp at hu; subst hu; rfl) (by unfold maxLen; omega) (by omega) hB
  unfold Oper.wp execOp
  simp only [ho, resolve, invoke, builtin, Sem.run_bind, Sem.run_pure, Result.andThen_ok, List.map_toArray, List.map_cons, List.map_nil, hs, hx, hrr]
  refine k v' w' ?_ (below_grown h3 hB (fun k e => (hown.lt k e).1)) ?_ ?_
  · rw [strs_snoc, List.length_append]; exact h2
  · rcases h2.2 with ⟨e, _⟩ | ⟨g, cap, cur, e, _⟩
    · exact ⟨_, _, _, e⟩
    · exact ⟨_, _, _, e⟩
  · exact h3

theorem clone_any (l : List UInt8) (hl : l.length ≤ 140737488355328) (w : World) : Calls Try.prog 16 #[.string (str l)] w fun ev w' => ev = .returned (.string (str l)) ∧ Below w.heap.size w w' := by
  have C := Try.stringslite_Clone (str l) w (by rw [str_size]; omega)
  generalize str l = S at *
  go_enter Try.func16, Try.ntmps16
  go_wp2_with fail
  refine C.mono ?_
  rintro ev w2 ⟨rfl, hb⟩
  clear C
  go_wp2_with fail
  go_ret
  exact ⟨rfl, hb⟩

/-- The variable of names at gn, its row in blocks from B on. -/
structure Nm (gn B : Nat) (T : List Bs) (y : World) (v : Value) : Prop where
  row : Row y gn 24 [v]
  own : y.ownsRow B 9 1 v T.length (strs T)
  lt : gn < B
  B : B ≤ y.heap.size
  few : T.length ≤ 10000000
  form : ∃ ao n cap, v = .slice ao n cap

set_option maxHeartbeats 8000000 in
set_option maxRecDepth 20000 in
theorem name1_let {gn B : Nat} {T : List Bs} {y : World} {v : Value} (h : Nm gn B T y v) (b o : Nat) (s : Bs) (hs : s.length ≤ 140737488355328) (hb : b < B)
    (c0 : y.cell? ⟨b, o, none⟩ = some (.int .i64 1)) (c3 : y.cell? ⟨b, o + 3, none⟩ = some (.string (str s))) :
    Calls Try.prog 17 #[.pointer (some ⟨b, o, none⟩), .pointer (some ⟨gn, 0, none⟩)] y fun ev y' => ev = .returned (.tuple #[]) ∧ Stay (fun k => k = gn ∨ B ≤ k) y y' ∧ ∃ v', Row y' gn 24 [v'] ∧ y'.ownsRow B 9 1 v' (T ++ [s]).length (strs (T ++ [s])) ∧ ∃ ao n cap, v' = .slice ao n cap := by
  have HS : Hid (∀ z, Below B y z → z.cell? ⟨gn, 0, none⟩ = some v ∧ z.frozen? ⟨gn, 0, none⟩ = false ∧ z.cell? ⟨b, o + 3, none⟩ = some (.string (str s)) ∧ Row z gn 24 [v]) := by
    intro z hz
    have r := h.row.below hz h.lt
    exact ⟨r.cell 0, r.fz 0, by rw [hz.cell (p := ⟨b, o + 3, none⟩) hb]; exact c3, r⟩
  have HC : Hid (∀ z, Calls Try.prog 16 #[.string (str s)] z fun ev w' => ev = .returned (.string (str s)) ∧ Below z.heap.size z w') := fun z => clone_any s hs z
  have HN : Hid (Nm gn B T y v) := h
  have hBy := h.B
  obtain ⟨ao, n, cap, hv⟩ := h.form
  subst hv
  clear c3 h
  generalize hS : str s = S at *
  go_enter Try.func17, Try.ntmps17
  go_wp2_with fail
  refine beginL (fun z => Below B y z) 8 (by kernel_rfl) (Below.refl _ _).drew (fun hSd => ?_)
  have HY : Hid (∀ k, k < y.heap.size → y.drew.heap[k]? = y.heap[k]?) := fun _ _ => rfl
  generalize y.drew = yd at *
  refine takeL 0 (v := ?v0) rfl (some 8) rfl (by decide) (by kernel_rfl) (by kernel_rfl) (by kernel_rfl) (by kernel_rfl) (fun _ _ _ h => h) (Or.inl ⟨by rfl, ?h0⟩) hSd ?r0
  case h0 => (intro z hz; obtain ⟨k1, k2, k3, k4⟩ := HS.out z hz; go_simp; with_reducible rfl)
  simp only [Act.put, List.setIfInBounds_toArray, List.set_cons_zero, List.set_cons_succ]
  refine takeL 1 (v := ?v1) rfl (some 9) rfl (by decide) (by kernel_rfl) (by kernel_rfl) (by kernel_rfl) (by kernel_rfl) (fun _ _ _ h => h) (Or.inl ⟨by rfl, ?h1⟩) hSd ?r1
  case h1 => (intro z hz; go_simp; with_reducible rfl)
  simp only [Act.put, List.setIfInBounds_toArray, List.set_cons_zero, List.set_cons_succ]
  refine takeL 2 (v := ?v2) rfl (some 10) rfl (by decide) (by kernel_rfl) (by kernel_rfl) (by kernel_rfl) (by kernel_rfl) (fun _ _ _ h => h) (Or.inl ⟨by rfl, ?h2⟩) hSd ?r2
  case h2 => (intro z hz; go_simp; with_reducible rfl)
  simp only [Act.put, List.setIfInBounds_toArray, List.set_cons_zero, List.set_cons_succ]
  refine takeL 3 (v := ?v3) rfl (some 11) rfl (by decide) (by kernel_rfl) (by kernel_rfl) (by kernel_rfl) (by kernel_rfl) (fun _ _ _ h => h) (Or.inl ⟨by rfl, ?h3⟩) hSd ?r3
  case h3 => (intro z hz; go_simp; with_reducible rfl)
  simp only [Act.put, List.setIfInBounds_toArray, List.set_cons_zero, List.set_cons_succ]
  refine takeL 4 (v := ?v4) rfl (some 12) rfl (by decide) (by kernel_rfl) (by kernel_rfl) (by kernel_rfl) (by kernel_rfl) (fun _ _ _ h => h) (Or.inl ⟨by rfl, ?h4⟩) hSd ?r4
  case h4 => (intro z hz; obtain ⟨k1, k2, k3, k4⟩ := HS.out z hz; go_simp; with_reducible rfl)
  simp only [Act.put, List.setIfInBounds_toArray, List.set_cons_zero, List.set_cons_succ]
  refine readyL (rs := [5]) (by kernel_rfl) (by simp) ?_
  refine ReadyL.cons rfl (fun K hK => ?_) ReadyL.nil
  refine want (by rfl) ?_
  go_simp
  refine (HC.out _).mono ?_
  rintro ev z1 ⟨rfl, hb1⟩
  have hS1 : Below B y z1 := hSd.trans (below_le hb1 (Nat.le_trans hBy hSd.size))
  have O1 : z1.ownsRow B 9 1 (.slice ao n cap) T.length (strs T) := own_past' (w := yd) (own_same' HN.out.own (fun k e => HY.out k (HN.out.own.lt k e).2)) hb1
  refine hK.out _ _ (fun _ => hS1) (fun _ => ?_)
  clear hK K
  refine readyL (rs := [6]) (by kernel_rfl) (by simp) ?_
  refine ReadyL.cons rfl (fun K hK => ?_) ReadyL.nil
  refine want (by rfl) ?_
  go_simp
  have hA1 := alloc_one z1 (.cells #[.string S] 9)
  have hS2 : Below B y (z1.alloc (.cells #[.string S] 9)) := hS1.trans (below_le hA1 (Nat.le_trans hBy hS1.size))
  have O2 := O1.alloc (.cells #[.string S] 9)
  have c9 : (z1.alloc (.cells #[.string S] 9)).cell? ⟨z1.heap.size, 0, none⟩ = some (.string (str s)) := by rw [hS]; exact (Row.new z1 9 [.string S]).cell 0
  refine hK.out _ _ (fun _ => hS2) (fun _ => ?_)
  clear hK K
  refine readyL (rs := [7]) (by kernel_rfl) (by simp) ?_
  refine ReadyL.cons rfl (fun K hK => ?_) ReadyL.nil
  refine want (by rfl) ?_
  refine wpo_app9 _ _ rfl rfl O2 (Nat.le_trans hBy hS2.size) z1.heap.size 1 s rfl c9 HN.out.few ?_
  rintro v' z2 O3 hb3 ⟨ao3, n3, cap3, rfl⟩ _
  have hS3 := hS2.trans hb3
  obtain ⟨k1, k2, k3, k4⟩ := HS.out z2 hS3
  refine hK.out _ _ (fun _ => hS3) (fun _ => ?_)
  clear hK K
  have HF : Hid (Stay (fun k => k = gn ∨ B ≤ k) y (z2.setCell ⟨gn, 0, none⟩ (.slice ao3 n3 cap3)) ∧ Row (z2.setCell ⟨gn, 0, none⟩ (.slice ao3 n3 cap3)) gn 24 [.slice ao3 n3 cap3] ∧ (z2.setCell ⟨gn, 0, none⟩ (.slice ao3 n3 cap3)).ownsRow B 9 1 (.slice ao3 n3 cap3) (T ++ [s]).length (strs (T ++ [s]))) := by
    have hst : Stay (fun k => k = gn ∨ B ≤ k) y z2 := ⟨hS3.os, hS3.tape, hS3.output, hS3.size, fun k hk hn => hS3.block k (by omega)⟩
    exact ⟨hst.set (fun _ => .inl rfl) _ _, k4.set 0 _, ownsRow_setCell_below O3 (show (⟨gn, 0, none⟩ : Addr).block < B from HN.out.lt) _⟩
  clear k3 k4 O1 O2 O3 c9 hA1 hS1 hS2 hS3 hb1 hb3 hSd HN HS HC HY
  refine readyL (rs := [8]) (by kernel_rfl) (by simp) ?_
  refine ReadyL.cons rfl (fun K hK => ?_) ReadyL.nil
  refine want (by rfl) ?_
  go_simp
  refine hK.out _ _ (fun h => absurd rfl h) (fun _ => ?_)
  clear hK K
  refine doneL (by kernel_rfl) ?_ _
  go_end0
  exact ⟨rfl, HF.out.1, _, HF.out.2.1, HF.out.2.2, _, _, _, rfl⟩

theorem name1_not {y : World} (b o gn : Nat) (k : Int) (hk : k ≠ 1) (c0 : y.cell? ⟨b, o, none⟩ = some (.int .i64 k)) :
    Calls Try.prog 17 #[.pointer (some ⟨b, o, none⟩), .pointer (some ⟨gn, 0, none⟩)] y fun ev y' => ev = .returned (.tuple #[]) ∧ y' = y := by
  have b1 : (k == 1) = false := by simpa using hk
  go_enter Try.func17, Try.ntmps17
  go_wp2_with fail
  go_end0
  exact ⟨rfl, rfl⟩
/-- The names of the lets among these. -/
def letN (d : List St) : List Bs := (d.filter fun s => decide (s.kind = 1)).map St.name
theorem letN_snoc (d : List St) (s : St) : letN (d ++ [s]) = letN d ++ (if s.kind = 1 then [s.name] else []) := by
  unfold letN
  rw [List.filter_append, List.map_append]
  congr 1
  by_cases h : s.kind = 1 <;> simp [h]
theorem letN_len (d : List St) : (letN d).length ≤ d.length := by
  unfold letN
  rw [List.length_map]
  exact List.length_filter_le _ _

/-- All lets of a body, told one by one. -/
theorem lets_any {n : Nat} {K : Ctx} {w0 : World} {gn B : Nat} {T0 : List Bs} (hKB : K.C ≤ B) (hB0 : B ≤ w0.heap.size) (hKg : K.C ≤ gn) {v : Value} {l : List St} (ha : Ar 32 496 (StAt n K w0) K w0 v l) (hm : T0.length + cnt n l ≤ 10000000)
    {u : Value} (h : Nm gn B T0 w0 u) :
    Calls Try.prog 14 #[v, .func (.func 17) #[] #[.pointer (some ⟨gn, 0, none⟩)]] w0 fun ev y' => ev = .returned (.tuple #[]) ∧ Stay (fun k => k = gn ∨ B ≤ k) w0 y' ∧ ∃ v', Nm gn B (T0 ++ letN (l.flatMap (ord n))) y' v' := by
  have hw := walk45_all (K := K) (w0 := w0) (c1 := .pointer (some ⟨gn, 0, none⟩)) (most := cnt n l)
    (P := fun d y => Stay (fun k => k = gn ∨ B ≤ k) w0 y ∧ ∃ v', Nm gn B (T0 ++ letN d) y v') (fun d y h => h.1.below (Nat.le_trans hKB hB0) (fun k hk => by omega))
    (fun d s y b o cs hP hd hc hbK hs => by
      obtain ⟨hst, v', hn⟩ := hP
      obtain ⟨q, hs⟩ := hs
      cases q with
      | zero => exact hs.elim
      | succ q =>
        obtain ⟨ts, ps, vs, os, vt, ve, rfl, h1, _⟩ := hs
        have c0 : y.cell? ⟨b, o, none⟩ = some (.int .i64 s.kind) := hc 0 (by decide)
        have c3 : y.cell? ⟨b, o + 3, none⟩ = some (.string (str s.name)) := hc 3 (by decide)
        have hk := hn.few
        have hsm := K.small
        have hlen := letN_len d
        rw [letN_snoc]
        by_cases hk1 : s.kind = 1
        · rw [if_pos hk1, ← List.append_assoc]
          rw [hk1] at c0
          refine (name1_let hn b o s.name (by omega) (by omega) c0 c3).mono ?_
          rintro _ z ⟨rfl, h2, v2, h3, h4, h5⟩
          have hsz := h2.size
          have hBn := hn.B
          refine ⟨rfl, hst.trans h2, v2, h3, h4, hn.lt, by omega, ?_, h5⟩
          simp only [List.length_append, List.length_cons, List.length_nil]
          omega
        · rw [if_neg hk1, List.append_nil]
          refine (name1_not b o gn s.kind hk1 c0).mono ?_
          rintro _ z ⟨rfl, rfl⟩
          exact ⟨rfl, hst, v', hn⟩)
    n v l [] w0 ha ⟨Stay.refl _ _, u, by simpa [letN] using h⟩ (by simp)
  refine hw.mono ?_
  rintro _ _ ⟨rfl, h1, v', h2⟩
  exact ⟨rfl, h1, v', by simpa using h2⟩
end Go.Proofs.Ytjenmmkamhplkaa
