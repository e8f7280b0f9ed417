/-
  Rows of one's own, grown by parts of other rows.
-/
import Derived.Test.YtjnogpcpekheoaaLas
import Derived.Great.BuildSlice
namespace Go.Proofs.Ytjnogpcpekheoaa
open Go.RowKit Go.Maps

theorem want {c p q : Prop} [Decidable c] (hc : c) (h : p) : if c then p else q := by rw [if_pos hc]; exact h

/-- What may be appended: cells that lie in a row, or nothing. -/
def Src (w : World) (v : Value) (m : Nat) (news : List Value) : Prop :=
  ∃ ao c, v = .slice ao m c ∧ (ao = none → m = 0 ∧ c = 0) ∧ ∀ ad : Addr, ao = some ad → ∀ j u, news[j]? = some u → w.cell? (ad.add j) = some u
theorem Src.below {w w' : World} {v : Value} {m : Nat} {news : List Value} (h : Src w v m news) (hb : Below w.heap.size w w') : Src w' v m news := by
  obtain ⟨ao, c, rfl, h1, h2⟩ := h
  exact ⟨ao, c, rfl, h1, fun ad e j u hu => (hb.cell (p := ad.add j) (World.block_lt_of_cell? w _ (h2 ad e j u hu))).trans (h2 ad e j u hu)⟩

/-- Appending, at the operation itself. -/
theorem wp_app {o : Oper} {a : Act} {K : Act → World → Prop} {Q : Exit → Act → World → Prop} {w : World} (t e : TypeId) (i : TypeInfo) (z : Value) (size bytes : Nat) (ht : Try.prog.underlying t = some (.slice e)) (hi : Try.prog.info? e = some i) (hz : i.zero = some z)
    (hsize : i.size = size) (hby : i.bytes = bytes) (hzs : z.cells.size = size) (hsz : 0 < size) (s x : Operand) (ho : o.op = .call { callee := .builtin .append, args := #[s, x], argTypes := #[t, t] })
    (B g n cap : Nat) (xs : List Value) (hs : a.eval s = .slice (some ⟨g, 0, none⟩) n cap) (hown : w.ownsRow B e size (.slice (some ⟨g, 0, none⟩) n cap) n xs) (hB : B ≤ w.heap.size)
    (vx : Value) (m : Nat) (news : List Value) (hx : a.eval x = vx) (hsrc : Src w vx m news) (hl : news.length = m * size) (h1 : ∀ u ∈ news, u.oneCell' = true) (h63 : n + m ≤ maxLen) (hbytes : (n + m) * bytes ≤ 140737488355328)
    (h : ∀ g' cap' w', w'.ownsRow B e size (.slice (some ⟨g', 0, none⟩) (n + m) cap') (n + m) (xs ++ news) → w.grownBy w' (some g) → K (a.put o.dst (.slice (some ⟨g', 0, none⟩) (n + m) cap')) w') :
    Oper.wp Try.prog o a w K Q := by
  obtain ⟨ao, c, rfl, hnone, hcell⟩ := hsrc
  cases ao with
  | none =>
    obtain ⟨rfl, rfl⟩ := hnone rfl
    obtain rfl : news = [] := List.length_eq_zero_iff.1 (by rw [hl]; omega)
    have hcap : n ≤ cap := by
      rcases hown.2 with ⟨e, _⟩ | ⟨g', cap', cur, e, _, _, hc, _⟩
      · cases e
      · cases e; exact hc
    have hr : (Builtin.append_ #[t, t] o.type #[.slice (some ⟨g, 0, none⟩) n cap, .slice none 0 0]).run Try.prog w = .ok (.slice (some ⟨g, 0, none⟩) n cap) w := by
      simp [Builtin.append_, run_underlying ht, sizeOf, typeInfo, hi, storeCells, Builtin.lenOf, Builtin.firstCells, hcap]
    unfold Oper.wp execOp
    simp only [ho, resolve, invoke, builtin, Sem.run_bind, Sem.run_pure, Result.andThen_ok, List.map_toArray, List.map_cons, List.map_nil, hs, hx, hr]
    have := h g cap w (by rw [Nat.add_zero, List.append_nil]; exact hown) (grown_below (Below.refl _ _) _)
    exact this
  | some ad =>
    obtain ⟨v', w', hr, h2, h3, h4, h5⟩ := run_append_own_at (P := Try.prog) w B t o.type e i z size bytes ht hi hz hsize hby hzs hsz _ n xs hown ad m c news hl (hcell ad rfl) h1 h63 hbytes hB
    unfold Oper.wp execOp
    simp only [ho, resolve, invoke, builtin, Sem.run_bind, Sem.run_pure, Result.andThen_ok, List.map_toArray, List.map_cons, List.map_nil, hs, hx, hr]
    rcases h2.2 with ⟨hv', h0⟩ | ⟨g', cap', cur, rfl, rest⟩
    · exfalso
      have := (h4.1 hv').1
      cases this
    · exact h g' cap' w' h2 h3
/-- Sums. -/
theorem wp_app35 {o : Oper} {a : Act} {K : Act → World → Prop} {Q : Exit → Act → World → Prop} {w : World} (s x : Operand) (ho : o.op = .call { callee := .builtin .append, args := #[s, x], argTypes := #[29, 29] })
    (B g n cap : Nat) (l : List Bys) (hs : a.eval s = .slice (some ⟨g, 0, none⟩) n cap) (hown : w.ownsRow B 35 32 (.slice (some ⟨g, 0, none⟩) n cap) n (rows35 l)) (hB : B ≤ w.heap.size)
    (vx : Value) (m : Nat) (l' : List Bys) (hx : a.eval x = vx) (hsrc : Src w vx m (rows35 l')) (hl : l'.length = m) (h32 : ∀ a ∈ l', a.length = 32) (h63 : n + m ≤ 2000000)
    (h : ∀ g' cap' w', w'.ownsRow B 35 32 (.slice (some ⟨g', 0, none⟩) (n + m) cap') (n + m) (rows35 (l ++ l')) → w.grownBy w' (some g) → K (a.put o.dst (.slice (some ⟨g', 0, none⟩) (n + m) cap')) w') :
    Oper.wp Try.prog o a w K Q := by
  obtain ⟨i0, hi, hz0, hz1, hz2⟩ := info_parts Try.info35z
  refine wp_app 29 35 i0 (.agg z25.toArray) 32 32 Try.underlying29 hi hz0 hz1 hz2 rfl (by decide) s x ho B g n cap _ hs hown hB vx m (rows35 l') hx hsrc ?_ ?_ (by unfold maxLen; omega) (by omega) ?_
  · subst hl
    have : ∀ l : List Bys, (∀ a ∈ l, a.length = 32) → (rows35 l).length = l.length * 32 := by
      intro l
      induction l with
      | nil => intro _; rfl
      | cons a l ih =>
        intro h
        show (bys a ++ rows35 l).length = _
        rw [List.length_append, ih (fun b hb => h b (by simp [hb])), bys_len, h a (by simp), List.length_cons]
        omega
    exact this l' h32
  · intro u hu
    obtain ⟨b, _, hb⟩ := List.mem_flatMap.1 hu
    exact bys_one b u hb
  · intro g' cap' w' hown' hg
    refine h g' cap' w' ?_ hg
    rw [show rows35 (l ++ l') = rows35 l ++ rows35 l' by simp [rows35]]
    exact hown'
/-- Texts. -/
theorem wp_app9 {o : Oper} {a : Act} {K : Act → World → Prop} {Q : Exit → Act → World → Prop} {w : World} (s x : Operand) (ho : o.op = .call { callee := .builtin .append, args := #[s, x], argTypes := #[30, 30] })
    (B g n cap : Nat) (l : List Bys) (hs : a.eval s = .slice (some ⟨g, 0, none⟩) n cap) (hown : w.ownsRow B 9 1 (.slice (some ⟨g, 0, none⟩) n cap) n (strs l)) (hB : B ≤ w.heap.size)
    (vx : Value) (m : Nat) (l' : List Bys) (hx : a.eval x = vx) (hsrc : Src w vx m (strs l')) (hl : l'.length = m) (h63 : n + m ≤ 2000000)
    (h : ∀ g' cap' w', w'.ownsRow B 9 1 (.slice (some ⟨g', 0, none⟩) (n + m) cap') (n + m) (strs (l ++ l')) → w.grownBy w' (some g) → K (a.put o.dst (.slice (some ⟨g', 0, none⟩) (n + m) cap')) w') :
    Oper.wp Try.prog o a w K Q := by
  obtain ⟨i0, hi, hz0, hz1, hz2⟩ := info_parts Try.info9
  refine wp_app 30 9 i0 (.string ⟨#[]⟩) 1 16 Try.underlying30 hi hz0 hz1 hz2 rfl (by decide) s x ho B g n cap _ hs hown hB vx m (strs l') hx hsrc (by rw [strs_len, hl]; omega) (fun u hu => ?_) (by unfold maxLen; omega) (by omega) ?_
  · obtain ⟨b, _, rfl⟩ := List.mem_map.1 hu
    rfl
  · intro g' cap' w' hown' hg
    refine h g' cap' w' ?_ hg
    rw [show strs (l ++ l') = strs l ++ strs l' by simp [strs]]
    exact hown'
/-- A slice of one sum, at the operation itself. -/
theorem wpo_build35 {o : Oper} {a : Act} {K : Act → World → Prop} {Q : Exit → Act → World → Prop} {w : World} (x : Operand) (ho : o.op = .buildSlice 29 1 #[(0, x)]) (L : List Value) (hx : a.eval x = .agg L.toArray) (hL : L.length = 32)
    (h : K (a.put o.dst (.slice (some ⟨w.heap.size, 0, none⟩) 1 1)) (w.alloc (.cells L.toArray 35))) : Oper.wp Try.prog o a w K Q := by
  obtain ⟨i0, hi, hz0, hz1, hz2⟩ := info_parts Try.info35z
  refine wp_buildSlice 29 35 1 _ ho L.toArray i0 (.agg z25.toArray) Try.underlying29 hi hz0 (by rw [hz1]; decide) (by rw [hz1]; decide) ?_ h
  have hw := Go.Great.fill_whole (s := 32) (by decide) [.agg L.toArray] ((Array.range (1 * 32)).map ((Value.agg z25.toArray).cells[· % (Value.agg z25.toArray).cells.size]!)) (by simp [Value.cells, hL]) (by simp)
  rw [hz1]
  simp only [List.map_toArray, List.map_cons, List.map_nil, hx]
  simp only [List.zipIdx_cons, List.zipIdx_nil, List.map_cons, List.map_nil] at hw
  refine Eq.trans hw ?_
  simp [Value.cells]

/-- The part of a slice up to i; the part from i on. -/
def upTo (ao : Option Addr) (i cap : Nat) : Value := .slice ao i cap
def from_ (ao : Option Addr) (size n i cap : Nat) : Value := .slice (if cap = i then ao else ao.map (·.add (i * size))) (n - i) (cap - i)
theorem addr_zero (a : Addr) : a.add 0 = a := by cases a; rfl
section
variable {ops : Array Oper} {S : World → Prop} {o : Oper} {a : Act}
theorem yields_upTo (hw : Region.wanted o (yielded ops a.tmps) = true) (t e : TypeId) (inf : TypeInfo) (ht : Try.prog.underlying t = some (.slice e)) (hi : Try.prog.info? e = some inf) (x k : Operand) (ho : o.op = .slice t x none (some k) none) (ao : Option Addr) (n i cap : Nat)
    (hx : a.eval x = .slice ao n cap) (hk : a.eval k = .int .i64 (i : Int)) (hic : i ≤ cap) : YieldsIf Try.prog ops S o (upTo ao i cap) a := by
  refine .inl ⟨hw, fun y _ => ?_⟩
  unfold execOp upTo
  simp [ho, hx, hk, Instr.sliceAt, Instr.slice, Instr.sliceBounds, Instr.sliceBound, asIntOf, run_underlying ht, sizeOf, typeInfo, hi, hic]
  cases ao <;> simp [addr_zero]
theorem yields_from (hw : Region.wanted o (yielded ops a.tmps) = true) (t e : TypeId) (inf : TypeInfo) (size : Nat) (hsz : inf.size = size) (ht : Try.prog.underlying t = some (.slice e)) (hi : Try.prog.info? e = some inf) (x k : Operand) (ho : o.op = .slice t x (some k) none none) (ao : Option Addr) (n i cap : Nat)
    (hx : a.eval x = .slice ao n cap) (hk : a.eval k = .int .i64 (i : Int)) (hic : i ≤ n) : YieldsIf Try.prog ops S o (from_ ao size n i cap) a := by
  refine .inl ⟨hw, fun y _ => ?_⟩
  unfold execOp from_
  simp [ho, hx, hk, Instr.sliceAt, Instr.slice, Instr.sliceBounds, Instr.sliceBound, asIntOf, run_underlying ht, sizeOf, typeInfo, hi, hic, hsz]
  try (intro h; omega)
end

theorem src_upTo {w : World} {B e size n i cap : Nat} {ao : Option Addr} {xs : List Value} (h : w.ownsRow B e size (.slice ao n cap) n xs) (hi : i ≤ n) : Src w (upTo ao i cap) i (xs.take (i * size)) := by
  refine ⟨ao, cap, rfl, fun e => ?_, fun ad e j u hu => ?_⟩
  · subst e
    rcases h.2 with ⟨e, h0⟩ | ⟨g, cap', cur, e, _⟩
    · cases e; omega
    · cases e
  · subst e
    have hx : xs[j]? = some u := by
      rw [List.getElem?_take] at hu
      split at hu
      · exact hu
      · cases hu
    have hj : j < n * size := by
      have := (List.getElem?_eq_some_iff.1 hx).1
      rw [h.1] at this; exact this
    rcases h.2 with ⟨e, _⟩ | ⟨g, cap', cur, e, rest⟩
    · cases e
    · cases e
      rw [addr_add, Nat.zero_add, World.ownsRow.cellAt h j hj]
      exact hx
theorem src_from {w : World} {B e size n i cap : Nat} {ao : Option Addr} {xs : List Value} (h : w.ownsRow B e size (.slice ao n cap) n xs) (hi : i ≤ n) : Src w (from_ ao size n i cap) (n - i) (xs.drop (i * size)) := by
  unfold from_
  refine ⟨_, _, rfl, fun e => ?_, fun ad e j u hu => ?_⟩
  · rcases h.2 with ⟨e', h0⟩ | ⟨g, cap', cur, e', _, _, hc, _⟩
    · cases e'; omega
    · cases e'
      split at e
      · cases e
      · cases e
  · have hx : xs[i * size + j]? = some u := by rw [List.getElem?_drop] at hu; exact hu
    have hj : i * size + j < n * size := by
      have := (List.getElem?_eq_some_iff.1 hx).1
      rw [h.1] at this; exact this
    rcases h.2 with ⟨e', h0⟩ | ⟨g, cap', cur, e', _, _, hc, _⟩
    · cases e'; omega
    · cases e'
      have hlt : i < n := by
        rcases Nat.lt_or_ge i n with h' | h'
        · exact h'
        · have : n * size ≤ i * size := Nat.mul_le_mul_right _ h'
          omega
      rw [if_neg (by omega)] at e
      have e2 : ad = (⟨g, 0, none⟩ : Addr).add (i * size) := (Option.some.inj e).symm
      subst e2
      rw [addr_add, addr_add, Nat.zero_add, World.ownsRow.cellAt h _ hj]
      exact hx
theorem rows35_take (l : List Bys) (h : ∀ a ∈ l, a.length = 32) (i : Nat) : (rows35 l).take (i * 32) = rows35 (l.take i) ∧ (rows35 l).drop (i * 32) = rows35 (l.drop i) := by
  have hsplit : rows35 l = rows35 (l.take i) ++ rows35 (l.drop i) := by
    unfold rows35
    rw [← List.flatMap_append, List.take_append_drop]
  by_cases hi : i ≤ l.length
  · have hlen : (rows35 (l.take i)).length = i * 32 := by
      have : ∀ l : List Bys, (∀ a ∈ l, a.length = 32) → (rows35 l).length = l.length * 32 := by
        intro l
        induction l with
        | nil => intro _; rfl
        | cons a l ih =>
          intro h
          show (bys a ++ rows35 l).length = _
          rw [List.length_append, ih (fun b hb => h b (by simp [hb])), bys_len, h a (by simp), List.length_cons]
          omega
      rw [this _ (fun a ha => h a (List.mem_of_mem_take ha)), List.length_take]
      omega
    rw [hsplit]
    exact ⟨by rw [List.take_append_of_le_length (by omega), List.take_of_length_le (by omega)], by rw [List.drop_append_of_le_length (by omega), List.drop_of_length_le (by omega), List.nil_append]⟩
  · have hlen : (rows35 l).length ≤ i * 32 := by
      have : ∀ l : List Bys, (∀ a ∈ l, a.length = 32) → (rows35 l).length = l.length * 32 := by
        intro l
        induction l with
        | nil => intro _; rfl
        | cons a l ih =>
          intro h
          show (bys a ++ rows35 l).length = _
          rw [List.length_append, ih (fun b hb => h b (by simp [hb])), bys_len, h a (by simp), List.length_cons]
          omega
      rw [this l h]; omega
    rw [List.take_of_length_le hlen, List.drop_of_length_le hlen, List.take_of_length_le (by omega), List.drop_of_length_le (by omega)]
    exact ⟨rfl, rfl⟩
theorem strs_take (l : List Bys) (i : Nat) : (strs l).take (i * 1) = strs (l.take i) ∧ (strs l).drop (i * 1) = strs (l.drop i) := by simp [strs, List.map_take, List.map_drop]
/-- A slice of one, fresh. -/
theorem src_one35 {w : World} {g : Nat} {b : Bys} (h : w.rangeAt g 0 (bys b)) : Src w (.slice (some ⟨g, 0, none⟩) 1 1) 1 (rows35 [b]) := by
  refine ⟨_, _, rfl, fun e => (by cases e), fun ad e j u hu => ?_⟩
  cases e
  rw [addr_add]
  exact h j u (by simpa [rows35] using hu)
theorem src_one9 {w : World} {g : Nat} {b : Bys} (h : w.cell? ⟨g, 0, none⟩ = some (.string (str b))) : Src w (.slice (some ⟨g, 0, none⟩) 1 1) 1 (strs [b]) := by
  refine ⟨_, _, rfl, fun e => (by cases e), fun ad e j u hu => ?_⟩
  cases e
  rw [addr_add]
  rcases j with _ | j
  · simp [strs] at hu; rw [← hu]; exact h
  · simp [strs] at hu
end Go.Proofs.Ytjnogpcpekheoaa
