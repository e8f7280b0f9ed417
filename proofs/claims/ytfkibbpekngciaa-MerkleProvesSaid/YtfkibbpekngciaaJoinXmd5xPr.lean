/-
  The texts Xmd, Xtf, Cls, B42, Opn, joined.
-/
import Derived.Test.YtfkibbpekngciaaQPrXsd
import Derived.Test.YtfkibbpekngciaaQPrXtr
import Derived.Test.YtfkibbpekngciaaQPrSme
import Derived.Test.YtfkibbpekngciaaJoinFew2xPr
import Derived.Test.YtfkibbpekngciaaQPrExt
import Derived.Test.YtfkibbpekngciaaQPrTol
import Derived.Test.YtfkibbpekngciaaQPrR08
import Derived.Test.YtfkibbpekngciaaJoinNum2xPr
import Derived.WalkKit
import Derived.ProofKit
import Derived.OpenShut
import Derived.ChangeMaps5
/- The document's own made. -/
namespace Go.Proofs.Ytfkibbpekngciaa
open Go.RowKit

theorem climb_brief (F : Bys → Bys) (hF : ∀ l, (F l).length = 32) : ∀ (xs : List (Bool × Bys)) (t : Bys), (∀ x ∈ xs, x.2.length = 32) → t.length ≤ 10000 → ∀ j, ((climb F t xs).getD j []).length ≤ 10000
  | [], t, _, ht, j => by
    rcases j with _ | j
    · exact ht
    · simp [climb, List.getD]
  | x :: r, t, h, ht, j => by
    rcases j with _ | j
    · exact ht
    · have := climb_brief F hF r (node x (F t)) (fun y hy => h y (by simp [hy])) (by rw [node_len x _ (h x (by simp)) (hF _)]; omega) j
      simpa [climb, List.getD] using this

set_option maxHeartbeats 1000000 in
theorem made_no1 (w : World) (bv : Value) (i n : Int) (ao : Option Addr) (l c : Nat) (h : ¬ (0 ≤ i ∧ i < n)) :
    Calls Try.prog 32 #[bv, .agg #[.int .i64 i, .int .i64 n, .slice ao l c]] w fun ev w' => ev = .returned (.tuple #[.slice none 0 0, .bool false]) ∧ Below w.heap.size w w' := by
  have hA := new_below w (.cells #[.int .i64 i, .int .i64 n, .slice ao l c] 30)
  have HA : Hid (Below w.heap.size w (w.alloc (.cells #[.int .i64 i, .int .i64 n, .slice ao l c] 30))) := hA
  clear hA
  by_cases h0 : i < 0
  · clear h
    go_enter Try.func32, Try.ntmps32
    go_wp2_with fail
    go_ret2
    exact ⟨rfl, HA.out⟩
  · have h1 : n ≤ i := by omega
    have h2 : 0 ≤ i := by omega
    clear h h0
    go_enter Try.func32, Try.ntmps32
    go_wp2_with fail
    go_ret2
    exact ⟨rfl, HA.out⟩
set_option maxHeartbeats 1000000 in
theorem made_no2 (w : World) (bv : Value) (i n : Nat) (ao : Option Addr) (l c : Nat) (hi : i < n) (hn : n ≤ 9223372036854775807) (h : (lefts i n).length ≠ l) :
    Calls Try.prog 32 #[bv, .agg #[.int .i64 (i : Int), .int .i64 (n : Int), .slice ao l c]] w fun ev w' => ev = .returned (.tuple #[.slice none 0 0, .bool false]) ∧ Below w.heap.size w w' := by
  have hA := new_below w (.cells #[.int .i64 (i : Int), .int .i64 (n : Int), .slice ao l c] 30)
  have R0 : Row (w.alloc (.cells #[.int .i64 (i : Int), .int .i64 (n : Int), .slice ao l c] 30)) w.heap.size 30 [.int .i64 (i : Int), .int .i64 (n : Int), .slice ao l c] := Row.new w 30 _
  have HS := sides_any (w.alloc (.cells #[.int .i64 (i : Int), .int .i64 (n : Int), .slice ao l c] 30)) n i hi hn
  have HA : Hid (Below w.heap.size w (w.alloc (.cells #[.int .i64 (i : Int), .int .i64 (n : Int), .slice ao l c] 30))) := hA
  generalize (lefts i n).length = m at *
  generalize bos ((lefts i n).map (!·)) = Z at *
  have h1 : (i : Int) < (n : Int) := by omega
  have h2 : (0 : Int) ≤ (i : Int) := by omega
  have h3 : ((m : Int) != (l : Int)) = true := by simp; omega
  have h4 : ¬ (m : Int) = (l : Int) := by omega
  clear hA
  go_enter Try.func32, Try.ntmps32
  go_wp2_with (first | (go_at_call 50; refine HS.mono ?_; rintro ev w2 ⟨v2, rfl, ho2, hb2⟩; obtain ⟨a2, c2, rfl⟩ := own_shape' ho2; have q2 := (R0.below hb2 R0.lt).cell 2; simp only [List.getElem?_cons_zero, List.getElem?_cons_succ] at q2))
  go_ret2
  exact ⟨rfl, nextB HA.out hb2⟩
end Go.Proofs.Ytfkibbpekngciaa

/- What is known of two texts that Extract tells. -/
namespace Go.Proofs.Ytfkibbpekngciaa
open Go.RowKit

theorem diff_mem : ∀ {xs ys : List Bys} {x y : Bys}, diff xs ys = some (x, y) → x ∈ xs ∧ y ∈ ys
  | [], _, _, _, h => by simp [diff] at h
  | _ :: _, [], _, _, h => by simp [diff] at h
  | a :: xs, b :: ys, x, y, h => by
    unfold diff at h
    by_cases e : a = b
    · rw [if_pos e] at h
      have := diff_mem h
      exact ⟨by simp [this.1], by simp [this.2]⟩
    · rw [if_neg e] at h; cases h; exact ⟨by simp, by simp⟩
theorem texts_brief (F : Bys → Bys) (hF : ∀ l, (F l).length = 32) (b : Bys) (i n : Nat) (P : List Bys) (hb : b.length ≤ 1000) (hP : ∀ p ∈ P, p.length = 32) : ∀ x ∈ texts F b i n P, x.length ≤ 10000 := by
  intro x hx
  unfold texts at hx
  rcases List.mem_append.1 hx with h | h
  · obtain ⟨j, hj, rfl⟩ := List.mem_iff_getElem.1 h
    have := climb_brief F hF ((lefts i n).zip P) (0 :: b) (fun x hx => hP _ (List.of_mem_zip hx).2) (by simp; omega) j
    simpa [List.getD, List.getElem?_eq_getElem hj] using this
  · rw [List.mem_singleton.1 h]
    have := hF (lastT (climb F (0 :: b) ((lefts i n).zip P)))
    simp [rootT, be8, this]
structure Clash (F : Bys → Bys) (s t : Bys) : Prop where
  ne : s ≠ t
  sum : F s = F t
  ls : s.length ≤ 10000
  lt : t.length ≤ 10000
theorem xtr_clash (F : Bys → Bys) (hF : ∀ l, (F l).length = 32) (L : List Bys) (b : Bys) (i n : Int) (P : List Bys) (hn : n ≤ 9223372036854775807) (hL : L.length ≤ 1000000) (hb : b.length ≤ 1000) (hE : ∀ b ∈ L, b.length ≤ 1000) (hP : ∀ p ∈ P, p.length = 32) {s t : Bys} (h : xtr F L b i n P = some (s, t)) : Clash F s t := by
  unfold xtr at h
  split at h
  · rename_i hc
    obtain ⟨h0, h1, h2, h3⟩ := hc
    unfold chk at h2
    rw [Bool.and_eq_true] at h2
    have hf : Form i n P := @of_decide_eq_true _ (decForm _ _ _) h2.1
    have hm := diff_mem h
    refine ⟨diff_ne h, extract_sum F hF L b i.toNat n.toNat P (by omega) (by omega) (by omega) hP hf.2.2 h2.2 s t h, ?_, ?_⟩
    · exact texts_brief F hF b _ _ P hb hP s (by simpa using hm.1)
    · refine texts_brief F hF _ _ _ (path F L i.toNat) ?_ (path_mem F hF L _) t (by simpa using hm.2)
      have hi : i.toNat < L.length := by omega
      exact hE _ (by simp [List.getElem?_eq_getElem hi])
  · cases h
/-- Extract tells two texts of a proof that is right, but of the leaf's own. -/
theorem xtr_right (F : Bys → Bys) (L : List Bys) (b : Bys) (i n : Int) (P : List Bys) (hn : n ≤ 9223372036854775807) (hL : L.length ≤ 1000000) (hi : i < (L.length : Int)) (hne : ¬ (n = (L.length : Int) ∧ b = L.getD i.toNat [])) : (xtr F L b i n P).isSome = chk F (root F L) b i n P := by
  by_cases hc : chk F (root F L) b i n P = true
  · rw [hc]
    have hc' := hc
    unfold chk at hc'
    rw [Bool.and_eq_true] at hc'
    have hf : Form i n P := @of_decide_eq_true _ (decForm _ _ _) hc'.1
    unfold xtr
    rw [if_pos ⟨hf.1, hi, hc, hne⟩]
    refine extract_some F L b _ _ P (by omega) (by omega) hf.2.2 (fun h => hne ⟨?_, h.2⟩)
    have := hf.1
    have := hf.2.1
    omega
  · have hc' : chk F (root F L) b i n P = false := by simpa using hc
    rw [hc']
    unfold xtr
    rw [if_neg (fun h => hc h.2.2.1)]
    rfl
end Go.Proofs.Ytfkibbpekngciaa

/- clashes. -/
namespace Go.Proofs.Ytfkibbpekngciaa
open Go.RowKit

theorem str_apart {a b : Bys} (h : a ≠ b) : ((str a).toList == (str b).toList) = false := by rw [str_list, str_list]; simpa using h

set_option maxHeartbeats 4000000 in
set_option maxRecDepth 20000 in
theorem clashes_any (F : Bys → Bys) (E : Env2 F) (w : World) (lv bv pv : Value) (L : List Bys) (b : Bys) (i n : Int) (P : List Bys) (hL : Ls w lv L) (hs : Short L) (hE : ∀ b ∈ L, b.length ≤ 1000) (h9 : L.length ≤ 1000000) (hb : Sl w bv b) (hbl : b.length ≤ 1000) (hn : n ≤ 9223372036854775807) (hP : Hs w pv P) :
    Calls Try.prog 19 #[lv, bv, .agg #[.int .i64 i, .int .i64 n, pv]] w fun ev w' => ev = .returned (.bool (xtr F L b i n P).isSome) ∧ Below w.heap.size w w' := by
  obtain ⟨ap, cpp, rfl⟩ := hP.slice
  obtain ⟨W, hW⟩ : ∃ W, W = w.alloc (.cells #[.int .i64 i, .int .i64 n, .slice ap P.length cpp] 30) := ⟨_, rfl⟩
  have hA : Below w.heap.size w W := by rw [hW]; exact (Below.refl w.heap.size w).alloc (Nat.le_refl _) _
  have R3 : Row W w.heap.size 30 [.int .i64 i, .int .i64 n, .slice ap P.length cpp] := by rw [hW]; exact Row.new w 30 _
  have HT := extract_any F E.toEnv W lv bv _ L b i n P (hL.below hA) hs h9 (hb.below hA) (by omega) hn (hP.below hA)
  have HC : Hid (∀ s t, xtr F L b i n P = some (s, t) → Clash F s t) := fun s t h => xtr_clash F E.len L b i n P hn h9 hbl hE hP.each h
  have AW : Aside (W = w.alloc (.cells #[.int .i64 i, .int .i64 n, .slice ap P.length cpp] 30)) := hW
  have HA : Hid (Below w.heap.size w W) := hA
  clear hW hA hb hP hL hE hs
  generalize xtr F L b i n P = res at *
  go_enter Try.func19, Try.ntmps19
  go_wp2_with (first | (rw [← AW.out]; refine load30r rfl _ rfl w.heap.size _ _ _ rfl R3 ?_))
  refine HT.mono ?_
  rintro ev w2 ⟨x0, y0, t0, rfl, hT2, hB2⟩
  have HB2 : Hid _ := nextB HA.out hB2
  rcases hT2 with ⟨rfl, rfl, rfl, rfl⟩ | ⟨s, u, rfl, rfl, hs1, hs2⟩
  · clear HT HC hB2 R3
    go_wp2_with fail
    go_ret
    exact ⟨rfl, HB2.out⟩
  · have hC := HC.out s u rfl
    have v1 := conv_sl w2 _ _ hs1
    have v2 := conv_sl w2 _ _ hs2
    have hne := str_apart hC.ne
    have S1 := E.xsum w2 _ s hs1 (by have := hC.ls; omega)
    have S2 : Hid (∀ y, Below w2.heap.size w2 y → Calls Try.prog 22 #[y0] y fun ev w' => ev = .returned (.agg (bys (F u)).toArray) ∧ Below y.heap.size y w') := fun y hy => E.xsum y _ u (hs2.below hy) (by have := hC.lt; omega)
    have hFs := E.len s
    have he : ∀ y, (Op.equalIn 10000 26 (.agg (bys (F s)).toArray) (.agg (bys (F u)).toArray)).run Try.prog y = .ok true y := fun y => by rw [equ25 y _ _ hFs (E.len u), hC.sum, beq_self_eq_true]
    clear HT HC hB2 R3 hs1 hs2 hC
    generalize (bys (F s)).toArray = Y1 at *
    generalize (bys (F u)).toArray = Y2 at *
    go_wp2_with fail
    refine S1.mono ?_
    rintro ev w3 ⟨rfl, hb3⟩
    go_wp2_with fail
    refine (S2.out _ hb3).mono ?_
    rintro ev w4 ⟨rfl, hb4⟩
    go_wp2_with fail
    go_ret
    exact ⟨rfl, nextB (nextB HB2.out hb3) hb4⟩
end Go.Proofs.Ytfkibbpekngciaa

/- A slice of two proofs. -/
namespace Go.Proofs.Ytfkibbpekngciaa
open Go.RowKit

/-- A new slice of two proofs. -/
theorem build42 {ops : Array Oper} {rest : List Oper} {o : Oper} {a : Act} {w : World} {Q : Exit → Act → World → Prop} (hgd : o.guard = none) (x y : Operand) (ho : o.op = .buildSlice 42 2 #[(0, x), (1, y)])
    (p q r p' q' r' : Value) (hx : a.eval x = .agg #[p, q, r]) (hy : a.eval y = .agg #[p', q', r'])
    (k : ∀ w2 g, Below w.heap.size w w2 → Row w2 g 30 [p, q, r, p', q', r'] → wpList Try.prog ops Q rest (a.put o.dst (.slice (some ⟨g, 0, none⟩) 2 2)) w2) : wpList Try.prog ops Q (o :: rest) a w := by
  obtain ⟨i0, hi, hz0, hz1, hz2⟩ := info_parts Try.info30z
  refine wpList_plain hgd fun _ hK => wp_buildSlice 42 30 2 _ ho #[p, q, r, p', q', r'] i0 (.agg #[.int .i64 0, .int .i64 0, .slice none 0 0]) Try.underlying42 hi hz0 (by rw [hz1]; decide) (by rw [hz1]; decide) ?_ (hK _ _ (k _ _ ((Below.refl _ _).alloc (Nat.le_refl _) _) (Row.new w 30 [p, q, r, p', q', r'])))
  have hw := Go.Great.fill_whole (s := 3) (by decide) [.agg #[p, q, r], .agg #[p', q', r']] ((Array.range (2 * 3)).map ((Value.agg #[.int .i64 0, .int .i64 0, .slice none 0 0]).cells[· % (Value.agg #[.int .i64 0, .int .i64 0, .slice none 0 0]).cells.size]!)) (by intro v hv; simp at hv; rcases hv with rfl | rfl <;> simp [Value.cells]) (by simp)
  rw [hz1]
  simp only [List.map_toArray, List.map_cons, List.map_nil, hx, hy]
  simp only [List.zipIdx_cons, List.zipIdx_nil, List.map_cons, List.map_nil] at hw
  refine Eq.trans hw ?_
  simp [Value.cells]
theorem row_mid0 {w : World} {g : Nat} {p q r p' q' r' : Value} (h : Row w g 30 [p, q, r, p', q', r']) : w.rangeAt g 0 [p, q, r] := fun j u hj => by
  have := h.cell (0 + j)
  rw [this]
  rcases j with _ | _ | _ | j <;> simp_all
theorem row_mid3 {w : World} {g : Nat} {p q r p' q' r' : Value} (h : Row w g 30 [p, q, r, p', q', r']) : w.rangeAt g 3 [p', q', r'] := fun j u hj => by
  have := h.cell (3 + j)
  rw [this]
  rcases j with _ | _ | _ | j <;> simp_all
end Go.Proofs.Ytfkibbpekngciaa

/- How the statements' arguments are read: integers, hashes, texts. -/
namespace Go.Proofs.Ytfkibbpekngciaa
open Go.ChangeShapes Go.WideShapes Go.ChangeAt Go.RowKit

theorem Try.own : ownKnob Try.prog.godebug = none := by kernel_rfl
theorem Try.laidOut : laidOutB Try.prog = true := by kernel_rfl
theorem u8_in {a : Int} (h : (Lit.int .u8 a).wf = true) : 0 ≤ a ∧ a < 256 := by
  have e1 : IntKind.u8.min = 0 := by decide
  have e2 : IntKind.u8.max = 255 := by decide
  simp [Lit.wf, e1, e2] at h; omega
theorem i64_in {a : Int} (h : (Lit.int .i64 a).wf = true) : -9223372036854775808 ≤ a ∧ a ≤ 9223372036854775807 := by
  have e1 : IntKind.i64.min = -9223372036854775808 := by decide
  have e2 : IntKind.i64.max = 9223372036854775807 := by decide
  simp [Lit.wf, e1, e2] at h; omega
theorem Try.cells26 : Try.prog.cellsOf 26 = 32 := by kernel_rfl
theorem Try.cells5 : Try.prog.cellsOf 5 = 1 := by kernel_rfl
theorem one_at {cs : List Value} {j : Nat} {v : Value} (h : (cs.drop j).take 1 = [v]) : cs[j]? = some v := by
  have := congrArg (fun l => l[0]?) h
  simpa [List.getElem?_take, List.getElem?_drop] using this

section
variable {H : Type} {enc : TypeId × Value → H} {w : World} {base : Nat} {spare : Nat → Bool} {held : Bool} {fuel : Nat} {x : DataW H × List MemPlace}
/-- A row of bytes. -/
theorem hash_of_trod {cs : List Value} (h : DataW.trod enc Try.prog w base spare held fuel 26 cs = some x) : ∃ l : List UInt8, l.length = 32 ∧ cs = bys l := by
  obtain ⟨xs, m, _, _, hl, hlen, hf⟩ := DataW.trod_array Try.underlying26 h
  rw [Try.cells26] at hl
  have key : ∀ i, i < 32 → ∃ b : UInt8, cs[i]? = some (.int .u8 (b.toNat : Int)) := by
    intro i hi
    have hi' := hf i hi
    rw [Try.cells5, Nat.mul_one, List.getElem?_eq_getElem (by omega)] at hi'
    obtain ⟨n, hn, _, hw⟩ := DataW.trod_int Try.underlying5 hi'
    obtain ⟨h0, h1⟩ := u8_in hw
    refine ⟨UInt8.ofNat n.toNat, ?_⟩
    rw [one_at hn]
    have : ((UInt8.ofNat n.toNat).toNat : Int) = n := by simp; omega
    rw [this]
  refine ⟨cs.map (fun | .int _ n => UInt8.ofNat n.toNat | _ => 0), by simp [hl], ?_⟩
  apply List.ext_getElem?
  intro i
  rcases Nat.lt_or_ge i 32 with hi | hi
  · obtain ⟨b, hb⟩ := key i hi
    simp [bys, hb]
  · rw [List.getElem?_eq_none (by omega), List.getElem?_eq_none (by simp [bys]; omega)]
end

set_option maxRecDepth 100000 in
theorem open_hash {H : Type} {enc : TypeId × Value → H} {W : World} {base : Nat} {v : Value} {d : DataW H} {p : List MemPlace} (hv : Value.okWide Try.prog W .any base 26 v) (h : DataW.Trod enc Try.prog W 0 (fun _ => true) true 26 v d p) :
    ∃ l : List UInt8, l.length = 32 ∧ v = .agg (bys l).toArray := by
  obtain ⟨cs, rfl⟩ : ∃ cs, v = .agg cs := by
    simp only [Value.okWide, Try.underlying26] at hv
    cases v <;> simp_all
  obtain ⟨fuel, hf⟩ := h
  obtain ⟨l, hl, hcs⟩ := hash_of_trod hf
  refine ⟨l, hl, ?_⟩
  rw [← hcs]; simp [Value.cells]
end Go.Proofs.Ytfkibbpekngciaa
