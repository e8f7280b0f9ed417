/-
  The texts Rev, Err, joined.
-/
import Derived.Test.YtfkibbpekngciaaJoinLas2xEx
import Derived.Shelf.SlicesQ.Reverse
import Derived.Shelf.SlicesE.Reverse
import Derived.Ground.SlgnProg
import Derived.Test.YtfkibbpekngciaaJoinNum2xEx
/- slices.Reverse of sums, of bools, of slices. -/
namespace Go.Proofs
open Go.Shelf Go.RowKit Go.Lib Go.Sort
def Try.revH_ren : Go.Shelf.Ren := ⟨fun | 35 => 48 | n => n, fun | 22 => 28 | 23 => 26 | 3 => 3 | 4 => 4 | 0 => 0 | n => n, fun | n => n⟩
theorem Try.revH : Go.Proofs.SlLaysE0.n35 Try.prog Try.revH_ren := {
  mixed := by kernel_rfl
  f35 := ⟨Try.f48.name, by decide, Try.func48.trans (congrArg some (by kernel_rfl))⟩
  t0 := Try.underlying0
  a0 := Try.isAgg0
  z0 := Try.sizeOf0
  v0 := Try.zeroValue0
  t3 := Try.underlying3
  a3 := Try.isAgg3
  z3 := Try.sizeOf3
  v3 := Try.zeroValue3
  t4 := Try.underlying4
  a4 := Try.isAgg4
  z4 := Try.sizeOf4
  v4 := Try.zeroValue4
  t22 := Try.underlying28
  a22 := Try.isAgg28
  z22 := Try.sizeOf28
  v22 := Try.zeroValue28 }
def Try.revB_ren : Go.Shelf.Ren := ⟨fun | 35 => 58 | n => n, fun | 22 => 88 | 23 => 4 | 3 => 3 | 4 => 4 | 0 => 0 | n => n, fun | n => n⟩
theorem Try.revB : Go.Proofs.SlLaysE.n35 Try.prog Try.revB_ren := {
  mixed := by kernel_rfl
  f35 := ⟨Try.f58.name, by decide, Try.func58.trans (congrArg some (by kernel_rfl))⟩
  t0 := Try.underlying0
  a0 := Try.isAgg0
  z0 := Try.sizeOf0
  v0 := Try.zeroValue0
  t3 := Try.underlying3
  a3 := Try.isAgg3
  z3 := Try.sizeOf3
  v3 := Try.zeroValue3
  t4 := Try.underlying4
  a4 := Try.isAgg4
  z4 := Try.sizeOf4
  v4 := Try.zeroValue4
  t22 := Try.underlying88
  a22 := Try.isAgg88
  z22 := Try.sizeOf88
  v22 := Try.zeroValue88
  a23 := Try.isAgg4
  z23 := Try.sizeOf4 }
def Try.revS_ren : Go.Shelf.Ren := ⟨fun | 35 => 59 | n => n, fun | 22 => 22 | 23 => 39 | 3 => 3 | 4 => 4 | 0 => 0 | n => n, fun | n => n⟩
theorem Try.revS : Go.Proofs.SlLaysE.n35 Try.prog Try.revS_ren := {
  mixed := by kernel_rfl
  f35 := ⟨Try.f59.name, by decide, Try.func59.trans (congrArg some (by kernel_rfl))⟩
  t0 := Try.underlying0
  a0 := Try.isAgg0
  z0 := Try.sizeOf0
  v0 := Try.zeroValue0
  t3 := Try.underlying3
  a3 := Try.isAgg3
  z3 := Try.sizeOf3
  v3 := Try.zeroValue3
  t4 := Try.underlying4
  a4 := Try.isAgg4
  z4 := Try.sizeOf4
  v4 := Try.zeroValue4
  t22 := Try.underlying22
  a22 := Try.isAgg22
  z22 := Try.sizeOf22
  v22 := Try.zeroValue22
  a23 := Try.isAgg39
  z23 := Try.sizeOf39 }
end Go.Proofs
namespace Go.Proofs.Ytfkibbpekngciaa
open Go.RowKit

/-- A row that is put anew turns its own block alone. -/
theorem grown_putRow {α : Type} [Inhabited α] (enc : α → Value) (w : World) (n g off : Nat) (d : Array α) : w.grownBy (Sort.putRow enc (Sort.ahead w n) g off d) (some g) := by
  refine ⟨rfl, rfl, rfl, ?_, fun k _ hk => ?_⟩
  · simp [Sort.putRow, Sort.mapBlock, Sort.ahead]
  · simp only [Sort.putRow, Sort.mapBlock, Sort.ahead]
    rw [Array.getElem?_modify, if_neg (fun e => hk (by rw [e]))]

theorem own_of_range {w : World} {B e s g cap n : Nat} {xs : List Value} {cur : Array Value} (hg : w.heap[g]? = some (.cells cur e (0, 0))) (hB : B ≤ g) (h1 : xs.length = n * s) (hc : n ≤ cap) (hm : cap ≤ maxLen) (hsz : cur.size = cap * s) (hr : w.rangeAt g 0 xs) :
    w.ownsRow B e s (.slice (some ⟨g, 0, none⟩) n cap) n xs := by
  refine ⟨h1, .inr ⟨g, cap, cur, rfl, hB, hg, hc, hm, hsz, ?_⟩⟩
  have hle : n * s ≤ cap * s := Nat.mul_le_mul_right s hc
  apply List.ext_getElem?
  intro j
  rcases Nat.lt_or_ge j (n * s) with hj | hj
  · rw [List.getElem?_take_of_lt hj]
    have := hr j _ (List.getElem?_eq_getElem (by omega))
    rw [Nat.zero_add, cell_of_row w g j cur e (0, 0) hg] at this
    rw [List.getElem?_eq_getElem (show j < xs.length by omega), ← this]
    simp
  · rw [List.getElem?_eq_none (by simp; omega), List.getElem?_eq_none (by omega)]
theorem putRow_heap {α : Type} [Inhabited α] (enc : α → Value) (w : World) (n g : Nat) (d : Array α) (cur : Array Value) (t : Nat) (h : w.heap[g]? = some (.cells cur t (0, 0))) : ∃ cur' : Array Value, cur'.size = cur.size ∧ (Sort.putRow enc (Sort.ahead w n) g 0 d).heap[g]? = some (.cells cur' t (0, 0)) := by
  refine ⟨Sort.putCells enc 0 d cur, by simp [Sort.putCells], ?_⟩
  simp only [Sort.putRow, Sort.mapBlock, Sort.ahead]
  rw [Array.getElem?_modify, if_pos rfl, h]
  rfl
abbrev Hsh := { l : Bys // l.length = 32 }
def encH (x : Hsh) : List Value := bys x.1
def toH [Inhabited Hsh] (a : Bys) : Hsh := if h : a.length = 32 then ⟨a, h⟩ else default
theorem toH_val [Inhabited Hsh] {a : Bys} (h : a.length = 32) : (toH a).1 = a := by unfold toH; rw [dif_pos h]
def arrH [Inhabited Hsh] (ks : List Bys) : Array Hsh := (ks.map toH).toArray
theorem arrH_size [Inhabited Hsh] (ks : List Bys) : (arrH ks).size = ks.length := by simp [arrH]
theorem arrH_get [Inhabited Hsh] (ks : List Bys) (h : ∀ a ∈ ks, a.length = 32) (q : Nat) (hq : q < ks.length) : encH ((arrH ks)[q]!) = bys (ks.getD q []) := by
  have e : (arrH ks)[q]! = toH (ks.getD q []) := by
    simp [arrH, List.getD, List.getElem?_eq_getElem hq]
  rw [e, encH, toH_val]
  have : ks.getD q [] ∈ ks := by simp [List.getD, List.getElem?_eq_getElem hq]
  exact h _ this
theorem arrH_rev [Inhabited Hsh] (ks : List Bys) : (arrH ks).reverse = arrH ks.reverse := by simp [arrH]
theorem bang_of {L : List Value} {c : Nat} (h : c < L.length) : L[c]? = some (L[c]!) := by
  simp [List.getElem?_eq_getElem h, List.getElem!_eq_getElem?_getD]
theorem flatH_at [Inhabited Hsh] (ks : List Bys) (h : ∀ a ∈ ks, a.length = 32) (j : Nat) (hj : j < ks.length * 32) : (rows26 ks)[j]? = some ((Sort.flatK encH 32 (arrH ks))[j]!) := by
  have hq : j / 32 < ks.length := by omega
  have hc : j % 32 < 32 := by omega
  have hjj : j / 32 * 32 + j % 32 = j := by omega
  have hm : ks.getD (j / 32) [] ∈ ks := by simp [List.getD, List.getElem?_eq_getElem hq]
  rw [Sort.get_flatK _ _ _ _ (by rw [arrH_size]; exact hj), arrH_get ks h _ hq, ← bang_of (by rw [bys_len, h _ hm]; exact hc), ← flat_get ks h _ _ hq hc, hjj]
theorem holdsH_of [Inhabited Hsh] {w : World} {B g cap : Nat} {ks : List Bys} (hown : w.ownsRow B 26 32 (.slice (some ⟨g, 0, none⟩) ks.length cap) ks.length (rows26 ks)) (h : ∀ a ∈ ks, a.length = 32) : Sort.HoldsK encH 32 w g 0 (arrH ks) := by
  intro j hj
  rw [Sort.size_flatK, arrH_size] at hj
  have hf : w.frozen? ⟨g, 0 + j, none⟩ = false := by
    rcases hown.2 with ⟨e, _⟩ | ⟨g', cap', cur, e, _, hgg, _⟩
    · cases e
    · cases e
      simp [World.frozen?, hgg]
  refine ⟨?_, hf⟩
  rw [Nat.zero_add, hown.cellAt j (by omega), flatH_at ks h j hj]; rfl
theorem agg26 (w : World) : (isAgg 26).run Try.prog w = .ok true w := by kernel_rfl
theorem sizeOf26 (w : World) : (Go.sizeOf 26).run Try.prog w = .ok 32 w := by kernel_rfl
set_option maxRecDepth 20000 in
theorem revH_any0 [Inhabited Hsh] (w : World) (B : Nat) (v : Value) (P : List Bys) (hown : w.ownsRow B 26 32 v P.length (rows26 P)) (h32 : ∀ p ∈ P, p.length = 32) (hfew : P.length ≤ 1000000) :
    Calls Try.prog 48 #[v] w fun ev w' => ev = .returned (.tuple #[]) ∧ w'.ownsRow B 26 32 v P.reverse.length (rows26 P.reverse) ∧ w.grownBy w' v.ownBlock := by
  rcases hown.2 with ⟨rfl, h0⟩ | ⟨g, cap, cur, rfl, hBg, hg, hcap, hmx, hcs, _⟩
  · obtain rfl := List.eq_nil_of_length_eq_zero h0
    have hcon := AnyQ.slices_Reverse_empty Try.revH none 0 w
    change Calls Try.prog 48 _ _ _ at hcon
    refine hcon.mono ?_
    rintro ev w' ⟨rfl, rfl⟩
    exact ⟨rfl, World.ownsRow_nil _ _ _ _, grown_below (Below.refl _ _) _⟩
  · have hH := holdsH_of hown h32
    have hcon := AnyQ.slices_Reverse Try.revH 32 agg26 sizeOf26 encH (fun x => by rw [encH, bys_len]; exact x.2) (fun x v hv => bys_one _ v hv) g 0 cap (arrH P) w hH (by rw [arrH_size]; omega)
    change Calls Try.prog 48 _ _ _ at hcon
    rw [arrH_size] at hcon
    refine hcon.mono ?_
    rintro ev w' ⟨rfl, n, rfl⟩
    have hH' : Sort.HoldsK encH 32 (Sort.putRowK encH 32 (Sort.ahead w n) g 0 (arrH P).reverse) g 0 (arrH P).reverse := Sort.holdsK_putRowK encH 32 _ g 0 _ _ (Sort.holdsK_ahead encH 32 w n g 0 _ hH) (by simp)
    rw [arrH_rev] at hH' ⊢
    have h32' : ∀ p ∈ P.reverse, p.length = 32 := fun p hp => h32 p (by simpa using hp)
    obtain ⟨cur', hs', hg'⟩ := putRow_heap id w n g (Sort.flatK encH 32 (arrH P.reverse)) cur 26 hg
    refine ⟨rfl, ?_, grown_putRow id w n g 0 _⟩
    have hl : P.reverse.length = P.length := by simp
    rw [hl]
    refine own_of_range hg' hBg (by rw [rows26_len _ h32', hl]) hcap hmx (by rw [hs', hcs]) (fun j u hj => ?_)
    have hj' : j < P.reverse.length * 32 := by
      have := rows26_len P.reverse h32'
      have := (List.getElem?_eq_some_iff.1 hj).1
      omega
    rw [flatH_at _ h32' j hj'] at hj
    cases hj
    exact (hH' j (by rw [Sort.size_flatK, arrH_size]; exact hj')).1

theorem revH_any (w : World) (B : Nat) (v : Value) (P : List Bys) (hown : w.ownsRow B 26 32 v P.length (rows26 P)) (h32 : ∀ p ∈ P, p.length = 32) (hfew : P.length ≤ 1000000) :
    Calls Try.prog 48 #[v] w fun ev w' => ev = .returned (.tuple #[]) ∧ w'.ownsRow B 26 32 v P.reverse.length (rows26 P.reverse) ∧ w.grownBy w' v.ownBlock := by
  have hI : Inhabited Hsh := ⟨⟨List.replicate 32 0, rfl⟩⟩
  exact revH_any0 w B v P hown h32 hfew
/-- Bools as cells. -/
def bos (l : List Bool) : List Value := l.map Value.bool
theorem bos_len (l : List Bool) : (bos l).length = l.length := by simp [bos]
theorem bos_get (l : List Bool) (j : Nat) (h : j < l.length) : (bos l)[j]? = some (.bool (l.getD j false)) := by
  simp [bos, List.getD, List.getElem?_eq_getElem h]
/-- The slice v holds these bools. -/
structure Bs (w : World) (v : Value) (l : List Bool) : Prop where
  shape : (v = .slice none 0 0 ∧ l = []) ∨ ∃ g cap, v = .slice (some ⟨g, 0, none⟩) l.length cap ∧ l.length ≤ cap ∧ w.rangeAt g 0 (bos l)
theorem Bs.below {w w' : World} {v : Value} {l : List Bool} (h : Bs w v l) (hb : Below w.heap.size w w') : Bs w' v l := by
  refine ⟨?_⟩
  rcases h.shape with h | ⟨g, cap, rfl, hcap, hc⟩
  · exact .inl h
  · exact .inr ⟨g, cap, rfl, hcap, range_below hc hb⟩
theorem own_fz {w : World} {B e s n g cap : Nat} {xs : List Value} (h : w.ownsRow B e s (.slice (some ⟨g, 0, none⟩) n cap) n xs) (j : Nat) : w.frozen? ⟨g, j, none⟩ = false := by
  rcases h.2 with ⟨e, _⟩ | ⟨g', cap', cur, e, _, hgg, _⟩
  · cases e
  · cases e
    simp [World.frozen?, hgg]
set_option maxRecDepth 20000 in
theorem revB_any (w : World) (B : Nat) (v : Value) (l : List Bool) (hown : w.ownsRow B 4 1 v l.length (bos l)) (hfew : l.length ≤ 1000000) :
    Calls Try.prog 58 #[v] w fun ev w' => ev = .returned (.tuple #[]) ∧ w'.ownsRow B 4 1 v l.reverse.length (bos l.reverse) ∧ w.grownBy w' v.ownBlock := by
  rcases hown.2 with ⟨rfl, h0⟩ | ⟨g, cap, cur, rfl, hBg, hg, hcap, hmx, hcs, _⟩
  · obtain rfl := List.eq_nil_of_length_eq_zero h0
    have hcon := AnyE.slices_Reverse_empty Try.revB none 0 w
    change Calls Try.prog 58 _ _ _ at hcon
    refine hcon.mono ?_
    rintro ev w' ⟨rfl, rfl⟩
    exact ⟨rfl, World.ownsRow_nil _ _ _ _, grown_below (Below.refl _ _) _⟩
  · have hH : Sort.Holds Value.bool w g 0 l.toArray := fun j hj => by
      have hj' : j < l.length := by simpa using hj
      refine ⟨?_, own_fz hown _⟩
      rw [Nat.zero_add, hown.cellAt j (by omega), bos_get l j hj']
      simp [List.getD, hj']
    have hcon := AnyE.slices_Reverse_arr Try.revB Value.bool (fun _ => rfl) g 0 cap l.toArray w hH (by simp; omega)
    change Calls Try.prog 58 _ _ _ at hcon
    rw [show l.toArray.size = l.length by simp] at hcon
    refine hcon.mono ?_
    rintro ev w' ⟨rfl, n, rfl⟩
    have hH' : Sort.Holds Value.bool (Sort.putRow Value.bool (Sort.ahead w n) g 0 l.toArray.reverse) g 0 l.toArray.reverse := Sort.holds_putRow Value.bool _ g 0 _ _ (Sort.holds_ahead Value.bool w n g 0 _ hH) (by simp)
    obtain ⟨cur', hs', hg'⟩ := putRow_heap Value.bool w n g l.toArray.reverse cur 4 hg
    refine ⟨rfl, ?_, grown_putRow Value.bool w n g 0 _⟩
    have hl : l.reverse.length = l.length := by simp
    rw [hl]
    refine own_of_range hg' hBg (by rw [bos_len, hl]; omega) hcap hmx (by rw [hs', hcs]) (fun j u hj => ?_)
    have hj' : j < l.length := by
      have := (List.getElem?_eq_some_iff.1 hj).1
      rw [bos_len, List.length_reverse] at this; exact this
    have := (hH' j (by simp; exact hj')).1
    rw [this, ← hj, bos_get _ j (by simpa using hj')]
    simp [List.getD, hj']

/-- Slices as cells. -/
abbrev Slc := Option Addr × Nat × Nat
def encS (x : Slc) : Value := .slice x.1 x.2.1 x.2.2
def decS : Value → Slc
  | .slice a n c => (a, n, c)
  | _ => (none, 0, 0)
theorem encS_dec {v : Value} (h : ∃ a n c, v = .slice a n c) : encS (decS v) = v := by obtain ⟨a, n, c, rfl⟩ := h; rfl
set_option maxRecDepth 20000 in
theorem revS_any (w : World) (B : Nat) (v : Value) (l : List Value) (n : Nat) (hn : l.length = n) (hown : w.ownsRow B 39 1 v n l) (hsl : ∀ u ∈ l, ∃ a n c, u = .slice a n c) (h0 : 0 < n) (hfew : n ≤ 1000000) :
    Calls Try.prog 59 #[v] w fun ev w' => ev = .returned (.tuple #[]) ∧ w'.ownsRow B 39 1 v n l.reverse ∧ w.grownBy w' v.ownBlock := by
  subst hn
  rcases hown.2 with ⟨_, h0'⟩ | ⟨g, cap, cur, rfl, hBg, hg, hcap, hmx, hcs, _⟩
  · omega
  · have hdec : ∀ (l : List Value), (∀ u ∈ l, ∃ a n c, u = .slice a n c) → ∀ j, j < l.length → l[j]? = some (encS ((l.map decS).toArray[j]!)) := fun l hsl j hj => by
      have hm : l[j] ∈ l := List.getElem_mem hj
      have := encS_dec (hsl _ hm)
      simp [List.getElem?_eq_getElem hj, this]
    have hH : Sort.Holds encS w g 0 (l.map decS).toArray := fun j hj => by
      have hj' : j < l.length := by simpa using hj
      refine ⟨?_, own_fz hown _⟩
      rw [Nat.zero_add, hown.cellAt j (by omega), hdec l hsl j hj']
    have hcon := AnyE.slices_Reverse_arr Try.revS encS (fun _ => rfl) g 0 cap (l.map decS).toArray w hH (by simp; omega)
    change Calls Try.prog 59 _ _ _ at hcon
    rw [show (l.map decS).toArray.size = l.length by simp] at hcon
    refine hcon.mono ?_
    rintro ev w' ⟨rfl, n, rfl⟩
    have hH' : Sort.Holds encS (Sort.putRow encS (Sort.ahead w n) g 0 (l.map decS).toArray.reverse) g 0 (l.map decS).toArray.reverse := Sort.holds_putRow encS _ g 0 _ _ (Sort.holds_ahead encS w n g 0 _ hH) (by simp)
    obtain ⟨cur', hs', hg'⟩ := putRow_heap encS w n g (l.map decS).toArray.reverse cur 39 hg
    refine ⟨rfl, ?_, grown_putRow encS w n g 0 _⟩
    refine own_of_range hg' hBg (by simp) hcap hmx (by rw [hs', hcs]) (fun j u hj => ?_)
    have hj' : j < l.reverse.length := (List.getElem?_eq_some_iff.1 hj).1
    have := (hH' j (by simp; simpa using hj')).1
    rw [this, ← hj, hdec l.reverse (fun u hu => hsl u (by simpa using hu)) j hj']
    simp
end Go.Proofs.Ytfkibbpekngciaa

/- Errors: New, what is told of one, whether it is what was asked. -/
namespace Go.Proofs.Ytfkibbpekngciaa
open Go.RowKit

theorem below_drewN {B : Nat} {w w' : World} (h : Below B w w') (n : Nat) : Below B w (w'.drewN n) := ⟨h.os, h.tape, h.output, h.size, h.block⟩

/-- An error of one link, with its number and its place. -/
structure Er (w : World) (e : Value) (code : Nat) (pl : Nat) : Prop where
  shape : ∃ b, e = .iface 83 (.pointer (some ⟨b, 0, none⟩)) ∧ w.cell? ⟨b, 0, none⟩ = some (.int .i64 (code : Int)) ∧ w.cell? ⟨b, 1, none⟩ = some (.int .i64 (pl : Int)) ∧ w.cell? ⟨b, 2, none⟩ = some (.iface 79 (.int .i64 (code : Int)))
theorem Er.below {w w' : World} {e : Value} {code pl : Nat} (h : Er w e code pl) (hb : Below w.heap.size w w') : Er w' e code pl := by
  obtain ⟨b, he, h0, h1, h2⟩ := h.shape
  have hlt := World.block_lt_of_cell? w _ h0
  exact ⟨b, he, (hb.cell (p := ⟨b, 0, none⟩) hlt).trans h0, (hb.cell (p := ⟨b, 1, none⟩) hlt).trans h1, (hb.cell (p := ⟨b, 2, none⟩) hlt).trans h2⟩

set_option maxHeartbeats 1000000 in
theorem new_any (w : World) (code pl : Nat) (hc : code ≠ 0) :
    Calls Try.prog 45 #[.int .i64 (code : Int), .int .i64 (pl : Int)] w fun ev w' => ∃ e, ev = .returned e ∧ Er w' e code pl ∧ Below w.heap.size w w' := by
  go_enter Try.func45, Try.ntmps45
  go_wp2_with fail
  go_ret
  refine ⟨_, rfl, ⟨w.heap.size, rfl, ?_, ?_, ?_⟩, (Below.refl _ _).alloc (Nat.le_refl _) _⟩
  · simp
  · simp
  · simp


theorem Try.is83 (p : Option Addr) (xT : TypeId) (w : World) : (Instr.typeAssert (.iface 83 (.pointer p)) xT 83 true).run Try.prog w = .ok (.tuple #[.pointer p, .bool true]) w := by kernel_rfl
theorem Try.not83_79 (n : Int) (w : World) : (Instr.typeAssert (.iface 79 (.int .i64 n)) 32 83 true).run Try.prog w = .ok (.tuple #[.pointer none, .bool false]) w := by kernel_rfl

theorem told_nil (w : World) :
    Calls Try.prog 29 #[.nilIface] w fun ev w' => ev = .returned (.tuple #[.int .i64 0, .int .i64 0]) ∧ w' = w := by
  go_enter Try.func29, Try.ntmps29
  go_wp2_with fail
  go_ret2
  exact ⟨rfl, rfl⟩

set_option maxHeartbeats 2000000 in
set_option maxRecDepth 20000 in
theorem told_er (w : World) (e : Value) (c p : Nat) (h : Er w e c p) :
    Calls Try.prog 29 #[e] w fun ev w' => ev = .returned (.tuple #[.int .i64 (c : Int), .int .i64 (p : Int)]) ∧ Below w.heap.size w w' := by
  obtain ⟨b, rfl, h0, h1, h2⟩ := h.shape
  clear h
  have k1 := Try.is83
  have k2 := Try.not83_79
  go_enter Try.func29, Try.ntmps29
  go_wp2_with fail
  go_quiet (fail)
  go_wp2_with fail
  refine wp_loop_rounds 1 ?_
  rw [rounds_succ]
  go_wp2_with fail
  go_ret2
  exact ⟨rfl, below_drewN (Below.refl _ _) _⟩

set_option maxHeartbeats 2000000 in
theorem is_any (w : World) (e : Value) (c p : Nat) (a b : Int) (h : (c = 0 ∧ p = 0 ∧ e = .nilIface) ∨ Er w e c p) (ha : a = (c : Int)) (hb : b = (p : Int)) :
    Calls Try.prog 14 #[e, .int .i64 a, .int .i64 b] w fun ev w' => ev = .returned (.bool true) ∧ Below w.heap.size w w' := by
  subst ha hb
  have C : Calls Try.prog 29 #[e] w fun ev w' => ev = .returned (.tuple #[.int .i64 (c : Int), .int .i64 (p : Int)]) ∧ Below w.heap.size w w' := by
    rcases h with ⟨rfl, rfl, rfl⟩ | h
    · refine (told_nil w).mono ?_
      rintro ev w' ⟨rfl, rfl⟩
      exact ⟨rfl, Below.refl _ _⟩
    · exact told_er w e c p h
  rcases h with ⟨hc0, hp0, rfl⟩ | h
  · clear hc0 hp0
    go_enter Try.func14, Try.ntmps14
    go_wp2_with fail
    refine C.mono ?_
    rintro ev w1 ⟨rfl, hb⟩
    go_wp2_with fail
    go_ret
    exact ⟨rfl, hb⟩
  · obtain ⟨b, rfl, -⟩ := h.shape
    clear h
    go_enter Try.func14, Try.ntmps14
    go_wp2_with fail
    refine C.mono ?_
    rintro ev w1 ⟨rfl, hb⟩
    go_wp2_with fail
    go_ret
    exact ⟨rfl, hb⟩

end Go.Proofs.Ytfkibbpekngciaa
