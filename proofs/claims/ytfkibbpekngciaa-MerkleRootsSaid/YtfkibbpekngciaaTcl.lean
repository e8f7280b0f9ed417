/-
  The closure of textsBy; rows of slices.
-/
import Derived.Test.YtfkibbpekngciaaPrv
namespace Go.Proofs.Ytfkibbpekngciaa
open Go.RowKit

theorem Try.info4 : (Try.prog.info? 4).map (fun i => (i.zero, i.size, i.bytes)) = some (some (.bool false), 1, 1) := by kernel_rfl
theorem Try.info39 : (Try.prog.info? 39).map (fun i => (i.zero, i.size, i.bytes)) = some (some (.slice none 0 0), 1, 24) := by kernel_rfl
theorem bos_one (l : List Bool) : ∀ u ∈ bos l, u.oneCell' = true := fun u hu => by
  obtain ⟨b, _, rfl⟩ := List.mem_map.1 hu
  rfl
/-- One more bool. -/
theorem app4 {ops : Array Oper} {rest : List Oper} {o : Oper} {a : Act} {Q : Exit → Act → World → Prop} {w : World} {B : Nat} {v : Value} {l : List Bool} (x : Bool) (hgd : o.guard = none) (s y : Operand)
    (ho : o.op = .call { callee := .builtin .append, args := #[s, y], argTypes := #[88, 88] }) (hs : a.eval s = v) (hown : w.ownsRow B 4 1 v l.length (bos l)) (hB : B ≤ w.heap.size)
    (g c : Nat) (hy : a.eval y = .slice (some ⟨g, 0, none⟩) 1 c) (hc : w.cell? ⟨g, 0, none⟩ = some (.bool x)) (hl : l.length ≤ 1000000)
    (h : ∀ v' w', w'.ownsRow B 4 1 v' (l ++ [x]).length (bos (l ++ [x])) → Below B w w' → w.grownBy w' v.ownBlock → wpList Try.prog ops Q rest (a.put o.dst v') w') :
    wpList Try.prog ops Q (o :: rest) a w := by
  obtain ⟨i0, hi, hz0, hz1, hz2⟩ := info_parts Try.info4
  refine wpList_append_own_at w hgd s y 88 ho B 4 i0 (.bool false) 1 1 Try.underlying88 hi hz0 hz1 hz2 rfl (by decide) _ _ _ hs hown ⟨g, 0, none⟩ 1 c [.bool x] hy rfl (fun j u hj => ?_) (fun u hu => ?_) (by unfold maxLen; omega) (by omega) hB ?_
  · obtain rfl : j = 0 := by
      rcases j with _ | j
      · rfl
      · simp at hj
    simp at hj
    rw [← hj, addr_add]; exact hc
  · simp at hu; rw [hu]; rfl
  · intro v' w' hown' hgrow _ _
    refine h v' w' ?_ (below_grown hgrow hB (fun k e => (hown.lt k e).1)) hgrow
    rw [List.length_append, List.length_singleton, bos, List.map_append]; exact hown'
/-- The variables of textsBy that its closure has. -/
structure TvS (w : World) (go gp : Nat) (ov pv : Value) (i n : Int) (z : World) : Prop where
  below : Below w.heap.size w z
  ois : Row z go 88 [ov]
  prf : Row z gp 30 [.int .i64 i, .int .i64 n, pv]
theorem TvS.next {w z z' : World} {go gp : Nat} {ov pv : Value} {i n : Int} (h : TvS w go gp ov pv i n z) (hb : Below z.heap.size z z') : TvS w go gp ov pv i n z' :=
  ⟨nextB h.below hb, h.ois.below hb h.ois.lt, h.prf.below hb h.prf.lt⟩
theorem TvS.grown {w z z' : World} {go gp t s m : Nat} {ov pv u : Value} {i n : Int} {xs : List Value} (h : TvS w go gp ov pv i n z) (ho : z.ownsRow w.heap.size t s u m xs) (h1 : t ≠ 88) (h2 : t ≠ 30) (hg : z.grownBy z' u.ownBlock) : TvS w go gp ov pv i n z' :=
  ⟨h.below.trans (below_grown hg h.below.size (fun k e => (ho.lt k e).1)), h.ois.grown hg (fun e => own_apart ho h.ois h1 go e rfl), h.prf.grown hg (fun e => own_apart ho h.prf h2 gp e rfl)⟩
theorem TvS.store {w z : World} {go gp : Nat} {ov pv : Value} {i n : Int} (h : TvS w go gp ov pv i n z) (h0 : w.heap.size ≤ go) (v : Value) : TvS w go gp v pv i n (z.setCell ⟨go, 0, none⟩ v) := by
  have e1 : go ≠ gp := fun e => by have a := h.ois.heap; rw [e, h.prf.heap] at a; cases a
  exact ⟨h.below.setCell (p := ⟨go, 0, none⟩) h0 v, h.ois.set 0 v, h.prf.other (fun e => e1 e.symm) v⟩
def sidesOf (i : Int) (d : List (Nat × Nat)) : List Bool := d.map fun p => decide ((p.1 : Int) < i)
theorem sidesOf_snoc (i : Int) (d : List (Nat × Nat)) (p : Nat × Nat) : sidesOf i (d ++ [p]) = sidesOf i d ++ [decide ((p.1 : Int) < i)] := by simp [sidesOf]
theorem sidesOf_len (i : Int) (d : List (Nat × Nat)) : (sidesOf i d).length = d.length := by simp [sidesOf]
structure TvRel (w : World) (go gp : Nat) (pv : Value) (i n : Int) (d : List (Nat × Nat)) (z : World) : Prop where
  st : ∃ ov, TvS w go gp ov pv i n z ∧ z.ownsRow w.heap.size 4 1 ov (sidesOf i d).length (bos (sidesOf i d))

set_option maxHeartbeats 4000000 in
set_option maxRecDepth 20000 in
theorem clo57_any (w : World) (go gp : Nat) (pv : Value) (i n : Int) (h0 : w.heap.size ≤ go) (d : List (Nat × Nat)) (a b : Nat) (z : World) (H : TvRel w go gp pv i n d z) (hd : d.length < 64) :
    Calls Try.prog 57 #[.int .i64 (a : Int), .int .i64 (b : Int), .pointer (some ⟨go, 0, none⟩), .pointer (some ⟨gp, 0, none⟩)] z fun ev z' => ev = .returned (.tuple #[]) ∧ TvRel w go gp pv i n (d ++ [(a, b)]) z' := by
  obtain ⟨ov, hS, how⟩ := H.st
  obtain ⟨ao, cp, rfl⟩ := own_shape how
  have c1 := hS.ois.cell 0
  have c2 := hS.prf.cell 0
  simp only [List.getElem?_cons_zero] at c1 c2
  have hl : (sidesOf i d).length ≤ 1000000 := by rw [sidesOf_len]; omega
  obtain ⟨x, hx⟩ : ∃ x : Bool, x = decide ((a : Int) < i) := ⟨_, rfl⟩
  have HE : Hid (∀ v3 w3, TvS w go gp (.slice ao (sidesOf i d).length cp) pv i n w3 → w3.ownsRow w.heap.size 4 1 v3 (sidesOf i d ++ [x]).length (bos (sidesOf i d ++ [x])) → TvRel w go gp pv i n (d ++ [(a, b)]) (w3.setCell ⟨go, 0, none⟩ v3)) := fun v3 w3 hS3 ho3 => by
    refine ⟨⟨v3, hS3.store h0 v3, ?_⟩⟩
    rw [sidesOf_snoc, ← hx]
    exact own_setCell ho3 hS3.ois (by decide)
  have hB := hS.below.size
  have HS : Hid (TvS w go gp (.slice ao (sidesOf i d).length cp) pv i n z) := hS
  have HX : Hid (x = decide ((a : Int) < i)) := hx
  generalize sidesOf i d = l at *
  clear H hx
  have HN : Hid (∀ y : Bool, y = x → (z.alloc (.cells #[.bool y] 4)).ownsRow w.heap.size 4 1 (.slice ao l.length cp) l.length (bos l) ∧ w.heap.size ≤ (z.alloc (.cells #[.bool y] 4)).heap.size ∧ (z.alloc (.cells #[.bool y] 4)).cell? ⟨z.heap.size, 0, none⟩ = some (.bool x) ∧ TvS w go gp (.slice ao l.length cp) pv i n (z.alloc (.cells #[.bool y] 4))) := fun y hy => by
    have hb : Below z.heap.size z (z.alloc (.cells #[.bool y] 4)) := (Below.refl _ _).alloc (Nat.le_refl _) _
    refine ⟨own_past how hb, Nat.le_trans hB hb.size, ?_, hS.next hb⟩
    have := (Row.new z 4 [.bool y]).cell 0
    rw [hy] at this ⊢
    exact this
  clear how hS
  obtain ⟨h1, h2, h3, h4⟩ := HN.out _ HX.out.symm
  go_enter Try.func57, Try.ntmps57
  go_wp2_with (at_builtin; refine app4 x rfl _ _ rfl rfl h1 h2 z.heap.size 1 rfl h3 hl ?_; intro v3 w3 ho3 hb3 hg3; have hS3 := h4.grown h1 (by decide) (by decide) hg3; have cx := hS3.ois.cell 0; have fx := hS3.ois.fz 0; simp only [List.getElem?_cons_zero] at cx; obtain ⟨ao3, cp3, rfl⟩ := own_shape ho3)
  go_end0
  have hfin := HE.out _ _ hS3 ho3
  rw [show (l ++ [x]).length = l.length + 1 by simp] at hfin
  exact ⟨rfl, hfin⟩
end Go.Proofs.Ytfkibbpekngciaa
