/-
  The texts Op8, Op9, joined.
-/
import Derived.Test.YtldbbkheemnnhaaGreatDoorJpXr23
import Derived.ProofKit
import Derived.OpenShut
import Derived.ChangeSlices
import Derived.SizedLaws
import Derived.HandedShaped
namespace Go.Proofs.YtldbbkheemnnhaaGreatDoor
open Go.ChangeShapes Go.WideShapes Go.ChangeAt Go.RowKit
structure Gd {H : Type} (Good : TypeId -> DataW H -> Prop) (B : Nat) : Prop where
 text : ∀ {s : List UInt8}, Good 9 (.lit (.string s)) -> s.length <= B
 row : ∀ {t e : TypeId} {els sp : List (DataW H)}, Good t (.slice els sp) -> Tryz.prog.underlying t = some (.slice e) -> els.length * Tryz.prog.bytesOf e <= 140737488355328 /\ ∀ d ∈ els, Good e d
 part : ∀ {t : TypeId} {fs : Array Field} {ps : List (DataW H)}, Good t (.agg ps) -> Tryz.prog.underlying t = some (.struct fs) -> ∀ (i : Nat) (f : Field) (d : DataW H), fs[i]? = some f -> ps[i]? = some d -> Good f.type d
section
variable {H : Type} {enc : TypeId × Value -> H} {W : World} {Good : TypeId -> DataW H -> Prop} {K : Ctx}
abbrev Td (enc : TypeId × Value -> H) (W : World) (fuel : Nat) (t : TypeId) (cs : List Value) (x : DataW H × List MemPlace) : Prop := DataW.trod enc Tryz.prog W 0 (fun _ => true) true fuel t cs = some x
theorem text_of (G : Gd Good K.B) {fuel : Nat} {cs : List Value} {x : DataW H × List MemPlace} (h : Td enc W fuel 9 cs x) (g : Good 9 x.1) : ∃ s : Bs, cs = [.string (str s)] /\ s.length <= K.B := by
 obtain ⟨s, rfl, rfl, _⟩ := DataW.trod_string Tryz.underlying9 h
 exact ⟨s.data.toList, by rw [str_of], G.text g⟩
theorem row_of (G : Gd Good K.B) (hK : W.heap.size <= K.C) {t e z bz : Nat} (hu : Tryz.prog.underlying t = some (.slice e)) (hc : Tryz.prog.cellsOf e = z) (hb : Tryz.prog.bytesOf e = bz) (hz : 0 < z) {α : Type} (dft : α) {P : List Value -> α -> Prop} {fuel : Nat}
  (each : ∀ n, fuel = n + 1 -> ∀ {cs : List Value} {x : DataW H × List MemPlace}, Td enc W n e cs x -> Good e x.1 -> ∃ a, P cs a) {cs : List Value} {x : DataW H × List MemPlace} (h : Td enc W fuel t cs x) (g : Good t x.1) : ∃ v l, cs = [v] /\ Ar z bz P K W v l := by
 rcases DataW.trod_slice hu h with ⟨hcs, _⟩ | ⟨a, len, cap, elems, rest, m, hm, hcs, hx, _, hlc, hcm, hel, hcell, _⟩
 ·exact ⟨_, [], hcs, nil_ar⟩
 ·subst hx
  obtain ⟨hw, hg⟩ := G.row g hu
  rw [List.length_map, hb, hel] at hw
  rw [hc] at hcell
  have key : ∀ i, i < len -> ∃ q : List Value × α, q.1.length = z /\ (∀ j, j < z -> W.cell? ((a.add (i * z)).add j) = q.1[j]?) /\ P q.1 q.2 := by
   intro i hi
   have hc' := hcell i hi
   rw [List.getElem?_eq_getElem (by omega)] at hc'
   obtain ⟨cs', h1, h2⟩ := Option.bind_eq_some_iff.1 hc'
   obtain ⟨y, hy⟩ := each m hm h2 (hg _ (List.mem_map.2 ⟨_, List.getElem_mem (by omega), rfl⟩))
   obtain ⟨_, hl, he⟩ := World.cells?_some h1
   exact ⟨(cs', y), hl, he, hy⟩
  obtain ⟨q, hq⟩ : ∃ q : Nat -> List Value × α, ∀ i, i < len -> (q i).1.length = z /\ (∀ j, j < z -> W.cell? ((a.add (i * z)).add j) = (q i).1[j]?) /\ P (q i).1 (q i).2 := by
   refine ⟨fun i => if h : i < len then (key i h).choose else ([], dft), fun i hi => ?_⟩
   simp only [dif_pos hi]
   exact (key i hi).choose_spec
  refine ⟨_, (List.range len).map (fun i => (q i).2), hcs, ⟨some a, cap, by simp, by simpa using hlc, by simpa using hw, fun i hi => ?_⟩⟩
  have hi' : i < len := by simpa using hi
  obtain ⟨q1, q2, q3⟩ := hq i hi'
  obtain ⟨b, off, spot⟩ := a
  obtain ⟨y1, y2, _⟩ := hq 0 (by omega)
  have h0 := y2 0 hz
  rw [List.getElem?_eq_getElem (by omega)] at h0
  have hspot : spot = none := by
   have := World.cell?_spot h0
   simpa [Addr.add] using this
  subst hspot
  have hblk : b < W.heap.size := by
   have := World.block_lt_of_cell? W _ h0
   rw [addr_add, addr_add] at this
   exact this
  refine ⟨b, off, rfl, Nat.lt_of_lt_of_le hblk hK, (q i).1, q1, fun j hj => ?_, by simpa using q3⟩
  have := q2 j hj
  rw [addr_add, addr_add] at this
  exact this
theorem strs_of (G : Gd Good K.B) (hK : W.heap.size <= K.C) {fuel : Nat} {cs : List Value} {x : DataW H × List MemPlace} (h : Td enc W fuel 33 cs x) (g : Good 33 x.1) : ∃ v l, cs = [v] /\ Strs K W v l :=
 row_of (e := 9) (z := 1) (bz := 16) (α := Bs) G hK Tryz.underlying33 (by kernel_rfl) (by kernel_rfl) (by decide) [] (fun n _ _ _ h g => by
  obtain ⟨s, h1, h2⟩ := text_of G h g
  exact ⟨s, h1, h2⟩) h g
theorem int_of {fuel : Nat} {cs : List Value} {x : DataW H × List MemPlace} (h : Td enc W fuel 3 cs x) : ∃ n : Int, cs = [.int .i64 n] := by
 obtain ⟨n, h, _⟩ := DataW.trod_int Tryz.underlying3 h
 exact ⟨n, h⟩
theorem ints_of (G : Gd Good K.B) (hK : W.heap.size <= K.C) {fuel : Nat} {cs : List Value} {x : DataW H × List MemPlace} (h : Td enc W fuel 22 cs x) (g : Good 22 x.1) : ∃ v l, cs = [v] /\ Nms K W v l :=
 row_of (e := 3) (z := 1) (bz := 8) (α := Int) G hK Tryz.underlying22 (by kernel_rfl) (by kernel_rfl) (by decide) 0 (fun n _ _ _ h g => int_of h) h g
theorem parts_of (G : Gd Good K.B) {t : TypeId} {fs : Array Field} (hu : Tryz.prog.underlying t = some (.struct fs)) {fuel : Nat} {cs : List Value} {x : DataW H × List MemPlace} (h : Td enc W fuel t cs x) (g : Good t x.1) :
  ∃ n, fuel = n + 1 /\ cs.length = Tryz.prog.cellsOf t /\ ∀ (i : Nat) (f : Field), fs[i]? = some f -> ∃ y, Td enc W n f.type ((cs.drop f.offset).take (Tryz.prog.cellsOf f.type)) y /\ Good f.type y.1 := by
 obtain ⟨xs, n, hn, hx, hl, hlen, hf⟩ := DataW.trod_struct hu h
 refine ⟨n, hn, hl, fun i f hif => ?_⟩
 have hi : i < xs.length := by
  rw [hlen]
  rcases Nat.lt_or_ge i fs.size with h | h
  ·exact h
  ·rw [Array.getElem?_eq_none h] at hif; cases hif
 have h1 := hf i f hif
 rw [List.getElem?_eq_getElem hi] at h1
 refine ⟨xs[i], h1, ?_⟩
 subst hx
 exact G.part g hu i f _ hif (by simp [List.getElem?_eq_getElem hi])
theorem lst4 {l : List Value} (h : l.length = 4) : ∃ a0 a1 a2 a3 : Value, l = [a0, a1, a2, a3] := by
 match l, h with
 | [a0, a1, a2, a3], _ => exact ⟨_, _, _, _, rfl⟩
theorem cut {n o z : Nat} {ty : TypeId} {cs cs' : List Value} {y : DataW H × List MemPlace} (h : Td enc W n ty ((cs.drop o).take (Tryz.prog.cellsOf ty)) y) (hc : Tryz.prog.cellsOf ty = z) (e : (cs.drop o).take z = cs') : Td enc W n ty cs' y := by
 rw [← e, ← hc]; exact h
theorem Tryz.cl3 : Tryz.prog.cellsOf 3 = 1 := by kernel_rfl
theorem Tryz.cl9 : Tryz.prog.cellsOf 9 = 1 := by kernel_rfl
theorem Tryz.cl22 : Tryz.prog.cellsOf 22 = 1 := by kernel_rfl
theorem Tryz.cl23 : Tryz.prog.cellsOf 23 = 1 := by kernel_rfl
theorem RtAt.moreO {K : Ctx} {w : World} : ∀ {n : Nat} {cs : List Value} {t : RTy}, RtAt n K w cs t -> RtAt (n + 1) K w cs t
 | 0, _, _, h => h.elim
 | n + 1, _, _, h => by
  obtain ⟨v2, v3, e, h1, h2, h3⟩ := h
  exact ⟨v2, v3, e, h1, h2, h3.mono (Below.refl _ _) fun _ _ _ h => RtAt.moreO h⟩
theorem RtAt.uptoO {K : Ctx} {w : World} {n m : Nat} {cs : List Value} {t : RTy} (h : RtAt n K w cs t) (hm : n <= m) : RtAt m K w cs t := by
 induction hm with
 | refl => exact h
 | step _ ih => exact ih.moreO
theorem rty_of (G : Gd Good K.B) (hK : W.heap.size <= K.C) : ∀ (fuel : Nat) {cs : List Value} {x : DataW H × List MemPlace}, Td enc W fuel 25 cs x -> Good 25 x.1 -> ∃ t, RtAt fuel K W cs t := by
 intro fuel
 induction fuel using Nat.strongRecOn with
 | ind fuel ih =>
 intro cs x h g
 obtain ⟨n, rfl, hl, hf⟩ := parts_of G Tryz.underlying25 h g
 have hl' : cs.length = 4 := hl.trans (by kernel_rfl)
 obtain ⟨a0, a1, a2, a3, rfl⟩ := lst4 hl'
 obtain ⟨y0, t0, g0⟩ := hf 0 _ rfl
 have s0 : Td enc W n 3 [a0] y0 := cut t0 Tryz.cl3 rfl
 obtain ⟨y1, t1, g1⟩ := hf 1 _ rfl
 have s1 : Td enc W n 9 [a1] y1 := cut t1 Tryz.cl9 rfl
 obtain ⟨y2, t2, g2⟩ := hf 2 _ rfl
 have s2 : Td enc W n 22 [a2] y2 := cut t2 Tryz.cl22 rfl
 obtain ⟨y3, t3, g3⟩ := hf 3 _ rfl
 have s3 : Td enc W n 23 [a3] y3 := cut t3 Tryz.cl23 rfl
 obtain ⟨k0, e0⟩ := int_of s0
 injection e0 with e0 _
 subst e0
 obtain ⟨k1, e1, l1⟩ := text_of G s1 g1
 injection e1 with e1 _
 subst e1
 obtain ⟨v2, k2, e2, r2⟩ := ints_of G hK s2 g2
 injection e2 with e2 _
 subst e2
 obtain ⟨v3, k3, e3, r3⟩ := row_of (e := 25) (z := 4) (bz := 72) (α := RTy) (P := RtAt (n - 1) K W) G hK Tryz.underlying23 (by kernel_rfl) (by kernel_rfl) (by decide) ⟨0, [], [], []⟩ (fun m hm _ _ h g => by rw [show n - 1 = m by omega]; exact ih m (by omega) h g) s3 g3
 injection e3 with e3 _
 subst e3
 exact ⟨⟨k0, k1, k2, k3⟩, _, _, rfl, l1, r2, r3.mono (Below.refl _ _) fun _ _ _ h => RtAt.uptoO h (Nat.sub_le n 1)⟩
end
theorem weightsAll_mem {H : Type} {P : Program} {e : TypeId} : ∀ {l : List (DataW H)} {d : DataW H}, d ∈ l -> ∀ n ∈ d.weights P e, n ∈ DataW.weightsAll P e l
 | [], _, h, _, _ => by cases h
 | x :: l, d, h, n, hn => by
  unfold DataW.weightsAll
  rcases List.mem_cons.1 h with rfl | h
  ·exact List.mem_append_left _ hn
  ·exact List.mem_append_right _ (weightsAll_mem h n hn)
def Rch {H : Type} (t : TypeId) (d : DataW H) : Prop := ∀ n ∈ d.weights Tryz.prog t, n <= reachBytes
theorem rch_text {H : Type} {s : List UInt8} {t : TypeId} (h : Rch (H := H) t (.lit (.string s))) : s.length <= reachBytes := h _ (by simp [DataW.weights])
theorem rch_row {H : Type} {t e : TypeId} {els sp : List (DataW H)} (h : Rch t (.slice els sp)) (hu : Tryz.prog.underlying t = some (.slice e)) : els.length * Tryz.prog.bytesOf e <= 140737488355328 /\ ∀ d ∈ els, Rch e d := by
 unfold Rch at h ⊢
 unfold DataW.weights at h
 simp only [hu] at h
 refine ⟨?_, fun d hd n hn => h n (List.mem_cons_of_mem _ (List.mem_append_left _ (weightsAll_mem hd n hn)))⟩
 have h1 := h _ (List.mem_cons_self)
 have h2 : els.length * Tryz.prog.bytesOf e <= (els.length + sp.length) * Tryz.prog.bytesOf e := Nat.mul_le_mul_right _ (by omega)
 have h3 : reachBytes <= 140737488355328 := by decide
 omega
theorem rch_part {H : Type} {t : TypeId} {fs : Array Field} {ps : List (DataW H)} (h : Rch t (.agg ps)) (hu : Tryz.prog.underlying t = some (.struct fs)) (i : Nat) (f : Field) (d : DataW H) (hf : fs[i]? = some f) (hd : ps[i]? = some d) : Rch f.type d := by
 unfold Rch at h ⊢
 unfold DataW.weights at h
 simp only [hu] at h
 intro n hn
 refine h n (DataW.weights_mem_each (j := i) (t := f.type) ?_ hd n hn)
 simp [hf]
theorem gd_rch {H : Type} : Gd (H := H) Rch reachBytes := ⟨rch_text, rch_row, rch_part⟩
def reachK (C : Nat) : Ctx := ⟨C, reachBytes, by decide⟩
section
variable {H : Type} {enc : TypeId × Value -> H} {W : World} {base : Nat} {v : Value} {d : DataW H} {p : List MemPlace}
set_option maxRecDepth 100000 in
theorem open_rty {Good : TypeId -> DataW H -> Prop} {K : Ctx} (G : Gd Good K.B) (hK : W.heap.size <= K.C) (hv : Value.okWide Tryz.prog W .any base 25 v) (h : DataW.Trod enc Tryz.prog W 0 (fun _ => true) true 25 v d p) (g : Good 25 d) : ∃ n cs t, v = .agg cs.toArray /\ RtAt n K W cs t := by
 obtain ⟨cs, rfl⟩ : ∃ cs, v = .agg cs := by
  simp only [Value.okWide, Tryz.underlying25] at hv
  cases v <;> simp_all
 obtain ⟨fuel, hf⟩ := h
 have hf' : Td enc W fuel 25 cs.toList (d, p) := by simpa [Value.cells] using hf
 obtain ⟨c, hc⟩ := rty_of G hK fuel hf' g
 exact ⟨fuel, cs.toList, c, by simp, hc⟩
set_option maxRecDepth 100000 in
theorem open_strs {Good : TypeId -> DataW H -> Prop} {K : Ctx} (G : Gd Good K.B) (hK : W.heap.size <= K.C) (hv : Value.okWide Tryz.prog W .any base 33 v) (h : DataW.Trod enc Tryz.prog W 0 (fun _ => true) true 33 v d p) (g : Good 33 d) : ∃ l, Strs K W v l := by
 obtain ⟨a0, len, cap, rfl⟩ := okWide_slice Tryz.underlying33 hv
 obtain ⟨fuel, hf⟩ := h
 obtain ⟨v, l, e, hs⟩ := strs_of G hK hf g
 simp [Value.cells] at e
 subst e
 exact ⟨l, hs⟩
set_option maxRecDepth 100000 in
theorem open_nms {Good : TypeId -> DataW H -> Prop} {K : Ctx} (G : Gd Good K.B) (hK : W.heap.size <= K.C) (hv : Value.okWide Tryz.prog W .any base 22 v) (h : DataW.Trod enc Tryz.prog W 0 (fun _ => true) true 22 v d p) (g : Good 22 d) : ∃ l, Nms K W v l := by
 obtain ⟨a0, len, cap, rfl⟩ := okWide_slice Tryz.underlying22 hv
 obtain ⟨fuel, hf⟩ := h
 obtain ⟨v, l, e, hs⟩ := ints_of G hK hf g
 simp [Value.cells] at e
 subst e
 exact ⟨l, hs⟩
end
theorem maxLen_cell {W : World} (h : W.ShapedOpen Tryz.prog) : ∃ m, W.cell? ⟨1, 0, none⟩ = some (.int .i64 m) :=
 Go.Proofs.cell_of_shapedOpen_int (g := 1) (zero := #[.int .i64 0]) (t := 3) h (of_decide_eq_true (by kernel_rfl)) (by kernel_rfl) rfl (by kernel_rfl) (by kernel_rfl) Tryz.underlying3
theorem Tryz.laidAll : laidOutB Tryz.prog = true := by kernel_rfl
theorem Tryz.ownKn : ownKnob Tryz.prog.godebug = none := by kernel_rfl
end Go.Proofs.YtldbbkheemnnhaaGreatDoor

namespace Go.Proofs.YtldbbkheemnnhaaGreatDoor
open Go.ChangeShapes Go.WideShapes Go.ChangeAt Go.RowKit
theorem lit_low {c : Int} (h : (Lit.int .i64 c).wf = true) : -9223372036854775808 <= c := by
 unfold Lit.wf at h
 rw [Bool.and_eq_true, decide_eq_true_eq] at h
 have e : IntKind.min .i64 = -9223372036854775808 := by decide
 rw [e] at h
 exact h.1
section
variable {H : Type} {enc : TypeId × Value -> H} {W : World} {Good : TypeId -> DataW H -> Prop} {K : Ctx}
theorem Tryz.cl33 : Tryz.prog.cellsOf 33 = 1 := by kernel_rfl
theorem Tryz.cl34 : Tryz.prog.cellsOf 34 = 1 := by kernel_rfl
theorem TyAt.moreP {K : Ctx} {w : World} : ∀ {n : Nat} {cs : List Value} {t : Ty}, TyAt n K w cs t -> TyAt (n + 1) K w cs t
 | 0, _, _, h => h.elim
 | n + 1, _, _, h => by
  obtain ⟨v2, v3, e, h1, h2, h3⟩ := h
  exact ⟨v2, v3, e, h1, h2, h3.mono (Below.refl _ _) fun _ _ _ h => TyAt.moreP h⟩
theorem TyAt.uptoP {K : Ctx} {w : World} {n m : Nat} {cs : List Value} {t : Ty} (h : TyAt n K w cs t) (hm : n <= m) : TyAt m K w cs t := by
 induction hm with
 | refl => exact h
 | step _ ih => exact ih.moreP
theorem ty_of (G : Gd Good K.B) (hK : W.heap.size <= K.C) : ∀ (fuel : Nat) {cs : List Value} {x : DataW H × List MemPlace}, Td enc W fuel 36 cs x -> Good 36 x.1 -> ∃ t, TyAt fuel K W cs t := by
 intro fuel
 induction fuel using Nat.strongRecOn with
 | ind fuel ih =>
 intro cs x h g
 obtain ⟨n, rfl, hl, hf⟩ := parts_of G Tryz.underlying36 h g
 have hl' : cs.length = 4 := hl.trans (by kernel_rfl)
 obtain ⟨a0, a1, a2, a3, rfl⟩ := lst4 hl'
 obtain ⟨y0, t0, g0⟩ := hf 0 _ rfl
 have s0 : Td enc W n 3 [a0] y0 := cut t0 Tryz.cl3 rfl
 obtain ⟨y1, t1, g1⟩ := hf 1 _ rfl
 have s1 : Td enc W n 9 [a1] y1 := cut t1 Tryz.cl9 rfl
 obtain ⟨y2, t2, g2⟩ := hf 2 _ rfl
 have s2 : Td enc W n 33 [a2] y2 := cut t2 Tryz.cl33 rfl
 obtain ⟨y3, t3, g3⟩ := hf 3 _ rfl
 have s3 : Td enc W n 34 [a3] y3 := cut t3 Tryz.cl34 rfl
 obtain ⟨k0, e0⟩ := int_of s0
 injection e0 with e0 _
 subst e0
 obtain ⟨k1, e1, l1⟩ := text_of G s1 g1
 injection e1 with e1 _
 subst e1
 obtain ⟨v2, k2, e2, r2⟩ := strs_of G hK s2 g2
 injection e2 with e2 _
 subst e2
 obtain ⟨v3, k3, e3, r3⟩ := row_of (e := 36) (z := 4) (bz := 72) (α := Ty) (P := TyAt (n - 1) K W) G hK Tryz.underlying34 (by kernel_rfl) (by kernel_rfl) (by decide) ⟨0, [], [], []⟩ (fun m hm _ _ h g => by rw [show n - 1 = m by omega]; exact ih m (by omega) h g) s3 g3
 injection e3 with e3 _
 subst e3
 exact ⟨⟨k0, k1, k2, k3⟩, _, _, rfl, l1, r2, r3.mono (Below.refl _ _) fun _ _ _ h => TyAt.uptoP h (Nat.sub_le n 1)⟩
end
section
variable {H : Type} {enc : TypeId × Value -> H} {W : World} {base : Nat} {v : Value} {d : DataW H} {p : List MemPlace}
set_option maxRecDepth 100000 in
theorem open_ty {Good : TypeId -> DataW H -> Prop} {K : Ctx} (G : Gd Good K.B) (hK : W.heap.size <= K.C) (hv : Value.okWide Tryz.prog W .any base 36 v) (h : DataW.Trod enc Tryz.prog W 0 (fun _ => true) true 36 v d p) (g : Good 36 d) : ∃ n cs t, v = .agg cs.toArray /\ TyAt n K W cs t := by
 obtain ⟨cs, rfl⟩ : ∃ cs, v = .agg cs := by
  simp only [Value.okWide, Tryz.underlying36] at hv
  cases v <;> simp_all
 obtain ⟨fuel, hf⟩ := h
 have hf' : Td enc W fuel 36 cs.toList (d, p) := by simpa [Value.cells] using hf
 obtain ⟨c, hc⟩ := ty_of G hK fuel hf' g
 exact ⟨fuel, cs.toList, c, by simp, hc⟩
end
end Go.Proofs.YtldbbkheemnnhaaGreatDoor
