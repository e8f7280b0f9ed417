/-
  Crates, as they come in.
-/
import Derived.Test.YtmopffaocamieaaGreatQapMfd
import Derived.ProofKit
import Derived.OpenShut
import Derived.ChangeSlices
import Derived.SizedLaws
namespace Go.Proofs.YtmopffaocamieaaGreat
open Go.ChangeShapes Go.WideShapes Go.ChangeAt Go.RowKit

/-- What is known of how great the things are that come in. -/
structure Gd {H : Type} (Good : TypeId → DataW H → Prop) (B : Nat) : Prop where
  text : ∀ {s : List UInt8}, Good 9 (.lit (.string s)) → s.length ≤ B
  row : ∀ {t e : TypeId} {els sp : List (DataW H)}, Good t (.slice els sp) → Tryz.prog.underlying t = some (.slice e) → els.length * Tryz.prog.bytesOf e ≤ 140737488355328 ∧ ∀ d ∈ els, Good e d
  part : ∀ {t : TypeId} {fs : Array Field} {ps : List (DataW H)}, Good t (.agg ps) → Tryz.prog.underlying t = some (.struct fs) → ∀ (i : Nat) (f : Field) (d : DataW H), fs[i]? = some f → ps[i]? = some d → Good f.type d
section
variable {H : Type} {enc : TypeId × Value → H} {W : World} {Good : TypeId → DataW H → Prop} {K : Ctx}
abbrev Td (enc : TypeId × Value → H) (W : World) (fuel : Nat) (t : TypeId) (cs : List Value) (x : DataW H × List MemPlace) : Prop := DataW.trod enc Tryz.prog W 0 (fun _ => true) true fuel t cs = some x
theorem text_of (G : Gd Good K.B) {fuel : Nat} {cs : List Value} {x : DataW H × List MemPlace} (h : Td enc W fuel 9 cs x) (g : Good 9 x.1) : ∃ s : Bs, cs = [.string (str s)] ∧ s.length ≤ K.B := by
  obtain ⟨s, rfl, rfl, _⟩ := DataW.trod_string Tryz.underlying9 h
  exact ⟨s.data.toList, by rw [str_of], G.text g⟩
theorem row_of (G : Gd Good K.B) (hK : W.heap.size ≤ K.C) {t e z bz : Nat} (hu : Tryz.prog.underlying t = some (.slice e)) (hc : Tryz.prog.cellsOf e = z) (hb : Tryz.prog.bytesOf e = bz) (hz : 0 < z) {α : Type} (dft : α) {P : List Value → α → Prop} {fuel : Nat}
    (each : ∀ n, fuel = n + 1 → ∀ {cs : List Value} {x : DataW H × List MemPlace}, Td enc W n e cs x → Good e x.1 → ∃ a, P cs a) {cs : List Value} {x : DataW H × List MemPlace} (h : Td enc W fuel t cs x) (g : Good t x.1) : ∃ v l, cs = [v] ∧ Ar z bz P K W v l := by
  rcases DataW.trod_slice hu h with ⟨hcs, _⟩ | ⟨a, len, cap, elems, rest, m, hm, hcs, hx, _, hlc, hcm, hel, hcell, _⟩
  · exact ⟨_, [], hcs, nil_ar⟩
  · subst hx
    obtain ⟨hw, hg⟩ := G.row g hu
    rw [List.length_map, hb, hel] at hw
    rw [hc] at hcell
    have key : ∀ i, i < len → ∃ q : List Value × α, q.1.length = z ∧ (∀ j, j < z → W.cell? ((a.add (i * z)).add j) = q.1[j]?) ∧ P q.1 q.2 := by
      intro i hi
      have hc' := hcell i hi
      rw [List.getElem?_eq_getElem (by omega)] at hc'
      obtain ⟨cs', h1, h2⟩ := Option.bind_eq_some_iff.1 hc'
      obtain ⟨y, hy⟩ := each m hm h2 (hg _ (List.mem_map.2 ⟨_, List.getElem_mem (by omega), rfl⟩))
      obtain ⟨_, hl, he⟩ := World.cells?_some h1
      exact ⟨(cs', y), hl, he, hy⟩
    obtain ⟨q, hq⟩ : ∃ q : Nat → List Value × α, ∀ i, i < len → (q i).1.length = z ∧ (∀ j, j < z → W.cell? ((a.add (i * z)).add j) = (q i).1[j]?) ∧ P (q i).1 (q i).2 := by
      refine ⟨fun i => if h : i < len then (key i h).choose else ([], dft), fun i hi => ?_⟩
      simp only [dif_pos hi]
      exact (key i hi).choose_spec
    refine ⟨_, (List.range len).map (fun i => (q i).2), hcs, ⟨some a, cap, by simp, by simpa using hlc, by simpa using hw, fun i hi => ?_⟩⟩
    have hi' : i < len := by simpa using hi
    obtain ⟨q1, q2, q3⟩ := hq i hi'
    obtain ⟨b, off, spot⟩ := a
    obtain ⟨y1, y2, _⟩ := hq 0 (by omega)
    have h0 := y2 0 hz
    rw [List.getElem?_eq_getElem (by omega)] at h0
    have hspot : spot = none := by
      have := World.cell?_spot h0
      simpa [Addr.add] using this
    subst hspot
    have hblk : b < W.heap.size := by
      have := World.block_lt_of_cell? W _ h0
      rw [addr_add, addr_add] at this
      exact this
    refine ⟨b, off, rfl, Nat.lt_of_lt_of_le hblk hK, (q i).1, q1, fun j hj => ?_, by simpa using q3⟩
    have := q2 j hj
    rw [addr_add, addr_add] at this
    exact this
theorem strs_of (G : Gd Good K.B) (hK : W.heap.size ≤ K.C) {fuel : Nat} {cs : List Value} {x : DataW H × List MemPlace} (h : Td enc W fuel 49 cs x) (g : Good 49 x.1) : ∃ v l, cs = [v] ∧ Strs K W v l :=
  row_of (e := 9) (z := 1) (bz := 16) (α := Bs) G hK Tryz.underlying49 (by kernel_rfl) (by kernel_rfl) (by decide) [] (fun n _ _ _ h g => by
    obtain ⟨s, h1, h2⟩ := text_of G h g
    exact ⟨s, h1, h2⟩) h g
theorem int_of {fuel : Nat} {cs : List Value} {x : DataW H × List MemPlace} (h : Td enc W fuel 3 cs x) : ∃ n : Int, cs = [.int .i64 n] := by
  obtain ⟨n, h, _⟩ := DataW.trod_int Tryz.underlying3 h
  exact ⟨n, h⟩
theorem bool_of {fuel : Nat} {cs : List Value} {x : DataW H × List MemPlace} (h : Td enc W fuel 4 cs x) : ∃ b : Bool, cs = [.bool b] := by
  obtain ⟨b, h, _⟩ := DataW.trod_bool Tryz.underlying4 h
  exact ⟨b, h⟩
/-- A struct's parts. -/
theorem parts_of (G : Gd Good K.B) {t : TypeId} {fs : Array Field} (hu : Tryz.prog.underlying t = some (.struct fs)) {fuel : Nat} {cs : List Value} {x : DataW H × List MemPlace} (h : Td enc W fuel t cs x) (g : Good t x.1) :
    ∃ n, fuel = n + 1 ∧ cs.length = Tryz.prog.cellsOf t ∧ ∀ (i : Nat) (f : Field), fs[i]? = some f → ∃ y, Td enc W n f.type ((cs.drop f.offset).take (Tryz.prog.cellsOf f.type)) y ∧ Good f.type y.1 := by
  obtain ⟨xs, n, hn, hx, hl, hlen, hf⟩ := DataW.trod_struct hu h
  refine ⟨n, hn, hl, fun i f hif => ?_⟩
  have hi : i < xs.length := by
    rw [hlen]
    rcases Nat.lt_or_ge i fs.size with h | h
    · exact h
    · rw [Array.getElem?_eq_none h] at hif; cases hif
  have h1 := hf i f hif
  rw [List.getElem?_eq_getElem hi] at h1
  refine ⟨xs[i], h1, ?_⟩
  subst hx
  exact G.part g hu i f _ hif (by simp [List.getElem?_eq_getElem hi])
theorem lst2 {l : List Value} (h : l.length = 2) : ∃ a0 a1 : Value, l = [a0, a1] := by
  match l, h with
  | [a0, a1], _ => exact ⟨_, _, rfl⟩
theorem lst4 {l : List Value} (h : l.length = 4) : ∃ a0 a1 a2 a3 : Value, l = [a0, a1, a2, a3] := by
  match l, h with
  | [a0, a1, a2, a3], _ => exact ⟨_, _, _, _, rfl⟩
theorem lst5 {l : List Value} (h : l.length = 5) : ∃ a0 a1 a2 a3 a4 : Value, l = [a0, a1, a2, a3, a4] := by
  match l, h with
  | [a0, a1, a2, a3, a4], _ => exact ⟨_, _, _, _, _, rfl⟩
theorem lst6 {l : List Value} (h : l.length = 6) : ∃ a0 a1 a2 a3 a4 a5 : Value, l = [a0, a1, a2, a3, a4, a5] := by
  match l, h with
  | [a0, a1, a2, a3, a4, a5], _ => exact ⟨_, _, _, _, _, _, rfl⟩
theorem lst10 {l : List Value} (h : l.length = 10) : ∃ a0 a1 a2 a3 a4 a5 a6 a7 a8 a9 : Value, l = [a0, a1, a2, a3, a4, a5, a6, a7, a8, a9] := by
  match l, h with
  | [a0, a1, a2, a3, a4, a5, a6, a7, a8, a9], _ => exact ⟨_, _, _, _, _, _, _, _, _, _, rfl⟩
theorem lst15 {l : List Value} (h : l.length = 15) : ∃ a0 a1 a2 a3 a4 a5 a6 a7 a8 a9 a10 a11 a12 a13 a14 : Value, l = [a0, a1, a2, a3, a4, a5, a6, a7, a8, a9, a10, a11, a12, a13, a14] := by
  match l, h with
  | [a0, a1, a2, a3, a4, a5, a6, a7, a8, a9, a10, a11, a12, a13, a14], _ => exact ⟨_, _, _, _, _, _, _, _, _, _, _, _, _, _, _, rfl⟩
theorem lst32 {l : List Value} (h : l.length = 32) : ∃ a0 a1 a2 a3 a4 a5 a6 a7 a8 a9 a10 a11 a12 a13 a14 a15 a16 a17 a18 a19 a20 a21 a22 a23 a24 a25 a26 a27 a28 a29 a30 a31 : Value, l = [a0, a1, a2, a3, a4, a5, a6, a7, a8, a9, a10, a11, a12, a13, a14, a15, a16, a17, a18, a19, a20, a21, a22, a23, a24, a25, a26, a27, a28, a29, a30, a31] := by
  match l, h with
  | [a0, a1, a2, a3, a4, a5, a6, a7, a8, a9, a10, a11, a12, a13, a14, a15, a16, a17, a18, a19, a20, a21, a22, a23, a24, a25, a26, a27, a28, a29, a30, a31], _ => exact ⟨_, _, _, _, _, _, _, _, _, _, _, _, _, _, _, _, _, _, _, _, _, _, _, _, _, _, _, _, _, _, _, _, rfl⟩
theorem cut {n o z : Nat} {ty : TypeId} {cs cs' : List Value} {y : DataW H × List MemPlace} (h : Td enc W n ty ((cs.drop o).take (Tryz.prog.cellsOf ty)) y) (hc : Tryz.prog.cellsOf ty = z) (e : (cs.drop o).take z = cs') : Td enc W n ty cs' y := by
  rw [← e, ← hc]; exact h
theorem Tryz.cl3 : Tryz.prog.cellsOf 3 = 1 := by kernel_rfl
theorem Tryz.cl4 : Tryz.prog.cellsOf 4 = 1 := by kernel_rfl
theorem Tryz.cl9 : Tryz.prog.cellsOf 9 = 1 := by kernel_rfl
theorem Tryz.cl22 : Tryz.prog.cellsOf 22 = 1 := by kernel_rfl
theorem Tryz.cl23 : Tryz.prog.cellsOf 23 = 1 := by kernel_rfl
theorem Tryz.cl28 : Tryz.prog.cellsOf 49 = 1 := by kernel_rfl
theorem Tryz.cl29 : Tryz.prog.cellsOf 60 = 1 := by kernel_rfl
theorem Tryz.cl31 : Tryz.prog.cellsOf 62 = 4 := by kernel_rfl
theorem Tryz.cl36 : Tryz.prog.cellsOf 59 = 1 := by kernel_rfl
theorem Tryz.cl37 : Tryz.prog.cellsOf 56 = 1 := by kernel_rfl
theorem Tryz.cl38 : Tryz.prog.cellsOf 63 = 1 := by kernel_rfl
theorem Tryz.cl42 : Tryz.prog.cellsOf 107 = 2 := by kernel_rfl
theorem Tryz.cl44 : Tryz.prog.cellsOf 109 = 4 := by kernel_rfl
theorem Tryz.cl45 : Tryz.prog.cellsOf 110 = 1 := by kernel_rfl
theorem Tryz.cl47 : Tryz.prog.cellsOf 112 = 15 := by kernel_rfl
theorem ty_of (G : Gd Good K.B) (hK : W.heap.size ≤ K.C) : ∀ (fuel : Nat) {cs : List Value} {x : DataW H × List MemPlace}, Td enc W fuel 62 cs x → Good 62 x.1 → ∃ t, TyAt fuel K W cs t := by
  intro fuel
  induction fuel using Nat.strongRecOn with
  | ind fuel ih =>
  intro cs x h g
  obtain ⟨n, rfl, hl, hf⟩ := parts_of G Tryz.underlying62 h g
  have hl' : cs.length = 4 := hl.trans (by kernel_rfl)
  obtain ⟨a0, a1, a2, a3, rfl⟩ := lst4 hl'
  obtain ⟨y0, t0, g0⟩ := hf 0 _ rfl
  have s0 : Td enc W n 3 [a0] y0 := cut t0 Tryz.cl3 rfl
  obtain ⟨y1, t1, g1⟩ := hf 1 _ rfl
  have s1 : Td enc W n 9 [a1] y1 := cut t1 Tryz.cl9 rfl
  obtain ⟨y2, t2, g2⟩ := hf 2 _ rfl
  have s2 : Td enc W n 49 [a2] y2 := cut t2 Tryz.cl28 rfl
  obtain ⟨y3, t3, g3⟩ := hf 3 _ rfl
  have s3 : Td enc W n 60 [a3] y3 := cut t3 Tryz.cl29 rfl
  obtain ⟨k0, e0⟩ := int_of s0
  injection e0 with e0 _
  subst e0
  obtain ⟨k1, e1, l1⟩ := text_of G s1 g1
  injection e1 with e1 _
  subst e1
  obtain ⟨v2, k2, e2, r2⟩ := strs_of G hK s2 g2
  injection e2 with e2 _
  subst e2
  obtain ⟨v3, k3, e3, r3⟩ := row_of (e := 62) (z := 4) (bz := 72) (α := Ty) (P := TyAt (n - 1) K W) G hK Tryz.underlying60 (by kernel_rfl) (by kernel_rfl) (by decide) Ty.zero (fun m hm _ _ h g => by rw [show n - 1 = m by omega]; exact ih m (by omega) h g) s3 g3
  injection e3 with e3 _
  subst e3
  exact ⟨⟨k0, k1, k2, k3⟩, _, _, rfl, l1, r2, r3.mono (Below.refl _ _) fun _ _ _ h => TyAt.upto h (Nat.sub_le n 1)⟩
theorem pl_of (G : Gd Good K.B) (hK : W.heap.size ≤ K.C) {fuel : Nat} {cs : List Value} {x : DataW H × List MemPlace} (h : Td enc W fuel 107 cs x) (g : Good 107 x.1) : ∃ p, PlAt K W cs p := by
  obtain ⟨n, rfl, hl, hf⟩ := parts_of G Tryz.underlying107 h g
  have hl' : cs.length = 2 := hl.trans (by kernel_rfl)
  obtain ⟨a0, a1, rfl⟩ := lst2 hl'
  obtain ⟨y0, t0, g0⟩ := hf 0 _ rfl
  have s0 : Td enc W n 9 [a0] y0 := cut t0 Tryz.cl9 rfl
  obtain ⟨y1, t1, g1⟩ := hf 1 _ rfl
  have s1 : Td enc W n 49 [a1] y1 := cut t1 Tryz.cl28 rfl
  obtain ⟨k0, e0, l0⟩ := text_of G s0 g0
  injection e0 with e0 _
  subst e0
  obtain ⟨v1, k1, e1, r1⟩ := strs_of G hK s1 g1
  injection e1 with e1 _
  subst e1
  exact ⟨⟨k0, k1⟩, _, rfl, l0, r1⟩
theorem opr_of (G : Gd Good K.B) (hK : W.heap.size ≤ K.C) {fuel : Nat} {cs : List Value} {x : DataW H × List MemPlace} (h : Td enc W fuel 109 cs x) (g : Good 109 x.1) : ∃ p, OprAt K W cs p := by
  obtain ⟨n, rfl, hl, hf⟩ := parts_of G Tryz.underlying109 h g
  have hl' : cs.length = 4 := hl.trans (by kernel_rfl)
  obtain ⟨a0, a1, a2, a3, rfl⟩ := lst4 hl'
  obtain ⟨y0, t0, g0⟩ := hf 0 _ rfl
  have s0 : Td enc W n 3 [a0] y0 := cut t0 Tryz.cl3 rfl
  obtain ⟨y1, t1, g1⟩ := hf 1 _ rfl
  have s1 : Td enc W n 3 [a1] y1 := cut t1 Tryz.cl3 rfl
  obtain ⟨y2, t2, g2⟩ := hf 2 _ rfl
  have s2 : Td enc W n 107 [a2, a3] y2 := cut t2 Tryz.cl42 rfl
  obtain ⟨k0, e0⟩ := int_of s0
  injection e0 with e0 _
  subst e0
  obtain ⟨k1, e1⟩ := int_of s1
  injection e1 with e1 _
  subst e1
  obtain ⟨p, r2⟩ := pl_of G hK s2 g2
  exact ⟨⟨k0, k1, p⟩, _, rfl, r2⟩
theorem va_of (G : Gd Good K.B) (hK : W.heap.size ≤ K.C) {fuel : Nat} {cs : List Value} {x : DataW H × List MemPlace} (h : Td enc W fuel 112 cs x) (g : Good 112 x.1) : ∃ p, VaAt K W cs p := by
  obtain ⟨n, rfl, hl, hf⟩ := parts_of G Tryz.underlying112 h g
  have hl' : cs.length = 15 := hl.trans (by kernel_rfl)
  obtain ⟨a0, a1, a2, a3, a4, a5, a6, a7, a8, a9, a10, a11, a12, a13, a14, rfl⟩ := lst15 hl'
  obtain ⟨y0, t0, g0⟩ := hf 0 _ rfl
  have s0 : Td enc W n 3 [a0] y0 := cut t0 Tryz.cl3 rfl
  obtain ⟨y1, t1, g1⟩ := hf 1 _ rfl
  have s1 : Td enc W n 109 [a1, a2, a3, a4] y1 := cut t1 Tryz.cl44 rfl
  obtain ⟨y2, t2, g2⟩ := hf 2 _ rfl
  have s2 : Td enc W n 109 [a5, a6, a7, a8] y2 := cut t2 Tryz.cl44 rfl
  obtain ⟨y3, t3, g3⟩ := hf 3 _ rfl
  have s3 : Td enc W n 3 [a9] y3 := cut t3 Tryz.cl3 rfl
  obtain ⟨y4, t4, g4⟩ := hf 4 _ rfl
  have s4 : Td enc W n 107 [a10, a11] y4 := cut t4 Tryz.cl42 rfl
  obtain ⟨y5, t5, g5⟩ := hf 5 _ rfl
  have s5 : Td enc W n 9 [a12] y5 := cut t5 Tryz.cl9 rfl
  obtain ⟨y6, t6, g6⟩ := hf 6 _ rfl
  have s6 : Td enc W n 49 [a13] y6 := cut t6 Tryz.cl28 rfl
  obtain ⟨y7, t7, g7⟩ := hf 7 _ rfl
  have s7 : Td enc W n 110 [a14] y7 := cut t7 Tryz.cl45 rfl
  obtain ⟨k0, e0⟩ := int_of s0
  injection e0 with e0 _
  subst e0
  obtain ⟨p1, r1⟩ := opr_of G hK s1 g1
  obtain ⟨p2, r2⟩ := opr_of G hK s2 g2
  obtain ⟨k3, e3⟩ := int_of s3
  injection e3 with e3 _
  subst e3
  obtain ⟨p4, r4⟩ := pl_of G hK s4 g4
  obtain ⟨k5, e5, l5⟩ := text_of G s5 g5
  injection e5 with e5 _
  subst e5
  obtain ⟨v6, k6, e6, r6⟩ := strs_of G hK s6 g6
  injection e6 with e6 _
  subst e6
  obtain ⟨v7, k7, e7, r7⟩ := row_of (e := 109) (z := 4) (bz := 56) (α := Opr) (P := OprAt K W) G hK Tryz.underlying110 (by kernel_rfl) (by kernel_rfl) (by decide) Opr.zero (fun _ _ _ _ h g => opr_of G hK h g) s7 g7
  injection e7 with e7 _
  subst e7
  exact ⟨⟨k0, p1, p2, k3, p4, k5, k6, k7⟩, _, _, _, _, _, rfl, r1, r2, r4, l5, r6, r7⟩
theorem StAt.more {K : Ctx} {w : World} : ∀ {n : Nat} {cs : List Value} {t : St}, StAt n K w cs t → StAt (n + 1) K w cs t
  | 0, _, _, h => h.elim
  | n + 1, _, _, h => by
    obtain ⟨ts, ps, vs, os, vt, ve, e, h1, h2, h3, h4, h5, h6, h7⟩ := h
    exact ⟨ts, ps, vs, os, vt, ve, e, h1, h2, h3, h4, h5, h6.mono (Below.refl _ _) fun _ _ _ h => StAt.more h, h7.mono (Below.refl _ _) fun _ _ _ h => StAt.more h⟩
theorem StAt.upto {K : Ctx} {w : World} {n m : Nat} {cs : List Value} {t : St} (h : StAt n K w cs t) (hm : n ≤ m) : StAt m K w cs t := by
  induction hm with
  | refl => exact h
  | step _ ih => exact ih.more
theorem FncAt.upto {K : Ctx} {w : World} {n m : Nat} {cs : List Value} {t : Fnc} (h : FncAt n K w cs t) (hm : n ≤ m) : FncAt m K w cs t := by
  obtain ⟨v2, v3, ts, v8, e, h1, h2, h3, h4, h5⟩ := h
  exact ⟨v2, v3, ts, v8, e, h1, h2, h3, h4, h5.mono (Below.refl _ _) fun _ _ _ h => h.upto hm⟩
theorem CrtAt.upto {K : Ctx} {w : World} {n m : Nat} {cs : List Value} {t : Crt} (h : CrtAt n K w cs t) (hm : n ≤ m) : CrtAt m K w cs t := by
  obtain ⟨v0, v1, e, h1, h2⟩ := h
  exact ⟨v0, v1, e, h1, h2.mono (Below.refl _ _) fun _ _ _ h => h.upto hm⟩
theorem st_of (G : Gd Good K.B) (hK : W.heap.size ≤ K.C) : ∀ (fuel : Nat) {cs : List Value} {x : DataW H × List MemPlace}, Td enc W fuel 114 cs x → Good 114 x.1 → ∃ t, StAt fuel K W cs t := by
  intro fuel
  induction fuel using Nat.strongRecOn with
  | ind fuel ih =>
  intro cs x h g
  obtain ⟨n, rfl, hl, hf⟩ := parts_of G Tryz.underlying114 h g
  have hl' : cs.length = 32 := hl.trans (by kernel_rfl)
  obtain ⟨a0, a1, a2, a3, a4, a5, a6, a7, a8, a9, a10, a11, a12, a13, a14, a15, a16, a17, a18, a19, a20, a21, a22, a23, a24, a25, a26, a27, a28, a29, a30, a31, rfl⟩ := lst32 hl'
  obtain ⟨y0, t0, g0⟩ := hf 0 _ rfl
  have s0 : Td enc W n 3 [a0] y0 := cut t0 Tryz.cl3 rfl
  obtain ⟨y1, t1, g1⟩ := hf 1 _ rfl
  have s1 : Td enc W n 3 [a1] y1 := cut t1 Tryz.cl3 rfl
  obtain ⟨y2, t2, g2⟩ := hf 2 _ rfl
  have s2 : Td enc W n 4 [a2] y2 := cut t2 Tryz.cl4 rfl
  obtain ⟨y3, t3, g3⟩ := hf 3 _ rfl
  have s3 : Td enc W n 9 [a3] y3 := cut t3 Tryz.cl9 rfl
  obtain ⟨y4, t4, g4⟩ := hf 4 _ rfl
  have s4 : Td enc W n 62 [a4, a5, a6, a7] y4 := cut t4 Tryz.cl31 rfl
  obtain ⟨y5, t5, g5⟩ := hf 5 _ rfl
  have s5 : Td enc W n 4 [a8] y5 := cut t5 Tryz.cl4 rfl
  obtain ⟨y6, t6, g6⟩ := hf 6 _ rfl
  have s6 : Td enc W n 107 [a9, a10] y6 := cut t6 Tryz.cl42 rfl
  obtain ⟨y7, t7, g7⟩ := hf 7 _ rfl
  have s7 : Td enc W n 112 [a11, a12, a13, a14, a15, a16, a17, a18, a19, a20, a21, a22, a23, a24, a25] y7 := cut t7 Tryz.cl47 rfl
  obtain ⟨y8, t8, g8⟩ := hf 8 _ rfl
  have s8 : Td enc W n 109 [a26, a27, a28, a29] y8 := cut t8 Tryz.cl44 rfl
  obtain ⟨y9, t9, g9⟩ := hf 9 _ rfl
  have s9 : Td enc W n 63 [a30] y9 := cut t9 Tryz.cl38 rfl
  obtain ⟨y10, t10, g10⟩ := hf 10 _ rfl
  have s10 : Td enc W n 63 [a31] y10 := cut t10 Tryz.cl38 rfl
  obtain ⟨k0, e0⟩ := int_of s0
  injection e0 with e0 _
  subst e0
  obtain ⟨k1, e1⟩ := int_of s1
  injection e1 with e1 _
  subst e1
  obtain ⟨k2, e2⟩ := bool_of s2
  injection e2 with e2 _
  subst e2
  obtain ⟨k3, e3, l3⟩ := text_of G s3 g3
  injection e3 with e3 _
  subst e3
  obtain ⟨p4, r4⟩ := ty_of G hK _ s4 g4
  obtain ⟨k5, e5⟩ := bool_of s5
  injection e5 with e5 _
  subst e5
  obtain ⟨p6, r6⟩ := pl_of G hK s6 g6
  obtain ⟨p7, r7⟩ := va_of G hK s7 g7
  obtain ⟨p8, r8⟩ := opr_of G hK s8 g8
  obtain ⟨v9, k9, e9, r9⟩ := row_of (e := 114) (z := 32) (bz := 496) (α := St) (P := StAt (n - 1) K W) G hK Tryz.underlying63 (by kernel_rfl) (by kernel_rfl) (by decide) (St.bare 0 0) (fun m hm _ _ h g => by rw [show n - 1 = m by omega]; exact ih m (by omega) h g) s9 g9
  injection e9 with e9 _
  subst e9
  obtain ⟨v10, k10, e10, r10⟩ := row_of (e := 114) (z := 32) (bz := 496) (α := St) (P := StAt (n - 1) K W) G hK Tryz.underlying63 (by kernel_rfl) (by kernel_rfl) (by decide) (St.bare 0 0) (fun m hm _ _ h g => by rw [show n - 1 = m by omega]; exact ih m (by omega) h g) s10 g10
  injection e10 with e10 _
  subst e10
  exact ⟨⟨k0, k1, k2, k3, p4, k5, p6, p7, p8, k9, k10⟩, _, _, _, _, _, _, rfl, l3, ⟨_, r4⟩, r6, r7, r8, r9.mono (Below.refl _ _) fun _ _ _ h => StAt.upto h (Nat.sub_le n 1), r10.mono (Below.refl _ _) fun _ _ _ h => StAt.upto h (Nat.sub_le n 1)⟩
theorem lfe_of (G : Gd Good K.B) (hK : W.heap.size ≤ K.C) {fuel : Nat} {cs : List Value} {x : DataW H × List MemPlace} (h : Td enc W fuel 85 cs x) (g : Good 85 x.1) : ∃ p, LfeAt K W cs p := by
  obtain ⟨n, rfl, hl, hf⟩ := parts_of G Tryz.underlying85 h g
  have hl' : cs.length = 2 := hl.trans (by kernel_rfl)
  obtain ⟨a0, a1, rfl⟩ := lst2 hl'
  obtain ⟨y0, t0, g0⟩ := hf 0 _ rfl
  have s0 : Td enc W n 9 [a0] y0 := cut t0 Tryz.cl9 rfl
  obtain ⟨y1, t1, g1⟩ := hf 1 _ rfl
  have s1 : Td enc W n 49 [a1] y1 := cut t1 Tryz.cl28 rfl
  obtain ⟨k0, e0, l0⟩ := text_of G s0 g0
  injection e0 with e0 _
  subst e0
  obtain ⟨v1, k1, e1, r1⟩ := strs_of G hK s1 g1
  injection e1 with e1 _
  subst e1
  exact ⟨⟨k0, k1⟩, _, rfl, l0, r1⟩
theorem fld_of (G : Gd Good K.B) (hK : W.heap.size ≤ K.C) {fuel : Nat} {cs : List Value} {x : DataW H × List MemPlace} (h : Td enc W fuel 82 cs x) (g : Good 82 x.1) : ∃ p, FldAt K W cs p := by
  obtain ⟨n, rfl, hl, hf⟩ := parts_of G Tryz.underlying82 h g
  have hl' : cs.length = 6 := hl.trans (by kernel_rfl)
  obtain ⟨a0, a1, a2, a3, a4, a5, rfl⟩ := lst6 hl'
  obtain ⟨y0, t0, g0⟩ := hf 0 _ rfl
  have s0 : Td enc W n 4 [a0] y0 := cut t0 Tryz.cl4 rfl
  obtain ⟨y1, t1, g1⟩ := hf 1 _ rfl
  have s1 : Td enc W n 9 [a1] y1 := cut t1 Tryz.cl9 rfl
  obtain ⟨y2, t2, g2⟩ := hf 2 _ rfl
  have s2 : Td enc W n 62 [a2, a3, a4, a5] y2 := cut t2 Tryz.cl31 rfl
  obtain ⟨k0, e0⟩ := bool_of s0
  injection e0 with e0 _
  subst e0
  obtain ⟨k1, e1, l1⟩ := text_of G s1 g1
  injection e1 with e1 _
  subst e1
  obtain ⟨p2, r2⟩ := ty_of G hK _ s2 g2
  exact ⟨⟨k0, k1, p2⟩, _, rfl, l1, _, r2⟩
theorem sct_of (G : Gd Good K.B) (hK : W.heap.size ≤ K.C) {fuel : Nat} {cs : List Value} {x : DataW H × List MemPlace} (h : Td enc W fuel 58 cs x) (g : Good 58 x.1) : ∃ p, SctAt K W cs p := by
  obtain ⟨n, rfl, hl, hf⟩ := parts_of G Tryz.underlying58 h g
  have hl' : cs.length = 5 := hl.trans (by kernel_rfl)
  obtain ⟨a0, a1, a2, a3, a4, rfl⟩ := lst5 hl'
  obtain ⟨y0, t0, g0⟩ := hf 0 _ rfl
  have s0 : Td enc W n 4 [a0] y0 := cut t0 Tryz.cl4 rfl
  obtain ⟨y1, t1, g1⟩ := hf 1 _ rfl
  have s1 : Td enc W n 9 [a1] y1 := cut t1 Tryz.cl9 rfl
  obtain ⟨y2, t2, g2⟩ := hf 2 _ rfl
  have s2 : Td enc W n 49 [a2] y2 := cut t2 Tryz.cl28 rfl
  obtain ⟨y3, t3, g3⟩ := hf 3 _ rfl
  have s3 : Td enc W n 56 [a3] y3 := cut t3 Tryz.cl37 rfl
  obtain ⟨y4, t4, g4⟩ := hf 4 _ rfl
  have s4 : Td enc W n 3 [a4] y4 := cut t4 Tryz.cl3 rfl
  obtain ⟨k0, e0⟩ := bool_of s0
  injection e0 with e0 _
  subst e0
  obtain ⟨k1, e1, l1⟩ := text_of G s1 g1
  injection e1 with e1 _
  subst e1
  obtain ⟨v2, k2, e2, r2⟩ := strs_of G hK s2 g2
  injection e2 with e2 _
  subst e2
  obtain ⟨v3, k3, e3, r3⟩ := row_of (e := 82) (z := 6) (bz := 96) (α := Fld) (P := FldAt K W) G hK Tryz.underlying56 (by kernel_rfl) (by kernel_rfl) (by decide) ⟨false, [], Ty.zero⟩ (fun _ _ _ _ h g => fld_of G hK h g) s3 g3
  injection e3 with e3 _
  subst e3
  obtain ⟨k4, e4⟩ := int_of s4
  injection e4 with e4 _
  subst e4
  exact ⟨⟨k0, k1, k2, k3, k4⟩, _, _, rfl, l1, r2, r3⟩
theorem fnc_of (G : Gd Good K.B) (hK : W.heap.size ≤ K.C) {fuel : Nat} {cs : List Value} {x : DataW H × List MemPlace} (h : Td enc W fuel 65 cs x) (g : Good 65 x.1) : ∃ p, FncAt fuel K W cs p := by
  obtain ⟨n, rfl, hl, hf⟩ := parts_of G Tryz.underlying65 h g
  have hl' : cs.length = 10 := hl.trans (by kernel_rfl)
  obtain ⟨a0, a1, a2, a3, a4, a5, a6, a7, a8, a9, rfl⟩ := lst10 hl'
  obtain ⟨y0, t0, g0⟩ := hf 0 _ rfl
  have s0 : Td enc W n 4 [a0] y0 := cut t0 Tryz.cl4 rfl
  obtain ⟨y1, t1, g1⟩ := hf 1 _ rfl
  have s1 : Td enc W n 9 [a1] y1 := cut t1 Tryz.cl9 rfl
  obtain ⟨y2, t2, g2⟩ := hf 2 _ rfl
  have s2 : Td enc W n 59 [a2] y2 := cut t2 Tryz.cl36 rfl
  obtain ⟨y3, t3, g3⟩ := hf 3 _ rfl
  have s3 : Td enc W n 56 [a3] y3 := cut t3 Tryz.cl37 rfl
  obtain ⟨y4, t4, g4⟩ := hf 4 _ rfl
  have s4 : Td enc W n 62 [a4, a5, a6, a7] y4 := cut t4 Tryz.cl31 rfl
  obtain ⟨y5, t5, g5⟩ := hf 5 _ rfl
  have s5 : Td enc W n 63 [a8] y5 := cut t5 Tryz.cl38 rfl
  obtain ⟨y6, t6, g6⟩ := hf 6 _ rfl
  have s6 : Td enc W n 3 [a9] y6 := cut t6 Tryz.cl3 rfl
  obtain ⟨k0, e0⟩ := bool_of s0
  injection e0 with e0 _
  subst e0
  obtain ⟨k1, e1, l1⟩ := text_of G s1 g1
  injection e1 with e1 _
  subst e1
  obtain ⟨v2, k2, e2, r2⟩ := row_of (e := 85) (z := 2) (bz := 40) (α := Lfe) (P := LfeAt K W) G hK Tryz.underlying59 (by kernel_rfl) (by kernel_rfl) (by decide) ⟨[], []⟩ (fun _ _ _ _ h g => lfe_of G hK h g) s2 g2
  injection e2 with e2 _
  subst e2
  obtain ⟨v3, k3, e3, r3⟩ := row_of (e := 82) (z := 6) (bz := 96) (α := Fld) (P := FldAt K W) G hK Tryz.underlying56 (by kernel_rfl) (by kernel_rfl) (by decide) ⟨false, [], Ty.zero⟩ (fun _ _ _ _ h g => fld_of G hK h g) s3 g3
  injection e3 with e3 _
  subst e3
  obtain ⟨p4, r4⟩ := ty_of G hK _ s4 g4
  obtain ⟨v5, k5, e5, r5⟩ := row_of (e := 114) (z := 32) (bz := 496) (α := St) (P := StAt n K W) G hK Tryz.underlying63 (by kernel_rfl) (by kernel_rfl) (by decide) (St.bare 0 0) (fun m hm _ _ h g => by obtain ⟨q, hq⟩ := st_of G hK m h g; exact ⟨q, hq.upto (by omega)⟩) s5 g5
  injection e5 with e5 _
  subst e5
  obtain ⟨k6, e6⟩ := int_of s6
  injection e6 with e6 _
  subst e6
  exact ⟨⟨k0, k1, k2, k3, p4, k5, k6⟩, _, _, _, _, rfl, l1, r2, r3, ⟨_, r4⟩, r5.mono (Below.refl _ _) fun _ _ _ h => h.upto (by omega)⟩
theorem crt_of (G : Gd Good K.B) (hK : W.heap.size ≤ K.C) {fuel : Nat} {cs : List Value} {x : DataW H × List MemPlace} (h : Td enc W fuel 25 cs x) (g : Good 25 x.1) : ∃ p, CrtAt fuel K W cs p := by
  obtain ⟨n, rfl, hl, hf⟩ := parts_of G Tryz.underlying25 h g
  have hl' : cs.length = 2 := hl.trans (by kernel_rfl)
  obtain ⟨a0, a1, rfl⟩ := lst2 hl'
  obtain ⟨y0, t0, g0⟩ := hf 0 _ rfl
  have s0 : Td enc W n 22 [a0] y0 := cut t0 Tryz.cl22 rfl
  obtain ⟨y1, t1, g1⟩ := hf 1 _ rfl
  have s1 : Td enc W n 23 [a1] y1 := cut t1 Tryz.cl23 rfl
  obtain ⟨v0, k0, e0, r0⟩ := row_of (e := 58) (z := 5) (bz := 80) (α := Sct) (P := SctAt K W) G hK Tryz.underlying22 (by kernel_rfl) (by kernel_rfl) (by decide) ⟨false, [], [], [], 0⟩ (fun _ _ _ _ h g => sct_of G hK h g) s0 g0
  injection e0 with e0 _
  subst e0
  obtain ⟨v1, k1, e1, r1⟩ := row_of (e := 65) (z := 10) (bz := 176) (α := Fnc) (P := FncAt n K W) G hK Tryz.underlying23 (by kernel_rfl) (by kernel_rfl) (by decide) ⟨false, [], [], [], Ty.zero, [], 0⟩ (fun m hm _ _ h g => by obtain ⟨q, hq⟩ := fnc_of G hK h g; exact ⟨q, hq.upto (by omega)⟩) s1 g1
  injection e1 with e1 _
  subst e1
  exact ⟨⟨k0, k1⟩, _, _, rfl, r0, r1.mono (Below.refl _ _) fun _ _ _ h => h.upto (by omega)⟩
end
end Go.Proofs.YtmopffaocamieaaGreat
