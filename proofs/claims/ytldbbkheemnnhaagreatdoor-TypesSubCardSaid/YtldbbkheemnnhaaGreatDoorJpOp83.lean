/-
  The texts Op8, Lay, SubCard, joined.
-/
import Derived.Test.YtldbbkheemnnhaaGreatDoorJpXr23
import Derived.ProofKit
import Derived.OpenShut
import Derived.ChangeSlices
import Derived.SizedLaws
import Derived.HandedShaped
import Derived.Test.YtldbbkheemnnhaaGreatDoorRows
import Derived.Test.YtldbbkheemnnhaaGreatDoorCards
import Derived.Test.YtldbbkheemnnhaaGreatDoorTie
import Derived.SevenTiedAt
import Derived.Deep.DeepHandedRow
import Derived.LaidHandle
import Derived.LaidLaws
import Derived.ChangeMaps5
import Derived.Test.YtldbbkheemnnhaaGreatDoorJpBd82
namespace Go.Proofs.YtldbbkheemnnhaaGreatDoor
open Go.ChangeShapes Go.WideShapes Go.ChangeAt Go.RowKit
structure Gd {H : Type} (Good : TypeId -> DataW H -> Prop) (B : Nat) : Prop where
 text : ∀ {s : List UInt8}, Good 9 (.lit (.string s)) -> s.length <= B
 row : ∀ {t e : TypeId} {els sp : List (DataW H)}, Good t (.slice els sp) -> Tryz.prog.underlying t = some (.slice e) -> els.length * Tryz.prog.bytesOf e <= 140737488355328 /\ ∀ d ∈ els, Good e d
 part : ∀ {t : TypeId} {fs : Array Field} {ps : List (DataW H)}, Good t (.agg ps) -> Tryz.prog.underlying t = some (.struct fs) -> ∀ (i : Nat) (f : Field) (d : DataW H), fs[i]? = some f -> ps[i]? = some d -> Good f.type d
section
variable {H : Type} {enc : TypeId × Value -> H} {W : World} {Good : TypeId -> DataW H -> Prop} {K : Ctx}
abbrev Td (enc : TypeId × Value -> H) (W : World) (fuel : Nat) (t : TypeId) (cs : List Value) (x : DataW H × List MemPlace) : Prop := DataW.trod enc Tryz.prog W 0 (fun _ => true) true fuel t cs = some x
theorem text_of (G : Gd Good K.B) {fuel : Nat} {cs : List Value} {x : DataW H × List MemPlace} (h : Td enc W fuel 9 cs x) (g : Good 9 x.1) : ∃ s : Bs, cs = [.string (str s)] /\ s.length <= K.B := by
 obtain ⟨s, rfl, rfl, _⟩ := DataW.trod_string Tryz.underlying9 h
 exact ⟨s.data.toList, by rw [str_of], G.text g⟩
theorem row_of (G : Gd Good K.B) (hK : W.heap.size <= K.C) {t e z bz : Nat} (hu : Tryz.prog.underlying t = some (.slice e)) (hc : Tryz.prog.cellsOf e = z) (hb : Tryz.prog.bytesOf e = bz) (hz : 0 < z) {α : Type} (dft : α) {P : List Value -> α -> Prop} {fuel : Nat}
  (each : ∀ n, fuel = n + 1 -> ∀ {cs : List Value} {x : DataW H × List MemPlace}, Td enc W n e cs x -> Good e x.1 -> ∃ a, P cs a) {cs : List Value} {x : DataW H × List MemPlace} (h : Td enc W fuel t cs x) (g : Good t x.1) : ∃ v l, cs = [v] /\ Ar z bz P K W v l := by
 rcases DataW.trod_slice hu h with ⟨hcs, _⟩ | ⟨a, len, cap, elems, rest, m, hm, hcs, hx, _, hlc, hcm, hel, hcell, _⟩
 ·exact ⟨_, [], hcs, nil_ar⟩
 ·subst hx
  obtain ⟨hw, hg⟩ := G.row g hu
  rw [List.length_map, hb, hel] at hw
  rw [hc] at hcell
  have key : ∀ i, i < len -> ∃ q : List Value × α, q.1.length = z /\ (∀ j, j < z -> W.cell? ((a.add (i * z)).add j) = q.1[j]?) /\ P q.1 q.2 := by
   intro i hi
   have hc' := hcell i hi
   rw [List.getElem?_eq_getElem (by omega)] at hc'
   obtain ⟨cs', h1, h2⟩ := Option.bind_eq_some_iff.1 hc'
   obtain ⟨y, hy⟩ := each m hm h2 (hg _ (List.mem_map.2 ⟨_, List.getElem_mem (by omega), rfl⟩))
   obtain ⟨_, hl, he⟩ := World.cells?_some h1
   exact ⟨(cs', y), hl, he, hy⟩
  obtain ⟨q, hq⟩ : ∃ q : Nat -> List Value × α, ∀ i, i < len -> (q i).1.length = z /\ (∀ j, j < z -> W.cell? ((a.add (i * z)).add j) = (q i).1[j]?) /\ P (q i).1 (q i).2 := by
   refine ⟨fun i => if h : i < len then (key i h).choose else ([], dft), fun i hi => ?_⟩
   simp only [dif_pos hi]
   exact (key i hi).choose_spec
  refine ⟨_, (List.range len).map (fun i => (q i).2), hcs, ⟨some a, cap, by simp, by simpa using hlc, by simpa using hw, fun i hi => ?_⟩⟩
  have hi' : i < len := by simpa using hi
  obtain ⟨q1, q2, q3⟩ := hq i hi'
  obtain ⟨b, off, spot⟩ := a
  obtain ⟨y1, y2, _⟩ := hq 0 (by omega)
  have h0 := y2 0 hz
  rw [List.getElem?_eq_getElem (by omega)] at h0
  have hspot : spot = none := by
   have := World.cell?_spot h0
   simpa [Addr.add] using this
  subst hspot
  have hblk : b < W.heap.size := by
   have := World.block_lt_of_cell? W _ h0
   rw [addr_add, addr_add] at this
   exact this
  refine ⟨b, off, rfl, Nat.lt_of_lt_of_le hblk hK, (q i).1, q1, fun j hj => ?_, by simpa using q3⟩
  have := q2 j hj
  rw [addr_add, addr_add] at this
  exact this
theorem int_of {fuel : Nat} {cs : List Value} {x : DataW H × List MemPlace} (h : Td enc W fuel 3 cs x) : ∃ n : Int, cs = [.int .i64 n] := by
 obtain ⟨n, h, _⟩ := DataW.trod_int Tryz.underlying3 h
 exact ⟨n, h⟩
theorem ints_of (G : Gd Good K.B) (hK : W.heap.size <= K.C) {fuel : Nat} {cs : List Value} {x : DataW H × List MemPlace} (h : Td enc W fuel 22 cs x) (g : Good 22 x.1) : ∃ v l, cs = [v] /\ Nms K W v l :=
 row_of (e := 3) (z := 1) (bz := 8) (α := Int) G hK Tryz.underlying22 (by kernel_rfl) (by kernel_rfl) (by decide) 0 (fun n _ _ _ h g => int_of h) h g
theorem parts_of (G : Gd Good K.B) {t : TypeId} {fs : Array Field} (hu : Tryz.prog.underlying t = some (.struct fs)) {fuel : Nat} {cs : List Value} {x : DataW H × List MemPlace} (h : Td enc W fuel t cs x) (g : Good t x.1) :
  ∃ n, fuel = n + 1 /\ cs.length = Tryz.prog.cellsOf t /\ ∀ (i : Nat) (f : Field), fs[i]? = some f -> ∃ y, Td enc W n f.type ((cs.drop f.offset).take (Tryz.prog.cellsOf f.type)) y /\ Good f.type y.1 := by
 obtain ⟨xs, n, hn, hx, hl, hlen, hf⟩ := DataW.trod_struct hu h
 refine ⟨n, hn, hl, fun i f hif => ?_⟩
 have hi : i < xs.length := by
  rw [hlen]
  rcases Nat.lt_or_ge i fs.size with h | h
  ·exact h
  ·rw [Array.getElem?_eq_none h] at hif; cases hif
 have h1 := hf i f hif
 rw [List.getElem?_eq_getElem hi] at h1
 refine ⟨xs[i], h1, ?_⟩
 subst hx
 exact G.part g hu i f _ hif (by simp [List.getElem?_eq_getElem hi])
theorem lst4 {l : List Value} (h : l.length = 4) : ∃ a0 a1 a2 a3 : Value, l = [a0, a1, a2, a3] := by
 match l, h with
 | [a0, a1, a2, a3], _ => exact ⟨_, _, _, _, rfl⟩
theorem cut {n o z : Nat} {ty : TypeId} {cs cs' : List Value} {y : DataW H × List MemPlace} (h : Td enc W n ty ((cs.drop o).take (Tryz.prog.cellsOf ty)) y) (hc : Tryz.prog.cellsOf ty = z) (e : (cs.drop o).take z = cs') : Td enc W n ty cs' y := by
 rw [← e, ← hc]; exact h
theorem Tryz.cl3 : Tryz.prog.cellsOf 3 = 1 := by kernel_rfl
theorem Tryz.cl9 : Tryz.prog.cellsOf 9 = 1 := by kernel_rfl
theorem Tryz.cl22 : Tryz.prog.cellsOf 22 = 1 := by kernel_rfl
theorem Tryz.cl23 : Tryz.prog.cellsOf 23 = 1 := by kernel_rfl
theorem RtAt.moreO {K : Ctx} {w : World} : ∀ {n : Nat} {cs : List Value} {t : RTy}, RtAt n K w cs t -> RtAt (n + 1) K w cs t
 | 0, _, _, h => h.elim
 | n + 1, _, _, h => by
  obtain ⟨v2, v3, e, h1, h2, h3⟩ := h
  exact ⟨v2, v3, e, h1, h2, h3.mono (Below.refl _ _) fun _ _ _ h => RtAt.moreO h⟩
theorem RtAt.uptoO {K : Ctx} {w : World} {n m : Nat} {cs : List Value} {t : RTy} (h : RtAt n K w cs t) (hm : n <= m) : RtAt m K w cs t := by
 induction hm with
 | refl => exact h
 | step _ ih => exact ih.moreO
theorem rty_of (G : Gd Good K.B) (hK : W.heap.size <= K.C) : ∀ (fuel : Nat) {cs : List Value} {x : DataW H × List MemPlace}, Td enc W fuel 25 cs x -> Good 25 x.1 -> ∃ t, RtAt fuel K W cs t := by
 intro fuel
 induction fuel using Nat.strongRecOn with
 | ind fuel ih =>
 intro cs x h g
 obtain ⟨n, rfl, hl, hf⟩ := parts_of G Tryz.underlying25 h g
 have hl' : cs.length = 4 := hl.trans (by kernel_rfl)
 obtain ⟨a0, a1, a2, a3, rfl⟩ := lst4 hl'
 obtain ⟨y0, t0, g0⟩ := hf 0 _ rfl
 have s0 : Td enc W n 3 [a0] y0 := cut t0 Tryz.cl3 rfl
 obtain ⟨y1, t1, g1⟩ := hf 1 _ rfl
 have s1 : Td enc W n 9 [a1] y1 := cut t1 Tryz.cl9 rfl
 obtain ⟨y2, t2, g2⟩ := hf 2 _ rfl
 have s2 : Td enc W n 22 [a2] y2 := cut t2 Tryz.cl22 rfl
 obtain ⟨y3, t3, g3⟩ := hf 3 _ rfl
 have s3 : Td enc W n 23 [a3] y3 := cut t3 Tryz.cl23 rfl
 obtain ⟨k0, e0⟩ := int_of s0
 injection e0 with e0 _
 subst e0
 obtain ⟨k1, e1, l1⟩ := text_of G s1 g1
 injection e1 with e1 _
 subst e1
 obtain ⟨v2, k2, e2, r2⟩ := ints_of G hK s2 g2
 injection e2 with e2 _
 subst e2
 obtain ⟨v3, k3, e3, r3⟩ := row_of (e := 25) (z := 4) (bz := 72) (α := RTy) (P := RtAt (n - 1) K W) G hK Tryz.underlying23 (by kernel_rfl) (by kernel_rfl) (by decide) ⟨0, [], [], []⟩ (fun m hm _ _ h g => by rw [show n - 1 = m by omega]; exact ih m (by omega) h g) s3 g3
 injection e3 with e3 _
 subst e3
 exact ⟨⟨k0, k1, k2, k3⟩, _, _, rfl, l1, r2, r3.mono (Below.refl _ _) fun _ _ _ h => RtAt.uptoO h (Nat.sub_le n 1)⟩
end
theorem weightsAll_mem {H : Type} {P : Program} {e : TypeId} : ∀ {l : List (DataW H)} {d : DataW H}, d ∈ l -> ∀ n ∈ d.weights P e, n ∈ DataW.weightsAll P e l
 | [], _, h, _, _ => by cases h
 | x :: l, d, h, n, hn => by
  unfold DataW.weightsAll
  rcases List.mem_cons.1 h with rfl | h
  ·exact List.mem_append_left _ hn
  ·exact List.mem_append_right _ (weightsAll_mem h n hn)
def Rch {H : Type} (t : TypeId) (d : DataW H) : Prop := ∀ n ∈ d.weights Tryz.prog t, n <= reachBytes
theorem rch_text {H : Type} {s : List UInt8} {t : TypeId} (h : Rch (H := H) t (.lit (.string s))) : s.length <= reachBytes := h _ (by simp [DataW.weights])
theorem rch_row {H : Type} {t e : TypeId} {els sp : List (DataW H)} (h : Rch t (.slice els sp)) (hu : Tryz.prog.underlying t = some (.slice e)) : els.length * Tryz.prog.bytesOf e <= 140737488355328 /\ ∀ d ∈ els, Rch e d := by
 unfold Rch at h ⊢
 unfold DataW.weights at h
 simp only [hu] at h
 refine ⟨?_, fun d hd n hn => h n (List.mem_cons_of_mem _ (List.mem_append_left _ (weightsAll_mem hd n hn)))⟩
 have h1 := h _ (List.mem_cons_self)
 have h2 : els.length * Tryz.prog.bytesOf e <= (els.length + sp.length) * Tryz.prog.bytesOf e := Nat.mul_le_mul_right _ (by omega)
 have h3 : reachBytes <= 140737488355328 := by decide
 omega
theorem rch_part {H : Type} {t : TypeId} {fs : Array Field} {ps : List (DataW H)} (h : Rch t (.agg ps)) (hu : Tryz.prog.underlying t = some (.struct fs)) (i : Nat) (f : Field) (d : DataW H) (hf : fs[i]? = some f) (hd : ps[i]? = some d) : Rch f.type d := by
 unfold Rch at h ⊢
 unfold DataW.weights at h
 simp only [hu] at h
 intro n hn
 refine h n (DataW.weights_mem_each (j := i) (t := f.type) ?_ hd n hn)
 simp [hf]
theorem gd_rch {H : Type} : Gd (H := H) Rch reachBytes := ⟨rch_text, rch_row, rch_part⟩
def reachK (C : Nat) : Ctx := ⟨C, reachBytes, by decide⟩
section
variable {H : Type} {enc : TypeId × Value -> H} {W : World} {base : Nat} {v : Value} {d : DataW H} {p : List MemPlace}
set_option maxRecDepth 100000 in
theorem open_rty {Good : TypeId -> DataW H -> Prop} {K : Ctx} (G : Gd Good K.B) (hK : W.heap.size <= K.C) (hv : Value.okWide Tryz.prog W .any base 25 v) (h : DataW.Trod enc Tryz.prog W 0 (fun _ => true) true 25 v d p) (g : Good 25 d) : ∃ n cs t, v = .agg cs.toArray /\ RtAt n K W cs t := by
 obtain ⟨cs, rfl⟩ : ∃ cs, v = .agg cs := by
  simp only [Value.okWide, Tryz.underlying25] at hv
  cases v <;> simp_all
 obtain ⟨fuel, hf⟩ := h
 have hf' : Td enc W fuel 25 cs.toList (d, p) := by simpa [Value.cells] using hf
 obtain ⟨c, hc⟩ := rty_of G hK fuel hf' g
 exact ⟨fuel, cs.toList, c, by simp, hc⟩
set_option maxRecDepth 100000 in
theorem open_nms {Good : TypeId -> DataW H -> Prop} {K : Ctx} (G : Gd Good K.B) (hK : W.heap.size <= K.C) (hv : Value.okWide Tryz.prog W .any base 22 v) (h : DataW.Trod enc Tryz.prog W 0 (fun _ => true) true 22 v d p) (g : Good 22 d) : ∃ l, Nms K W v l := by
 obtain ⟨a0, len, cap, rfl⟩ := okWide_slice Tryz.underlying22 hv
 obtain ⟨fuel, hf⟩ := h
 obtain ⟨v, l, e, hs⟩ := ints_of G hK hf g
 simp [Value.cells] at e
 subst e
 exact ⟨l, hs⟩
end
theorem maxLen_cell {W : World} (h : W.ShapedOpen Tryz.prog) : ∃ m, W.cell? ⟨1, 0, none⟩ = some (.int .i64 m) :=
 Go.Proofs.cell_of_shapedOpen_int (g := 1) (zero := #[.int .i64 0]) (t := 3) h (of_decide_eq_true (by kernel_rfl)) (by kernel_rfl) rfl (by kernel_rfl) (by kernel_rfl) Tryz.underlying3
theorem Tryz.laidAll : laidOutB Tryz.prog = true := by kernel_rfl
theorem Tryz.ownKn : ownKnob Tryz.prog.godebug = none := by kernel_rfl
end Go.Proofs.YtldbbkheemnnhaaGreatDoor

namespace Go.Proofs.YtldbbkheemnnhaaGreatDoor
open Go.ChangeShapes Go.WideShapes Go.ChangeAt Go.RowKit
def laidOf (w0 : World) : World :=
 { w0 with heap := w0.heap.modify 0 fun
   | .cells _ t frozen => .cells #[.iface 324 (.agg #[.pointer (some ⟨2, 49, none⟩)])] t frozen
   | o => o }
theorem laidWorld_met (os : Os) (args : Array Value) : laidMetH Tryz.prog [("errors.errorType", Rows.laid_errors_errorType)] ((laidOf (World.holding Tryz.prog os ⟨#[], #[], []⟩)).forCall (fun _ _ => 0) ⟨#[], args, []⟩).memory :=
 laidMetH_of_parts (laidMet_nil _ _) (by kernel_rfl)
end Go.Proofs.YtldbbkheemnnhaaGreatDoor

namespace Go.Proofs.YtldbbkheemnnhaaGreatDoor
open Go.ChangeShapes Go.WideShapes Go.ChangeAt Go.RowKit
set_option maxRecDepth 100000 in
theorem sub_lifted (os : Os) (started : os.Started) (H : Type) (enc : TypeId × Value -> H) (F : Stop.Interp) :
  ReturnsInHanded {} Tryz.checked os 6 .any ((OpenSpec.ofChange Rows.typesSubSpec).preRow enc Tryz.prog Tryz.f6 Rows.typesSubRow.domain false Rows.typesSubRow.laid) (((OpenSpec.ofChange Rows.typesSubSpec).at F).post enc Tryz.prog Tryz.f6 false true false false) := by
 refine returnsInHanded_of_row (C := Tryz.checked) (s := OpenSpec.ofChange Rows.typesSubSpec) Tryz.ownKn started (by kernel_rfl) Tryz.func6
  (witness_row_at (enc := enc) (C := Tryz.checked) false (laidOf (World.holding Tryz.prog os ⟨#[], #[], []⟩)) #[.agg #[.int .i64 0, .string ⟨#[]⟩, .slice none 0 0, .slice none 0 0], .agg #[.int .i64 0, .string ⟨#[]⟩, .slice none 0 0, .slice none 0 0], .slice none 0 0] rfl (by kernel_rfl) (by kernel_rfl) (by kernel_rfl)
   (OpenSpec.preRow_of_B rfl 8 (by kernel_rfl) (by kernel_rfl) (laidWorld_met os _))) ?_
 intro W base args ds gs before hval0 hW _ _ hwt _ hsh _
 have hval : ∀ (j : Nat) t v, Tryz.f6.params[j]? = some t -> args[j]? = some v -> Value.okWide Tryz.prog W .any base t v := hval0
 have hW' := hW
 obtain ⟨p, q, hA0, hV, rfl, hfz, hnd⟩ := hW
 have hA : DataW.TrodAll enc Tryz.prog W 0 (fun _ => true) true Tryz.f6.params.toList args.toList ds p := hA0
 rw [Tryz.params6] at hA hval
 obtain ⟨v0, vs0, d0, ds0, p0, q0, hargs, rfl, rfl, h0, r0⟩ := trodAll_cons hA
 obtain ⟨v1, vs1, d1, ds1, p1, q1, rfl, rfl, rfl, h1, r1⟩ := trodAll_cons r0
 obtain ⟨v2, vs2, d2, ds2, p2, q2, rfl, rfl, rfl, h2, r2⟩ := trodAll_cons r1
 obtain ⟨rfl, rfl, rfl⟩ := trodAll_nil r2
 obtain rfl : args = #[v0, v1, v2] := by cases args; simp_all
 obtain ⟨rfl, rfl⟩ := trodVars_none hV
 have hw0 : ∀ n ∈ DataW.weightsEach Tryz.prog (Tryz.f6.params.toList ++ (OpenSpec.ofChange Rows.typesSubSpec).bare.plain.varTypes Tryz.prog) ([d0, d1, d2] ++ []), n <= reachBytes := by
  intro n hn
  have := List.all_eq_true.1 hwt n hn
  simpa using this
 have g0 : Rch 25 d0 := fun n hn => hw0 n (DataW.weights_mem_each (j := 0) (t := 25) (by rw [Tryz.params6]; rfl) rfl n hn)
 obtain ⟨n0, cs0, t0, rfl, ht0⟩ := open_rty (K := reachK W.heap.size) gd_rch (Nat.le_refl _) (hval 0 25 v0 rfl rfl) h0 g0
 have hlt0 : ∀ x ∈ p0, x.block < W.heap.size := fun x hx => hW'.lt x (by simp [hx])
 have g1 : Rch 25 d1 := fun n hn => hw0 n (DataW.weights_mem_each (j := 1) (t := 25) (by rw [Tryz.params6]; rfl) rfl n hn)
 obtain ⟨n1, cs1, t1, rfl, ht1⟩ := open_rty (K := reachK W.heap.size) gd_rch (Nat.le_refl _) (hval 1 25 v1 rfl rfl) h1 g1
 have hlt1 : ∀ x ∈ p1, x.block < W.heap.size := fun x hx => hW'.lt x (by simp [hx])
 have g2 : Rch 22 d2 := fun n hn => hw0 n (DataW.weights_mem_each (j := 2) (t := 22) (by rw [Tryz.params6]; rfl) rfl n hn)
 obtain ⟨l2, hl2⟩ := open_nms (K := reachK W.heap.size) gd_rch (Nat.le_refl _) (hval 2 22 v2 rfl rfl) h2 g2
 have hlt2 : ∀ x ∈ p2, x.block < W.heap.size := fun x hx => hW'.lt x (by simp [hx])
 obtain ⟨m, hml⟩ := maxLen_cell hsh
 have hG : Glo W := ⟨World.block_lt_of_cell? W _ hml, m, hml⟩
 have hwalk : Calls Tryz.prog 6 #[.agg cs0.toArray, .agg cs1.toArray, v2] W fun ev w' => ev = .returned (.bool true) /\ Below W.heap.size W w' := sub_walk (K := reachK W.heap.size) hG (show 100 <= reachBytes by decide) (Nat.le_refl _) ht0 ht1 hl2
 refine hwalk.mono fun e W' ⟨he, hB⟩ => ?_
 subst he
 refine ⟨_, rfl, _, _, _, [], p0 ++ (p1 ++ (p2 ++ [])), [], hW', ?_, ?_, ?_, hB.frame _, fun h => by cases h⟩
 ·exact trodAll_cons_mk (shut_bool Tryz.underlying4 _) trodAll_mk0
 ·exact trodAll_cons_mk (Below.trod Tryz.laidAll (by kernel_rfl) (of_decide_eq_true (by kernel_rfl)) h0 hB hlt0) (trodAll_cons_mk (Below.trod Tryz.laidAll (by kernel_rfl) (of_decide_eq_true (by kernel_rfl)) h1 hB hlt1) (trodAll_cons_mk (Below.trod Tryz.laidAll (by kernel_rfl) (of_decide_eq_true (by kernel_rfl)) h2 hB hlt2) trodAll_mk0))
 ·rfl
theorem sub_said : Rows.TypesSubSaid :=
 OpenClaim.holds_of_cond 6 Tryz.f6 rfl rfl rfl rfl rfl rfl rfl ⟨rfl, rfl, rfl, rfl, rfl⟩ rfl rfl rfl rfl rfl (by kernel_rfl) Tryz.func6 (by kernel_rfl)
  (of_decide_eq_true (by kernel_rfl)) (by unfold Func.isWrapper; rw [if_neg (of_decide_eq_false (by kernel_rfl))]; exact ⟨rfl, rfl⟩)
  (fun os started H enc _ F => by rw [OpenClaim.pre_eq_preRow]; exact sub_lifted os started H enc F)
theorem sub_plain (f : FuncId) (fn : Func) (hf : Tryz.pinned.checked.prog.funcNamed Tryz.f6.name = some f) (hfn : Tryz.pinned.checked.prog.funcs[f]? = some fn) :
  true = Tryz.pinned.checked.prog.looks [] /\ ∀ (j : Nat) t, fn.params[j]? = some t -> Tryz.pinned.checked.prog.wantsStandIn t = false := by
 obtain rfl : f = 6 := Option.some.inj ((show Tryz.prog.funcNamed Tryz.f6.name = some 6 by kernel_rfl).symm.trans hf) |>.symm
 obtain rfl : fn = Tryz.f6 := (Option.some.inj (Tryz.func6.symm.trans hfn)).symm
 refine ⟨by kernel_rfl, fun j t ht => ?_⟩
 rw [Tryz.params6] at ht
 have h3 : t = 22 ∨ t = 25 := by
  rcases j with _ | _ | _ | j
  ·exact (.inr (by simpa using ht.symm))
  ·exact (.inr (by simpa using ht.symm))
  ·exact (.inl (by simpa using ht.symm))
  ·simp at ht
 rcases h3 with rfl | rfl
 ·exact (show Tryz.prog.wantsStandIn 22 = false by kernel_rfl)
 ·exact (show Tryz.prog.wantsStandIn 25 = false by kernel_rfl)
theorem sub_card : Rows.TypesSubCardSaid :=
 Claim7.holds_tied_plain_at .later [] _ _ _ _ sub_said (fun _ h => by cases h) (by kernel_rfl) (fun _ h => by cases h) typesSub_row_tie rfl ⟨rfl, rfl⟩ (by kernel_rfl) rfl sub_plain (by kernel_rfl)
end Go.Proofs.YtldbbkheemnnhaaGreatDoor
