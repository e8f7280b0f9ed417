/-
  Crates, as they come in.
-/
import Derived.Test.YtmfdmpfeoppnfaaDoorLai
import Derived.Test.YtmfdmpfeoppnfaaDoorPri
import Derived.ChangeSlices
import Derived.SizedLaws
namespace Go.Proofs.YtmfdmpfeoppnfaaDoor
open Go.ChangeShapes Go.WideShapes Go.ChangeAt Go.RowKit

/-- What is known of how great the things are that come in. -/
structure Gd {H : Type} (Good : TypeId → DataW H → Prop) (B : Nat) : Prop where
  text : ∀ {s : List UInt8}, Good 9 (.lit (.string s)) → s.length ≤ B
  row : ∀ {t e : TypeId} {els sp : List (DataW H)}, Good t (.slice els sp) → Tryd.prog.underlying t = some (.slice e) → els.length * Tryd.prog.bytesOf e ≤ 140737488355328 ∧ ∀ d ∈ els, Good e d
  part : ∀ {t : TypeId} {fs : Array Field} {ps : List (DataW H)}, Good t (.agg ps) → Tryd.prog.underlying t = some (.struct fs) → ∀ (i : Nat) (f : Field) (d : DataW H), fs[i]? = some f → ps[i]? = some d → Good f.type d
theorem weightsAll_mem {H : Type} {P : Program} {e : TypeId} : ∀ {l : List (DataW H)} {d : DataW H}, d ∈ l → ∀ n ∈ d.weights P e, n ∈ DataW.weightsAll P e l
  | [], _, h, _, _ => by cases h
  | x :: l, d, h, n, hn => by
    unfold DataW.weightsAll
    rcases List.mem_cons.1 h with rfl | h
    · exact List.mem_append_left _ hn
    · exact List.mem_append_right _ (weightsAll_mem h n hn)
/-- All that lies within is at most of the form's reach. -/
def Rch {H : Type} (t : TypeId) (d : DataW H) : Prop := ∀ n ∈ d.weights Tryd.prog t, n ≤ reachBytes
theorem rch_text {H : Type} {s : List UInt8} {t : TypeId} (h : Rch (H := H) t (.lit (.string s))) : s.length ≤ reachBytes := h _ (by simp [DataW.weights])
theorem rch_row {H : Type} {t e : TypeId} {els sp : List (DataW H)} (h : Rch t (.slice els sp)) (hu : Tryd.prog.underlying t = some (.slice e)) : els.length * Tryd.prog.bytesOf e ≤ 140737488355328 ∧ ∀ d ∈ els, Rch e d := by
  unfold Rch at h ⊢
  unfold DataW.weights at h
  simp only [hu] at h
  refine ⟨?_, fun d hd n hn => h n (List.mem_cons_of_mem _ (List.mem_append_left _ (weightsAll_mem hd n hn)))⟩
  have h1 := h _ (List.mem_cons_self)
  have h2 : els.length * Tryd.prog.bytesOf e ≤ (els.length + sp.length) * Tryd.prog.bytesOf e := Nat.mul_le_mul_right _ (by omega)
  have h3 : reachBytes ≤ 140737488355328 := by decide
  omega
theorem rch_part {H : Type} {t : TypeId} {fs : Array Field} {ps : List (DataW H)} (h : Rch t (.agg ps)) (hu : Tryd.prog.underlying t = some (.struct fs)) (i : Nat) (f : Field) (d : DataW H) (hf : fs[i]? = some f) (hd : ps[i]? = some d) : Rch f.type d := by
  unfold Rch at h ⊢
  unfold DataW.weights at h
  simp only [hu] at h
  intro n hn
  refine h n (DataW.weights_mem_each (j := i) (t := f.type) ?_ hd n hn)
  simp [hf]
theorem gd_rch {H : Type} : Gd (H := H) Rch reachBytes := ⟨rch_text, rch_row, rch_part⟩
theorem part_le {H : Type} {d : DataW H} {l : List (DataW H)} (h : d ∈ l) : Rows.uptoBulk d ≤ Rows.uptoBulkAll l := by
  induction l with
  | nil => cases h
  | cons x r ih =>
    simp only [Rows.uptoBulkAll]
    cases List.mem_cons.1 h with
    | inl e => subst e; omega
    | inr e => have := ih e; omega
/-- All that lies within is at most of the form's reach, and of the bound's bulk. -/
def Sml {H : Type} (t : TypeId) (d : DataW H) : Prop := Rch t d ∧ Rows.uptoBulk d ≤ 1048576
theorem gd_sml {H : Type} : Gd (H := H) Sml 1048576 := by
  refine ⟨fun h => ?_, fun h hu => ?_, fun h hu i f d hf hd => ?_⟩
  · have := h.2
    simp only [Rows.uptoBulk] at this
    omega
  · obtain ⟨h1, h2⟩ := rch_row h.1 hu
    refine ⟨h1, fun d hd => ⟨h2 d hd, ?_⟩⟩
    have a := h.2
    have b := part_le hd
    simp only [Rows.uptoBulk] at a
    omega
  · refine ⟨rch_part h.1 hu i f d hf hd, ?_⟩
    have a := h.2
    have b := part_le (List.mem_of_getElem? hd)
    simp only [Rows.uptoBulk] at a
    omega
section
variable {H : Type} {enc : TypeId × Value → H} {W : World} {Good : TypeId → DataW H → Prop} {B : Nat}
abbrev Td (enc : TypeId × Value → H) (W : World) (fuel : Nat) (t : TypeId) (cs : List Value) (x : DataW H × List MemPlace) : Prop := DataW.trod enc Tryd.prog W 0 (fun _ => true) true fuel t cs = some x
theorem text_of (G : Gd Good B) {fuel : Nat} {cs : List Value} {x : DataW H × List MemPlace} (h : Td enc W fuel 9 cs x) (g : Good 9 x.1) : ∃ s : Bs, cs = [.string (str s)] ∧ s.length ≤ B := by
  obtain ⟨s, rfl, rfl, _⟩ := DataW.trod_string Tryd.underlying9 h
  exact ⟨s.data.toList, by rw [str_of], G.text g⟩
/-- The slice v (its elements have z cells and bz bytes) holds the things l, each as P says. -/
def Ar {α : Type} (z bz : Nat) (P : List Value → α → Prop) (w : World) (v : Value) (l : List α) : Prop :=
  ∃ ao cap, v = .slice ao l.length cap ∧ l.length ≤ cap ∧ l.length * bz ≤ 140737488355328 ∧
    ∀ i (_ : i < l.length), ∃ b o, ao = some ⟨b, o, none⟩ ∧ ∃ cs, cs.length = z ∧ (∀ j, j < z → w.cell? ⟨b, o + i * z + j, none⟩ = cs[j]?) ∧ P cs l[i]
theorem row_of (G : Gd Good B) {t e z bz : Nat} (hu : Tryd.prog.underlying t = some (.slice e)) (hc : Tryd.prog.cellsOf e = z) (hb : Tryd.prog.bytesOf e = bz) (hz : 0 < z) {α : Type} (dft : α) {P : List Value → α → Prop} {fuel : Nat}
    (each : ∀ n, fuel = n + 1 → ∀ {cs : List Value} {x : DataW H × List MemPlace}, Td enc W n e cs x → Good e x.1 → ∃ a, P cs a) {cs : List Value} {x : DataW H × List MemPlace} (h : Td enc W fuel t cs x) (g : Good t x.1) : ∃ v l, cs = [v] ∧ Ar z bz P W v l := by
  rcases DataW.trod_slice hu h with ⟨hcs, _⟩ | ⟨a, len, cap, elems, rest, m, hm, hcs, hx, _, hlc, hcm, hel, hcell, _⟩
  · exact ⟨_, [], hcs, none, 0, rfl, by simp, by simp, fun i hi => by simp at hi⟩
  · subst hx
    obtain ⟨hw, hg⟩ := G.row g hu
    rw [List.length_map, hb, hel] at hw
    rw [hc] at hcell
    have key : ∀ i, i < len → ∃ q : List Value × α, q.1.length = z ∧ (∀ j, j < z → W.cell? ((a.add (i * z)).add j) = q.1[j]?) ∧ P q.1 q.2 := by
      intro i hi
      have hc' := hcell i hi
      rw [List.getElem?_eq_getElem (by omega)] at hc'
      obtain ⟨cs', h1, h2⟩ := Option.bind_eq_some_iff.1 hc'
      obtain ⟨y, hy⟩ := each m hm h2 (hg _ (List.mem_map.2 ⟨_, List.getElem_mem (by omega), rfl⟩))
      obtain ⟨_, hl, he⟩ := World.cells?_some h1
      exact ⟨(cs', y), hl, he, hy⟩
    obtain ⟨q, hq⟩ : ∃ q : Nat → List Value × α, ∀ i, i < len → (q i).1.length = z ∧ (∀ j, j < z → W.cell? ((a.add (i * z)).add j) = (q i).1[j]?) ∧ P (q i).1 (q i).2 := by
      refine ⟨fun i => if h : i < len then (key i h).choose else ([], dft), fun i hi => ?_⟩
      simp only [dif_pos hi]
      exact (key i hi).choose_spec
    refine ⟨_, (List.range len).map (fun i => (q i).2), hcs, some a, cap, by simp, by simpa using hlc, by simpa using hw, fun i hi => ?_⟩
    have hi' : i < len := by simpa using hi
    obtain ⟨q1, q2, q3⟩ := hq i hi'
    obtain ⟨b, off, spot⟩ := a
    obtain ⟨y1, y2, _⟩ := hq 0 (by omega)
    have h0 := y2 0 hz
    rw [List.getElem?_eq_getElem (by omega)] at h0
    have hspot : spot = none := by
      have := World.cell?_spot h0
      simpa [Addr.add] using this
    subst hspot
    refine ⟨b, off, rfl, (q i).1, q1, fun j hj => ?_, by simpa using q3⟩
    have := q2 j hj
    rw [addr_add, addr_add] at this
    exact this
theorem strs_of (G : Gd Good B) {fuel : Nat} {cs : List Value} {x : DataW H × List MemPlace} (h : Td enc W fuel 22 cs x) (g : Good 22 x.1) : ∃ v l, cs = [v] ∧ Ss W v l ∧ ∀ s ∈ l, s.length ≤ B := by
  obtain ⟨v, l, rfl, ao, cap, e, h1, h2, h3⟩ := row_of (e := 9) (z := 1) (bz := 16) (α := Bs) (P := fun cs s => cs = [.string (str s)] ∧ s.length ≤ B) G Tryd.underlying22 (by kernel_rfl) (by kernel_rfl) (by decide) [] (fun n _ _ _ h g => by
    obtain ⟨s, h1, h2⟩ := text_of G h g
    exact ⟨s, h1, h2⟩) h g
  refine ⟨v, l, rfl, ⟨ao, cap, e, h1, by omega, fun i hi => ?_⟩, fun s hs => ?_⟩
  · obtain ⟨b, o, ea, cs, _, hc, rfl, _⟩ := h3 i hi
    refine ⟨b, o, ea, ?_⟩
    have := hc 0 (by decide)
    rw [getD_eq l i [] hi]
    simpa using this
  · obtain ⟨i, hi, rfl⟩ := List.mem_iff_getElem.1 hs
    obtain ⟨b, o, ea, cs, _, hc, _, hl⟩ := h3 i hi
    exact hl
/-- A struct's parts. -/
theorem parts_of (G : Gd Good B) {t : TypeId} {fs : Array Field} (hu : Tryd.prog.underlying t = some (.struct fs)) {fuel : Nat} {cs : List Value} {x : DataW H × List MemPlace} (h : Td enc W fuel t cs x) (g : Good t x.1) :
    ∃ n, fuel = n + 1 ∧ cs.length = Tryd.prog.cellsOf t ∧ ∀ (i : Nat) (f : Field), fs[i]? = some f → ∃ y, Td enc W n f.type ((cs.drop f.offset).take (Tryd.prog.cellsOf f.type)) y ∧ Good f.type y.1 := by
  obtain ⟨xs, n, hn, hx, hl, hlen, hf⟩ := DataW.trod_struct hu h
  refine ⟨n, hn, hl, fun i f hif => ?_⟩
  have hi : i < xs.length := by
    rw [hlen]
    rcases Nat.lt_or_ge i fs.size with h | h
    · exact h
    · rw [Array.getElem?_eq_none h] at hif; cases hif
  have h1 := hf i f hif
  rw [List.getElem?_eq_getElem hi] at h1
  refine ⟨xs[i], h1, ?_⟩
  subst hx
  exact G.part g hu i f _ hif (by simp [List.getElem?_eq_getElem hi])
theorem lst3 {l : List Value} (h : l.length = 3) : ∃ a0 a1 a2 : Value, l = [a0, a1, a2] := by
  match l, h with
  | [a0, a1, a2], _ => exact ⟨_, _, _, rfl⟩
theorem cutP {n o z : Nat} {ty : TypeId} {cs cs' : List Value} {y : DataW H × List MemPlace} (h : Td enc W n ty ((cs.drop o).take (Tryd.prog.cellsOf ty)) y) (hc : Tryd.prog.cellsOf ty = z) (e : (cs.drop o).take z = cs') : Td enc W n ty cs' y := by
  rw [← e, ← hc]; exact h
theorem Tryd.cl9 : Tryd.prog.cellsOf 9 = 1 := by kernel_rfl
theorem Tryd.cl22 : Tryd.prog.cellsOf 22 = 1 := by kernel_rfl
theorem Tryd.cl43 : Tryd.prog.cellsOf 43 = 3 := by kernel_rfl
def SrcAt (W : World) (B : Nat) (cs : List Value) (x : Src) : Prop := ∃ dv, cs = [.string (str x.name), dv, .string (str x.text)] ∧ Ss W dv x.deps ∧ x.name.length ≤ B ∧ x.text.length ≤ B ∧ ∀ d ∈ x.deps, d.length ≤ B
theorem src_of (G : Gd Good B) {fuel : Nat} {cs : List Value} {x : DataW H × List MemPlace} (h : Td enc W fuel 43 cs x) (g : Good 43 x.1) : ∃ a, SrcAt W B cs a := by
  obtain ⟨n, rfl, hl, hf⟩ := parts_of G Tryd.underlying43 h g
  rw [Tryd.cl43] at hl
  obtain ⟨a0, a1, a2, rfl⟩ := lst3 hl
  obtain ⟨y0, x0, g0⟩ := hf 0 _ rfl
  obtain ⟨y1, x1, g1⟩ := hf 1 _ rfl
  obtain ⟨y2, x2, g2⟩ := hf 2 _ rfl
  obtain ⟨s0, e0, b0⟩ := text_of G (cutP x0 Tryd.cl9 (cs' := [a0]) rfl) g0
  obtain ⟨v1, l1, e1, k1, b1⟩ := strs_of G (cutP x1 Tryd.cl22 (cs' := [a1]) rfl) g1
  obtain ⟨s2, e2, b2⟩ := text_of G (cutP x2 Tryd.cl9 (cs' := [a2]) rfl) g2
  cases e0
  cases e1
  cases e2
  exact ⟨⟨s0, l1, s2⟩, _, rfl, k1, b0, b2, b1⟩
theorem srcs_of (G : Gd Good B) {fuel : Nat} {cs : List Value} {x : DataW H × List MemPlace} (h : Td enc W fuel 24 cs x) (g : Good 24 x.1) : ∃ v L, cs = [v] ∧ Srs W v L ∧ ∀ x ∈ L, x.name.length ≤ B ∧ x.text.length ≤ B ∧ ∀ d ∈ x.deps, d.length ≤ B := by
  obtain ⟨v, l, rfl, ao, cap, e, h1, h2, h3⟩ := row_of (e := 43) (z := 3) (bz := 56) (α := Src) (P := SrcAt W B) G Tryd.underlying24 Tryd.cl43 (by kernel_rfl) (by decide) Src.zero (fun n _ _ _ h g => src_of G h g) h g
  refine ⟨v, l, rfl, ⟨ao, cap, e, h1, by omega, fun i hi => ?_⟩, fun s hs => ?_⟩
  · obtain ⟨b, o, ea, cs, _, hc, dv, rfl, hs, _⟩ := h3 i hi
    rw [getD_eq l i Src.zero hi]
    exact ⟨b, o, dv, ea, by simpa using hc 0 (by decide), by simpa using hc 1 (by decide), by simpa using hc 2 (by decide), hs⟩
  · obtain ⟨i, hi, rfl⟩ := List.mem_iff_getElem.1 hs
    obtain ⟨b, o, ea, cs, _, hc, dv, _, _, hl⟩ := h3 i hi
    exact hl
set_option maxRecDepth 100000 in
theorem open_srcs (G : Gd Good B) {base : Nat} {v : Value} {d : DataW H} {p : List MemPlace} (hv : Value.okWide Tryd.prog W .any base 24 v) (h : DataW.Trod enc Tryd.prog W 0 (fun _ => true) true 24 v d p) (g : Good 24 d) :
    ∃ L, Srs W v L ∧ ∀ x ∈ L, x.name.length ≤ B ∧ x.text.length ≤ B ∧ ∀ d ∈ x.deps, d.length ≤ B := by
  obtain ⟨a0, len, cap, rfl⟩ := okWide_slice Tryd.underlying24 hv
  obtain ⟨fuel, hf⟩ := h
  obtain ⟨v, L, e, hs, hb⟩ := srcs_of G hf g
  simp [Value.cells] at e
  subst e
  exact ⟨L, hs, hb⟩
end
end Go.Proofs.YtmfdmpfeoppnfaaDoor
