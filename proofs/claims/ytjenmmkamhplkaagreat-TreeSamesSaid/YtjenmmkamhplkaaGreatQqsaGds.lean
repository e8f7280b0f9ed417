/-
  How great the things are that come in: the form's own reach.
-/
import Derived.Test.YtjenmmkamhplkaaGreatQqsaOpe
import Derived.HandedShaped
namespace Go.Proofs.YtjenmmkamhplkaaGreat
open Go.ChangeShapes Go.WideShapes Go.ChangeAt Go.RowKit
theorem weightsAll_mem {H : Type} {P : Program} {e : TypeId} : ∀ {l : List (DataW H)} {d : DataW H}, d ∈ l -> ∀ n ∈ d.weights P e, n ∈ DataW.weightsAll P e l
  | [], _, h, _, _ => by cases h
  | x :: l, d, h, n, hn => by
    unfold DataW.weightsAll
    rcases List.mem_cons.1 h with rfl | h
    . exact List.mem_append_left _ hn
    . exact List.mem_append_right _ (weightsAll_mem h n hn)
def Rch {H : Type} (t : TypeId) (d : DataW H) : Prop := ∀ n ∈ d.weights Tryz.prog t, n <= reachBytes
theorem rch_text {H : Type} {s : List UInt8} {t : TypeId} (h : Rch (H := H) t (.lit (.string s))) : s.length <= reachBytes := h _ (by simp [DataW.weights])
theorem rch_row {H : Type} {t e : TypeId} {els sp : List (DataW H)} (h : Rch t (.slice els sp)) (hu : Tryz.prog.underlying t = some (.slice e)) : els.length * Tryz.prog.bytesOf e <= 140737488355328 /\ ∀ d ∈ els, Rch e d := by
  unfold Rch at h ⊢
  unfold DataW.weights at h
  simp only [hu] at h
  refine ⟨?_, fun d hd n hn => h n (List.mem_cons_of_mem _ (List.mem_append_left _ (weightsAll_mem hd n hn)))⟩
  have h1 := h _ (List.mem_cons_self)
  have h2 : els.length * Tryz.prog.bytesOf e <= (els.length + sp.length) * Tryz.prog.bytesOf e := Nat.mul_le_mul_right _ (by omega)
  have h3 : reachBytes <= 140737488355328 := by decide
  omega
theorem rch_part {H : Type} {t : TypeId} {fs : Array Field} {ps : List (DataW H)} (h : Rch t (.agg ps)) (hu : Tryz.prog.underlying t = some (.struct fs)) (i : Nat) (f : Field) (d : DataW H) (hf : fs[i]? = some f) (hd : ps[i]? = some d) : Rch f.type d := by
  unfold Rch at h ⊢
  unfold DataW.weights at h
  simp only [hu] at h
  intro n hn
  refine h n (DataW.weights_mem_each (j := i) (t := f.type) ?_ hd n hn)
  simp [hf]
theorem gd_rch {H : Type} : Gd (H := H) Rch reachBytes := ⟨rch_text, rch_row, rch_part⟩
def reachK (C : Nat) : Ctx := ⟨C, reachBytes, by decide⟩
section
variable {H : Type} {enc : TypeId × Value -> H} {W : World} {base : Nat} {v : Value} {d : DataW H} {p : List MemPlace}
set_option maxRecDepth 100000 in
theorem open_crt {Good : TypeId -> DataW H -> Prop} {K : Ctx} (G : Gd Good K.B) (hK : W.heap.size <= K.C) (hv : Value.okWide Tryz.prog W .any base 25 v) (h : DataW.Trod enc Tryz.prog W 0 (fun _ => true) true 25 v d p) (g : Good 25 d) : ∃ n cs c, v = .agg cs.toArray /\ CrtAt n K W cs c := by
  obtain ⟨cs, rfl⟩ : ∃ cs, v = .agg cs := by
    simp only [Value.okWide, Tryz.underlying25] at hv
    cases v <;> simp_all
  obtain ⟨fuel, hf⟩ := h
  have hf' : Td enc W fuel 25 cs.toList (d, p) := by simpa [Value.cells] using hf
  obtain ⟨c, hc⟩ := crt_of G hK hf' g
  exact ⟨fuel, cs.toList, c, by simp, hc⟩
set_option maxRecDepth 100000 in
theorem open_ty {Good : TypeId -> DataW H -> Prop} {K : Ctx} (G : Gd Good K.B) (hK : W.heap.size <= K.C) (hv : Value.okWide Tryz.prog W .any base 31 v) (h : DataW.Trod enc Tryz.prog W 0 (fun _ => true) true 31 v d p) (g : Good 31 d) : ∃ cs t, v = .agg cs.toArray /\ IsTy K W cs t := by
  obtain ⟨cs, rfl⟩ : ∃ cs, v = .agg cs := by
    simp only [Value.okWide, Tryz.underlying31] at hv
    cases v <;> simp_all
  obtain ⟨fuel, hf⟩ := h
  have hf' : Td enc W fuel 31 cs.toList (d, p) := by simpa [Value.cells] using hf
  obtain ⟨c, hc⟩ := ty_of G hK fuel hf' g
  exact ⟨cs.toList, c, by simp, fuel, hc⟩
end
theorem maxLen_cell {W : World} (h : W.ShapedOpen Tryz.prog) : ∃ m, W.cell? ⟨0, 0, none⟩ = some (.int .i64 m) :=
  Go.Proofs.cell_of_shapedOpen_int (g := 0) (zero := #[.int .i64 0]) (t := 3) h (of_decide_eq_true (by kernel_rfl)) (by kernel_rfl) rfl (by kernel_rfl) (by kernel_rfl) Tryz.underlying3
theorem Tryz.laidAll : laidOutB Tryz.prog = true := by kernel_rfl
theorem Tryz.ownKn : ownKnob Tryz.prog.godebug = none := by kernel_rfl
end Go.Proofs.YtjenmmkamhplkaaGreat
