/-
  The texts Gds, Sbl, ApartRow, joined.
-/
import Derived.Test.YtmopffaocamieaaGreatQapOpe
import Derived.HandedShaped
import Derived.Test.YtmopffaocamieaaGreatRows
import Derived.JoinedCond
import Derived.Test.YtmopffaocamieaaGreatQapLax
namespace Go.Proofs.YtmopffaocamieaaGreat
open Go.ChangeShapes Go.WideShapes Go.ChangeAt Go.RowKit

theorem weightsAll_mem {H : Type} {P : Program} {e : TypeId} : ∀ {l : List (DataW H)} {d : DataW H}, d ∈ l → ∀ n ∈ d.weights P e, n ∈ DataW.weightsAll P e l
  | [], _, h, _, _ => by cases h
  | x :: l, d, h, n, hn => by
    unfold DataW.weightsAll
    rcases List.mem_cons.1 h with rfl | h
    · exact List.mem_append_left _ hn
    · exact List.mem_append_right _ (weightsAll_mem h n hn)
/-- All that lies within is at most of the form's reach. -/
def Rch {H : Type} (t : TypeId) (d : DataW H) : Prop := ∀ n ∈ d.weights Tryz.prog t, n ≤ reachBytes
theorem rch_text {H : Type} {s : List UInt8} {t : TypeId} (h : Rch (H := H) t (.lit (.string s))) : s.length ≤ reachBytes := h _ (by simp [DataW.weights])
theorem rch_row {H : Type} {t e : TypeId} {els sp : List (DataW H)} (h : Rch t (.slice els sp)) (hu : Tryz.prog.underlying t = some (.slice e)) : els.length * Tryz.prog.bytesOf e ≤ 140737488355328 ∧ ∀ d ∈ els, Rch e d := by
  unfold Rch at h ⊢
  unfold DataW.weights at h
  simp only [hu] at h
  refine ⟨?_, fun d hd n hn => h n (List.mem_cons_of_mem _ (List.mem_append_left _ (weightsAll_mem hd n hn)))⟩
  have h1 := h _ (List.mem_cons_self)
  have h2 : els.length * Tryz.prog.bytesOf e ≤ (els.length + sp.length) * Tryz.prog.bytesOf e := Nat.mul_le_mul_right _ (by omega)
  have h3 : reachBytes ≤ 140737488355328 := by decide
  omega
theorem rch_part {H : Type} {t : TypeId} {fs : Array Field} {ps : List (DataW H)} (h : Rch t (.agg ps)) (hu : Tryz.prog.underlying t = some (.struct fs)) (i : Nat) (f : Field) (d : DataW H) (hf : fs[i]? = some f) (hd : ps[i]? = some d) : Rch f.type d := by
  unfold Rch at h ⊢
  unfold DataW.weights at h
  simp only [hu] at h
  intro n hn
  refine h n (DataW.weights_mem_each (j := i) (t := f.type) ?_ hd n hn)
  simp [hf]
theorem gd_rch {H : Type} : Gd (H := H) Rch reachBytes := ⟨rch_text, rch_row, rch_part⟩
def reachK (C : Nat) : Ctx := ⟨C, reachBytes, by decide⟩
section
variable {H : Type} {enc : TypeId × Value → H} {W : World} {base : Nat} {v : Value} {d : DataW H} {p : List MemPlace}
set_option maxRecDepth 100000 in
theorem open_crt {Good : TypeId → DataW H → Prop} {K : Ctx} (G : Gd Good K.B) (hK : W.heap.size ≤ K.C) (hv : Value.okWide Tryz.prog W .any base 25 v) (h : DataW.Trod enc Tryz.prog W 0 (fun _ => true) true 25 v d p) (g : Good 25 d) : ∃ n cs c, v = .agg cs.toArray ∧ CrtAt n K W cs c := by
  obtain ⟨cs, rfl⟩ : ∃ cs, v = .agg cs := by
    simp only [Value.okWide, Tryz.underlying25] at hv
    cases v <;> simp_all
  obtain ⟨fuel, hf⟩ := h
  have hf' : Td enc W fuel 25 cs.toList (d, p) := by simpa [Value.cells] using hf
  obtain ⟨c, hc⟩ := crt_of G hK hf' g
  exact ⟨fuel, cs.toList, c, by simp, hc⟩
set_option maxRecDepth 100000 in
theorem open_ty {Good : TypeId → DataW H → Prop} {K : Ctx} (G : Gd Good K.B) (hK : W.heap.size ≤ K.C) (hv : Value.okWide Tryz.prog W .any base 62 v) (h : DataW.Trod enc Tryz.prog W 0 (fun _ => true) true 62 v d p) (g : Good 62 d) : ∃ cs t, v = .agg cs.toArray ∧ IsTy K W cs t := by
  obtain ⟨cs, rfl⟩ : ∃ cs, v = .agg cs := by
    simp only [Value.okWide, Tryz.underlying62] at hv
    cases v <;> simp_all
  obtain ⟨fuel, hf⟩ := h
  have hf' : Td enc W fuel 62 cs.toList (d, p) := by simpa [Value.cells] using hf
  obtain ⟨c, hc⟩ := ty_of G hK fuel hf' g
  exact ⟨cs.toList, c, by simp, fuel, hc⟩
end
theorem maxLen_cell {W : World} (h : W.ShapedOpen Tryz.prog) : ∃ m, W.cell? ⟨0, 0, none⟩ = some (.int .i64 m) :=
  Go.Proofs.cell_of_shapedOpen_int (g := 0) (zero := #[.int .i64 0]) (t := 3) h (of_decide_eq_true (by kernel_rfl)) (by kernel_rfl) rfl (by kernel_rfl) (by kernel_rfl) Tryz.underlying3
theorem Tryz.laidAll : laidOutB Tryz.prog = true := by kernel_rfl
theorem Tryz.ownKn : ownKnob Tryz.prog.godebug = none := by kernel_rfl
end Go.Proofs.YtmopffaocamieaaGreat

namespace Go.Proofs.YtmopffaocamieaaGreat
open Go.ChangeShapes Go.WideShapes Go.ChangeAt Go.RowKit

theorem one_le {H : Type} (d : DataW H) : 1 ≤ Rows.uptoBulk d := by
  cases d with
  | lit l => cases l <;> simp [Rows.uptoBulk]
  | nil => simp [Rows.uptoBulk]
  | ptr d => simp [Rows.uptoBulk]
  | slice elems spare => simp [Rows.uptoBulk]
  | agg parts => simp [Rows.uptoBulk]
  | iface t d => simp [Rows.uptoBulk]
  | map entries => simp [Rows.uptoBulk]
  | held h => simp [Rows.uptoBulk]
theorem part_le {H : Type} {d : DataW H} {l : List (DataW H)} (h : d ∈ l) : Rows.uptoBulk d ≤ Rows.uptoBulkAll l := by
  induction l with
  | nil => cases h
  | cons x r ih =>
    simp only [Rows.uptoBulkAll]
    cases List.mem_cons.1 h with
    | inl e => subst e; omega
    | inr e => have := ih e; omega
/-- All that lies within is at most of the form's reach, and of the bound's bulk. -/
def Sml {H : Type} (t : TypeId) (d : DataW H) : Prop := Rch t d ∧ Rows.uptoBulk d ≤ 1048576
theorem gd_sml {H : Type} : Gd (H := H) Sml 1048576 := by
  refine ⟨fun h => ?_, fun h hu => ?_, fun h hu i f d hf hd => ?_⟩
  · have := h.2
    simp only [Rows.uptoBulk] at this
    omega
  · obtain ⟨h1, h2⟩ := rch_row h.1 hu
    refine ⟨h1, fun d hd => ⟨h2 d hd, ?_⟩⟩
    have a := h.2
    have b := part_le hd
    simp only [Rows.uptoBulk] at a
    omega
  · refine ⟨rch_part h.1 hu i f d hf hd, ?_⟩
    have a := h.2
    have b := part_le (List.mem_of_getElem? hd)
    simp only [Rows.uptoBulk] at a
    omega
def smlK (C : Nat) : Ctx := ⟨C, 1048576, by decide⟩
theorem returnsInHanded_of_cond_shaped {H : Type} {enc : TypeId × Value → H} {a : Assume} {C : Checked} {os : Os} {f : FuncId} {fn : Func} {s : OpenSpec} {k : (H : Type) → List (DataW H) → Bool} (hk : s.cond = some k) {F : Stop.Interp} {conds : List PathCond} {apart fresh handsOn again : Bool}
    (own : ownKnob C.prog.godebug = none) (started : os.Started) (noInit : C.prog.inits.idxOf? f = none) (hfn : C.prog.funcs[f]? = some fn)
    (witness : ∃ (w : World) (tape : Tape) (i : Input), w.os = os ∧ (w.forCall tape i).Shaped C.prog ∧ i.vars = [] ∧ Input.okWide C.prog (w.forCall tape i) .any w.heap.size f i ∧
      s.pre6 enc C.prog fn conds apart (w.forCall tape i).memory i.args ∧ a.holds C.prog (lone (Frame.enter C.prog f i.args .normal) [] (w.forCall tape i)))
    (contract : ∀ (W : World) (base : Nat) (args : Array Value) (ds gs : List (DataW H)) (before : List MemPlace),
      (∀ (j : Nat) t v, fn.params[j]? = some t → args[j]? = some v → Value.okWide C.prog W .any base t v) →
      DataW.Whole enc C.prog fn.params.toList s.vars apart W args.toList ds gs before →
      k H (ds ++ gs) = true →
      (DataW.weightsEach C.prog (fn.params.toList ++ s.bare.plain.varTypes C.prog) (ds ++ gs)).all (· ≤ reachBytes) = true →
      W.ShapedOpen C.prog →
      Calls C.prog f args W fun e W' => ∃ v, e = .returned v ∧ (s.at F).post enc C.prog fn apart fresh handsOn again W args v W') :
    ReturnsInHanded a C os f .any (s.pre6 enc C.prog fn conds apart) ((s.at F).post enc C.prog fn apart fresh handsOn again) := by
  refine returnsInHanded_of_calls own started noInit witness ?_
  intro w tape i _ hsh _ hok hpre _
  obtain ⟨_, _, _, fn', hfn', _, _, _, _, hval⟩ := hok
  have e : fn' = fn := Option.some.inj (hfn'.symm.trans hfn)
  subst e
  obtain ⟨ds, gs, before, hw, _, hkk⟩ := (OpenSpec.pre_some hk conds apart _ _).1 hpre.1
  have hw' := DataW.Whole.of_heap (w' := w.forCall tape i) (by rfl) hw
  refine (contract (w.forCall tape i) w.heap.size i.args ds gs before hval hw' hkk (hpre.2.weights hw) hsh).mono fun e W' ⟨v, he, hp⟩ => ?_
  subst he
  exact ChangeSpec.post_blind hp
end Go.Proofs.YtmopffaocamieaaGreat

namespace Go.Proofs.YtmopffaocamieaaGreat
open Go.ChangeShapes Go.WideShapes Go.ChangeAt Go.RowKit

set_option maxRecDepth 100000 in
theorem apart_lifted (os : Os) (started : os.Started) (H : Type) (enc : TypeId × Value → H) (F : Stop.Interp) :
    ReturnsInHanded {} Tryz.checked os 7 .any ((Rows.OpenSpec.upto Rows.sigApartSpec).pre6 enc Tryz.prog Tryz.f7 Rows.sigApartUptoRow.domain false) (((Rows.OpenSpec.upto Rows.sigApartSpec).at F).post enc Tryz.prog Tryz.f7 false true false false) := by
  refine returnsInHanded_of_cond_shaped (C := Tryz.checked) (s := Rows.OpenSpec.upto Rows.sigApartSpec) (k := Rows.uptoSmall) rfl Tryz.ownKn started (by kernel_rfl) Tryz.func7
    (OpenSpec.witness (enc := enc) (C := Tryz.checked) (s := Rows.OpenSpec.upto Rows.sigApartSpec) (k := Rows.uptoSmall) rfl false ⟨#[], #[.agg #[.slice none 0 0, .slice none 0 0], .agg #[.slice none 0 0, .slice none 0 0]], []⟩ 8 (by kernel_rfl) (by kernel_rfl) (by kernel_rfl)
      (x := ([.agg [.nil, .nil], .agg [.nil, .nil]], [], [])) (by kernel_rfl) rfl (by kernel_rfl)) ?_
  intro W base args ds gs before hval0 hW hk hwt hsh
  have hval : ∀ (j : Nat) t v, Tryz.f7.params[j]? = some t → args[j]? = some v → Value.okWide Tryz.prog W .any base t v := hval0
  have hW' := hW
  obtain ⟨p, q, hA0, hV, rfl, hfz, hnd⟩ := hW
  have hA : DataW.TrodAll enc Tryz.prog W 0 (fun _ => true) true Tryz.f7.params.toList args.toList ds p := hA0
  rw [Tryz.params7] at hA hval
  obtain ⟨v0, vs0, d0, ds0, p0, q0, hargs, rfl, rfl, h0, r0⟩ := trodAll_cons hA
  obtain ⟨v1, vs1, d1, ds1, p1, q1, rfl, rfl, rfl, h1, r1⟩ := trodAll_cons r0
  obtain ⟨rfl, rfl, rfl⟩ := trodAll_nil r1
  obtain rfl : args = #[v0, v1] := by cases args; simp_all
  obtain ⟨rfl, rfl⟩ := trodVars_none hV
  have hb : Rows.uptoBulkAll ([d0, d1] ++ []) ≤ 1048576 := of_decide_eq_true hk
  have hb0 : Rows.uptoBulk d0 ≤ 1048576 := Nat.le_trans (part_le (l := [d0, d1] ++ []) (by simp)) hb
  have hb1 : Rows.uptoBulk d1 ≤ 1048576 := Nat.le_trans (part_le (l := [d0, d1] ++ []) (by simp)) hb
  have hw0 : ∀ n ∈ DataW.weightsEach Tryz.prog (Tryz.f7.params.toList ++ (Rows.OpenSpec.upto Rows.sigApartSpec).bare.plain.varTypes Tryz.prog) ([d0, d1] ++ []), n ≤ reachBytes := by
    intro n hn
    have := List.all_eq_true.1 hwt n hn
    simpa using this
  have g0 : Sml 25 d0 := ⟨fun n hn => hw0 n (DataW.weights_mem_each (j := 0) (t := 25) (by rw [Tryz.params7]; rfl) rfl n hn), hb0⟩
  have g1 : Sml 25 d1 := ⟨fun n hn => hw0 n (DataW.weights_mem_each (j := 1) (t := 25) (by rw [Tryz.params7]; rfl) rfl n hn), hb1⟩
  obtain ⟨n0, c0, a, e0, k0⟩ := open_crt (K := smlK W.heap.size) gd_sml (Nat.le_refl _) (hval 0 25 v0 rfl rfl) h0 g0
  obtain ⟨n1, c1, b, e1, k1⟩ := open_crt (K := smlK W.heap.size) gd_sml (Nat.le_refl _) (hval 1 25 v1 rfl rfl) h1 g1
  clear hA0 hval0
  have hlt0 : ∀ x ∈ p0, x.block < W.heap.size := fun x hx => hW'.lt x (by simp [hx])
  have hlt1 : ∀ x ∈ p1, x.block < W.heap.size := fun x hx => hW'.lt x (by simp [hx])
  have hml := maxLen_cell hsh
  have hpos : 0 < W.heap.size := by
    obtain ⟨m, hm⟩ := hml
    exact World.block_lt_of_cell? W ⟨0, 0, none⟩ hm
  have hwalk : Calls Tryz.prog 7 #[v0, v1] W fun ev w' => ev = .returned (.bool true) ∧ Below W.heap.size W w' := by
    rw [e0, e1]
    exact apart_walk (n := max n0 n1) (K := smlK W.heap.size) ⟨Nat.le_refl _, hpos, hml, Nat.le_refl _⟩ (k0.upto (by omega)) (k1.upto (by omega))
  refine hwalk.mono fun e W' ⟨he, hB⟩ => ?_
  subst he
  refine ⟨_, rfl, _, _, _, [], p0 ++ (p1 ++ []), [], hW', ?_, ?_, ?_, hB.frame _, fun h => by cases h⟩
  · exact trodAll_cons_mk (shut_bool Tryz.underlying4 _) trodAll_mk0
  · exact trodAll_cons_mk (Below.trod Tryz.laidAll (by kernel_rfl) (of_decide_eq_true (by kernel_rfl)) h0 hB hlt0) (trodAll_cons_mk (Below.trod Tryz.laidAll (by kernel_rfl) (of_decide_eq_true (by kernel_rfl)) h1 hB hlt1) trodAll_mk0)
  · rfl

theorem apart_holds : Rows.SigApartUptoSaid :=
  OpenClaim.holds_of_cond 7 Tryz.f7 rfl rfl rfl rfl rfl rfl rfl ⟨rfl, rfl, rfl, rfl, rfl⟩ rfl rfl rfl rfl rfl (by kernel_rfl) Tryz.func7 (by kernel_rfl)
    (of_decide_eq_true (by kernel_rfl)) (by unfold Func.isWrapper; rw [if_neg (of_decide_eq_false (by kernel_rfl))]; exact ⟨rfl, rfl⟩)
    (fun os started H enc _ F => apart_lifted os started H enc F)
end Go.Proofs.YtmopffaocamieaaGreat
