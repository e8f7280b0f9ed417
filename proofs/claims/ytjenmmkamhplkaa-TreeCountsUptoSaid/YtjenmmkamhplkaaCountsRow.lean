/-
  Proved: for every function of bulk at most 1048576, TreeCounts answers true and leaves its argument as it was.
-/
import Derived.Test.YtjenmmkamhplkaaBul
import Derived.Test.YtjenmmkamhplkaaLct
namespace Go.Proofs.Ytjenmmkamhplkaa
open Go.ChangeShapes Go.WideShapes Go.ChangeAt Go.RowKit
section
variable {H : Type} {enc : TypeId × Value → H} {W : World} {Good : TypeId → DataW H → Prop} {K : Ctx}
theorem fnc_ofP (G : Gd Good K.B) (hK : W.heap.size ≤ K.C) {fuel : Nat} {cs : List Value} {x : DataW H × List MemPlace} (h : Td enc W fuel 30 cs x) (g : Good 30 x.1) : ∃ p, FncAt fuel K W cs p ∧ ∀ m, p.params.length + cnt m p.body ≤ Rows.uptoBulk x.1 := by
  obtain ⟨n, ps, rfl, hps, hl, hf⟩ := parts_ofN G Try.underlying30 h g
  have hl' : cs.length = 10 := hl.trans (by kernel_rfl)
  obtain ⟨a0, a1, a2, a3, a4, a5, a6, a7, a8, a9, rfl⟩ := lst10 hl'
  obtain ⟨y0, t0, g0, -⟩ := hf 0 _ rfl
  have s0 : Td enc W n 4 [a0] y0 := cut t0 Try.cl4 rfl
  obtain ⟨y1, t1, g1, -⟩ := hf 1 _ rfl
  have s1 : Td enc W n 9 [a1] y1 := cut t1 Try.cl9 rfl
  obtain ⟨y2, t2, g2, -⟩ := hf 2 _ rfl
  have s2 : Td enc W n 22 [a2] y2 := cut t2 Try.cl36 rfl
  obtain ⟨y3, t3, g3, x3⟩ := hf 3 _ rfl
  have s3 : Td enc W n 23 [a3] y3 := cut t3 Try.cl37 rfl
  obtain ⟨y4, t4, g4, -⟩ := hf 4 _ rfl
  have s4 : Td enc W n 27 [a4, a5, a6, a7] y4 := cut t4 Try.cl31 rfl
  obtain ⟨y5, t5, g5, x5⟩ := hf 5 _ rfl
  have s5 : Td enc W n 28 [a8] y5 := cut t5 Try.cl38 rfl
  obtain ⟨y6, t6, g6, -⟩ := hf 6 _ rfl
  have s6 : Td enc W n 3 [a9] y6 := cut t6 Try.cl3 rfl
  obtain ⟨k0, e0⟩ := bool_of s0
  injection e0 with e0 _
  subst e0
  obtain ⟨k1, e1, l1⟩ := text_of G s1 g1
  injection e1 with e1 _
  subst e1
  obtain ⟨v2, k2, e2, r2⟩ := row_of (e := 76) (z := 2) (bz := 40) (α := Lfe) (P := LfeAt K W) G hK Try.underlying22 (by kernel_rfl) (by kernel_rfl) (by decide) ⟨[], []⟩ (fun _ _ _ _ h g => lfe_of G hK h g) s2 g2
  injection e2 with e2 _
  subst e2
  obtain ⟨v3, k3, e3, r3, c3⟩ := row_ofN (f := fun _ _ => 1) (e := 52) (z := 6) (bz := 96) (α := Fld) (P := FldAt K W) G hK Try.underlying23 (by kernel_rfl) (by kernel_rfl) (by decide) ⟨false, [], Ty.zero⟩ (fun _ _ _ _ h g => by obtain ⟨q, hq⟩ := fld_of G hK h g; exact ⟨q, hq, fun _ => one_le _⟩) s3 g3
  injection e3 with e3 _
  subst e3
  obtain ⟨p4, r4⟩ := ty_of G hK _ s4 g4
  obtain ⟨v5, k5, e5, r5, c5⟩ := row_ofN (f := fun m t => 1 + inner m t) (e := 50) (z := 32) (bz := 496) (α := St) (P := StAt n K W) G hK Try.underlying28 (by kernel_rfl) (by kernel_rfl) (by decide) (St.bare 0 0) (fun m hm _ _ h g => by obtain ⟨q, hq, hn⟩ := st_ofN G hK m h g; exact ⟨q, hq.upto (by omega), hn⟩) s5 g5
  injection e5 with e5 _
  subst e5
  obtain ⟨k6, e6⟩ := int_of s6
  injection e6 with e6 _
  subst e6
  refine ⟨⟨k0, k1, k2, k3, p4, k5, k6⟩, ⟨_, _, _, _, rfl, l1, r2, r3, ⟨_, r4⟩, r5.mono (Below.refl _ _) fun _ _ _ h => h.upto (by omega)⟩, fun m => ?_⟩
  have h5 := c5 m
  have h3 := c3 m
  have e3 : (k3.map fun _ => 1).sum = k3.length := by
    clear h3 c3 r3
    induction k3 with
    | nil => rfl
    | cons y k3 ih => rw [List.map_cons, List.sum_cons, ih, List.length_cons]; omega
  rw [hps]
  have h2 := two_le (by decide : (3 : Nat) < 5) x3 x5
  simp only [Rows.uptoBulk]
  unfold cnt
  rw [e3] at h3
  show k3.length + _ ≤ _
  omega

set_option maxRecDepth 100000 in
theorem open_fncP {base : Nat} {v : Value} {d : DataW H} {p : List MemPlace} (G : Gd Good K.B) (hK : W.heap.size ≤ K.C) (hv : Value.okWide Try.prog W .any base 30 v) (h : DataW.Trod enc Try.prog W 0 (fun _ => true) true 30 v d p) (g : Good 30 d) : ∃ n cs c, v = .agg cs.toArray ∧ FncAt n K W cs c ∧ ∀ m, c.params.length + cnt m c.body ≤ Rows.uptoBulk d := by
  obtain ⟨cs, rfl⟩ : ∃ cs, v = .agg cs := by
    simp only [Value.okWide, Try.underlying30] at hv
    cases v <;> simp_all
  obtain ⟨fuel, hf⟩ := h
  have hf' : Td enc W fuel 30 cs.toList (d, p) := by simpa [Value.cells] using hf
  obtain ⟨c, hc, hn⟩ := fnc_ofP G hK hf' g
  exact ⟨fuel, cs.toList, c, by simp, hc, hn⟩
end
set_option maxRecDepth 100000 in
theorem counts_lifted (os : Os) (started : os.Started) (H : Type) (enc : TypeId × Value → H) (F : Stop.Interp) :
    ReturnsInHanded {} Try.checked os 3 .any ((Rows.OpenSpec.upto Rows.treeCountsSpec).pre6 enc Try.prog Try.f3 Rows.treeCountsUptoRow.domain false) (((Rows.OpenSpec.upto Rows.treeCountsSpec).at F).post enc Try.prog Try.f3 false true false false) := by
  refine returnsInHanded_of_cond_shaped (C := Try.checked) (s := Rows.OpenSpec.upto Rows.treeCountsSpec) (k := Rows.uptoSmall) rfl Try.ownKn started (by kernel_rfl) Try.func3
    (OpenSpec.witness (enc := enc) (C := Try.checked) (s := Rows.OpenSpec.upto Rows.treeCountsSpec) (k := Rows.uptoSmall) rfl false ⟨#[], #[.agg #[.bool false, .string ⟨#[]⟩, .slice none 0 0, .slice none 0 0, .int .i64 0, .string ⟨#[]⟩, .slice none 0 0, .slice none 0 0, .slice none 0 0, .int .i64 0]], []⟩ 8 (by kernel_rfl) (by kernel_rfl) (by kernel_rfl)
      (x := ([.agg [.lit (.bool false), .lit (.string []), .nil, .nil, .agg [.lit (.int .i64 0), .lit (.string []), .nil, .nil], .nil, .lit (.int .i64 0)]], [], [])) (by kernel_rfl) rfl (by kernel_rfl)) ?_
  intro W base args ds gs before hval0 hW hk hwt hsh
  have hval : ∀ (j : Nat) t v, Try.f3.params[j]? = some t → args[j]? = some v → Value.okWide Try.prog W .any base t v := hval0
  have hW' := hW
  obtain ⟨p, q, hA0, hV, rfl, hfz, hnd⟩ := hW
  have hA : DataW.TrodAll enc Try.prog W 0 (fun _ => true) true Try.f3.params.toList args.toList ds p := hA0
  rw [Try.params3] at hA hval
  obtain ⟨v0, vs0, d0, ds0, p0, q0, hargs, rfl, rfl, h0, r0⟩ := trodAll_cons hA
  obtain ⟨rfl, rfl, rfl⟩ := trodAll_nil r0
  obtain rfl : args = #[v0] := by cases args; simp_all
  obtain ⟨rfl, rfl⟩ := trodVars_none hV
  have hb : Rows.uptoBulkAll ([d0] ++ []) ≤ 1048576 := of_decide_eq_true hk
  have hb0 : Rows.uptoBulk d0 ≤ 1048576 := by
    simp only [List.append_nil, Rows.uptoBulkAll] at hb
    omega
  have hw0 : ∀ n ∈ DataW.weightsEach Try.prog (Try.f3.params.toList ++ (Rows.OpenSpec.upto Rows.treeCountsSpec).bare.plain.varTypes Try.prog) ([d0] ++ []), n ≤ reachBytes := by
    intro n hn
    have := List.all_eq_true.1 hwt n hn
    simpa using this
  have g0 : Sml 30 d0 := ⟨fun n hn => hw0 n (DataW.weights_mem_each (j := 0) (t := 30) (by rw [Try.params3]; rfl) rfl n hn), hb0⟩
  obtain ⟨n0, c0, a, e0, k0, hcn⟩ := open_fncP (K := smlK W.heap.size) gd_sml (Nat.le_refl _) (hval 0 30 v0 rfl rfl) h0 g0
  clear hA0 hval0
  have hlt0 : ∀ x ∈ p0, x.block < W.heap.size := fun x hx => hW'.lt x (by simp [hx])
  have hml := maxLen_cell hsh
  have hpos : 0 < W.heap.size := by
    obtain ⟨m, hm⟩ := hml
    exact World.block_lt_of_cell? W ⟨0, 0, none⟩ hm
  have hwalk : Calls Try.prog 3 #[v0] W fun ev w' => ev = .returned (.bool true) ∧ Below W.heap.size W w' := by
    rw [e0]
    exact counts_walk (n := n0) (K := smlK W.heap.size) ⟨Nat.le_refl _, hpos, hml, Nat.le_refl _⟩ k0 (Nat.le_trans (hcn n0) (Nat.le_trans hb0 (by decide)))
  refine hwalk.mono fun e W' ⟨he, hB⟩ => ?_
  subst he
  refine ⟨_, rfl, _, _, _, [], p0 ++ [], [], hW', ?_, ?_, ?_, hB.frame _, fun h => by cases h⟩
  · exact trodAll_cons_mk (shut_bool Try.underlying4 _) trodAll_mk0
  · exact trodAll_cons_mk (Below.trod Try.laidAll (by kernel_rfl) (of_decide_eq_true (by kernel_rfl)) h0 hB hlt0) trodAll_mk0
  · rfl

theorem counts_holds : Rows.TreeCountsUptoSaid :=
  OpenClaim.holds_of_cond 3 Try.f3 rfl rfl rfl rfl rfl rfl rfl ⟨rfl, rfl, rfl, rfl, rfl⟩ rfl rfl rfl rfl rfl (by kernel_rfl) Try.func3 (by kernel_rfl)
    (of_decide_eq_true (by kernel_rfl)) (by unfold Func.isWrapper; rw [if_neg (of_decide_eq_false (by kernel_rfl))]; exact ⟨rfl, rfl⟩)
    (fun os started H enc _ F => counts_lifted os started H enc F)
end Go.Proofs.Ytjenmmkamhplkaa
