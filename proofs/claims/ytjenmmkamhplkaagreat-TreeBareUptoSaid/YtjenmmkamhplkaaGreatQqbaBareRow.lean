/-
  Proved: for every crate of bulk at most 1048576, TreeBare answers true and leaves its argument as it was.
-/
import Derived.Test.YtjenmmkamhplkaaGreatQqbaBul
import Derived.Test.YtjenmmkamhplkaaGreatQqbaLbw
namespace Go.Proofs.YtjenmmkamhplkaaGreat
open Go.ChangeShapes Go.WideShapes Go.ChangeAt Go.RowKit
set_option maxRecDepth 100000 in
theorem bares_lifted (os : Os) (started : os.Started) (H : Type) (enc : TypeId × Value -> H) (F : Stop.Interp) :
  ReturnsInHanded {} Tryz.checked os 5 .any ((Rows.OpenSpec.upto Rows.treeBareSpec).pre6 enc Tryz.prog Tryz.f5 Rows.treeBareUptoRow.domain false) (((Rows.OpenSpec.upto Rows.treeBareSpec).at F).post enc Tryz.prog Tryz.f5 false true false false) := by
 refine returnsInHanded_of_cond_shaped (C := Tryz.checked) (s := Rows.OpenSpec.upto Rows.treeBareSpec) (k := Rows.uptoSmall) rfl Tryz.ownKn started (by kernel_rfl) Tryz.func5
  (OpenSpec.witness (enc := enc) (C := Tryz.checked) (s := Rows.OpenSpec.upto Rows.treeBareSpec) (k := Rows.uptoSmall) rfl false ⟨#[], #[.agg #[.slice none 0 0, .slice none 0 0]], []⟩ 8 (by kernel_rfl) (by kernel_rfl) (by kernel_rfl)
   (x := ([.agg [.nil, .nil]], [], [])) (by kernel_rfl) rfl (by kernel_rfl)) ?_
 intro W base args ds gs before hval0 hW hk hwt hsh
 have hval : ∀ (j : Nat) t v, Tryz.f5.params[j]? = some t -> args[j]? = some v -> Value.okWide Tryz.prog W .any base t v := hval0
 have hW' := hW
 obtain ⟨p, q, hA0, hV, rfl, hfz, hnd⟩ := hW
 have hA : DataW.TrodAll enc Tryz.prog W 0 (fun _ => true) true Tryz.f5.params.toList args.toList ds p := hA0
 rw [Tryz.params5] at hA hval
 obtain ⟨v0, vs0, d0, ds0, p0, q0, hargs, rfl, rfl, h0, r0⟩ := trodAll_cons hA
 obtain ⟨rfl, rfl, rfl⟩ := trodAll_nil r0
 obtain rfl : args = #[v0] := by cases args; simp_all
 obtain ⟨rfl, rfl⟩ := trodVars_none hV
 have hb : Rows.uptoBulkAll ([d0] ++ []) <= 1048576 := of_decide_eq_true hk
 have hb0 : Rows.uptoBulk d0 <= 1048576 := by
  simp only [List.append_nil, Rows.uptoBulkAll] at hb
  omega
 have hw0 : ∀ n ∈ DataW.weightsEach Tryz.prog (Tryz.f5.params.toList ++ (Rows.OpenSpec.upto Rows.treeBareSpec).bare.plain.varTypes Tryz.prog) ([d0] ++ []), n <= reachBytes := by
  intro n hn
  have := List.all_eq_true.1 hwt n hn
  simpa using this
 have g0 : Sml 25 d0 := ⟨fun n hn => hw0 n (DataW.weights_mem_each (j := 0) (t := 25) (by rw [Tryz.params5]; rfl) rfl n hn), hb0⟩
 obtain ⟨n0, c0, a, e0, k0, _⟩ := open_crtN (K := smlK W.heap.size) gd_sml (Nat.le_refl _) (hval 0 25 v0 rfl rfl) h0 g0
 clear hA0 hval0
 have hlt0 : ∀ x ∈ p0, x.block < W.heap.size := fun x hx => hW'.lt x (by simp [hx])
 have hml := maxLen_cell hsh
 have hpos : 0 < W.heap.size := by
  obtain ⟨m, hm⟩ := hml
  exact World.block_lt_of_cell? W ⟨0, 0, none⟩ hm
 have hwalk : Calls Tryz.prog 5 #[v0] W fun ev w' => ev = .returned (.bool true) /\ Below W.heap.size W w' := by
  rw [e0]
  exact bares_walk (n := n0) (K := smlK W.heap.size) ⟨Nat.le_refl _, hpos, hml, Nat.le_refl _⟩ k0
 refine hwalk.mono fun e W' ⟨he, hB⟩ => ?_
 subst he
 refine ⟨_, rfl, _, _, _, [], p0 ++ [], [], hW', ?_, ?_, ?_, hB.frame _, fun h => by cases h⟩
 ·exact trodAll_cons_mk (shut_bool Tryz.underlying4 _) trodAll_mk0
 ·exact trodAll_cons_mk (Below.trod Tryz.laidAll (by kernel_rfl) (of_decide_eq_true (by kernel_rfl)) h0 hB hlt0) trodAll_mk0
 ·rfl
theorem bares_holds : Rows.TreeBareUptoSaid :=
 OpenClaim.holds_of_cond 5 Tryz.f5 rfl rfl rfl rfl rfl rfl rfl ⟨rfl, rfl, rfl, rfl, rfl⟩ rfl rfl rfl rfl rfl (by kernel_rfl) Tryz.func5 (by kernel_rfl)
  (of_decide_eq_true (by kernel_rfl)) (by unfold Func.isWrapper; rw [if_neg (of_decide_eq_false (by kernel_rfl))]; exact ⟨rfl, rfl⟩)
  (fun os started H enc _ F => bares_lifted os started H enc F)
end Go.Proofs.YtjenmmkamhplkaaGreat
