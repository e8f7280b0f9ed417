/-
  Proved: for every two crates and every two types, TreeSames answers true and leaves its arguments as they were.
-/
import Derived.Test.YtjenmmkamhplkaaGreatQqsaLsm
import Derived.Test.YtjenmmkamhplkaaGreatQqsaGds
namespace Go.Proofs.YtjenmmkamhplkaaGreat
open Go.ChangeShapes Go.WideShapes Go.ChangeAt Go.RowKit
set_option maxRecDepth 100000 in
theorem sames_lifted (os : Os) (started : os.Started) (H : Type) (enc : TypeId × Value -> H) :
    ReturnsInHanded {} Tryz.checked os 4 .any (Rows.treeSamesSpec.pre6 enc Tryz.prog Tryz.f4 Rows.treeSamesRow.domain false) (Rows.treeSamesSpec.post enc Tryz.prog Tryz.f4 false true false false) := by
  refine returnsInHanded_of_change_shaped (C := Tryz.checked) Tryz.ownKn started (by kernel_rfl) Tryz.func4
    (ChangeSpec.witness6 (enc := enc) (C := Tryz.checked) false ⟨#[], #[.agg #[.slice none 0 0, .slice none 0 0], .agg #[.slice none 0 0, .slice none 0 0], .agg (tyCells 0).toArray, .agg (tyCells 0).toArray], []⟩ 8 (by kernel_rfl) (by kernel_rfl) (by kernel_rfl) (by kernel_rfl)) ?_
  intro W base args ds gs before hval0 hW hcnd hwt hsh _
  have hval : ∀ (j : Nat) t v, Tryz.f4.params[j]? = some t -> args[j]? = some v -> Value.okWide Tryz.prog W .any base t v := hval0
  have hW' := hW
  obtain ⟨p, q, hA0, hV, rfl, hfz, hnd⟩ := hW
  have hA : DataW.TrodAll enc Tryz.prog W 0 (fun _ => true) true Tryz.f4.params.toList args.toList ds p := hA0
  rw [Tryz.params4] at hA hval
  obtain ⟨v0, vs0, d0, ds0, p0, q0, hargs, rfl, rfl, h0, r0⟩ := trodAll_cons hA
  obtain ⟨v1, vs1, d1, ds1, p1, q1, rfl, rfl, rfl, h1, r1⟩ := trodAll_cons r0
  obtain ⟨v2, vs2, d2, ds2, p2, q2, rfl, rfl, rfl, h2, r2⟩ := trodAll_cons r1
  obtain ⟨v3, vs3, d3, ds3, p3, q3, rfl, rfl, rfl, h3, r3⟩ := trodAll_cons r2
  obtain ⟨rfl, rfl, rfl⟩ := trodAll_nil r3
  obtain rfl : args = #[v0, v1, v2, v3] := by cases args; simp_all
  obtain ⟨rfl, rfl⟩ := trodVars_none hV
  have hw0 : ∀ n ∈ DataW.weightsEach Tryz.prog (Tryz.f4.params.toList ++ Rows.treeSamesSpec.plain.varTypes Tryz.prog) ([d0, d1, d2, d3] ++ []), n <= reachBytes := by
    intro n hn
    have := List.all_eq_true.1 hwt n hn
    simpa using this
  have g0 : Rch 25 d0 := fun n hn => hw0 n (DataW.weights_mem_each (j := 0) (t := 25) (by rw [Tryz.params4]; rfl) rfl n hn)
  have g1 : Rch 25 d1 := fun n hn => hw0 n (DataW.weights_mem_each (j := 1) (t := 25) (by rw [Tryz.params4]; rfl) rfl n hn)
  have g2 : Rch 31 d2 := fun n hn => hw0 n (DataW.weights_mem_each (j := 2) (t := 31) (by rw [Tryz.params4]; rfl) rfl n hn)
  have g3 : Rch 31 d3 := fun n hn => hw0 n (DataW.weights_mem_each (j := 3) (t := 31) (by rw [Tryz.params4]; rfl) rfl n hn)
  obtain ⟨n0, c0, a, e0, k0⟩ := open_crt (K := reachK W.heap.size) gd_rch (Nat.le_refl _) (hval 0 25 v0 rfl rfl) h0 g0
  obtain ⟨n1, c1, b, e1, k1⟩ := open_crt (K := reachK W.heap.size) gd_rch (Nat.le_refl _) (hval 1 25 v1 rfl rfl) h1 g1
  obtain ⟨c2, t, e2, k2⟩ := open_ty (K := reachK W.heap.size) gd_rch (Nat.le_refl _) (hval 2 31 v2 rfl rfl) h2 g2
  obtain ⟨c3, u, e3, k3⟩ := open_ty (K := reachK W.heap.size) gd_rch (Nat.le_refl _) (hval 3 31 v3 rfl rfl) h3 g3
  clear hA0 hval0
  have hlt0 : ∀ x ∈ p0, x.block < W.heap.size := fun x hx => hW'.lt x (by simp [hx])
  have hlt1 : ∀ x ∈ p1, x.block < W.heap.size := fun x hx => hW'.lt x (by simp [hx])
  have hlt2 : ∀ x ∈ p2, x.block < W.heap.size := fun x hx => hW'.lt x (by simp [hx])
  have hlt3 : ∀ x ∈ p3, x.block < W.heap.size := fun x hx => hW'.lt x (by simp [hx])
  have hwalk : Calls Tryz.prog 4 #[v0, v1, v2, v3] W fun ev w' => ev = .returned (.bool true) /\ Below W.heap.size W w' := by
    rw [e0, e1, e2, e3]
    exact sames_walk (n := max n0 n1) (Nat.le_refl _) (maxLen_cell hsh) (k0.upto (by omega)) (k1.upto (by omega)) k2 k3
  refine hwalk.mono fun e W' ⟨he, hB⟩ => ?_
  subst he
  refine ⟨_, rfl, _, _, _, [], p0 ++ (p1 ++ (p2 ++ (p3 ++ []))), [], hW', ?_, ?_, ?_, hB.frame _, fun h => by cases h⟩
  . exact trodAll_cons_mk (shut_bool Tryz.underlying4 _) trodAll_mk0
  . exact trodAll_cons_mk (Below.trod Tryz.laidAll (by kernel_rfl) (of_decide_eq_true (by kernel_rfl)) h0 hB hlt0) (trodAll_cons_mk (Below.trod Tryz.laidAll (by kernel_rfl) (of_decide_eq_true (by kernel_rfl)) h1 hB hlt1) (trodAll_cons_mk (Below.trod Tryz.laidAll (by kernel_rfl) (of_decide_eq_true (by kernel_rfl)) h2 hB hlt2) (trodAll_cons_mk (Below.trod Tryz.laidAll (by kernel_rfl) (of_decide_eq_true (by kernel_rfl)) h3 hB hlt3) trodAll_mk0)))
  . rfl
theorem sames_holds : Rows.TreeSamesSaid :=
  OpenClaim.holds_of_wide 4 Tryz.f4 rfl rfl rfl rfl rfl rfl rfl ⟨rfl, rfl, rfl, rfl, rfl⟩ rfl rfl rfl rfl rfl (by kernel_rfl) Tryz.func4 (by kernel_rfl)
    (of_decide_eq_true (by kernel_rfl)) (by unfold Func.isWrapper; rw [if_neg (of_decide_eq_false (by kernel_rfl))]; exact ⟨rfl, rfl⟩)
    (fun os started H enc _ => sames_lifted os started H enc)
end Go.Proofs.YtjenmmkamhplkaaGreat
