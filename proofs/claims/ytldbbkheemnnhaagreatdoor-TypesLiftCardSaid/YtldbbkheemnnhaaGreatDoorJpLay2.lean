/-
  The texts Lay, LiftCard, joined.
-/
import Derived.Test.YtldbbkheemnnhaaGreatDoorRows
import Derived.Test.YtldbbkheemnnhaaGreatDoorCards
import Derived.Test.YtldbbkheemnnhaaGreatDoorTie
import Derived.Test.YtldbbkheemnnhaaGreatDoorJpOp82
import Derived.HandedShaped
import Derived.SevenTiedAt
import Derived.ProofKit
import Derived.OpenShut
import Derived.Deep.DeepHandedRow
import Derived.LaidHandle
import Derived.LaidLaws
import Derived.ChangeMaps5
import Derived.Test.YtldbbkheemnnhaaGreatDoorJpDt82
namespace Go.Proofs.YtldbbkheemnnhaaGreatDoor
open Go.ChangeShapes Go.WideShapes Go.ChangeAt Go.RowKit
def laidOf (w0 : World) : World :=
 { w0 with heap := w0.heap.modify 0 fun
   | .cells _ t frozen => .cells #[.iface 324 (.agg #[.pointer (some ⟨2, 49, none⟩)])] t frozen
   | o => o }
theorem laidWorld_met (os : Os) (args : Array Value) : laidMetH Tryz.prog [("errors.errorType", Rows.laid_errors_errorType)] ((laidOf (World.holding Tryz.prog os ⟨#[], #[], []⟩)).forCall (fun _ _ => 0) ⟨#[], args, []⟩).memory :=
 laidMetH_of_parts (laidMet_nil _ _) (by kernel_rfl)
end Go.Proofs.YtldbbkheemnnhaaGreatDoor

namespace Go.Proofs.YtldbbkheemnnhaaGreatDoor
open Go.ChangeShapes Go.WideShapes Go.ChangeAt Go.RowKit
set_option maxRecDepth 100000 in
theorem lift_lifted (os : Os) (started : os.Started) (H : Type) (enc : TypeId × Value -> H) (F : Stop.Interp) :
  ReturnsInHanded {} Tryz.checked os 4 .any ((OpenSpec.ofChange Rows.typesLiftSpec).preRow enc Tryz.prog Tryz.f4 Rows.typesLiftRow.domain false Rows.typesLiftRow.laid) (((OpenSpec.ofChange Rows.typesLiftSpec).at F).post enc Tryz.prog Tryz.f4 false true false false) := by
 refine returnsInHanded_of_row (C := Tryz.checked) (s := OpenSpec.ofChange Rows.typesLiftSpec) Tryz.ownKn started (by kernel_rfl) Tryz.func4
  (witness_row_at (enc := enc) (C := Tryz.checked) false (laidOf (World.holding Tryz.prog os ⟨#[], #[], []⟩)) #[.agg #[.int .i64 0, .string ⟨#[]⟩, .slice none 0 0, .slice none 0 0], .slice none 0 0, .int .i64 0] rfl (by kernel_rfl) (by kernel_rfl) (by kernel_rfl)
   (OpenSpec.preRow_of_B rfl 8 (by kernel_rfl) (by kernel_rfl) (laidWorld_met os _))) ?_
 intro W base args ds gs before hval0 hW _ _ hwt _ hsh _
 have hval : ∀ (j : Nat) t v, Tryz.f4.params[j]? = some t -> args[j]? = some v -> Value.okWide Tryz.prog W .any base t v := hval0
 have hW' := hW
 obtain ⟨p, q, hA0, hV, rfl, hfz, hnd⟩ := hW
 have hA : DataW.TrodAll enc Tryz.prog W 0 (fun _ => true) true Tryz.f4.params.toList args.toList ds p := hA0
 rw [Tryz.params4] at hA hval
 obtain ⟨v0, vs0, d0, ds0, p0, q0, hargs, rfl, rfl, h0, r0⟩ := trodAll_cons hA
 obtain ⟨v1, vs1, d1, ds1, p1, q1, rfl, rfl, rfl, h1, r1⟩ := trodAll_cons r0
 obtain ⟨v2, vs2, d2, ds2, p2, q2, rfl, rfl, rfl, h2, r2⟩ := trodAll_cons r1
 obtain ⟨rfl, rfl, rfl⟩ := trodAll_nil r2
 obtain rfl : args = #[v0, v1, v2] := by cases args; simp_all
 obtain ⟨rfl, rfl⟩ := trodVars_none hV
 have hw0 : ∀ n ∈ DataW.weightsEach Tryz.prog (Tryz.f4.params.toList ++ (OpenSpec.ofChange Rows.typesLiftSpec).bare.plain.varTypes Tryz.prog) ([d0, d1, d2] ++ []), n <= reachBytes := by
  intro n hn
  have := List.all_eq_true.1 hwt n hn
  simpa using this
 have g0 : Rch 36 d0 := fun n hn => hw0 n (DataW.weights_mem_each (j := 0) (t := 36) (by rw [Tryz.params4]; rfl) rfl n hn)
 obtain ⟨n0, cs0, t0, rfl, ht0⟩ := open_ty (K := reachK W.heap.size) gd_rch (Nat.le_refl _) (hval 0 36 v0 rfl rfl) h0 g0
 have hlt0 : ∀ x ∈ p0, x.block < W.heap.size := fun x hx => hW'.lt x (by simp [hx])
 have g1 : Rch 33 d1 := fun n hn => hw0 n (DataW.weights_mem_each (j := 1) (t := 33) (by rw [Tryz.params4]; rfl) rfl n hn)
 obtain ⟨l1, hl1⟩ := open_strs (K := reachK W.heap.size) gd_rch (Nat.le_refl _) (hval 1 33 v1 rfl rfl) h1 g1
 have hlt1 : ∀ x ∈ p1, x.block < W.heap.size := fun x hx => hW'.lt x (by simp [hx])
 obtain ⟨c2, rfl, rfl, rfl, hw2⟩ := open_int Tryz.underlying3 (hval 2 3 v2 rfl rfl) h2
 obtain ⟨m, hml⟩ := maxLen_cell hsh
 have hG : Glo W := ⟨World.block_lt_of_cell? W _ hml, m, hml⟩
 have hwalk : Calls Tryz.prog 4 #[.agg cs0.toArray, v1, .int .i64 c2] W fun ev w' => ev = .returned (.bool true) /\ Below W.heap.size W w' := lift_walk (K := reachK W.heap.size) hG (show 100 <= reachBytes by decide) (Nat.le_refl _) ht0 hl1 (lit_low hw2)
 refine hwalk.mono fun e W' ⟨he, hB⟩ => ?_
 subst he
 refine ⟨_, rfl, _, _, _, [], p0 ++ (p1 ++ ([] ++ [])), [], hW', ?_, ?_, ?_, hB.frame _, fun h => by cases h⟩
 ·exact trodAll_cons_mk (shut_bool Tryz.underlying4 _) trodAll_mk0
 ·exact trodAll_cons_mk (Below.trod Tryz.laidAll (by kernel_rfl) (of_decide_eq_true (by kernel_rfl)) h0 hB hlt0) (trodAll_cons_mk (Below.trod Tryz.laidAll (by kernel_rfl) (of_decide_eq_true (by kernel_rfl)) h1 hB hlt1) (trodAll_cons_mk (shut_int Tryz.underlying3 hw2) trodAll_mk0))
 ·rfl
theorem lift_said : Rows.TypesLiftSaid :=
 OpenClaim.holds_of_cond 4 Tryz.f4 rfl rfl rfl rfl rfl rfl rfl ⟨rfl, rfl, rfl, rfl, rfl⟩ rfl rfl rfl rfl rfl (by kernel_rfl) Tryz.func4 (by kernel_rfl)
  (of_decide_eq_true (by kernel_rfl)) (by unfold Func.isWrapper; rw [if_neg (of_decide_eq_false (by kernel_rfl))]; exact ⟨rfl, rfl⟩)
  (fun os started H enc _ F => by rw [OpenClaim.pre_eq_preRow]; exact lift_lifted os started H enc F)
theorem lift_plain (f : FuncId) (fn : Func) (hf : Tryz.pinned.checked.prog.funcNamed Tryz.f4.name = some f) (hfn : Tryz.pinned.checked.prog.funcs[f]? = some fn) :
  true = Tryz.pinned.checked.prog.looks [] /\ ∀ (j : Nat) t, fn.params[j]? = some t -> Tryz.pinned.checked.prog.wantsStandIn t = false := by
 obtain rfl : f = 4 := Option.some.inj ((show Tryz.prog.funcNamed Tryz.f4.name = some 4 by kernel_rfl).symm.trans hf) |>.symm
 obtain rfl : fn = Tryz.f4 := (Option.some.inj (Tryz.func4.symm.trans hfn)).symm
 refine ⟨by kernel_rfl, fun j t ht => ?_⟩
 rw [Tryz.params4] at ht
 have h3 : t = 3 ∨ t = 33 ∨ t = 36 := by
  rcases j with _ | _ | _ | j
  ·exact (.inr (.inr (by simpa using ht.symm)))
  ·exact (.inr (.inl (by simpa using ht.symm)))
  ·exact (.inl (by simpa using ht.symm))
  ·simp at ht
 rcases h3 with rfl | rfl | rfl
 ·exact (show Tryz.prog.wantsStandIn 3 = false by kernel_rfl)
 ·exact (show Tryz.prog.wantsStandIn 33 = false by kernel_rfl)
 ·exact (show Tryz.prog.wantsStandIn 36 = false by kernel_rfl)
theorem lift_card : Rows.TypesLiftCardSaid :=
 Claim7.holds_tied_plain_at .later [] _ _ _ _ lift_said (fun _ h => by cases h) (by kernel_rfl) (fun _ h => by cases h) typesLift_row_tie rfl ⟨rfl, rfl⟩ (by kernel_rfl) rfl lift_plain (by kernel_rfl)
end Go.Proofs.YtldbbkheemnnhaaGreatDoor
