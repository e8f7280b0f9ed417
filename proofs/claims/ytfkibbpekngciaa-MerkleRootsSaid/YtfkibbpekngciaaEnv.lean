/-
  SHA-256 is such a sum.
-/
import Derived.Test.YtfkibbpekngciaaTol
import Derived.Test.YtfkibbpekngciaaXsm
namespace Go.Proofs.Ytfkibbpekngciaa
open Go.RowKit

theorem sumF_len (l : Bys) : (sumF l).length = 32 := rfl
theorem root3 (F : Bys → Bys) : root F L3 = F (rootT 3 (F (1 :: (F (1 :: (F [0, 1] ++ F [0, 2])) ++ F [0, 3])))) := by
  rw [root_some F L3 (by decide), tree_two F L3 (by decide)]
  have e : half L3.length = 2 := half3
  rw [e]
  have e1 : L3.take 2 = [[1], [2]] := rfl
  have e2 : L3.drop 2 = [[3]] := rfl
  rw [e1, e2, tree_two F [[1], [2]] (by decide), tree_one F [[3]] (by decide)]
  have e3 : half ([[1], [2]] : List Bys).length = 1 := half2
  rw [e3]
  have e4 : ([[1], [2]] : List Bys).take 1 = [[1]] := rfl
  have e5 : ([[1], [2]] : List Bys).drop 1 = [[2]] := rfl
  rw [e4, e5, tree_one F [[1]] (by decide), tree_one F [[2]] (by decide)]
  rfl
theorem texts30 (F : Bys → Bys) : lastT (texts F [2] 0 3 (path F L3 0)) = rootT 3 (F (1 :: (F (1 :: (F [0, 2] ++ F [0, 2])) ++ F [0, 3]))) := by
  have hp : path F L3 0 = [F [0, 2], F [0, 3]] := by
    unfold path
    have e : L3.length = 3 := rfl
    rw [e, downs30]
    show [tree F [[2]], tree F [[3]]] = _
    rw [tree_one F [[2]] (by decide), tree_one F [[3]] (by decide)]
    rfl
  have hl : lefts 0 3 = [false, false] := by
    unfold lefts
    rw [downs30]; rfl
  rw [texts_last, hp, hl]
  rfl
set_option maxRecDepth 100000 in
theorem apart_fact : (sumF (rootT 3 (sumF (1 :: (sumF (1 :: (sumF [0, 2] ++ sumF [0, 2])) ++ sumF [0, 3])))) == sumF (rootT 3 (sumF (1 :: (sumF (1 :: (sumF [0, 1] ++ sumF [0, 2])) ++ sumF [0, 3]))))) = false := by kernel_rfl
theorem env2 : Env2 sumF := by
  refine ⟨⟨sumF_len, fun w v l h hl => sum_any w v l h (by omega)⟩, fun w v l h hl => xsum_any w v l h hl, ?_⟩
  rw [texts30, root3]
  have := apart_fact
  simpa using this
end Go.Proofs.Ytfkibbpekngciaa
