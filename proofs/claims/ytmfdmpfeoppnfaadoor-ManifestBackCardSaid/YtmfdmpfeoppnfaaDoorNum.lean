/-
  The laws that the walks lean on.
-/
import Derived.Test.YtmfdmpfeoppnfaaDoorRows
import Derived.WalkKit
import Derived.WalkSpells
import Derived.WalkLawsBesides
import Derived.Maps.AppendAt
import Derived.Laws.IdiomStrings
import Derived.Laws.BitsAllLaws
import Derived.Deep.QuietTactic
import Derived.BigQuiet
import Derived.Deep.RegionHeld
import Derived.Deep.DrawnRows
import Derived.Deep.LoopGhost
import Derived.Test.YtmfdmpfeoppnfaaDoorMat
namespace Go.Proofs.YtmfdmpfeoppnfaaDoor
open Go.RowKit
def str (l : List UInt8) : ByteArray := ⟨l.toArray⟩
theorem str_size (l : List UInt8) : (str l).size = l.length := by simp [str, ByteArray.size]
theorem str_at (l : List UInt8) (k : Nat) (h : k < (str l).size) : ((str l)[k]'h) = l.getD k 0 := by
  have hk : k < l.length := by rw [str_size] at h; exact h
  simp [List.getD, List.getElem?_eq_getElem hk]; rfl
theorem str_of (s : ByteArray) : str s.data.toList = s := by cases s; simp [str]
theorem str_inj {a b : List UInt8} (h : str a = str b) : a = b := by
  have := congrArg (fun x => x.data.toList) h
  simpa [str] using this
end Go.Proofs.YtmfdmpfeoppnfaaDoor
