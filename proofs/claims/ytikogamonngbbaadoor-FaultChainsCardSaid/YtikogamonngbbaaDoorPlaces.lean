/-
  What Places tells of a chain that lies in memory (at most a hundred links): a new list of its places, from the outside to the inside.
-/
import Derived.Test.YtikogamonngbbaaDoorInts
namespace Go.Proofs.YtikogamonngbbaaDoor
open Go.RowKit Go.Extern.Stop Go.Stop Go.Extern Err

/-- What the loop of Places has gathered. -/
structure QRel (w : World) (x y : Err) (d : List (Nat × Int)) (v : Value) (wr : World) : Prop where
  lies : lies w y
  links : links x = d ++ links y
  own : wr.ownsRow w.heap.size 3 1 v d.length (ints (d.map (·.2)))
  below : Below w.heap.size w wr
theorem QRel.step {w wr w1 : World} {x y : Err} {b : Nat} {c a : Int} {d : List (Nat × Int)} {v v' : Value} {o : Obj} (h : QRel w x (fault b c a y) d v wr)
    (hown : w1.ownsRow w.heap.size 3 1 v' (d.length + 1) (ints (d.map (·.2)) ++ [.int .i64 a])) (hgrow : (wr.alloc o).grownBy w1 v.ownBlock) : QRel w x y (d ++ [(b, a)]) v' w1 := by
  refine ⟨(lies_fault h.lies).2.2, by rw [h.links, links_fault]; simp, ?_, ?_⟩
  · simpa [ints] using hown
  · exact (h.below.alloc h.below.size o).grown hgrow (by have := h.below.size; simp; omega) (fun k hk => (h.own.lt k hk).1)

set_option maxHeartbeats 2000000 in
set_option maxRecDepth 5000 in
theorem places_any (x : Err) (w : World) (hx : lies w x) (hl : (links x).length ≤ 100) :
    Calls Tryd.prog 13 #[val x] w fun ev w' => ∃ v, ev = .returned v ∧ w'.ownsRow w.heap.size 3 1 v (links x).length (ints ((links x).map (·.2))) ∧ Below w.heap.size w w' := by
  obtain ⟨i0, hi, hz0, hz1, hz2⟩ := info_parts Tryd.info3
  have a1 := Tryd.not34_27
  have a2 := Tryd.not34_41
  have a3 := Tryd.is34
  go_enter Tryd.func13, Tryd.ntmps13
  go_wp2
  go_loopw [0, 3, 4] (fun e v i wr => ∃ y d, e = val y ∧ i = .int .i64 (d.length : Nat) ∧ QRel w x y d v wr) (fun _ _ i _ => 200 - (intOf i).toNat)
  case atStart => exact ⟨x, [], rfl, rfl, ⟨hx, rfl, World.ownsRow_nil _ _ _ _, Below.refl _ _⟩⟩
  case round =>
    obtain ⟨y, d, rfl, rfl, hR⟩ := hrel
    have A : Aside (QRel w x y d u3 wr) := hR
    have hdl : d.length ≤ 100 := by have := congrArg List.length hR.links; simp at this; omega
    cases y using four with
    | num c =>
      clear hR
      simp only [val_num]
      go_wp2
      go_ret
      have R := A.out
      refine ⟨_, rfl, ?_, R.below⟩
      rw [R.links, show links (num c) = [] from rfl, List.append_nil]; exact R.own
    | bare =>
      clear hR
      simp only [val_bare]
      go_wp2
      go_ret
      have R := A.out
      refine ⟨_, rfl, ?_, R.below⟩
      rw [R.links, show links bare = [] from rfl, List.append_nil]; exact R.own
    | odd e' =>
      clear hR
      simp only [val_odd]
      go_wp2
      go_ret
      have R := A.out
      refine ⟨_, rfl, ?_, R.below⟩
      rw [R.links, show links (odd e') = [] from rfl, List.append_nil]; exact R.own
    | fault b c a e' =>
      have hown := hR.own
      have hsz := hR.below.size
      obtain ⟨-, q1, q2⟩ := cell_of (lies_below hR.below (Nat.le_refl _) hR.lies)
      clear hR
      simp only [val_fault]
      go_wp2_with (first
        | (at_builtin; refine wpList_append_own _ rfl _ _ 22 rfl w.heap.size 3 i0 (.int .i64 0) 1 8 Tryd.underlying22 hi hz0 hz1 hz2 rfl (by decide) _ _ _ rfl (hown.alloc _) ⟨wr.heap.size, 0, none⟩ 1 1 [.int .i64 a] rfl rfl ?c1 ?c2 ?c3 ?c4 ?c5 ?_)
        | go_in)
      case c1 =>
        intro j u hj
        match j, hj with
        | 0, hj => simp at hj; subst hj; simp [Addr.add]
      case c2 => intro u hu; simp at hu; subst hu; rfl
      case c3 => unfold maxLen; omega
      case c4 => omega
      case c5 => simp; omega
      intro v' w1' hown' hgrow _
      have R := A.out.step hown' hgrow
      obtain ⟨-, -, q2'⟩ := cell_of (lies_below R.below (Nat.le_refl _) A.out.lies)
      clear hown' hgrow hown A q1 q2
      go_wp2
      go_roundw
      case rel => exact ⟨e', d ++ [(b, a)], rfl, by simp, R⟩
      case measure => simp [intOf]; omega
end Go.Proofs.YtikogamonngbbaaDoor
