/-
  The chain of a fault that lies in memory, with at most a hundred links: a new list of its faults, from the outside to the inside; no ring is found, for each fault lies ahead of the one that wraps it.
-/
import Derived.Test.YtikogamonngbbaaDoorFirst
namespace Go.Proofs.YtikogamonngbbaaDoor
open Go.RowKit Go.Extern.Stop Go.Stop Go.Extern Err

theorem Tryd.is34 (p : Option Addr) (xT : TypeId) (w : World) : (Instr.typeAssert (.iface 34 (.pointer p)) xT 34 true).run Tryd.prog w = .ok (.tuple #[.pointer p, .bool true]) w := by kernel_rfl
theorem Tryd.not34_27 (n : Int) (w : World) : (Instr.typeAssert (.iface 27 (.int .i64 n)) 25 34 true).run Tryd.prog w = .ok (.tuple #[.pointer none, .bool false]) w := by kernel_rfl
theorem Tryd.not34_41 (u : Value) (w : World) : (Instr.typeAssert (.iface 41 (.agg #[u])) 25 34 true).run Tryd.prog w = .ok (.tuple #[.pointer none, .bool false]) w := by kernel_rfl
def isF (e : Err) : Bool :=
  match e.layers with
  | some _ :: _ => true
  | _ => false
theorem assert34 (e : Err) (w : World) : (Instr.typeAssert (val e) 25 34 true).run Tryd.prog w = .ok (.tuple #[ptr e, .bool (isF e)]) w := by
  cases e using four with
  | num c => exact Tryd.not34_27 c w
  | bare => exact Tryd.not34_41 _ w
  | odd e => exact Tryd.not34_41 _ w
  | fault b c a e => exact Tryd.is34 _ 25 w

theorem inner_any (b : Nat) (c a : Int) (e : Err) (w : World) (h : lies w (fault b c a e)) :
    Calls Tryd.prog 22 #[.pointer (some ⟨b, 0, none⟩)] w fun ev w' => ev = .returned (ptr e) ∧ w' = w := by
  obtain ⟨-, -, h2⟩ := cell_of h
  have hA := assert34 e
  clear h
  generalize val e = u at h2 hA
  generalize ptr e = r at hA ⊢
  go_enter Tryd.func22, Tryd.ntmps22
  go_wp2
  go_ret
  exact ⟨rfl, rfl⟩

def lp (y : Nat × Int) : Value := .pointer (some ⟨y.1, 0, none⟩)
theorem Tryd.info34 : (Tryd.prog.info? 34).map (fun i => (i.zero, i.size, i.bytes)) = some (some (.pointer none), 1, 8) := by kernel_rfl
theorem Tryd.info37 : (Tryd.prog.info? 37).map (·.size) = some 3 := by kernel_rfl
theorem eqlOther {w : World} {b b' : Nat} {ca cb : Array Value} {ta tb : TypeId} (hne : b ≠ b') (ha : w.heap[b]? = some (.cells ca ta (0, 0))) (hb : w.heap[b']? = some (.cells cb tb (0, 0))) :
    (binOp .eql 34 (.pointer (some ⟨b, 0, none⟩)) (.pointer (some ⟨b', 0, none⟩))).run Tryd.prog w = .ok (.bool false) w := by
  obtain ⟨j, hj, hs⟩ := Option.map_eq_some_iff.1 Tryd.info37
  exact run_eql_ptr_other w Tryd.underlying34 hj (by omega) (fun h => hne (congrArg Addr.block h)) ha hb

structure CRel (w : World) (e0 x : Err) (d : List (Nat × Int)) (v : Value) (wr : World) : Prop where
  lies : lies w x
  links : links e0 = d ++ links x
  past : ∀ y ∈ d, under y.1 x ∧ ∃ cs, w.heap[y.1]? = some (.cells cs 37 (0, 0))
  own : wr.ownsRow w.heap.size 34 1 v d.length (d.map lp)
  below : Below w.heap.size w wr

theorem CRel.step {w wr w1 : World} {e0 e : Err} {b : Nat} {c a : Int} {d : List (Nat × Int)} {v v' : Value} {o : Obj} (h : CRel w e0 (fault b c a e) d v wr)
    (hown : w1.ownsRow w.heap.size 34 1 v' (d.length + 1) (d.map lp ++ [.pointer (some ⟨b, 0, none⟩)])) (hgrow : (wr.alloc o).grownBy w1 v.ownBlock) : CRel w e0 e (d ++ [(b, a)]) v' w1 := by
  obtain ⟨h1, h2, h3⟩ := lies_fault h.lies
  refine ⟨h3, by rw [h.links]; rw [links_fault]; simp, ?_, by simpa [lp] using hown, ?_⟩
  · intro y hy
    rcases List.mem_append.1 hy with hy | hy
    · obtain ⟨q1, q2⟩ := h.past y hy
      exact ⟨under_mono h2 (Nat.le_of_lt (show b < y.1 from q1)), q2⟩
    · obtain rfl := List.mem_singleton.1 hy
      exact ⟨h2, _, h1⟩
  · exact (h.below.alloc h.below.size o).grown hgrow (by have := h.below.size; simp; omega) (fun k hk => (h.own.lt k hk).1)

set_option maxHeartbeats 2000000 in
set_option maxRecDepth 5000 in
theorem chain_any (e : Err) (w : World) (he : lies w e) (hl : (links e).length ≤ 100) :
    Calls Tryd.prog 17 #[ptr e] w fun ev w' => ∃ v, ev = .returned v ∧ w'.ownsRow w.heap.size 34 1 v (links e).length ((links e).map lp) ∧ Below w.heap.size w w' := by
  obtain ⟨i0, hi, hz0, hz1, hz2⟩ := info_parts Tryd.info34
  go_enter Tryd.func17, Tryd.ntmps17
  go_wp2
  go_loopg [0, 3] (depth e) (fun k p v wr => ∃ x d, p = ptr x ∧ depth x ≤ k ∧ CRel w e x d v wr)
  case atStart => exact ⟨e, [], rfl, Nat.le_refl _, ⟨he, rfl, (fun y hy => by cases hy), World.ownsRow_nil _ _ _ _, Below.refl _ _⟩⟩
  case round =>
    obtain ⟨x, d, rfl, hd, hR⟩ := hrel
    have A : Aside (depth x ≤ gk ∧ CRel w e x d u3 wr) := ⟨hd, hR⟩
    clear hd
    have hdl : d.length ≤ 100 := by have := congrArg List.length hR.links; simp at this; omega
    cases x using four with
    | num c =>
      simp only [ptr_num]
      go_wp2
      go_ret
      obtain ⟨-, hR⟩ := A.out
      exact ⟨_, rfl, by have := hR.own; rw [hR.links, show links (num c) = [] from rfl, List.append_nil]; exact this, hR.below⟩
    | bare =>
      simp only [ptr_bare]
      go_wp2
      go_ret
      obtain ⟨-, hR⟩ := A.out
      exact ⟨_, rfl, by have := hR.own; rw [hR.links, show links bare = [] from rfl, List.append_nil]; exact this, hR.below⟩
    | odd e' =>
      simp only [ptr_odd]
      go_wp2
      go_ret
      obtain ⟨-, hR⟩ := A.out
      exact ⟨_, rfl, by have := hR.own; rw [hR.links, show links (odd e') = [] from rfl, List.append_nil]; exact this, hR.below⟩
    | fault b c a e' =>
      have hown := hR.own
      have hsz := hR.below.size
      have hx : Err.lies wr (fault b c a e') := lies_below hR.below (Nat.le_refl _) hR.lies
      simp only [ptr_fault]
      rcases hR.own with ⟨hlen, ⟨rfl, hn⟩ | ⟨g, cap, cur, rfl, hbg, hcur, hnc, hcm, hcs, htk⟩⟩
      · obtain rfl : d = [] := List.eq_nil_of_length_eq_zero hn
        clear hR hn hlen hdl
        simp only [List.length_nil] at hown
        go_wp2_with (first
          | (at_builtin; refine wpList_append_own _ rfl _ _ 45 rfl w.heap.size 34 i0 (.pointer none) 1 8 Tryd.underlying45 hi hz0 hz1 hz2 rfl (by decide) _ _ _ rfl (hown.alloc _) ⟨wr.heap.size, 0, none⟩ 1 1 [.pointer (some ⟨b, 0, none⟩)] rfl rfl ?c1 ?c2 ?c3 ?c4 ?c5 ?_)
          | go_in)
        case c1 =>
          intro j u hj
          match j, hj with
          | 0, hj => simp at hj; subst hj; simp [Addr.add]
        case c2 => intro u hu; simp at hu; subst hu; rfl
        case c3 => unfold maxLen; simp
        case c4 => simp
        case c5 => simp; omega
        intro v' w1 hown' hgrow _
        obtain ⟨hdp, hR⟩ := A.out
        have R := hR.step hown' hgrow
        have hx1 : Err.lies w1 (fault b c a e') := lies_below R.below (Nat.le_refl _) hR.lies
        clear hown' hgrow hown hR A
        have B : Aside (CRel w e e' _ v' w1 ∧ (fault b c a e').depth ≤ gk) := ⟨R, hdp⟩
        clear R hdp
        go_wp2_with (go_at_call 22; refine (inner_any b c a e' _ hx1).mono ?_; rintro ev w' ⟨rfl, rfl⟩)
        go_roundg (depth e')
        case measure => have := B.out.2; rw [depth_fault] at this; omega
        case rel => exact ⟨e', _, rfl, Nat.le_refl _, B.out.1⟩
      · have hcells : ∀ j, (hj : j < d.length) → wr.cell? ⟨g, j, none⟩ = some (lp d[j]) := by
          intro j hj
          have hj2 : cur.toList[j]? = some (lp d[j]) := by
            have h := congrArg (fun l => l[j]?) htk
            simp only [Nat.mul_one, List.getElem?_take, if_pos hj, List.getElem?_map, List.getElem?_eq_getElem hj, Option.map_some] at h
            exact h
          simp only [World.cell?, hcur]
          simpa using hj2
        clear hlen hcur hcs htk hcm
        by_cases hd0 : d.length = 0
        · obtain rfl : d = [] := List.eq_nil_of_length_eq_zero hd0
          clear hR hd0 hcells hdl
          simp only [List.length_nil] at hown ⊢
          go_wp2_with (first
            | (at_builtin; refine wpList_append_own _ rfl _ _ 45 rfl w.heap.size 34 i0 (.pointer none) 1 8 Tryd.underlying45 hi hz0 hz1 hz2 rfl (by decide) _ _ _ rfl (hown.alloc _) ⟨wr.heap.size, 0, none⟩ 1 1 [.pointer (some ⟨b, 0, none⟩)] rfl rfl ?c1 ?c2 ?c3 ?c4 ?c5 ?_)
            | go_in)
          case c1 =>
            intro j u hj
            match j, hj with
            | 0, hj => simp at hj; subst hj; simp [Addr.add]
          case c2 => intro u hu; simp at hu; subst hu; rfl
          case c3 => unfold maxLen; simp
          case c4 => simp
          case c5 => simp; omega
          intro v' w1 hown' hgrow _
          obtain ⟨hdp, hR⟩ := A.out
          have R := hR.step hown' hgrow
          have hx1 : Err.lies w1 (fault b c a e') := lies_below R.below (Nat.le_refl _) hR.lies
          clear hown' hgrow hown hR A
          have B : Aside (CRel w e e' _ v' w1 ∧ (fault b c a e').depth ≤ gk) := ⟨R, hdp⟩
          clear R hdp
          go_wp2_with (go_at_call 22; refine (inner_any b c a e' _ hx1).mono ?_; rintro ev w' ⟨rfl, rfl⟩)
          go_roundg (depth e')
          case measure => have := B.out.2; rw [depth_fault] at this; omega
          case rel => exact ⟨e', _, rfl, Nat.le_refl _, B.out.1⟩
        · have hdp : 0 < d.length := by omega
          have hm : d.length / 2 < d.length := by omega
          have hcm := hcells _ hm
          obtain ⟨hu, cs, hcs⟩ := hR.past _ (List.getElem_mem hm)
          obtain ⟨hb1, -, -⟩ := lies_fault hx
          have hq := eqlOther (w := wr) (b := d[d.length / 2].1) (b' := b) (by have hu' : b < d[d.length / 2].1 := hu; omega) ((hR.below.block _ (lt_heap hcs)).trans hcs) hb1
          clear hR hcells hu hcs hd0 hb1
          simp only [lp] at hcm
          generalize d[d.length / 2].1 = b2 at hcm hq
          go_wp2_with (first
            | (at_builtin; refine wpList_append_own _ rfl _ _ 45 rfl w.heap.size 34 i0 (.pointer none) 1 8 Tryd.underlying45 hi hz0 hz1 hz2 rfl (by decide) _ _ _ rfl (hown.alloc _) ⟨wr.heap.size, 0, none⟩ 1 1 [.pointer (some ⟨b, 0, none⟩)] rfl rfl ?c1 ?c2 ?c3 ?c4 ?c5 ?_)
            | go_in)
          case c1 =>
            intro j u hj
            match j, hj with
            | 0, hj => simp at hj; subst hj; simp [Addr.add]
          case c2 => intro u hu; simp at hu; subst hu; rfl
          case c3 => unfold maxLen; omega
          case c4 => omega
          case c5 => simp; omega
          intro v' w1 hown' hgrow _
          obtain ⟨hdp, hR⟩ := A.out
          have R := hR.step hown' hgrow
          have hx1 : Err.lies w1 (fault b c a e') := lies_below R.below (Nat.le_refl _) hR.lies
          clear hown' hgrow hown hR A
          have B : Aside (CRel w e e' _ v' w1 ∧ (fault b c a e').depth ≤ gk) := ⟨R, hdp⟩
          clear R hdp
          go_wp2_with (go_at_call 22; refine (inner_any b c a e' _ hx1).mono ?_; rintro ev w' ⟨rfl, rfl⟩)
          go_roundg (depth e')
          case measure => have := B.out.2; rw [depth_fault] at this; omega
          case rel => exact ⟨e', _, rfl, Nat.le_refl _, B.out.1⟩
end Go.Proofs.YtikogamonngbbaaDoor
