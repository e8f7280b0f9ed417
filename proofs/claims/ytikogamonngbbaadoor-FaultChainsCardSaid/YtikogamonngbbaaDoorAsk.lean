/-
  The program's New, In, Code, At and Is, on an error that lies in memory (at most a hundred links in its chain): each answers as the document says, and changes nothing that was there.
-/
import Derived.Test.YtikogamonngbbaaDoorChain
namespace Go.Proofs.YtikogamonngbbaaDoor
open Go.RowKit Go.Extern.Stop Go.Stop Go.Extern Err

theorem own_some {w : World} {base : Nat} {t : TypeId} {v : Value} {n : Nat} {xs : List Value} (h : w.ownsRow base t 1 v n xs) (hn : 0 < n) :
    ∃ g cap, v = .slice (some ⟨g, 0, none⟩) n cap ∧ base ≤ g ∧ g < w.heap.size ∧ n ≤ cap ∧ cap ≤ maxLen ∧ ∀ j, (hj : j < xs.length) → w.cell? ⟨g, j, none⟩ = some xs[j] := by
  obtain ⟨hlen, ⟨rfl, h0⟩ | ⟨g, cap, cur, rfl, hbg, hcur, hnc, hcm, hcs, htk⟩⟩ := h
  · omega
  · refine ⟨g, cap, rfl, hbg, lt_heap hcur, hnc, hcm, fun j hj => ?_⟩
    have hj1 : j < n := by omega
    have h := congrArg (fun l => l[j]?) htk
    simp only [Nat.mul_one, List.getElem?_take, if_pos hj1, List.getElem?_eq_getElem hj] at h
    simp only [World.cell?, hcur]
    simpa using h
theorem own_none {w : World} {base : Nat} {t : TypeId} {v : Value} {xs : List Value} (h : w.ownsRow base t 1 v 0 xs) : ∃ ao cap, v = .slice ao 0 cap := by
  obtain ⟨hlen, ⟨rfl, h0⟩ | ⟨g, cap, cur, rfl, hbg, hcur, hnc, hcm, hcs, htk⟩⟩ := h
  · exact ⟨_, _, rfl⟩
  · exact ⟨_, _, rfl⟩

/-- The first fault, or an error with none. -/
def Err.ff (e : Err) : Err := (first e).getD bare
def codeL : List (Option (Nat × Int × Int)) → Int
  | some z :: _ => z.2.1
  | _ => 0
def Err.code (e : Err) : Int :=
  match first e with
  | some f => codeL f.layers
  | none => (number e).getD 1
def Err.path (e : Err) : List Int := (links (ff e)).map (·.2)
def Err.at_ (e : Err) : Int := (path e).getLastD 0

theorem ff_cases (e : Err) : (first e = none ∧ ff e = bare) ∨ ∃ b c a e', first e = some (fault b c a e') ∧ ff e = fault b c a e' := by
  unfold ff
  cases h : first e with
  | none => exact .inl ⟨rfl, rfl⟩
  | some f =>
    obtain ⟨b, c, a, e', rfl⟩ := first_val h
    exact .inr ⟨b, c, a, e', rfl, rfl⟩
theorem lies_first {w : World} {e : Err} : ∀ {f : Err}, lies w e → first e = some f → lies w f := by
  induction e using ind with
  | num c => intro f _ h; cases h
  | bare => intro f _ h; cases h
  | odd e ih => exact fun hl h => ih hl h
  | fault b c a e => intro f hl h; rw [← Option.some.inj h]; exact hl
theorem lies_ff {w : World} {e : Err} (h : lies w e) : lies w (ff e) := by
  rcases ff_cases e with ⟨_, q⟩ | ⟨b, c, a, e', h1, q⟩ <;> rw [q]
  · trivial
  · exact lies_first h h1
theorem first_ptr (e : Err) : ((first e).map ptr).getD (.pointer none) = ptr (ff e) := by
  unfold ff
  cases first e <;> rfl
theorem lies_under {w : World} {e : Err} {n : Nat} (h : lies w e) (hn : w.heap.size ≤ n) : under n e := by
  revert h
  cases e using four with
  | num c => exact fun _ => trivial
  | bare => exact fun _ => trivial
  | odd e => exact fun _ => trivial
  | fault b c a e => exact fun h => Nat.lt_of_lt_of_le (lt_of h) hn

theorem new_zero (a : Int) (w : World) : Calls Tryd.prog 7 #[.int .i64 0, .int .i64 a] w fun ev w' => ev = .returned .nilIface ∧ w' = w := by
  go_enter Tryd.func7, Tryd.ntmps7
  go_wp2
  go_ret
  exact ⟨rfl, rfl⟩
theorem new_any (c a : Int) (w : World) (hc : c ≠ 0) : Calls Tryd.prog 7 #[.int .i64 c, .int .i64 a] w fun ev w' =>
    ev = .returned (val (fault w.heap.size c a (num c))) ∧ lies w' (fault w.heap.size c a (num c)) ∧ Below w.heap.size w w' := by
  have hc0 : (c == 0) = false := by simpa using hc
  go_enter Tryd.func7, Tryd.ntmps7
  go_wp2
  go_ret
  refine ⟨rfl, ⟨?_, trivial, trivial⟩, (Below.refl _ _).alloc (Nat.le_refl _) _⟩
  exact heap_alloc_new w _
theorem code_nil (w : World) : Calls Tryd.prog 9 #[.nilIface] w fun ev w' => ev = .returned (.int .i64 0) ∧ w' = w := by
  go_enter Tryd.func9, Tryd.ntmps9
  go_wp2
  go_ret
  exact ⟨rfl, rfl⟩
theorem in_nil (a : Int) (w : World) : Calls Tryd.prog 8 #[.nilIface, .int .i64 a] w fun ev w' => ev = .returned .nilIface ∧ w' = w := by
  go_enter Tryd.func8, Tryd.ntmps8
  go_wp2
  go_ret
  exact ⟨rfl, rfl⟩
theorem is_nil (k : Int) (w : World) : Calls Tryd.prog 14 #[.nilIface, .int .i64 k] w fun ev w' => ev = .returned (.bool (k == 0)) ∧ w' = w := by
  go_enter Tryd.func14, Tryd.ntmps14
  go_wp2
  go_ret
  exact ⟨rfl, rfl⟩
set_option maxHeartbeats 1000000 in
theorem code_any (e : Err) (w : World) (hg : Glob w) (he : lies w e) :
    Calls Tryd.prog 9 #[val e] w fun ev w' => ev = .returned (.int .i64 (code e)) ∧ Below w.heap.size w w' := by
  have nN := eqlNil e
  have nG := guardNil e
  have C := first_any e w hg he
  rw [first_ptr] at C
  rcases ff_cases e with ⟨q0, q⟩ | ⟨b, c, a, e', q0, q⟩
  · have hcode : code e = (number e).getD 1 := by unfold code; rw [q0]
    rw [hcode]
    rw [q] at C
    simp only [ptr_bare] at C
    clear q q0 hcode
    go_enter Tryd.func9, Tryd.ntmps9
    go_wp2_with fail
    refine C.mono ?_
    rintro ev w1 ⟨rfl, hB⟩
    have D := number_any e w1 (hg.below hB) (lies_below hB (Nat.le_refl _) he)
    go_wp2_with fail
    refine D.mono ?_
    rintro ev w2 ⟨rfl, hB2⟩
    go_wp2
    go_ret
    refine ⟨?_, hB.trans (hB2.mono hB.size)⟩
    cases number e <;> rfl
  · have hcode : code e = c := by unfold code; rw [q0]; rfl
    rw [hcode]
    have hf := lies_first he q0
    rw [q] at C
    simp only [ptr_fault] at C
    clear q q0 hcode
    go_enter Tryd.func9, Tryd.ntmps9
    go_wp2_with fail
    refine C.mono ?_
    rintro ev w1 ⟨rfl, hB⟩
    obtain ⟨c0, -, -⟩ := cell_of (lies_below hB (Nat.le_refl _) hf)
    go_wp2
    go_ret
    exact ⟨rfl, hB⟩

set_option maxHeartbeats 1000000 in
theorem in_any (e : Err) (a : Int) (w : World) (hg : Glob w) (he : lies w e) :
    Calls Tryd.prog 8 #[val e, .int .i64 a] w fun ev w' => ∃ b, w.heap.size ≤ b ∧ ev = .returned (val (fault b (code e) a e)) ∧ lies w' (fault b (code e) a e) ∧ Below w.heap.size w w' := by
  have nN := eqlNil e
  have nG := guardNil e
  have C := code_any e w hg he
  have hu : ∀ n, w.heap.size ≤ n → under n e := fun n hn => lies_under he hn
  have H : Hid (∀ (w1 : World) (o : Obj), Below w.heap.size w w1 → lies (w1.alloc o) e) := fun w1 o hB => lies_below (hB.alloc hB.size o) (Nat.le_refl _) he
  generalize code e = c at C ⊢
  obtain ⟨t, u, hv⟩ : ∃ t u, val e = .iface t u := by cases e using four <;> exact ⟨_, _, rfl⟩
  rw [hv] at nN nG C ⊢
  have V : Hid (val e = .iface t u) := hv
  clear hv
  go_enter Tryd.func8, Tryd.ntmps8
  go_wp2_with fail
  refine C.mono ?_
  rintro ev w1 ⟨rfl, hB⟩
  go_wp2
  go_ret
  refine ⟨w1.heap.size, hB.size, rfl, ⟨?_, hu _ hB.size, ?_⟩, hB.alloc hB.size _⟩
  · show (w1.alloc _).heap[w1.heap.size]? = some (.cells #[.int .i64 c, .int .i64 a, val e] 37 (0, 0))
    rw [V.out]; exact heap_alloc_new w1 _
  · exact H.out _ _ hB

set_option maxHeartbeats 1000000 in
theorem is_fault (e : Err) (k : Int) (w : World) (hg : Glob w) (he : lies w e) (hl : (links (ff e)).length ≤ 100) :
    Calls Tryd.prog 14 #[val e, .int .i64 k] w fun ev w' => ev = .returned (.bool (has k e)) ∧ Below w.heap.size w w' := by
  have nN := eqlNil e
  have nG := guardNil e
  have C := first_any e w hg he
  have W : Hid (∀ w1, lies w1 e → Calls Tryd.prog 18 #[val e, .int .i64 k] w1 fun ev w' => ev = .returned (.bool (has k e)) ∧ Below w1.heap.size w1 w') := fun w1 h => wraps_any e k w1 h
  generalize has k e = r at W ⊢
  rw [first_ptr] at C
  rcases ff_cases e with ⟨q0, q⟩ | ⟨b, c, a, e', q0, q⟩
  · rw [q] at C
    simp only [ptr_bare] at C
    clear q q0 hl
    go_enter Tryd.func14, Tryd.ntmps14
    go_wp2_with fail
    refine C.mono ?_
    rintro ev w1 ⟨rfl, hB⟩
    have D := W.out w1 (lies_below hB (Nat.le_refl _) he)
    go_wp2_with fail
    refine D.mono ?_
    rintro ev w2 ⟨rfl, hB2⟩
    go_wp2
    go_ret
    exact ⟨rfl, hB.trans (hB2.mono hB.size)⟩
  · have hf := lies_first he q0
    rw [q] at C hl
    have hp : 0 < (links (fault b c a e')).length := by rw [links_fault]; simp
    clear q q0
    go_enter Tryd.func14, Tryd.ntmps14
    go_wp2_with fail
    refine C.mono ?_
    rintro ev w1 ⟨rfl, hB⟩
    have D := chain_any (fault b c a e') w1 (lies_below hB (Nat.le_refl _) hf) hl
    generalize (links (fault b c a e')).length = n at D hp hl
    generalize (links (fault b c a e')).map lp = xs at D
    simp only [ptr_fault] at D ⊢
    go_wp2_with fail
    refine D.mono ?_
    rintro ev w2 ⟨v, rfl, hown, hB2⟩
    obtain ⟨g, cap, rfl, -, -, hnc, hcm, -⟩ := own_some hown hp
    have hB12 := hB.trans (hB2.mono hB.size)
    have E := W.out w2 (lies_below hB12 (Nat.le_refl _) he)
    clear hown
    go_wp2_with fail
    refine E.mono ?_
    rintro ev w3 ⟨rfl, hB3⟩
    go_wp2
    go_ret
    exact ⟨rfl, hB12.trans (hB3.mono hB12.size)⟩

theorem at_last {l : List (Nat × Int)} (h : 0 < l.length) : (l.map (·.2)).getLastD 0 = (l[l.length - 1]'(by omega)).2 := by
  rw [List.getLastD_eq_getLast?, List.getLast?_map, List.getLast?_eq_getElem?, List.getElem?_eq_getElem (by omega)]
  rfl
theorem links_cell {w : World} {e : Err} : lies w e → ∀ j, (hj : j < (links e).length) → w.cell? ⟨((links e)[j]).1, 1, none⟩ = some (.int .i64 ((links e)[j]).2) := by
  induction e using ind with
  | num c => exact fun _ j hj => absurd hj (Nat.not_lt_zero j)
  | bare => exact fun _ j hj => absurd hj (Nat.not_lt_zero j)
  | odd e => exact fun _ j hj => absurd hj (Nat.not_lt_zero j)
  | fault b c a e ih =>
    intro h j hj
    match j, hj with
    | 0, _ => exact (cell_of h).2.1
    | j + 1, hj => exact ih (lies_fault h).2.2 j (Nat.lt_of_succ_lt_succ hj)

set_option maxHeartbeats 1000000 in
theorem at_any (e : Err) (w : World) (hg : Glob w) (he : lies w e) (hl : (links (ff e)).length ≤ 100) :
    Calls Tryd.prog 10 #[val e] w fun ev w' => ev = .returned (.int .i64 (at_ e)) ∧ Below w.heap.size w w' := by
  have C := first_any e w hg he
  rw [first_ptr] at C
  have hf := lies_ff he
  have D : ∀ w1, Below w.heap.size w w1 → _ := fun w1 hB => chain_any (ff e) w1 (lies_below hB (Nat.le_refl _) hf) hl
  by_cases hz : 0 < (links (ff e)).length
  · have ha : at_ e = ((links (ff e))[(links (ff e)).length - 1]'(by omega)).2 := at_last hz
    have hcell : ∀ w1, Below w.heap.size w w1 → _ := fun w1 hB => links_cell (lies_below hB (Nat.le_refl _) hf) ((links (ff e)).length - 1) (by omega)
    have hlp : ∀ (w2 : World) (g : Nat), (∀ j, (hj : j < ((links (ff e)).map lp).length) → w2.cell? ⟨g, j, none⟩ = some ((links (ff e)).map lp)[j]) → w2.cell? ⟨g, (links (ff e)).length - 1, none⟩ = some (.pointer (some ⟨((links (ff e))[(links (ff e)).length - 1]'(by omega)).1, 0, none⟩)) := by
      intro w2 g h
      have := h ((links (ff e)).length - 1) (by simp; omega)
      rw [this]; simp [lp]
    rw [ha]
    have HD : Hid _ := D
    have HL : Hid _ := hlp
    have HE : Hid _ := hcell
    clear D hlp hcell ha
    generalize ((links (ff e))[(links (ff e)).length - 1]'(by omega)) = y at HL HE ⊢
    obtain ⟨b, a⟩ := y
    go_enter Tryd.func10, Tryd.ntmps10
    go_wp2_with fail
    refine C.mono ?_
    rintro ev w1 ⟨rfl, hB⟩
    have D := HD.out w1 hB
    generalize ptr (ff e) = p at D ⊢
    generalize (links (ff e)).map lp = xs at D HL
    generalize (links (ff e)).length = n at D hz hl HL
    go_wp2_with fail
    refine D.mono ?_
    rintro ev w2 ⟨v, rfl, hown, hB2⟩
    obtain ⟨g, cap, rfl, -, -, hnc, hcm, hcl⟩ := own_some hown hz
    have hB12 := hB.trans (hB2.mono hB.size)
    have q1 := HL.out w2 g hcl
    have q2 := HE.out w2 hB12
    clear hown hcl
    go_wp2
    go_ret
    exact ⟨rfl, hB12⟩
  · have hz0 : links (ff e) = [] := List.eq_nil_of_length_eq_zero (by omega)
    have ha : at_ e = 0 := by unfold at_ path; rw [hz0]; rfl
    rw [ha]
    rw [hz0] at D
    have HD : Hid _ := D
    clear D ha hz hz0 hl
    go_enter Tryd.func10, Tryd.ntmps10
    go_wp2_with fail
    refine C.mono ?_
    rintro ev w1 ⟨rfl, hB⟩
    have D := HD.out w1 hB
    generalize ptr (ff e) = p at D ⊢
    go_wp2_with fail
    refine D.mono ?_
    rintro ev w2 ⟨v, rfl, hown, hB2⟩
    obtain ⟨ao, cap, rfl⟩ := own_none hown
    have hB12 := hB.trans (hB2.mono hB.size)
    clear hown
    go_wp2
    go_ret
    exact ⟨rfl, hB12⟩
end Go.Proofs.YtikogamonngbbaaDoor
