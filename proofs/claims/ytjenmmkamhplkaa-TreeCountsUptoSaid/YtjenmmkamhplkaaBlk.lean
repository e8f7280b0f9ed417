/-
  Blocks of statements: may they be? The program says it, and keeps count; what it asks of one statement is taken as given here.
-/
import Derived.Test.YtjenmmkamhplkaaHav
namespace Go.Proofs.Ytjenmmkamhplkaa
open Go.RowKit

/-- The cell of how many statements may still be. -/
structure Bod (K : Ctx) (gb L : Nat) (y : World) : Prop where
  env : Env K y
  row : Row y gb 73 [.int .i64 (L : Int)]
  hi : K.C ≤ gb
  most : L ≤ 2000
def Spent (gb : Nat) (B : Bool) (L c : Nat) (y : World) : Prop := ∃ L' : Nat, Row y gb 73 [.int .i64 (L' : Int)] ∧ L' ≤ 2000 ∧ (B = true → L' + c = L)
def BlkC (n m : Nat) : Prop := ∀ {K : Ctx} {y : World} {gb L : Nat} {v : Value} {l : List St}, Bod K gb L y → Ar 32 496 (StAt n K y) K y v l → ∀ (B : Bool), (B = true ↔ MayBlk m l ∧ cnt n l ≤ L) →
  Calls Try.prog 37 #[.pointer (some ⟨gb, 0, none⟩), v, .int .i64 (65 - (m : Int))] y fun ev y' => ev = .returned (.bool B) ∧ Stay (fun k => k = gb) y y' ∧ Spent gb B L (cnt n l) y'
def StmC (n m : Nat) : Prop := ∀ {K : Ctx} {y : World} {gb L : Nat} {cs : List Value} {s : St}, Bod K gb L y → StAt n K y cs s → ∀ (B : Bool), (B = true ↔ StOk (MayBlk m) s ∧ inner n s ≤ L) →
  Calls Try.prog 55 #[.pointer (some ⟨gb, 0, none⟩), .agg cs.toArray, .int .i64 (64 - (m : Int))] y fun ev y' => ev = .returned (.bool B) ∧ Stay (fun k => k = gb) y y' ∧ Spent gb B L (inner n s) y'
theorem Bod.step {K : Ctx} {gb L L' : Nat} {y y' : World} (h : Bod K gb L y) (s : Stay (fun k => k = gb) y y') (r : Row y' gb 73 [.int .i64 (L' : Int)]) (hL : L' ≤ 2000) : Bod K gb L' y' :=
  ⟨h.env.below (s.below h.env.C (fun k hk => by have := h.hi; omega)), r, h.hi, hL⟩
theorem Bod.below {K : Ctx} {gb L : Nat} {y y' : World} (h : Bod K gb L y) (hb : Below y.heap.size y y') : Bod K gb L y' :=
  ⟨h.env.below (below_le hb h.env.C), h.row.below hb h.row.lt, h.hi, h.most⟩

set_option maxHeartbeats 4000000 in
theorem each_of {n m : Nat} (ih : StmC n m) {K : Ctx} {y : World} {gb L g3 g5 : Nat} {cs : List Value} {s : St} (hb : Bod K gb L y) (r3 : Row y g3 94 [.pointer (some ⟨gb, 0, none⟩)]) (r5 : Row y g5 3 [.int .i64 (64 - (m : Int))])
    (hs : StAt n K y cs s) (B : Bool) (hB : B = true ↔ StOk (MayBlk m) s ∧ inner n s ≤ L) :
    Calls Try.prog 54 #[.agg cs.toArray, .pointer (some ⟨g3, 0, none⟩), .pointer (some ⟨g5, 0, none⟩)] y fun ev y' => ev = .returned (.bool B) ∧ Stay (fun k => k = gb) y y' ∧ Spent gb B L (inner n s) y' := by
  have hA := alloc_one y (.cells cs.toArray 50)
  have hl := hs.len
  have D : Hid (Calls Try.prog 55 #[.pointer (some ⟨gb, 0, none⟩), .agg cs.toArray, .int .i64 (64 - (m : Int))] (y.alloc (.cells cs.toArray 50)) fun ev y' => ev = .returned (.bool B) ∧ Stay (fun k => k = gb) y y' ∧ Spent gb B L (inner n s) y') := by
    refine (ih (hb.below hA) (hs.below (below_le hA hb.env.C)) B hB).mono ?_
    rintro _ _ ⟨rfl, h2, h3⟩
    exact ⟨rfl, (Stay.of_below hA).trans h2, h3⟩
  have c3 : ∀ o, (y.alloc o).cell? ⟨g3, 0, none⟩ = some (.pointer (some ⟨gb, 0, none⟩)) := fun o => (r3.alloc o).cell 0
  have c5 : ∀ o, (y.alloc o).cell? ⟨g5, 0, none⟩ = some (.int .i64 (64 - (m : Int))) := fun o => (r5.alloc o).cell 0
  have hi : Hid ((Try.prog.info? 50).map (·.size) = some cs.length) := by show _ = _; rw [hl]; kernel_rfl
  clear hs hb r3 r5 hA hB hl
  generalize (64 - (m : Int)) = dd at *
  go_enter Try.func54, Try.ntmps54
  go_wp2_with (first | (refine load_new rfl 50 (.tmp 3) rfl cs 50 _ rfl Try.underlying50 rfl hi.out ?_) | (go_at_call 55; refine D.out.mono ?_; rintro ev w2 ⟨rfl, h2, h3⟩))
  go_ret
  exact ⟨rfl, h2, h3⟩

/-- How many there are within the first so many. -/
def innS (n : Nat) (l : List St) : Nat := (l.map (inner n)).sum
theorem cnt_eq (n : Nat) (l : List St) : cnt n l = l.length + innS n l := by
  induction l with
  | nil => rfl
  | cons s l ih => rw [cnt_cons, ih]; simp [innS]; omega
theorem innS_take (n : Nat) (l : List St) (k : Nat) (h : k < l.length) : innS n (l.take (k + 1)) = innS n (l.take k) + inner n l[k] := by
  unfold innS
  rw [List.take_add_one, List.getElem?_eq_getElem h, List.map_append, List.sum_append]
  simp only [Option.toList_some, List.map_cons, List.map_nil, List.sum_cons, List.sum_nil, Nat.add_zero]
theorem innS_le (n : Nat) (l : List St) (k : Nat) : innS n (l.take k) ≤ innS n l := by
  have h : innS n l = innS n (l.take k) + innS n (l.drop k) := by
    unfold innS
    rw [← List.sum_append, ← List.map_append, List.take_append_drop]
  omega
theorem innS_at (n : Nat) (l : List St) (k : Nat) (h : k < l.length) : innS n (l.take k) + inner n l[k] ≤ innS n l := by
  rw [← innS_take n l k h]; exact innS_le n l (k + 1)

set_option maxHeartbeats 8000000 in
set_option maxRecDepth 20000 in
theorem allStmts_of {n m : Nat} (ih : StmC n m) {K : Ctx} {w : World} {gb L g3 g5 : Nat} (hb : Bod K gb L w) (r3 : Row w g3 94 [.pointer (some ⟨gb, 0, none⟩)]) (r5 : Row w g5 3 [.int .i64 (64 - (m : Int))]) (h3 : g3 ≠ gb) (h5 : g5 ≠ gb)
    {v : Value} {l : List St} (ha : Ar 32 496 (StAt n K w) K w v l) (B : Bool) (hB : B = true ↔ (∀ s ∈ l, StOk (MayBlk m) s) ∧ innS n l ≤ L) :
    Calls Try.prog 53 #[v, .func (.func 54) #[] #[.pointer (some ⟨g3, 0, none⟩), .pointer (some ⟨g5, 0, none⟩)]] w fun ev w' => ev = .returned (.bool B) ∧ Stay (fun k => k = gb) w w' ∧ Spent gb B L (innS n l) w' := by
  obtain ⟨ao, cap, rfl, hc, hb', hA⟩ := ha.shape
  have hl9 : l.length ≤ 9223372036854775807 := by omega
  have HC : Hid (K.C ≤ w.heap.size ∧ K.C ≤ gb) := ⟨hb.env.C, hb.hi⟩
  have HA : Hid (∀ i (h : i < l.length) (y : World), Below K.C w y → ∃ b o, ao = some ⟨b, o, none⟩ ∧ ∃ cs, cs.length = 32 ∧ y.rangeAt b (o + i * 32) cs ∧ StAt n K y cs l[i]) := by
    intro i h y hy
    obtain ⟨b, o, e, hbC, cs, hl, hcs, hx⟩ := hA i h
    refine ⟨b, o, e, cs, hl, fun j u hj => ?_, hx.below hy⟩
    have hj' : j < 32 := by rw [← hl]; exact (List.getElem?_eq_some_iff.1 hj).1
    rw [hy.cell (p := ⟨b, o + i * 32 + j, none⟩) hbC, hcs j hj']
    exact hj
  have HB : Hid (B = true ↔ (∀ s ∈ l, StOk (MayBlk m) s) ∧ innS n l ≤ L) := hB
  have HE : Hid (∀ (y : World) (L' : Nat) (cs : List Value) (s : St) (B : Bool), Stay (fun k => k = gb) w y → Bod K gb L' y → StAt n K y cs s → (B = true ↔ StOk (MayBlk m) s ∧ inner n s ≤ L') →
      Calls Try.prog 54 #[.agg cs.toArray, .pointer (some ⟨g3, 0, none⟩), .pointer (some ⟨g5, 0, none⟩)] y fun ev y' => ev = .returned (.bool B) ∧ Stay (fun k => k = gb) y y' ∧ Spent gb B L' (inner n s) y') :=
    fun y L' cs s B hs hb hx hB => each_of ih hb (hs.row r3 h3) (hs.row r5 h5) hx B hB
  have HB0 : Hid (Bod K gb L w) := hb
  clear hA hB ha ih hb hb' r3 r5 h3 h5
  go_enter Try.func53, Try.ntmps53
  go_wp2_with fail
  go_loopw [9] (fun i wr => ∃ k : Nat, k ≤ l.length ∧ i = .int .i64 k ∧ (∀ j (h : j < l.length), j < k → StOk (MayBlk m) l[j]) ∧ Stay (fun k => k = gb) w wr ∧ ∃ L', Bod K gb L' wr ∧ L' + innS n (l.take k) = L) (fun i _ => l.length - (intOf i).toNat)
  case atStart => exact ⟨0, by omega, rfl, fun j _ h => by omega, Stay.refl _ _, L, HB0.out, by simp [innS]⟩
  case round =>
    obtain ⟨k, hk, rfl, hj, hst, L', hbod, hsum⟩ := hrel
    have HJ : Hid (∀ j (h : j < l.length), j < k → StOk (MayBlk m) l[j]) := hj
    have HW : Hid (Stay (fun k => k = gb) w wr) := hst
    have HN : Hid (L' + innS n (l.take k) = L) := hsum
    have HD : Hid (Bod K gb L' wr) := hbod
    clear hj hst hsum hbod HB0
    by_cases h3 : k < l.length
    · have hKC : Below K.C w wr := HW.out.below HC.out.1 (fun q hq => by have := HC.out.2; omega)
      obtain ⟨b, o, e, cs, hl, hr, hx⟩ := HA.out k h3 wr hKC
      subst e
      have hi : Hid ((Try.prog.info? 50).map (·.size) = some cs.length) := by show _ = _; rw [hl]; kernel_rfl
      have hi' : Hid ((Try.prog.info? 50).map (·.size) = some cs.toArray.size) := by show _ = _; rw [List.size_toArray]; exact hi.out
      have hl' : Hid (32 = cs.toArray.size) := by show _ = _; rw [List.size_toArray]; exact hl.symm
      have h1 : Hid (cs.toArray.all (·.oneCell') = true) := one_mem hx.one
      have hR : Hid (wr.rangeAt b (o + k * 32) cs) := hr
      have hAl : Below wr.heap.size wr (wr.alloc (.cells cs.toArray 50)) := alloc_one _ _
      have hxA := (hx.below (below_le hAl HD.out.env.C) : StAt n K (wr.alloc (.cells cs.toArray 50)) cs l[k])
      have hDA := HD.out.below hAl
      have i1 : (k : Int) < (l.length : Int) := by omega
      by_cases hp : StOk (MayBlk m) l[k] ∧ inner n l[k] ≤ L'
      · have HCL : Hid (Calls Try.prog 54 #[.agg cs.toArray, .pointer (some ⟨g3, 0, none⟩), .pointer (some ⟨g5, 0, none⟩)] (wr.alloc (.cells cs.toArray 50)) fun ev w' => ev = .returned (.bool true) ∧ Stay (fun k => k = gb) w w' ∧ ∃ L2, Bod K gb L2 w' ∧ L2 + innS n (l.take (k + 1)) = L) := by
          refine (HE.out _ L' cs l[k] true (HW.out.alloc _) hDA hxA ⟨fun _ => hp, fun _ => rfl⟩).mono ?_
          rintro _ _ ⟨rfl, h2, L2, hr2, hm2, he2⟩
          refine ⟨rfl, (HW.out.alloc _).trans h2, L2, hDA.step h2 hr2 hm2, ?_⟩
          have := he2 rfl
          have := HN.out
          rw [innS_take n l k h3]; omega
        have HJ' : Hid (∀ j (h : j < l.length), j < k + 1 → StOk (MayBlk m) l[j]) := by
          intro j h hjk
          rcases Nat.lt_or_ge j k with h' | h'
          · exact HJ.out j h h'
          · obtain rfl : j = k := by omega
            exact hp.1
        clear hp hx HA HE hKC hxA hAl hl hr hDA
        go_wp2_with (first | (refine wpList_load_mid rfl 50 (.tmp 11) rfl b (o + k * 32) rfl cs _ hR.out Try.underlying50 rfl hi.out ?_) | (refine store_new rfl 50 (.tmp 6) (.tmp 12) rfl cs.toArray _ 50 rfl rfl hi'.out hl'.out h1.out ?_) | (refine load_new rfl 50 (.tmp 6) rfl cs 50 _ rfl Try.underlying50 rfl hi.out ?_) | (go_at_call 54; refine HCL.out.mono ?_; rintro ev w2 ⟨rfl, hs2, hd2⟩))
        go_roundw
        case rel => exact ⟨k + 1, by omega, by go_num, HJ'.out, hs2, hd2⟩
        case measure => simp [intOf]; omega
      · have HCL : Hid (Calls Try.prog 54 #[.agg cs.toArray, .pointer (some ⟨g3, 0, none⟩), .pointer (some ⟨g5, 0, none⟩)] (wr.alloc (.cells cs.toArray 50)) fun ev w' => ev = .returned (.bool false) ∧ Stay (fun k => k = gb) w w' ∧ Spent gb false L (innS n l) w') := by
          refine (HE.out _ L' cs l[k] false (HW.out.alloc _) hDA hxA ⟨fun h => (by cases h), fun h => absurd h hp⟩).mono ?_
          rintro _ _ ⟨rfl, h2, L2, hr2, hm2, _⟩
          exact ⟨rfl, (HW.out.alloc _).trans h2, L2, hr2, hm2, fun h => by cases h⟩
        have HF : Hid (B = false) := bool_false HB.out (fun h => hp ⟨h.1 _ (List.getElem_mem h3), by have := innS_at n l k h3; have := HN.out; have := h.2; omega⟩)
        clear hp hx HA HE hKC hxA hAl hl hr hDA
        go_wp2_with (first | (refine wpList_load_mid rfl 50 (.tmp 11) rfl b (o + k * 32) rfl cs _ hR.out Try.underlying50 rfl hi.out ?_) | (refine store_new rfl 50 (.tmp 6) (.tmp 12) rfl cs.toArray _ 50 rfl rfl hi'.out hl'.out h1.out ?_) | (refine load_new rfl 50 (.tmp 6) rfl cs 50 _ rfl Try.underlying50 rfl hi.out ?_) | (go_at_call 54; refine HCL.out.mono ?_; rintro ev w2 ⟨rfl, hs2, hd2⟩))
        go_ret
        exact ⟨by rw [HF.out]; rfl, hs2, by rw [HF.out]; exact hd2⟩
    · have hfull : l.take k = l := List.take_of_length_le (by omega)
      have HF : Hid (B = true) := HB.out.2 ⟨fun x hx => by
        obtain ⟨j, hj, rfl⟩ := List.getElem_of_mem hx
        exact HJ.out j hj (by omega), by have := HN.out; rw [hfull] at this; omega⟩
      have HSp : Hid (Spent gb true L (innS n l) wr) := ⟨L', HD.out.row, HD.out.most, fun _ => by have := HN.out; rw [hfull] at this; exact this⟩
      have i1 : ¬ (k : Int) < (l.length : Int) := by omega
      clear hfull
      go_wp2_with fail
      go_ret
      exact ⟨by rw [HF.out]; rfl, HW.out, by rw [HF.out]; exact HSp.out⟩

theorem wrap_small {a : Int} (h1 : -9223372036854775808 ≤ a) (h2 : a ≤ 9223372036854775807) : IntKind.i64.wrap a = a := by
  have e := IntKind.wrap_i64 a
  rw [e]
  omega

set_option maxHeartbeats 8000000 in
theorem blk_of {n : Nat} (ih : ∀ m, m ≤ 64 → StmC n m) (m : Nat) (hm : m ≤ 64) : BlkC n m := by
  intro K y gb L v l hb ha B hB
  obtain ⟨ao, cap, hv⟩ := ha.form
  have hLm := hb.most
  have hlt := hb.row.lt
  have cb : ∀ o p, ((y.alloc o).alloc p).cell? ⟨gb, 0, none⟩ = some (.int .i64 (L : Int)) := fun o p => ((hb.row.alloc o).alloc p).cell 0
  have zb : ∀ o p, ((y.alloc o).alloc p).frozen? ⟨gb, 0, none⟩ = false := fun o p => ((hb.row.alloc o).alloc p).fz 0
  have hA := alloc_two y (.cells #[.pointer (some ⟨gb, 0, none⟩)] 94) (.cells #[.int .i64 (65 - (m : Int))] 3)
  have HA : Hid (Stay (fun k => k = gb) y ((y.alloc (.cells #[.pointer (some ⟨gb, 0, none⟩)] 94)).alloc (.cells #[.int .i64 (65 - (m : Int))] 3))) := Stay.of_below hA
  have HR : Hid (Row ((y.alloc (.cells #[.pointer (some ⟨gb, 0, none⟩)] 94)).alloc (.cells #[.int .i64 (65 - (m : Int))] 3)) gb 73 [.int .i64 (L : Int)]) := (hb.row.alloc _).alloc _
  subst hv
  by_cases hm0 : m = 0
  · obtain rfl := bool_false hB (fun h => by subst hm0; exact h.1)
    subst hm0
    have HS : Hid (Spent gb false L (cnt n l) ((y.alloc (.cells #[.pointer (some ⟨gb, 0, none⟩)] 94)).alloc (.cells #[.int .i64 (65 - ((0 : Nat) : Int))] 3))) := ⟨L, HR.out, hLm, fun h => by cases h⟩
    clear hb ha hB HR hA ih
    go_enter Try.func37, Try.ntmps37
    go_wp2_with fail
    go_ret
    exact ⟨rfl, HA.out, HS.out⟩
  · obtain ⟨q, rfl⟩ : ∃ q, m = q + 1 := ⟨m - 1, by omega⟩
    obtain ⟨D, hD⟩ : ∃ D : Int, D = 65 - ((q + 1 : Nat) : Int) := ⟨_, rfl⟩
    have hD2 : D = 64 - (q : Int) := by rw [hD]; omega
    rw [← hD] at HA HR ⊢
    have d1 : decide ((64 : Int) < D) = false := by simp; omega
    have d2 : ¬ (64 : Int) < D := by omega
    have hl9 : l.length ≤ 9223372036854775807 := by
      obtain ⟨_, _, e, h1, h2, _⟩ := ha.shape
      omega
    by_cases hlen : l.length ≤ L
    · have b1 : decide ((L : Int) < (l.length : Int)) = false := by simp; omega
      have b2 : ¬ (L : Int) < (l.length : Int) := by omega
      have w1 : IntKind.i64.wrap ((L : Int) - (l.length : Int)) = (L : Int) - (l.length : Int) := wrap_small (by omega) (by omega)
      have hmf : ∀ (fn : Fn) (first cap : Array Value) (w : World), (Instr.makeFunc fn first cap).run Try.prog w = .ok (.func fn first cap) w := fun _ _ _ _ => rfl
      have hset := below_set hb.hi 0 (.int .i64 ((L : Int) - (l.length : Int))) hb.env.C
      have e1 : ((L : Int) - (l.length : Int)) = ((L - l.length : Nat) : Int) := by omega
      have hrs : Row (y.setCell ⟨gb, 0, none⟩ (.int .i64 ((L : Int) - (l.length : Int)))) gb 73 [.int .i64 ((L - l.length : Nat) : Int)] := by
        have := hb.row.set 0 (.int .i64 ((L : Int) - (l.length : Int)))
        rw [e1] at this ⊢
        exact this
      have hs1 : Stay (fun k => k = gb) y (y.setCell ⟨gb, 0, none⟩ (.int .i64 ((L : Int) - (l.length : Int)))) := (Stay.refl (fun k => k = gb) y).set (fun _ => rfl) _ _
      have hsz : (y.setCell ⟨gb, 0, none⟩ (.int .i64 ((L : Int) - (l.length : Int)))).heap.size = y.heap.size := by simp [World.setCell]
      have hbod : Bod K gb (L - l.length) (y.setCell ⟨gb, 0, none⟩ (.int .i64 ((L : Int) - (l.length : Int)))) := hb.step hs1 hrs (by omega)
      have hA2 := alloc_two (y.setCell ⟨gb, 0, none⟩ (.int .i64 ((L : Int) - (l.length : Int)))) (.cells #[.pointer (some ⟨gb, 0, none⟩)] 94) (.cells #[.int .i64 D] 3)
      have r3 : Row (((y.setCell ⟨gb, 0, none⟩ (.int .i64 ((L : Int) - (l.length : Int)))).alloc (.cells #[.pointer (some ⟨gb, 0, none⟩)] 94)).alloc (.cells #[.int .i64 D] 3)) y.heap.size 94 [.pointer (some ⟨gb, 0, none⟩)] := by
        have := (Row.new (y.setCell ⟨gb, 0, none⟩ (.int .i64 ((L : Int) - (l.length : Int)))) 94 [.pointer (some ⟨gb, 0, none⟩)]).alloc (.cells #[.int .i64 D] 3)
        rw [hsz] at this
        exact this
      have r5 : Row (((y.setCell ⟨gb, 0, none⟩ (.int .i64 ((L : Int) - (l.length : Int)))).alloc (.cells #[.pointer (some ⟨gb, 0, none⟩)] 94)).alloc (.cells #[.int .i64 D] 3)) (y.heap.size + 1) 3 [.int .i64 (64 - (q : Int))] := by
        have := Row.new ((y.setCell ⟨gb, 0, none⟩ (.int .i64 ((L : Int) - (l.length : Int)))).alloc (.cells #[.pointer (some ⟨gb, 0, none⟩)] 94)) 3 [.int .i64 D]
        rw [size_alloc, hsz, hD2] at this
        rw [hD2]
        exact this
      have hKb := below_le hA2 hbod.env.C
      have D0 : Hid (Calls Try.prog 53 #[.slice ao l.length cap, .func (.func 54) #[] #[.pointer (some ⟨y.heap.size, 0, none⟩), .pointer (some ⟨y.heap.size + 1, 0, none⟩)]] (((y.setCell ⟨gb, 0, none⟩ (.int .i64 ((L : Int) - (l.length : Int)))).alloc (.cells #[.pointer (some ⟨gb, 0, none⟩)] 94)).alloc (.cells #[.int .i64 D] 3)) fun ev w' => ev = .returned (.bool B) ∧ Stay (fun k => k = gb) y w' ∧ Spent gb B L (cnt n l) w') := by
        refine (allStmts_of (ih q (by omega)) (hbod.below hA2) r3 r5 (by omega) (by omega) (ha.mono (hset.trans hKb) fun _ _ _ h => h.below (hset.trans hKb)) B (by
          rw [hB, cnt_eq]
          exact ⟨fun h => ⟨h.1, by omega⟩, fun h => ⟨h.1, by omega⟩⟩)).mono ?_
        rintro _ _ ⟨rfl, h2, L2, hr2, hm2, he2⟩
        exact ⟨rfl, (hs1.trans (Stay.of_below hA2)).trans h2, L2, hr2, hm2, fun h => by have := he2 h; rw [cnt_eq]; omega⟩
      clear hb ha hB HR HA hA ih hset e1 hrs hs1 hsz hbod hA2 r3 r5 hKb hD hD2
      go_enter Try.func37, Try.ntmps37
      go_wp2_with (go_at_call 53; refine D0.out.mono ?_; rintro ev w2 ⟨rfl, h2, h3⟩)
      go_ret
      exact ⟨rfl, h2, h3⟩
    · have b1 : decide ((L : Int) < (l.length : Int)) = true := by simp; omega
      have b2 : (L : Int) < (l.length : Int) := by omega
      obtain rfl := bool_false hB (fun h => by have := h.2; rw [cnt_eq] at this; omega)
      have HS : Hid (Spent gb false L (cnt n l) ((y.alloc (.cells #[.pointer (some ⟨gb, 0, none⟩)] 94)).alloc (.cells #[.int .i64 D] 3))) := ⟨L, HR.out, hLm, fun h => by cases h⟩
      clear hb ha hB HR hA ih hD hD2
      go_enter Try.func37, Try.ntmps37
      go_wp2_with fail
      go_ret
      exact ⟨rfl, HA.out, HS.out⟩
end Go.Proofs.Ytjenmmkamhplkaa
