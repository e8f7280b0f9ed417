/-
  What a line does to the crates above it.
-/
import Derived.Test.YtmfdmpfeoppnfaaDoorRhe
namespace Go.Proofs.YtmfdmpfeoppnfaaDoor
open Go.RowKit

/-- The crates so far, as the variable at gc holds them. -/
structure Crs (B gc : Nat) (w : World) (L : List Src) : Prop where
  ex : ∃ v V, Row w gc 24 [v] ∧ w.ownsRow B 43 3 v L.length (svs L V) ∧ V.length = L.length ∧ ∀ i, i < L.length → S9 w (V.getD i undef) (L.getD i Src.zero).deps
theorem own_ne {w : World} {B n g t : Nat} {v : Value} {xs M : List Value} (h : w.ownsRow B 43 3 v n xs) (r : Row w g t M) (ht : t ≠ 43) : ∀ k, v.ownBlock = some k → k ≠ g := by
  intro k hk e
  rcases h.2 with ⟨rfl, _⟩ | ⟨g', cap, cur, rfl, _, hg, _⟩
  · cases hk
  · cases hk
    subst e
    have := hg.symm.trans r.heap
    simp only [Option.some.injEq, Obj.cells.injEq] at this
    exact ht this.2.1.symm
theorem own_type {w : World} {B n : Nat} {v : Value} {xs : List Value} (h : w.ownsRow B 43 3 v n xs) : ∀ k, v.ownBlock = some k → ∃ c, w.heap[k]? = some (.cells c 43 (0, 0)) := by
  intro k hk
  rcases h.2 with ⟨rfl, _⟩ | ⟨g', cap, cur, rfl, _, hg, _⟩
  · cases hk
  · cases hk; exact ⟨_, hg⟩
theorem own_slice {w : World} {B e z n : Nat} {v : Value} {xs : List Value} (h : w.ownsRow B e z v n xs) : ∃ va vc, v = .slice va n vc := by
  rcases h.2 with ⟨rfl, rfl⟩ | ⟨g', cap, cur, rfl, _⟩
  · exact ⟨_, _, rfl⟩
  · exact ⟨_, _, rfl⟩
theorem Crs.put {B gc : Nat} {w : World} {x v : Value} {L : List Src} {V : List Value} (hr : Row w gc 24 [x]) (ho : w.ownsRow B 43 3 v L.length (svs L V)) (hV : V.length = L.length) (hs : ∀ i, i < L.length → S9 w (V.getD i undef) (L.getD i Src.zero).deps) : Crs B gc (w.setCell ⟨gc, 0, none⟩ v) L := by
  refine ⟨v, V, hr.set 0 v, own_same' ho (fun k hk => ?_), hV, fun i hi => (St9.setCell hr (by decide)).s9 (hs i hi)⟩
  exact heap_setCell_other w ⟨gc, 0, none⟩ k v (own_ne ho hr (by decide) k hk)
theorem Crs.drew {B gc : Nat} {w : World} {L : List Src} (h : Crs B gc w L) : Crs B gc w.drew L := by
  obtain ⟨v, V, R, O, hV, hS⟩ := h.ex
  exact ⟨v, V, R.drew, own_past' O (Below.refl _ _).drew, hV, fun i hi => (hS i hi).below (Below.refl _ _).drew⟩
theorem step_head {L : List Src} {l : Bs} (h : isHd l = true) : stepF L l = if codeF L (headF (stripN l)) = 0 then .ok (L ++ [⟨cutName (stripN l), cutDeps (stripN l), []⟩]) else .error (codeF L (headF (stripN l))) := by
  unfold stepF
  rw [if_pos h, ← cut_head]
  by_cases hc : cutIs (stripN l) = true
  · rw [if_pos hc, codeF_some]
    simp only
    split
    · simp
    · split
      · simp
      · simp
  · rw [if_neg hc]
    simp [codeF]

set_option maxHeartbeats 8000000 in
set_option maxRecDepth 20000 in
theorem clo_head (B gc gs : Nat) (w : World) (L : List Src) (l : Bs) (p : Nat) (hBw : B ≤ w.heap.size) (hBc : B ≤ gc) (h : Crs B gc w L) (m : Int) (hm : w.cell? ⟨0, 0, none⟩ = some (.int .i64 m)) (hl : l.length ≤ 4294967279) (hL : L.length ≤ 64) (hd : isHd l = true) :
    Calls Tryd.prog 29 #[.int .i64 (p : Int), .string (str l), .pointer (some ⟨gc, 0, none⟩), .pointer (some ⟨gs, 0, none⟩)] w fun ev w' => ev = .returned (.int .i64 (codeF L (headF (stripN l)) : Int)) ∧ Crs B gc w' (L ++ [⟨cutName (stripN l), cutDeps (stripN l), []⟩]) ∧ Below B w w' ∧ St9 w w' := by
  obtain ⟨v, V, R, O, hV, hS⟩ := h.ex
  have P := hid0 (prefix_any l [61, 61] w)
  have hd' : ([61, 61] : Bs).isPrefixOf l = true := hd
  rw [hd'] at P
  have RH := hid0 (readHead_any l hl w m hm v L (Srs.ofOwn O hV (by omega) hS) hL)
  have c24 : w.cell? ⟨gc, 0, none⟩ = some v := R.cell 0
  generalize codeF L (headF (stripN l)) = c at *
  generalize cutName (stripN l) = n at *
  generalize cutDeps (stripN l) = ds at *
  have HW : Hid (∀ w2 dv, S9 w2 dv ds → Below w.heap.size w w2 →
      (w2.alloc (.cells #[.string ⟨#[]⟩, .slice none 0 0, .string ⟨#[]⟩] 43)).heap[w2.heap.size]? = some (.cells #[.string ⟨#[]⟩, .slice none 0 0, .string ⟨#[]⟩] 43 (0, 0)) ∧
      (#[Value.string (str n), dv, Value.string ⟨#[]⟩].all (·.oneCell')) = true ∧ dv.oneCell' = true ∧
      ∃ W, W = (w2.alloc (.cells #[.string ⟨#[]⟩, .slice none 0 0, .string ⟨#[]⟩] 43)).setRow w2.heap.size #[.string (str n), dv, .string ⟨#[]⟩] ∧ Row W w2.heap.size 43 [.string (str n), dv, .string ⟨#[]⟩] ∧ S9 W dv ds ∧ Below w.heap.size w W) := by
    intro w2 dv hS hB
    have hA : Below w2.heap.size w2 (w2.alloc (.cells #[.string ⟨#[]⟩, .slice none 0 0, .string ⟨#[]⟩] 43)) := (Below.refl _ _).alloc (Nat.le_refl _) _
    have hr := Row.new w2 43 [.string ⟨#[]⟩, .slice none 0 0, .string ⟨#[]⟩]
    refine ⟨hr.heap, by obtain ⟨ao', e⟩ := hS.slice; simp [Value.oneCell', e], hS.one, _, rfl, hr.setRow _, St9.s9 (St9.setRow hr (by decide) _) (hS.below hA), below_setRow (nextB hB hA) hB.size _⟩
  have AR := aside0 R
  have AO := aside0 O
  have AS := aside0 hS
  clear h R O hS hd hd' hm
  go_enter Tryd.func29, Tryd.ntmps29
  go_wp2_with fail
  refine P.out.mono ?_
  rintro ev w1 ⟨rfl, hw1⟩
  rw [hw1]
  clear hw1 w1
  go_wp2_with fail
  refine RH.out.mono ?_
  rintro ev w2 ⟨dv, rfl, hS2, hB2⟩
  obtain ⟨G1, G2, G3, W, hW, R7, SW, BW⟩ := HW.out w2 dv hS2 hB2
  have d24 := Below.cellOf BW c24
  have d0 : W.cell? ⟨w2.heap.size, 0, none⟩ = some (.string (str n)) := R7.cell 0
  have d1 : W.cell? ⟨w2.heap.size, 1, none⟩ = some dv := R7.cell 1
  have d2 : W.cell? ⟨w2.heap.size, 2, none⟩ = some (.string ⟨#[]⟩) := R7.cell 2
  have hA : Below W.heap.size W (W.alloc (.cells #[.string (str n), dv, .string ⟨#[]⟩] 43)) := (Below.refl _ _).alloc (Nat.le_refl _) _
  have BW1 := nextB BW hA
  have O1 := own_past' AO.out BW1
  have hr1 : (W.alloc (.cells #[.string (str n), dv, .string ⟨#[]⟩] 43)).rangeAt W.heap.size 0 [.string (str n), dv, .string ⟨#[]⟩] := (Row.new W 43 _).range
  have hB1 : B ≤ (W.alloc (.cells #[.string (str n), dv, .string ⟨#[]⟩] 43)).heap.size := by have := BW1.size; omega
  have AW := aside0 hW
  have HF : Hid (∀ v' w', w'.ownsRow B 43 3 v' (L ++ [(⟨n, ds, []⟩ : Src)]).length (svs (L ++ [⟨n, ds, []⟩]) (V ++ [dv])) → Below B (W.alloc (.cells #[.string (str n), dv, .string ⟨#[]⟩] 43)) w' → (W.alloc (.cells #[.string (str n), dv, .string ⟨#[]⟩] 43)).grownBy w' v.ownBlock →
      w'.cell? ⟨gc, 0, none⟩ = some v ∧ w'.frozen? ⟨gc, 0, none⟩ = false ∧ Crs B gc (w'.setCell ⟨gc, 0, none⟩ v') (L ++ [⟨n, ds, []⟩]) ∧ Below B w (w'.setCell ⟨gc, 0, none⟩ v') ∧ St9 w (w'.setCell ⟨gc, 0, none⟩ v')) := by
    intro v' w' ho hb hg
    have r1 := AR.out.below BW1 AR.out.lt
    have r2 : Row w' gc 24 [v] := ⟨by rw [hg.block gc r1.lt (fun e => own_ne O1 r1 (by decide) gc e.symm rfl)]; exact r1.heap⟩
    have s1 : St9 w w' := (St9.of BW1).trans (St9.grown hg (own_type O1))
    have s2 : St9 W w' := (St9.of hA).trans (St9.grown hg (own_type O1))
    refine ⟨r2.cell 0, r2.fz 0, Crs.put (V := V ++ [dv]) r2 ho (by simp [hV]) (fun i hi => ?_), ((BW1.mono hBw).trans hb).setCell (p := ⟨gc, 0, none⟩) hBc _, s1.trans (St9.setCell r2 (by decide))⟩
    simp at hi
    rcases Nat.lt_or_ge i L.length with h | h
    · have e1 : (V ++ [dv]).getD i undef = V.getD i undef := by simp [List.getD, List.getElem?_append_left (show i < V.length by omega)]
      have e2 : (L ++ [(⟨n, ds, []⟩ : Src)]).getD i Src.zero = L.getD i Src.zero := by simp [List.getD, List.getElem?_append_left h]
      rw [e1, e2]
      exact s1.s9 (AS.out i h)
    · obtain rfl : i = L.length := by omega
      have e1 : (V ++ [dv]).getD L.length undef = dv := by simp [List.getD, ← hV]
      have e2 : (L ++ [(⟨n, ds, []⟩ : Src)]).getD L.length Src.zero = ⟨n, ds, []⟩ := by simp [List.getD]
      rw [e1, e2]
      exact s2.s9 SW
  clear HW hS2 hB2 hW R7 SW BW hA BW1 P RH
  go_wp2_with (first
    | (refine wpList_store_row rfl 43 _ _ rfl w2.heap.size #[.string (str n), dv, .string ⟨#[]⟩] rfl rfl 43 _ G1 Tryd.info43 rfl G2 ?_; rw [← AW.out])
    | (refine build43 rfl _ rfl (.string (str n)) dv (.string ⟨#[]⟩) rfl ?_)
    | (refine app43 (L := L) (V := V) rfl _ _ rfl rfl O1 hV hB1 W.heap.size 1 ⟨n, ds, []⟩ dv G3 rfl hr1 (by omega) ?_; intro v' w' ho hb hg; obtain ⟨q1, q2, q3, q4, q5⟩ := HF.out v' w' ho hb hg; obtain ⟨va, vc, rfl⟩ := own_slice ho; simp only [List.length_append, List.length_singleton] at q3 q4 q5; have Q3 := aside0 q3; have Q4 := aside0 q4; have Q5 := aside0 q5; clear q3 q4 q5 ho hb hg HF))
  go_ret
  exact ⟨rfl, Q3.out, Q4.out, Q5.out⟩

theorem own_set {w : World} {B e z n g cap j : Nat} {xs : List Value} (h : w.ownsRow B e z (.slice (some ⟨g, 0, none⟩) n cap) n xs) (u : Value) : (w.setCell ⟨g, j, none⟩ u).ownsRow B e z (.slice (some ⟨g, 0, none⟩) n cap) n (xs.set j u) := by
  refine ⟨by rw [List.length_set]; exact h.1, ?_⟩
  rcases h.2 with ⟨e, _⟩ | ⟨g', cap', cur, e, hb, hg, h1, h2, h3, h4⟩
  · cases e
  · cases e
    refine .inr ⟨g, cap, cur.setIfInBounds j u, rfl, hb, heap_setCell_same w g j cur _ u hg, h1, h2, by simpa using h3, ?_⟩
    rw [← h4, Array.toList_setIfInBounds, List.take_set]
theorem addL_step {L : List Src} {l : Bs} (h : isHd l = false) (h0 : L ≠ []) : stepF L l = .ok (addL L l) := by
  unfold stepF; rw [if_neg (by simp [h]), if_neg h0]

set_option maxHeartbeats 8000000 in
set_option maxRecDepth 20000 in
theorem clo_text (B gc gs : Nat) (w : World) (L0 : List Src) (x : Src) (s l : Bs) (p : Nat) (h : Crs B gc w (L0 ++ [x])) (hrs : Row w gs 9 [.string (str s)]) (hs : s.length ≤ 4194304) (hpl : p + l.length ≤ s.length) (htp : x.text.length ≤ p)
    (htx : (s.drop (p - x.text.length)).take (x.text.length + l.length) = x.text ++ l) (hL : L0.length ≤ 64) (hd : isHd l = false) :
    Calls Tryd.prog 29 #[.int .i64 (p : Int), .string (str l), .pointer (some ⟨gc, 0, none⟩), .pointer (some ⟨gs, 0, none⟩)] w fun ev w' => ev = .returned (.int .i64 0) ∧ Crs B gc w' (addL (L0 ++ [x]) l) ∧ Below B w w' ∧ St9 w w' := by
  obtain ⟨v, V, R, O, hV, hS⟩ := h.ex
  have P := hid0 (prefix_any l [61, 61] w)
  have hd' : ([61, 61] : Bs).isPrefixOf l = false := hd
  rw [hd'] at P
  have c24 : w.cell? ⟨gc, 0, none⟩ = some v := R.cell 0
  have cs : w.cell? ⟨gs, 0, none⟩ = some (.string (str s)) := hrs.cell 0
  obtain ⟨g, cap, rfl⟩ : ∃ g cap, v = .slice (some ⟨g, 0, none⟩) (L0 ++ [x]).length cap := by
    rcases O.2 with ⟨_, h0⟩ | ⟨g, cap, cur, e, _⟩
    · simp at h0
    · exact ⟨g, cap, e⟩
  have ct : w.cell? ⟨g, L0.length * 3 + 2, none⟩ = some (.string (str x.text)) := by
    have e := (svs_get (L0 ++ [x]) V L0.length hV (by simp)).2.2
    have := own_range O _ _ e
    simpa [List.getD] using this
  have hgc : g ≠ gc := own_ne O R (by decide) g rfl
  have fz : w.frozen? ⟨g, L0.length * 3 + 2, none⟩ = false := by
    rcases O.2 with ⟨e, _⟩ | ⟨g', cap', cur, e, _, hg, _⟩
    · cases e
    · cases e; simp [World.frozen?, hg]
  have hn : (L0 ++ [x]).length = L0.length + 1 := by simp
  have hx := str_mid s (p - x.text.length) (p + l.length)
  rw [show p + l.length - (p - x.text.length) = x.text.length + l.length by omega, htx] at hx
  have hsz := str_size s
  have htz := str_size x.text
  have hlz := str_size l
  have HF : Hid (∀ y, Below w.heap.size w y → Crs B gc (y.setCell ⟨g, L0.length * 3 + 2, none⟩ (.string (str (x.text ++ l)))) (addL (L0 ++ [x]) l) ∧ Below B w (y.setCell ⟨g, L0.length * 3 + 2, none⟩ (.string (str (x.text ++ l)))) ∧ St9 w (y.setCell ⟨g, L0.length * 3 + 2, none⟩ (.string (str (x.text ++ l))))) := by
    intro y hy
    have o1 := own_past' O hy
    have r1 := R.below hy R.lt
    have hg : ∃ cur, Row y g 43 cur := by
      obtain ⟨c, hc⟩ := own_type o1 g rfl
      exact ⟨c.toList, ⟨by simpa using hc⟩⟩
    obtain ⟨cur, rg⟩ := hg
    have hBg := (o1.lt g rfl).1
    have s1 : St9 w (y.setCell ⟨g, L0.length * 3 + 2, none⟩ (.string (str (x.text ++ l)))) := (St9.of hy).trans (St9.setCell rg (by decide))
    refine ⟨⟨_, V, r1.other (Ne.symm hgc) _, ?_, by rw [addL_len]; exact hV, fun i hi => ?_⟩, (hy.mono (by have := (O.lt g rfl); omega)).setCell (p := ⟨g, L0.length * 3 + 2, none⟩) hBg _, s1⟩
    · rw [addL_snoc, svs_text L0 V x _ hV]
      have := own_set (j := L0.length * 3 + 2) o1 (.string (str (x.text ++ l)))
      simpa using this
    · rw [addL_len] at hi
      have := s1.s9 (hS i hi)
      have e : ((addL (L0 ++ [x]) l).getD i Src.zero).deps = ((L0 ++ [x]).getD i Src.zero).deps := by
        rw [addL_snoc]
        simp at hi
        rcases Nat.lt_or_ge i L0.length with h' | h'
        · simp [List.getD, List.getElem?_append_left h']
        · obtain rfl : i = L0.length := by omega
          simp [List.getD]
      rw [e]; exact this
  rw [hn] at c24
  clear h R O hS hd hd' hrs htx hV
  have i1 : (0 : Int) < ((L0.length + 1 : Nat) : Int) := by omega
  generalize str s = S at *
  generalize str x.text = T at *
  generalize str (x.text ++ l) = T2 at *
  generalize str l = SL at *
  generalize x.text.length = tl at *
  generalize hll : l.length = ll at *
  clear hll
  have a1 : (0 : Int) ≤ (p : Int) - (tl : Int) := by omega
  have a2 : (p : Int) - (tl : Int) ≤ (p : Int) + (ll : Int) := by omega
  have a3 : (p : Int) + (ll : Int) ≤ (S.size : Int) := by omega
  have a4 : ((p : Int) - (tl : Int)).toNat = p - tl := by omega
  have a5 : ((p : Int) + (ll : Int)).toNat = p + ll := by omega
  have a6 : (0 : Int) ≤ (p : Int) + (ll : Int) := by omega
  have a7 : IntKind.i64.wrap ((p : Int) - (tl : Int)) = (p : Int) - (tl : Int) := by rw [IntKind.wrap_i64]; omega
  have a8 : IntKind.i64.wrap ((p : Int) + (ll : Int)) = (p : Int) + (ll : Int) := by rw [IntKind.wrap_i64]; omega
  go_enter Tryd.func29, Tryd.ntmps29
  go_wp2_with fail
  refine P.out.mono ?_
  rintro ev w1 ⟨rfl, hw1⟩
  rw [hw1]
  clear hw1 w1 P
  go_wp2_with fail
  go_region_with (fail)
  all_goals
    go_wp2_with fail
    obtain ⟨f1, f2, f3⟩ := HF.out w (Below.refl _ _)
    go_ret
    exact ⟨rfl, f1.drew, f2.drew, f3.trans (St9.of (Below.refl _ _).drew)⟩
set_option maxHeartbeats 2000000 in
theorem clo_none (B gc gs : Nat) (w : World) (l : Bs) (p : Nat) (h : Crs B gc w []) (hd : isHd l = false) :
    Calls Tryd.prog 29 #[.int .i64 (p : Int), .string (str l), .pointer (some ⟨gc, 0, none⟩), .pointer (some ⟨gs, 0, none⟩)] w fun ev w' => ev = .returned (.int .i64 (if l = [10] then 0 else 40)) ∧ w' = w := by
  obtain ⟨v, V, R, O, hV, hS⟩ := h.ex
  have P := hid0 (prefix_any l [61, 61] w)
  have hd' : ([61, 61] : Bs).isPrefixOf l = false := hd
  rw [hd'] at P
  have c24 : w.cell? ⟨gc, 0, none⟩ = some v := R.cell 0
  obtain ⟨va, vc, rfl⟩ := own_slice O
  have hb : ((str l).toList == [10]) = decide (l = [10]) := by
    have := str_beq l [10]
    have e : (str [10]).toList = [10] := by unfold str; rw [ByteArray.toList_mk]
    rwa [e] at this
  clear h R O hS hd hd' hV
  by_cases he : l = [10]
  · rw [decide_eq_true he] at hb
    rw [if_pos he]
    generalize str l = S at *
    clear he
    go_enter Tryd.func29, Tryd.ntmps29
    go_wp2_with fail
    refine P.out.mono ?_
    rintro ev w1 ⟨rfl, hw1⟩
    rw [hw1]
    clear hw1 w1 P
    go_wp2_with fail
    go_ret
    exact ⟨rfl, rfl⟩
  · rw [decide_eq_false he] at hb
    rw [if_neg he]
    generalize str l = S at *
    clear he
    go_enter Tryd.func29, Tryd.ntmps29
    go_wp2_with fail
    refine P.out.mono ?_
    rintro ev w1 ⟨rfl, hw1⟩
    rw [hw1]
    clear hw1 w1 P
    go_wp2_with fail
    go_ret
    exact ⟨rfl, rfl⟩
end Go.Proofs.YtmfdmpfeoppnfaaDoor
