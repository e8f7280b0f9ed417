/-
  Where crates stand, by their names.
-/
import Derived.Test.YtmfdmpfeoppnfaaDoorMap
namespace Go.Proofs.YtmfdmpfeoppnfaaDoor
open Go.RowKit Go.Maps

theorem below_by {w w' : World} (h : Below w.heap.size w w') : w.grownBy w' none := ⟨h.os, h.tape, h.output, h.size, fun k hk _ => h.block k hk⟩
theorem Mp.below {w w' : World} {b : Nat} {m : List (List UInt8 × Value)} (h : Mp w b m) (hb : Below w.heap.size w w') : Mp w' b m := h.kept (below_by hb) (by simp)
theorem zero3 (w : World) : (zeroValue 3).run Tryd.prog w = .ok (.int .i64 0) w := Tryd.zeroValue3 w
/-- What the map of places holds. -/
structure Pls (N : List Bs) (k : Nat) (m : List (List UInt8 × Value)) : Prop where
  keys : ∀ n, n ∈ m.map (·.1) ↔ n ∈ N.take k
  vals : ∀ p ∈ m, p.2 = .int .i64 ((N.idxOf p.1 : Nat) : Int)
theorem Pls.find {N : List Bs} {k : Nat} {m : List (List UInt8 × Value)} (h : Pls N k m) {n : Bs} (hn : n ∈ N.take k) (z : Value) : findV m n z = .int .i64 ((N.idxOf n : Nat) : Int) := by
  obtain ⟨v, hv, hf⟩ := findV_in ((h.keys n).2 hn)
  rw [hf z]; exact h.vals _ hv
theorem idxOf_first {N : List Bs} {k : Nat} (hk : k < N.length) (h : N[k] ∉ N.take k) : N.idxOf N[k] = k := by
  have h1 : N = N.take k ++ N[k] :: N.drop (k + 1) := by
    have := List.take_append_drop k N
    rw [List.drop_eq_getElem_cons hk] at this
    exact this.symm
  have : (N.take k ++ N[k] :: N.drop (k + 1)).idxOf N[k] = k := by
    rw [List.idxOf_append, if_neg h, List.idxOf_cons_self, List.length_take]
    omega
  rw [← h1] at this
  exact this
set_option maxHeartbeats 8000000 in
set_option maxRecDepth 20000 in
theorem places_any (w : World) (v : Value) (L : List Src) (h : Srs w v L) (hL : L.length ≤ 100000) (hlim : ∀ x ∈ L, x.name.length ≤ 140737488355328) :
    Calls Tryd.prog 23 #[v] w fun ev w' => ∃ b, ev = .returned (.map (some b)) ∧ ∃ m, Mp w' b m ∧ Pls (L.map (·.name)) L.length m ∧ Below w.heap.size w w' := by
  obtain ⟨ao, cap, rfl, h1, h2, h3⟩ := h.shape
  have HC := hid0 h3
  have HM : Hid (Mp (w.alloc (.map #[] 0)) w.heap.size []) := Mp.made w
  have HB : Hid (Below w.heap.size w (w.alloc (.map #[] 0))) := (Below.refl _ _).alloc (Nat.le_refl _) _
  have HN : Hid (∀ k, k < L.length → (L.getD k Src.zero).name = (L.map (·.name)).getD k []) := by
    intro k hk
    rw [getD_eq L k _ hk, getD_eq _ k _ (by simpa using hk)]; simp
  have HL : Hid (∀ k, k < L.length → (L.getD k Src.zero).name.length ≤ 140737488355328) := by
    intro k hk
    rw [getD_eq L k _ hk]; exact hlim _ (List.getElem_mem hk)
  clear h h3 hlim
  obtain ⟨n, hn⟩ : ∃ n, n = L.length := ⟨_, rfl⟩
  have AN := aside0 hn
  rw [← hn] at h1 h2 hL HC HN HL ⊢
  generalize hNs : L.map (·.name) = N at *
  have ANN : Aside (N.length = n) := by show N.length = n; rw [← hNs, hn]; simp
  clear hn hNs
  have hmm := @run_makeMap Tryd.prog
  go_enter Tryd.func23, Tryd.ntmps23
  go_wp2_with fail
  go_loopw [11] (fun i wr => ∃ (k : Nat) (m : List (List UInt8 × Value)), k ≤ n ∧ i = .int .i64 k ∧ Mp wr w.heap.size m ∧ m.length ≤ k ∧ Pls N k m ∧ Below w.heap.size w wr) (fun i _ => n - (intOf i).toNat)
  case atStart => exact ⟨0, [], by omega, rfl, HM.out, by simp, ⟨by simp, by simp⟩, HB.out⟩
  case round =>
    obtain ⟨k, m, hk, rfl, hMp, hml, hP, hb⟩ := hrel
    have AM := aside0 hMp
    have AP := aside0 hP
    have AB := aside0 hb
    clear hMp hP hb
    by_cases h3 : k < n
    · have l1 : (k : Int) < (n : Int) := by omega
      obtain ⟨p, o, dv, rfl, q0, q1, q2, qs⟩ := HC.out k h3
      have c0 := Below.cellOf AB.out q0
      have c1 := Below.cellOf AB.out q1
      have c2 := Below.cellOf AB.out q2
      obtain ⟨da, dc, hdv, -⟩ := qs.shape
      have hA : Below wr.heap.size wr (wr.alloc (.cells #[.string ⟨#[]⟩, .slice none 0 0, .string ⟨#[]⟩] 43)) := (Below.refl _ _).alloc (Nat.le_refl _) _
      have G1 := (Row.new wr 43 [.string ⟨#[]⟩, .slice none 0 0, .string ⟨#[]⟩]).heap
      obtain ⟨W, hW⟩ : ∃ W, W = (wr.alloc (.cells #[.string ⟨#[]⟩, .slice none 0 0, .string ⟨#[]⟩] 43)).setRow wr.heap.size #[.string (str (L.getD k Src.zero).name), dv, .string (str (L.getD k Src.zero).text)] := ⟨_, rfl⟩
      have G2 : (#[Value.string (str (L.getD k Src.zero).name), dv, Value.string (str (L.getD k Src.zero).text)].all (·.oneCell')) = true := by simp [Value.oneCell', hdv]
      have RW : Row W wr.heap.size 43 [.string (str (L.getD k Src.zero).name), dv, .string (str (L.getD k Src.zero).text)] := by rw [hW]; exact (Row.new wr 43 [.string ⟨#[]⟩, .slice none 0 0, .string ⟨#[]⟩]).setRow _
      have BW : Below wr.heap.size wr W := by rw [hW]; exact below_setRow hA (Nat.le_refl _) _
      have d0 : W.cell? ⟨wr.heap.size, 0, none⟩ = some (.string (str (L.getD k Src.zero).name)) := RW.cell 0
      have MW := AM.out.below BW
      have hLK := HL.out k h3
      have LK := MW.look (t := 58) (e := 3) Tryd.underlying58 (zero3 W) _ hLK
      have hkN : k < N.length := by rw [ANN.out]; exact h3
      have hname := HN.out k h3
      rw [getD_eq N k [] hkN] at hname
      have AW := aside0 hW
      have ABW := aside0 (nextB AB.out BW)
      clear q0 q1 q2 qs hA hW RW BW hdv HC
      by_cases hin : (L.getD k Src.zero).name ∈ m.map (·.1)
      · rw [decide_eq_true hin] at LK
        have HP' : Hid (Pls N (k + 1) m) := by
          refine ⟨fun x => ?_, AP.out.vals⟩
          rw [AP.out.keys x, List.take_add_one, List.getElem?_eq_getElem hkN]
          simp only [Option.toList_some, List.mem_append, List.mem_singleton]
          constructor
          · exact .inl
          · rintro (h | h)
            · exact h
            · rw [h, ← hname]; exact (AP.out.keys _).1 hin
        have AMW := aside0 MW
        clear hin hname MW
        generalize findV m (L.getD k Src.zero).name (.int .i64 0) = fv at *
        generalize str (L.getD k Src.zero).name = SN at *
        generalize str (L.getD k Src.zero).text = ST at *
        go_wp2_with (first | (refine wpList_store_row rfl 43 _ _ rfl wr.heap.size #[.string SN, dv, .string ST] rfl rfl 43 _ G1 Tryd.info43 rfl G2 ?_; rw [← AW.out]))
        go_roundw
        case rel => exact ⟨k + 1, m, by omega, by go_num, AMW.out, by omega, HP'.out, ABW.out⟩
        case measure => simp [intOf]; omega
      · rw [decide_eq_false hin] at LK
        obtain ⟨w', hrun, hMp', hgr, hsz⟩ := MW.put (t := 58) (e := 3) Tryd.underlying58 (by omega) _ hLK hin (.int .i64 (k : Int))
        have HP' : Hid (Pls N (k + 1) (((L.getD k Src.zero).name, .int .i64 (k : Int)) :: m)) := by
          refine ⟨fun x => ?_, fun q hq => ?_⟩
          · rw [List.map_cons, List.mem_cons, AP.out.keys x, List.take_add_one, List.getElem?_eq_getElem hkN, hname]
            simp only [Option.toList_some, List.mem_append, List.mem_singleton]
            exact Or.comm
          · rcases List.mem_cons.1 hq with rfl | hq
            · have := idxOf_first hkN (fun hm => hin (by rw [hname]; exact (AP.out.keys _).2 hm))
              rw [hname, this]
            · exact AP.out.vals q hq
        have HB' : Hid (Below w.heap.size w w') := ABW.out.trans (below_grown hgr ABW.out.size (fun k e => by cases e; exact Nat.le_refl _))
        have AMW := aside0 hMp'
        clear hin hname MW hMp' hgr hsz
        generalize findV m (L.getD k Src.zero).name (.int .i64 0) = fv at *
        generalize str (L.getD k Src.zero).name = SN at *
        generalize str (L.getD k Src.zero).text = ST at *
        go_wp2_with (first | (refine wpList_store_row rfl 43 _ _ rfl wr.heap.size #[.string SN, dv, .string ST] rfl rfl 43 _ G1 Tryd.info43 rfl G2 ?_; rw [← AW.out]))
        go_roundw
        case rel => exact ⟨k + 1, _, by omega, by go_num, AMW.out, by simp; omega, HP'.out, HB'.out⟩
        case measure => simp [intOf]; omega
    · have l1 : ¬ (k : Int) < (n : Int) := by omega
      obtain rfl : k = n := by omega
      go_wp2_with fail
      go_ret
      exact ⟨_, rfl, m, AM.out, AP.out, AB.out⟩
end Go.Proofs.YtmfdmpfeoppnfaaDoor
