/-
  A head's line read: its crate, and its error's number.
-/
import Derived.Test.YtmfdmpfeoppnfaaDoorApp
namespace Go.Proofs.YtmfdmpfeoppnfaaDoor
open Go.RowKit

/-- A head's error number. -/
def codeF (L : List Src) : Option (Bs × List Bs) → Nat
  | none => 40
  | some (n, ds) => if 64 ≤ L.length ∨ 64 < ds.length then 5 else if n ∈ L.map (·.name) ∨ ¬ (n :: ds).Nodup then 23 else 0

theorem codeF_some (L : List Src) (n : Bs) (ds : List Bs) : codeF L (some (n, ds)) = if 64 ≤ L.length ∨ 64 < ds.length then 5 else if n ∈ L.map (·.name) ∨ ¬ (n :: ds).Nodup then 23 else 0 := rfl
theorem results31_row (tmps : Array Value) (w : World) (g : Nat) (cs : Array Value) (b : Value) (hs : cs.size = 3) (hp : tmps.getD 4 undef = .pointer (some ⟨g, 0, none⟩)) (hb : tmps.getD 5 undef = b) (hg : w.heap[g]? = some (.cells cs 43 (0, 0))) :
    (results Tryd.f31 tmps).run Tryd.prog w = .ok (.tuple #[.agg cs, b]) w := by
  have hp' : tmps[4]?.getD undef = .pointer (some ⟨g, 0, none⟩) := by simpa using hp
  have hb' : tmps[5]?.getD undef = b := by simpa using hb
  have hi : (Tryd.prog.info? 43).map (·.size) = some cs.size := by rw [hs]; exact Tryd.info43
  simp [results, Tryd.results31, hp', hb', asAddr, run_loadVar_row w g 43 43 cs (0, 0) _ hg Tryd.underlying43 rfl hi]
theorem S9.one {w : World} {v : Value} {D : List Bs} (h : S9 w v D) : v.oneCell' = true := by
  rcases h.shape with ⟨rfl, _⟩ | ⟨g, rfl, _⟩ <;> rfl
theorem S9.slice {w : World} {v : Value} {D : List Bs} (h : S9 w v D) : ∃ ao, v = .slice ao D.length D.length := by
  rcases h.shape with ⟨rfl, rfl⟩ | ⟨g, rfl, _⟩
  · exact ⟨_, rfl⟩
  · exact ⟨_, rfl⟩

set_option maxHeartbeats 8000000 in
set_option maxRecDepth 20000 in
theorem readHead_any (l : Bs) (hl : l.length ≤ 4294967279) (w : World) (m : Int) (hm : w.cell? ⟨0, 0, none⟩ = some (.int .i64 m)) (v : Value) (L : List Src) (h : Srs w v L) (hL : L.length ≤ 64) :
    Calls Tryd.prog 31 #[.string (str l), v] w fun ev w' => ∃ dv, ev = .returned (.tuple #[.agg #[.string (str (cutName (stripN l))), dv, .string ⟨#[]⟩], .int .i64 (codeF L (headF (stripN l)) : Int)]) ∧ S9 w' dv (cutDeps (stripN l)) ∧ Below w.heap.size w w' := by
  have ST := hid0 (strip_any l (by omega))
  have hsl : (stripN l).length ≤ 4294967279 := by unfold stripN; split <;> (try simp) <;> omega
  have CH := hid0 (cutHead_any (stripN l) hsl (w.alloc (.cells #[.string ⟨#[]⟩, .slice none 0 0, .string ⟨#[]⟩] 43)) m (Below.cellOf ((Below.refl _ _).alloc (Nat.le_refl _) _) hm))
  have hdl := cutDeps_len (stripN l)
  rw [← cut_head]
  generalize stripN l = x at *
  generalize cutName x = n at *
  generalize cutDeps x = ds at *
  generalize cutIs x = is at *
  have HS := hid0 h
  obtain ⟨ao, cap, rfl, h1, h2, -⟩ := h.shape
  have HB0 : Hid (Below w.heap.size w (w.alloc (.cells #[.string ⟨#[]⟩, .slice none 0 0, .string ⟨#[]⟩] 43))) := (Below.refl _ _).alloc (Nat.le_refl _) _
  have HR0 : Hid (Row (w.alloc (.cells #[.string ⟨#[]⟩, .slice none 0 0, .string ⟨#[]⟩] 43)) w.heap.size 43 [.string ⟨#[]⟩, .slice none 0 0, .string ⟨#[]⟩]) := Row.new w 43 _
  -- what lies there once the head is cut
  have HW : Hid (∀ w2 dv, S9 w2 dv ds → Below (w.alloc (.cells #[.string ⟨#[]⟩, .slice none 0 0, .string ⟨#[]⟩] 43)).heap.size (w.alloc (.cells #[.string ⟨#[]⟩, .slice none 0 0, .string ⟨#[]⟩] 43)) w2 →
      (w2.alloc (.cells #[.string ⟨#[]⟩, .slice none 0 0, .string ⟨#[]⟩] 43)).heap[w2.heap.size]? = some (.cells #[.string ⟨#[]⟩, .slice none 0 0, .string ⟨#[]⟩] 43 (0, 0)) ∧
      (#[Value.string (str n), dv, Value.string ⟨#[]⟩].all (·.oneCell')) = true ∧
      ∃ W, W = (w2.alloc (.cells #[.string ⟨#[]⟩, .slice none 0 0, .string ⟨#[]⟩] 43)).setRow w2.heap.size #[.string (str n), dv, .string ⟨#[]⟩] ∧ Row W w2.heap.size 43 [.string (str n), dv, .string ⟨#[]⟩] ∧ Row W w.heap.size 43 [.string ⟨#[]⟩, .slice none 0 0, .string ⟨#[]⟩] ∧ S9 W dv ds ∧ Below w.heap.size w W ∧ w.heap.size < w2.heap.size) := by
    intro w2 dv hS hB
    have hA : Below w2.heap.size w2 (w2.alloc (.cells #[.string ⟨#[]⟩, .slice none 0 0, .string ⟨#[]⟩] 43)) := (Below.refl _ _).alloc (Nat.le_refl _) _
    have hr := Row.new w2 43 [.string ⟨#[]⟩, .slice none 0 0, .string ⟨#[]⟩]
    have hr0 := HR0.out.below hB HR0.out.lt
    have hlt := hr0.lt
    refine ⟨hr.heap, by obtain ⟨ao', e⟩ := hS.slice; simp [Value.oneCell', e], _, rfl, hr.setRow _, (hr0.below hA hlt).setRow_other (by omega) _, St9.s9 (St9.setRow hr (by decide) _) (hS.below hA), below_setRow (nextB HB0.out (nextB hB hA)) (by omega) _, hlt⟩
  clear h hm
  -- how it ends
  have HE : Hid (∀ (W : World) (dv : Value), Row W w.heap.size 43 [.string ⟨#[]⟩, .slice none 0 0, .string ⟨#[]⟩] → S9 W dv ds → Below w.heap.size w W → (W.setRow w.heap.size #[.string (str n), dv, .string ⟨#[]⟩]).heap[w.heap.size]? = some (.cells #[.string (str n), dv, .string ⟨#[]⟩] 43 (0, 0)) ∧ S9 (W.setRow w.heap.size #[.string (str n), dv, .string ⟨#[]⟩]) dv ds ∧ Below w.heap.size w (W.setRow w.heap.size #[.string (str n), dv, .string ⟨#[]⟩])) := by
    intro W dv h1 h2 h3
    exact ⟨(h1.setRow [.string (str n), dv, .string ⟨#[]⟩]).heap, St9.s9 (St9.setRow h1 (by decide) _) h2, below_setRow h3 (Nat.le_refl _) _⟩
  cases is
  · simp only [Bool.false_eq_true, if_false, codeF]
    go_enter Tryd.func31, Tryd.ntmps31
    go_wp2_with fail
    refine (ST.out _).mono ?_
    rintro ev w1 ⟨rfl, rfl⟩
    go_wp2_with fail
    refine CH.out.mono ?_
    rintro ev w2 ⟨dv, rfl, hS, hB⟩
    obtain ⟨G1, G2, W, hW, R6, R4, SW, BW, hlt⟩ := HW.out w2 dv hS hB
    have c0 : W.cell? ⟨w2.heap.size, 0, none⟩ = some (.string (str n)) := R6.cell 0
    have c1 : W.cell? ⟨w2.heap.size, 1, none⟩ = some dv := R6.cell 1
    have c2 : W.cell? ⟨w2.heap.size, 2, none⟩ = some (.string ⟨#[]⟩) := R6.cell 2
    have G3 := R4.heap
    obtain ⟨F1, F2, F3⟩ := HE.out W dv R4 SW BW
    have A2 := aside0 F2
    have A3 := aside0 F3
    have AW := aside0 hW
    clear HW HE F2 F3 hS hB hW ST CH HR0 HB0
    go_wp2_with (first | (refine wpList_store_row rfl 43 _ _ rfl w2.heap.size #[.string (str n), _, .string ⟨#[]⟩] rfl rfl 43 _ G1 Tryd.info43 rfl G2 ?_; rw [← AW.out]) | (refine wpList_store_row rfl 43 _ _ rfl w.heap.size #[.string (str n), _, .string ⟨#[]⟩] rfl rfl 43 _ G3 Tryd.info43 rfl G2 ?_))
    refine bodyPost_ret (v := .tuple #[.agg #[.string (str n), dv, .string ⟨#[]⟩], .int .i64 40]) (results31_row _ _ w.heap.size _ _ rfl rfl rfl F1) rfl ⟨_, ?_, A2.out, A3.out⟩
    rfl
  · simp only [if_true]
    by_cases hA : L.length = 64
    · have HC : Hid (codeF L (some (n, ds)) = 5) := by show codeF L (some (n, ds)) = 5; rw [codeF_some, if_pos (by omega)]
      have i1 : ((L.length : Int) == 64) = true := by simp; omega
      go_enter Tryd.func31, Tryd.ntmps31
      go_wp2_with fail
      refine (ST.out _).mono ?_
      rintro ev w1 ⟨rfl, rfl⟩
      go_wp2_with fail
      refine CH.out.mono ?_
      rintro ev w2 ⟨dv, rfl, hS, hB⟩
      obtain ⟨G1, G2, W, hW, R6, R4, SW, BW, hlt⟩ := HW.out w2 dv hS hB
      obtain ⟨dao, rfl⟩ := hS.slice
      have HY : Hid (∀ y, Below W.heap.size W y → y.cell? ⟨w2.heap.size, 0, none⟩ = some (.string (str n)) ∧ y.cell? ⟨w2.heap.size, 1, none⟩ = some (.slice dao ds.length ds.length) ∧ y.cell? ⟨w2.heap.size, 2, none⟩ = some (.string ⟨#[]⟩) ∧ y.heap[w.heap.size]? = some (.cells #[.string ⟨#[]⟩, .slice none 0 0, .string ⟨#[]⟩] 43 (0, 0)) ∧ S9 y (.slice dao ds.length ds.length) ds ∧ Srs y (.slice ao L.length cap) L ∧ Below w.heap.size w y ∧ (y.setRow w.heap.size #[.string (str n), .slice dao ds.length ds.length, .string ⟨#[]⟩]).heap[w.heap.size]? = some (.cells #[.string (str n), .slice dao ds.length ds.length, .string ⟨#[]⟩] 43 (0, 0)) ∧ S9 (y.setRow w.heap.size #[.string (str n), .slice dao ds.length ds.length, .string ⟨#[]⟩]) (.slice dao ds.length ds.length) ds ∧ Below w.heap.size w (y.setRow w.heap.size #[.string (str n), .slice dao ds.length ds.length, .string ⟨#[]⟩])) := by
        intro y hy
        have r6 := R6.below hy R6.lt
        have r4 := R4.below hy R4.lt
        have by1 := nextB BW hy
        obtain ⟨F1, F2, F3⟩ := HE.out y _ r4 (SW.below hy) by1
        exact ⟨r6.cell 0, r6.cell 1, r6.cell 2, r4.heap, SW.below hy, HS.out.below by1, by1, F1, F2, F3⟩
      have AW := aside0 hW
      clear HW HE hS hB hW ST CH HR0 HB0 R6 R4 SW BW hlt HS
      obtain ⟨c0, c1, c2, G3, -, -, -, F1, F2, F3⟩ := HY.out W (Below.refl _ _)
      have A2 := aside0 F2
      have A3 := aside0 F3
      clear F2 F3 HY
      go_wp2_with (first | (refine wpList_store_row rfl 43 _ _ rfl w2.heap.size #[.string (str n), _, .string ⟨#[]⟩] rfl rfl 43 _ G1 Tryd.info43 rfl G2 ?_; rw [← AW.out]) | (refine wpList_store_row rfl 43 _ _ rfl w.heap.size #[.string (str n), _, .string ⟨#[]⟩] rfl rfl 43 _ G3 Tryd.info43 rfl G2 ?_))
      refine bodyPost_ret (v := .tuple #[.agg #[.string (str n), .slice dao ds.length ds.length, .string ⟨#[]⟩], .int .i64 (5 : Nat)]) (results31_row _ _ w.heap.size _ _ rfl rfl rfl F1) rfl ⟨_, ?_, A2.out, A3.out⟩
      rw [HC.out]; try rfl
    · have i1 : ((L.length : Int) == 64) = false := by simp; omega
      by_cases hD : 64 < ds.length
      · have HC : Hid (codeF L (some (n, ds)) = 5) := by show codeF L (some (n, ds)) = 5; rw [codeF_some, if_pos (by omega)]
        have i2 : (64 : Int) < (ds.length : Int) := by omega
        go_enter Tryd.func31, Tryd.ntmps31
        go_wp2_with fail
        refine (ST.out _).mono ?_
        rintro ev w1 ⟨rfl, rfl⟩
        go_wp2_with fail
        refine CH.out.mono ?_
        rintro ev w2 ⟨dv, rfl, hS, hB⟩
        obtain ⟨G1, G2, W, hW, R6, R4, SW, BW, hlt⟩ := HW.out w2 dv hS hB
        obtain ⟨dao, rfl⟩ := hS.slice
        have HY : Hid (∀ y, Below W.heap.size W y → y.cell? ⟨w2.heap.size, 0, none⟩ = some (.string (str n)) ∧ y.cell? ⟨w2.heap.size, 1, none⟩ = some (.slice dao ds.length ds.length) ∧ y.cell? ⟨w2.heap.size, 2, none⟩ = some (.string ⟨#[]⟩) ∧ y.heap[w.heap.size]? = some (.cells #[.string ⟨#[]⟩, .slice none 0 0, .string ⟨#[]⟩] 43 (0, 0)) ∧ S9 y (.slice dao ds.length ds.length) ds ∧ Srs y (.slice ao L.length cap) L ∧ Below w.heap.size w y ∧ (y.setRow w.heap.size #[.string (str n), .slice dao ds.length ds.length, .string ⟨#[]⟩]).heap[w.heap.size]? = some (.cells #[.string (str n), .slice dao ds.length ds.length, .string ⟨#[]⟩] 43 (0, 0)) ∧ S9 (y.setRow w.heap.size #[.string (str n), .slice dao ds.length ds.length, .string ⟨#[]⟩]) (.slice dao ds.length ds.length) ds ∧ Below w.heap.size w (y.setRow w.heap.size #[.string (str n), .slice dao ds.length ds.length, .string ⟨#[]⟩])) := by
          intro y hy
          have r6 := R6.below hy R6.lt
          have r4 := R4.below hy R4.lt
          have by1 := nextB BW hy
          obtain ⟨F1, F2, F3⟩ := HE.out y _ r4 (SW.below hy) by1
          exact ⟨r6.cell 0, r6.cell 1, r6.cell 2, r4.heap, SW.below hy, HS.out.below by1, by1, F1, F2, F3⟩
        have AW := aside0 hW
        clear HW HE hS hB hW ST CH HR0 HB0 R6 R4 SW BW hlt HS
        obtain ⟨c0, c1, c2, G3, -, -, -, F1, F2, F3⟩ := HY.out W (Below.refl _ _)
        have A2 := aside0 F2
        have A3 := aside0 F3
        clear F2 F3 HY
        go_wp2_with (first | (refine wpList_store_row rfl 43 _ _ rfl w2.heap.size #[.string (str n), _, .string ⟨#[]⟩] rfl rfl 43 _ G1 Tryd.info43 rfl G2 ?_; rw [← AW.out]) | (refine wpList_store_row rfl 43 _ _ rfl w.heap.size #[.string (str n), _, .string ⟨#[]⟩] rfl rfl 43 _ G3 Tryd.info43 rfl G2 ?_))
        refine bodyPost_ret (v := .tuple #[.agg #[.string (str n), .slice dao ds.length ds.length, .string ⟨#[]⟩], .int .i64 (5 : Nat)]) (results31_row _ _ w.heap.size _ _ rfl rfl rfl F1) rfl ⟨_, ?_, A2.out, A3.out⟩
        rw [HC.out]; try rfl
      · have i2 : ¬ (64 : Int) < (ds.length : Int) := by omega
        have AV := hid0 (above_any n)
        by_cases hM : n ∈ L.map (·.name)
        · have HC : Hid (codeF L (some (n, ds)) = 23) := by show codeF L (some (n, ds)) = 23; rw [codeF_some, if_neg (by omega), if_pos (.inl hM)]
          go_enter Tryd.func31, Tryd.ntmps31
          go_wp2_with fail
          refine (ST.out _).mono ?_
          rintro ev w1 ⟨rfl, rfl⟩
          go_wp2_with fail
          refine CH.out.mono ?_
          rintro ev w2 ⟨dv, rfl, hS, hB⟩
          obtain ⟨G1, G2, W, hW, R6, R4, SW, BW, hlt⟩ := HW.out w2 dv hS hB
          obtain ⟨dao, rfl⟩ := hS.slice
          have HY : Hid (∀ y, Below W.heap.size W y → y.cell? ⟨w2.heap.size, 0, none⟩ = some (.string (str n)) ∧ y.cell? ⟨w2.heap.size, 1, none⟩ = some (.slice dao ds.length ds.length) ∧ y.cell? ⟨w2.heap.size, 2, none⟩ = some (.string ⟨#[]⟩) ∧ y.heap[w.heap.size]? = some (.cells #[.string ⟨#[]⟩, .slice none 0 0, .string ⟨#[]⟩] 43 (0, 0)) ∧ S9 y (.slice dao ds.length ds.length) ds ∧ Srs y (.slice ao L.length cap) L ∧ Below w.heap.size w y ∧ (y.setRow w.heap.size #[.string (str n), .slice dao ds.length ds.length, .string ⟨#[]⟩]).heap[w.heap.size]? = some (.cells #[.string (str n), .slice dao ds.length ds.length, .string ⟨#[]⟩] 43 (0, 0)) ∧ S9 (y.setRow w.heap.size #[.string (str n), .slice dao ds.length ds.length, .string ⟨#[]⟩]) (.slice dao ds.length ds.length) ds ∧ Below w.heap.size w (y.setRow w.heap.size #[.string (str n), .slice dao ds.length ds.length, .string ⟨#[]⟩])) := by
            intro y hy
            have r6 := R6.below hy R6.lt
            have r4 := R4.below hy R4.lt
            have by1 := nextB BW hy
            obtain ⟨F1, F2, F3⟩ := HE.out y _ r4 (SW.below hy) by1
            exact ⟨r6.cell 0, r6.cell 1, r6.cell 2, r4.heap, SW.below hy, HS.out.below by1, by1, F1, F2, F3⟩
          have AW := aside0 hW
          clear HW HE hS hB hW ST CH HR0 HB0 R6 R4 SW BW hlt HS
          obtain ⟨c0, c1, c2, -, -, qs, -, -, -, -⟩ := HY.out W (Below.refl _ _)
          have AV2 := hid0 (AV.out W _ L qs)
          rw [decide_eq_true hM] at AV2
          clear qs AV hM
          go_wp2_with (first | (refine wpList_store_row rfl 43 _ _ rfl w2.heap.size #[.string (str n), _, .string ⟨#[]⟩] rfl rfl 43 _ G1 Tryd.info43 rfl G2 ?_; rw [← AW.out]))
          refine AV2.out.mono ?_
          rintro ev w5 ⟨rfl, hb5⟩
          clear AV2 c0 c1 c2
          obtain ⟨c0, c1, c2, G3, -, -, -, F1, F2, F3⟩ := HY.out w5 (hb5)
          have A2 := aside0 F2
          have A3 := aside0 F3
          clear F2 F3 HY
          clear hb5
          go_wp2_with (first | (refine wpList_store_row rfl 43 _ _ rfl w.heap.size #[.string (str n), _, .string ⟨#[]⟩] rfl rfl 43 _ G3 Tryd.info43 rfl G2 ?_))
          refine bodyPost_ret (v := .tuple #[.agg #[.string (str n), .slice dao ds.length ds.length, .string ⟨#[]⟩], .int .i64 (23 : Nat)]) (results31_row _ _ w.heap.size _ _ rfl rfl rfl F1) rfl ⟨_, ?_, A2.out, A3.out⟩
          rw [HC.out]; try rfl
        · obtain ⟨b, hb⟩ : ∃ b, (!decide (n :: ds).Nodup) = b := ⟨_, rfl⟩
          have HC : Hid (codeF L (some (n, ds)) = if b then 23 else 0) := by
            show codeF L (some (n, ds)) = if b then 23 else 0
            rw [codeF_some, if_neg (by omega)]
            cases b
            · simp at hb
              rw [if_neg (fun h => by
                rcases h with h | h
                · exact hM h
                · simp at h; exact absurd hb.2 (h hb.1))]
              simp
            · have hb' : ¬ (n :: ds).Nodup := by
                intro hh
                rw [decide_eq_true hh] at hb
                cases hb
              rw [if_pos (.inr hb')]
              simp
          have TW := hid0 (fun (y : World) (v : Value) => twice_any y v (n :: ds))
          rw [hb] at TW
          clear hb
          go_enter Tryd.func31, Tryd.ntmps31
          go_wp2_with fail
          refine (ST.out _).mono ?_
          rintro ev w1 ⟨rfl, rfl⟩
          go_wp2_with fail
          refine CH.out.mono ?_
          rintro ev w2 ⟨dv, rfl, hS, hB⟩
          obtain ⟨G1, G2, W, hW, R6, R4, SW, BW, hlt⟩ := HW.out w2 dv hS hB
          obtain ⟨dao, rfl⟩ := hS.slice
          have HY : Hid (∀ y, Below W.heap.size W y → y.cell? ⟨w2.heap.size, 0, none⟩ = some (.string (str n)) ∧ y.cell? ⟨w2.heap.size, 1, none⟩ = some (.slice dao ds.length ds.length) ∧ y.cell? ⟨w2.heap.size, 2, none⟩ = some (.string ⟨#[]⟩) ∧ y.heap[w.heap.size]? = some (.cells #[.string ⟨#[]⟩, .slice none 0 0, .string ⟨#[]⟩] 43 (0, 0)) ∧ S9 y (.slice dao ds.length ds.length) ds ∧ Srs y (.slice ao L.length cap) L ∧ Below w.heap.size w y ∧ (y.setRow w.heap.size #[.string (str n), .slice dao ds.length ds.length, .string ⟨#[]⟩]).heap[w.heap.size]? = some (.cells #[.string (str n), .slice dao ds.length ds.length, .string ⟨#[]⟩] 43 (0, 0)) ∧ S9 (y.setRow w.heap.size #[.string (str n), .slice dao ds.length ds.length, .string ⟨#[]⟩]) (.slice dao ds.length ds.length) ds ∧ Below w.heap.size w (y.setRow w.heap.size #[.string (str n), .slice dao ds.length ds.length, .string ⟨#[]⟩])) := by
            intro y hy
            have r6 := R6.below hy R6.lt
            have r4 := R4.below hy R4.lt
            have by1 := nextB BW hy
            obtain ⟨F1, F2, F3⟩ := HE.out y _ r4 (SW.below hy) by1
            exact ⟨r6.cell 0, r6.cell 1, r6.cell 2, r4.heap, SW.below hy, HS.out.below by1, by1, F1, F2, F3⟩
          have AW := aside0 hW
          clear HW HE hS hB hW ST CH HR0 HB0 R6 R4 SW BW hlt HS
          obtain ⟨c0, c1, c2, -, -, qs, -, -, -, -⟩ := HY.out W (Below.refl _ _)
          have AV2 := hid0 (AV.out W _ L qs)
          rw [decide_eq_false hM] at AV2
          clear qs AV hM
          go_wp2_with (first | (refine wpList_store_row rfl 43 _ _ rfl w2.heap.size #[.string (str n), _, .string ⟨#[]⟩] rfl rfl 43 _ G1 Tryd.info43 rfl G2 ?_; rw [← AW.out]))
          refine AV2.out.mono ?_
          rintro ev w5 ⟨rfl, hb5⟩
          clear AV2 c0 c1 c2
          obtain ⟨c0, c1, c2, -, sq, -, -, -, -, -⟩ := HY.out w5 hb5
          have hB5 : Below w5.heap.size w5 (w5.alloc (.cells #[.string (str n)] 9)) := (Below.refl _ _).alloc (Nat.le_refl _) _
          have d0 := Below.cellOf hB5 c0
          have d1 := Below.cellOf hB5 c1
          have OW : (w5.alloc (.cells #[.string (str n)] 9)).ownsRow w5.heap.size 9 1 (.slice (some ⟨w5.heap.size, 0, none⟩) 1 1) [n].length (sts [n]) := ⟨rfl, .inr ⟨w5.heap.size, 1, #[.string (str n)], rfl, Nat.le_refl _, (Row.new w5 9 [.string (str n)]).heap, Nat.le_refl _, by unfold maxLen; omega, rfl, rfl⟩⟩
          have SS := (sq.below hB5).ss
          have hz5 : w5.heap.size ≤ (w5.alloc (.cells #[.string (str n)] 9)).heap.size := hB5.size
          have A5 := aside0 hb5
          have AB5 := aside0 hB5
          clear hb5 hB5 sq
          go_wp2_with (first | (refine app22 rfl _ _ rfl rfl OW hz5 rfl SS (by simp; omega) ?_; intro v7 w7 hown7 hbel7; have T7 := hid0 (TW.out w7 v7 (Ss.ofOwn hown7 (by simp; omega))); have A7 := aside0 hbel7; clear hown7 hbel7))
          refine T7.out.mono ?_
          rintro ev w8 ⟨rfl, rfl⟩
          clear T7 TW OW SS hz5 d0 d1 c0 c1 c2
          obtain ⟨c0, c1, c2, G3, -, -, -, F1, F2, F3⟩ := HY.out w8 (nextB A5.out (AB5.out.trans A7.out))
          have A2 := aside0 F2
          have A3 := aside0 F3
          clear F2 F3 HY
          cases b
          · go_wp2_with (first | (refine wpList_store_row rfl 43 _ _ rfl w.heap.size #[.string (str n), _, .string ⟨#[]⟩] rfl rfl 43 _ G3 Tryd.info43 rfl G2 ?_))
            refine bodyPost_ret (v := .tuple #[.agg #[.string (str n), .slice dao ds.length ds.length, .string ⟨#[]⟩], .int .i64 (0 : Nat)]) (results31_row _ _ w.heap.size _ _ rfl rfl rfl F1) rfl ⟨_, ?_, A2.out, A3.out⟩
            rw [HC.out]; try rfl
          · go_wp2_with (first | (refine wpList_store_row rfl 43 _ _ rfl w.heap.size #[.string (str n), _, .string ⟨#[]⟩] rfl rfl 43 _ G3 Tryd.info43 rfl G2 ?_))
            refine bodyPost_ret (v := .tuple #[.agg #[.string (str n), .slice dao ds.length ds.length, .string ⟨#[]⟩], .int .i64 (23 : Nat)]) (results31_row _ _ w.heap.size _ _ rfl rfl rfl F1) rfl ⟨_, ?_, A2.out, A3.out⟩
            rw [HC.out]; try rfl
end Go.Proofs.YtmfdmpfeoppnfaaDoor
