/-
  Clash, as the program has it.
-/
import Derived.Test.YtjnogpcpekheoaaClm
namespace Go.Proofs.Ytjnogpcpekheoaa
open Go.RowKit Go.Maps

/-- What Clash answers. -/
def ClashRet (F : Bys → Bys) (f : Nat → Bys) (n : Nat) (ev : Ending) : Prop := ∃ (a b : Nat) (is : Bool), ev = .returned (.tuple #[.int .i64 (a : Int), .int .i64 (b : Int), .bool is]) ∧ Best F f n a b is
/-- Where clashBySums stands. -/
structure CbRel (w : World) (F : Bys → Bys) (f : Nat → Bys) (k a b : Nat) (is : Bool) (wr : World) : Prop where
  map : Mp wr w.heap.size (fsts F f k)
  best : Best F f k a b is
  ab : a ≤ 12 ∧ b ≤ 12
  below : Below w.heap.size w wr

attribute [local go_sem ↓] Go.wp_at_zero Go.wp_at_succ
set_option maxHeartbeats 8000000 in
set_option maxRecDepth 20000 in
theorem clashBy_any (w : World) (v : Value) (n g : Nat) (f : Nat → Bys) (fv : Nat → Value) (F : Bys → Bys) (hF : ∀ b, (F b).length = 32) (hL : Ls w v n f fv) (hn : n ≤ 12) (hs : ∀ q, q < n → w.rangeAt g (q * 32) (bys (F (f q)))) :
    Calls Try.prog 34 #[v, .slice (some ⟨g, 0, none⟩) n n] w fun ev w' => ClashRet F f n ev ∧ Below w.heap.size w w' := by
  have hmm := @run_makeMap Try.prog
  obtain ⟨ao, cp, rfl⟩ : ∃ ao cp, v = .slice ao n cp := by
    rcases hL.shape with ⟨ao, cp, h, _⟩ | ⟨b, off, cap, h, _⟩ <;> exact ⟨_, _, h⟩
  have A : Aside (Ls w (.slice ao n cp) n f fv) := hL
  have HR : Hid (∀ q, q < n → w.rangeAt g (q * 32) (bys (F (f q)))) := hs
  have HI : Hid (CbRel w F f 0 0 0 false (w.alloc (.map #[] 0))) := ⟨Mp.made w, Best.zero F f, by omega, (Below.refl _ _).alloc (Nat.le_refl _) _⟩
  clear hL hs
  go_enter Try.func34, Try.ntmps34
  go_wp2_with fail
  go_loopw [8, 9, 10, 18] (fun la lb li i wr => ∃ (k a b : Nat) (is : Bool), k ≤ n ∧ i = .int .i64 k ∧ la = .int .i64 a ∧ lb = .int .i64 b ∧ li = .bool is ∧ CbRel w F f k a b is wr) (fun _ _ _ i _ => n - (intOf i).toNat)
  case atStart => exact ⟨0, 0, 0, false, by omega, rfl, rfl, rfl, rfl, HI.out⟩
  case round =>
    obtain ⟨k, a, b, is, hk, rfl, rfl, rfl, rfl, hK⟩ := hrel
    clear HI
    by_cases hkn : k < n
    · have hlt : (k : Int) < (n : Int) := by omega
      have hB := hK.below
      have hrng : wr.rangeAt g (k * 32) (bys (F (f k))) := fun j u hj => by
        have := HR.out k hkn j u hj
        exact (hB.cell (p := ⟨g, k * 32 + j, none⟩) (World.block_lt_of_cell? w _ this)).trans this
      have hLi := info35L (F (f k)) (hF _)
      have hi := size35 (F (f k)) (hF _)
      have hYo : (bys (F (f k))).toArray.all (·.oneCell') = true := all_one (bys_one _)
      have hYz : z25.toArray.size = (bys (F (f k))).toArray.size := by simp [z25, bys_len, hF]
      have hgA := heap_alloc_new wr (.cells z25.toArray 35)
      have hbA : Below wr.heap.size wr (wr.alloc (.cells z25.toArray 35)) := (Below.refl _ _).alloc (Nat.le_refl _) _
      have HLK : Hid (∀ y, Below wr.heap.size wr y → (Instr.lookup 94 (.map (some w.heap.size)) (.agg (bys (F (f k))).toArray) true).run Try.prog y = .ok (.tuple #[findV (fsts F f k) (F (f k)) (.int .i64 0), .bool (decide (F (f k) ∈ (fsts F f k).map (·.1)))]) y) := fun y hy => (hK.map.same (hy.block _ hK.map.lt)).look Try.underlying94 (zero3 y) (F (f k)) (hF _)
      by_cases hseen : F (f k) ∈ (fsts F f k).map (·.1)
      · obtain ⟨i, hfi, hFst⟩ := fsts_seen hseen (.int .i64 0)
        rw [decide_eq_true hseen, hfi] at HLK
        have hik := hFst.1
        obtain ⟨b0, off, hao, hcap, hcell⟩ : ∃ b0 off, ao = some ⟨b0, off, none⟩ ∧ n ≤ cp ∧ ∀ i, i < n → w.cell? ⟨b0, off + i, none⟩ = some (fv i) := by
          rcases A.out.shape with ⟨_, _, _, h0⟩ | ⟨b, off, cap, h, hcap, hc⟩
          · omega
          · cases h; exact ⟨b, off, rfl, hcap, hc⟩
        subst hao
        obtain ⟨ai, ci, hfvi⟩ := sl_slice (A.out.each i (by omega)).1
        obtain ⟨ak, ck, hfvk⟩ := sl_slice (A.out.each k hkn).1
        have HE : Hid (∀ y, Below wr.heap.size wr y → y.cell? ⟨b0, off + i, none⟩ = some (.slice ai (f i).length ci) ∧ y.cell? ⟨b0, off + k, none⟩ = some (.slice ak (f k).length ck) ∧ ∀ nn, Calls Try.prog 42 #[.slice ai (f i).length ci, .slice ak (f k).length ck] (y.drewN nn) fun ev w' => ev = .returned (.bool (f i == f k)) ∧ w' = y.drewN nn) := fun y hy => by
          have hBy := hB.trans (hy.mono hB.size)
          have e1 := hcell i (by omega)
          have e2 := hcell k hkn
          rw [hfvi] at e1
          rw [hfvk] at e2
          refine ⟨(hBy.cell (p := ⟨b0, off + i, none⟩) (World.block_lt_of_cell? w _ e1)).trans e1, (hBy.cell (p := ⟨b0, off + k, none⟩) (World.block_lt_of_cell? w _ e2)).trans e2, fun nn => ?_⟩
          have s1 := (A.out.each i (by omega)).1.below (below_drewN hBy nn)
          have s2 := (A.out.each k hkn).1.below (below_drewN hBy nn)
          rw [hfvi] at s1
          rw [hfvk] at s2
          exact equal_any _ _ _ _ _ s1 s2
        have HM : Hid (∀ y, Below wr.heap.size wr y → Mp y w.heap.size (fsts F f (k + 1)) ∧ Below w.heap.size w y) := fun y hy => ⟨by unfold fsts; rw [if_pos hseen]; exact hK.map.same (hy.block _ hK.map.lt), hB.trans (hy.mono hB.size)⟩
        have hbest := hK.best
        have hab := hK.ab
        have hlt2 : (i : Int) < (n : Int) := by omega
        clear hK hB hseen HR hfi hcell hcap hfvi hfvk
        have HN : Hid (∀ y a' b' is', Below wr.heap.size wr y → Best F f (k + 1) a' b' is' → a' ≤ 12 ∧ b' ≤ 12 → CbRel w F f (k + 1) a' b' is' y) := fun y a' b' is' hy hb hab' => ⟨(HM.out y hy).1, hb, hab', (HM.out y hy).2⟩
        clear HM
        by_cases hup : is = true → i < a
        · by_cases he : f i = f k
          · have HB : Hid (Best F f (k + 1) a b is) := hbest.alike hFst he
            rw [show (f i == f k) = true by rw [he]; simp] at HE
            clear hbest hFst he
            generalize (f i).length = li at *
            generalize (f k).length = lk at *
            generalize bys (F (f k)) = L at *
            cases is with
            | false =>
              go_wp2_with (first | (refine wpList_load_mid rfl 35 _ rfl g (k * 32) (by simp [Act.eval]) L _ hrng Try.underlying35 rfl hLi ?_) | (refine store_box rfl 35 _ _ rfl wr.heap.size L.toArray rfl rfl 35 z25.toArray hgA hi hYz hYo wr hbA ?_; intro w3 r3 hb3; have lk := HLK.out w3 hb3) | (refine wpList_load_row rfl 35 _ rfl wr.heap.size rfl 35 L.toArray (0, 0) _ r3 Try.underlying35 rfl hi ?_) | (refine wpList_look rfl 94 _ _ true rfl (.map (some w.heap.size)) (.agg L.toArray) _ rfl rfl lk ?_))
              obtain ⟨c3i, c3k, CE⟩ := HE.out w3 hb3
              have Hb3 : Hid (Below wr.heap.size wr w3) := hb3
              clear hgA hbA lk r3 hrng HLK HE hb3
              go_quiet (first | (go_at_call 42; exact Calls.quiet_of_same (CE _)))
              go_wp2_with fail
              go_roundw
              case rel => exact ⟨k + 1, a, b, _, by omega, by go_num, rfl, rfl, rfl, HN.out _ _ _ _ (below_drewN Hb3.out _) HB.out hab⟩
              case measure => simp [intOf]; omega
            | true =>
              have hia : (i : Int) < (a : Int) := by have := hup rfl; omega
              go_wp2_with (first | (refine wpList_load_mid rfl 35 _ rfl g (k * 32) (by simp [Act.eval]) L _ hrng Try.underlying35 rfl hLi ?_) | (refine store_box rfl 35 _ _ rfl wr.heap.size L.toArray rfl rfl 35 z25.toArray hgA hi hYz hYo wr hbA ?_; intro w3 r3 hb3; have lk := HLK.out w3 hb3) | (refine wpList_load_row rfl 35 _ rfl wr.heap.size rfl 35 L.toArray (0, 0) _ r3 Try.underlying35 rfl hi ?_) | (refine wpList_look rfl 94 _ _ true rfl (.map (some w.heap.size)) (.agg L.toArray) _ rfl rfl lk ?_))
              obtain ⟨c3i, c3k, CE⟩ := HE.out w3 hb3
              have Hb3 : Hid (Below wr.heap.size wr w3) := hb3
              clear hgA hbA lk r3 hrng HLK HE hb3
              go_quiet (first | (go_at_call 42; exact Calls.quiet_of_same (CE _)))
              go_wp2_with fail
              go_roundw
              case rel => exact ⟨k + 1, a, b, _, by omega, by go_num, rfl, rfl, rfl, HN.out _ _ _ _ (below_drewN Hb3.out _) HB.out hab⟩
              case measure => simp [intOf]; omega
          · have HB : Hid (Best F f (k + 1) i k true) := hbest.better hFst he hup
            rw [show (f i == f k) = false by simpa using he] at HE
            clear hbest hFst he
            generalize (f i).length = li at *
            generalize (f k).length = lk at *
            generalize bys (F (f k)) = L at *
            cases is with
            | false =>
              go_wp2_with (first | (refine wpList_load_mid rfl 35 _ rfl g (k * 32) (by simp [Act.eval]) L _ hrng Try.underlying35 rfl hLi ?_) | (refine store_box rfl 35 _ _ rfl wr.heap.size L.toArray rfl rfl 35 z25.toArray hgA hi hYz hYo wr hbA ?_; intro w3 r3 hb3; have lk := HLK.out w3 hb3) | (refine wpList_load_row rfl 35 _ rfl wr.heap.size rfl 35 L.toArray (0, 0) _ r3 Try.underlying35 rfl hi ?_) | (refine wpList_look rfl 94 _ _ true rfl (.map (some w.heap.size)) (.agg L.toArray) _ rfl rfl lk ?_))
              obtain ⟨c3i, c3k, CE⟩ := HE.out w3 hb3
              have Hb3 : Hid (Below wr.heap.size wr w3) := hb3
              clear hgA hbA lk r3 hrng HLK HE hb3
              go_quiet (first | (go_at_call 42; exact Calls.quiet_of_same (CE _)))
              go_wp2_with fail
              go_roundw
              case rel => exact ⟨k + 1, i, k, true, by omega, by go_num, rfl, rfl, rfl, HN.out _ _ _ _ (below_drewN Hb3.out _) HB.out (by omega)⟩
              case measure => simp [intOf]; omega
            | true =>
              have hia : (i : Int) < (a : Int) := by have := hup rfl; omega
              go_wp2_with (first | (refine wpList_load_mid rfl 35 _ rfl g (k * 32) (by simp [Act.eval]) L _ hrng Try.underlying35 rfl hLi ?_) | (refine store_box rfl 35 _ _ rfl wr.heap.size L.toArray rfl rfl 35 z25.toArray hgA hi hYz hYo wr hbA ?_; intro w3 r3 hb3; have lk := HLK.out w3 hb3) | (refine wpList_load_row rfl 35 _ rfl wr.heap.size rfl 35 L.toArray (0, 0) _ r3 Try.underlying35 rfl hi ?_) | (refine wpList_look rfl 94 _ _ true rfl (.map (some w.heap.size)) (.agg L.toArray) _ rfl rfl lk ?_))
              obtain ⟨c3i, c3k, CE⟩ := HE.out w3 hb3
              have Hb3 : Hid (Below wr.heap.size wr w3) := hb3
              clear hgA hbA lk r3 hrng HLK HE hb3
              go_quiet (first | (go_at_call 42; exact Calls.quiet_of_same (CE _)))
              go_wp2_with fail
              go_roundw
              case rel => exact ⟨k + 1, i, k, true, by omega, by go_num, rfl, rfl, rfl, HN.out _ _ _ _ (below_drewN Hb3.out _) HB.out (by omega)⟩
              case measure => simp [intOf]; omega
        · obtain rfl : is = true := by
            cases is with
            | true => rfl
            | false => exact absurd (fun h => by cases h) hup
          have hia : ¬ i < a := fun h => hup (fun _ => h)
          have HB : Hid (Best F f (k + 1) a b true) := hbest.later hFst hia
          clear hbest hFst hup
          generalize (f i).length = li at *
          generalize (f k).length = lk at *
          generalize bys (F (f k)) = L at *
          go_wp2_with (first | (refine wpList_load_mid rfl 35 _ rfl g (k * 32) (by simp [Act.eval]) L _ hrng Try.underlying35 rfl hLi ?_) | (refine store_box rfl 35 _ _ rfl wr.heap.size L.toArray rfl rfl 35 z25.toArray hgA hi hYz hYo wr hbA ?_; intro w3 r3 hb3; have lk := HLK.out w3 hb3) | (refine wpList_load_row rfl 35 _ rfl wr.heap.size rfl 35 L.toArray (0, 0) _ r3 Try.underlying35 rfl hi ?_) | (refine wpList_look rfl 94 _ _ true rfl (.map (some w.heap.size)) (.agg L.toArray) _ rfl rfl lk ?_))
          obtain ⟨c3i, c3k, CE⟩ := HE.out w3 hb3
          have Hb3 : Hid (Below wr.heap.size wr w3) := hb3
          clear hgA hbA lk r3 hrng HLK HE hb3
          go_quiet (first | (go_at_call 42; exact Calls.quiet_of_same (CE _)))
          go_wp2_with fail
          go_roundw
          case rel => exact ⟨k + 1, a, b, true, by omega, by go_num, rfl, rfl, rfl, HN.out _ _ _ _ (below_drewN Hb3.out _) HB.out hab⟩
          case measure => simp [intOf]; omega
      · rw [decide_eq_false hseen, findV_out hseen] at HLK
        have HUP : Hid (∀ y, Below wr.heap.size wr y → ∃ w', (Instr.mapUpdate 94 (.map (some w.heap.size)) (.agg (bys (F (f k))).toArray) (.int .i64 (k : Int))).run Try.prog y = .ok () w' ∧ CbRel w F f (k + 1) a b is w') := fun y hy => by
          have hm := hK.map.same (hy.block _ hK.map.lt)
          obtain ⟨w', hr, hm', hg', _⟩ := hm.put Try.underlying94 (by have := fsts_few F f k; omega) (F (f k)) (hF _) hseen (.int .i64 (k : Int))
          have hBy := hB.trans (hy.mono hB.size)
          refine ⟨w', hr, ⟨by unfold fsts; rw [if_neg hseen]; exact hm', hK.best.unseen (fun i hi e => hseen (fsts_mem.2 ⟨i, hi, e⟩)), hK.ab, hBy.grown hg' hBy.size (fun q e => by cases e; exact Nat.le_refl _)⟩⟩
        clear hK hB hseen HR
        generalize bys (F (f k)) = L at *
        go_wp2_with (first | (refine wpList_load_mid rfl 35 _ rfl g (k * 32) (by simp [Act.eval]) L _ hrng Try.underlying35 rfl hLi ?_) | (refine store_box rfl 35 _ _ rfl wr.heap.size L.toArray rfl rfl 35 z25.toArray hgA hi hYz hYo wr hbA ?_; intro w3 r3 hb3; have lk := HLK.out w3 hb3; obtain ⟨w4, hup, hK4⟩ := HUP.out w3 hb3) | (refine wpList_load_row rfl 35 _ rfl wr.heap.size rfl 35 L.toArray (0, 0) _ r3 Try.underlying35 rfl hi ?_) | (refine wpList_look rfl 94 _ _ true rfl (.map (some w.heap.size)) (.agg L.toArray) _ rfl rfl lk ?_) | (refine wpList_mapUpdate rfl 94 _ _ _ rfl (.map (some w.heap.size)) (.agg L.toArray) (.int .i64 (k : Int)) rfl rfl rfl w4 hup ?_))
        go_roundw
        case rel => exact ⟨k + 1, a, b, is, by omega, by go_num, rfl, rfl, rfl, hK4⟩
        case measure => simp [intOf]; omega
    · obtain rfl : k = n := by omega
      have hlt : ¬ (k : Int) < (k : Int) := by omega
      have hbest := hK.best
      have hB := hK.below
      clear hK
      go_wp2_with fail
      refine bodyPost_ret (v := .tuple #[.int .i64 (a : Int), .int .i64 (b : Int), .bool is]) (by simp [results, Try.results34, go_sem]) rfl ⟨⟨a, b, is, rfl, hbest⟩, hB⟩

theorem Try.info35z : (Try.prog.info? 35).map (fun i => (i.zero, i.size, i.bytes)) = some (some (.agg z25.toArray), 32, 32) := by kernel_rfl
/-- A row of so many sums, all noughts. -/
theorem wp_make35 {ops : Array Oper} {rest : List Oper} {o : Oper} {a : Act} {Q : Exit → Act → World → Prop} {w : World} (hgd : o.guard = none) (l c : Operand) (ho : o.op = .makeSlice 29 l c) (n : Nat) (hl : a.eval l = .int .i64 (n : Int)) (hc : a.eval c = .int .i64 (n : Int)) (hn : n ≤ 1000000)
    (h : ∀ w', (∀ q, q < n → w'.there w.heap.size (q * 32) 32) → Below w.heap.size w w' → wpList Try.prog ops Q rest (a.put o.dst (.slice (some ⟨w.heap.size, 0, none⟩) n n)) w') :
    wpList Try.prog ops Q (o :: rest) a w := by
  obtain ⟨i0, hi, hz0, hz1, hz2⟩ := info_parts Try.info35z
  have hr := run_make (P := Try.prog) w 29 35 i0 (.agg z25.toArray) Try.underlying29 hi hz0 .i64 .i64 n n (by omega) (Int.le_refl _) (by rw [hz2]; omega) (by omega)
  refine wpList_plain hgd fun K hK => ?_
  unfold Oper.wp execOp
  simp only [ho, hl, hc, Sem.run_bind, Sem.run_pure, Result.andThen_ok, hr]
  refine hK _ _ ?_
  simp only [Int.toNat_natCast, hz1]
  refine h _ (fun q hq j hj => ?_) ((Below.refl _ _).alloc (Nat.le_refl _) _)
  have hlt : q * 32 + j < n * 32 := by omega
  constructor
  · rw [cell_of_row _ w.heap.size (q * 32 + j) _ 35 (0, 0) (heap_alloc_new w _)]
    rw [Array.getElem?_eq_getElem (by rw [size_madeCells]; exact hlt)]
    rfl
  · simp only [World.frozen?]
    rw [heap_alloc_new]
    simp

theorem there_below {w w' : World} {b o n : Nat} (h : w.there b o n) (hb : Below w.heap.size w w') : w'.there b o n := fun j hj => by
  obtain ⟨h1, h2⟩ := h j hj
  obtain ⟨u, hu⟩ := Option.isSome_iff_exists.1 h1
  have hlt := World.block_lt_of_cell? w ⟨b, o + j, none⟩ hu
  have hk : w'.heap[b]? = w.heap[b]? := hb.block b hlt
  constructor
  · rw [hb.cell (p := ⟨b, o + j, none⟩) hlt]; exact h1
  · simp only [World.frozen?] at *
    rw [hk]; exact h2
theorem range_below {w w' : World} {b o : Nat} {cs : List Value} (h : w.rangeAt b o cs) (hb : Below w.heap.size w w') : w'.rangeAt b o cs := fun j u hj =>
  (hb.cell (p := ⟨b, o + j, none⟩) (World.block_lt_of_cell? w _ (h j u hj))).trans (h j u hj)
/-- Where Clash stands. -/
structure ChRel (w : World) (F : Bys → Bys) (f : Nat → Bys) (n k : Nat) (wr : World) : Prop where
  there : ∀ q, q < n → wr.there w.heap.size (q * 32) 32
  done : ∀ q, q < k → wr.rangeAt w.heap.size (q * 32) (bys (F (f q)))
  below : Below w.heap.size w wr

attribute [local go_sem ↓] Go.wp_at_zero Go.wp_at_succ
set_option maxHeartbeats 8000000 in
set_option maxRecDepth 20000 in
theorem clash_any (w : World) (v : Value) (n : Nat) (f : Nat → Bys) (fv : Nat → Value) (F : Bys → Bys) (hF : ∀ b, (F b).length = 32) (hsum : ∀ y v b, Sl y v b → b.length ≤ 200 → Calls Try.prog 25 #[v] y fun ev w' => ev = .returned (.agg (bys (F b)).toArray) ∧ Below y.heap.size y w')
    (hL : Ls w v n f fv) (hn : n ≤ 12) (hs : ∀ q, q < n → (f q).length ≤ 200) :
    Calls Try.prog 22 #[v] w fun ev w' => ClashRet F f n ev ∧ Below w.heap.size w w' := by
  obtain ⟨ao, cp, rfl⟩ : ∃ ao cp, v = .slice ao n cp := by
    rcases hL.shape with ⟨ao, cp, h, _⟩ | ⟨b, off, cap, h, _⟩ <;> exact ⟨_, _, h⟩
  have A : Aside (Ls w (.slice ao n cp) n f fv) := hL
  have HS : Hid (∀ y v b, Sl y v b → b.length ≤ 200 → Calls Try.prog 25 #[v] y fun ev w' => ev = .returned (.agg (bys (F b)).toArray) ∧ Below y.heap.size y w') := hsum
  have CB : Hid (∀ y, Below w.heap.size w y → (∀ q, q < n → y.rangeAt w.heap.size (q * 32) (bys (F (f q)))) → Calls Try.prog 34 #[.slice ao n cp, .slice (some ⟨w.heap.size, 0, none⟩) n n] y fun ev w' => ClashRet F f n ev ∧ Below y.heap.size y w') := fun y hy hr => clashBy_any y _ n w.heap.size f fv F hF (hL.below hy) hn hr
  clear hL hsum
  have hn6 : n ≤ 1000000 := by omega
  go_enter Try.func22, Try.ntmps22
  go_wp2_with (first | (refine wp_make35 rfl _ _ rfl n rfl rfl hn6 ?_; intro w1 ht1 hb1))
  have HI : Hid (ChRel w F f n 0 w1) := ⟨ht1, fun q hq => by omega, hb1⟩
  clear ht1 hb1
  go_loopw [13] (fun i wr => ∃ k : Nat, k ≤ n ∧ i = .int .i64 k ∧ ChRel w F f n k wr) (fun i _ => n - (intOf i).toNat)
  case atStart => exact ⟨0, by omega, rfl, HI.out⟩
  case round =>
    obtain ⟨k, hk, rfl, hK⟩ := hrel
    clear HI
    by_cases hkn : k < n
    · have hlt : (k : Int) < (n : Int) := by omega
      obtain ⟨b0, off, hao, hcap, hcell⟩ : ∃ b0 off, ao = some ⟨b0, off, none⟩ ∧ n ≤ cp ∧ ∀ i, i < n → w.cell? ⟨b0, off + i, none⟩ = some (fv i) := by
        rcases A.out.shape with ⟨_, _, _, h0⟩ | ⟨b, off, cap, h, hcap, hc⟩
        · omega
        · cases h; exact ⟨b, off, rfl, hcap, hc⟩
      subst hao
      obtain ⟨ak, ck, hfvk⟩ := sl_slice (A.out.each k hkn).1
      have hB := hK.below
      have c0 : wr.cell? ⟨b0, off + k, none⟩ = some (.slice ak (f k).length ck) := by
        have := hcell k hkn
        rw [hfvk] at this
        exact (hB.cell (p := ⟨b0, off + k, none⟩) (World.block_lt_of_cell? w _ this)).trans this
      have hsl := (A.out.each k hkn).1.below hB
      rw [hfvk] at hsl
      have CS := HS.out wr _ _ hsl (hs k hkn)
      have hi := size35 (F (f k)) (hF _)
      have hYo : (bys (F (f k))).toArray.all (·.oneCell') = true := all_one (bys_one _)
      have HN : Hid (∀ y, Below wr.heap.size wr y → y.there w.heap.size (k * 32) (bys (F (f k))).toArray.size ∧ ChRel w F f n (k + 1) (y.setCells w.heap.size (k * 32) (bys (F (f k))).toArray.toList)) := fun y hy => by
        have h32 : (bys (F (f k))).length = 32 := bys32 _ (hF _)
        have hth : y.there w.heap.size (k * 32) 32 := there_below (hK.there k hkn) hy
        refine ⟨by simpa [h32] using hth, ⟨fun q hq => World.there_setCells (there_below (hK.there q hq) hy) _ _ _, fun q hq => ?_, below_setCells (Nat.le_refl _) _ _ (hB.trans (hy.mono hB.size))⟩⟩
        by_cases e : q = k
        · subst e
          exact World.rangeAt_setCells_same y _ _ _ (by simpa [h32] using hth)
        · have h32q : (bys (F (f q))).length = 32 := bys32 _ (hF _)
          refine World.rangeAt_setCells_apart (range_below (hK.done q (by omega)) hy) _ _ _ (.inr ?_)
          simp only [h32q, h32]
          omega
      clear hK hB hsl hcell hcap hfvk
      generalize (bys (F (f k))).toArray = Y at *
      generalize (f k).length = lk at *
      go_wp2_with (first | (go_at_call 25; refine CS.mono ?_; rintro ev w2 ⟨rfl, hb2⟩; obtain ⟨ht2, hN2⟩ := HN.out w2 hb2) | (refine wpList_store_mid rfl 35 _ _ rfl w.heap.size (k * 32) Y (by simp [Act.eval]) rfl ht2 hi hYo ?_))
      go_roundw
      case rel => exact ⟨k + 1, by omega, by go_num, hN2⟩
      case measure => simp [intOf]; omega
    · obtain rfl : k = n := by omega
      have hlt : ¬ (k : Int) < (k : Int) := by omega
      have C := CB.out wr hK.below hK.done
      have hB := hK.below
      clear hK CB
      go_wp2_with (first | (go_at_call 34; refine C.mono ?_; rintro ev w2 ⟨⟨a, b, is, rfl, hbest⟩, hb2⟩))
      refine bodyPost_ret (v := .tuple #[.int .i64 (a : Int), .int .i64 (b : Int), .bool is]) (by simp [results, Try.results22, go_sem]) rfl ⟨⟨a, b, is, rfl, hbest⟩, hB.trans (hb2.mono hB.size)⟩
end Go.Proofs.Ytjnogpcpekheoaa
