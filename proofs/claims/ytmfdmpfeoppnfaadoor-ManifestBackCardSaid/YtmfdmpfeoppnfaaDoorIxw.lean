/-
  Index.
-/
import Derived.Test.YtmfdmpfeoppnfaaDoorIdx
namespace Go.Proofs.YtmfdmpfeoppnfaaDoor
open Go.RowKit Go.Maps

/-- What Index leaves. -/
def IdxPost (w : World) (r : Except Nat (List (List Nat))) (ev : Ending) (w' : World) : Prop :=
  match r with
  | .error i => ∃ e, ev = .returned (.tuple #[.slice none 0 0, e]) ∧ Er w' e 41 i ∧ Below w.heap.size w w'
  | .ok R => ∃ v, ev = .returned (.tuple #[v, .nilIface]) ∧ Rs w' v R ∧ Below w.heap.size w w'
/-- The rows so far: k of them are done. -/
structure Ixs (L : List Src) (N : List Bs) (g : Nat) (w : World) (k : Nat) (C : List Value) : Prop where
  len : C.length = L.length
  row : Row w g 23 C
  all : ∀ c ∈ C, ∃ ao n cap, c = .slice ao n cap
  done : ∀ j, j < k → Is w (C.getD j undef) (rowOf N (L.getD j Src.zero))
  rest : ∀ j, k ≤ j → j < L.length → C.getD j undef = .slice none 0 0
theorem getD_set {α : Type} (l : List α) (i j : Nat) (x d : α) (hi : i < l.length) : (l.set i x).getD j d = if i = j then x else l.getD j d := by
  simp only [List.getD, List.getElem?_set]
  split
  · rename_i e; subst e; simp
  · rfl
theorem grown_row {w w' : World} {o : Option Nat} {g t : Nat} {M : List Value} (r : Row w g t M) (h : w.grownBy w' o) (hne : ∀ k, o = some k → k ≠ g) : Row w' g t M := ⟨by rw [h.block g r.lt (fun e => hne g e.symm rfl)]; exact r.heap⟩
theorem Ixs.below {L : List Src} {N : List Bs} {g k : Nat} {w w' : World} {C : List Value} (h : Ixs L N g w k C) (hb : Below w.heap.size w w') : Ixs L N g w' k C :=
  ⟨h.len, h.row.below hb h.row.lt, h.all, fun j hj => (h.done j hj).below hb, h.rest⟩
/-- One row more. -/
theorem Ixs.next {L : List Src} {N : List Bs} {g k : Nat} {w w' : World} {C : List Value} {v : Value} (h : Ixs L N g w k C) (hk : k < L.length) (hg : w.grownBy w' (some g)) (hr : Row w' g 23 (C.set k v)) (hv : ∃ ao n cap, v = .slice ao n cap) (hi : Is w' v (rowOf N (L.getD k Src.zero))) : Ixs L N g w' (k + 1) (C.set k v) := by
  have hkC : k < C.length := by rw [h.len]; exact hk
  refine ⟨by rw [List.length_set]; exact h.len, hr, fun c hc => ?_, fun j hj => ?_, fun j hj hl => ?_⟩
  · rcases List.mem_or_eq_of_mem_set hc with hc | rfl
    · exact h.all c hc
    · exact hv
  · rw [getD_set C k j v undef hkC]
    split
    · rename_i e; subst e; exact hi
    · exact (h.done j (by omega)).kept hg h.row h.all
  · rw [getD_set C k j v undef hkC, if_neg (by omega)]
    exact h.rest j (by omega) hl
/-- One number more in a row. -/
theorem ix_put {g B k n : Nat} {W w w1 w2 : World} {r : List Nat} {v v' : Value} {C : List Value} (hkC : k < C.length) (hW : W.grownBy w (some g)) (hB : B = W.heap.size) (hr : Row w g 23 (C.set k v)) (ho : w.ownsRow B 3 1 v r.length (nms r))
    (h1 : Below w.heap.size w w1) (hg : w1.grownBy w2 v.ownBlock) (ho2 : w2.ownsRow B 3 1 v' (r ++ [n]).length (nms (r ++ [n]))) :
    w2.cell? ⟨g, k, none⟩ = some v ∧ w2.frozen? ⟨g, k, none⟩ = false ∧ Row (w2.setCell ⟨g, k, none⟩ v') g 23 (C.set k v') ∧ (w2.setCell ⟨g, k, none⟩ v').ownsRow B 3 1 v' (r ++ [n]).length (nms (r ++ [n])) ∧ W.grownBy (w2.setCell ⟨g, k, none⟩ v') (some g) := by
  have o1 := own_past' ho h1
  have r1 := hr.below h1 hr.lt
  have r2 := grown_row r1 hg (own_ne3 o1 r1 (by decide))
  have hset : (C.set k v)[k]? = some v := by simp [hkC]
  refine ⟨(r2.cell k).trans hset, r2.fz k, ?_, own_same' ho2 (fun j hj => heap_setCell_other w2 ⟨g, k, none⟩ j v' (own_ne3 ho2 r2 (by decide) j hj)), ?_⟩
  · have := r2.set k v'
    rwa [List.set_set] at this
  · have b2 : W.grownBy w2 (some g) := by
      refine ⟨hg.os.trans (h1.os.trans hW.os), hg.tape.trans (h1.tape.trans hW.tape), hg.output.trans (h1.output.trans hW.output), Nat.le_trans hW.size (Nat.le_trans h1.size hg.size), fun j hj hne => ?_⟩
      have hj1 : j < w.heap.size := Nat.lt_of_lt_of_le hj hW.size
      rw [hg.block j (Nat.lt_of_lt_of_le hj1 h1.size) (fun e => by have := (o1.lt j e.symm).1; omega), h1.block j hj1, hW.block j hj hne]
    exact by_trans b2 (by_set w2 g k v')

theorem Tryd.info23z : (Tryd.prog.info? 23).map (fun i => (i.zero, i.size, i.bytes)) = some (some (.slice none 0 0), 1, 24) := by kernel_rfl
theorem make35 (w : World) (n : Nat) (hn : n ≤ 100000) : (Instr.makeSlice 35 (.int .i64 (n : Int)) (.int .i64 (n : Int))).run Tryd.prog w = .ok (.slice (some ⟨w.heap.size, 0, none⟩) n n) (w.alloc (.cells (List.replicate n (.slice none 0 0)).toArray 23)) := by
  obtain ⟨i0, hi, hz0, hz1, hz2⟩ := info_parts Tryd.info23z
  have hr := run_makeSlice (P := Tryd.prog) w 35 23 i0 (.slice none 0 0) Tryd.underlying35 hi hz0 .i64 .i64 (n : Int) (n : Int) (by omega) (by omega) (by rw [hz1]; omega) (by rw [hz2]; omega) (by omega)
  rw [hr, hz1]
  have e : madeCells (Value.slice none 0 0).cells ((n : Int).toNat * 1) = (List.replicate n (Value.slice none 0 0)).toArray := by
    apply Array.ext
    · simp [madeCells]
    · intro i h1 h2
      simp [madeCells, Value.cells, Nat.mod_one]
  rw [e]
  simp
set_option maxHeartbeats 8000000 in
set_option maxRecDepth 20000 in
theorem index_any (w : World) (v : Value) (L : List Src) (h : Srs w v L) (hL : L.length ≤ 100000) (hlim : ∀ x ∈ L, x.name.length ≤ 140737488355328 ∧ x.deps.length ≤ 1000000000 ∧ ∀ d ∈ x.deps, d.length ≤ 140737488355328) :
    Calls Tryd.prog 13 #[v] w (IdxPost w (idxF L)) := by
  have PL := hid0 (places_any w v L h hL (fun x hx => (hlim x hx).1))
  obtain ⟨ao, cap, rfl, h1, h2, h3⟩ := h.shape
  have HC := hid0 h3
  have HL : Hid (∀ k, k < L.length → (L.getD k Src.zero).deps.length ≤ 1000000000 ∧ ∀ d ∈ (L.getD k Src.zero).deps, d.length ≤ 140737488355328) := by
    intro k hk
    rw [getD_eq L k _ hk]; exact (hlim _ (List.getElem_mem hk)).2
  have HE := hid0 (fun k (hk : k < L.length) => idxF_err (L := L) hk)
  have HO := hid0 (fun h => idxF_ok (L := L) h)
  clear h h3 hlim
  generalize hNs : L.map (·.name) = N at *
  have HT : Hid (N.take L.length = N) := by
    show N.take L.length = N
    rw [← hNs, List.take_of_length_le (by simp)]
  clear hNs
  have hn0 : (0 : Int) ≤ (L.length : Int) := by omega
  go_enter Tryd.func13, Tryd.ntmps13
  go_wp2_with fail
  refine PL.out.mono ?_
  rintro ev w1 ⟨b, rfl, m, hM, hP, hB⟩
  have AM := aside0 hM
  have AP := aside0 hP
  have AB := aside0 hB
  clear PL hM hP hB
  have hmk := make35 w1 L.length hL
  have hI : Ixs L N w1.heap.size (w1.alloc (.cells (List.replicate L.length (.slice none 0 0)).toArray 23)) 0 (List.replicate L.length (.slice none 0 0)) := by
    refine ⟨by simp, Row.new w1 23 _, fun c hc => ⟨_, _, _, List.eq_of_mem_replicate hc⟩, fun j hj => by omega, fun j _ hj => ?_⟩
    rw [getD_eq _ j _ (by simpa using hj)]; simp
  have hbA : Below w1.heap.size w1 (w1.alloc (.cells (List.replicate L.length (.slice none 0 0)).toArray 23)) := (Below.refl _ _).alloc (Nat.le_refl _) _
  have hM1 := AM.out.below hbA
  have hB1 := nextB AB.out hbA
  have hg0 : w.heap.size ≤ w1.heap.size := AB.out.size
  have hbg : b ≠ w1.heap.size := by have := AM.out.lt; omega
  generalize hC0 : List.replicate L.length (Value.slice none 0 0) = C0 at *
  clear hC0 AM AB hbA
  generalize (w1.alloc (.cells C0.toArray 23)) = W1 at *
  generalize w1.heap.size = g at *
  go_wp2_with fail
  clear hmk
  have AI := aside0 hI
  have AM := aside0 hM1
  have AB := aside0 hB1
  clear hI hM1 hB1
  go_loopw [19] (fun i wr => ∃ (k : Nat) (C : List Value), k ≤ L.length ∧ i = .int .i64 k ∧ Ixs L N g wr k C ∧ Mp wr b m ∧ Below w.heap.size w wr ∧ ∀ j, j < k → inAll N (L.getD j Src.zero) = true) (fun i _ => L.length - (intOf i).toNat)
  case atStart => exact ⟨0, C0, by omega, rfl, AI.out, AM.out, AB.out, fun j hj => by omega⟩
  case round =>
    obtain ⟨k, C, hk, rfl, hI, hM, hB, hJ⟩ := hrel
    by_cases h3 : k < L.length
    · have l1 : (k : Int) < (L.length : Int) := by omega
      obtain ⟨p, o, dv, rfl, q0, q1, q2, qs⟩ := HC.out k h3
      have c0 := Below.cellOf hB q0
      have c1 := Below.cellOf hB q1
      have c2 := Below.cellOf hB q2
      have HD := hid0 qs
      obtain ⟨da, dc, rfl, hd1, hd2, -⟩ := qs.shape
      have hA : Below wr.heap.size wr (wr.alloc (.cells #[.string ⟨#[]⟩, .slice none 0 0, .string ⟨#[]⟩] 43)) := (Below.refl _ _).alloc (Nat.le_refl _) _
      have G1 := (Row.new wr 43 [.string ⟨#[]⟩, .slice none 0 0, .string ⟨#[]⟩]).heap
      obtain ⟨W, hW⟩ : ∃ W, W = (wr.alloc (.cells #[.string ⟨#[]⟩, .slice none 0 0, .string ⟨#[]⟩] 43)).setRow wr.heap.size #[.string (str (L.getD k Src.zero).name), .slice da (L.getD k Src.zero).deps.length dc, .string (str (L.getD k Src.zero).text)] := ⟨_, rfl⟩
      have G2 : (#[Value.string (str (L.getD k Src.zero).name), .slice da (L.getD k Src.zero).deps.length dc, Value.string (str (L.getD k Src.zero).text)].all (·.oneCell')) = true := by simp [Value.oneCell']
      have RW : Row W wr.heap.size 43 [.string (str (L.getD k Src.zero).name), .slice da (L.getD k Src.zero).deps.length dc, .string (str (L.getD k Src.zero).text)] := by rw [hW]; exact (Row.new wr 43 [.string ⟨#[]⟩, .slice none 0 0, .string ⟨#[]⟩]).setRow _
      have BW : Below wr.heap.size wr W := by rw [hW]; exact below_setRow hA (Nat.le_refl _) _
      have d1 : W.cell? ⟨wr.heap.size, 1, none⟩ = some (.slice da (L.getD k Src.zero).deps.length dc) := RW.cell 1
      have AM := aside0 (hM.below BW)
      have AI := aside0 (hI.below BW)
      have AB := aside0 (nextB hB BW)
      have AJ := aside0 hJ
      have AW := aside0 hW
      obtain ⟨hl1, hl2⟩ := HL.out k h3
      have HL2 := hid0 hl2
      have hkC : k < C.length := by rw [hI.len]; exact h3
      have hCk := hI.rest k (Nat.le_refl _) h3
      clear q0 q1 q2 qs hA hW RW BW hM hI hB hJ HC hl2 HO
      generalize str (L.getD k Src.zero).name = SN at *
      generalize str (L.getD k Src.zero).text = ST at *
      have HX : Hid (∀ ds : List Bs, ds = (L.getD k Src.zero).deps → (∃ d ∈ ds, d ∉ N) → idxF L = .error k) := by
        rintro ds rfl ⟨d, hd, hn⟩
        refine HE.out k h3 AJ.out ?_
        unfold inAll
        cases hh : (L.getD k Src.zero).deps.all fun d => decide (d ∈ N)
        · rfl
        · rw [List.all_eq_true] at hh
          have := hh d hd
          simp at this
          exact absurd this hn
      have HY : Hid (∀ ds : List Bs, ds = (L.getD k Src.zero).deps → (∀ d ∈ ds, d ∈ N) → ∀ j, j < k + 1 → inAll N (L.getD j Src.zero) = true) := by
        rintro ds rfl hall j hj
        rcases Nat.lt_or_ge j k with h | h
        · exact AJ.out j h
        · obtain rfl : j = k := by omega
          unfold inAll
          rw [List.all_eq_true]
          intro d hd
          simpa using hall d hd
      have HZ : Hid (∀ ds : List Bs, ds = (L.getD k Src.zero).deps → rowOf N (L.getD k Src.zero) = ds.map N.idxOf) := by
        rintro ds rfl; rfl
      generalize hds : (L.getD k Src.zero).deps = ds at *
      have ADS := aside0 hds
      clear hds
      go_wp2_with (first | (refine wpList_store_row rfl 43 _ _ rfl wr.heap.size #[.string SN, .slice da ds.length dc, .string ST] rfl rfl 43 _ G1 Tryd.info43 rfl G2 ?_; rw [← AW.out]))
      clear c0 c1 c2 d1 G1 G2 AW HE
      go_loopw [27] (fun i wx => ∃ (t : Nat) (v : Value), t ≤ ds.length ∧ i = .int .i64 t ∧ Row wx g 23 (C.set k v) ∧ wx.ownsRow W.heap.size 3 1 v ((ds.take t).map N.idxOf).length (nms ((ds.take t).map N.idxOf)) ∧ W.grownBy wx (some g) ∧ ∀ d ∈ ds.take t, d ∈ N) (fun i _ => ds.length - (intOf i).toNat)
      case atStart =>
        refine ⟨0, .slice none 0 0, by omega, rfl, ?_, ⟨rfl, .inl ⟨rfl, rfl⟩⟩, by_below (Below.refl _ _), by simp⟩
        have e : C.set k (.slice none 0 0) = C := by
          rw [← hCk, getD_eq C k _ hkC]; simp
        rw [e]; exact AI.out.row
      case round =>
        obtain ⟨t, v, ht, rfl, hRow, hO, hG, hIn⟩ := hrel
        have AR := aside0 hRow
        have AO := aside0 hO
        have AG := aside0 hG
        have AN := aside0 hIn
        have hBx : Below w.heap.size w wr := AB.out.trans (below_grown hG AB.out.size (fun k e => by cases e; exact hg0))
        have ABx := aside0 hBx
        have hMx := AM.out.kept hG (fun e => hbg (Option.some.inj e))
        by_cases h4 : t < ds.length
        · have l2 : (t : Int) < (ds.length : Int) := by omega
          obtain ⟨da', dc', e', -, -, hcells⟩ := (HD.out.below hBx).shape
          cases e'
          obtain ⟨pb, po, rfl, q⟩ := hcells t h4
          have hdt : ds.getD t [] ∈ ds := by rw [getD_eq ds t [] h4]; exact List.getElem_mem h4
          have LK := hMx.look (t := 58) (e := 3) Tryd.underlying58 (zero3 wr) (ds.getD t []) (HL2.out _ hdt)
          have hkeys := AP.out.keys (ds.getD t [])
          rw [HT.out] at hkeys
          have eT : ds.take (t + 1) = ds.take t ++ [ds.getD t []] := by
            rw [List.take_add_one, List.getElem?_eq_getElem h4, getD_eq ds t [] h4]; rfl
          by_cases hin : ds.getD t [] ∈ N
          · rw [decide_eq_true (hkeys.2 hin), AP.out.find (by rw [HT.out]; exact hin)] at LK
            have c1 : wr.cell? ⟨g, k, none⟩ = some v := by rw [hRow.cell k]; simp [hkC]
            obtain ⟨va, vc, rfl⟩ := own_slice hO
            have hIn' : Hid (∀ d ∈ ds.take (t + 1), d ∈ N) := by
              intro d hd
              rw [eT] at hd
              rcases List.mem_append.1 hd with hd | hd
              · exact AN.out d hd
              · simp only [List.mem_singleton] at hd; rw [hd]; exact hin
            have eM : (ds.take (t + 1)).map N.idxOf = (ds.take t).map N.idxOf ++ [N.idxOf (ds.getD t [])] := by rw [eT, List.map_append]; rfl
            have hA : Below wr.heap.size wr (wr.alloc (.cells #[.int .i64 ((N.idxOf (ds.getD t []) : Nat) : Int)] 3)) := (Below.refl _ _).alloc (Nat.le_refl _) _
            have r1 : (wr.alloc (.cells #[.int .i64 ((N.idxOf (ds.getD t []) : Nat) : Int)] 3)).cell? ⟨wr.heap.size, 0, none⟩ = some (.int .i64 ((N.idxOf (ds.getD t []) : Nat) : Int)) := (Row.new wr 3 [.int .i64 ((N.idxOf (ds.getD t []) : Nat) : Int)]).cell 0
            have O1 := own_past' hO hA
            have hWB : W.heap.size ≤ (wr.alloc (.cells #[.int .i64 ((N.idxOf (ds.getD t []) : Nat) : Int)] 3)).heap.size := Nat.le_trans hG.size hA.size
            have hrl : ((ds.take t).map N.idxOf).length ≤ 10000000000 := by simp; omega
            have HF := hid0 (fun v' w2 (hg : (wr.alloc (.cells #[.int .i64 ((N.idxOf (ds.getD t []) : Nat) : Int)] 3)).grownBy w2 (Value.slice va ((ds.take t).map N.idxOf).length vc).ownBlock) (ho2 : w2.ownsRow W.heap.size 3 1 v' ((ds.take t).map N.idxOf ++ [N.idxOf (ds.getD t [])]).length (nms ((ds.take t).map N.idxOf ++ [N.idxOf (ds.getD t [])]))) => ix_put (v' := v') hkC hG rfl hRow hO hA hg ho2)
            have AE := aside0 eM
            clear hRow hO hG hIn hMx hkeys hin eM eT hA hBx hdt
            generalize N.idxOf (ds.getD t []) = nx at *
            generalize (ds.take t).map N.idxOf = rr at *
            generalize str (ds.getD t []) = SD at *
            go_wp2_with (first
              | (refine app23 (r := rr) rfl _ _ rfl rfl O1 hWB wr.heap.size 1 nx rfl r1 hrl ?_; intro v' w2 ho2 hb2 hgr; obtain ⟨f1, f2, f3, f4, f5⟩ := HF.out v' w2 hgr ho2; have F3 := aside0 f3; have F4 := aside0 f4; have F5 := aside0 f5; obtain ⟨va', vc', rfl⟩ := own_slice ho2; clear f3 f4 f5 ho2 hb2 hgr HF))
            go_roundw
            case rel =>
              have hlen : (rr ++ [nx]).length = rr.length + 1 := by simp
              have g3 := F3.out
              have g4 := F4.out
              have g5 := F5.out
              rw [← AE.out] at g4
              rw [hlen] at g3 g5
              rw [show ((ds.take (t + 1)).map N.idxOf).length = rr.length + 1 by rw [AE.out, hlen]] at g4
              refine ⟨t + 1, _, by omega, by go_num, g3, ?_, g5, hIn'.out⟩
              rw [show ((ds.take (t + 1)).map N.idxOf).length = rr.length + 1 by rw [AE.out, hlen]]
              exact g4
            case measure => simp [intOf]; omega
          · rw [decide_eq_false (fun h => hin (hkeys.1 h))] at LK
            have HE2 := hid0 (HX.out ds rfl ⟨_, hdt, hin⟩)
            have NW := hid0 (new_any wr 41 k (by decide))
            clear hRow hO hG hIn hMx hkeys hin eT hBx hdt
            generalize findV m (ds.getD t []) (.int .i64 0) = fv at *
            generalize str (ds.getD t []) = SD at *
            go_wp2_with fail
            refine NW.out.mono ?_
            rintro ev w5 ⟨e, rfl, hE, hb5⟩
            clear NW
            go_wp2_with fail
            go_ret2
            rw [HE2.out]
            exact ⟨_, rfl, hE, nextB ABx.out hb5⟩
        · have l2 : ¬ (t : Int) < (ds.length : Int) := by omega
          have et : ds.take t = ds := List.take_of_length_le (by omega)
          rw [et] at hIn hO
          have hO' : wr.ownsRow W.heap.size 3 1 v (rowOf N (L.getD k Src.zero)).length (nms (rowOf N (L.getD k Src.zero))) := by rw [HZ.out ds rfl]; exact hO
          have hrl : (rowOf N (L.getD k Src.zero)).length ≤ 140737488355328 := by unfold rowOf; rw [List.length_map, ADS.out]; omega
          have hNX := aside0 (AI.out.next h3 hG hRow (by obtain ⟨va, vc, e⟩ := own_slice hO; exact ⟨_, _, _, e⟩) (Is.ofOwn hO' hrl))
          have hJJ := aside0 (HY.out ds rfl hIn)
          have AMx := aside0 hMx
          clear hRow hO hG hIn hMx hBx et hO' hrl
          go_wp2_with fail
          go_roundw
          case rel => exact ⟨k + 1, _, by omega, by go_num, hNX.out, AMx.out, ABx.out, hJJ.out⟩
          case measure => simp [intOf]; omega
    · have l1 : ¬ (k : Int) < (L.length : Int) := by omega
      obtain rfl : k = L.length := by omega
      have HE2 := hid0 (HO.out hJ)
      have HR : Hid (Rs wr (.slice (some ⟨g, 0, none⟩) L.length L.length) (L.map (rowOf N))) := by
        refine ⟨_, _, by rw [List.length_map], by simp, by simp; omega, fun i hi => ?_⟩
        rw [List.length_map] at hi
        have hiC : i < C.length := by rw [hI.len]; exact hi
        refine ⟨g, 0, C.getD i undef, rfl, ?_, ?_⟩
        · rw [Nat.zero_add, hI.row.cell i, List.getElem?_eq_getElem hiC, getD_eq C i _ hiC]
        · have := hI.done i hi
          rwa [getD_eq L i _ hi, ← List.getElem_map (rowOf N) (h := by simpa using hi), ← getD_eq _ i []] at this
      clear hI hM hJ HO HE HL HC
      go_wp2_with fail
      go_ret2
      rw [HE2.out]
      exact ⟨_, rfl, HR.out, hB⟩
end Go.Proofs.YtmfdmpfeoppnfaaDoor
