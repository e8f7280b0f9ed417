/-
  A head's line cut to its name and its dependencies.
-/
import Derived.Test.YtmfdmpfeoppnfaaDoorShg
namespace Go.Proofs.YtmfdmpfeoppnfaaDoor
open Go.RowKit

/-- Texts in a block of their own, or none. -/
structure S9 (w : World) (v : Value) (D : List Bs) : Prop where
  len : D.length ≤ 4294967281
  shape : (v = .slice none 0 0 ∧ D = []) ∨ ∃ g, v = .slice (some ⟨g, 0, none⟩) D.length D.length ∧ Row w g 9 (D.map fun d => .string (str d))
theorem S9.below {w w' : World} {v : Value} {D : List Bs} (h : S9 w v D) (hb : Below w.heap.size w w') : S9 w' v D := by
  refine ⟨h.len, ?_⟩
  rcases h.shape with h' | ⟨g, e, hr⟩
  · exact .inl h'
  · exact .inr ⟨g, e, hr.below hb hr.lt⟩
theorem S9.ss {w : World} {v : Value} {D : List Bs} (h : S9 w v D) : Ss w v D := by
  have := h.len
  rcases h.shape with ⟨rfl, rfl⟩ | ⟨g, rfl, hr⟩
  · exact Ss.nil _ _ _
  · exact Ss.row hr (by omega) (Nat.le_refl _)
theorem spl_len : ∀ l : Bs, (spl l).length ≤ l.length + 1
  | [] => by simp [spl]
  | c :: t => by
    have := spl_len t
    unfold spl
    split
    · simp; omega
    · split
      · simp
      · rename_i h; rw [h] at this; simp at this ⊢; omega
theorem spl_part : ∀ (l x : Bs), x ∈ spl l → x.length ≤ l.length
  | [], x, h => by simp [spl] at h; simp [h]
  | c :: t, x, h => by
    have ih := spl_part t
    unfold spl at h
    split at h
    · rcases List.mem_cons.1 h with h | h
      · simp [h]
      · have := ih x h; simp; omega
    · split at h
      · simp at h; simp [h]
      · rename_i y r hs
        rw [hs] at ih
        rcases List.mem_cons.1 h with h | h
        · have := ih y List.mem_cons_self; simp [h]; omega
        · have := ih x (List.mem_cons_of_mem _ h); simp; omega
theorem cut_len (l : Bs) : (Lib.cut l [32, 58, 32]).1.length ≤ l.length ∧ (Lib.cut l [32, 58, 32]).2.1.length ≤ l.length := by
  unfold Lib.cut
  split
  · simp; omega
  · simp
theorem cutN_len (l : Bs) : (cutN l).length ≤ l.length := by unfold cutN; split <;> simp
theorem cutDeps_len (l : Bs) : (cutDeps l).length ≤ l.length + 1 := by
  unfold cutDeps
  split
  · have := spl_len (Lib.cut (cutN l) [32, 58, 32]).2.1
    have := (cut_len (cutN l)).2
    have := cutN_len l
    omega
  · simp
theorem Tryd.info43 : (Tryd.prog.info? 43).map (·.size) = some 3 := by kernel_rfl
theorem Tryd.info43z : (Tryd.prog.info? 43).map (fun i => (i.zero, i.size, i.bytes)) = some (some (.agg #[.string ⟨#[]⟩, .slice none 0 0, .string ⟨#[]⟩]), 3, 56) := by kernel_rfl
theorem heap_same {w : World} {h : Array Obj} (e : h = w.heap) : ({ w with heap := h } : World) = w := by cases w; cases e; rfl
theorem setRow_same {w : World} {g t : Nat} {L : List Value} (h : Row w g t L) : w.setRow g L.toArray = w := by
  refine heap_same ?_
  apply Array.ext_getElem?
  intro i
  rw [Array.getElem?_modify]
  by_cases e : g = i
  · subst e; rw [if_pos rfl, h.heap]; rfl
  · rw [if_neg e]
theorem setCell_same {w : World} {p : Addr} {v : Value} (hs : p.spot = none) (hf : ∀ c e f, w.heap[p.block]? = some (.cells c e f) → c[p.off]? = some v) : w.setCell p v = w := by
  refine heap_same ?_
  apply Array.ext_getElem?
  intro i
  rw [Array.getElem?_modify]
  by_cases e : p.block = i
  · rw [if_pos e]
    subst e
    cases ho : w.heap[p.block]? with
    | none => rfl
    | some o =>
      cases o with
      | cells c el f =>
        simp only [Option.map_some, hs]
        have := hf c el f ho
        congr 2
        simp
        apply Array.ext_getElem?
        intro j
        rw [Array.getElem?_setIfInBounds]
        split
        · rename_i e; subst e
          split
          · exact this.symm
          · rename_i hh; rw [Array.getElem?_eq_none (by omega)] at this; cases this
        · rfl
      | _ => rfl
  · rw [if_neg e]
theorem results43_row (tmps : Array Value) (w : World) (g : Nat) (cs : Array Value) (b : Value) (hs : cs.size = 3) (hp : tmps.getD 2 undef = .pointer (some ⟨g, 0, none⟩)) (hb : tmps.getD 3 undef = b) (hg : w.heap[g]? = some (.cells cs 43 (0, 0))) :
    (results Tryd.f43 tmps).run Tryd.prog w = .ok (.tuple #[.agg cs, b]) w := by
  have hp' : tmps[2]?.getD undef = .pointer (some ⟨g, 0, none⟩) := by simpa using hp
  have hb' : tmps[3]?.getD undef = b := by simpa using hb
  have hi : (Tryd.prog.info? 43).map (·.size) = some cs.size := by rw [hs]; exact Tryd.info43
  simp [results, Tryd.results43, hp', hb', asAddr, run_loadVar_row w g 43 43 cs (0, 0) _ hg Tryd.underlying43 rfl hi]

set_option maxHeartbeats 4000000 in
set_option maxRecDepth 20000 in
theorem cutHead_any (l : Bs) (hl : l.length ≤ 4294967279) (w : World) (m : Int) (hm : w.cell? ⟨0, 0, none⟩ = some (.int .i64 m)) :
    Calls Tryd.prog 43 #[.string (str l)] w fun ev w' => ∃ dv, ev = .returned (.tuple #[.agg #[.string (str (cutName l)), dv, .string ⟨#[]⟩], .bool (cutIs l)]) ∧ S9 w' dv (cutDeps l) ∧ Below w.heap.size w w' := by
  have hnl := cutN_len l
  have hcl := cut_len (cutN l)
  have P := hid0 (cutPrefix_any l)
  have C := hid0 (cut_any (cutN l) (by omega))
  unfold cutIs cutName cutDeps
  generalize ([61, 61, 32] : Bs).isPrefixOf l = p0 at *
  generalize cutN l = N at *
  generalize Lib.cut N [32, 58, 32] = X at *
  obtain ⟨n, d, has⟩ := X
  simp only at hcl C ⊢
  have HM := hid0 hm
  clear hm
  cases has
  · simp only [Bool.false_eq_true, if_false, List.all_nil, Bool.and_true] at C ⊢
    go_enter Tryd.func43, Tryd.ntmps43
    go_wp2_with fail
    refine (P.out _).mono ?_
    rintro ev w2 ⟨rfl, rfl⟩
    go_wp2_with fail
    refine (C.out _ m (Below.cellOf ((Below.refl _ _).alloc (Nat.le_refl _) _) HM.out)).mono ?_
    rintro ev w3 ⟨rfl, k, rfl⟩
    go_wp2_with fail
    generalize hW : (((w.alloc (.cells #[.string ⟨#[]⟩, .slice none 0 0, .string ⟨#[]⟩] 43)).drewN k).setCell ⟨w.heap.size, 0, none⟩ (.string (str n))) = wr
    have HR : Aside (Row wr w.heap.size 43 [.string (str n), .slice none 0 0, .string ⟨#[]⟩]) := by
      rw [← hW]
      exact ((Row.new w 43 [.string ⟨#[]⟩, .slice none 0 0, .string ⟨#[]⟩]).drewN).set 0 _
    have HB : Aside (Below w.heap.size w wr) := by
      rw [← hW]
      exact (below_drewE ((Below.refl _ _).alloc (Nat.le_refl _) _) _).setCell (Nat.le_refl _) _
    clear hW
    have HS : Hid (S9 wr (.slice none 0 0) []) := ⟨by simp, .inl ⟨rfl, rfl⟩⟩
    have c0 : wr.cell? ⟨w.heap.size, 0, none⟩ = some (.string (str n)) := HR.out.cell 0
    have c1 : wr.cell? ⟨w.heap.size, 1, none⟩ = some (.slice none 0 0) := HR.out.cell 1
    have c2 : wr.cell? ⟨w.heap.size, 2, none⟩ = some (.string ⟨#[]⟩) := HR.out.cell 2
    have hln : n.length ≤ 9223372036854775807 := by omega
    have hsame := setRow_same HR.out.drew
    go_loopw [3, 30] (fun b i wx => i = .int .i64 0 ∧ b = .bool p0 ∧ wx = wr) (fun _ i _ => 0)
    case atStart => exact ⟨rfl, rfl, rfl⟩
    case round =>
      obtain ⟨rfl, rfl, rfl⟩ := hrel
      clear C P HM
      cases p0
      · go_wp2_with fail
        refine wp_region_held_drew (S := (fun y => y = wr.drew)) (by kernel_rfl) (rfl) (fun hHeld => ?_)
        refine wpAnyH_take (i := 0) (oi := { dst := some 40, op := Op.load 43 (Operand.tmp 2), type := 43, pos := "read.go:89", after := #[], guard := none }) (v := ?va0x0) rfl (by kernel_rfl) (by kernel_rfl) (by kernel_rfl) (fun _ _ _ h => h) (Or.inl ⟨by rfl, ?ha0x0⟩) hHeld ?ra0x0
        case ha0x0 => (intro y hy; subst hy; go_simp; with_reducible rfl)
        try simp only [Act.put, List.setIfInBounds_toArray, List.set_cons_zero, List.set_cons_succ]
        refine wpAnyH_take (i := 1) (oi := { dst := some 41, op := Op.move (Operand.tmp 3), type := 4, pos := "read.go:89", after := #[], guard := none }) (v := ?va0x1) rfl (by kernel_rfl) (by kernel_rfl) (by kernel_rfl) (fun _ _ _ h => h) (Or.inl ⟨by rfl, ?ha0x1⟩) hHeld ?ra0x1
        case ha0x1 => (intro y hy; go_simp; with_reducible rfl)
        try simp only [Act.put, List.setIfInBounds_toArray, List.set_cons_zero, List.set_cons_succ]
        refine wpAnyH_take (i := 2) (oi := { dst := some 42, op := Op.move (Operand.tmp 41), type := 4, pos := "read.go:89", after := #[{ on := 1, ground := Ground.data }], guard := none }) (v := ?va0x2) rfl (by kernel_rfl) (by kernel_rfl) (by kernel_rfl) (fun _ _ _ h => h) (Or.inl ⟨by rfl, ?ha0x2⟩) hHeld ?ra0x2
        case ha0x2 => (intro y hy; go_simp; with_reducible rfl)
        try simp only [Act.put, List.setIfInBounds_toArray, List.set_cons_zero, List.set_cons_succ]
        refine wpAnyH_take (i := 3) (oi := { dst := some 43, op := Op.move (Operand.tmp 5), type := 9, pos := "read.go:89", after := #[{ on := 2, ground := Ground.guard }], guard := some (2, true) }) (v := undef) rfl (by kernel_rfl) (by kernel_rfl) (by kernel_rfl) (fun _ _ _ h => h) (Or.inr ⟨by rfl, rfl⟩) hHeld ?_
        try simp only [Act.put, List.setIfInBounds_toArray, List.set_cons_zero, List.set_cons_succ]
        refine wpAnyH_take (i := 4) (oi := { dst := some 44, op := Op.call { callee := Callee.value (Operand.func 57), args := #[Operand.tmp 43], argTypes := #[9] }, type := 4, pos := "read.go:89", after := #[{ on := 3, ground := Ground.data }, { on := 2, ground := Ground.chain }, { on := 2, ground := Ground.guard }], guard := some (2, true) }) (v := undef) rfl (by kernel_rfl) (by kernel_rfl) (by kernel_rfl) (fun _ _ _ h => h) (Or.inr ⟨by rfl, rfl⟩) hHeld ?_
        try simp only [Act.put, List.setIfInBounds_toArray, List.set_cons_zero, List.set_cons_succ]
        refine wpAnyH_take (i := 5) (oi := { dst := some 45, op := Op.pick (Operand.tmp 42) (Operand.tmp 44) (Operand.const (Value.bool false)), type := 4, pos := "read.go:89", after := #[{ on := 2, ground := Ground.data }, { on := 4, ground := Ground.data }, { on := 6, ground := Ground.gcOnly Departure.lateStores }], guard := none }) (v := ?va0x5) rfl (by kernel_rfl) (by kernel_rfl) (by kernel_rfl) (fun _ _ _ h => h) (Or.inl ⟨by rfl, ?ha0x5⟩) hHeld ?ra0x5
        case ha0x5 => (intro y hy; go_simp; with_reducible rfl)
        try simp only [Act.put, List.setIfInBounds_toArray, List.set_cons_zero, List.set_cons_succ]
        refine wpAnyH_ready (rs := [6]) (by kernel_rfl) (by simp) ?_
        refine AllReadyH.cons (o := { dst := none, op := Op.store 43 (Operand.tmp 2) (Operand.tmp 40), type := 0, pos := "read.go:89", after := #[{ on := 0, ground := Ground.data }, { on := 4, ground := Ground.chain }, { on := 0, ground := Ground.phase }, { on := 1, ground := Ground.textOnly Departure.lateStores }, { on := 2, ground := Ground.textOnly Departure.lateStores }, { on := 3, ground := Ground.textOnly Departure.lateStores }, { on := 4, ground := Ground.textOnly Departure.lateStoresUnsure }, { on := 5, ground := Ground.textOnly Departure.lateStores }], guard := none }) rfl (fun K hK => ?_) AllReadyH.nil
        rw [if_pos (by rfl)]
        refine wp_store_row 43 _ _ rfl w.heap.size #[.string (str n), .slice none 0 0, .string ⟨#[]⟩] rfl rfl 43 #[.string (str n), .slice none 0 0, .string ⟨#[]⟩] (by rw [hHeld]; exact HR.out.heap) Tryd.info43 rfl (by simp [Value.oneCell']) ?_
        rw [hHeld, hsame]
        refine hK.out _ _ (rfl) (fun hHeld => ?_)
        clear hK K
        try simp only [Act.put]
        refine wpAnyH_take (i := 7) (oi := { dst := some 3, op := Op.assign (Operand.tmp 45), type := 4, pos := "read.go:89", after := #[{ on := 5, ground := Ground.data }, { on := 6, ground := Ground.chain }, { on := 0, ground := Ground.phase }, { on := 1, ground := Ground.phase }, { on := 2, ground := Ground.phase }, { on := 3, ground := Ground.phase }, { on := 4, ground := Ground.phase }, { on := 5, ground := Ground.phase }, { on := 6, ground := Ground.phase }], guard := none }) (v := ?va0x7) rfl (by kernel_rfl) (by kernel_rfl) (by kernel_rfl) (fun _ _ _ h => h) (Or.inl ⟨by rfl, ?ha0x7⟩) hHeld ?ra0x7
        case ha0x7 => (intro y hy; go_simp; with_reducible rfl)
        try simp only [Act.put, List.setIfInBounds_toArray, List.set_cons_zero, List.set_cons_succ]
        refine wpAnyH_done (by kernel_rfl) ?_ _
        go_wp2_with fail
        refine bodyPost_ret (v := .tuple #[.agg #[.string (str n), .slice none 0 0, .string ⟨#[]⟩], .bool false]) (results43_row _ _ w.heap.size _ _ rfl rfl rfl HR.out.drew.heap) rfl ⟨_, ?_, HS.out.below (Below.refl _ _).drew, HB.out.drew⟩
        first | rfl | simp
      · go_wp2_with fail
        refine wp_region_held_drew (S := (fun y => y = wr.drew)) (by kernel_rfl) (rfl) (fun hHeld => ?_)
        refine wpAnyH_take (i := 0) (oi := { dst := some 40, op := Op.load 43 (Operand.tmp 2), type := 43, pos := "read.go:89", after := #[], guard := none }) (v := ?va1x0) rfl (by kernel_rfl) (by kernel_rfl) (by kernel_rfl) (fun _ _ _ h => h) (Or.inl ⟨by rfl, ?ha1x0⟩) hHeld ?ra1x0
        case ha1x0 => (intro y hy; subst hy; go_simp; with_reducible rfl)
        try simp only [Act.put, List.setIfInBounds_toArray, List.set_cons_zero, List.set_cons_succ]
        refine wpAnyH_take (i := 1) (oi := { dst := some 41, op := Op.move (Operand.tmp 3), type := 4, pos := "read.go:89", after := #[], guard := none }) (v := ?va1x1) rfl (by kernel_rfl) (by kernel_rfl) (by kernel_rfl) (fun _ _ _ h => h) (Or.inl ⟨by rfl, ?ha1x1⟩) hHeld ?ra1x1
        case ha1x1 => (intro y hy; go_simp; with_reducible rfl)
        try simp only [Act.put, List.setIfInBounds_toArray, List.set_cons_zero, List.set_cons_succ]
        refine wpAnyH_take (i := 2) (oi := { dst := some 42, op := Op.move (Operand.tmp 41), type := 4, pos := "read.go:89", after := #[{ on := 1, ground := Ground.data }], guard := none }) (v := ?va1x2) rfl (by kernel_rfl) (by kernel_rfl) (by kernel_rfl) (fun _ _ _ h => h) (Or.inl ⟨by rfl, ?ha1x2⟩) hHeld ?ra1x2
        case ha1x2 => (intro y hy; go_simp; with_reducible rfl)
        try simp only [Act.put, List.setIfInBounds_toArray, List.set_cons_zero, List.set_cons_succ]
        refine wpAnyH_take (i := 3) (oi := { dst := some 43, op := Op.move (Operand.tmp 5), type := 9, pos := "read.go:89", after := #[{ on := 2, ground := Ground.guard }], guard := some (2, true) }) (v := ?va1x3) rfl (by kernel_rfl) (by kernel_rfl) (by kernel_rfl) (fun _ _ _ h => h) (Or.inl ⟨by rfl, ?ha1x3⟩) hHeld ?ra1x3
        case ha1x3 => (intro y hy; go_simp; with_reducible rfl)
        try simp only [Act.put, List.setIfInBounds_toArray, List.set_cons_zero, List.set_cons_succ]
        refine wpAnyH_ready (rs := [4]) (by kernel_rfl) (by simp) ?_
        refine AllReadyH.cons (o := { dst := some 44, op := Op.call { callee := Callee.value (Operand.func 57), args := #[Operand.tmp 43], argTypes := #[9] }, type := 4, pos := "read.go:89", after := #[{ on := 3, ground := Ground.data }, { on := 2, ground := Ground.chain }, { on := 2, ground := Ground.guard }], guard := some (2, true) }) rfl (fun K hK => ?_) AllReadyH.nil
        go_simp
        refine (name_any n hln _).mono ?_
        rintro ev y6 ⟨rfl, rfl⟩
        refine hK.out _ _ (hHeld) (fun hHeld => ?_)
        clear hK K
        try simp only [Act.put, List.setIfInBounds_toArray, List.set_cons_zero, List.set_cons_succ]
        refine wpAnyH_take (i := 5) (oi := { dst := some 45, op := Op.pick (Operand.tmp 42) (Operand.tmp 44) (Operand.const (Value.bool false)), type := 4, pos := "read.go:89", after := #[{ on := 2, ground := Ground.data }, { on := 4, ground := Ground.data }, { on := 6, ground := Ground.gcOnly Departure.lateStores }], guard := none }) (v := ?va1x5) rfl (by kernel_rfl) (by kernel_rfl) (by kernel_rfl) (fun _ _ _ h => h) (Or.inl ⟨by rfl, ?ha1x5⟩) hHeld ?ra1x5
        case ha1x5 => (intro y hy; go_simp; with_reducible rfl)
        try simp only [Act.put, List.setIfInBounds_toArray, List.set_cons_zero, List.set_cons_succ]
        refine wpAnyH_ready (rs := [6]) (by kernel_rfl) (by simp) ?_
        refine AllReadyH.cons (o := { dst := none, op := Op.store 43 (Operand.tmp 2) (Operand.tmp 40), type := 0, pos := "read.go:89", after := #[{ on := 0, ground := Ground.data }, { on := 4, ground := Ground.chain }, { on := 0, ground := Ground.phase }, { on := 1, ground := Ground.textOnly Departure.lateStores }, { on := 2, ground := Ground.textOnly Departure.lateStores }, { on := 3, ground := Ground.textOnly Departure.lateStores }, { on := 4, ground := Ground.textOnly Departure.lateStoresUnsure }, { on := 5, ground := Ground.textOnly Departure.lateStores }], guard := none }) rfl (fun K hK => ?_) AllReadyH.nil
        rw [if_pos (by rfl)]
        refine wp_store_row 43 _ _ rfl w.heap.size #[.string (str n), .slice none 0 0, .string ⟨#[]⟩] rfl rfl 43 #[.string (str n), .slice none 0 0, .string ⟨#[]⟩] (by rw [hHeld]; exact HR.out.heap) Tryd.info43 rfl (by simp [Value.oneCell']) ?_
        rw [hHeld, hsame]
        refine hK.out _ _ (rfl) (fun hHeld => ?_)
        clear hK K
        try simp only [Act.put]
        refine wpAnyH_take (i := 7) (oi := { dst := some 3, op := Op.assign (Operand.tmp 45), type := 4, pos := "read.go:89", after := #[{ on := 5, ground := Ground.data }, { on := 6, ground := Ground.chain }, { on := 0, ground := Ground.phase }, { on := 1, ground := Ground.phase }, { on := 2, ground := Ground.phase }, { on := 3, ground := Ground.phase }, { on := 4, ground := Ground.phase }, { on := 5, ground := Ground.phase }, { on := 6, ground := Ground.phase }], guard := none }) (v := ?va1x7) rfl (by kernel_rfl) (by kernel_rfl) (by kernel_rfl) (fun _ _ _ h => h) (Or.inl ⟨by rfl, ?ha1x7⟩) hHeld ?ra1x7
        case ha1x7 => (intro y hy; go_simp; with_reducible rfl)
        try simp only [Act.put, List.setIfInBounds_toArray, List.set_cons_zero, List.set_cons_succ]
        refine wpAnyH_done (by kernel_rfl) ?_ _
        go_wp2_with fail
        refine bodyPost_ret (v := .tuple #[.agg #[.string (str n), .slice none 0 0, .string ⟨#[]⟩], .bool (nameB n)]) (results43_row _ _ w.heap.size _ _ rfl rfl rfl HR.out.drew.heap) rfl ⟨_, ?_, HS.out.below (Below.refl _ _).drew, HB.out.drew⟩
        first | rfl | simp
  · simp only [if_true] at C ⊢
    have SP := hid0 (split_any d (by omega))
    go_enter Tryd.func43, Tryd.ntmps43
    go_wp2_with fail
    refine (P.out _).mono ?_
    rintro ev w2 ⟨rfl, rfl⟩
    go_wp2_with fail
    refine (C.out _ m (Below.cellOf ((Below.refl _ _).alloc (Nat.le_refl _) _) HM.out)).mono ?_
    rintro ev w3 ⟨rfl, k, rfl⟩
    go_wp2_with fail
    generalize hW : (((w.alloc (.cells #[.string ⟨#[]⟩, .slice none 0 0, .string ⟨#[]⟩] 43)).drewN k).setCell ⟨w.heap.size, 0, none⟩ (.string (str n))) = W
    have R : Row W w.heap.size 43 [.string (str n), .slice none 0 0, .string ⟨#[]⟩] := by
      rw [← hW]
      exact ((Row.new w 43 [.string ⟨#[]⟩, .slice none 0 0, .string ⟨#[]⟩]).drewN).set 0 _
    have HB : Below w.heap.size w W := by
      rw [← hW]
      exact (below_drewE ((Below.refl _ _).alloc (Nat.le_refl _) _) _).setCell (Nat.le_refl _) _
    clear hW
    refine (SP.out _ m (Below.cellOf HB HM.out)).mono ?_
    rintro ev w3 ⟨rfl, rfl⟩
    have hlt := R.lt
    have hne : w.heap.size ≠ W.heap.size := by omega
    have R1 : Row (W.alloc (.cells ((spl d).map fun d => .string (str d)).toArray 9)) w.heap.size 43 [.string (str n), .slice none 0 0, .string ⟨#[]⟩] := R.below ((Below.refl _ _).alloc (Nat.le_refl _) _) hlt
    have R9 : Row (W.alloc (.cells ((spl d).map fun d => .string (str d)).toArray 9)) W.heap.size 9 ((spl d).map fun d => .string (str d)) := Row.new W 9 _
    have HB1 : Below w.heap.size w (W.alloc (.cells ((spl d).map fun d => .string (str d)).toArray 9)) := HB.alloc (by omega) _
    generalize W.heap.size = g at *
    generalize (W.alloc (.cells ((spl d).map fun d => .string (str d)).toArray 9)) = W1 at *
    clear HB R hlt
    have f0 := R1.fz 1
    have c1 : W1.cell? ⟨w.heap.size, 1, none⟩ = some (.slice none 0 0) := R1.cell 1
    have hld : (spl d).length ≤ 4294967281 := by have := spl_len d; omega
    go_wp2_with fail
    have R2 : Row (W1.setCell ⟨w.heap.size, 1, none⟩ (.slice (some ⟨g, 0, none⟩) (spl d).length (spl d).length)) w.heap.size 43 [.string (str n), .slice (some ⟨g, 0, none⟩) (spl d).length (spl d).length, .string ⟨#[]⟩] := R1.set 1 _
    have R92 := R9.other (j := 1) (Ne.symm hne) (.slice (some ⟨g, 0, none⟩) (spl d).length (spl d).length)
    have HB2 := HB1.setCell (p := ⟨w.heap.size, 1, none⟩) (Nat.le_refl _) (.slice (some ⟨g, 0, none⟩) (spl d).length (spl d).length)
    generalize (W1.setCell ⟨w.heap.size, 1, none⟩ (.slice (some ⟨g, 0, none⟩) (spl d).length (spl d).length)) = W2 at *
    clear R1 R9 HB1 f0 c1 SP C P
    have HD : Hid (∀ i, i < (spl d).length → W2.cell? ⟨g, i, none⟩ = some (.string (str ((spl d).getD i [])))) := by
      intro i hi
      rw [R92.cell i]
      simp [List.getD, List.getElem?_eq_getElem hi]
    have HS : Hid (S9 W2 (.slice (some ⟨g, 0, none⟩) (spl d).length (spl d).length) (spl d)) := ⟨hld, .inr ⟨g, rfl, R92⟩⟩
    have HB := aside0 HB2
    have HR := aside0 R2
    have HN := hid0 (fun i (h : ((spl d).getD i []).length ≤ 9223372036854775807) => name_any ((spl d).getD i []) h W2)
    clear R92 HB2 R2
    have HNn := hid0 (name_any n (by omega) W2)
    have HL : Hid (∀ i, i < (spl d).length → ((spl d).getD i []).length ≤ 9223372036854775807) := by
      intro i hi
      have := spl_part d _ (getD_eq (spl d) i [] hi ▸ List.getElem_mem hi)
      omega
    generalize hds : spl d = ds at *
    have HDS := aside0 hds
    clear hds
    go_loopw [3, 30] (fun b i wr => ∃ k : Nat, k ≤ ds.length ∧ i = .int .i64 k ∧ b = .bool (p0 && (ds.take k).all nameB) ∧ wr = W2) (fun _ i _ => ds.length - (intOf i).toNat)
    case atStart => exact ⟨0, by omega, rfl, by simp, rfl⟩
    case round =>
      obtain ⟨k, hk, rfl, rfl, rfl⟩ := hrel
      by_cases h3 : k < ds.length
      · have q := HD.out k h3
        have l1 : (k : Int) < (ds.length : Int) := by omega
        have N := HN.out k (HL.out k h3)
        have e1 : (ds.take (k + 1)).all nameB = ((ds.take k).all nameB && nameB (ds.getD k [])) := by
          rw [List.take_add_one, List.all_append, List.getElem?_eq_getElem h3, getD_eq ds k [] h3]; simp
        have E1 : Hid ((p0 && (ds.take (k + 1)).all nameB) = ((p0 && (ds.take k).all nameB) && nameB (ds.getD k []))) := by
          show _ = _
          rw [e1, Bool.and_assoc]
        clear e1
        generalize nameB (ds.getD k []) = nb at *
        generalize str (ds.getD k []) = S at *
        generalize (p0 && (ds.take k).all nameB) = bv at *
        cases bv
        · clear N
          go_wp2_with fail
          go_roundw
          case rel => exact ⟨k + 1, by omega, by go_num, by rw [E1.out]; rfl, by trivial⟩
          case measure => simp [intOf]; omega
        · go_wp2_with fail
          refine N.mono ?_
          rintro ev w5 ⟨rfl, rfl⟩
          go_wp2_with fail
          go_roundw
          case rel => exact ⟨k + 1, by omega, by go_num, by rw [E1.out]; rfl, by trivial⟩
          case measure => simp [intOf]; omega
      · have l1 : ¬ (k : Int) < (ds.length : Int) := by omega
        have ek : ds.take k = ds := List.take_of_length_le (by omega)
        rw [ek]
        have c0 : wr.cell? ⟨w.heap.size, 0, none⟩ = some (.string (str n)) := HR.out.cell 0
        have c1 : wr.cell? ⟨w.heap.size, 1, none⟩ = some (.slice (some ⟨g, 0, none⟩) ds.length ds.length) := HR.out.cell 1
        have c2 : wr.cell? ⟨w.heap.size, 2, none⟩ = some (.string ⟨#[]⟩) := HR.out.cell 2
        have hln : n.length ≤ 9223372036854775807 := by omega
        have hsame := setRow_same HR.out.drew
        clear HN HD HL ek hk hld hnl hcl HM
        generalize hbv : (p0 && ds.all nameB) = bv
        have HV := aside0 hbv
        clear hbv
        cases bv
        · go_wp2_with fail
          refine wp_region_held_drew (S := (fun y => y = wr.drew)) (by kernel_rfl) (rfl) (fun hHeld => ?_)
          refine wpAnyH_take (i := 0) (oi := { dst := some 40, op := Op.load 43 (Operand.tmp 2), type := 43, pos := "read.go:89", after := #[], guard := none }) (v := ?vb0x0) rfl (by kernel_rfl) (by kernel_rfl) (by kernel_rfl) (fun _ _ _ h => h) (Or.inl ⟨by rfl, ?hb0x0⟩) hHeld ?rb0x0
          case hb0x0 => (intro y hy; subst hy; go_simp; with_reducible rfl)
          try simp only [Act.put, List.setIfInBounds_toArray, List.set_cons_zero, List.set_cons_succ]
          refine wpAnyH_take (i := 1) (oi := { dst := some 41, op := Op.move (Operand.tmp 3), type := 4, pos := "read.go:89", after := #[], guard := none }) (v := ?vb0x1) rfl (by kernel_rfl) (by kernel_rfl) (by kernel_rfl) (fun _ _ _ h => h) (Or.inl ⟨by rfl, ?hb0x1⟩) hHeld ?rb0x1
          case hb0x1 => (intro y hy; go_simp; with_reducible rfl)
          try simp only [Act.put, List.setIfInBounds_toArray, List.set_cons_zero, List.set_cons_succ]
          refine wpAnyH_take (i := 2) (oi := { dst := some 42, op := Op.move (Operand.tmp 41), type := 4, pos := "read.go:89", after := #[{ on := 1, ground := Ground.data }], guard := none }) (v := ?vb0x2) rfl (by kernel_rfl) (by kernel_rfl) (by kernel_rfl) (fun _ _ _ h => h) (Or.inl ⟨by rfl, ?hb0x2⟩) hHeld ?rb0x2
          case hb0x2 => (intro y hy; go_simp; with_reducible rfl)
          try simp only [Act.put, List.setIfInBounds_toArray, List.set_cons_zero, List.set_cons_succ]
          refine wpAnyH_take (i := 3) (oi := { dst := some 43, op := Op.move (Operand.tmp 5), type := 9, pos := "read.go:89", after := #[{ on := 2, ground := Ground.guard }], guard := some (2, true) }) (v := undef) rfl (by kernel_rfl) (by kernel_rfl) (by kernel_rfl) (fun _ _ _ h => h) (Or.inr ⟨by rfl, rfl⟩) hHeld ?_
          try simp only [Act.put, List.setIfInBounds_toArray, List.set_cons_zero, List.set_cons_succ]
          refine wpAnyH_take (i := 4) (oi := { dst := some 44, op := Op.call { callee := Callee.value (Operand.func 57), args := #[Operand.tmp 43], argTypes := #[9] }, type := 4, pos := "read.go:89", after := #[{ on := 3, ground := Ground.data }, { on := 2, ground := Ground.chain }, { on := 2, ground := Ground.guard }], guard := some (2, true) }) (v := undef) rfl (by kernel_rfl) (by kernel_rfl) (by kernel_rfl) (fun _ _ _ h => h) (Or.inr ⟨by rfl, rfl⟩) hHeld ?_
          try simp only [Act.put, List.setIfInBounds_toArray, List.set_cons_zero, List.set_cons_succ]
          refine wpAnyH_take (i := 5) (oi := { dst := some 45, op := Op.pick (Operand.tmp 42) (Operand.tmp 44) (Operand.const (Value.bool false)), type := 4, pos := "read.go:89", after := #[{ on := 2, ground := Ground.data }, { on := 4, ground := Ground.data }, { on := 6, ground := Ground.gcOnly Departure.lateStores }], guard := none }) (v := ?vb0x5) rfl (by kernel_rfl) (by kernel_rfl) (by kernel_rfl) (fun _ _ _ h => h) (Or.inl ⟨by rfl, ?hb0x5⟩) hHeld ?rb0x5
          case hb0x5 => (intro y hy; go_simp; with_reducible rfl)
          try simp only [Act.put, List.setIfInBounds_toArray, List.set_cons_zero, List.set_cons_succ]
          refine wpAnyH_ready (rs := [6]) (by kernel_rfl) (by simp) ?_
          refine AllReadyH.cons (o := { dst := none, op := Op.store 43 (Operand.tmp 2) (Operand.tmp 40), type := 0, pos := "read.go:89", after := #[{ on := 0, ground := Ground.data }, { on := 4, ground := Ground.chain }, { on := 0, ground := Ground.phase }, { on := 1, ground := Ground.textOnly Departure.lateStores }, { on := 2, ground := Ground.textOnly Departure.lateStores }, { on := 3, ground := Ground.textOnly Departure.lateStores }, { on := 4, ground := Ground.textOnly Departure.lateStoresUnsure }, { on := 5, ground := Ground.textOnly Departure.lateStores }], guard := none }) rfl (fun K hK => ?_) AllReadyH.nil
          rw [if_pos (by rfl)]
          refine wp_store_row 43 _ _ rfl w.heap.size #[.string (str n), .slice (some ⟨g, 0, none⟩) ds.length ds.length, .string ⟨#[]⟩] rfl rfl 43 #[.string (str n), .slice (some ⟨g, 0, none⟩) ds.length ds.length, .string ⟨#[]⟩] (by rw [hHeld]; exact HR.out.heap) Tryd.info43 rfl (by simp [Value.oneCell']) ?_
          rw [hHeld, hsame]
          refine hK.out _ _ (rfl) (fun hHeld => ?_)
          clear hK K
          try simp only [Act.put]
          refine wpAnyH_take (i := 7) (oi := { dst := some 3, op := Op.assign (Operand.tmp 45), type := 4, pos := "read.go:89", after := #[{ on := 5, ground := Ground.data }, { on := 6, ground := Ground.chain }, { on := 0, ground := Ground.phase }, { on := 1, ground := Ground.phase }, { on := 2, ground := Ground.phase }, { on := 3, ground := Ground.phase }, { on := 4, ground := Ground.phase }, { on := 5, ground := Ground.phase }, { on := 6, ground := Ground.phase }], guard := none }) (v := ?vb0x7) rfl (by kernel_rfl) (by kernel_rfl) (by kernel_rfl) (fun _ _ _ h => h) (Or.inl ⟨by rfl, ?hb0x7⟩) hHeld ?rb0x7
          case hb0x7 => (intro y hy; go_simp; with_reducible rfl)
          try simp only [Act.put, List.setIfInBounds_toArray, List.set_cons_zero, List.set_cons_succ]
          refine wpAnyH_done (by kernel_rfl) ?_ _
          go_wp2_with fail
          refine bodyPost_ret (v := .tuple #[.agg #[.string (str n), .slice (some ⟨g, 0, none⟩) ds.length ds.length, .string ⟨#[]⟩], .bool false]) (results43_row _ _ w.heap.size _ _ rfl rfl rfl HR.out.drew.heap) rfl ⟨_, ?_, (by rw [HDS.out]; exact HS.out.below (Below.refl _ _).drew), HB.out.drew⟩
          rw [HDS.out, HV.out]; rfl
        · go_wp2_with fail
          refine wp_region_held_drew (S := (fun y => y = wr.drew)) (by kernel_rfl) (rfl) (fun hHeld => ?_)
          refine wpAnyH_take (i := 0) (oi := { dst := some 40, op := Op.load 43 (Operand.tmp 2), type := 43, pos := "read.go:89", after := #[], guard := none }) (v := ?vb1x0) rfl (by kernel_rfl) (by kernel_rfl) (by kernel_rfl) (fun _ _ _ h => h) (Or.inl ⟨by rfl, ?hb1x0⟩) hHeld ?rb1x0
          case hb1x0 => (intro y hy; subst hy; go_simp; with_reducible rfl)
          try simp only [Act.put, List.setIfInBounds_toArray, List.set_cons_zero, List.set_cons_succ]
          refine wpAnyH_take (i := 1) (oi := { dst := some 41, op := Op.move (Operand.tmp 3), type := 4, pos := "read.go:89", after := #[], guard := none }) (v := ?vb1x1) rfl (by kernel_rfl) (by kernel_rfl) (by kernel_rfl) (fun _ _ _ h => h) (Or.inl ⟨by rfl, ?hb1x1⟩) hHeld ?rb1x1
          case hb1x1 => (intro y hy; go_simp; with_reducible rfl)
          try simp only [Act.put, List.setIfInBounds_toArray, List.set_cons_zero, List.set_cons_succ]
          refine wpAnyH_take (i := 2) (oi := { dst := some 42, op := Op.move (Operand.tmp 41), type := 4, pos := "read.go:89", after := #[{ on := 1, ground := Ground.data }], guard := none }) (v := ?vb1x2) rfl (by kernel_rfl) (by kernel_rfl) (by kernel_rfl) (fun _ _ _ h => h) (Or.inl ⟨by rfl, ?hb1x2⟩) hHeld ?rb1x2
          case hb1x2 => (intro y hy; go_simp; with_reducible rfl)
          try simp only [Act.put, List.setIfInBounds_toArray, List.set_cons_zero, List.set_cons_succ]
          refine wpAnyH_take (i := 3) (oi := { dst := some 43, op := Op.move (Operand.tmp 5), type := 9, pos := "read.go:89", after := #[{ on := 2, ground := Ground.guard }], guard := some (2, true) }) (v := ?vb1x3) rfl (by kernel_rfl) (by kernel_rfl) (by kernel_rfl) (fun _ _ _ h => h) (Or.inl ⟨by rfl, ?hb1x3⟩) hHeld ?rb1x3
          case hb1x3 => (intro y hy; go_simp; with_reducible rfl)
          try simp only [Act.put, List.setIfInBounds_toArray, List.set_cons_zero, List.set_cons_succ]
          refine wpAnyH_ready (rs := [4]) (by kernel_rfl) (by simp) ?_
          refine AllReadyH.cons (o := { dst := some 44, op := Op.call { callee := Callee.value (Operand.func 57), args := #[Operand.tmp 43], argTypes := #[9] }, type := 4, pos := "read.go:89", after := #[{ on := 3, ground := Ground.data }, { on := 2, ground := Ground.chain }, { on := 2, ground := Ground.guard }], guard := some (2, true) }) rfl (fun K hK => ?_) AllReadyH.nil
          go_simp
          refine (name_any n hln _).mono ?_
          rintro ev y6 ⟨rfl, rfl⟩
          refine hK.out _ _ (hHeld) (fun hHeld => ?_)
          clear hK K
          try simp only [Act.put, List.setIfInBounds_toArray, List.set_cons_zero, List.set_cons_succ]
          refine wpAnyH_take (i := 5) (oi := { dst := some 45, op := Op.pick (Operand.tmp 42) (Operand.tmp 44) (Operand.const (Value.bool false)), type := 4, pos := "read.go:89", after := #[{ on := 2, ground := Ground.data }, { on := 4, ground := Ground.data }, { on := 6, ground := Ground.gcOnly Departure.lateStores }], guard := none }) (v := ?vb1x5) rfl (by kernel_rfl) (by kernel_rfl) (by kernel_rfl) (fun _ _ _ h => h) (Or.inl ⟨by rfl, ?hb1x5⟩) hHeld ?rb1x5
          case hb1x5 => (intro y hy; go_simp; with_reducible rfl)
          try simp only [Act.put, List.setIfInBounds_toArray, List.set_cons_zero, List.set_cons_succ]
          refine wpAnyH_ready (rs := [6]) (by kernel_rfl) (by simp) ?_
          refine AllReadyH.cons (o := { dst := none, op := Op.store 43 (Operand.tmp 2) (Operand.tmp 40), type := 0, pos := "read.go:89", after := #[{ on := 0, ground := Ground.data }, { on := 4, ground := Ground.chain }, { on := 0, ground := Ground.phase }, { on := 1, ground := Ground.textOnly Departure.lateStores }, { on := 2, ground := Ground.textOnly Departure.lateStores }, { on := 3, ground := Ground.textOnly Departure.lateStores }, { on := 4, ground := Ground.textOnly Departure.lateStoresUnsure }, { on := 5, ground := Ground.textOnly Departure.lateStores }], guard := none }) rfl (fun K hK => ?_) AllReadyH.nil
          rw [if_pos (by rfl)]
          refine wp_store_row 43 _ _ rfl w.heap.size #[.string (str n), .slice (some ⟨g, 0, none⟩) ds.length ds.length, .string ⟨#[]⟩] rfl rfl 43 #[.string (str n), .slice (some ⟨g, 0, none⟩) ds.length ds.length, .string ⟨#[]⟩] (by rw [hHeld]; exact HR.out.heap) Tryd.info43 rfl (by simp [Value.oneCell']) ?_
          rw [hHeld, hsame]
          refine hK.out _ _ (rfl) (fun hHeld => ?_)
          clear hK K
          try simp only [Act.put]
          refine wpAnyH_take (i := 7) (oi := { dst := some 3, op := Op.assign (Operand.tmp 45), type := 4, pos := "read.go:89", after := #[{ on := 5, ground := Ground.data }, { on := 6, ground := Ground.chain }, { on := 0, ground := Ground.phase }, { on := 1, ground := Ground.phase }, { on := 2, ground := Ground.phase }, { on := 3, ground := Ground.phase }, { on := 4, ground := Ground.phase }, { on := 5, ground := Ground.phase }, { on := 6, ground := Ground.phase }], guard := none }) (v := ?vb1x7) rfl (by kernel_rfl) (by kernel_rfl) (by kernel_rfl) (fun _ _ _ h => h) (Or.inl ⟨by rfl, ?hb1x7⟩) hHeld ?rb1x7
          case hb1x7 => (intro y hy; go_simp; with_reducible rfl)
          try simp only [Act.put, List.setIfInBounds_toArray, List.set_cons_zero, List.set_cons_succ]
          refine wpAnyH_done (by kernel_rfl) ?_ _
          go_wp2_with fail
          refine bodyPost_ret (v := .tuple #[.agg #[.string (str n), .slice (some ⟨g, 0, none⟩) ds.length ds.length, .string ⟨#[]⟩], .bool (nameB n)]) (results43_row _ _ w.heap.size _ _ rfl rfl rfl HR.out.drew.heap) rfl ⟨_, ?_, (by rw [HDS.out]; exact HS.out.below (Below.refl _ _).drew), HB.out.drew⟩
          rw [HDS.out, HV.out]; rfl
end Go.Proofs.YtmfdmpfeoppnfaaDoor
