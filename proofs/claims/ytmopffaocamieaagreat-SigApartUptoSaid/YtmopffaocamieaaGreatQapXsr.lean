/-
  Two statements copied into variables of their own: a region that draws its order.
-/
import Derived.Test.YtmopffaocamieaaGreatJapXsf2
import Derived.Test.YtmopffaocamieaaGreatJapPrc2
namespace Go.Proofs.YtmopffaocamieaaGreat
open Go.RowKit

theorem wpo_alloc49 {o : Oper} {a : Act} {K : Act → World → Prop} {Q : Exit → Act → World → Prop} {w : World} (ho : o.op = .alloc 114)
    (k : ∀ w', Row w' w.heap.size 114 (stCells 0 0) → Below w.heap.size w w' → w'.heap.size = w.heap.size + 1 → K (a.put o.dst (.pointer (some ⟨w.heap.size, 0, none⟩))) w') : Oper.wp Tryz.prog o a w K Q := by
  obtain ⟨i0, hi, hz0, hz1, hz2⟩ := info_parts Tryz.info49z
  have h := k _ (Row.new w 114 (stCells 0 0)) (alloc_one _ _) (size_alloc _ _)
  unfold Oper.wp execOp
  simp only [ho]
  go_simp
  exact h
theorem wpo_store49 {o : Oper} {a : Act} {K : Act → World → Prop} {Q : Exit → Act → World → Prop} {w : World} (x y : Operand) (ho : o.op = .store 114 x y) (g : Nat) (old cs : List Value) (hr : Row w g 114 old) (hl : old.length = 32) (hc : cs.length = 32)
    (hx : a.eval x = .pointer (some ⟨g, 0, none⟩)) (hy : a.eval y = .agg cs.toArray) (h1 : ∀ u ∈ cs, u.oneCell' = true)
    (k : ∀ w', Row w' g 114 cs → Stay (fun k => k = g) w w' → K (a.put o.dst undef) w') : Oper.wp Tryz.prog o a w K Q := by
  refine wp_store_row 114 x y ho g cs.toArray hx hy 114 old.toArray hr.heap (by rw [List.size_toArray, hc]; kernel_rfl) (by simp [hl, hc]) (all_one h1) (k _ (hr.setRow cs) ?_)
  refine ⟨rfl, rfl, rfl, by simp [World.setRow], fun i hi hne => ?_⟩
  simp only [World.setRow, Array.getElem?_modify]
  rw [if_neg (fun e => hne e.symm)]

set_option maxHeartbeats 8000000 in
set_option maxRecDepth 20000 in
theorem r77_any (w : World) (b o b' o' nx ny cx cy k : Nat) (csx csy : List Value) (hx : w.rangeAt b (o + k * 32) csx) (hy : w.rangeAt b' (o' + k * 32) csy) (hb : b < w.heap.size) (hb' : b' < w.heap.size)
    (lx : csx.length = 32) (ly : csy.length = 32) (ox : ∀ u ∈ csx, u.oneCell' = true) (oy : ∀ u ∈ csy, u.oneCell' = true) (i1 : (k : Int) < (nx : Int)) (i2 : (k : Int) < (ny : Int))
    (u2 u3 u4 u6 u7 u8 u9 u10 u11 u12 u13 u14 u15 u16 u17 u18 u19 u20 u21 u22 u23 u24 u25 u26 u27 u28 u29 u30 u31 u32 u33 u34 u35 u36 u37 u38 u39 u40 u41 u42 u43 u44 u45 u46 u47 u48 u49 u50 u51 u52 u53 u54 u55 u56 u57 u58 u59 u60 u61 u62 u63 u64 u65 u66 u67 u68 u69 u70 u71 u72 u73 u74 u75 u76 u77 u78 u79 u80 u81 u82 u83 u84 u85 u86 u87 u88 u89 u90 u91 u92 u93 u94 u95 u96 u97 u98 u99 u100 u101 u102 u103 u104 u105 u106 u107 : Value) :
    (Code.region 6 #[{ dst := some 19, op := Op.move (Operand.tmp 0), type := 63, pos := "ref.go:64", after := #[], guard := none }, { dst := some 20, op := Op.move (Operand.tmp 5), type := 3, pos := "ref.go:64", after := #[], guard := none }, { dst := some 21, op := Op.indexAddr 63 (Operand.tmp 19) (Operand.tmp 20), type := 0, pos := "ref.go:64", after := #[{ on := 0, ground := Ground.data }, { on := 1, ground := Ground.data }], guard := none }, { dst := some 22, op := Op.load 114 (Operand.tmp 21), type := 114, pos := "ref.go:64", after := #[{ on := 2, ground := Ground.data }], guard := none }, { dst := some 23, op := Op.move (Operand.tmp 1), type := 63, pos := "ref.go:64", after := #[{ on := 10, ground := Ground.gcOnly Departure.lateStores }], guard := none }, { dst := some 24, op := Op.move (Operand.tmp 5), type := 3, pos := "ref.go:64", after := #[{ on := 10, ground := Ground.gcOnly Departure.lateStores }], guard := none }, { dst := some 25, op := Op.indexAddr 63 (Operand.tmp 23) (Operand.tmp 24), type := 0, pos := "ref.go:64", after := #[{ on := 4, ground := Ground.data }, { on := 5, ground := Ground.data }, { on := 10, ground := Ground.gcOnly Departure.lateStores }], guard := none }, { dst := some 26, op := Op.load 114 (Operand.tmp 25), type := 114, pos := "ref.go:64", after := #[{ on := 6, ground := Ground.data }, { on := 10, ground := Ground.gcOnly Departure.lateStores }], guard := none }, { dst := some 6, op := Op.alloc 114, type := 0, pos := "ref.go:64", after := #[], guard := none }, { dst := some 7, op := Op.alloc 114, type := 0, pos := "ref.go:64", after := #[], guard := none }, { dst := none, op := Op.store 114 (Operand.tmp 6) (Operand.tmp 22), type := 0, pos := "ref.go:64", after := #[{ on := 8, ground := Ground.data }, { on := 3, ground := Ground.data }, { on := 0, ground := Ground.phase }, { on := 1, ground := Ground.phase }, { on := 2, ground := Ground.phase }, { on := 3, ground := Ground.phase }, { on := 4, ground := Ground.textOnly Departure.lateStores }, { on := 5, ground := Ground.textOnly Departure.lateStores }, { on := 6, ground := Ground.textOnly Departure.lateStores }, { on := 7, ground := Ground.textOnly Departure.lateStores }, { on := 8, ground := Ground.phase }, { on := 9, ground := Ground.phase }], guard := none }, { dst := none, op := Op.store 114 (Operand.tmp 7) (Operand.tmp 26), type := 0, pos := "ref.go:64", after := #[{ on := 9, ground := Ground.data }, { on := 7, ground := Ground.data }, { on := 10, ground := Ground.chain }, { on := 0, ground := Ground.phase }, { on := 1, ground := Ground.phase }, { on := 2, ground := Ground.phase }, { on := 3, ground := Ground.phase }, { on := 4, ground := Ground.phase }, { on := 5, ground := Ground.phase }, { on := 6, ground := Ground.phase }, { on := 7, ground := Ground.phase }, { on := 8, ground := Ground.phase }, { on := 9, ground := Ground.phase }, { on := 10, ground := Ground.phase }], guard := none }] true).wp Tryz.prog (fun e a' w' => e = Exit.normal ∧ ∃ gx gy, a' = { tmps := #[.slice (some ⟨b, o, none⟩) nx cx, .slice (some ⟨b', o', none⟩) ny cy, u2, u3, u4, .int .i64 (k : Int), .pointer (some ⟨gx, 0, none⟩), .pointer (some ⟨gy, 0, none⟩), u8, u9, u10, u11, u12, u13, u14, u15, u16, u17, u18, .slice (some ⟨b, o, none⟩) nx cx, .int .i64 (k : Int), .pointer (some ⟨b, o + k * 32, none⟩), .agg csx.toArray, .slice (some ⟨b', o', none⟩) ny cy, .int .i64 (k : Int), .pointer (some ⟨b', o' + k * 32, none⟩), .agg csy.toArray, u27, u28, u29, u30, u31, u32, u33, u34, u35, u36, u37, u38, u39, u40, u41, u42, u43, u44, u45, u46, u47, u48, u49, u50, u51, u52, u53, u54, u55, u56, u57, u58, u59, u60, u61, u62, u63, u64, u65, u66, u67, u68, u69, u70, u71, u72, u73, u74, u75, u76, u77, u78, u79, u80, u81, u82, u83, u84, u85, u86, u87, u88, u89, u90, u91, u92, u93, u94, u95, u96, u97, u98, u99, u100, u101, u102, u103, u104, u105, u106, u107], defers := [] } ∧ Row w' gx 114 csx ∧ Row w' gy 114 csy ∧ w.heap.size ≤ gx ∧ w.heap.size ≤ gy ∧ Below w.heap.size w w') { tmps := #[.slice (some ⟨b, o, none⟩) nx cx, .slice (some ⟨b', o', none⟩) ny cy, u2, u3, u4, .int .i64 (k : Int), u6, u7, u8, u9, u10, u11, u12, u13, u14, u15, u16, u17, u18, u19, u20, u21, u22, u23, u24, u25, u26, u27, u28, u29, u30, u31, u32, u33, u34, u35, u36, u37, u38, u39, u40, u41, u42, u43, u44, u45, u46, u47, u48, u49, u50, u51, u52, u53, u54, u55, u56, u57, u58, u59, u60, u61, u62, u63, u64, u65, u66, u67, u68, u69, u70, u71, u72, u73, u74, u75, u76, u77, u78, u79, u80, u81, u82, u83, u84, u85, u86, u87, u88, u89, u90, u91, u92, u93, u94, u95, u96, u97, u98, u99, u100, u101, u102, u103, u104, u105, u106, u107], defers := [] } w := by
  have HX : ∀ y, Below w.heap.size w y → y.rangeAt b (o + k * 32) csx := fun y h j u hj => by rw [h.cell (p := ⟨b, o + k * 32 + j, none⟩) hb]; exact hx j u hj
  have HY : ∀ y, Below w.heap.size w y → y.rangeAt b' (o' + k * 32) csy := fun y h j u hj => by rw [h.cell (p := ⟨b', o' + k * 32 + j, none⟩) hb']; exact hy j u hj
  have hi : (Tryz.prog.info? 114).map (·.size) = some csx.length := by rw [lx]; kernel_rfl
  have hi' : (Tryz.prog.info? 114).map (·.size) = some csy.length := by rw [ly]; kernel_rfl
  clear hx hy
  refine wp_region_held_drew (S := fun y => Below w.heap.size w y) (by kernel_rfl) ((Below.refl _ _).drew) (fun hHeld => ?_)
  have hdz : w.drew.heap.size = w.heap.size := rfl
  generalize w.drew = wd at *
  refine wpAnyH_take (i := 0) (oi := { dst := some 19, op := Op.move (Operand.tmp 0), type := 63, pos := "ref.go:64", after := #[], guard := none }) (v := ?v0) rfl (by kernel_rfl) (by kernel_rfl) (by kernel_rfl) (fun _ _ _ h => (by obtain ⟨h, _⟩ := h; cases h)) (Or.inl ⟨by rfl, ?h0⟩) hHeld ?r0
  case h0 => (intro y hy; go_simp; with_reducible rfl)
  try simp only [Act.put, List.setIfInBounds_toArray, List.set_cons_zero, List.set_cons_succ]
  refine wpAnyH_take (i := 1) (oi := { dst := some 20, op := Op.move (Operand.tmp 5), type := 3, pos := "ref.go:64", after := #[], guard := none }) (v := ?v1) rfl (by kernel_rfl) (by kernel_rfl) (by kernel_rfl) (fun _ _ _ h => (by obtain ⟨h, _⟩ := h; cases h)) (Or.inl ⟨by rfl, ?h1⟩) hHeld ?r1
  case h1 => (intro y hy; go_simp; with_reducible rfl)
  try simp only [Act.put, List.setIfInBounds_toArray, List.set_cons_zero, List.set_cons_succ]
  refine wpAnyH_take (i := 2) (oi := { dst := some 21, op := Op.indexAddr 63 (Operand.tmp 19) (Operand.tmp 20), type := 0, pos := "ref.go:64", after := #[{ on := 0, ground := Ground.data }, { on := 1, ground := Ground.data }], guard := none }) (v := ?v2) rfl (by kernel_rfl) (by kernel_rfl) (by kernel_rfl) (fun _ _ _ h => (by obtain ⟨h, _⟩ := h; cases h)) (Or.inl ⟨by rfl, ?h2⟩) hHeld ?r2
  case h2 => (intro y hy; go_simp; with_reducible rfl)
  try simp only [Act.put, List.setIfInBounds_toArray, List.set_cons_zero, List.set_cons_succ]
  refine wpAnyH_take (i := 3) (oi := { dst := some 22, op := Op.load 114 (Operand.tmp 21), type := 114, pos := "ref.go:64", after := #[{ on := 2, ground := Ground.data }], guard := none }) (v := _) rfl (by kernel_rfl) (by kernel_rfl) (by kernel_rfl) (fun _ _ _ h => (by obtain ⟨h, _⟩ := h; cases h)) (yieldsIf_load_mid (by rfl) _ _ rfl _ _ rfl csx _ HX Tryz.underlying114 rfl hi) hHeld ?_
  try simp only [Act.put, List.setIfInBounds_toArray, List.set_cons_zero, List.set_cons_succ]
  refine wpAnyH_take (i := 4) (oi := { dst := some 23, op := Op.move (Operand.tmp 1), type := 63, pos := "ref.go:64", after := #[{ on := 10, ground := Ground.gcOnly Departure.lateStores }], guard := none }) (v := ?v4) rfl (by kernel_rfl) (by kernel_rfl) (by kernel_rfl) (fun _ _ _ h => (by obtain ⟨h, _⟩ := h; cases h)) (Or.inl ⟨by rfl, ?h4⟩) hHeld ?r4
  case h4 => (intro y hy; go_simp; with_reducible rfl)
  try simp only [Act.put, List.setIfInBounds_toArray, List.set_cons_zero, List.set_cons_succ]
  refine wpAnyH_take (i := 5) (oi := { dst := some 24, op := Op.move (Operand.tmp 5), type := 3, pos := "ref.go:64", after := #[{ on := 10, ground := Ground.gcOnly Departure.lateStores }], guard := none }) (v := ?v5) rfl (by kernel_rfl) (by kernel_rfl) (by kernel_rfl) (fun _ _ _ h => (by obtain ⟨h, _⟩ := h; cases h)) (Or.inl ⟨by rfl, ?h5⟩) hHeld ?r5
  case h5 => (intro y hy; go_simp; with_reducible rfl)
  try simp only [Act.put, List.setIfInBounds_toArray, List.set_cons_zero, List.set_cons_succ]
  refine wpAnyH_take (i := 6) (oi := { dst := some 25, op := Op.indexAddr 63 (Operand.tmp 23) (Operand.tmp 24), type := 0, pos := "ref.go:64", after := #[{ on := 4, ground := Ground.data }, { on := 5, ground := Ground.data }, { on := 10, ground := Ground.gcOnly Departure.lateStores }], guard := none }) (v := ?v6) rfl (by kernel_rfl) (by kernel_rfl) (by kernel_rfl) (fun _ _ _ h => (by obtain ⟨h, _⟩ := h; cases h)) (Or.inl ⟨by rfl, ?h6⟩) hHeld ?r6
  case h6 => (intro y hy; go_simp; with_reducible rfl)
  try simp only [Act.put, List.setIfInBounds_toArray, List.set_cons_zero, List.set_cons_succ]
  refine wpAnyH_take (i := 7) (oi := { dst := some 26, op := Op.load 114 (Operand.tmp 25), type := 114, pos := "ref.go:64", after := #[{ on := 6, ground := Ground.data }, { on := 10, ground := Ground.gcOnly Departure.lateStores }], guard := none }) (v := _) rfl (by kernel_rfl) (by kernel_rfl) (by kernel_rfl) (fun _ _ _ h => (by obtain ⟨h, _⟩ := h; cases h)) (yieldsIf_load_mid (by rfl) _ _ rfl _ _ rfl csy _ HY Tryz.underlying114 rfl hi') hHeld ?_
  try simp only [Act.put, List.setIfInBounds_toArray, List.set_cons_zero, List.set_cons_succ]
  clear HX HY hi hi'
  refine wpAnyH_ready (rs := [8, 9]) (by kernel_rfl) (by simp) ?_
  refine AllReadyH.cons (o := { dst := some 6, op := Op.alloc 114, type := 0, pos := "ref.go:64", after := #[], guard := none }) rfl (fun K hK => ?_) (AllReadyH.cons (o := { dst := some 7, op := Op.alloc 114, type := 0, pos := "ref.go:64", after := #[], guard := none }) rfl (fun K hK => ?_) AllReadyH.nil)
  · refine want (by rfl) ?_
    refine wpo_alloc49 rfl ?_
    intro w1 R1 b1 z1
    have hH1 : Below w.heap.size w w1 := hHeld.trans (below_le b1 (by omega))
    refine hK.out _ _ hH1 (fun hHeld => ?_)
    clear hK K
    try simp only [Act.put, List.setIfInBounds_toArray, List.set_cons_zero, List.set_cons_succ]
    refine wpAnyH_ready (rs := [9]) (by kernel_rfl) (by simp) ?_
    refine AllReadyH.cons (o := { dst := some 7, op := Op.alloc 114, type := 0, pos := "ref.go:64", after := #[], guard := none }) rfl (fun K hK => ?_) AllReadyH.nil
    refine want (by rfl) ?_
    refine wpo_alloc49 rfl ?_
    intro w2 R2 b2 z2
    have R1b := R1.below b2 R1.lt
    have hH2 : Below w.heap.size w w2 := hHeld.trans (below_le b2 (by omega))
    refine hK.out _ _ hH2 (fun hHeld => ?_)
    clear hK K
    try simp only [Act.put, List.setIfInBounds_toArray, List.set_cons_zero, List.set_cons_succ]
    refine wpAnyH_ready (rs := [10]) (by kernel_rfl) (by simp) ?_
    refine AllReadyH.cons (o := { dst := none, op := Op.store 114 (Operand.tmp 6) (Operand.tmp 22), type := 0, pos := "ref.go:64", after := #[{ on := 8, ground := Ground.data }, { on := 3, ground := Ground.data }, { on := 0, ground := Ground.phase }, { on := 1, ground := Ground.phase }, { on := 2, ground := Ground.phase }, { on := 3, ground := Ground.phase }, { on := 4, ground := Ground.textOnly Departure.lateStores }, { on := 5, ground := Ground.textOnly Departure.lateStores }, { on := 6, ground := Ground.textOnly Departure.lateStores }, { on := 7, ground := Ground.textOnly Departure.lateStores }, { on := 8, ground := Ground.phase }, { on := 9, ground := Ground.phase }], guard := none }) rfl (fun K hK => ?_) AllReadyH.nil
    refine want (by rfl) ?_
    refine wpo_store49 (.tmp 6) (.tmp 22) rfl wd.heap.size _ csx R1b rfl lx rfl rfl ox ?_
    intro w3 R3 s3
    have R3b := s3.row R2 (by omega)
    have z3 := s3.size
    have hH3 : Below w.heap.size w w3 := hHeld.trans (s3.below (by omega) (by intro k hk; omega))
    refine hK.out _ _ hH3 (fun hHeld => ?_)
    clear hK K
    try simp only [Act.put]
    refine wpAnyH_ready (rs := [11]) (by kernel_rfl) (by simp) ?_
    refine AllReadyH.cons (o := { dst := none, op := Op.store 114 (Operand.tmp 7) (Operand.tmp 26), type := 0, pos := "ref.go:64", after := #[{ on := 9, ground := Ground.data }, { on := 7, ground := Ground.data }, { on := 10, ground := Ground.chain }, { on := 0, ground := Ground.phase }, { on := 1, ground := Ground.phase }, { on := 2, ground := Ground.phase }, { on := 3, ground := Ground.phase }, { on := 4, ground := Ground.phase }, { on := 5, ground := Ground.phase }, { on := 6, ground := Ground.phase }, { on := 7, ground := Ground.phase }, { on := 8, ground := Ground.phase }, { on := 9, ground := Ground.phase }, { on := 10, ground := Ground.phase }], guard := none }) rfl (fun K hK => ?_) AllReadyH.nil
    refine want (by rfl) ?_
    refine wpo_store49 (.tmp 7) (.tmp 26) rfl w1.heap.size _ csy R3b rfl ly rfl rfl oy ?_
    intro w4 R4 s4
    have R4b := s4.row R3 (by omega)
    have hH4 : Below w.heap.size w w4 := hHeld.trans (s4.below (by omega) (by intro k hk; omega))
    refine hK.out _ _ hH4 (fun hHeld => ?_)
    clear hK K
    try simp only [Act.put]
    refine wpAnyH_done (by kernel_rfl) ?_ _
    exact ⟨rfl, wd.heap.size, w1.heap.size, rfl, R4b, R4, by omega, by omega, hH4⟩
  · refine want (by rfl) ?_
    refine wpo_alloc49 rfl ?_
    intro w1 R1 b1 z1
    have hH1 : Below w.heap.size w w1 := hHeld.trans (below_le b1 (by omega))
    refine hK.out _ _ hH1 (fun hHeld => ?_)
    clear hK K
    try simp only [Act.put, List.setIfInBounds_toArray, List.set_cons_zero, List.set_cons_succ]
    refine wpAnyH_ready (rs := [8]) (by kernel_rfl) (by simp) ?_
    refine AllReadyH.cons (o := { dst := some 6, op := Op.alloc 114, type := 0, pos := "ref.go:64", after := #[], guard := none }) rfl (fun K hK => ?_) AllReadyH.nil
    refine want (by rfl) ?_
    refine wpo_alloc49 rfl ?_
    intro w2 R2 b2 z2
    have R1b := R1.below b2 R1.lt
    have hH2 : Below w.heap.size w w2 := hHeld.trans (below_le b2 (by omega))
    refine hK.out _ _ hH2 (fun hHeld => ?_)
    clear hK K
    try simp only [Act.put, List.setIfInBounds_toArray, List.set_cons_zero, List.set_cons_succ]
    refine wpAnyH_ready (rs := [10]) (by kernel_rfl) (by simp) ?_
    refine AllReadyH.cons (o := { dst := none, op := Op.store 114 (Operand.tmp 6) (Operand.tmp 22), type := 0, pos := "ref.go:64", after := #[{ on := 8, ground := Ground.data }, { on := 3, ground := Ground.data }, { on := 0, ground := Ground.phase }, { on := 1, ground := Ground.phase }, { on := 2, ground := Ground.phase }, { on := 3, ground := Ground.phase }, { on := 4, ground := Ground.textOnly Departure.lateStores }, { on := 5, ground := Ground.textOnly Departure.lateStores }, { on := 6, ground := Ground.textOnly Departure.lateStores }, { on := 7, ground := Ground.textOnly Departure.lateStores }, { on := 8, ground := Ground.phase }, { on := 9, ground := Ground.phase }], guard := none }) rfl (fun K hK => ?_) AllReadyH.nil
    refine want (by rfl) ?_
    refine wpo_store49 (.tmp 6) (.tmp 22) rfl w1.heap.size _ csx R2 rfl lx rfl rfl ox ?_
    intro w3 R3 s3
    have R3b := s3.row R1b (by omega)
    have z3 := s3.size
    have hH3 : Below w.heap.size w w3 := hHeld.trans (s3.below (by omega) (by intro k hk; omega))
    refine hK.out _ _ hH3 (fun hHeld => ?_)
    clear hK K
    try simp only [Act.put]
    refine wpAnyH_ready (rs := [11]) (by kernel_rfl) (by simp) ?_
    refine AllReadyH.cons (o := { dst := none, op := Op.store 114 (Operand.tmp 7) (Operand.tmp 26), type := 0, pos := "ref.go:64", after := #[{ on := 9, ground := Ground.data }, { on := 7, ground := Ground.data }, { on := 10, ground := Ground.chain }, { on := 0, ground := Ground.phase }, { on := 1, ground := Ground.phase }, { on := 2, ground := Ground.phase }, { on := 3, ground := Ground.phase }, { on := 4, ground := Ground.phase }, { on := 5, ground := Ground.phase }, { on := 6, ground := Ground.phase }, { on := 7, ground := Ground.phase }, { on := 8, ground := Ground.phase }, { on := 9, ground := Ground.phase }, { on := 10, ground := Ground.phase }], guard := none }) rfl (fun K hK => ?_) AllReadyH.nil
    refine want (by rfl) ?_
    refine wpo_store49 (.tmp 7) (.tmp 26) rfl wd.heap.size _ csy R3b rfl ly rfl rfl oy ?_
    intro w4 R4 s4
    have R4b := s4.row R3 (by omega)
    have hH4 : Below w.heap.size w w4 := hHeld.trans (s4.below (by omega) (by intro k hk; omega))
    refine hK.out _ _ hH4 (fun hHeld => ?_)
    clear hK K
    try simp only [Act.put]
    refine wpAnyH_done (by kernel_rfl) ?_ _
    exact ⟨rfl, w1.heap.size, wd.heap.size, rfl, R4b, R4, by omega, by omega, hH4⟩
end Go.Proofs.YtmopffaocamieaaGreat
