/-
  TreeCounts: the walk.
-/
import Derived.Test.YtjenmmkamhplkaaJXnm2
import Derived.Test.YtjenmmkamhplkaaJXdp2
import Derived.Test.YtjenmmkamhplkaaTol
namespace Go.Proofs.Ytjenmmkamhplkaa
open Go.RowKit

theorem pbool' (P : Prop) : ∃ B : Bool, B = true ↔ P := by
  by_cases h : P
  · exact ⟨true, by simp [h]⟩
  · exact ⟨false, by simp [h]⟩
theorem Try.size30 : (Try.prog.info? 30).map (·.size) = some 10 := by kernel_rfl
set_option maxHeartbeats 8000000 in
set_option maxRecDepth 20000 in
theorem counts_walk {n : Nat} {K : Ctx} {w : World} (he : Env K w) {x : Fnc} {cs : List Value} (hx : FncAt n K w cs x) (hm : x.params.length + cnt n x.body ≤ 10000000) :
    Calls Try.prog 3 #[.agg cs.toArray] w fun ev w' => ev = .returned (.bool true) ∧ Below w.heap.size w w' := by
  have kx := hx
  have hns := names_small hx
  obtain ⟨v2, v3, ts, v8, rfl, hl, hli, hpa, hre, hbo⟩ := hx
  obtain ⟨t2, m2, d2, t3, m3, d3, rfl⟩ := hre.open
  obtain ⟨lp, lc, rfl⟩ := hli.form
  obtain ⟨pp, pc, rfl⟩ := hpa.form
  obtain ⟨bp, bc, rfl⟩ := hbo.form
  have kx : FncAt n K w [.bool x.pub, .string (str x.name), .slice lp x.lives.length lc, .slice pp x.params.length pc, .int .i64 x.result.kind, .string (str x.result.name), .slice t2 m2 d2, .slice t3 m3 d3, .slice bp x.body.length bc, .int .i64 x.pos] x := kx
  clear hli hpa hre hl
  obtain ⟨w1, hw1⟩ : ∃ w1, w1 = w.alloc (.cells #[.bool x.pub, .string (str x.name), .slice lp x.lives.length lc, .slice pp x.params.length pc, .int .i64 x.result.kind, .string (str x.result.name), .slice t2 m2 d2, .slice t3 m3 d3, .slice bp x.body.length bc, .int .i64 x.pos] 30) := ⟨_, rfl⟩
  have hb1 : Below w.heap.size w w1 := by rw [hw1]; exact alloc_one _ _
  have hsz1 : w1.heap.size = w.heap.size + 1 := by rw [hw1, size_alloc]
  have rf : Row w1 w.heap.size 30 [.bool x.pub, .string (str x.name), .slice lp x.lives.length lc, .slice pp x.params.length pc, .int .i64 x.result.kind, .string (str x.result.name), .slice t2 m2 d2, .slice t3 m3 d3, .slice bp x.body.length bc, .int .i64 x.pos] := by rw [hw1]; exact Row.new w 30 _
  have hK1 : Below K.C w w1 := below_le hb1 he.C
  have hpos : 0 < w.heap.size := Nat.lt_of_lt_of_le he.z he.C
  obtain ⟨SP, hSP⟩ : ∃ SP : World → Prop, SP = fun z => Below w1.heap.size w1 z := ⟨_, rfl⟩
  have SN : ∀ z z', SP z → Below z.heap.size z z' → SP z' := by
    intro z z' hz hb
    rw [hSP] at hz ⊢
    exact hz.trans (below_le hb hz.size)
  have SB : Hid (∀ z, SP z → Below w.heap.size w z) := by
    intro z hz
    rw [hSP] at hz
    exact hb1.trans (below_le hz (by omega))
  have SK : ∀ z, SP z → Below K.C w z := fun z hz => below_le (SB.out z hz) he.C
  have SD : Hid (∀ z m, SP z → SP (z.drewN m)) := fun z m hz => SN z _ hz (Below.drewN _ _ _)
  have HQ : Hid (∀ z, SP z → z.cell? ⟨w.heap.size, 8, none⟩ = some (.slice bp x.body.length bc)) := by
    intro z hz
    rw [hSP] at hz
    exact (rf.below hz (by omega)).cell 8
  have HG : Hid (∀ z, SP z → z.rangeAt w.heap.size 0 [.bool x.pub, .string (str x.name), .slice lp x.lives.length lc, .slice pp x.params.length pc, .int .i64 x.result.kind, .string (str x.result.name), .slice t2 m2 d2, .slice t3 m3 d3, .slice bp x.body.length bc, .int .i64 x.pos]) := by
    intro z hz
    rw [hSP] at hz
    exact (rf.below hz (by omega)).range
  have hbod : ∀ z, SP z → Ar 32 496 (StAt n K z) K z (.slice bp x.body.length bc) x.body := fun z hz => hbo.mono (SK z hz) fun _ _ _ h => h.below (SK z hz)
  have D5 : Hid (∀ z, SP z → Calls Try.prog 5 #[] z fun ev z' => ev = .returned (.bool true) ∧ SP z') := by
    intro z hz
    obtain ⟨m, hmm⟩ := he.ml
    refine (told_any z ⟨m, ((SB.out z hz).cell (p := ⟨0, 0, none⟩) hpos).trans hmm⟩).mono ?_
    rintro _ z' ⟨rfl, hb⟩
    exact ⟨rfl, SN z z' hz hb⟩
  have D6 : Hid (∀ z, SP z → Calls Try.prog 6 #[.slice bp x.body.length bc] z fun ev z' => ev = .returned (.int .i64 (cnt n x.body : Int)) ∧ SP z') := by
    intro z hz
    refine (count_any (K := K) (Nat.le_trans he.C (SB.out z hz).size) (hbod z hz) (by omega)).mono ?_
    rintro _ z' ⟨rfl, hb⟩
    exact ⟨rfl, SN z z' hz hb⟩
  have D7 : Hid (∀ z, SP z → Calls Try.prog 7 #[.slice bp x.body.length bc] z fun ev z' => ev = .returned (.int .i64 (cnt n x.body : Int)) ∧ SP z') := by
    intro z hz
    refine (xcount_any n (K := K) (hbod z hz)).mono ?_
    rintro _ z' ⟨rfl, m, rfl⟩
    exact ⟨by rw [cw_small n x.body (by omega)], SD.out z m hz⟩
  have D9 : Hid (∀ z, SP z → Calls Try.prog 9 #[.agg #[.bool x.pub, .string (str x.name), .slice lp x.lives.length lc, .slice pp x.params.length pc, .int .i64 x.result.kind, .string (str x.result.name), .slice t2 m2 d2, .slice t3 m3 d3, .slice bp x.body.length bc, .int .i64 x.pos]] z fun ev z' => ∃ v, ev = .returned v ∧ SP z' ∧ Below z.heap.size z z' ∧ z'.ownsRow z.heap.size 9 1 v (namesF n x).length (strs (namesF n x))) := by
    intro z hz
    refine (names_any (Nat.le_trans he.C (SB.out z hz).size) (kx.below (SK z hz)) hm).mono ?_
    rintro _ z' ⟨v, rfl, hb, ho⟩
    exact ⟨v, rfl, SN z z' hz hb, hb, ho⟩
  have D10 : Hid (∀ z, SP z → Calls Try.prog 10 #[.agg #[.bool x.pub, .string (str x.name), .slice lp x.lives.length lc, .slice pp x.params.length pc, .int .i64 x.result.kind, .string (str x.result.name), .slice t2 m2 d2, .slice t3 m3 d3, .slice bp x.body.length bc, .int .i64 x.pos]] z fun ev z' => ∃ v, ev = .returned v ∧ SP z' ∧ Below z.heap.size z z' ∧ z'.ownsRow z.heap.size 9 1 v (namesF n x).length (strs (namesF n x))) := by
    intro z hz
    refine (xnames_any (Nat.le_trans he.C (SB.out z hz).size) (kx.below (SK z hz)) hm).mono ?_
    rintro _ z' ⟨v, rfl, hb, ho⟩
    exact ⟨v, rfl, SN z z' hz hb, hb, ho⟩
  have hnl : (namesF n x).length ≤ 9223372036854775807 := by
    have h1 := letN_len (x.body.flatMap (ord n))
    rw [ords_len] at h1
    unfold namesF
    rw [List.length_append, List.length_map]
    omega
  have D8 : Hid (∀ (z : World) (a b : Nat) (u v : Value), z.ownsRow a 9 1 u (namesF n x).length (strs (namesF n x)) → z.ownsRow b 9 1 v (namesF n x).length (strs (namesF n x)) → Calls Try.prog 8 #[u, v] z fun ev z' => ev = .returned (.bool true) ∧ ∃ m, z' = z.drewN m) := by
    intro z a b u v hu hv
    exact texts_at (K := ⟨z.heap.size, K.B, K.small⟩) (strs_of_own (Nat.le_refl _) hns hu) (strs_of_own (Nat.le_refl _) hns hv) hnl true (by simp)
  obtain ⟨GA, hGA⟩ := pbool' (GrtC n ⟨[], [x]⟩)
  have D4 : Hid (∀ (z : World) (g : Nat), SP z → Row z g 30 [.bool x.pub, .string (str x.name), .slice lp x.lives.length lc, .slice pp x.params.length pc, .int .i64 x.result.kind, .string (str x.result.name), .slice t2 m2 d2, .slice t3 m3 d3, .slice bp x.body.length bc, .int .i64 x.pos] → K.C ≤ g → Calls Try.prog 4 #[.agg #[.slice none 0 0, .slice (some ⟨g, 0, none⟩) 1 1]] z fun ev z' => ev = .returned (.bool GA) ∧ SP z') := by
    intro z g hz hr hg
    refine (great_any (n := n) (K := K.up (g + 1)) (w := z) (show g + 1 ≤ _ from hr.lt) (c := ⟨[], [x]⟩) (cs := [.slice none 0 0, .slice (some ⟨g, 0, none⟩) 1 1]) ⟨_, _, rfl, nil_ar, one_ar hr rfl (by decide) (show g < g + 1 by omega) ((kx.below (SK z hz)).up (by omega))⟩ GA hGA).mono ?_
    rintro _ z' ⟨rfl, hb⟩
    exact ⟨rfl, SN z z' hz hb⟩
  have H0 : SP w1 := by rw [hSP]; exact Below.refl _ _
  have HC1 : Hid (K.C ≤ w1.heap.size) := by have := he.C; show _ ≤ _; omega
  have D44 : Hid (Calls Try.prog 4 #[.agg #[.slice none 0 0, .slice (some ⟨w.heap.size + 1, 0, none⟩) 1 1]] ((w.alloc (.cells #[.bool x.pub, .string (str x.name), .slice lp x.lives.length lc, .slice pp x.params.length pc, .int .i64 x.result.kind, .string (str x.result.name), .slice t2 m2 d2, .slice t3 m3 d3, .slice bp x.body.length bc, .int .i64 x.pos] 30)).alloc (.cells #[.bool x.pub, .string (str x.name), .slice lp x.lives.length lc, .slice pp x.params.length pc, .int .i64 x.result.kind, .string (str x.result.name), .slice t2 m2 d2, .slice t3 m3 d3, .slice bp x.body.length bc, .int .i64 x.pos] 30)) fun ev z' => ev = .returned (.bool GA) ∧ SP z') := by
    rw [← hw1, ← hsz1]
    exact D4.out _ _ (SN w1 _ H0 (alloc_one _ _)) (Row.new w1 30 _) HC1.out
  have hi : Hid ((Try.prog.info? 30).map (·.size) = some ([.bool x.pub, .string (str x.name), .slice lp x.lives.length lc, .slice pp x.params.length pc, .int .i64 x.result.kind, .string (str x.result.name), .slice t2 m2 d2, .slice t3 m3 d3, .slice bp x.body.length bc, .int .i64 x.pos] : List Value).length) := Try.size30
  clear D4 HC1 H0 hSP SN SK he hGA kx hns hw1 hb1 hsz1 rf hK1 hpos hbod hbo hnl hm
  generalize namesF n x = NX at *
  generalize cnt n x.body = cn at *
  generalize x.pub = pb at *
  generalize str x.name = nm1 at *
  generalize x.lives.length = l1 at *
  generalize x.params.length = l2 at *
  generalize x.result.kind = rk at *
  generalize str x.result.name = rn1 at *
  generalize x.body.length = l3 at *
  generalize x.pos = ps at *
  go_enter Try.func3, Try.ntmps3
  go_wp2_with fail
  refine D44.out.mono ?_
  rintro ev w3 ⟨rfl, H3⟩
  clear D44
  cases GA with
  | true =>
    go_wp2_with fail
    refine (D5.out w3 H3).mono ?_
    rintro ev w4 ⟨rfl, H4⟩
    go_wp2_with fail
    go_ret
    exact ⟨rfl, SB.out _ H4⟩
  | false =>
    have F1 : SP w3.drew := SD.out w3 1 H3
    go_wp2_with fail
    refine wp_region_held_drew (S := SP) (by kernel_rfl) (F1) (fun hHeld => ?_)
    refine wpAnyH_ready (rs := [0]) (by kernel_rfl) (by simp) ?_
    refine AllReadyH.cons (o := { dst := some 8, op := Op.call { callee := Callee.value (Operand.func 5), args := #[], argTypes := #[] }, type := 4, pos := "law.go:54", after := #[], guard := none }) rfl (fun KK hK => ?_) AllReadyH.nil
    go_simp
    refine (D5.out _ hHeld).mono ?_
    rintro ev z1 ⟨rfl, H1⟩
    refine hK.out _ _ (H1) (fun hHeld => ?_)
    clear hK KK
    try simp only [Act.put, List.setIfInBounds_toArray, List.set_cons_zero, List.set_cons_succ]
    refine wpAnyH_take (i := 1) (oi := { dst := some 9, op := Op.move (Operand.tmp 8), type := 4, pos := "law.go:54", after := #[{ on := 0, ground := Ground.data }, { on := 0, ground := Ground.chain }], guard := none }) (v := ?vg1) rfl (by kernel_rfl) (by kernel_rfl) (by kernel_rfl) (fun _ _ _ h => h) (Or.inl ⟨by rfl, ?hg1⟩) hHeld ?rg1
    case hg1 => (intro y hy; go_simp; with_reducible rfl)
    try simp only [Act.put, List.setIfInBounds_toArray, List.set_cons_zero, List.set_cons_succ]
    refine wpAnyH_take (i := 2) (oi := { dst := some 10, op := Op.fieldAddr 30 (Operand.tmp 1) 5, type := 0, pos := "law.go:54", after := #[{ on := 1, ground := Ground.guard }], guard := some (1, true) }) (v := ?vg2) rfl (by kernel_rfl) (by kernel_rfl) (by kernel_rfl) (fun _ _ _ h => h) (Or.inl ⟨by rfl, ?hg2⟩) hHeld ?rg2
    case hg2 => (intro y hy; go_simp; with_reducible rfl)
    try simp only [Act.put, List.setIfInBounds_toArray, List.set_cons_zero, List.set_cons_succ]
    refine wpAnyH_take (i := 3) (oi := { dst := some 11, op := Op.load 28 (Operand.tmp 10), type := 28, pos := "law.go:54", after := #[{ on := 2, ground := Ground.data }, { on := 1, ground := Ground.guard }], guard := some (1, true) }) (v := ?vg3) rfl (by kernel_rfl) (by kernel_rfl) (by kernel_rfl) (fun _ _ _ h => h) (Or.inl ⟨by rfl, ?hg3⟩) hHeld ?rg3
    case hg3 => (intro y hy; have q8 := HQ.out y hy; go_simp; with_reducible rfl)
    try simp only [Act.put, List.setIfInBounds_toArray, List.set_cons_zero, List.set_cons_succ]
    refine wpAnyH_take (i := 5) (oi := { dst := some 13, op := Op.fieldAddr 30 (Operand.tmp 1) 5, type := 0, pos := "law.go:54", after := #[{ on := 1, ground := Ground.guard }], guard := some (1, true) }) (v := ?vg5) rfl (by kernel_rfl) (by kernel_rfl) (by kernel_rfl) (fun _ _ _ h => h) (Or.inl ⟨by rfl, ?hg5⟩) hHeld ?rg5
    case hg5 => (intro y hy; go_simp; with_reducible rfl)
    try simp only [Act.put, List.setIfInBounds_toArray, List.set_cons_zero, List.set_cons_succ]
    refine wpAnyH_take (i := 6) (oi := { dst := some 14, op := Op.load 28 (Operand.tmp 13), type := 28, pos := "law.go:54", after := #[{ on := 5, ground := Ground.data }, { on := 1, ground := Ground.guard }], guard := some (1, true) }) (v := ?vg6) rfl (by kernel_rfl) (by kernel_rfl) (by kernel_rfl) (fun _ _ _ h => h) (Or.inl ⟨by rfl, ?hg6⟩) hHeld ?rg6
    case hg6 => (intro y hy; have q8 := HQ.out y hy; go_simp; with_reducible rfl)
    try simp only [Act.put, List.setIfInBounds_toArray, List.set_cons_zero, List.set_cons_succ]
    refine wpAnyH_ready (rs := [4]) (by kernel_rfl) (by simp) ?_
    refine AllReadyH.cons (o := { dst := some 12, op := Op.call { callee := Callee.value (Operand.func 6), args := #[Operand.tmp 11], argTypes := #[28] }, type := 3, pos := "law.go:54", after := #[{ on := 3, ground := Ground.data }, { on := 1, ground := Ground.chain }, { on := 1, ground := Ground.guard }], guard := some (1, true) }) rfl (fun KK hK => ?_) AllReadyH.nil
    go_simp
    refine (D6.out _ H1).mono ?_
    rintro ev z2 ⟨rfl, H2⟩
    refine hK.out _ _ (H2) (fun hHeld => ?_)
    clear hK KK
    try simp only [Act.put, List.setIfInBounds_toArray, List.set_cons_zero, List.set_cons_succ]
    refine wpAnyH_ready (rs := [7]) (by kernel_rfl) (by simp) ?_
    refine AllReadyH.cons (o := { dst := some 15, op := Op.call { callee := Callee.value (Operand.func 7), args := #[Operand.tmp 14], argTypes := #[28] }, type := 3, pos := "law.go:54", after := #[{ on := 6, ground := Ground.data }, { on := 4, ground := Ground.chain }, { on := 1, ground := Ground.guard }], guard := some (1, true) }) rfl (fun KK hK => ?_) AllReadyH.nil
    go_simp
    refine (D7.out _ H2).mono ?_
    rintro ev z3 ⟨rfl, H3⟩
    refine hK.out _ _ (H3) (fun hHeld => ?_)
    clear hK KK
    try simp only [Act.put, List.setIfInBounds_toArray, List.set_cons_zero, List.set_cons_succ]
    refine wpAnyH_take (i := 8) (oi := { dst := some 16, op := Op.binOp BinOp.eql 3 (Operand.tmp 12) (Operand.tmp 15) 3, type := 4, pos := "law.go:54", after := #[{ on := 4, ground := Ground.data }, { on := 7, ground := Ground.data }, { on := 1, ground := Ground.guard }], guard := some (1, true) }) (v := ?vg8) rfl (by kernel_rfl) (by kernel_rfl) (by kernel_rfl) (fun _ _ _ h => h) (Or.inl ⟨by rfl, ?hg8⟩) hHeld ?rg8
    case hg8 => (intro y hy; go_simp; with_reducible rfl)
    try simp only [Act.put, List.setIfInBounds_toArray, List.set_cons_zero, List.set_cons_succ]
    refine wpAnyH_take (i := 9) (oi := { dst := some 17, op := Op.pick (Operand.tmp 9) (Operand.tmp 16) (Operand.const (Value.bool false)), type := 4, pos := "law.go:54", after := #[{ on := 1, ground := Ground.data }, { on := 8, ground := Ground.data }], guard := none }) (v := ?vg9) rfl (by kernel_rfl) (by kernel_rfl) (by kernel_rfl) (fun _ _ _ h => h) (Or.inl ⟨by rfl, ?hg9⟩) hHeld ?rg9
    case hg9 => (intro y hy; go_simp; with_reducible rfl)
    try simp only [Act.put, List.setIfInBounds_toArray, List.set_cons_zero, List.set_cons_succ]
    refine wpAnyH_take (i := 10) (oi := { dst := some 18, op := Op.move (Operand.tmp 17), type := 4, pos := "law.go:54", after := #[{ on := 9, ground := Ground.data }, { on := 7, ground := Ground.chain }], guard := none }) (v := ?vg10) rfl (by kernel_rfl) (by kernel_rfl) (by kernel_rfl) (fun _ _ _ h => h) (Or.inl ⟨by rfl, ?hg10⟩) hHeld ?rg10
    case hg10 => (intro y hy; go_simp; with_reducible rfl)
    try simp only [Act.put, List.setIfInBounds_toArray, List.set_cons_zero, List.set_cons_succ]
    refine wpAnyH_take (i := 11) (oi := { dst := some 19, op := Op.load 30 (Operand.tmp 1), type := 30, pos := "law.go:54", after := #[{ on := 10, ground := Ground.guard }], guard := some (10, true) }) (v := _) rfl (by kernel_rfl) (by kernel_rfl) (by kernel_rfl) (fun _ _ _ h => h) (yieldsIf_load_mid (by rfl) _ _ rfl _ _ rfl [.bool pb, .string nm1, .slice lp l1 lc, .slice pp l2 pc, .int .i64 rk, .string rn1, .slice t2 m2 d2, .slice t3 m3 d3, .slice bp l3 bc, .int .i64 ps] _ (fun y hy => HG.out y hy) Try.underlying30 rfl hi.out) hHeld ?_
    try simp only [Act.put, List.setIfInBounds_toArray, List.set_cons_zero, List.set_cons_succ]
    refine wpAnyH_take (i := 13) (oi := { dst := some 21, op := Op.load 30 (Operand.tmp 1), type := 30, pos := "law.go:54", after := #[{ on := 10, ground := Ground.guard }], guard := some (10, true) }) (v := _) rfl (by kernel_rfl) (by kernel_rfl) (by kernel_rfl) (fun _ _ _ h => h) (yieldsIf_load_mid (by rfl) _ _ rfl _ _ rfl [.bool pb, .string nm1, .slice lp l1 lc, .slice pp l2 pc, .int .i64 rk, .string rn1, .slice t2 m2 d2, .slice t3 m3 d3, .slice bp l3 bc, .int .i64 ps] _ (fun y hy => HG.out y hy) Try.underlying30 rfl hi.out) hHeld ?_
    try simp only [Act.put, List.setIfInBounds_toArray, List.set_cons_zero, List.set_cons_succ]
    refine wpAnyH_ready (rs := [12]) (by kernel_rfl) (by simp) ?_
    refine AllReadyH.cons (o := { dst := some 20, op := Op.call { callee := Callee.value (Operand.func 9), args := #[Operand.tmp 19], argTypes := #[30] }, type := 24, pos := "law.go:54", after := #[{ on := 11, ground := Ground.data }, { on := 10, ground := Ground.chain }, { on := 10, ground := Ground.guard }], guard := some (10, true) }) rfl (fun KK hK => ?_) AllReadyH.nil
    go_simp
    refine (D9.out _ H3).mono ?_
    rintro ev z4 ⟨u4, rfl, H4, hb4, O4⟩
    obtain ⟨a4, n4, c4, f4⟩ := own_form O4
    subst f4
    refine hK.out _ _ (H4) (fun hHeld => ?_)
    clear hK KK
    try simp only [Act.put, List.setIfInBounds_toArray, List.set_cons_zero, List.set_cons_succ]
    refine wpAnyH_ready (rs := [14]) (by kernel_rfl) (by simp) ?_
    refine AllReadyH.cons (o := { dst := some 22, op := Op.call { callee := Callee.value (Operand.func 10), args := #[Operand.tmp 21], argTypes := #[30] }, type := 24, pos := "law.go:54", after := #[{ on := 13, ground := Ground.data }, { on := 12, ground := Ground.chain }, { on := 10, ground := Ground.guard }], guard := some (10, true) }) rfl (fun KK hK => ?_) AllReadyH.nil
    go_simp
    refine (D10.out _ H4).mono ?_
    rintro ev z5 ⟨u5, rfl, H5, hb5, O5⟩
    obtain ⟨a5, n5, c5, f5⟩ := own_form O5
    subst f5
    have O4' := own_past' O4 hb5
    refine hK.out _ _ (H5) (fun hHeld => ?_)
    clear hK KK
    try simp only [Act.put, List.setIfInBounds_toArray, List.set_cons_zero, List.set_cons_succ]
    refine wpAnyH_ready (rs := [15]) (by kernel_rfl) (by simp) ?_
    refine AllReadyH.cons (o := { dst := some 23, op := Op.call { callee := Callee.value (Operand.func 8), args := #[Operand.tmp 20, Operand.tmp 22], argTypes := #[24, 24] }, type := 4, pos := "law.go:54", after := #[{ on := 12, ground := Ground.data }, { on := 14, ground := Ground.data }, { on := 14, ground := Ground.chain }, { on := 10, ground := Ground.guard }], guard := some (10, true) }) rfl (fun KK hK => ?_) AllReadyH.nil
    go_simp
    refine (D8.out _ _ _ _ _ O4' O5).mono ?_
    rintro ev z6 ⟨rfl, m6, rfl⟩
    have H6 : SP (z5.drewN m6) := SD.out _ _ H5
    refine hK.out _ _ (H6) (fun hHeld => ?_)
    clear hK KK
    try simp only [Act.put, List.setIfInBounds_toArray, List.set_cons_zero, List.set_cons_succ]
    refine wpAnyH_take (i := 16) (oi := { dst := some 24, op := Op.pick (Operand.tmp 18) (Operand.tmp 23) (Operand.const (Value.bool false)), type := 4, pos := "law.go:54", after := #[{ on := 10, ground := Ground.data }, { on := 15, ground := Ground.data }], guard := none }) (v := ?vg16) rfl (by kernel_rfl) (by kernel_rfl) (by kernel_rfl) (fun _ _ _ h => h) (Or.inl ⟨by rfl, ?hg16⟩) hHeld ?rg16
    case hg16 => (intro y hy; go_simp; with_reducible rfl)
    try simp only [Act.put, List.setIfInBounds_toArray, List.set_cons_zero, List.set_cons_succ]
    refine wpAnyH_take (i := 17) (oi := { dst := some 2, op := Op.assign (Operand.tmp 24), type := 4, pos := "law.go:54", after := #[{ on := 16, ground := Ground.data }, { on := 15, ground := Ground.chain }, { on := 0, ground := Ground.phase }, { on := 1, ground := Ground.phase }, { on := 2, ground := Ground.phase }, { on := 3, ground := Ground.phase }, { on := 4, ground := Ground.phase }, { on := 5, ground := Ground.phase }, { on := 6, ground := Ground.phase }, { on := 7, ground := Ground.phase }, { on := 8, ground := Ground.phase }, { on := 9, ground := Ground.phase }, { on := 10, ground := Ground.phase }, { on := 11, ground := Ground.phase }, { on := 12, ground := Ground.phase }, { on := 13, ground := Ground.phase }, { on := 14, ground := Ground.phase }, { on := 15, ground := Ground.phase }, { on := 16, ground := Ground.phase }], guard := none }) (v := ?vg17) rfl (by kernel_rfl) (by kernel_rfl) (by kernel_rfl) (fun _ _ _ h => h) (Or.inl ⟨by rfl, ?hg17⟩) hHeld ?rg17
    case hg17 => (intro y hy; go_simp; with_reducible rfl)
    try simp only [Act.put, List.setIfInBounds_toArray, List.set_cons_zero, List.set_cons_succ]
    refine wpAnyH_done (by kernel_rfl) ?_ _
    go_wp2_with fail
    go_ret
    exact ⟨rfl, SB.out _ H6⟩
end Go.Proofs.Ytjenmmkamhplkaa
