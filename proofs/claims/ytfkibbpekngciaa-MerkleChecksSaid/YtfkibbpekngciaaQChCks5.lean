/-
  MerkleChecks, turn 5.
-/
import Derived.Test.YtfkibbpekngciaaQChCkt
import Derived.Test.YtfkibbpekngciaaJoinFew3xCh
import Derived.Test.YtfkibbpekngciaaQChFrm
namespace Go.Proofs.Ytfkibbpekngciaa
open Go.RowKit

set_option maxHeartbeats 8000000 in
set_option maxRecDepth 20000 in
theorem checks_t5 (F : Bys → Bys) (E : Env2 F) (w : World) (v bv pv : Value) (L : List Bys) (hL : Ls w v L) (hE : ∀ b ∈ L, b.length ≤ 9223372036854775807) (hf : fewB L = true) (i tn pi pn : Int) (b r : Bys) (P : List Bys) (hb : Sl w bv b) (hP : Hs w pv P) (hr : r.length = 32) (hpn : pn ≤ 9223372036854775807)
    (hbl : b.length ≤ 100) (hpl : P.length ≤ 70) (h1 : 1 ≤ L.length) (q6 : Int) (f1 : tn.tmod 6 = q6) (f2 : -6 < q6) (f3 : q6 < 6) (f4 : (q6 + 6) % 6 = 5) :
    Calls Try.prog 4 #[v, .int .i64 i, bv, .agg #[.int .i64 pi, .int .i64 pn, pv], .int .i64 tn, .agg (bys r).toArray] w fun ev w' => ev = .returned (.bool true) ∧ Below w.heap.size w w' := by
  have hlen := fewB_len hf
  obtain ⟨q, k, e1, e2, e3, e4, hk⟩ := place_of i L.length h1
  obtain ⟨bl, off, cv, fv, rfl, hcap, hcells⟩ := hL.some_ (by omega)
  obtain ⟨hc1, hs1⟩ := hcells k hk
  obtain ⟨ak, ck, ek⟩ := sl_slice hs1
  rw [ek] at hc1 hs1
  have hlk : (L.getD k []).length ≤ 100 := (of_decide_eq_true hf).2 _ (by simp [List.getD, List.getElem?_eq_getElem hk])
  obtain ⟨ap, cpp, rfl⟩ := hP.slice
  obtain ⟨ab, cb, rfl⟩ := sl_slice hb
  obtain ⟨W, hW⟩ : ∃ W, W = (w.alloc (.cells #[.int .i64 pi, .int .i64 pn, .slice ap P.length cpp] 30)).alloc (.cells (bys r).toArray 26) := ⟨_, rfl⟩
  have hA : Below w.heap.size w W := by
    rw [hW]; exact ((Below.refl w.heap.size w).alloc (Nat.le_refl _) _).alloc (by simp) _
  have RP : Row W w.heap.size 30 [.int .i64 pi, .int .i64 pn, .slice ap P.length cpp] := by
    rw [hW]; exact (Row.new w 30 _).below ((Below.refl _ _).alloc (Nat.le_refl _) _) (by simp)
  have RR : Row W (w.heap.size + 1) 26 (bys r) := by
    have := Row.new (w.alloc (.cells #[.int .i64 pi, .int .i64 pn, .slice ap P.length cpp] 30)) 26 (bys r)
    rw [hW]; exact (by simpa using this : Row _ (w.heap.size + 1) _ _)
  have HF := few_any W _ L (hL.below hA) (by omega) hE
  rw [hf] at HF
  have c2 : W.cell? ⟨w.heap.size, 2, none⟩ = some (.slice ap P.length cpp) := RP.cell 2
  have hR : (root F L).length = 32 := E.len _
  have K1 := fun (q : Bys) (hq : q.length = 32) y (hy : Below W.heap.size W y) => check_any F E.toEnv y _ _ q b pi pn P hq (hb.below (nextB hA hy)) (by omega) hpn (hP.below (nextB hA hy))
  have K2 := fun (q : Bys) (hq : q.length = 32) y (hy : Below W.heap.size W y) => xcheck_any F E y _ _ q b pi pn P hq (hb.below (nextB hA hy)) (by omega) hpn (hP.below (nextB hA hy))
  have HX : Hid (∀ y, Below W.heap.size W y → Calls Try.prog 12 #[.slice (some ⟨bl, off, none⟩) L.length cv] y fun ev w' => ev = .returned (.agg (bys (root F L)).toArray) ∧ Below y.heap.size y w') := fun y hy => xroot_any F E y _ L (hL.below (nextB hA hy)) (fewB_small hf) (by omega)
  have HPA : Hid (∀ y, Below W.heap.size W y → Calls Try.prog 16 #[.slice (some ⟨bl, off, none⟩) L.length cv, .int .i64 (k : Int)] y fun ev w' => ∃ v', ev = .returned v' ∧ w'.ownsRow y.heap.size 26 32 v' (path F L k).length (rows26 (path F L k)) ∧ Below y.heap.size y w') := fun y hy => xpath_any F E y _ L k (hL.below (nextB hA hy)) (fewB_small hf) hk (by omega)
  have HEL : Hid (∀ y, Below W.heap.size W y → y.cell? ⟨bl, off + k, none⟩ = some (.slice ak (L.getD k []).length ck) ∧ Sl y (.slice ak (L.getD k []).length ck) (L.getD k []) ∧ Sl y (.slice ab b.length cb) b) := fun y hy => by
    have hy' := nextB hA hy
    refine ⟨(hy'.cell (p := ⟨bl, off + k, none⟩) (World.block_lt_of_cell? w _ hc1)).trans hc1, hs1.below hy', hb.below hy'⟩
  have HT : Hid (∀ y, Calls Try.prog 10 #[] y fun ev w' => ev = .returned (.bool true) ∧ Below y.heap.size y w') := fun y => told_any F E y
  have HRR : Hid (∀ y, Below W.heap.size W y → y.rangeAt (w.heap.size + 1) 0 (bys r)) := fun y hy => (RR.below hy RR.lt).range
  have HRW : Hid (∀ y, Below W.heap.size W y → Row y (w.heap.size + 1) 26 (bys r) ∧ Row y w.heap.size 30 [.int .i64 pi, .int .i64 pn, .slice ap P.length cpp]) := fun y hy => ⟨RR.below hy RR.lt, RP.below hy RP.lt⟩
  have HRC : Hid (∀ y, Below W.heap.size W y → y.cell? ⟨w.heap.size, 0, none⟩ = some (.int .i64 pi) ∧ y.cell? ⟨w.heap.size, 1, none⟩ = some (.int .i64 pn) ∧ y.cell? ⟨w.heap.size, 2, none⟩ = some (.slice ap P.length cpp)) := fun y hy => ⟨(RP.below hy RP.lt).cell 0, (RP.below hy RP.lt).cell 1, (RP.below hy RP.lt).cell 2⟩
  have HK1 : Hid _ := K1 r hr
  have HK2 : Hid _ := K2 r hr
  have HK3 : Hid _ := K1 _ hR
  have HK4 : Hid _ := K2 _ hR
  have HHR : Hid (r.length = 32) := hr
  have HHL : Hid ((root F L).length = 32) := hR
  have HPN : Hid (pn ≤ 9223372036854775807) := hpn
  have HA : Hid (Below w.heap.size w W) := hA
  have AW : Aside (W = (w.alloc (.cells #[.int .i64 pi, .int .i64 pn, .slice ap P.length cpp] 30)).alloc (.cells (bys r).toArray 26)) := hW
  have hp63 : (path F L k).length ≤ 63 := by
    have := downs_64 k L.length (by omega)
    simpa [path] using this
  have HPM : Hid (∀ p ∈ path F L k, p.length = 32) := path_mem F E.len L k
  have HPF : Hid ((path F L k).length ≤ 63) := hp63
  have HLB : Hid (b.length ≤ 100 ∧ (L.getD k []).length ≤ 100) := ⟨hbl, hlk⟩
  have HKL : Hid (k < L.length ∧ L.length ≤ 20) := ⟨hk, hlen⟩
  clear hL hA RP RR hW K1 K2 hP hb hR hr hcells hc1 hs1 ek hp63
  have n1 : ¬ (100 : Int) < (b.length : Int) := by omega
  have n2 : ¬ (70 : Int) < (P.length : Int) := by omega
  have n0 : ((L.length : Int) == 0) = false := by
    have : ¬ (L.length : Int) = 0 := by omega
    simpa using this
  have n5 : (L.length : Int) ≤ 20 := by omega
  have n6 : (1 : Int) ≤ (L.length : Int) := by omega
  clear hf hE hbl hpl hpn hlk hcap
  generalize L.getD k [] = lk at *
  generalize path F L k = Pk at *
  obtain ⟨Y, HY⟩ : ∃ Y, Hid (Y = (bys r).toArray) := ⟨_, rfl⟩
  rw [← HY.out] at AW
  rw [← HY.out]
  go_enter Try.func4, Try.ntmps4
  go_wp2_with fail
  refine Calls_at_world AW.out ?_
  refine HF.mono ?_
  rintro ev w1 ⟨rfl, hw1⟩
  replace hw1 := hw1.symm
  subst hw1
  go_wp2_with fail
  have hY := HY.out
  subst hY
  refine Code.wp_mono ?_ (reg3_any W W w.heap.size (w.heap.size + 1) r (root F L) ap P.length cpp L.length cv b.length cb (some ⟨bl, off, none⟩) ab pi pn (chk F r b pi pn P) (chk F (root F L) b pi pn P) (Below.refl _ _) HHR.out HRR HRC HK1 HK2 HK3 HK4 HX _ _ _ _ _ _ _ _ _ _ _ _ _ _ _ _ _ _ _ _ _ _ _ _ _ _ _ _ _ _ _ _ _ _ _ _ _ _ _ _ _ _ _ _ _ _ _ _ _ _ _ _ _ _ _ _ _ _ _ _ _ _ _ _ _ _ _ _ _ _ _ _ _ _ _ _ _ _ _ _ _ _ _ _ _ _ _ _ _ _ _ _ _ _ _ _ _ _ _ _ _ _ _ _ _ _ _ _ _ _ _ _ _ _ _ _ _ _ _ _ _ _ _ _ _ _ _ _ _ _ _ _ _ _ _ _ _ _ _ _ _ _ _ _ _ _ _ _ _ _ _ )
  rintro e a' w3 ⟨rfl, hb3, u31, u32, u33, u34, u35, u36, u37, u38, u39, u40, u41, u42, u43, u44, u45, u46, u47, u48, u49, u50, u51, rfl⟩
  dsimp only
  obtain ⟨Y, HY⟩ : ∃ Y, Hid (Y = (bys r).toArray) := ⟨_, rfl⟩
  rw [← HY.out]
  clear HK1 HK2 HK3 HK4 HF c2
  go_wp2_with fail
  refine (HPA.out _ hb3).mono ?_
  rintro ev w4 ⟨v4, rfl, ho4, hb4⟩
  obtain ⟨aq, cq, rfl⟩ := own_shape' ho4
  have N4 := new30 w4
  have A4 := new_below w4 (.cells #[.int .i64 0, .int .i64 0, .slice none 0 0] 30)
  have o1 := one3 k L.length aq Pk.length cq
  have hB4 := nextB hb3 hb4
  have hle : w4.heap.size ≤ w4.heap.size := Nat.le_refl _
  clear HPA e1 e2 e3 e4 n0
  have hk0 : (0 : Int) ≤ (k : Int) := by omega
  have hk1 : (k : Int) < (L.length : Int) := by omega
  go_wp2_with (refine store30 rfl _ _ rfl w4 w4.heap.size _ _ _ o1 rfl rfl _ _ _ N4 _ A4 hle ?_; intro w5 R5 hb5 _; have ho5 := own_past' ho4 hb5; have hH5 := Hs.ofOwn ho5 HPM.out; have hB5 := nextB hB4 hb5; have hH4 := Hs.ofOwn ho4 HPM.out; have hln : (L.length : Int) ≤ 9223372036854775807 := (by omega); clear N4 A4 o1 ho4 hle)
  refine wp_region_held_drew (S := fun y => Below w4.heap.size w4 y ∧ ∃ x z : Int, z ≤ 9223372036854775807 ∧ Row y w4.heap.size 30 [.int .i64 x, .int .i64 z, .slice aq Pk.length cq]) (by kernel_rfl) (⟨hb5.drew, _, _, hln, R5.drew⟩) (fun hHeld => ?_)
  refine wpAnyH_take (i := 0) (oi := { dst := some 118, op := Op.fieldAddr 30 (Operand.tmp 9) 0, type := 0, pos := "law.go:72", after := #[], guard := none }) (v := ?vg0) rfl (by kernel_rfl) (by kernel_rfl) (by kernel_rfl) (fun _ _ _ h => h) (Or.inl ⟨by rfl, ?hg0⟩) hHeld ?rg0
  case hg0 => (intro y hy; go_simp; with_reducible rfl)
  try simp only [Act.put, List.setIfInBounds_toArray, List.set_cons_zero, List.set_cons_succ]
  refine wpAnyH_take (i := 1) (oi := { dst := some 119, op := Op.load 3 (Operand.tmp 118), type := 3, pos := "law.go:72", after := #[{ on := 0, ground := Ground.data }], guard := none }) (v := ?vg1) rfl (by kernel_rfl) (by kernel_rfl) (by kernel_rfl) (fun _ _ _ h => h) (Or.inl ⟨by rfl, ?hg1⟩) hHeld ?rg1
  case hg1 => (intro y hy; obtain ⟨cc0, cc1, cc2⟩ := HRC.out y (nextB hB4 hy.1); go_simp; with_reducible rfl)
  try simp only [Act.put, List.setIfInBounds_toArray, List.set_cons_zero, List.set_cons_succ]
  refine wpAnyH_take (i := 2) (oi := { dst := some 120, op := Op.fieldAddr 30 (Operand.tmp 9) 1, type := 0, pos := "law.go:72", after := #[{ on := 5, ground := Ground.gcOnly Departure.lateStores }], guard := none }) (v := ?vg2) rfl (by kernel_rfl) (by kernel_rfl) (by kernel_rfl) (fun _ _ _ h => h) (Or.inl ⟨by rfl, ?hg2⟩) hHeld ?rg2
  case hg2 => (intro y hy; go_simp; with_reducible rfl)
  try simp only [Act.put, List.setIfInBounds_toArray, List.set_cons_zero, List.set_cons_succ]
  refine wpAnyH_take (i := 3) (oi := { dst := some 121, op := Op.load 3 (Operand.tmp 120), type := 3, pos := "law.go:72", after := #[{ on := 2, ground := Ground.data }, { on := 5, ground := Ground.gcOnly Departure.lateStores }], guard := none }) (v := ?vg3) rfl (by kernel_rfl) (by kernel_rfl) (by kernel_rfl) (fun _ _ _ h => h) (Or.inl ⟨by rfl, ?hg3⟩) hHeld ?rg3
  case hg3 => (intro y hy; obtain ⟨cc0, cc1, cc2⟩ := HRC.out y (nextB hB4 hy.1); go_simp; with_reducible rfl)
  try simp only [Act.put, List.setIfInBounds_toArray, List.set_cons_zero, List.set_cons_succ]
  refine wpAnyH_take (i := 4) (oi := { dst := some 122, op := Op.fieldAddr 30 (Operand.tmp 14) 0, type := 0, pos := "law.go:72", after := #[{ on := 0, ground := Ground.phase }, { on := 1, ground := Ground.phase }, { on := 2, ground := Ground.textOnly Departure.lateStores }, { on := 3, ground := Ground.textOnly Departure.lateStores }], guard := none }) (v := ?vg4) rfl (by kernel_rfl) (by kernel_rfl) (by kernel_rfl) (fun _ _ _ h => h) (Or.inl ⟨by rfl, ?hg4⟩) hHeld ?rg4
  case hg4 => (intro y hy; go_simp; with_reducible rfl)
  try simp only [Act.put, List.setIfInBounds_toArray, List.set_cons_zero, List.set_cons_succ]
  refine wpAnyH_ready (rs := [5]) (by kernel_rfl) (by simp) ?_
  refine AllReadyH.cons (o := { dst := none, op := Op.store 3 (Operand.tmp 122) (Operand.tmp 119), type := 0, pos := "law.go:72", after := #[{ on := 4, ground := Ground.data }, { on := 1, ground := Ground.data }, { on := 0, ground := Ground.phase }, { on := 1, ground := Ground.phase }, { on := 2, ground := Ground.textOnly Departure.lateStores }, { on := 3, ground := Ground.textOnly Departure.lateStores }], guard := none }) rfl (fun K hK => ?_) AllReadyH.nil
  obtain ⟨hq1, x0, z0, hz0, RY⟩ := hHeld
  have cc5 := RY.cell 0
  have fz5 := RY.fz 0
  simp only [List.getElem?_cons_zero] at cc5
  go_simp
  refine hK.out _ _ (⟨hq1.setCell (p := ⟨w4.heap.size, 0, none⟩) (Nat.le_refl _) _, _, _, hz0, RY.set 0 _⟩) (fun hHeld => ?_)
  clear hK K
  try simp only [Act.put, List.setIfInBounds_toArray, List.set_cons_zero, List.set_cons_succ]
  refine wpAnyH_take (i := 6) (oi := { dst := some 123, op := Op.fieldAddr 30 (Operand.tmp 14) 1, type := 0, pos := "law.go:72", after := #[{ on := 0, ground := Ground.phase }, { on := 1, ground := Ground.phase }, { on := 2, ground := Ground.phase }, { on := 3, ground := Ground.phase }, { on := 4, ground := Ground.phase }, { on := 5, ground := Ground.phase }], guard := none }) (v := ?vg6) rfl (by kernel_rfl) (by kernel_rfl) (by kernel_rfl) (fun _ _ _ h => h) (Or.inl ⟨by rfl, ?hg6⟩) hHeld ?rg6
  case hg6 => (intro y hy; go_simp; with_reducible rfl)
  try simp only [Act.put, List.setIfInBounds_toArray, List.set_cons_zero, List.set_cons_succ]
  refine wpAnyH_ready (rs := [7]) (by kernel_rfl) (by simp) ?_
  refine AllReadyH.cons (o := { dst := none, op := Op.store 3 (Operand.tmp 123) (Operand.tmp 121), type := 0, pos := "law.go:72", after := #[{ on := 6, ground := Ground.data }, { on := 3, ground := Ground.data }, { on := 5, ground := Ground.chain }, { on := 0, ground := Ground.phase }, { on := 1, ground := Ground.phase }, { on := 2, ground := Ground.phase }, { on := 3, ground := Ground.phase }, { on := 4, ground := Ground.phase }, { on := 5, ground := Ground.phase }], guard := none }) rfl (fun K hK => ?_) AllReadyH.nil
  obtain ⟨hq1, x0, z0, hz0, RY⟩ := hHeld
  have cc5 := RY.cell 1
  have fz5 := RY.fz 1
  simp only [List.getElem?_cons_zero, List.getElem?_cons_succ] at cc5
  go_simp
  refine hK.out _ _ (⟨hq1.setCell (p := ⟨w4.heap.size, 1, none⟩) (Nat.le_refl _) _, _, _, HPN.out, RY.set 1 _⟩) (fun hHeld => ?_)
  clear hK K
  try simp only [Act.put, List.setIfInBounds_toArray, List.set_cons_zero, List.set_cons_succ]
  refine wpAnyH_done (by kernel_rfl) ?_ _
  go_wp2_with fail
  obtain ⟨hb55, x9, z9, hz9, HROW⟩ := hHeld
  have HBT := nextB hB4 hb55
  have HHS := hH4.below hb55
  have HPN2 : Hid (z9 ≤ 9223372036854775807) := hz9
  refine (HX.out _ HBT).mono ?_
  rintro ev w6 ⟨rfl, hb6⟩
  have N6 := Row.new w6 26 (bys zero32)
  have A6 := new_below w6 (.cells (bys zero32).toArray 26)
  have hrl := HHL.out
  have hle : w6.heap.size ≤ w6.heap.size := Nat.le_refl _
  go_wp2_with (refine store26 rfl _ _ rfl w6 w6.heap.size _ hrl rfl rfl zero32 zero32_len N6 _ A6 hle ?_; intro w7 R7 hb7 _)
  have h67 := nextB hb6 hb7
  have RQ7 := HROW.below h67 HROW.lt
  have HH7 := HHS.below h67
  have HB7 := nextB HBT h67
  have HRa : Hid (∀ y, Below w7.heap.size w7 y → y.rangeAt w6.heap.size 0 (bys (root F L))) := fun y hy => (R7.below hy R7.lt).range
  have HRb : Hid (∀ y, Below w7.heap.size w7 y → y.cell? ⟨w4.heap.size, 0, none⟩ = some (.int .i64 (x9)) ∧ y.cell? ⟨w4.heap.size, 1, none⟩ = some (.int .i64 (z9)) ∧ y.cell? ⟨w4.heap.size, 2, none⟩ = some (.slice aq Pk.length cq)) := fun y hy => ⟨(RQ7.below hy RQ7.lt).cell 0, (RQ7.below hy RQ7.lt).cell 1, (RQ7.below hy RQ7.lt).cell 2⟩
  have HRl : Hid (∀ y, Below w7.heap.size w7 y → y.cell? ⟨bl, off + k, none⟩ = some (.slice ak lk.length ck)) := fun y hy => (HEL.out y (nextB HB7 hy)).1
  have HG1 : Hid _ := fun y (hy : Below w7.heap.size w7 y) => check_any F E.toEnv y _ _ (root F L) lk (x9) (z9) Pk hrl (HEL.out y (nextB HB7 hy)).2.1 (by have := HLB.out; omega) HPN2.out (HH7.below hy)
  have HG2 : Hid _ := fun y (hy : Below w7.heap.size w7 y) => xcheck_any F E y _ _ (root F L) lk (x9) (z9) Pk hrl (HEL.out y (nextB HB7 hy)).2.1 (by have := HLB.out; omega) HPN2.out (HH7.below hy)
  have HG3 : Hid _ := fun y (hy : Below w7.heap.size w7 y) => check_any F E.toEnv y _ _ (root F L) b (x9) (z9) Pk hrl (HEL.out y (nextB HB7 hy)).2.2 (by have := HLB.out; omega) HPN2.out (HH7.below hy)
  have HG4 : Hid _ := fun y (hy : Below w7.heap.size w7 y) => xcheck_any F E y _ _ (root F L) b (x9) (z9) Pk hrl (HEL.out y (nextB HB7 hy)).2.2 (by have := HLB.out; omega) HPN2.out (HH7.below hy)
  refine Code.wp_mono ?_ (reg22_any w7 w7 w4.heap.size w6.heap.size bl off L.length k (root F L) aq Pk.length cq cv b.length cb lk.length ck ak ab (x9) (z9) (chk F (root F L) lk (x9) (z9) Pk) (chk F (root F L) b (x9) (z9) Pk) (Below.refl _ _) hrl hk1 HRa HRb HRl HT HG1 HG2 HG3 HG4 _ _ _ _ _ _ _ _ _ _ _ _ _ _ _ _ _ _ _ _ _ _ _ _ _ _ _ _ _ _ _ _ _ _ _ _ _ _ _ _ _ _ _ _ _ _ _ _ _ _ _ _ _ _ _ _ _ _ _ _ _ _ _ _ _ _ _ _ _ _ _ _ _ _ _ _ _ _ _ _ _ _ _ _ _ _ _ _ _ _ _ _ _ _ _ _ _ _ _ _ _ _ _ _ _ _ _ _ _ _ _ _ _ _ _ _ _ _ _ _ _ _ _ _ _ _ _ _ _ _ _ _ _ _ _ _ _ _ _ _ _ _ _ _ _ _ _ _ _ _ )
  rintro e a' w20 ⟨rfl, hd, h0, hb20⟩
  have HB : Hid (Below w.heap.size w w20) := nextB (nextB HA.out HB7) hb20
  have HD : Hid (a'.defers = []) := hd
  have H0 : Hid (a'.tmps.getD 12 undef = .bool true) := h0
  clear hd h0 hb20 HRa HRb HRl HG1 HG2 HG3 HG4 RQ7 HH7 R7 hb6 hb7 h67 N6 A6
  go_wp2_with fail
  refine bodyPost_ret (results_tmp Try.results4 _ _ _) HD.out ⟨?_, HB.out⟩
  rw [H0.out]
end Go.Proofs.Ytfkibbpekngciaa
