/-
  MerkleChecks, turn 3.
-/
import Derived.Test.YtfkibbpekngciaaQChCkt
import Derived.Test.YtfkibbpekngciaaJoinFew3xCh
import Derived.Test.YtfkibbpekngciaaQChFrm
namespace Go.Proofs.Ytfkibbpekngciaa
open Go.RowKit

theorem rows26_set : ∀ (ks : List Bys), (∀ a ∈ ks, a.length = 32) → ∀ q c (z : UInt8), q < ks.length → c < 32 → rows26 (ks.set q ((ks.getD q []).set c z)) = (rows26 ks).set (q * 32 + c) (.int .u8 (z.toNat : Int))
  | [], _, q, c, _, hq, _ => by simp at hq
  | a :: ks, h, q, c, z, hq, hc => by
    have ha : (bys a).length = 32 := by rw [bys_len]; exact h a (by simp)
    cases q with
    | zero =>
      show bys (a.set c z) ++ rows26 ks = (bys a ++ rows26 ks).set (0 * 32 + c) _
      rw [List.set_append_left _ _ (by omega), bys_set]
      simp
    | succ q =>
      show bys a ++ rows26 (ks.set q ((ks.getD q []).set c z)) = (bys a ++ rows26 ks).set ((q + 1) * 32 + c) _
      rw [List.set_append_right _ _ (by omega), ha, show (q + 1) * 32 + c - 32 = q * 32 + c by omega, rows26_set ks (fun b hb => h b (by simp [hb])) q c z (by simpa using hq) hc]
theorem own_row {w : World} {B n : Nat} {v : Value} {xs : List Value} (h : w.ownsRow B 26 32 v n xs) (h0 : 0 < n) : ∃ g cap cur, v = .slice (some ⟨g, 0, none⟩) n cap ∧ B ≤ g ∧ Row w g 26 cur ∧ n ≤ cap ∧ cap ≤ maxLen ∧ cur.length = cap * 32 ∧ cur.take (n * 32) = xs := by
  rcases h.2 with ⟨_, h1⟩ | ⟨g, cap, cur, e, hB, hg, h1, h2, h3, h4⟩
  · omega
  · exact ⟨g, cap, cur.toList, e, hB, ⟨by simpa using hg⟩, h1, h2, by simpa using h3, h4⟩
/-- One byte of a sum of one's own row is set. -/
theorem own_poke {w : World} {B g cap : Nat} {P : List Bys} (h : w.ownsRow B 26 32 (.slice (some ⟨g, 0, none⟩) P.length cap) P.length (rows26 P)) (h32 : ∀ p ∈ P, p.length = 32) (q c : Nat) (z : UInt8) (hq : q < P.length) (hc : c < 32) :
    ∃ P' : List Bys, P'.length = P.length ∧ (∀ p ∈ P', p.length = 32) ∧ (w.setCell ⟨g, q * 32 + c, none⟩ (.int .u8 (z.toNat : Int))).ownsRow B 26 32 (.slice (some ⟨g, 0, none⟩) P.length cap) P'.length (rows26 P') := by
  refine ⟨P.set q ((P.getD q []).set c z), by simp, ?_, ?_⟩
  · intro p hp
    rcases List.mem_or_eq_of_mem_set hp with h' | rfl
    · exact h32 p h'
    · rw [List.length_set]
      rw [List.getD, List.getElem?_eq_getElem hq]; exact h32 _ (List.getElem_mem hq)
  · obtain ⟨g', cap', cur, e, hB, hR, h1, h2, h3, h4⟩ := own_row h (by omega)
    cases e
    rw [rows26_set P h32 q c z hq hc]
    have hR2 := hR.set (q * 32 + c) (.int .u8 (z.toNat : Int))
    refine ⟨by rw [List.length_set, h.1]; simp, .inr ⟨g, cap, (cur.set (q * 32 + c) (.int .u8 (z.toNat : Int))).toArray, by simp, hB, hR2.heap, by simpa using h1, h2, by simpa using h3, ?_⟩⟩
    rw [← h4]
    simp only [List.length_set]
    rw [List.take_set]
theorem u8_of (v : Int) (h0 : 0 ≤ v) (h1 : v < 256) : ∃ z : UInt8, v = (z.toNat : Int) := ⟨UInt8.ofNat v.toNat, by
  have : (UInt8.ofNat v.toNat).toNat = v.toNat % 256 := by simp
  omega⟩
theorem bits_u8 (op : BinOp) (x y : Int) : 0 ≤ bits op .u8 x y ∧ bits op .u8 x y < 256 := by
  unfold bits
  simp only [IntKind.wrap_u8]
  omega
set_option maxHeartbeats 8000000 in
set_option maxRecDepth 20000 in
theorem checks_t3 (F : Bys → Bys) (E : Env2 F) (w : World) (v bv pv : Value) (L : List Bys) (hL : Ls w v L) (hE : ∀ b ∈ L, b.length ≤ 9223372036854775807) (hf : fewB L = true) (i tn pi pn : Int) (b r : Bys) (P : List Bys) (hb : Sl w bv b) (hP : Hs w pv P) (hr : r.length = 32) (hpn : pn ≤ 9223372036854775807)
    (hbl : b.length ≤ 100) (hpl : P.length ≤ 70) (h1 : 1 ≤ L.length) (q6 : Int) (f1 : tn.tmod 6 = q6) (f2 : -6 < q6) (f3 : q6 < 6) (f4 : (q6 + 6) % 6 = 3) :
    Calls Try.prog 4 #[v, .int .i64 i, bv, .agg #[.int .i64 pi, .int .i64 pn, pv], .int .i64 tn, .agg (bys r).toArray] w fun ev w' => ev = .returned (.bool true) ∧ Below w.heap.size w w' := by
  have hlen := fewB_len hf
  obtain ⟨q, k, e1, e2, e3, e4, hk⟩ := place_of i L.length h1
  obtain ⟨bl, off, cv, fv, rfl, hcap, hcells⟩ := hL.some_ (by omega)
  obtain ⟨hc1, hs1⟩ := hcells k hk
  obtain ⟨ak, ck, ek⟩ := sl_slice hs1
  rw [ek] at hc1 hs1
  have hlk : (L.getD k []).length ≤ 100 := (of_decide_eq_true hf).2 _ (by simp [List.getD, List.getElem?_eq_getElem hk])
  obtain ⟨ap, cpp, rfl⟩ := hP.slice
  obtain ⟨ab, cb, rfl⟩ := sl_slice hb
  obtain ⟨W, hW⟩ : ∃ W, W = (w.alloc (.cells #[.int .i64 pi, .int .i64 pn, .slice ap P.length cpp] 30)).alloc (.cells (bys r).toArray 26) := ⟨_, rfl⟩
  have hA : Below w.heap.size w W := by
    rw [hW]; exact ((Below.refl w.heap.size w).alloc (Nat.le_refl _) _).alloc (by simp) _
  have RP : Row W w.heap.size 30 [.int .i64 pi, .int .i64 pn, .slice ap P.length cpp] := by
    rw [hW]; exact (Row.new w 30 _).below ((Below.refl _ _).alloc (Nat.le_refl _) _) (by simp)
  have RR : Row W (w.heap.size + 1) 26 (bys r) := by
    have := Row.new (w.alloc (.cells #[.int .i64 pi, .int .i64 pn, .slice ap P.length cpp] 30)) 26 (bys r)
    rw [hW]; exact (by simpa using this : Row _ (w.heap.size + 1) _ _)
  have HF := few_any W _ L (hL.below hA) (by omega) hE
  rw [hf] at HF
  have c2 : W.cell? ⟨w.heap.size, 2, none⟩ = some (.slice ap P.length cpp) := RP.cell 2
  have hR : (root F L).length = 32 := E.len _
  have K1 := fun (q : Bys) (hq : q.length = 32) y (hy : Below W.heap.size W y) => check_any F E.toEnv y _ _ q b pi pn P hq (hb.below (nextB hA hy)) (by omega) hpn (hP.below (nextB hA hy))
  have K2 := fun (q : Bys) (hq : q.length = 32) y (hy : Below W.heap.size W y) => xcheck_any F E y _ _ q b pi pn P hq (hb.below (nextB hA hy)) (by omega) hpn (hP.below (nextB hA hy))
  have HX : Hid (∀ y, Below W.heap.size W y → Calls Try.prog 12 #[.slice (some ⟨bl, off, none⟩) L.length cv] y fun ev w' => ev = .returned (.agg (bys (root F L)).toArray) ∧ Below y.heap.size y w') := fun y hy => xroot_any F E y _ L (hL.below (nextB hA hy)) (fewB_small hf) (by omega)
  have HPA : Hid (∀ y, Below W.heap.size W y → Calls Try.prog 16 #[.slice (some ⟨bl, off, none⟩) L.length cv, .int .i64 (k : Int)] y fun ev w' => ∃ v', ev = .returned v' ∧ w'.ownsRow y.heap.size 26 32 v' (path F L k).length (rows26 (path F L k)) ∧ Below y.heap.size y w') := fun y hy => xpath_any F E y _ L k (hL.below (nextB hA hy)) (fewB_small hf) hk (by omega)
  have HEL : Hid (∀ y, Below W.heap.size W y → y.cell? ⟨bl, off + k, none⟩ = some (.slice ak (L.getD k []).length ck) ∧ Sl y (.slice ak (L.getD k []).length ck) (L.getD k []) ∧ Sl y (.slice ab b.length cb) b) := fun y hy => by
    have hy' := nextB hA hy
    refine ⟨(hy'.cell (p := ⟨bl, off + k, none⟩) (World.block_lt_of_cell? w _ hc1)).trans hc1, hs1.below hy', hb.below hy'⟩
  have HT : Hid (∀ y, Calls Try.prog 10 #[] y fun ev w' => ev = .returned (.bool true) ∧ Below y.heap.size y w') := fun y => told_any F E y
  have HRR : Hid (∀ y, Below W.heap.size W y → y.rangeAt (w.heap.size + 1) 0 (bys r)) := fun y hy => (RR.below hy RR.lt).range
  have HRW : Hid (∀ y, Below W.heap.size W y → Row y (w.heap.size + 1) 26 (bys r) ∧ Row y w.heap.size 30 [.int .i64 pi, .int .i64 pn, .slice ap P.length cpp]) := fun y hy => ⟨RR.below hy RR.lt, RP.below hy RP.lt⟩
  have HRC : Hid (∀ y, Below W.heap.size W y → y.cell? ⟨w.heap.size, 0, none⟩ = some (.int .i64 pi) ∧ y.cell? ⟨w.heap.size, 1, none⟩ = some (.int .i64 pn) ∧ y.cell? ⟨w.heap.size, 2, none⟩ = some (.slice ap P.length cpp)) := fun y hy => ⟨(RP.below hy RP.lt).cell 0, (RP.below hy RP.lt).cell 1, (RP.below hy RP.lt).cell 2⟩
  have HK1 : Hid _ := K1 r hr
  have HK2 : Hid _ := K2 r hr
  have HK3 : Hid _ := K1 _ hR
  have HK4 : Hid _ := K2 _ hR
  have HHR : Hid (r.length = 32) := hr
  have HHL : Hid ((root F L).length = 32) := hR
  have HPN : Hid (pn ≤ 9223372036854775807) := hpn
  have HA : Hid (Below w.heap.size w W) := hA
  have AW : Aside (W = (w.alloc (.cells #[.int .i64 pi, .int .i64 pn, .slice ap P.length cpp] 30)).alloc (.cells (bys r).toArray 26)) := hW
  have hp63 : (path F L k).length ≤ 63 := by
    have := downs_64 k L.length (by omega)
    simpa [path] using this
  have HPM : Hid (∀ p ∈ path F L k, p.length = 32) := path_mem F E.len L k
  have HPF : Hid ((path F L k).length ≤ 63) := hp63
  have HLB : Hid (b.length ≤ 100 ∧ (L.getD k []).length ≤ 100) := ⟨hbl, hlk⟩
  have HKL : Hid (k < L.length ∧ L.length ≤ 20) := ⟨hk, hlen⟩
  clear hL hA RP RR hW K1 K2 hP hb hR hr hcells hc1 hs1 ek hp63
  have n1 : ¬ (100 : Int) < (b.length : Int) := by omega
  have n2 : ¬ (70 : Int) < (P.length : Int) := by omega
  have n0 : ((L.length : Int) == 0) = false := by
    have : ¬ (L.length : Int) = 0 := by omega
    simpa using this
  have n5 : (L.length : Int) ≤ 20 := by omega
  have n6 : (1 : Int) ≤ (L.length : Int) := by omega
  clear hf hE hbl hpl hpn hlk hcap
  generalize L.getD k [] = lk at *
  generalize path F L k = Pk at *
  obtain ⟨Y, HY⟩ : ∃ Y, Hid (Y = (bys r).toArray) := ⟨_, rfl⟩
  rw [← HY.out] at AW
  rw [← HY.out]
  go_enter Try.func4, Try.ntmps4
  go_wp2_with fail
  refine Calls_at_world AW.out ?_
  refine HF.mono ?_
  rintro ev w1 ⟨rfl, hw1⟩
  replace hw1 := hw1.symm
  subst hw1
  go_wp2_with fail
  have hY := HY.out
  subst hY
  refine Code.wp_mono ?_ (reg3_any W W w.heap.size (w.heap.size + 1) r (root F L) ap P.length cpp L.length cv b.length cb (some ⟨bl, off, none⟩) ab pi pn (chk F r b pi pn P) (chk F (root F L) b pi pn P) (Below.refl _ _) HHR.out HRR HRC HK1 HK2 HK3 HK4 HX _ _ _ _ _ _ _ _ _ _ _ _ _ _ _ _ _ _ _ _ _ _ _ _ _ _ _ _ _ _ _ _ _ _ _ _ _ _ _ _ _ _ _ _ _ _ _ _ _ _ _ _ _ _ _ _ _ _ _ _ _ _ _ _ _ _ _ _ _ _ _ _ _ _ _ _ _ _ _ _ _ _ _ _ _ _ _ _ _ _ _ _ _ _ _ _ _ _ _ _ _ _ _ _ _ _ _ _ _ _ _ _ _ _ _ _ _ _ _ _ _ _ _ _ _ _ _ _ _ _ _ _ _ _ _ _ _ _ _ _ _ _ _ _ _ _ _ _ _ _ _ )
  rintro e a' w3 ⟨rfl, hb3, u31, u32, u33, u34, u35, u36, u37, u38, u39, u40, u41, u42, u43, u44, u45, u46, u47, u48, u49, u50, u51, rfl⟩
  dsimp only
  obtain ⟨Y, HY⟩ : ∃ Y, Hid (Y = (bys r).toArray) := ⟨_, rfl⟩
  rw [← HY.out]
  clear HK1 HK2 HK3 HK4 HF c2
  go_wp2_with fail
  refine (HPA.out _ hb3).mono ?_
  rintro ev w4 ⟨v4, rfl, ho4, hb4⟩
  obtain ⟨aq, cq, rfl⟩ := own_shape' ho4
  have N4 := new30 w4
  have A4 := new_below w4 (.cells #[.int .i64 0, .int .i64 0, .slice none 0 0] 30)
  have o1 := one3 k L.length aq Pk.length cq
  have hB4 := nextB hb3 hb4
  have hle : w4.heap.size ≤ w4.heap.size := Nat.le_refl _
  clear HPA e1 e2 e3 e4 n0
  have hk0 : (0 : Int) ≤ (k : Int) := by omega
  have hk1 : (k : Int) < (L.length : Int) := by omega
  by_cases hp0 : Pk.length = 0
  · have p0 : ¬ (0 : Int) < (Pk.length : Int) := by omega
    clear hp0
    go_wp2_with (refine store30 rfl _ _ rfl w4 w4.heap.size _ _ _ o1 rfl rfl _ _ _ N4 _ A4 hle ?_; intro w5 R5 hb5 _; have ho5 := own_past' ho4 hb5; have hH5 := Hs.ofOwn ho5 HPM.out; have hB5 := nextB hB4 hb5; clear N4 A4 o1 ho4 hle; have cc := R5.cell 2; simp only [List.getElem?_cons_zero, List.getElem?_cons_succ] at cc)
    have HBT := hB5
    have HROW := R5
    have HHS := hH5
    have HPN2 : Hid ((L.length : Int) ≤ 9223372036854775807) := (by omega : (L.length : Int) ≤ 9223372036854775807)
    refine (HX.out _ HBT).mono ?_
    rintro ev w6 ⟨rfl, hb6⟩
    have N6 := Row.new w6 26 (bys zero32)
    have A6 := new_below w6 (.cells (bys zero32).toArray 26)
    have hrl := HHL.out
    have hle : w6.heap.size ≤ w6.heap.size := Nat.le_refl _
    go_wp2_with (refine store26 rfl _ _ rfl w6 w6.heap.size _ hrl rfl rfl zero32 zero32_len N6 _ A6 hle ?_; intro w7 R7 hb7 _)
    have h67 := nextB hb6 hb7
    have RQ7 := HROW.below h67 HROW.lt
    have HH7 := HHS.below h67
    have HB7 := nextB HBT h67
    have HRa : Hid (∀ y, Below w7.heap.size w7 y → y.rangeAt w6.heap.size 0 (bys (root F L))) := fun y hy => (R7.below hy R7.lt).range
    have HRb : Hid (∀ y, Below w7.heap.size w7 y → y.cell? ⟨w4.heap.size, 0, none⟩ = some (.int .i64 ((k : Int))) ∧ y.cell? ⟨w4.heap.size, 1, none⟩ = some (.int .i64 ((L.length : Int))) ∧ y.cell? ⟨w4.heap.size, 2, none⟩ = some (.slice aq Pk.length cq)) := fun y hy => ⟨(RQ7.below hy RQ7.lt).cell 0, (RQ7.below hy RQ7.lt).cell 1, (RQ7.below hy RQ7.lt).cell 2⟩
    have HRl : Hid (∀ y, Below w7.heap.size w7 y → y.cell? ⟨bl, off + k, none⟩ = some (.slice ak lk.length ck)) := fun y hy => (HEL.out y (nextB HB7 hy)).1
    have HG1 : Hid _ := fun y (hy : Below w7.heap.size w7 y) => check_any F E.toEnv y _ _ (root F L) lk ((k : Int)) ((L.length : Int)) Pk hrl (HEL.out y (nextB HB7 hy)).2.1 (by have := HLB.out; omega) HPN2.out (HH7.below hy)
    have HG2 : Hid _ := fun y (hy : Below w7.heap.size w7 y) => xcheck_any F E y _ _ (root F L) lk ((k : Int)) ((L.length : Int)) Pk hrl (HEL.out y (nextB HB7 hy)).2.1 (by have := HLB.out; omega) HPN2.out (HH7.below hy)
    have HG3 : Hid _ := fun y (hy : Below w7.heap.size w7 y) => check_any F E.toEnv y _ _ (root F L) b ((k : Int)) ((L.length : Int)) Pk hrl (HEL.out y (nextB HB7 hy)).2.2 (by have := HLB.out; omega) HPN2.out (HH7.below hy)
    have HG4 : Hid _ := fun y (hy : Below w7.heap.size w7 y) => xcheck_any F E y _ _ (root F L) b ((k : Int)) ((L.length : Int)) Pk hrl (HEL.out y (nextB HB7 hy)).2.2 (by have := HLB.out; omega) HPN2.out (HH7.below hy)
    refine Code.wp_mono ?_ (reg22_any w7 w7 w4.heap.size w6.heap.size bl off L.length k (root F L) aq Pk.length cq cv b.length cb lk.length ck ak ab ((k : Int)) ((L.length : Int)) (chk F (root F L) lk ((k : Int)) ((L.length : Int)) Pk) (chk F (root F L) b ((k : Int)) ((L.length : Int)) Pk) (Below.refl _ _) hrl hk1 HRa HRb HRl HT HG1 HG2 HG3 HG4 _ _ _ _ _ _ _ _ _ _ _ _ _ _ _ _ _ _ _ _ _ _ _ _ _ _ _ _ _ _ _ _ _ _ _ _ _ _ _ _ _ _ _ _ _ _ _ _ _ _ _ _ _ _ _ _ _ _ _ _ _ _ _ _ _ _ _ _ _ _ _ _ _ _ _ _ _ _ _ _ _ _ _ _ _ _ _ _ _ _ _ _ _ _ _ _ _ _ _ _ _ _ _ _ _ _ _ _ _ _ _ _ _ _ _ _ _ _ _ _ _ _ _ _ _ _ _ _ _ _ _ _ _ _ _ _ _ _ _ _ _ _ _ _ _ _ _ _ _ _ )
    rintro e a' w20 ⟨rfl, hd, h0, hb20⟩
    have HB : Hid (Below w.heap.size w w20) := nextB (nextB HA.out HB7) hb20
    have HD : Hid (a'.defers = []) := hd
    have H0 : Hid (a'.tmps.getD 12 undef = .bool true) := h0
    clear hd h0 hb20 HRa HRb HRl HG1 HG2 HG3 HG4 RQ7 HH7 R7 hb6 hb7 h67 N6 A6
    go_wp2_with fail
    refine bodyPost_ret (results_tmp Try.results4 _ _ _) HD.out ⟨?_, HB.out⟩
    rw [H0.out]
  · obtain ⟨gp, cq', cur, eq4, hgp, RC4, _, _, hcl, hct⟩ := own_row ho4 (by omega)
    cases eq4
    obtain ⟨m, hm⟩ : ∃ m, m = Pk.length - 1 := ⟨_, rfl⟩
    obtain ⟨x, HXX⟩ : ∃ x, Hid (x = (Pk.getD m []).getD 5 0) := ⟨_, rfl⟩
    have hcx : w4.cell? ⟨gp, m * 32 + 5, none⟩ = some (.int .u8 (x.toNat : Int)) := by
      have h32 : (Pk.getD m []).length = 32 := by rw [List.getD, List.getElem?_eq_getElem (by omega)]; exact HPM.out _ (List.getElem_mem _)
      have := own_range ho4 (m * 32 + 5) (.int .u8 (x.toNat : Int)) (by rw [flat_get Pk HPM.out m 5 (by omega) (by omega), bys_get _ _ (by omega), HXX.out])
      simpa using this
    have em : IntKind.i64.wrap ((Pk.length : Int) - 1) = (m : Int) := by rw [IntKind.wrap_i64]; have := HPF.out; omega
    have lm : (m : Int) < (Pk.length : Int) := by omega
    have l0 : (0 : Int) ≤ (m : Int) := by omega
    have p1 : (0 : Int) < (Pk.length : Int) := by omega
    have HM : Hid (m < Pk.length) := (by omega : m < Pk.length)
    clear hp0 hm
    go_wp2_with (refine store30 rfl _ _ rfl w4 w4.heap.size _ _ _ o1 rfl rfl _ _ _ N4 _ A4 hle ?_; intro w5 R5 hb5 _; have ho5 := own_past' ho4 hb5; have hH5 := Hs.ofOwn ho5 HPM.out; have hB5 := nextB hB4 hb5; clear N4 A4 o1 ho4 hle; have cc := R5.cell 2; simp only [List.getElem?_cons_zero, List.getElem?_cons_succ] at cc; have RC5 := RC4.below hb5 RC4.lt; have fz5 := RC5.fz (m * 32 + 5); have hcx5 := (hb5.cell (p := ⟨gp, m * 32 + 5, none⟩) RC4.lt).trans hcx)
    have q0 : w5.drew.cell? ⟨w4.heap.size, 2, none⟩ = some (.slice (some ⟨gp, 0, none⟩) Pk.length cq) ∧ w5.drew.cell? ⟨gp, m * 32 + 5, none⟩ = some (.int .u8 (x.toNat : Int)) := ⟨cc, hcx5⟩
    refine beginL (fun y => y.cell? ⟨w4.heap.size, 2, none⟩ = some (.slice (some ⟨gp, 0, none⟩) Pk.length cq) ∧ y.cell? ⟨gp, m * 32 + 5, none⟩ = some (.int .u8 (x.toNat : Int))) 12 (by kernel_rfl) q0 (fun hS0 => ?_)
    refine takeL 0 (v := ?vz0) rfl (some 96) rfl (by decide) (by kernel_rfl) (by kernel_rfl) (by kernel_rfl) (by kernel_rfl) (fun _ _ _ h => h) (Or.inl ⟨by rfl, ?hz0⟩) hS0 ?rz0
    case hz0 => (intro y hy; obtain ⟨z1, z2⟩ := hy; go_simp; with_reducible rfl)
    simp only [Act.put, List.setIfInBounds_toArray, List.set_cons_zero, List.set_cons_succ]
    refine takeL 1 (v := ?vz1) rfl (some 97) rfl (by decide) (by kernel_rfl) (by kernel_rfl) (by kernel_rfl) (by kernel_rfl) (fun _ _ _ h => h) (Or.inl ⟨by rfl, ?hz1⟩) hS0 ?rz1
    case hz1 => (intro y hy; obtain ⟨z1, z2⟩ := hy; go_simp; with_reducible rfl)
    simp only [Act.put, List.setIfInBounds_toArray, List.set_cons_zero, List.set_cons_succ]
    refine takeL 2 (v := ?vz2) rfl (some 98) rfl (by decide) (by kernel_rfl) (by kernel_rfl) (by kernel_rfl) (by kernel_rfl) (fun _ _ _ h => h) (Or.inl ⟨by rfl, ?hz2⟩) hS0 ?rz2
    case hz2 => (intro y hy; obtain ⟨z1, z2⟩ := hy; go_simp; with_reducible rfl)
    simp only [Act.put, List.setIfInBounds_toArray, List.set_cons_zero, List.set_cons_succ]
    refine takeL 3 (v := ?vz3) rfl (some 99) rfl (by decide) (by kernel_rfl) (by kernel_rfl) (by kernel_rfl) (by kernel_rfl) (fun _ _ _ h => h) (Or.inl ⟨by rfl, ?hz3⟩) hS0 ?rz3
    case hz3 => (intro y hy; obtain ⟨z1, z2⟩ := hy; go_simp; with_reducible rfl)
    simp only [Act.put, List.setIfInBounds_toArray, List.set_cons_zero, List.set_cons_succ]
    refine takeL 4 (v := ?vz4) rfl (some 100) rfl (by decide) (by kernel_rfl) (by kernel_rfl) (by kernel_rfl) (by kernel_rfl) (fun _ _ _ h => h) (Or.inl ⟨by rfl, ?hz4⟩) hS0 ?rz4
    case hz4 => (intro y hy; obtain ⟨z1, z2⟩ := hy; go_simp; with_reducible rfl)
    simp only [Act.put, List.setIfInBounds_toArray, List.set_cons_zero, List.set_cons_succ]
    refine takeL 5 (v := ?vz5) rfl (some 101) rfl (by decide) (by kernel_rfl) (by kernel_rfl) (by kernel_rfl) (by kernel_rfl) (fun _ _ _ h => h) (Or.inl ⟨by rfl, ?hz5⟩) hS0 ?rz5
    case hz5 => (intro y hy; obtain ⟨z1, z2⟩ := hy; go_simp; with_reducible rfl)
    simp only [Act.put, List.setIfInBounds_toArray, List.set_cons_zero, List.set_cons_succ]
    refine takeL 6 (v := ?vz6) rfl (some 102) rfl (by decide) (by kernel_rfl) (by kernel_rfl) (by kernel_rfl) (by kernel_rfl) (fun _ _ _ h => h) (Or.inl ⟨by rfl, ?hz6⟩) hS0 ?rz6
    case hz6 => (intro y hy; obtain ⟨z1, z2⟩ := hy; go_simp; with_reducible rfl)
    simp only [Act.put, List.setIfInBounds_toArray, List.set_cons_zero, List.set_cons_succ]
    refine takeL 7 (v := ?vz7) rfl (some 103) rfl (by decide) (by kernel_rfl) (by kernel_rfl) (by kernel_rfl) (by kernel_rfl) (fun _ _ _ h => h) (Or.inl ⟨by rfl, ?hz7⟩) hS0 ?rz7
    case hz7 => (intro y hy; obtain ⟨z1, z2⟩ := hy; go_simp; with_reducible rfl)
    simp only [Act.put, List.setIfInBounds_toArray, List.set_cons_zero, List.set_cons_succ]
    refine takeL 8 (v := ?vz8) rfl (some 104) rfl (by decide) (by kernel_rfl) (by kernel_rfl) (by kernel_rfl) (by kernel_rfl) (fun _ _ _ h => h) (Or.inl ⟨by rfl, ?hz8⟩) hS0 ?rz8
    case hz8 => (intro y hy; obtain ⟨z1, z2⟩ := hy; go_simp; with_reducible rfl)
    simp only [Act.put, List.setIfInBounds_toArray, List.set_cons_zero, List.set_cons_succ]
    refine takeL 9 (v := ?vz9) rfl (some 105) rfl (by decide) (by kernel_rfl) (by kernel_rfl) (by kernel_rfl) (by kernel_rfl) (fun _ _ _ h => h) (Or.inl ⟨by rfl, ?hz9⟩) hS0 ?rz9
    case hz9 => (intro y hy; obtain ⟨z1, z2⟩ := hy; go_simp; with_reducible rfl)
    simp only [Act.put, List.setIfInBounds_toArray, List.set_cons_zero, List.set_cons_succ]
    refine readyL (rs := [10]) (by kernel_rfl) (by simp) ?_
    refine ReadyL.cons rfl (fun K hK => ?_) ReadyL.nil
    go_simp
    refine hK.out _ _ (fun _ => hS0) (fun _ => ?_)
    clear hK K
    refine takeL 11 (v := ?vz11) rfl (some 107) rfl (by decide) (by kernel_rfl) (by kernel_rfl) (by kernel_rfl) (by kernel_rfl) (fun _ _ _ h => h) (Or.inl ⟨by rfl, ?hz11⟩) hS0 ?rz11
    case hz11 => (intro y hy; obtain ⟨z1, z2⟩ := hy; go_simp; with_reducible rfl)
    simp only [Act.put, List.setIfInBounds_toArray, List.set_cons_zero, List.set_cons_succ]
    refine readyL (rs := [12]) (by kernel_rfl) (by simp) ?_
    refine ReadyL.cons rfl (fun K hK => ?_) ReadyL.nil
    obtain ⟨z1, z2⟩ := hS0
    have fzd : w5.drew.frozen? ⟨gp, m * 32 + 5, none⟩ = false := fz5
    go_simp
    refine hK.out _ _ (fun h => absurd rfl h) (fun _ => ?_)
    clear hK K z1 z2 fzd
    refine doneL (by kernel_rfl) ?_ _
    go_wp2_with fail
    obtain ⟨z, hz⟩ := u8_of (bits .xor .u8 (x.toNat : Int) 4) (bits_u8 _ _ _).1 (bits_u8 _ _ _).2
    obtain ⟨Pq, hPql, hPq32, hoq⟩ := own_poke ho5 HPM.out m 5 z HM.out (by omega)
    rw [← hz] at hoq
    have hne : w4.heap.size ≠ gp := by have := RC4.lt; omega
    have hsz : W.heap.size ≤ gp := by have := hb3.size; omega
    have HBT : Below W.heap.size W (w5.setCell ⟨gp, m * 32 + 5, none⟩ (.int .u8 (bits .xor .u8 (x.toNat : Int) 4))).drew := (hB5.setCell (p := ⟨gp, m * 32 + 5, none⟩) hsz _).drew
    have HROW : Row (w5.setCell ⟨gp, m * 32 + 5, none⟩ (.int .u8 (bits .xor .u8 (x.toNat : Int) 4))).drew w4.heap.size 30 [.int .i64 (k : Int), .int .i64 (L.length : Int), .slice (some ⟨gp, 0, none⟩) Pk.length cq] := (R5.other hne _).drew
    have HHS : Hs (w5.setCell ⟨gp, m * 32 + 5, none⟩ (.int .u8 (bits .xor .u8 (x.toNat : Int) 4))).drew (.slice (some ⟨gp, 0, none⟩) Pk.length cq) Pq := (Hs.ofOwn hoq hPq32).below (Below.refl _ _).drew
    have HPN2 : Hid ((L.length : Int) ≤ 9223372036854775807) := (by omega : (L.length : Int) ≤ 9223372036854775807)
    clear hoq hne hsz RC4 RC5 fz5 hcx hcx5 cc q0 R5 hH5 ho5 hb5 hB5 hz
    generalize (w5.setCell ⟨gp, m * 32 + 5, none⟩ (.int .u8 (bits .xor .u8 (x.toNat : Int) 4))).drew = w55 at *
    refine (HX.out _ HBT).mono ?_
    rintro ev w6 ⟨rfl, hb6⟩
    have N6 := Row.new w6 26 (bys zero32)
    have A6 := new_below w6 (.cells (bys zero32).toArray 26)
    have hrl := HHL.out
    have hle : w6.heap.size ≤ w6.heap.size := Nat.le_refl _
    go_wp2_with (refine store26 rfl _ _ rfl w6 w6.heap.size _ hrl rfl rfl zero32 zero32_len N6 _ A6 hle ?_; intro w7 R7 hb7 _)
    have h67 := nextB hb6 hb7
    have RQ7 := HROW.below h67 HROW.lt
    have HH7 := HHS.below h67
    have HB7 := nextB HBT h67
    have HRa : Hid (∀ y, Below w7.heap.size w7 y → y.rangeAt w6.heap.size 0 (bys (root F L))) := fun y hy => (R7.below hy R7.lt).range
    have HRb : Hid (∀ y, Below w7.heap.size w7 y → y.cell? ⟨w4.heap.size, 0, none⟩ = some (.int .i64 ((k : Int))) ∧ y.cell? ⟨w4.heap.size, 1, none⟩ = some (.int .i64 ((L.length : Int))) ∧ y.cell? ⟨w4.heap.size, 2, none⟩ = some (.slice (some ⟨gp, 0, none⟩) Pk.length cq)) := fun y hy => ⟨(RQ7.below hy RQ7.lt).cell 0, (RQ7.below hy RQ7.lt).cell 1, (RQ7.below hy RQ7.lt).cell 2⟩
    have HRl : Hid (∀ y, Below w7.heap.size w7 y → y.cell? ⟨bl, off + k, none⟩ = some (.slice ak lk.length ck)) := fun y hy => (HEL.out y (nextB HB7 hy)).1
    have HG1 : Hid _ := fun y (hy : Below w7.heap.size w7 y) => check_any F E.toEnv y _ _ (root F L) lk ((k : Int)) ((L.length : Int)) Pq hrl (HEL.out y (nextB HB7 hy)).2.1 (by have := HLB.out; omega) HPN2.out (HH7.below hy)
    have HG2 : Hid _ := fun y (hy : Below w7.heap.size w7 y) => xcheck_any F E y _ _ (root F L) lk ((k : Int)) ((L.length : Int)) Pq hrl (HEL.out y (nextB HB7 hy)).2.1 (by have := HLB.out; omega) HPN2.out (HH7.below hy)
    have HG3 : Hid _ := fun y (hy : Below w7.heap.size w7 y) => check_any F E.toEnv y _ _ (root F L) b ((k : Int)) ((L.length : Int)) Pq hrl (HEL.out y (nextB HB7 hy)).2.2 (by have := HLB.out; omega) HPN2.out (HH7.below hy)
    have HG4 : Hid _ := fun y (hy : Below w7.heap.size w7 y) => xcheck_any F E y _ _ (root F L) b ((k : Int)) ((L.length : Int)) Pq hrl (HEL.out y (nextB HB7 hy)).2.2 (by have := HLB.out; omega) HPN2.out (HH7.below hy)
    refine Code.wp_mono ?_ (reg22_any w7 w7 w4.heap.size w6.heap.size bl off L.length k (root F L) (some ⟨gp, 0, none⟩) Pk.length cq cv b.length cb lk.length ck ak ab ((k : Int)) ((L.length : Int)) (chk F (root F L) lk ((k : Int)) ((L.length : Int)) Pq) (chk F (root F L) b ((k : Int)) ((L.length : Int)) Pq) (Below.refl _ _) hrl hk1 HRa HRb HRl HT HG1 HG2 HG3 HG4 _ _ _ _ _ _ _ _ _ _ _ _ _ _ _ _ _ _ _ _ _ _ _ _ _ _ _ _ _ _ _ _ _ _ _ _ _ _ _ _ _ _ _ _ _ _ _ _ _ _ _ _ _ _ _ _ _ _ _ _ _ _ _ _ _ _ _ _ _ _ _ _ _ _ _ _ _ _ _ _ _ _ _ _ _ _ _ _ _ _ _ _ _ _ _ _ _ _ _ _ _ _ _ _ _ _ _ _ _ _ _ _ _ _ _ _ _ _ _ _ _ _ _ _ _ _ _ _ _ _ _ _ _ _ _ _ _ _ _ _ _ _ _ _ _ _ _ _ _ _ )
    rintro e a' w20 ⟨rfl, hd, h0, hb20⟩
    have HB : Hid (Below w.heap.size w w20) := nextB (nextB HA.out HB7) hb20
    have HD : Hid (a'.defers = []) := hd
    have H0 : Hid (a'.tmps.getD 12 undef = .bool true) := h0
    clear hd h0 hb20 HRa HRb HRl HG1 HG2 HG3 HG4 RQ7 HH7 R7 hb6 hb7 h67 N6 A6
    go_wp2_with fail
    refine bodyPost_ret (results_tmp Try.results4 _ _ _) HD.out ⟨?_, HB.out⟩
    rw [H0.out]
end Go.Proofs.Ytfkibbpekngciaa
