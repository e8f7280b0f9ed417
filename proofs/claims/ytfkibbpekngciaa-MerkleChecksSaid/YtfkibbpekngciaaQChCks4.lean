/-
  MerkleChecks, turn 4.
-/
import Derived.Test.YtfkibbpekngciaaQChCkt
import Derived.Test.YtfkibbpekngciaaJoinFew3xCh
import Derived.Test.YtfkibbpekngciaaQChFrm
namespace Go.Proofs.Ytfkibbpekngciaa
open Go.RowKit

theorem build26 {ops : Array Oper} {rest : List Oper} {o : Oper} {a : Act} {w : World} {Q : Exit → Act → World → Prop} (hgd : o.guard = none) (x : Operand) (ho : o.op = .buildSlice 28 1 #[(0, x)]) (h : Bys) (hl : h.length = 32) (hx : a.eval x = .agg (bys h).toArray)
    (k : ∀ w2 g, Below w.heap.size w w2 → Row w2 g 26 (bys h) → wpList Try.prog ops Q rest (a.put o.dst (.slice (some ⟨g, 0, none⟩) 1 1)) w2) : wpList Try.prog ops Q (o :: rest) a w :=
  wpList_plain hgd fun _ hK => wpo_build26 x ho (bys h) hx (by rw [bys_len]; exact hl) (hK _ _ (k _ _ (new_below w _) (Row.new w 26 (bys h))))
theorem app26 {ops : Array Oper} {rest : List Oper} {o : Oper} {a : Act} {Q : Exit → Act → World → Prop} {w : World} {B : Nat} {v : Value} {P : List Bys} (hgd : o.guard = none) (s x : Operand)
    (ho : o.op = .call { callee := .builtin .append, args := #[s, x], argTypes := #[28, 28] }) (hs : a.eval s = v) (hown : w.ownsRow B 26 32 v P.length (rows26 P)) (hB : B ≤ w.heap.size)
    (g c : Nat) (h : Bys) (hl : h.length = 32) (hx : a.eval x = .slice (some ⟨g, 0, none⟩) 1 c) (hr : w.rangeAt g 0 (bys h)) (hn : P.length ≤ 1000000)
    (k : ∀ v' w', w'.ownsRow B 26 32 v' (P ++ [h]).length (rows26 (P ++ [h])) → Below B w w' → w.grownBy w' v.ownBlock → wpList Try.prog ops Q rest (a.put o.dst v') w') :
    wpList Try.prog ops Q (o :: rest) a w :=
  wpList_plain hgd fun _ hK => wpo_app26 s x ho hs hown hB g c h hl hx hr hn (fun v' w' h1 h2 h3 _ => hK _ _ (k v' w' h1 h2 h3))
set_option maxHeartbeats 8000000 in
set_option maxRecDepth 20000 in
theorem checks_t4 (F : Bys → Bys) (E : Env2 F) (w : World) (v bv pv : Value) (L : List Bys) (hL : Ls w v L) (hE : ∀ b ∈ L, b.length ≤ 9223372036854775807) (hf : fewB L = true) (i tn pi pn : Int) (b r : Bys) (P : List Bys) (hb : Sl w bv b) (hP : Hs w pv P) (hr : r.length = 32) (hpn : pn ≤ 9223372036854775807)
    (hbl : b.length ≤ 100) (hpl : P.length ≤ 70) (h1 : 1 ≤ L.length) (q6 : Int) (f1 : tn.tmod 6 = q6) (f2 : -6 < q6) (f3 : q6 < 6) (f4 : (q6 + 6) % 6 = 4) :
    Calls Try.prog 4 #[v, .int .i64 i, bv, .agg #[.int .i64 pi, .int .i64 pn, pv], .int .i64 tn, .agg (bys r).toArray] w fun ev w' => ev = .returned (.bool true) ∧ Below w.heap.size w w' := by
  have hlen := fewB_len hf
  obtain ⟨q, k, e1, e2, e3, e4, hk⟩ := place_of i L.length h1
  obtain ⟨bl, off, cv, fv, rfl, hcap, hcells⟩ := hL.some_ (by omega)
  obtain ⟨hc1, hs1⟩ := hcells k hk
  obtain ⟨ak, ck, ek⟩ := sl_slice hs1
  rw [ek] at hc1 hs1
  have hlk : (L.getD k []).length ≤ 100 := (of_decide_eq_true hf).2 _ (by simp [List.getD, List.getElem?_eq_getElem hk])
  obtain ⟨ap, cpp, rfl⟩ := hP.slice
  obtain ⟨ab, cb, rfl⟩ := sl_slice hb
  obtain ⟨W, hW⟩ : ∃ W, W = (w.alloc (.cells #[.int .i64 pi, .int .i64 pn, .slice ap P.length cpp] 30)).alloc (.cells (bys r).toArray 26) := ⟨_, rfl⟩
  have hA : Below w.heap.size w W := by
    rw [hW]; exact ((Below.refl w.heap.size w).alloc (Nat.le_refl _) _).alloc (by simp) _
  have RP : Row W w.heap.size 30 [.int .i64 pi, .int .i64 pn, .slice ap P.length cpp] := by
    rw [hW]; exact (Row.new w 30 _).below ((Below.refl _ _).alloc (Nat.le_refl _) _) (by simp)
  have RR : Row W (w.heap.size + 1) 26 (bys r) := by
    have := Row.new (w.alloc (.cells #[.int .i64 pi, .int .i64 pn, .slice ap P.length cpp] 30)) 26 (bys r)
    rw [hW]; exact (by simpa using this : Row _ (w.heap.size + 1) _ _)
  have HF := few_any W _ L (hL.below hA) (by omega) hE
  rw [hf] at HF
  have c2 : W.cell? ⟨w.heap.size, 2, none⟩ = some (.slice ap P.length cpp) := RP.cell 2
  have hR : (root F L).length = 32 := E.len _
  have K1 := fun (q : Bys) (hq : q.length = 32) y (hy : Below W.heap.size W y) => check_any F E.toEnv y _ _ q b pi pn P hq (hb.below (nextB hA hy)) (by omega) hpn (hP.below (nextB hA hy))
  have K2 := fun (q : Bys) (hq : q.length = 32) y (hy : Below W.heap.size W y) => xcheck_any F E y _ _ q b pi pn P hq (hb.below (nextB hA hy)) (by omega) hpn (hP.below (nextB hA hy))
  have HX : Hid (∀ y, Below W.heap.size W y → Calls Try.prog 12 #[.slice (some ⟨bl, off, none⟩) L.length cv] y fun ev w' => ev = .returned (.agg (bys (root F L)).toArray) ∧ Below y.heap.size y w') := fun y hy => xroot_any F E y _ L (hL.below (nextB hA hy)) (fewB_small hf) (by omega)
  have HPA : Hid (∀ y, Below W.heap.size W y → Calls Try.prog 16 #[.slice (some ⟨bl, off, none⟩) L.length cv, .int .i64 (k : Int)] y fun ev w' => ∃ v', ev = .returned v' ∧ w'.ownsRow y.heap.size 26 32 v' (path F L k).length (rows26 (path F L k)) ∧ Below y.heap.size y w') := fun y hy => xpath_any F E y _ L k (hL.below (nextB hA hy)) (fewB_small hf) hk (by omega)
  have HEL : Hid (∀ y, Below W.heap.size W y → y.cell? ⟨bl, off + k, none⟩ = some (.slice ak (L.getD k []).length ck) ∧ Sl y (.slice ak (L.getD k []).length ck) (L.getD k []) ∧ Sl y (.slice ab b.length cb) b) := fun y hy => by
    have hy' := nextB hA hy
    refine ⟨(hy'.cell (p := ⟨bl, off + k, none⟩) (World.block_lt_of_cell? w _ hc1)).trans hc1, hs1.below hy', hb.below hy'⟩
  have HT : Hid (∀ y, Calls Try.prog 10 #[] y fun ev w' => ev = .returned (.bool true) ∧ Below y.heap.size y w') := fun y => told_any F E y
  have HRR : Hid (∀ y, Below W.heap.size W y → y.rangeAt (w.heap.size + 1) 0 (bys r)) := fun y hy => (RR.below hy RR.lt).range
  have HRW : Hid (∀ y, Below W.heap.size W y → Row y (w.heap.size + 1) 26 (bys r) ∧ Row y w.heap.size 30 [.int .i64 pi, .int .i64 pn, .slice ap P.length cpp]) := fun y hy => ⟨RR.below hy RR.lt, RP.below hy RP.lt⟩
  have HRC : Hid (∀ y, Below W.heap.size W y → y.cell? ⟨w.heap.size, 0, none⟩ = some (.int .i64 pi) ∧ y.cell? ⟨w.heap.size, 1, none⟩ = some (.int .i64 pn) ∧ y.cell? ⟨w.heap.size, 2, none⟩ = some (.slice ap P.length cpp)) := fun y hy => ⟨(RP.below hy RP.lt).cell 0, (RP.below hy RP.lt).cell 1, (RP.below hy RP.lt).cell 2⟩
  have HK1 : Hid _ := K1 r hr
  have HK2 : Hid _ := K2 r hr
  have HK3 : Hid _ := K1 _ hR
  have HK4 : Hid _ := K2 _ hR
  have HHR : Hid (r.length = 32) := hr
  have HHL : Hid ((root F L).length = 32) := hR
  have HPN : Hid (pn ≤ 9223372036854775807) := hpn
  have HA : Hid (Below w.heap.size w W) := hA
  have AW : Aside (W = (w.alloc (.cells #[.int .i64 pi, .int .i64 pn, .slice ap P.length cpp] 30)).alloc (.cells (bys r).toArray 26)) := hW
  have hp63 : (path F L k).length ≤ 63 := by
    have := downs_64 k L.length (by omega)
    simpa [path] using this
  have HPM : Hid (∀ p ∈ path F L k, p.length = 32) := path_mem F E.len L k
  have HPF : Hid ((path F L k).length ≤ 63) := hp63
  have HLB : Hid (b.length ≤ 100 ∧ (L.getD k []).length ≤ 100) := ⟨hbl, hlk⟩
  have HKL : Hid (k < L.length ∧ L.length ≤ 20) := ⟨hk, hlen⟩
  clear hL hA RP RR hW K1 K2 hP hb hR hr hcells hc1 hs1 ek hp63
  have n1 : ¬ (100 : Int) < (b.length : Int) := by omega
  have n2 : ¬ (70 : Int) < (P.length : Int) := by omega
  have n0 : ((L.length : Int) == 0) = false := by
    have : ¬ (L.length : Int) = 0 := by omega
    simpa using this
  have n5 : (L.length : Int) ≤ 20 := by omega
  have n6 : (1 : Int) ≤ (L.length : Int) := by omega
  clear hf hE hbl hpl hpn hlk hcap
  generalize L.getD k [] = lk at *
  generalize path F L k = Pk at *
  obtain ⟨Y, HY⟩ : ∃ Y, Hid (Y = (bys r).toArray) := ⟨_, rfl⟩
  rw [← HY.out] at AW
  rw [← HY.out]
  go_enter Try.func4, Try.ntmps4
  go_wp2_with fail
  refine Calls_at_world AW.out ?_
  refine HF.mono ?_
  rintro ev w1 ⟨rfl, hw1⟩
  replace hw1 := hw1.symm
  subst hw1
  go_wp2_with fail
  have hY := HY.out
  subst hY
  refine Code.wp_mono ?_ (reg3_any W W w.heap.size (w.heap.size + 1) r (root F L) ap P.length cpp L.length cv b.length cb (some ⟨bl, off, none⟩) ab pi pn (chk F r b pi pn P) (chk F (root F L) b pi pn P) (Below.refl _ _) HHR.out HRR HRC HK1 HK2 HK3 HK4 HX _ _ _ _ _ _ _ _ _ _ _ _ _ _ _ _ _ _ _ _ _ _ _ _ _ _ _ _ _ _ _ _ _ _ _ _ _ _ _ _ _ _ _ _ _ _ _ _ _ _ _ _ _ _ _ _ _ _ _ _ _ _ _ _ _ _ _ _ _ _ _ _ _ _ _ _ _ _ _ _ _ _ _ _ _ _ _ _ _ _ _ _ _ _ _ _ _ _ _ _ _ _ _ _ _ _ _ _ _ _ _ _ _ _ _ _ _ _ _ _ _ _ _ _ _ _ _ _ _ _ _ _ _ _ _ _ _ _ _ _ _ _ _ _ _ _ _ _ _ _ _ )
  rintro e a' w3 ⟨rfl, hb3, u31, u32, u33, u34, u35, u36, u37, u38, u39, u40, u41, u42, u43, u44, u45, u46, u47, u48, u49, u50, u51, rfl⟩
  dsimp only
  obtain ⟨Y, HY⟩ : ∃ Y, Hid (Y = (bys r).toArray) := ⟨_, rfl⟩
  rw [← HY.out]
  clear HK1 HK2 HK3 HK4 HF c2
  go_wp2_with fail
  refine (HPA.out _ hb3).mono ?_
  rintro ev w4 ⟨v4, rfl, ho4, hb4⟩
  obtain ⟨aq, cq, rfl⟩ := own_shape' ho4
  have N4 := new30 w4
  have A4 := new_below w4 (.cells #[.int .i64 0, .int .i64 0, .slice none 0 0] 30)
  have o1 := one3 k L.length aq Pk.length cq
  have hB4 := nextB hb3 hb4
  have hle : w4.heap.size ≤ w4.heap.size := Nat.le_refl _
  clear HPA e1 e2 e3 e4 n0
  have hk0 : (0 : Int) ≤ (k : Int) := by omega
  have hk1 : (k : Int) < (L.length : Int) := by omega
  go_wp2_with (first
    | (refine store30 rfl _ _ rfl w4 w4.heap.size _ _ _ o1 rfl rfl _ _ _ N4 _ A4 hle ?_; intro w5 R5 hb5 _; have ho5 := own_past' ho4 hb5; have hH5 := Hs.ofOwn ho5 HPM.out; have hB5 := nextB hB4 hb5; clear N4 A4 o1 ho4 hle; have cc := R5.cell 2; have RR5 := (HRW.out _ hB5).1; have hrr := HHR.out; simp only [List.getElem?_cons_zero, List.getElem?_cons_succ] at cc)
    | (refine load26r rfl _ rfl (w.heap.size + 1) _ hrr rfl RR5 ?_)
    | (refine build26 rfl _ rfl r hrr rfl ?_; intro w6 g6 hb6 R6; have ho6 := own_past' ho5 hb6; have hB6 := nextB hB5 hb6; have hs6 : w3.heap.size ≤ w6.heap.size := (nextB hb4 (nextB hb5 hb6)).size; have R56 := R5.below hb6 R5.lt; have hfew : Pk.length ≤ 1000000 := (by have := HPF.out; omega); clear cc RR5 R5 hH5)
    | (refine app26 rfl _ _ rfl rfl ho6 hs6 g6 1 r hrr rfl R6.range hfew ?_; intro v7 w7 ho7 hb7 hg7; obtain ⟨Pq, HPq⟩ : ∃ Pq, Hid (Pq = Pk ++ [r]) := ⟨_, rfl⟩; rw [← HPq.out] at ho7; obtain ⟨a7, c7, rfl⟩ := own_shape' ho7; have R57 := R56.grown hg7 (fun e => own_apart ho6 R56 (by decide) _ e rfl); have HB7 := hB6.trans (hb7.mono hb3.size); have cc7 := R57.cell 2; have fz7 := R57.fz 2; simp only [List.getElem?_cons_zero, List.getElem?_cons_succ] at cc7; clear ho6 R56 R6 hb6 hb7 hg7 ho5))
  have hsz := hB4.size
  have HBT : Below W.heap.size W (w7.setCell ⟨w4.heap.size, 2, none⟩ (.slice a7 Pq.length c7)) := HB7.setCell (p := ⟨w4.heap.size, 2, none⟩) hsz _
  have HROW : Row (w7.setCell ⟨w4.heap.size, 2, none⟩ (.slice a7 Pq.length c7)) w4.heap.size 30 [.int .i64 (k : Int), .int .i64 (L.length : Int), .slice a7 Pq.length c7] := R57.set 2 (.slice a7 Pq.length c7)
  have HHS : Hs (w7.setCell ⟨w4.heap.size, 2, none⟩ (.slice a7 Pq.length c7)) (.slice a7 Pq.length c7) Pq := Hs.ofOwn (own_setCell ho7 R57 (by decide)) (fun p hp => by
    rw [HPq.out] at hp
    rcases List.mem_append.1 hp with h | h
    · exact HPM.out p h
    · rw [List.mem_singleton.1 h]; exact HHR.out)
  have HPN2 : Hid ((L.length : Int) ≤ 9223372036854775807) := (by omega : (L.length : Int) ≤ 9223372036854775807)
  clear cc7 fz7 R57 ho7 HB7 hsz
  generalize w7.setCell ⟨w4.heap.size, 2, none⟩ (.slice a7 Pq.length c7) = w55 at *
  refine (HX.out _ HBT).mono ?_
  rintro ev w6 ⟨rfl, hb6⟩
  have N6 := Row.new w6 26 (bys zero32)
  have A6 := new_below w6 (.cells (bys zero32).toArray 26)
  have hrl := HHL.out
  have hle : w6.heap.size ≤ w6.heap.size := Nat.le_refl _
  go_wp2_with (refine store26 rfl _ _ rfl w6 w6.heap.size _ hrl rfl rfl zero32 zero32_len N6 _ A6 hle ?_; intro w77 R7 hb7 _)
  have h67 := nextB hb6 hb7
  have RQ7 := HROW.below h67 HROW.lt
  have HH7 := HHS.below h67
  have HB7 := nextB HBT h67
  have HRa : Hid (∀ y, Below w77.heap.size w77 y → y.rangeAt w6.heap.size 0 (bys (root F L))) := fun y hy => (R7.below hy R7.lt).range
  have HRb : Hid (∀ y, Below w77.heap.size w77 y → y.cell? ⟨w4.heap.size, 0, none⟩ = some (.int .i64 ((k : Int))) ∧ y.cell? ⟨w4.heap.size, 1, none⟩ = some (.int .i64 ((L.length : Int))) ∧ y.cell? ⟨w4.heap.size, 2, none⟩ = some (.slice a7 Pq.length c7)) := fun y hy => ⟨(RQ7.below hy RQ7.lt).cell 0, (RQ7.below hy RQ7.lt).cell 1, (RQ7.below hy RQ7.lt).cell 2⟩
  have HRl : Hid (∀ y, Below w77.heap.size w77 y → y.cell? ⟨bl, off + k, none⟩ = some (.slice ak lk.length ck)) := fun y hy => (HEL.out y (nextB HB7 hy)).1
  have HG1 : Hid _ := fun y (hy : Below w77.heap.size w77 y) => check_any F E.toEnv y _ _ (root F L) lk ((k : Int)) ((L.length : Int)) Pq hrl (HEL.out y (nextB HB7 hy)).2.1 (by have := HLB.out; omega) HPN2.out (HH7.below hy)
  have HG2 : Hid _ := fun y (hy : Below w77.heap.size w77 y) => xcheck_any F E y _ _ (root F L) lk ((k : Int)) ((L.length : Int)) Pq hrl (HEL.out y (nextB HB7 hy)).2.1 (by have := HLB.out; omega) HPN2.out (HH7.below hy)
  have HG3 : Hid _ := fun y (hy : Below w77.heap.size w77 y) => check_any F E.toEnv y _ _ (root F L) b ((k : Int)) ((L.length : Int)) Pq hrl (HEL.out y (nextB HB7 hy)).2.2 (by have := HLB.out; omega) HPN2.out (HH7.below hy)
  have HG4 : Hid _ := fun y (hy : Below w77.heap.size w77 y) => xcheck_any F E y _ _ (root F L) b ((k : Int)) ((L.length : Int)) Pq hrl (HEL.out y (nextB HB7 hy)).2.2 (by have := HLB.out; omega) HPN2.out (HH7.below hy)
  refine Code.wp_mono ?_ (reg22_any w77 w77 w4.heap.size w6.heap.size bl off L.length k (root F L) a7 Pq.length c7 cv b.length cb lk.length ck ak ab ((k : Int)) ((L.length : Int)) (chk F (root F L) lk ((k : Int)) ((L.length : Int)) Pq) (chk F (root F L) b ((k : Int)) ((L.length : Int)) Pq) (Below.refl _ _) hrl hk1 HRa HRb HRl HT HG1 HG2 HG3 HG4 _ _ _ _ _ _ _ _ _ _ _ _ _ _ _ _ _ _ _ _ _ _ _ _ _ _ _ _ _ _ _ _ _ _ _ _ _ _ _ _ _ _ _ _ _ _ _ _ _ _ _ _ _ _ _ _ _ _ _ _ _ _ _ _ _ _ _ _ _ _ _ _ _ _ _ _ _ _ _ _ _ _ _ _ _ _ _ _ _ _ _ _ _ _ _ _ _ _ _ _ _ _ _ _ _ _ _ _ _ _ _ _ _ _ _ _ _ _ _ _ _ _ _ _ _ _ _ _ _ _ _ _ _ _ _ _ _ _ _ _ _ _ _ _ _ _ _ _ _ _ )
  rintro e a' w20 ⟨rfl, hd, h0, hb20⟩
  have HB : Hid (Below w.heap.size w w20) := nextB (nextB HA.out HB7) hb20
  have HD : Hid (a'.defers = []) := hd
  have H0 : Hid (a'.tmps.getD 12 undef = .bool true) := h0
  clear hd h0 hb20 HRa HRb HRl HG1 HG2 HG3 HG4 RQ7 HH7 R7 hb6 hb7 h67 N6 A6
  go_wp2_with fail
  refine bodyPost_ret (results_tmp Try.results4 _ _ _) HD.out ⟨?_, HB.out⟩
  rw [H0.out]
end Go.Proofs.Ytfkibbpekngciaa
