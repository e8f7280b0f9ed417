/-
  The document's store: Put.
-/
import Derived.Test.YtjnogpcpekheoaaRph
namespace Go.Proofs.Ytjnogpcpekheoaa
open Go.RowKit Go.Maps

theorem cell_below {w w' : World} {k o : Nat} {u : Value} (h : w.cell? ⟨k, o, none⟩ = some u) (hb : Below w.heap.size w w') : w'.cell? ⟨k, o, none⟩ = some u := (hb.cell (p := ⟨k, o, none⟩) (World.block_lt_of_cell? w _ h)).trans h
theorem own_shape9 {w : World} {B n : Nat} {v : Value} {xs : List Value} (h : w.ownsRow B 9 1 v n xs) : ∃ ao cap, v = .slice ao n cap ∧ n ≤ cap := by
  rcases h.2 with ⟨e, h1⟩ | ⟨g, cap, cur, e, _, _, hc, _⟩
  · exact ⟨_, _, by rw [e, h1], by omega⟩
  · exact ⟨_, _, e, hc⟩

set_option maxHeartbeats 32000000 in
set_option maxRecDepth 20000 in
theorem rput_any {O : Nat → Prop} {w : World} {xb room : Nat} {r : List (Bys × Bys)} (h b : Bys) (vb : Value) (hh : h.length = 32) (hsum : ∀ y, w.grownBy y (some xb) → Calls Try.prog 14 #[vb] y fun ev w' => ev = .returned (.agg (bys h).toArray) ∧ Below y.heap.size y w')
    (H : Ref O w xb room r) (hb : ∀ y, w.grownBy y (some xb) → Sl y vb b) (hl : b.length ≤ 200) (hr : room ≤ 1000) :
    Calls Try.prog 11 #[.pointer (some ⟨xb, 0, none⟩), vb] w fun ev w' => RPut O w xb room r h b ev w' := by
  obtain ⟨av, cpv, rfl⟩ := sl_slice (hb w (grown_below (Below.refl _ _) _))
  obtain ⟨vs, vbs, c1, c2, o1, o2, k1, k2⟩ := H.rows
  obtain ⟨ao, cap, rfl, hcap⟩ := own_shape32 o1
  obtain ⟨aob, capb, rfl, hcapb⟩ := own_shape9 o2
  have hlen : ¬ (4194304 : Int) < (b.length : Int) := by omega
  have hxb := H.lt
  have hfew := H.few
  have hB1 : Below w.heap.size w (w.alloc (.cells z25.toArray 35)) := (Below.refl _ _).alloc (Nat.le_refl _) _
  have C1 := hsum _ (grown_below hB1 _)
  have r1 := heap_alloc_new w (.cells z25.toArray 35)
  have hz := z25_size
  have hY := size35 h hh
  have hLh := info35L h hh
  have hYo : (bys h).toArray.all (·.oneCell') = true := all_one (bys_one _)
  have hZo : z25.toArray.all (·.oneCell') = true := all_one (bys_one _)
  have hYz : z25.toArray.size = (bys h).toArray.size := by simp [z25, bys_len, hh]
  have hL32 : (bys h).length = 32 := by rw [bys_len, hh]
  have A : Aside (Ref O w xb room r ∧ (∀ y, w.grownBy y (some xb) → Sl y (.slice av b.length cpv) b)) := ⟨H, hb⟩
  have AT : Hid (∀ y, Below w.heap.size w y → Calls Try.prog 27 #[.pointer (some ⟨xb, 0, none⟩), .agg (bys h).toArray] y fun ev w' => AtRet r h ev ∧ Below y.heap.size y w') := fun y hy => at_any h hh (H.below hy)
  have HCC : Hid (∀ y, Below w.heap.size w y → y.cell? ⟨xb, 0, none⟩ = some (.int .i64 (room : Int)) ∧ y.cell? ⟨xb, 1, none⟩ = some (.slice ao r.length cap) ∧ y.cell? ⟨xb, 2, none⟩ = some (.slice aob r.length capb)) := fun y hy => ⟨cell_below H.room_ hy, cell_below c1 hy, cell_below c2 hy⟩
  have HOW : Hid (∀ y, Below w.heap.size w y → y.ownsRow 0 35 32 (.slice ao r.length cap) r.length (rows35 (ks r)) ∧ y.ownsRow 0 9 1 (.slice aob r.length capb) r.length (strs (bs r))) := fun y hy => ⟨own_past32 o1 hy, own_past o2 hy⟩
  have HKK : Hid ((∀ k, (Value.slice ao r.length cap).ownBlock = some k → O k ∧ k ≠ xb) ∧ (∀ k, (Value.slice aob r.length capb).ownBlock = some k → O k ∧ k ≠ xb)) := ⟨k1, k2⟩
  have HB1 : Hid (Below w.heap.size w (w.alloc (.cells z25.toArray 35)) ∧ (w.alloc (.cells z25.toArray 35)).heap[w.heap.size]? = some (.cells z25.toArray 35 (0, 0))) := ⟨hB1, r1⟩
  clear H hb hsum c1 c2 o1 o2 k1 k2 hB1 r1
  have hsz1 : (w.alloc (.cells z25.toArray 35)).heap.size = w.heap.size + 1 := by simp
  rw [hsz1] at C1
  generalize hLL : bys h = Lh at *
  have HLL : Hid (bys h = Lh) := hLL
  clear hLL
  go_enter Try.func11, Try.ntmps11
  go_wp2_with (first | (go_at_call 14; refine C1.mono ?_; rintro ev w1 ⟨rfl, hb1⟩; have hgA := heap_alloc_new w1 (.cells z25.toArray 35); have hbA : Below w1.heap.size w1 (w1.alloc (.cells z25.toArray 35)) := (Below.refl _ _).alloc (Nat.le_refl _) _) | (refine store_box rfl 35 _ _ rfl w1.heap.size Lh.toArray rfl rfl 35 z25.toArray hgA hY hYz hYo w1 hbA ?_; intro w2 hrow2 hb2) | (refine wpList_load_row rfl 35 _ rfl w1.heap.size rfl 35 Lh.toArray (0, 0) _ hrow2 Try.underlying35 rfl hY ?_))
  have hw2 : Below w.heap.size w w2 := (HB1.out.1.trans (hb1.mono (by omega))).trans (hb2.mono (by have := hb1.size; simp at this; omega))
  have hs1 := hb1.size
  have hs2 := hb2.size
  have rA2 : w2.heap[w.heap.size]? = some (.cells z25.toArray 35 (0, 0)) := (hb2.block _ (by simp at hs1; omega)).trans ((hb1.block _ (by omega)).trans HB1.out.2)
  have hbh : w.heap.size < w1.heap.size := by simp at hs1; omega
  have hbh2 : w1.heap.size < w2.heap.size := (Array.getElem?_eq_some_iff.1 hrow2).1
  refine (AT.out w2 hw2).mono ?_
  rintro ev w3 ⟨⟨i, hir, rfl, hlow, hhigh⟩, hb3⟩
  have hw3 : Below w.heap.size w w3 := hw2.trans (hb3.mono hw2.size)
  have rZ : w3.heap[w.heap.size]? = some (.cells z25.toArray 35 (0, 0)) := (hb3.block _ (by omega)).trans rA2
  have rY : w3.heap[w1.heap.size]? = some (.cells Lh.toArray 35 (0, 0)) := (hb3.block _ hbh2).trans hrow2
  have HSP : Hid (Spot r h i) := ⟨hir, hlow, hhigh⟩
  have hs3 := hb3.size
  clear AT hgA hbA C1 hb1 hb2 hb3 hrow2 hw2 rA2 HB1 hlow hhigh hs1 hsz1
  generalize hbhg : w1.heap.size = bh at *
  by_cases hin : h ∈ ks r
  · rw [decide_eq_true hin]
    have HE : Hid (RPut O w xb room r h b (.returned (.tuple #[.agg Lh.toArray, .int .i64 0])) (w3.setRow w.heap.size Lh.toArray)) := .there hin (by rw [HLL.out]) (below_setRow hw3 (Nat.le_refl _) _)
    have rE := setRow_heap w3 w.heap.size _ Lh.toArray 35 _ rZ
    clear hin HSP
    go_wp2_with (first | (refine wpList_load_row rfl 35 _ rfl bh rfl 35 Lh.toArray (0, 0) _ rY Try.underlying35 rfl hY ?_) | (refine wpList_store_row rfl 35 _ _ rfl w.heap.size Lh.toArray rfl rfl 35 z25.toArray rZ hY hYz hYo ?_))
    refine bodyPost_ret (v := .tuple #[.agg Lh.toArray, .int .i64 0]) (results11_row _ _ w.heap.size _ _ rfl rfl rE hY) rfl ?_
    exact HE.out
  · rw [decide_eq_false hin]
    have HIN : Hid (h ∉ ks r) := hin
    clear hin
    obtain ⟨cx0, cx1, cx2⟩ := HCC.out w3 hw3
    by_cases hroom : r.length < room
    · have hroom2 : ¬ (room : Int) ≤ (r.length : Int) := by omega
      have HW3 : Hid (Below w.heap.size w w3 ∧ w3.heap[w.heap.size]? = some (.cells z25.toArray 35 (0, 0)) ∧ w3.heap[bh]? = some (.cells Lh.toArray 35 (0, 0))) := ⟨hw3, rZ, rY⟩
      clear hw3 rZ rY
      go_wp2_with fail
      go_quiet (fail)
      go_wp2_with fail
      have hwq : Below w.heap.size w (w3.drewN nq) := below_drewN HW3.out.1 nq
      have rZq : (w3.drewN nq).heap[w.heap.size]? = some (.cells z25.toArray 35 (0, 0)) := HW3.out.2.1
      have rYq : (w3.drewN nq).heap[bh]? = some (.cells Lh.toArray 35 (0, 0)) := HW3.out.2.2
      clear HW3 cx0 cx1 cx2
      generalize w3.drewN nq = wq at *
      obtain ⟨cx0, cx1, cx2⟩ := HCC.out wq hwq
      have HCa : Hid (∀ y, Below wq.heap.size wq y → y.cell? ⟨xb, 1, none⟩ = some (.slice ao r.length cap)) := fun y hy => cell_below cx1 hy
      have HC0 : Hid (∀ y, Below wq.heap.size wq y → y.cell? ⟨xb, 0, none⟩ = some (.int .i64 (room : Int)) ∧ y.cell? ⟨xb, 2, none⟩ = some (.slice aob r.length capb)) := fun y hy => ⟨cell_below cx0 hy, cell_below cx2 hy⟩
      have HH : Hid (∀ y, Below wq.heap.size wq y → y.rangeAt bh 0 Lh) := fun y hy => range_below (range_of rYq) hy
      have HZa' : Hid (∀ y, Below wq.heap.size wq y → ∀ j, y.frozen? ⟨xb, j, none⟩ = false) := fun y hy j => ((A.out.1.below hwq).below hy).fz j
      have HZa : Hid (∀ y, Below wq.heap.size wq y → y.frozen? ⟨xb, 1, none⟩ = false) := fun y hy => HZa'.out y hy 1
      obtain ⟨hoq1, hoq2⟩ := HOW.out wq hwq
      have hkl := A.out.1.klen
      obtain ⟨L1a, hL1a⟩ : ∃ l, l = (ks r).take i := ⟨_, rfl⟩
      obtain ⟨L2a, hL2a⟩ : ∃ l, l = (ks r).drop i := ⟨_, rfl⟩
      obtain ⟨L1b, hL1b⟩ : ∃ l, l = (bs r).take i := ⟨_, rfl⟩
      obtain ⟨L2b, hL2b⟩ : ∃ l, l = (bs r).drop i := ⟨_, rfl⟩
      have hl1a : L1a.length = i := by rw [hL1a, List.length_take, ks_len]; omega
      have hl2a : L2a.length = r.length - i := by rw [hL2a, List.length_drop, ks_len]
      have hl1b : L1b.length = i := by rw [hL1b, List.length_take, bs_len]; omega
      have hl2b : L2b.length = r.length - i := by rw [hL2b, List.length_drop, bs_len]
      have h321 : ∀ a ∈ L1a, a.length = 32 := fun a ha => hkl a (List.mem_of_mem_take (hL1a ▸ ha))
      have h322 : ∀ a ∈ L2a, a.length = 32 := fun a ha => hkl a (List.mem_of_mem_drop (hL2a ▸ ha))
      have h320 : ∀ a ∈ [h], a.length = 32 := fun a ha => by rw [List.mem_singleton.1 ha]; exact hh
      have HToa : Hid (∀ y, Below wq.heap.size wq y → Src y (upTo ao i cap) i (rows35 L1a)) := fun y hy => by
        have := src_upTo (i := i) hoq1 hir
        rw [(rows35_take _ hkl i).1, ← hL1a] at this
        exact this.below hy
      have HFra : Hid (∀ y, Below wq.heap.size wq y → Src y (from_ ao 32 r.length i cap) (r.length - i) (rows35 L2a)) := fun y hy => by
        have := src_from (i := i) hoq1 hir
        rw [(rows35_take _ hkl i).2, ← hL2a] at this
        exact this.below hy
      have HMID : Hid (∀ yA, wq.grownBy yA (some xb) → Src yA (upTo aob i capb) i (strs L1b) ∧ Src yA (from_ aob 1 r.length i capb) (r.length - i) (strs L2b) ∧ Sl yA (.slice av b.length cpv) b) := fun yA hg => by
        have ho := own_same hoq2 (fun k e => hg.block k (hoq2.lt k e).2 (fun e' => (HKK.out.2 k e).2 (Option.some.inj e')))
        have h1 := src_upTo (i := i) ho hir
        have h2 := src_from (i := i) ho hir
        rw [(strs_take _ i).1, ← hL1b] at h1
        rw [(strs_take _ i).2, ← hL2b] at h2
        exact ⟨h1, h2, A.out.2 yA ((grown_below hwq _).trans hg)⟩
      have HFIN : Hid (∀ (yA yB y : World) (ga capa gb capc : Nat), wq.grownBy yA (some xb) → yA.cell? ⟨xb, 1, none⟩ = some (.slice (some ⟨ga, 0, none⟩) (i + 1 + (r.length - i)) capa) → (yA.cell? ⟨xb, 0, none⟩ = some (.int .i64 (room : Int)) ∧ yA.cell? ⟨xb, 2, none⟩ = some (.slice aob r.length capb)) →
          yA.ownsRow wq.heap.size 35 32 (.slice (some ⟨ga, 0, none⟩) (i + 1 + (r.length - i)) capa) (i + 1 + (r.length - i)) (rows35 ([] ++ L1a ++ [h] ++ L2a)) →
          y.ownsRow yA.heap.size 9 1 (.slice (some ⟨gb, 0, none⟩) (i + 1 + (r.length - i)) capc) (i + 1 + (r.length - i)) (strs ([] ++ L1b ++ [b] ++ L2b)) → Below yA.heap.size yA y →
          yA.grownBy yB (some xb) → yB.cell? ⟨xb, 2, none⟩ = some (.slice (some ⟨gb, 0, none⟩) (i + 1 + (r.length - i)) capc) → (∀ j', j' ≠ 2 → yB.cell? ⟨xb, j', none⟩ = y.cell? ⟨xb, j', none⟩) → (∀ k, k ≠ xb → yB.heap[k]? = y.heap[k]?) → (∀ j, yB.frozen? ⟨xb, j, none⟩ = false) →
          yB.heap[w.heap.size]? = some (.cells z25.toArray 35 (0, 0)) ∧ yB.heap[bh]? = some (.cells Lh.toArray 35 (0, 0)) ∧ RPut O w xb room r h b (.returned (.tuple #[.agg Lh.toArray, .int .i64 0])) (yB.setRow w.heap.size Lh.toArray)) := by
        intro yA yB y ga capa gb capb' q1 q2 q3 q4 q5 q6 q7 q8 q9 q10 q11
        rw [hL1a, hL2a] at q4
        rw [hL1b, hL2b] at q5
        exact rput_fin A.out.1 hh hwq hbh rZq rYq HLL.out HIN.out hroom hr HSP.out q1 q2 q3.1 q4 q5 q6 q7 q8 q9 q10 q11
      obtain ⟨i35, hi35, _, hs35, _⟩ := info_parts Try.info35z
      obtain ⟨i9, hi9, _, hs9, _⟩ := info_parts Try.info9
      generalize hSb : str b = Sb
      have HSb : Hid (str b = Sb) := hSb
      have hxq : xb < wq.heap.size := by have := hwq.size; omega
      clear hSb hL1a hL2a hL1b hL2b hkl hoq1 hoq2 cx0 cx1 cx2 hwq rZq rYq HSP HIN HKK HOW HCC hroom2
      refine beginL (fun y => Below wq.heap.size wq y) 21 (by kernel_rfl) (Below.refl _ _).drew (fun hSd => ?_)
      generalize wq.drew = wd at *
      refine takeL 0 (v := ?vp1) rfl (some 34) rfl (by decide) (by kernel_rfl) (by kernel_rfl) (by kernel_rfl) (by kernel_rfl) (fun _ _ _ h => h) (Or.inl ⟨by rfl, ?hp1⟩) hSd ?rp1
      case hp1 => (intro y hy; go_simp; with_reducible rfl)
      simp only [Act.put, List.setIfInBounds_toArray, List.set_cons_zero, List.set_cons_succ]
      refine takeL 2 (v := ?vp2) rfl (some 36) rfl (by decide) (by kernel_rfl) (by kernel_rfl) (by kernel_rfl) (by kernel_rfl) (fun _ _ _ h => h) (Or.inl ⟨by rfl, ?hp2⟩) hSd ?rp2
      case hp2 => (intro y hy; go_simp; with_reducible rfl)
      simp only [Act.put, List.setIfInBounds_toArray, List.set_cons_zero, List.set_cons_succ]
      refine takeL 3 (v := ?vp3) rfl (some 37) rfl (by decide) (by kernel_rfl) (by kernel_rfl) (by kernel_rfl) (by kernel_rfl) (fun _ _ _ h => h) (Or.inl ⟨by rfl, ?hp3⟩) hSd ?rp3
      case hp3 => (intro y hy; go_simp; with_reducible rfl)
      simp only [Act.put, List.setIfInBounds_toArray, List.set_cons_zero, List.set_cons_succ]
      refine takeL 4 (v := ?vp4) rfl (some 38) rfl (by decide) (by kernel_rfl) (by kernel_rfl) (by kernel_rfl) (by kernel_rfl) (fun _ _ _ h => h) (Or.inl ⟨by rfl, ?hp4⟩) hSd ?rp4
      case hp4 => (intro y hy; go_simp; with_reducible rfl)
      simp only [Act.put, List.setIfInBounds_toArray, List.set_cons_zero, List.set_cons_succ]
      refine takeL 5 (v := ?vp5) rfl (some 39) rfl (by decide) (by kernel_rfl) (by kernel_rfl) (by kernel_rfl) (by kernel_rfl) (fun _ _ _ h => h) (Or.inl ⟨by rfl, ?hp5⟩) hSd ?rp5
      case hp5 => (intro y hy; have c1 := HCa.out y hy; go_simp; with_reducible rfl)
      simp only [Act.put, List.setIfInBounds_toArray, List.set_cons_zero, List.set_cons_succ]
      refine takeL 6 (v := ?vp6) rfl (some 40) rfl (by decide) (by kernel_rfl) (by kernel_rfl) (by kernel_rfl) (by kernel_rfl) (fun _ _ _ h => h) (Or.inl ⟨by rfl, ?hp6⟩) hSd ?rp6
      case hp6 => (intro y hy; go_simp; with_reducible rfl)
      simp only [Act.put, List.setIfInBounds_toArray, List.set_cons_zero, List.set_cons_succ]
      refine takeL 7 (v := upTo ao i cap) rfl (some 41) rfl (by decide) (by kernel_rfl) (by kernel_rfl) (by kernel_rfl) (by kernel_rfl) (fun _ _ _ h => h) (yields_upTo (by rfl) 29 35 i35 Try.underlying29 hi35 _ _ rfl ao r.length i cap rfl rfl (by omega)) hSd ?_
      simp only [Act.put, List.setIfInBounds_toArray, List.set_cons_zero, List.set_cons_succ]
      refine takeL 9 (v := .agg Lh.toArray) rfl (some 43) rfl (by decide) (by kernel_rfl) (by kernel_rfl) (by kernel_rfl) (by kernel_rfl) (fun _ _ _ h => h) (yieldsIf_load_mid (by rfl) 35 _ rfl bh 0 rfl Lh _ (fun y hy => HH.out y hy) Try.underlying35 rfl hLh) hSd ?_
      simp only [Act.put, List.setIfInBounds_toArray, List.set_cons_zero, List.set_cons_succ]
      refine takeL 12 (v := ?vp9) rfl (some 46) rfl (by decide) (by kernel_rfl) (by kernel_rfl) (by kernel_rfl) (by kernel_rfl) (fun _ _ _ h => h) (Or.inl ⟨by rfl, ?hp9⟩) hSd ?rp9
      case hp9 => (intro y hy; go_simp; with_reducible rfl)
      simp only [Act.put, List.setIfInBounds_toArray, List.set_cons_zero, List.set_cons_succ]
      refine takeL 13 (v := ?vp10) rfl (some 47) rfl (by decide) (by kernel_rfl) (by kernel_rfl) (by kernel_rfl) (by kernel_rfl) (fun _ _ _ h => h) (Or.inl ⟨by rfl, ?hp10⟩) hSd ?rp10
      case hp10 => (intro y hy; go_simp; with_reducible rfl)
      simp only [Act.put, List.setIfInBounds_toArray, List.set_cons_zero, List.set_cons_succ]
      refine takeL 14 (v := ?vp11) rfl (some 48) rfl (by decide) (by kernel_rfl) (by kernel_rfl) (by kernel_rfl) (by kernel_rfl) (fun _ _ _ h => h) (Or.inl ⟨by rfl, ?hp11⟩) hSd ?rp11
      case hp11 => (intro y hy; go_simp; with_reducible rfl)
      simp only [Act.put, List.setIfInBounds_toArray, List.set_cons_zero, List.set_cons_succ]
      refine takeL 15 (v := ?vp12) rfl (some 49) rfl (by decide) (by kernel_rfl) (by kernel_rfl) (by kernel_rfl) (by kernel_rfl) (fun _ _ _ h => h) (Or.inl ⟨by rfl, ?hp12⟩) hSd ?rp12
      case hp12 => (intro y hy; have c1 := HCa.out y hy; go_simp; with_reducible rfl)
      simp only [Act.put, List.setIfInBounds_toArray, List.set_cons_zero, List.set_cons_succ]
      refine takeL 16 (v := ?vp13) rfl (some 50) rfl (by decide) (by kernel_rfl) (by kernel_rfl) (by kernel_rfl) (by kernel_rfl) (fun _ _ _ h => h) (Or.inl ⟨by rfl, ?hp13⟩) hSd ?rp13
      case hp13 => (intro y hy; go_simp; with_reducible rfl)
      simp only [Act.put, List.setIfInBounds_toArray, List.set_cons_zero, List.set_cons_succ]
      refine takeL 17 (v := from_ ao 32 r.length i cap) rfl (some 51) rfl (by decide) (by kernel_rfl) (by kernel_rfl) (by kernel_rfl) (by kernel_rfl) (fun _ _ _ h => h) (yields_from (by rfl) 29 35 i35 32 hs35 Try.underlying29 hi35 _ _ rfl ao r.length i cap rfl rfl hir) hSd ?_
      simp only [Act.put, List.setIfInBounds_toArray, List.set_cons_zero, List.set_cons_succ]
      refine readyL (rs := [1, 10]) (by kernel_rfl) (by simp) ?_
      refine ReadyL.cons rfl (fun K hK => ?_) (ReadyL.cons rfl (fun K hK => ?_) ReadyL.nil)
      · go_simp
        obtain ⟨y15, g16, ey, eg, hS17, hb18, ho19, lt20⟩ := mk35 hSd
        rw [ey, eg]
        clear ey
        refine hK.out _ _ (fun _ => hS17) (fun _ => ?_)
        clear hK K eg
        refine readyL (rs := [8, 10]) (by kernel_rfl) (by simp) ?_
        refine ReadyL.cons rfl (fun K hK => ?_) (ReadyL.cons rfl (fun K hK => ?_) ReadyL.nil)
        · refine want (by rfl) ?_
          refine wp_app35 _ _ rfl wq.heap.size g16 0 0 [] rfl ho19 hS17.size _ i L1a rfl (HToa.out y15 hS17) hl1a h321 (by omega) ?_
          intro g22 cap23 y21 ho26 hg25
          rw [Nat.zero_add] at ho26 ⊢
          have hS24 : Below wq.heap.size wq y21 := hS17.grown hg25 hS17.size (fun k e => (ho19.lt k e).1)
          refine hK.out _ _ (fun _ => hS24) (fun _ => ?_)
          clear hK K
          refine readyL (rs := [10]) (by kernel_rfl) (by simp) ?_
          refine ReadyL.cons rfl (fun K hK => ?_) ReadyL.nil
          refine want (by rfl) ?_
          refine wpo_build35 _ rfl Lh rfl hL32 ?_
          obtain ⟨y27, gh28, ey, eg, hS29, hb30, hr31, lt32⟩ := mkh Lh hS24
          rw [ey, eg]
          clear ey
          have ho33 := own_past32 ho26 hb30
          refine hK.out _ _ (fun _ => hS29) (fun _ => ?_)
          clear hK K eg
          refine readyL (rs := [11]) (by kernel_rfl) (by simp) ?_
          refine ReadyL.cons rfl (fun K hK => ?_) ReadyL.nil
          refine want (by rfl) ?_
          refine wp_app35 _ _ rfl wq.heap.size g22 i cap23 ([] ++ L1a) rfl ho33 hS29.size _ 1 [h] rfl (src_one35 (by rw [HLL.out]; exact hr31)) rfl h320 (by omega) ?_
          intro g35 cap36 y34 ho39 hg38
          have hS37 : Below wq.heap.size wq y34 := hS29.grown hg38 hS29.size (fun k e => (ho33.lt k e).1)
          refine hK.out _ _ (fun _ => hS37) (fun _ => ?_)
          clear hK K
          refine readyL (rs := [18]) (by kernel_rfl) (by simp) ?_
          refine ReadyL.cons rfl (fun K hK => ?_) ReadyL.nil
          refine want (by rfl) ?_
          refine wp_app35 _ _ rfl wq.heap.size g35 (i + 1) cap36 ([] ++ L1a ++ [h]) rfl ho39 hS37.size _ (r.length - i) L2a rfl (HFra.out y34 hS37) hl2a h322 (by omega) ?_
          intro g41 cap42 y40 ho45 hg44
          have hS43 : Below wq.heap.size wq y40 := hS37.grown hg44 hS37.size (fun k e => (ho39.lt k e).1)
          refine hK.out _ _ (fun _ => hS43) (fun _ => ?_)
          clear hK K
          refine readyL (rs := [19]) (by kernel_rfl) (by simp) ?_
          refine ReadyL.cons rfl (fun K hK => ?_) ReadyL.nil
          go_simp
          refine hK.out _ _ (fun _ => hS43) (fun _ => ?_)
          clear hK K
          refine readyL (rs := [20]) (by kernel_rfl) (by simp) ?_
          refine ReadyL.cons rfl (fun K hK => ?_) ReadyL.nil
          go_simp
          refine hK.out _ _ (fun _ => hS43) (fun _ => ?_)
          clear hK K
          refine readyL (rs := [21]) (by kernel_rfl) (by simp) ?_
          refine ReadyL.cons rfl (fun K hK => ?_) ReadyL.nil
          have cx := HCa.out y40 hS43
          have fx := HZa.out y40 hS43
          go_simp
          obtain ⟨yAa, eyA, hgAa, hcAa, hoAa, hkAa, hzAa, hfAa⟩ := half_of (.slice (some ⟨g41, 0, none⟩) (i + 1 + (r.length - i)) cap42) hS43 cx
          rw [eyA]
          clear eyA cx fx
          refine hK.out _ _ (fun h => absurd rfl h) (fun _ => ?_)
          clear hK K
          refine doneL (by kernel_rfl) ?_ _
          have hoY := own_same32 ho45 (fun k e => hkAa k (fun e' => by have := (ho45.lt k e).1; omega))
          have hMid := HMID.out yAa hgAa
          have hoAa' : yAa.cell? ⟨xb, 0, none⟩ = some (.int .i64 (room : Int)) ∧ yAa.cell? ⟨xb, 2, none⟩ = some (.slice aob r.length capb) := ⟨(hoAa 0 (by omega)).trans (HC0.out _ hS43).1, (hoAa 2 (by omega)).trans (HC0.out _ hS43).2⟩
          have HCb : Hid (∀ y, Below yAa.heap.size yAa y → y.cell? ⟨xb, 2, none⟩ = some (.slice aob r.length capb)) := fun y hy => (hy.cell (p := ⟨xb, 2, none⟩) (World.block_lt_of_cell? yAa _ hoAa'.2)).trans hoAa'.2
          have HZb' : Hid (∀ y, Below yAa.heap.size yAa y → ∀ j, y.frozen? ⟨xb, j, none⟩ = false) := fun y hy j => (hy.frozen (p := ⟨xb, j, none⟩) (show xb < yAa.heap.size from World.block_lt_of_cell? yAa ⟨xb, 2, none⟩ hoAa'.2)).trans ((hfAa j).trans (HZa'.out _ hS43 j))
          have HZb : Hid (∀ y, Below yAa.heap.size yAa y → y.frozen? ⟨xb, 2, none⟩ = false) := fun y hy => HZb'.out y hy 2
          obtain ⟨hm1, hm2, hm3⟩ := hMid
          have HTob : Hid (∀ y, Below yAa.heap.size yAa y → Src y (upTo aob i capb) i (strs L1b)) := fun y hy => hm1.below hy
          have HFrb : Hid (∀ y, Below yAa.heap.size yAa y → Src y (from_ aob 1 r.length i capb) (r.length - i) (strs L2b)) := fun y hy => hm2.below hy
          have HV : Hid (∀ y, Below yAa.heap.size yAa y → (convert 33 9 (.slice av b.length cpv)).run Try.prog y = .ok (.string Sb) y) := fun y hy => by rw [← HSb.out]; exact conv_sl y _ _ (hm3.below hy)
          clear hm1 hm2 hm3 hoAa hkAa hzAa hfAa HCa HToa HFra HH HC0 HMID HZa HZa'
          go_wp2_with fail
          refine beginL (fun y => Below yAa.heap.size yAa y) 22 (by kernel_rfl) (Below.refl _ _).drew (fun hS0 => ?_)
          generalize yAa.drew = yb0 at *
          refine takeL 0 (v := ?vq46) rfl (some 55) rfl (by decide) (by kernel_rfl) (by kernel_rfl) (by kernel_rfl) (by kernel_rfl) (fun _ _ _ h => h) (Or.inl ⟨by rfl, ?hq46⟩) hS0 ?rq46
          case hq46 => (intro y hy; go_simp; with_reducible rfl)
          simp only [Act.put, List.setIfInBounds_toArray, List.set_cons_zero, List.set_cons_succ]
          refine takeL 2 (v := ?vq47) rfl (some 57) rfl (by decide) (by kernel_rfl) (by kernel_rfl) (by kernel_rfl) (by kernel_rfl) (fun _ _ _ h => h) (Or.inl ⟨by rfl, ?hq47⟩) hS0 ?rq47
          case hq47 => (intro y hy; go_simp; with_reducible rfl)
          simp only [Act.put, List.setIfInBounds_toArray, List.set_cons_zero, List.set_cons_succ]
          refine takeL 3 (v := ?vq48) rfl (some 58) rfl (by decide) (by kernel_rfl) (by kernel_rfl) (by kernel_rfl) (by kernel_rfl) (fun _ _ _ h => h) (Or.inl ⟨by rfl, ?hq48⟩) hS0 ?rq48
          case hq48 => (intro y hy; go_simp; with_reducible rfl)
          simp only [Act.put, List.setIfInBounds_toArray, List.set_cons_zero, List.set_cons_succ]
          refine takeL 4 (v := ?vq49) rfl (some 59) rfl (by decide) (by kernel_rfl) (by kernel_rfl) (by kernel_rfl) (by kernel_rfl) (fun _ _ _ h => h) (Or.inl ⟨by rfl, ?hq49⟩) hS0 ?rq49
          case hq49 => (intro y hy; go_simp; with_reducible rfl)
          simp only [Act.put, List.setIfInBounds_toArray, List.set_cons_zero, List.set_cons_succ]
          refine takeL 5 (v := ?vq50) rfl (some 60) rfl (by decide) (by kernel_rfl) (by kernel_rfl) (by kernel_rfl) (by kernel_rfl) (fun _ _ _ h => h) (Or.inl ⟨by rfl, ?hq50⟩) hS0 ?rq50
          case hq50 => (intro y hy; have c1 := HCb.out y hy; go_simp; with_reducible rfl)
          simp only [Act.put, List.setIfInBounds_toArray, List.set_cons_zero, List.set_cons_succ]
          refine takeL 6 (v := ?vq51) rfl (some 61) rfl (by decide) (by kernel_rfl) (by kernel_rfl) (by kernel_rfl) (by kernel_rfl) (fun _ _ _ h => h) (Or.inl ⟨by rfl, ?hq51⟩) hS0 ?rq51
          case hq51 => (intro y hy; go_simp; with_reducible rfl)
          simp only [Act.put, List.setIfInBounds_toArray, List.set_cons_zero, List.set_cons_succ]
          refine takeL 7 (v := upTo aob i capb) rfl (some 62) rfl (by decide) (by kernel_rfl) (by kernel_rfl) (by kernel_rfl) (by kernel_rfl) (fun _ _ _ h => h) (yields_upTo (by rfl) 30 9 i9 Try.underlying30 hi9 _ _ rfl aob r.length i capb rfl rfl (by omega)) hS0 ?_
          simp only [Act.put, List.setIfInBounds_toArray, List.set_cons_zero, List.set_cons_succ]
          refine takeL 9 (v := ?vq53) rfl (some 64) rfl (by decide) (by kernel_rfl) (by kernel_rfl) (by kernel_rfl) (by kernel_rfl) (fun _ _ _ h => h) (Or.inl ⟨by rfl, ?hq53⟩) hS0 ?rq53
          case hq53 => (intro y hy; go_simp; with_reducible rfl)
          simp only [Act.put, List.setIfInBounds_toArray, List.set_cons_zero, List.set_cons_succ]
          refine takeL 10 (v := ?vq54) rfl (some 65) rfl (by decide) (by kernel_rfl) (by kernel_rfl) (by kernel_rfl) (by kernel_rfl) (fun _ _ _ h => h) (Or.inl ⟨by rfl, ?hq54⟩) hS0 ?rq54
          case hq54 => (intro y hy; have v1 := HV.out y hy; go_simp; with_reducible rfl)
          simp only [Act.put, List.setIfInBounds_toArray, List.set_cons_zero, List.set_cons_succ]
          refine takeL 13 (v := ?vq55) rfl (some 68) rfl (by decide) (by kernel_rfl) (by kernel_rfl) (by kernel_rfl) (by kernel_rfl) (fun _ _ _ h => h) (Or.inl ⟨by rfl, ?hq55⟩) hS0 ?rq55
          case hq55 => (intro y hy; go_simp; with_reducible rfl)
          simp only [Act.put, List.setIfInBounds_toArray, List.set_cons_zero, List.set_cons_succ]
          refine takeL 14 (v := ?vq56) rfl (some 69) rfl (by decide) (by kernel_rfl) (by kernel_rfl) (by kernel_rfl) (by kernel_rfl) (fun _ _ _ h => h) (Or.inl ⟨by rfl, ?hq56⟩) hS0 ?rq56
          case hq56 => (intro y hy; go_simp; with_reducible rfl)
          simp only [Act.put, List.setIfInBounds_toArray, List.set_cons_zero, List.set_cons_succ]
          refine takeL 15 (v := ?vq57) rfl (some 70) rfl (by decide) (by kernel_rfl) (by kernel_rfl) (by kernel_rfl) (by kernel_rfl) (fun _ _ _ h => h) (Or.inl ⟨by rfl, ?hq57⟩) hS0 ?rq57
          case hq57 => (intro y hy; go_simp; with_reducible rfl)
          simp only [Act.put, List.setIfInBounds_toArray, List.set_cons_zero, List.set_cons_succ]
          refine takeL 16 (v := ?vq58) rfl (some 71) rfl (by decide) (by kernel_rfl) (by kernel_rfl) (by kernel_rfl) (by kernel_rfl) (fun _ _ _ h => h) (Or.inl ⟨by rfl, ?hq58⟩) hS0 ?rq58
          case hq58 => (intro y hy; have c1 := HCb.out y hy; go_simp; with_reducible rfl)
          simp only [Act.put, List.setIfInBounds_toArray, List.set_cons_zero, List.set_cons_succ]
          refine takeL 17 (v := ?vq59) rfl (some 72) rfl (by decide) (by kernel_rfl) (by kernel_rfl) (by kernel_rfl) (by kernel_rfl) (fun _ _ _ h => h) (Or.inl ⟨by rfl, ?hq59⟩) hS0 ?rq59
          case hq59 => (intro y hy; go_simp; with_reducible rfl)
          simp only [Act.put, List.setIfInBounds_toArray, List.set_cons_zero, List.set_cons_succ]
          refine takeL 18 (v := from_ aob 1 r.length i capb) rfl (some 73) rfl (by decide) (by kernel_rfl) (by kernel_rfl) (by kernel_rfl) (by kernel_rfl) (fun _ _ _ h => h) (yields_from (by rfl) 30 9 i9 1 hs9 Try.underlying30 hi9 _ _ rfl aob r.length i capb rfl rfl hir) hS0 ?_
          simp only [Act.put, List.setIfInBounds_toArray, List.set_cons_zero, List.set_cons_succ]
          refine readyL (rs := [1, 11]) (by kernel_rfl) (by simp) ?_
          refine ReadyL.cons rfl (fun K hK => ?_) (ReadyL.cons rfl (fun K hK => ?_) ReadyL.nil)
          · go_simp
            obtain ⟨y61, g62, ey, eg, hS63, hb64, ho65, lt66⟩ := mk9 hS0
            rw [ey, eg]
            clear ey
            refine hK.out _ _ (fun _ => hS63) (fun _ => ?_)
            clear hK K eg
            refine readyL (rs := [8, 11]) (by kernel_rfl) (by simp) ?_
            refine ReadyL.cons rfl (fun K hK => ?_) (ReadyL.cons rfl (fun K hK => ?_) ReadyL.nil)
            · refine want (by rfl) ?_
              refine wp_app9 _ _ rfl yAa.heap.size g62 0 0 [] rfl ho65 hS63.size _ i L1b rfl (HTob.out y61 hS63) hl1b (by omega) ?_
              intro g68 cap69 y67 ho72 hg71
              rw [Nat.zero_add] at ho72 ⊢
              have hS70 : Below yAa.heap.size yAa y67 := hS63.grown hg71 hS63.size (fun k e => (ho65.lt k e).1)
              refine hK.out _ _ (fun _ => hS70) (fun _ => ?_)
              clear hK K
              refine readyL (rs := [11]) (by kernel_rfl) (by simp) ?_
              refine ReadyL.cons rfl (fun K hK => ?_) ReadyL.nil
              go_simp
              obtain ⟨y73, gh74, ey, eg, hS75, hb76, hr77, lt78⟩ := mks Sb hS70
              rw [ey, eg]
              clear ey
              have ho79 := own_past ho72 hb76
              refine hK.out _ _ (fun _ => hS75) (fun _ => ?_)
              clear hK K eg
              refine readyL (rs := [12]) (by kernel_rfl) (by simp) ?_
              refine ReadyL.cons rfl (fun K hK => ?_) ReadyL.nil
              refine want (by rfl) ?_
              refine wp_app9 _ _ rfl yAa.heap.size g68 i cap69 ([] ++ L1b) rfl ho79 hS75.size _ 1 [b] rfl (src_one9 (by rw [HSb.out]; exact hr77)) rfl (by omega) ?_
              intro g81 cap82 y80 ho85 hg84
              have hS83 : Below yAa.heap.size yAa y80 := hS75.grown hg84 hS75.size (fun k e => (ho79.lt k e).1)
              refine hK.out _ _ (fun _ => hS83) (fun _ => ?_)
              clear hK K
              refine readyL (rs := [19]) (by kernel_rfl) (by simp) ?_
              refine ReadyL.cons rfl (fun K hK => ?_) ReadyL.nil
              refine want (by rfl) ?_
              refine wp_app9 _ _ rfl yAa.heap.size g81 (i + 1) cap82 ([] ++ L1b ++ [b]) rfl ho85 hS83.size _ (r.length - i) L2b rfl (HFrb.out y80 hS83) hl2b (by omega) ?_
              intro g87 cap88 y86 ho91 hg90
              have hS89 : Below yAa.heap.size yAa y86 := hS83.grown hg90 hS83.size (fun k e => (ho85.lt k e).1)
              refine hK.out _ _ (fun _ => hS89) (fun _ => ?_)
              clear hK K
              refine readyL (rs := [20]) (by kernel_rfl) (by simp) ?_
              refine ReadyL.cons rfl (fun K hK => ?_) ReadyL.nil
              go_simp
              refine hK.out _ _ (fun _ => hS89) (fun _ => ?_)
              clear hK K
              refine readyL (rs := [21]) (by kernel_rfl) (by simp) ?_
              refine ReadyL.cons rfl (fun K hK => ?_) ReadyL.nil
              go_simp
              refine hK.out _ _ (fun _ => hS89) (fun _ => ?_)
              clear hK K
              refine readyL (rs := [22]) (by kernel_rfl) (by simp) ?_
              refine ReadyL.cons rfl (fun K hK => ?_) ReadyL.nil
              have cx := HCb.out y86 hS89
              have fx := HZb.out y86 hS89
              go_simp
              obtain ⟨yAb, eyA, hgAb, hcAb, hoAb, hkAb, hzAb, hfAb⟩ := half_of (.slice (some ⟨g87, 0, none⟩) (i + 1 + (r.length - i)) cap88) hS89 cx
              rw [eyA]
              clear eyA cx fx
              refine hK.out _ _ (fun h => absurd rfl h) (fun _ => ?_)
              clear hK K
              refine doneL (by kernel_rfl) ?_ _
              have hFin := HFIN.out yAa yAb y86 _ _ _ _ hgAa hcAa hoAa' hoY ho91 hS89 hgAb hcAb hoAb hkAb (fun j => (hfAb j).trans (HZb'.out _ hS89 j))
              obtain ⟨rZb, rYb, hE⟩ := hFin
              clear HFIN HCb HTob HFrb HV hgAa hcAa hoAa' hoY hgAb hcAb hoAb hkAb hzAb hfAb HZb HZb'
              go_wp2_with (first | (refine wpList_load_row rfl 35 _ rfl bh rfl 35 Lh.toArray (0, 0) _ rYb Try.underlying35 rfl hY ?_) | (refine wpList_store_row rfl 35 _ _ rfl w.heap.size Lh.toArray rfl rfl 35 z25.toArray rZb hY hYz hYo ?_))
              refine bodyPost_ret (v := .tuple #[.agg Lh.toArray, .int .i64 0]) (results11_row _ _ w.heap.size _ _ rfl rfl (setRow_heap yAb w.heap.size _ Lh.toArray 35 _ rZb) hY) rfl ?_
              exact hE
            · go_simp
              obtain ⟨y92, gh93, ey, eg, hS94, hb95, hr96, lt97⟩ := mks Sb hS63
              rw [ey, eg]
              clear ey
              have ho98 := own_past ho65 hb95
              have ne99 : gh93 ≠ g62 := by have := lt66; omega
              refine hK.out _ _ (fun _ => hS94) (fun _ => ?_)
              clear hK K eg
              refine readyL (rs := [8]) (by kernel_rfl) (by simp) ?_
              refine ReadyL.cons rfl (fun K hK => ?_) ReadyL.nil
              refine want (by rfl) ?_
              refine wp_app9 _ _ rfl yAa.heap.size g62 0 0 [] rfl ho98 hS94.size _ i L1b rfl (HTob.out y92 hS94) hl1b (by omega) ?_
              intro g101 cap102 y100 ho105 hg104
              rw [Nat.zero_add] at ho105 ⊢
              have hS103 : Below yAa.heap.size yAa y100 := hS94.grown hg104 hS94.size (fun k e => (ho98.lt k e).1)
              have hr106 := cell_grown hr96 hg104 ne99
              refine hK.out _ _ (fun _ => hS103) (fun _ => ?_)
              clear hK K
              refine readyL (rs := [12]) (by kernel_rfl) (by simp) ?_
              refine ReadyL.cons rfl (fun K hK => ?_) ReadyL.nil
              refine want (by rfl) ?_
              refine wp_app9 _ _ rfl yAa.heap.size g101 i cap102 ([] ++ L1b) rfl ho105 hS103.size _ 1 [b] rfl (src_one9 (by rw [HSb.out]; exact hr106)) rfl (by omega) ?_
              intro g108 cap109 y107 ho112 hg111
              have hS110 : Below yAa.heap.size yAa y107 := hS103.grown hg111 hS103.size (fun k e => (ho105.lt k e).1)
              refine hK.out _ _ (fun _ => hS110) (fun _ => ?_)
              clear hK K
              refine readyL (rs := [19]) (by kernel_rfl) (by simp) ?_
              refine ReadyL.cons rfl (fun K hK => ?_) ReadyL.nil
              refine want (by rfl) ?_
              refine wp_app9 _ _ rfl yAa.heap.size g108 (i + 1) cap109 ([] ++ L1b ++ [b]) rfl ho112 hS110.size _ (r.length - i) L2b rfl (HFrb.out y107 hS110) hl2b (by omega) ?_
              intro g114 cap115 y113 ho118 hg117
              have hS116 : Below yAa.heap.size yAa y113 := hS110.grown hg117 hS110.size (fun k e => (ho112.lt k e).1)
              refine hK.out _ _ (fun _ => hS116) (fun _ => ?_)
              clear hK K
              refine readyL (rs := [20]) (by kernel_rfl) (by simp) ?_
              refine ReadyL.cons rfl (fun K hK => ?_) ReadyL.nil
              go_simp
              refine hK.out _ _ (fun _ => hS116) (fun _ => ?_)
              clear hK K
              refine readyL (rs := [21]) (by kernel_rfl) (by simp) ?_
              refine ReadyL.cons rfl (fun K hK => ?_) ReadyL.nil
              go_simp
              refine hK.out _ _ (fun _ => hS116) (fun _ => ?_)
              clear hK K
              refine readyL (rs := [22]) (by kernel_rfl) (by simp) ?_
              refine ReadyL.cons rfl (fun K hK => ?_) ReadyL.nil
              have cx := HCb.out y113 hS116
              have fx := HZb.out y113 hS116
              go_simp
              obtain ⟨yAb, eyA, hgAb, hcAb, hoAb, hkAb, hzAb, hfAb⟩ := half_of (.slice (some ⟨g114, 0, none⟩) (i + 1 + (r.length - i)) cap115) hS116 cx
              rw [eyA]
              clear eyA cx fx
              refine hK.out _ _ (fun h => absurd rfl h) (fun _ => ?_)
              clear hK K
              refine doneL (by kernel_rfl) ?_ _
              have hFin := HFIN.out yAa yAb y113 _ _ _ _ hgAa hcAa hoAa' hoY ho118 hS116 hgAb hcAb hoAb hkAb (fun j => (hfAb j).trans (HZb'.out _ hS116 j))
              obtain ⟨rZb, rYb, hE⟩ := hFin
              clear HFIN HCb HTob HFrb HV hgAa hcAa hoAa' hoY hgAb hcAb hoAb hkAb hzAb hfAb HZb HZb'
              go_wp2_with (first | (refine wpList_load_row rfl 35 _ rfl bh rfl 35 Lh.toArray (0, 0) _ rYb Try.underlying35 rfl hY ?_) | (refine wpList_store_row rfl 35 _ _ rfl w.heap.size Lh.toArray rfl rfl 35 z25.toArray rZb hY hYz hYo ?_))
              refine bodyPost_ret (v := .tuple #[.agg Lh.toArray, .int .i64 0]) (results11_row _ _ w.heap.size _ _ rfl rfl (setRow_heap yAb w.heap.size _ Lh.toArray 35 _ rZb) hY) rfl ?_
              exact hE
          · go_simp
            obtain ⟨y119, gh120, ey, eg, hS121, hb122, hr123, lt124⟩ := mks Sb hS0
            rw [ey, eg]
            clear ey
            refine hK.out _ _ (fun _ => hS121) (fun _ => ?_)
            clear hK K eg
            refine readyL (rs := [1]) (by kernel_rfl) (by simp) ?_
            refine ReadyL.cons rfl (fun K hK => ?_) ReadyL.nil
            go_simp
            obtain ⟨y125, g126, ey, eg, hS127, hb128, ho129, lt130⟩ := mk9 hS121
            rw [ey, eg]
            clear ey
            have hr131 := cell_below hr123 hb128
            have ne132 : gh120 ≠ g126 := by have := lt124; omega
            refine hK.out _ _ (fun _ => hS127) (fun _ => ?_)
            clear hK K eg
            refine readyL (rs := [8]) (by kernel_rfl) (by simp) ?_
            refine ReadyL.cons rfl (fun K hK => ?_) ReadyL.nil
            refine want (by rfl) ?_
            refine wp_app9 _ _ rfl yAa.heap.size g126 0 0 [] rfl ho129 hS127.size _ i L1b rfl (HTob.out y125 hS127) hl1b (by omega) ?_
            intro g134 cap135 y133 ho138 hg137
            rw [Nat.zero_add] at ho138 ⊢
            have hS136 : Below yAa.heap.size yAa y133 := hS127.grown hg137 hS127.size (fun k e => (ho129.lt k e).1)
            have hr139 := cell_grown hr131 hg137 ne132
            refine hK.out _ _ (fun _ => hS136) (fun _ => ?_)
            clear hK K
            refine readyL (rs := [12]) (by kernel_rfl) (by simp) ?_
            refine ReadyL.cons rfl (fun K hK => ?_) ReadyL.nil
            refine want (by rfl) ?_
            refine wp_app9 _ _ rfl yAa.heap.size g134 i cap135 ([] ++ L1b) rfl ho138 hS136.size _ 1 [b] rfl (src_one9 (by rw [HSb.out]; exact hr139)) rfl (by omega) ?_
            intro g141 cap142 y140 ho145 hg144
            have hS143 : Below yAa.heap.size yAa y140 := hS136.grown hg144 hS136.size (fun k e => (ho138.lt k e).1)
            refine hK.out _ _ (fun _ => hS143) (fun _ => ?_)
            clear hK K
            refine readyL (rs := [19]) (by kernel_rfl) (by simp) ?_
            refine ReadyL.cons rfl (fun K hK => ?_) ReadyL.nil
            refine want (by rfl) ?_
            refine wp_app9 _ _ rfl yAa.heap.size g141 (i + 1) cap142 ([] ++ L1b ++ [b]) rfl ho145 hS143.size _ (r.length - i) L2b rfl (HFrb.out y140 hS143) hl2b (by omega) ?_
            intro g147 cap148 y146 ho151 hg150
            have hS149 : Below yAa.heap.size yAa y146 := hS143.grown hg150 hS143.size (fun k e => (ho145.lt k e).1)
            refine hK.out _ _ (fun _ => hS149) (fun _ => ?_)
            clear hK K
            refine readyL (rs := [20]) (by kernel_rfl) (by simp) ?_
            refine ReadyL.cons rfl (fun K hK => ?_) ReadyL.nil
            go_simp
            refine hK.out _ _ (fun _ => hS149) (fun _ => ?_)
            clear hK K
            refine readyL (rs := [21]) (by kernel_rfl) (by simp) ?_
            refine ReadyL.cons rfl (fun K hK => ?_) ReadyL.nil
            go_simp
            refine hK.out _ _ (fun _ => hS149) (fun _ => ?_)
            clear hK K
            refine readyL (rs := [22]) (by kernel_rfl) (by simp) ?_
            refine ReadyL.cons rfl (fun K hK => ?_) ReadyL.nil
            have cx := HCb.out y146 hS149
            have fx := HZb.out y146 hS149
            go_simp
            obtain ⟨yAb, eyA, hgAb, hcAb, hoAb, hkAb, hzAb, hfAb⟩ := half_of (.slice (some ⟨g147, 0, none⟩) (i + 1 + (r.length - i)) cap148) hS149 cx
            rw [eyA]
            clear eyA cx fx
            refine hK.out _ _ (fun h => absurd rfl h) (fun _ => ?_)
            clear hK K
            refine doneL (by kernel_rfl) ?_ _
            have hFin := HFIN.out yAa yAb y146 _ _ _ _ hgAa hcAa hoAa' hoY ho151 hS149 hgAb hcAb hoAb hkAb (fun j => (hfAb j).trans (HZb'.out _ hS149 j))
            obtain ⟨rZb, rYb, hE⟩ := hFin
            clear HFIN HCb HTob HFrb HV hgAa hcAa hoAa' hoY hgAb hcAb hoAb hkAb hzAb hfAb HZb HZb'
            go_wp2_with (first | (refine wpList_load_row rfl 35 _ rfl bh rfl 35 Lh.toArray (0, 0) _ rYb Try.underlying35 rfl hY ?_) | (refine wpList_store_row rfl 35 _ _ rfl w.heap.size Lh.toArray rfl rfl 35 z25.toArray rZb hY hYz hYo ?_))
            refine bodyPost_ret (v := .tuple #[.agg Lh.toArray, .int .i64 0]) (results11_row _ _ w.heap.size _ _ rfl rfl (setRow_heap yAb w.heap.size _ Lh.toArray 35 _ rZb) hY) rfl ?_
            exact hE
        · refine want (by rfl) ?_
          refine wpo_build35 _ rfl Lh rfl hL32 ?_
          obtain ⟨y152, gh153, ey, eg, hS154, hb155, hr156, lt157⟩ := mkh Lh hS17
          rw [ey, eg]
          clear ey
          have ho158 := own_past32 ho19 hb155
          have ne159 : gh153 ≠ g16 := by have := lt20; omega
          refine hK.out _ _ (fun _ => hS154) (fun _ => ?_)
          clear hK K eg
          refine readyL (rs := [8]) (by kernel_rfl) (by simp) ?_
          refine ReadyL.cons rfl (fun K hK => ?_) ReadyL.nil
          refine want (by rfl) ?_
          refine wp_app35 _ _ rfl wq.heap.size g16 0 0 [] rfl ho158 hS154.size _ i L1a rfl (HToa.out y152 hS154) hl1a h321 (by omega) ?_
          intro g161 cap162 y160 ho165 hg164
          rw [Nat.zero_add] at ho165 ⊢
          have hS163 : Below wq.heap.size wq y160 := hS154.grown hg164 hS154.size (fun k e => (ho158.lt k e).1)
          have hr166 := range_grown hr156 hg164 ne159
          refine hK.out _ _ (fun _ => hS163) (fun _ => ?_)
          clear hK K
          refine readyL (rs := [11]) (by kernel_rfl) (by simp) ?_
          refine ReadyL.cons rfl (fun K hK => ?_) ReadyL.nil
          refine want (by rfl) ?_
          refine wp_app35 _ _ rfl wq.heap.size g161 i cap162 ([] ++ L1a) rfl ho165 hS163.size _ 1 [h] rfl (src_one35 (by rw [HLL.out]; exact hr166)) rfl h320 (by omega) ?_
          intro g168 cap169 y167 ho172 hg171
          have hS170 : Below wq.heap.size wq y167 := hS163.grown hg171 hS163.size (fun k e => (ho165.lt k e).1)
          refine hK.out _ _ (fun _ => hS170) (fun _ => ?_)
          clear hK K
          refine readyL (rs := [18]) (by kernel_rfl) (by simp) ?_
          refine ReadyL.cons rfl (fun K hK => ?_) ReadyL.nil
          refine want (by rfl) ?_
          refine wp_app35 _ _ rfl wq.heap.size g168 (i + 1) cap169 ([] ++ L1a ++ [h]) rfl ho172 hS170.size _ (r.length - i) L2a rfl (HFra.out y167 hS170) hl2a h322 (by omega) ?_
          intro g174 cap175 y173 ho178 hg177
          have hS176 : Below wq.heap.size wq y173 := hS170.grown hg177 hS170.size (fun k e => (ho172.lt k e).1)
          refine hK.out _ _ (fun _ => hS176) (fun _ => ?_)
          clear hK K
          refine readyL (rs := [19]) (by kernel_rfl) (by simp) ?_
          refine ReadyL.cons rfl (fun K hK => ?_) ReadyL.nil
          go_simp
          refine hK.out _ _ (fun _ => hS176) (fun _ => ?_)
          clear hK K
          refine readyL (rs := [20]) (by kernel_rfl) (by simp) ?_
          refine ReadyL.cons rfl (fun K hK => ?_) ReadyL.nil
          go_simp
          refine hK.out _ _ (fun _ => hS176) (fun _ => ?_)
          clear hK K
          refine readyL (rs := [21]) (by kernel_rfl) (by simp) ?_
          refine ReadyL.cons rfl (fun K hK => ?_) ReadyL.nil
          have cx := HCa.out y173 hS176
          have fx := HZa.out y173 hS176
          go_simp
          obtain ⟨yAa, eyA, hgAa, hcAa, hoAa, hkAa, hzAa, hfAa⟩ := half_of (.slice (some ⟨g174, 0, none⟩) (i + 1 + (r.length - i)) cap175) hS176 cx
          rw [eyA]
          clear eyA cx fx
          refine hK.out _ _ (fun h => absurd rfl h) (fun _ => ?_)
          clear hK K
          refine doneL (by kernel_rfl) ?_ _
          have hoY := own_same32 ho178 (fun k e => hkAa k (fun e' => by have := (ho178.lt k e).1; omega))
          have hMid := HMID.out yAa hgAa
          have hoAa' : yAa.cell? ⟨xb, 0, none⟩ = some (.int .i64 (room : Int)) ∧ yAa.cell? ⟨xb, 2, none⟩ = some (.slice aob r.length capb) := ⟨(hoAa 0 (by omega)).trans (HC0.out _ hS176).1, (hoAa 2 (by omega)).trans (HC0.out _ hS176).2⟩
          have HCb : Hid (∀ y, Below yAa.heap.size yAa y → y.cell? ⟨xb, 2, none⟩ = some (.slice aob r.length capb)) := fun y hy => (hy.cell (p := ⟨xb, 2, none⟩) (World.block_lt_of_cell? yAa _ hoAa'.2)).trans hoAa'.2
          have HZb' : Hid (∀ y, Below yAa.heap.size yAa y → ∀ j, y.frozen? ⟨xb, j, none⟩ = false) := fun y hy j => (hy.frozen (p := ⟨xb, j, none⟩) (show xb < yAa.heap.size from World.block_lt_of_cell? yAa ⟨xb, 2, none⟩ hoAa'.2)).trans ((hfAa j).trans (HZa'.out _ hS176 j))
          have HZb : Hid (∀ y, Below yAa.heap.size yAa y → y.frozen? ⟨xb, 2, none⟩ = false) := fun y hy => HZb'.out y hy 2
          obtain ⟨hm1, hm2, hm3⟩ := hMid
          have HTob : Hid (∀ y, Below yAa.heap.size yAa y → Src y (upTo aob i capb) i (strs L1b)) := fun y hy => hm1.below hy
          have HFrb : Hid (∀ y, Below yAa.heap.size yAa y → Src y (from_ aob 1 r.length i capb) (r.length - i) (strs L2b)) := fun y hy => hm2.below hy
          have HV : Hid (∀ y, Below yAa.heap.size yAa y → (convert 33 9 (.slice av b.length cpv)).run Try.prog y = .ok (.string Sb) y) := fun y hy => by rw [← HSb.out]; exact conv_sl y _ _ (hm3.below hy)
          clear hm1 hm2 hm3 hoAa hkAa hzAa hfAa HCa HToa HFra HH HC0 HMID HZa HZa'
          go_wp2_with fail
          refine beginL (fun y => Below yAa.heap.size yAa y) 22 (by kernel_rfl) (Below.refl _ _).drew (fun hS0 => ?_)
          generalize yAa.drew = yb0 at *
          refine takeL 0 (v := ?vq179) rfl (some 55) rfl (by decide) (by kernel_rfl) (by kernel_rfl) (by kernel_rfl) (by kernel_rfl) (fun _ _ _ h => h) (Or.inl ⟨by rfl, ?hq179⟩) hS0 ?rq179
          case hq179 => (intro y hy; go_simp; with_reducible rfl)
          simp only [Act.put, List.setIfInBounds_toArray, List.set_cons_zero, List.set_cons_succ]
          refine takeL 2 (v := ?vq180) rfl (some 57) rfl (by decide) (by kernel_rfl) (by kernel_rfl) (by kernel_rfl) (by kernel_rfl) (fun _ _ _ h => h) (Or.inl ⟨by rfl, ?hq180⟩) hS0 ?rq180
          case hq180 => (intro y hy; go_simp; with_reducible rfl)
          simp only [Act.put, List.setIfInBounds_toArray, List.set_cons_zero, List.set_cons_succ]
          refine takeL 3 (v := ?vq181) rfl (some 58) rfl (by decide) (by kernel_rfl) (by kernel_rfl) (by kernel_rfl) (by kernel_rfl) (fun _ _ _ h => h) (Or.inl ⟨by rfl, ?hq181⟩) hS0 ?rq181
          case hq181 => (intro y hy; go_simp; with_reducible rfl)
          simp only [Act.put, List.setIfInBounds_toArray, List.set_cons_zero, List.set_cons_succ]
          refine takeL 4 (v := ?vq182) rfl (some 59) rfl (by decide) (by kernel_rfl) (by kernel_rfl) (by kernel_rfl) (by kernel_rfl) (fun _ _ _ h => h) (Or.inl ⟨by rfl, ?hq182⟩) hS0 ?rq182
          case hq182 => (intro y hy; go_simp; with_reducible rfl)
          simp only [Act.put, List.setIfInBounds_toArray, List.set_cons_zero, List.set_cons_succ]
          refine takeL 5 (v := ?vq183) rfl (some 60) rfl (by decide) (by kernel_rfl) (by kernel_rfl) (by kernel_rfl) (by kernel_rfl) (fun _ _ _ h => h) (Or.inl ⟨by rfl, ?hq183⟩) hS0 ?rq183
          case hq183 => (intro y hy; have c1 := HCb.out y hy; go_simp; with_reducible rfl)
          simp only [Act.put, List.setIfInBounds_toArray, List.set_cons_zero, List.set_cons_succ]
          refine takeL 6 (v := ?vq184) rfl (some 61) rfl (by decide) (by kernel_rfl) (by kernel_rfl) (by kernel_rfl) (by kernel_rfl) (fun _ _ _ h => h) (Or.inl ⟨by rfl, ?hq184⟩) hS0 ?rq184
          case hq184 => (intro y hy; go_simp; with_reducible rfl)
          simp only [Act.put, List.setIfInBounds_toArray, List.set_cons_zero, List.set_cons_succ]
          refine takeL 7 (v := upTo aob i capb) rfl (some 62) rfl (by decide) (by kernel_rfl) (by kernel_rfl) (by kernel_rfl) (by kernel_rfl) (fun _ _ _ h => h) (yields_upTo (by rfl) 30 9 i9 Try.underlying30 hi9 _ _ rfl aob r.length i capb rfl rfl (by omega)) hS0 ?_
          simp only [Act.put, List.setIfInBounds_toArray, List.set_cons_zero, List.set_cons_succ]
          refine takeL 9 (v := ?vq186) rfl (some 64) rfl (by decide) (by kernel_rfl) (by kernel_rfl) (by kernel_rfl) (by kernel_rfl) (fun _ _ _ h => h) (Or.inl ⟨by rfl, ?hq186⟩) hS0 ?rq186
          case hq186 => (intro y hy; go_simp; with_reducible rfl)
          simp only [Act.put, List.setIfInBounds_toArray, List.set_cons_zero, List.set_cons_succ]
          refine takeL 10 (v := ?vq187) rfl (some 65) rfl (by decide) (by kernel_rfl) (by kernel_rfl) (by kernel_rfl) (by kernel_rfl) (fun _ _ _ h => h) (Or.inl ⟨by rfl, ?hq187⟩) hS0 ?rq187
          case hq187 => (intro y hy; have v1 := HV.out y hy; go_simp; with_reducible rfl)
          simp only [Act.put, List.setIfInBounds_toArray, List.set_cons_zero, List.set_cons_succ]
          refine takeL 13 (v := ?vq188) rfl (some 68) rfl (by decide) (by kernel_rfl) (by kernel_rfl) (by kernel_rfl) (by kernel_rfl) (fun _ _ _ h => h) (Or.inl ⟨by rfl, ?hq188⟩) hS0 ?rq188
          case hq188 => (intro y hy; go_simp; with_reducible rfl)
          simp only [Act.put, List.setIfInBounds_toArray, List.set_cons_zero, List.set_cons_succ]
          refine takeL 14 (v := ?vq189) rfl (some 69) rfl (by decide) (by kernel_rfl) (by kernel_rfl) (by kernel_rfl) (by kernel_rfl) (fun _ _ _ h => h) (Or.inl ⟨by rfl, ?hq189⟩) hS0 ?rq189
          case hq189 => (intro y hy; go_simp; with_reducible rfl)
          simp only [Act.put, List.setIfInBounds_toArray, List.set_cons_zero, List.set_cons_succ]
          refine takeL 15 (v := ?vq190) rfl (some 70) rfl (by decide) (by kernel_rfl) (by kernel_rfl) (by kernel_rfl) (by kernel_rfl) (fun _ _ _ h => h) (Or.inl ⟨by rfl, ?hq190⟩) hS0 ?rq190
          case hq190 => (intro y hy; go_simp; with_reducible rfl)
          simp only [Act.put, List.setIfInBounds_toArray, List.set_cons_zero, List.set_cons_succ]
          refine takeL 16 (v := ?vq191) rfl (some 71) rfl (by decide) (by kernel_rfl) (by kernel_rfl) (by kernel_rfl) (by kernel_rfl) (fun _ _ _ h => h) (Or.inl ⟨by rfl, ?hq191⟩) hS0 ?rq191
          case hq191 => (intro y hy; have c1 := HCb.out y hy; go_simp; with_reducible rfl)
          simp only [Act.put, List.setIfInBounds_toArray, List.set_cons_zero, List.set_cons_succ]
          refine takeL 17 (v := ?vq192) rfl (some 72) rfl (by decide) (by kernel_rfl) (by kernel_rfl) (by kernel_rfl) (by kernel_rfl) (fun _ _ _ h => h) (Or.inl ⟨by rfl, ?hq192⟩) hS0 ?rq192
          case hq192 => (intro y hy; go_simp; with_reducible rfl)
          simp only [Act.put, List.setIfInBounds_toArray, List.set_cons_zero, List.set_cons_succ]
          refine takeL 18 (v := from_ aob 1 r.length i capb) rfl (some 73) rfl (by decide) (by kernel_rfl) (by kernel_rfl) (by kernel_rfl) (by kernel_rfl) (fun _ _ _ h => h) (yields_from (by rfl) 30 9 i9 1 hs9 Try.underlying30 hi9 _ _ rfl aob r.length i capb rfl rfl hir) hS0 ?_
          simp only [Act.put, List.setIfInBounds_toArray, List.set_cons_zero, List.set_cons_succ]
          refine readyL (rs := [1, 11]) (by kernel_rfl) (by simp) ?_
          refine ReadyL.cons rfl (fun K hK => ?_) (ReadyL.cons rfl (fun K hK => ?_) ReadyL.nil)
          · go_simp
            obtain ⟨y194, g195, ey, eg, hS196, hb197, ho198, lt199⟩ := mk9 hS0
            rw [ey, eg]
            clear ey
            refine hK.out _ _ (fun _ => hS196) (fun _ => ?_)
            clear hK K eg
            refine readyL (rs := [8, 11]) (by kernel_rfl) (by simp) ?_
            refine ReadyL.cons rfl (fun K hK => ?_) (ReadyL.cons rfl (fun K hK => ?_) ReadyL.nil)
            · refine want (by rfl) ?_
              refine wp_app9 _ _ rfl yAa.heap.size g195 0 0 [] rfl ho198 hS196.size _ i L1b rfl (HTob.out y194 hS196) hl1b (by omega) ?_
              intro g201 cap202 y200 ho205 hg204
              rw [Nat.zero_add] at ho205 ⊢
              have hS203 : Below yAa.heap.size yAa y200 := hS196.grown hg204 hS196.size (fun k e => (ho198.lt k e).1)
              refine hK.out _ _ (fun _ => hS203) (fun _ => ?_)
              clear hK K
              refine readyL (rs := [11]) (by kernel_rfl) (by simp) ?_
              refine ReadyL.cons rfl (fun K hK => ?_) ReadyL.nil
              go_simp
              obtain ⟨y206, gh207, ey, eg, hS208, hb209, hr210, lt211⟩ := mks Sb hS203
              rw [ey, eg]
              clear ey
              have ho212 := own_past ho205 hb209
              refine hK.out _ _ (fun _ => hS208) (fun _ => ?_)
              clear hK K eg
              refine readyL (rs := [12]) (by kernel_rfl) (by simp) ?_
              refine ReadyL.cons rfl (fun K hK => ?_) ReadyL.nil
              refine want (by rfl) ?_
              refine wp_app9 _ _ rfl yAa.heap.size g201 i cap202 ([] ++ L1b) rfl ho212 hS208.size _ 1 [b] rfl (src_one9 (by rw [HSb.out]; exact hr210)) rfl (by omega) ?_
              intro g214 cap215 y213 ho218 hg217
              have hS216 : Below yAa.heap.size yAa y213 := hS208.grown hg217 hS208.size (fun k e => (ho212.lt k e).1)
              refine hK.out _ _ (fun _ => hS216) (fun _ => ?_)
              clear hK K
              refine readyL (rs := [19]) (by kernel_rfl) (by simp) ?_
              refine ReadyL.cons rfl (fun K hK => ?_) ReadyL.nil
              refine want (by rfl) ?_
              refine wp_app9 _ _ rfl yAa.heap.size g214 (i + 1) cap215 ([] ++ L1b ++ [b]) rfl ho218 hS216.size _ (r.length - i) L2b rfl (HFrb.out y213 hS216) hl2b (by omega) ?_
              intro g220 cap221 y219 ho224 hg223
              have hS222 : Below yAa.heap.size yAa y219 := hS216.grown hg223 hS216.size (fun k e => (ho218.lt k e).1)
              refine hK.out _ _ (fun _ => hS222) (fun _ => ?_)
              clear hK K
              refine readyL (rs := [20]) (by kernel_rfl) (by simp) ?_
              refine ReadyL.cons rfl (fun K hK => ?_) ReadyL.nil
              go_simp
              refine hK.out _ _ (fun _ => hS222) (fun _ => ?_)
              clear hK K
              refine readyL (rs := [21]) (by kernel_rfl) (by simp) ?_
              refine ReadyL.cons rfl (fun K hK => ?_) ReadyL.nil
              go_simp
              refine hK.out _ _ (fun _ => hS222) (fun _ => ?_)
              clear hK K
              refine readyL (rs := [22]) (by kernel_rfl) (by simp) ?_
              refine ReadyL.cons rfl (fun K hK => ?_) ReadyL.nil
              have cx := HCb.out y219 hS222
              have fx := HZb.out y219 hS222
              go_simp
              obtain ⟨yAb, eyA, hgAb, hcAb, hoAb, hkAb, hzAb, hfAb⟩ := half_of (.slice (some ⟨g220, 0, none⟩) (i + 1 + (r.length - i)) cap221) hS222 cx
              rw [eyA]
              clear eyA cx fx
              refine hK.out _ _ (fun h => absurd rfl h) (fun _ => ?_)
              clear hK K
              refine doneL (by kernel_rfl) ?_ _
              have hFin := HFIN.out yAa yAb y219 _ _ _ _ hgAa hcAa hoAa' hoY ho224 hS222 hgAb hcAb hoAb hkAb (fun j => (hfAb j).trans (HZb'.out _ hS222 j))
              obtain ⟨rZb, rYb, hE⟩ := hFin
              clear HFIN HCb HTob HFrb HV hgAa hcAa hoAa' hoY hgAb hcAb hoAb hkAb hzAb hfAb HZb HZb'
              go_wp2_with (first | (refine wpList_load_row rfl 35 _ rfl bh rfl 35 Lh.toArray (0, 0) _ rYb Try.underlying35 rfl hY ?_) | (refine wpList_store_row rfl 35 _ _ rfl w.heap.size Lh.toArray rfl rfl 35 z25.toArray rZb hY hYz hYo ?_))
              refine bodyPost_ret (v := .tuple #[.agg Lh.toArray, .int .i64 0]) (results11_row _ _ w.heap.size _ _ rfl rfl (setRow_heap yAb w.heap.size _ Lh.toArray 35 _ rZb) hY) rfl ?_
              exact hE
            · go_simp
              obtain ⟨y225, gh226, ey, eg, hS227, hb228, hr229, lt230⟩ := mks Sb hS196
              rw [ey, eg]
              clear ey
              have ho231 := own_past ho198 hb228
              have ne232 : gh226 ≠ g195 := by have := lt199; omega
              refine hK.out _ _ (fun _ => hS227) (fun _ => ?_)
              clear hK K eg
              refine readyL (rs := [8]) (by kernel_rfl) (by simp) ?_
              refine ReadyL.cons rfl (fun K hK => ?_) ReadyL.nil
              refine want (by rfl) ?_
              refine wp_app9 _ _ rfl yAa.heap.size g195 0 0 [] rfl ho231 hS227.size _ i L1b rfl (HTob.out y225 hS227) hl1b (by omega) ?_
              intro g234 cap235 y233 ho238 hg237
              rw [Nat.zero_add] at ho238 ⊢
              have hS236 : Below yAa.heap.size yAa y233 := hS227.grown hg237 hS227.size (fun k e => (ho231.lt k e).1)
              have hr239 := cell_grown hr229 hg237 ne232
              refine hK.out _ _ (fun _ => hS236) (fun _ => ?_)
              clear hK K
              refine readyL (rs := [12]) (by kernel_rfl) (by simp) ?_
              refine ReadyL.cons rfl (fun K hK => ?_) ReadyL.nil
              refine want (by rfl) ?_
              refine wp_app9 _ _ rfl yAa.heap.size g234 i cap235 ([] ++ L1b) rfl ho238 hS236.size _ 1 [b] rfl (src_one9 (by rw [HSb.out]; exact hr239)) rfl (by omega) ?_
              intro g241 cap242 y240 ho245 hg244
              have hS243 : Below yAa.heap.size yAa y240 := hS236.grown hg244 hS236.size (fun k e => (ho238.lt k e).1)
              refine hK.out _ _ (fun _ => hS243) (fun _ => ?_)
              clear hK K
              refine readyL (rs := [19]) (by kernel_rfl) (by simp) ?_
              refine ReadyL.cons rfl (fun K hK => ?_) ReadyL.nil
              refine want (by rfl) ?_
              refine wp_app9 _ _ rfl yAa.heap.size g241 (i + 1) cap242 ([] ++ L1b ++ [b]) rfl ho245 hS243.size _ (r.length - i) L2b rfl (HFrb.out y240 hS243) hl2b (by omega) ?_
              intro g247 cap248 y246 ho251 hg250
              have hS249 : Below yAa.heap.size yAa y246 := hS243.grown hg250 hS243.size (fun k e => (ho245.lt k e).1)
              refine hK.out _ _ (fun _ => hS249) (fun _ => ?_)
              clear hK K
              refine readyL (rs := [20]) (by kernel_rfl) (by simp) ?_
              refine ReadyL.cons rfl (fun K hK => ?_) ReadyL.nil
              go_simp
              refine hK.out _ _ (fun _ => hS249) (fun _ => ?_)
              clear hK K
              refine readyL (rs := [21]) (by kernel_rfl) (by simp) ?_
              refine ReadyL.cons rfl (fun K hK => ?_) ReadyL.nil
              go_simp
              refine hK.out _ _ (fun _ => hS249) (fun _ => ?_)
              clear hK K
              refine readyL (rs := [22]) (by kernel_rfl) (by simp) ?_
              refine ReadyL.cons rfl (fun K hK => ?_) ReadyL.nil
              have cx := HCb.out y246 hS249
              have fx := HZb.out y246 hS249
              go_simp
              obtain ⟨yAb, eyA, hgAb, hcAb, hoAb, hkAb, hzAb, hfAb⟩ := half_of (.slice (some ⟨g247, 0, none⟩) (i + 1 + (r.length - i)) cap248) hS249 cx
              rw [eyA]
              clear eyA cx fx
              refine hK.out _ _ (fun h => absurd rfl h) (fun _ => ?_)
              clear hK K
              refine doneL (by kernel_rfl) ?_ _
              have hFin := HFIN.out yAa yAb y246 _ _ _ _ hgAa hcAa hoAa' hoY ho251 hS249 hgAb hcAb hoAb hkAb (fun j => (hfAb j).trans (HZb'.out _ hS249 j))
              obtain ⟨rZb, rYb, hE⟩ := hFin
              clear HFIN HCb HTob HFrb HV hgAa hcAa hoAa' hoY hgAb hcAb hoAb hkAb hzAb hfAb HZb HZb'
              go_wp2_with (first | (refine wpList_load_row rfl 35 _ rfl bh rfl 35 Lh.toArray (0, 0) _ rYb Try.underlying35 rfl hY ?_) | (refine wpList_store_row rfl 35 _ _ rfl w.heap.size Lh.toArray rfl rfl 35 z25.toArray rZb hY hYz hYo ?_))
              refine bodyPost_ret (v := .tuple #[.agg Lh.toArray, .int .i64 0]) (results11_row _ _ w.heap.size _ _ rfl rfl (setRow_heap yAb w.heap.size _ Lh.toArray 35 _ rZb) hY) rfl ?_
              exact hE
          · go_simp
            obtain ⟨y252, gh253, ey, eg, hS254, hb255, hr256, lt257⟩ := mks Sb hS0
            rw [ey, eg]
            clear ey
            refine hK.out _ _ (fun _ => hS254) (fun _ => ?_)
            clear hK K eg
            refine readyL (rs := [1]) (by kernel_rfl) (by simp) ?_
            refine ReadyL.cons rfl (fun K hK => ?_) ReadyL.nil
            go_simp
            obtain ⟨y258, g259, ey, eg, hS260, hb261, ho262, lt263⟩ := mk9 hS254
            rw [ey, eg]
            clear ey
            have hr264 := cell_below hr256 hb261
            have ne265 : gh253 ≠ g259 := by have := lt257; omega
            refine hK.out _ _ (fun _ => hS260) (fun _ => ?_)
            clear hK K eg
            refine readyL (rs := [8]) (by kernel_rfl) (by simp) ?_
            refine ReadyL.cons rfl (fun K hK => ?_) ReadyL.nil
            refine want (by rfl) ?_
            refine wp_app9 _ _ rfl yAa.heap.size g259 0 0 [] rfl ho262 hS260.size _ i L1b rfl (HTob.out y258 hS260) hl1b (by omega) ?_
            intro g267 cap268 y266 ho271 hg270
            rw [Nat.zero_add] at ho271 ⊢
            have hS269 : Below yAa.heap.size yAa y266 := hS260.grown hg270 hS260.size (fun k e => (ho262.lt k e).1)
            have hr272 := cell_grown hr264 hg270 ne265
            refine hK.out _ _ (fun _ => hS269) (fun _ => ?_)
            clear hK K
            refine readyL (rs := [12]) (by kernel_rfl) (by simp) ?_
            refine ReadyL.cons rfl (fun K hK => ?_) ReadyL.nil
            refine want (by rfl) ?_
            refine wp_app9 _ _ rfl yAa.heap.size g267 i cap268 ([] ++ L1b) rfl ho271 hS269.size _ 1 [b] rfl (src_one9 (by rw [HSb.out]; exact hr272)) rfl (by omega) ?_
            intro g274 cap275 y273 ho278 hg277
            have hS276 : Below yAa.heap.size yAa y273 := hS269.grown hg277 hS269.size (fun k e => (ho271.lt k e).1)
            refine hK.out _ _ (fun _ => hS276) (fun _ => ?_)
            clear hK K
            refine readyL (rs := [19]) (by kernel_rfl) (by simp) ?_
            refine ReadyL.cons rfl (fun K hK => ?_) ReadyL.nil
            refine want (by rfl) ?_
            refine wp_app9 _ _ rfl yAa.heap.size g274 (i + 1) cap275 ([] ++ L1b ++ [b]) rfl ho278 hS276.size _ (r.length - i) L2b rfl (HFrb.out y273 hS276) hl2b (by omega) ?_
            intro g280 cap281 y279 ho284 hg283
            have hS282 : Below yAa.heap.size yAa y279 := hS276.grown hg283 hS276.size (fun k e => (ho278.lt k e).1)
            refine hK.out _ _ (fun _ => hS282) (fun _ => ?_)
            clear hK K
            refine readyL (rs := [20]) (by kernel_rfl) (by simp) ?_
            refine ReadyL.cons rfl (fun K hK => ?_) ReadyL.nil
            go_simp
            refine hK.out _ _ (fun _ => hS282) (fun _ => ?_)
            clear hK K
            refine readyL (rs := [21]) (by kernel_rfl) (by simp) ?_
            refine ReadyL.cons rfl (fun K hK => ?_) ReadyL.nil
            go_simp
            refine hK.out _ _ (fun _ => hS282) (fun _ => ?_)
            clear hK K
            refine readyL (rs := [22]) (by kernel_rfl) (by simp) ?_
            refine ReadyL.cons rfl (fun K hK => ?_) ReadyL.nil
            have cx := HCb.out y279 hS282
            have fx := HZb.out y279 hS282
            go_simp
            obtain ⟨yAb, eyA, hgAb, hcAb, hoAb, hkAb, hzAb, hfAb⟩ := half_of (.slice (some ⟨g280, 0, none⟩) (i + 1 + (r.length - i)) cap281) hS282 cx
            rw [eyA]
            clear eyA cx fx
            refine hK.out _ _ (fun h => absurd rfl h) (fun _ => ?_)
            clear hK K
            refine doneL (by kernel_rfl) ?_ _
            have hFin := HFIN.out yAa yAb y279 _ _ _ _ hgAa hcAa hoAa' hoY ho284 hS282 hgAb hcAb hoAb hkAb (fun j => (hfAb j).trans (HZb'.out _ hS282 j))
            obtain ⟨rZb, rYb, hE⟩ := hFin
            clear HFIN HCb HTob HFrb HV hgAa hcAa hoAa' hoY hgAb hcAb hoAb hkAb hzAb hfAb HZb HZb'
            go_wp2_with (first | (refine wpList_load_row rfl 35 _ rfl bh rfl 35 Lh.toArray (0, 0) _ rYb Try.underlying35 rfl hY ?_) | (refine wpList_store_row rfl 35 _ _ rfl w.heap.size Lh.toArray rfl rfl 35 z25.toArray rZb hY hYz hYo ?_))
            refine bodyPost_ret (v := .tuple #[.agg Lh.toArray, .int .i64 0]) (results11_row _ _ w.heap.size _ _ rfl rfl (setRow_heap yAb w.heap.size _ Lh.toArray 35 _ rZb) hY) rfl ?_
            exact hE
      · refine want (by rfl) ?_
        refine wpo_build35 _ rfl Lh rfl hL32 ?_
        obtain ⟨y285, gh286, ey, eg, hS287, hb288, hr289, lt290⟩ := mkh Lh hSd
        rw [ey, eg]
        clear ey
        refine hK.out _ _ (fun _ => hS287) (fun _ => ?_)
        clear hK K eg
        refine readyL (rs := [1]) (by kernel_rfl) (by simp) ?_
        refine ReadyL.cons rfl (fun K hK => ?_) ReadyL.nil
        go_simp
        obtain ⟨y291, g292, ey, eg, hS293, hb294, ho295, lt296⟩ := mk35 hS287
        rw [ey, eg]
        clear ey
        have hr297 := range_below hr289 hb294
        have ne298 : gh286 ≠ g292 := by have := lt290; omega
        refine hK.out _ _ (fun _ => hS293) (fun _ => ?_)
        clear hK K eg
        refine readyL (rs := [8]) (by kernel_rfl) (by simp) ?_
        refine ReadyL.cons rfl (fun K hK => ?_) ReadyL.nil
        refine want (by rfl) ?_
        refine wp_app35 _ _ rfl wq.heap.size g292 0 0 [] rfl ho295 hS293.size _ i L1a rfl (HToa.out y291 hS293) hl1a h321 (by omega) ?_
        intro g300 cap301 y299 ho304 hg303
        rw [Nat.zero_add] at ho304 ⊢
        have hS302 : Below wq.heap.size wq y299 := hS293.grown hg303 hS293.size (fun k e => (ho295.lt k e).1)
        have hr305 := range_grown hr297 hg303 ne298
        refine hK.out _ _ (fun _ => hS302) (fun _ => ?_)
        clear hK K
        refine readyL (rs := [11]) (by kernel_rfl) (by simp) ?_
        refine ReadyL.cons rfl (fun K hK => ?_) ReadyL.nil
        refine want (by rfl) ?_
        refine wp_app35 _ _ rfl wq.heap.size g300 i cap301 ([] ++ L1a) rfl ho304 hS302.size _ 1 [h] rfl (src_one35 (by rw [HLL.out]; exact hr305)) rfl h320 (by omega) ?_
        intro g307 cap308 y306 ho311 hg310
        have hS309 : Below wq.heap.size wq y306 := hS302.grown hg310 hS302.size (fun k e => (ho304.lt k e).1)
        refine hK.out _ _ (fun _ => hS309) (fun _ => ?_)
        clear hK K
        refine readyL (rs := [18]) (by kernel_rfl) (by simp) ?_
        refine ReadyL.cons rfl (fun K hK => ?_) ReadyL.nil
        refine want (by rfl) ?_
        refine wp_app35 _ _ rfl wq.heap.size g307 (i + 1) cap308 ([] ++ L1a ++ [h]) rfl ho311 hS309.size _ (r.length - i) L2a rfl (HFra.out y306 hS309) hl2a h322 (by omega) ?_
        intro g313 cap314 y312 ho317 hg316
        have hS315 : Below wq.heap.size wq y312 := hS309.grown hg316 hS309.size (fun k e => (ho311.lt k e).1)
        refine hK.out _ _ (fun _ => hS315) (fun _ => ?_)
        clear hK K
        refine readyL (rs := [19]) (by kernel_rfl) (by simp) ?_
        refine ReadyL.cons rfl (fun K hK => ?_) ReadyL.nil
        go_simp
        refine hK.out _ _ (fun _ => hS315) (fun _ => ?_)
        clear hK K
        refine readyL (rs := [20]) (by kernel_rfl) (by simp) ?_
        refine ReadyL.cons rfl (fun K hK => ?_) ReadyL.nil
        go_simp
        refine hK.out _ _ (fun _ => hS315) (fun _ => ?_)
        clear hK K
        refine readyL (rs := [21]) (by kernel_rfl) (by simp) ?_
        refine ReadyL.cons rfl (fun K hK => ?_) ReadyL.nil
        have cx := HCa.out y312 hS315
        have fx := HZa.out y312 hS315
        go_simp
        obtain ⟨yAa, eyA, hgAa, hcAa, hoAa, hkAa, hzAa, hfAa⟩ := half_of (.slice (some ⟨g313, 0, none⟩) (i + 1 + (r.length - i)) cap314) hS315 cx
        rw [eyA]
        clear eyA cx fx
        refine hK.out _ _ (fun h => absurd rfl h) (fun _ => ?_)
        clear hK K
        refine doneL (by kernel_rfl) ?_ _
        have hoY := own_same32 ho317 (fun k e => hkAa k (fun e' => by have := (ho317.lt k e).1; omega))
        have hMid := HMID.out yAa hgAa
        have hoAa' : yAa.cell? ⟨xb, 0, none⟩ = some (.int .i64 (room : Int)) ∧ yAa.cell? ⟨xb, 2, none⟩ = some (.slice aob r.length capb) := ⟨(hoAa 0 (by omega)).trans (HC0.out _ hS315).1, (hoAa 2 (by omega)).trans (HC0.out _ hS315).2⟩
        have HCb : Hid (∀ y, Below yAa.heap.size yAa y → y.cell? ⟨xb, 2, none⟩ = some (.slice aob r.length capb)) := fun y hy => (hy.cell (p := ⟨xb, 2, none⟩) (World.block_lt_of_cell? yAa _ hoAa'.2)).trans hoAa'.2
        have HZb' : Hid (∀ y, Below yAa.heap.size yAa y → ∀ j, y.frozen? ⟨xb, j, none⟩ = false) := fun y hy j => (hy.frozen (p := ⟨xb, j, none⟩) (show xb < yAa.heap.size from World.block_lt_of_cell? yAa ⟨xb, 2, none⟩ hoAa'.2)).trans ((hfAa j).trans (HZa'.out _ hS315 j))
        have HZb : Hid (∀ y, Below yAa.heap.size yAa y → y.frozen? ⟨xb, 2, none⟩ = false) := fun y hy => HZb'.out y hy 2
        obtain ⟨hm1, hm2, hm3⟩ := hMid
        have HTob : Hid (∀ y, Below yAa.heap.size yAa y → Src y (upTo aob i capb) i (strs L1b)) := fun y hy => hm1.below hy
        have HFrb : Hid (∀ y, Below yAa.heap.size yAa y → Src y (from_ aob 1 r.length i capb) (r.length - i) (strs L2b)) := fun y hy => hm2.below hy
        have HV : Hid (∀ y, Below yAa.heap.size yAa y → (convert 33 9 (.slice av b.length cpv)).run Try.prog y = .ok (.string Sb) y) := fun y hy => by rw [← HSb.out]; exact conv_sl y _ _ (hm3.below hy)
        clear hm1 hm2 hm3 hoAa hkAa hzAa hfAa HCa HToa HFra HH HC0 HMID HZa HZa'
        go_wp2_with fail
        refine beginL (fun y => Below yAa.heap.size yAa y) 22 (by kernel_rfl) (Below.refl _ _).drew (fun hS0 => ?_)
        generalize yAa.drew = yb0 at *
        refine takeL 0 (v := ?vq318) rfl (some 55) rfl (by decide) (by kernel_rfl) (by kernel_rfl) (by kernel_rfl) (by kernel_rfl) (fun _ _ _ h => h) (Or.inl ⟨by rfl, ?hq318⟩) hS0 ?rq318
        case hq318 => (intro y hy; go_simp; with_reducible rfl)
        simp only [Act.put, List.setIfInBounds_toArray, List.set_cons_zero, List.set_cons_succ]
        refine takeL 2 (v := ?vq319) rfl (some 57) rfl (by decide) (by kernel_rfl) (by kernel_rfl) (by kernel_rfl) (by kernel_rfl) (fun _ _ _ h => h) (Or.inl ⟨by rfl, ?hq319⟩) hS0 ?rq319
        case hq319 => (intro y hy; go_simp; with_reducible rfl)
        simp only [Act.put, List.setIfInBounds_toArray, List.set_cons_zero, List.set_cons_succ]
        refine takeL 3 (v := ?vq320) rfl (some 58) rfl (by decide) (by kernel_rfl) (by kernel_rfl) (by kernel_rfl) (by kernel_rfl) (fun _ _ _ h => h) (Or.inl ⟨by rfl, ?hq320⟩) hS0 ?rq320
        case hq320 => (intro y hy; go_simp; with_reducible rfl)
        simp only [Act.put, List.setIfInBounds_toArray, List.set_cons_zero, List.set_cons_succ]
        refine takeL 4 (v := ?vq321) rfl (some 59) rfl (by decide) (by kernel_rfl) (by kernel_rfl) (by kernel_rfl) (by kernel_rfl) (fun _ _ _ h => h) (Or.inl ⟨by rfl, ?hq321⟩) hS0 ?rq321
        case hq321 => (intro y hy; go_simp; with_reducible rfl)
        simp only [Act.put, List.setIfInBounds_toArray, List.set_cons_zero, List.set_cons_succ]
        refine takeL 5 (v := ?vq322) rfl (some 60) rfl (by decide) (by kernel_rfl) (by kernel_rfl) (by kernel_rfl) (by kernel_rfl) (fun _ _ _ h => h) (Or.inl ⟨by rfl, ?hq322⟩) hS0 ?rq322
        case hq322 => (intro y hy; have c1 := HCb.out y hy; go_simp; with_reducible rfl)
        simp only [Act.put, List.setIfInBounds_toArray, List.set_cons_zero, List.set_cons_succ]
        refine takeL 6 (v := ?vq323) rfl (some 61) rfl (by decide) (by kernel_rfl) (by kernel_rfl) (by kernel_rfl) (by kernel_rfl) (fun _ _ _ h => h) (Or.inl ⟨by rfl, ?hq323⟩) hS0 ?rq323
        case hq323 => (intro y hy; go_simp; with_reducible rfl)
        simp only [Act.put, List.setIfInBounds_toArray, List.set_cons_zero, List.set_cons_succ]
        refine takeL 7 (v := upTo aob i capb) rfl (some 62) rfl (by decide) (by kernel_rfl) (by kernel_rfl) (by kernel_rfl) (by kernel_rfl) (fun _ _ _ h => h) (yields_upTo (by rfl) 30 9 i9 Try.underlying30 hi9 _ _ rfl aob r.length i capb rfl rfl (by omega)) hS0 ?_
        simp only [Act.put, List.setIfInBounds_toArray, List.set_cons_zero, List.set_cons_succ]
        refine takeL 9 (v := ?vq325) rfl (some 64) rfl (by decide) (by kernel_rfl) (by kernel_rfl) (by kernel_rfl) (by kernel_rfl) (fun _ _ _ h => h) (Or.inl ⟨by rfl, ?hq325⟩) hS0 ?rq325
        case hq325 => (intro y hy; go_simp; with_reducible rfl)
        simp only [Act.put, List.setIfInBounds_toArray, List.set_cons_zero, List.set_cons_succ]
        refine takeL 10 (v := ?vq326) rfl (some 65) rfl (by decide) (by kernel_rfl) (by kernel_rfl) (by kernel_rfl) (by kernel_rfl) (fun _ _ _ h => h) (Or.inl ⟨by rfl, ?hq326⟩) hS0 ?rq326
        case hq326 => (intro y hy; have v1 := HV.out y hy; go_simp; with_reducible rfl)
        simp only [Act.put, List.setIfInBounds_toArray, List.set_cons_zero, List.set_cons_succ]
        refine takeL 13 (v := ?vq327) rfl (some 68) rfl (by decide) (by kernel_rfl) (by kernel_rfl) (by kernel_rfl) (by kernel_rfl) (fun _ _ _ h => h) (Or.inl ⟨by rfl, ?hq327⟩) hS0 ?rq327
        case hq327 => (intro y hy; go_simp; with_reducible rfl)
        simp only [Act.put, List.setIfInBounds_toArray, List.set_cons_zero, List.set_cons_succ]
        refine takeL 14 (v := ?vq328) rfl (some 69) rfl (by decide) (by kernel_rfl) (by kernel_rfl) (by kernel_rfl) (by kernel_rfl) (fun _ _ _ h => h) (Or.inl ⟨by rfl, ?hq328⟩) hS0 ?rq328
        case hq328 => (intro y hy; go_simp; with_reducible rfl)
        simp only [Act.put, List.setIfInBounds_toArray, List.set_cons_zero, List.set_cons_succ]
        refine takeL 15 (v := ?vq329) rfl (some 70) rfl (by decide) (by kernel_rfl) (by kernel_rfl) (by kernel_rfl) (by kernel_rfl) (fun _ _ _ h => h) (Or.inl ⟨by rfl, ?hq329⟩) hS0 ?rq329
        case hq329 => (intro y hy; go_simp; with_reducible rfl)
        simp only [Act.put, List.setIfInBounds_toArray, List.set_cons_zero, List.set_cons_succ]
        refine takeL 16 (v := ?vq330) rfl (some 71) rfl (by decide) (by kernel_rfl) (by kernel_rfl) (by kernel_rfl) (by kernel_rfl) (fun _ _ _ h => h) (Or.inl ⟨by rfl, ?hq330⟩) hS0 ?rq330
        case hq330 => (intro y hy; have c1 := HCb.out y hy; go_simp; with_reducible rfl)
        simp only [Act.put, List.setIfInBounds_toArray, List.set_cons_zero, List.set_cons_succ]
        refine takeL 17 (v := ?vq331) rfl (some 72) rfl (by decide) (by kernel_rfl) (by kernel_rfl) (by kernel_rfl) (by kernel_rfl) (fun _ _ _ h => h) (Or.inl ⟨by rfl, ?hq331⟩) hS0 ?rq331
        case hq331 => (intro y hy; go_simp; with_reducible rfl)
        simp only [Act.put, List.setIfInBounds_toArray, List.set_cons_zero, List.set_cons_succ]
        refine takeL 18 (v := from_ aob 1 r.length i capb) rfl (some 73) rfl (by decide) (by kernel_rfl) (by kernel_rfl) (by kernel_rfl) (by kernel_rfl) (fun _ _ _ h => h) (yields_from (by rfl) 30 9 i9 1 hs9 Try.underlying30 hi9 _ _ rfl aob r.length i capb rfl rfl hir) hS0 ?_
        simp only [Act.put, List.setIfInBounds_toArray, List.set_cons_zero, List.set_cons_succ]
        refine readyL (rs := [1, 11]) (by kernel_rfl) (by simp) ?_
        refine ReadyL.cons rfl (fun K hK => ?_) (ReadyL.cons rfl (fun K hK => ?_) ReadyL.nil)
        · go_simp
          obtain ⟨y333, g334, ey, eg, hS335, hb336, ho337, lt338⟩ := mk9 hS0
          rw [ey, eg]
          clear ey
          refine hK.out _ _ (fun _ => hS335) (fun _ => ?_)
          clear hK K eg
          refine readyL (rs := [8, 11]) (by kernel_rfl) (by simp) ?_
          refine ReadyL.cons rfl (fun K hK => ?_) (ReadyL.cons rfl (fun K hK => ?_) ReadyL.nil)
          · refine want (by rfl) ?_
            refine wp_app9 _ _ rfl yAa.heap.size g334 0 0 [] rfl ho337 hS335.size _ i L1b rfl (HTob.out y333 hS335) hl1b (by omega) ?_
            intro g340 cap341 y339 ho344 hg343
            rw [Nat.zero_add] at ho344 ⊢
            have hS342 : Below yAa.heap.size yAa y339 := hS335.grown hg343 hS335.size (fun k e => (ho337.lt k e).1)
            refine hK.out _ _ (fun _ => hS342) (fun _ => ?_)
            clear hK K
            refine readyL (rs := [11]) (by kernel_rfl) (by simp) ?_
            refine ReadyL.cons rfl (fun K hK => ?_) ReadyL.nil
            go_simp
            obtain ⟨y345, gh346, ey, eg, hS347, hb348, hr349, lt350⟩ := mks Sb hS342
            rw [ey, eg]
            clear ey
            have ho351 := own_past ho344 hb348
            refine hK.out _ _ (fun _ => hS347) (fun _ => ?_)
            clear hK K eg
            refine readyL (rs := [12]) (by kernel_rfl) (by simp) ?_
            refine ReadyL.cons rfl (fun K hK => ?_) ReadyL.nil
            refine want (by rfl) ?_
            refine wp_app9 _ _ rfl yAa.heap.size g340 i cap341 ([] ++ L1b) rfl ho351 hS347.size _ 1 [b] rfl (src_one9 (by rw [HSb.out]; exact hr349)) rfl (by omega) ?_
            intro g353 cap354 y352 ho357 hg356
            have hS355 : Below yAa.heap.size yAa y352 := hS347.grown hg356 hS347.size (fun k e => (ho351.lt k e).1)
            refine hK.out _ _ (fun _ => hS355) (fun _ => ?_)
            clear hK K
            refine readyL (rs := [19]) (by kernel_rfl) (by simp) ?_
            refine ReadyL.cons rfl (fun K hK => ?_) ReadyL.nil
            refine want (by rfl) ?_
            refine wp_app9 _ _ rfl yAa.heap.size g353 (i + 1) cap354 ([] ++ L1b ++ [b]) rfl ho357 hS355.size _ (r.length - i) L2b rfl (HFrb.out y352 hS355) hl2b (by omega) ?_
            intro g359 cap360 y358 ho363 hg362
            have hS361 : Below yAa.heap.size yAa y358 := hS355.grown hg362 hS355.size (fun k e => (ho357.lt k e).1)
            refine hK.out _ _ (fun _ => hS361) (fun _ => ?_)
            clear hK K
            refine readyL (rs := [20]) (by kernel_rfl) (by simp) ?_
            refine ReadyL.cons rfl (fun K hK => ?_) ReadyL.nil
            go_simp
            refine hK.out _ _ (fun _ => hS361) (fun _ => ?_)
            clear hK K
            refine readyL (rs := [21]) (by kernel_rfl) (by simp) ?_
            refine ReadyL.cons rfl (fun K hK => ?_) ReadyL.nil
            go_simp
            refine hK.out _ _ (fun _ => hS361) (fun _ => ?_)
            clear hK K
            refine readyL (rs := [22]) (by kernel_rfl) (by simp) ?_
            refine ReadyL.cons rfl (fun K hK => ?_) ReadyL.nil
            have cx := HCb.out y358 hS361
            have fx := HZb.out y358 hS361
            go_simp
            obtain ⟨yAb, eyA, hgAb, hcAb, hoAb, hkAb, hzAb, hfAb⟩ := half_of (.slice (some ⟨g359, 0, none⟩) (i + 1 + (r.length - i)) cap360) hS361 cx
            rw [eyA]
            clear eyA cx fx
            refine hK.out _ _ (fun h => absurd rfl h) (fun _ => ?_)
            clear hK K
            refine doneL (by kernel_rfl) ?_ _
            have hFin := HFIN.out yAa yAb y358 _ _ _ _ hgAa hcAa hoAa' hoY ho363 hS361 hgAb hcAb hoAb hkAb (fun j => (hfAb j).trans (HZb'.out _ hS361 j))
            obtain ⟨rZb, rYb, hE⟩ := hFin
            clear HFIN HCb HTob HFrb HV hgAa hcAa hoAa' hoY hgAb hcAb hoAb hkAb hzAb hfAb HZb HZb'
            go_wp2_with (first | (refine wpList_load_row rfl 35 _ rfl bh rfl 35 Lh.toArray (0, 0) _ rYb Try.underlying35 rfl hY ?_) | (refine wpList_store_row rfl 35 _ _ rfl w.heap.size Lh.toArray rfl rfl 35 z25.toArray rZb hY hYz hYo ?_))
            refine bodyPost_ret (v := .tuple #[.agg Lh.toArray, .int .i64 0]) (results11_row _ _ w.heap.size _ _ rfl rfl (setRow_heap yAb w.heap.size _ Lh.toArray 35 _ rZb) hY) rfl ?_
            exact hE
          · go_simp
            obtain ⟨y364, gh365, ey, eg, hS366, hb367, hr368, lt369⟩ := mks Sb hS335
            rw [ey, eg]
            clear ey
            have ho370 := own_past ho337 hb367
            have ne371 : gh365 ≠ g334 := by have := lt338; omega
            refine hK.out _ _ (fun _ => hS366) (fun _ => ?_)
            clear hK K eg
            refine readyL (rs := [8]) (by kernel_rfl) (by simp) ?_
            refine ReadyL.cons rfl (fun K hK => ?_) ReadyL.nil
            refine want (by rfl) ?_
            refine wp_app9 _ _ rfl yAa.heap.size g334 0 0 [] rfl ho370 hS366.size _ i L1b rfl (HTob.out y364 hS366) hl1b (by omega) ?_
            intro g373 cap374 y372 ho377 hg376
            rw [Nat.zero_add] at ho377 ⊢
            have hS375 : Below yAa.heap.size yAa y372 := hS366.grown hg376 hS366.size (fun k e => (ho370.lt k e).1)
            have hr378 := cell_grown hr368 hg376 ne371
            refine hK.out _ _ (fun _ => hS375) (fun _ => ?_)
            clear hK K
            refine readyL (rs := [12]) (by kernel_rfl) (by simp) ?_
            refine ReadyL.cons rfl (fun K hK => ?_) ReadyL.nil
            refine want (by rfl) ?_
            refine wp_app9 _ _ rfl yAa.heap.size g373 i cap374 ([] ++ L1b) rfl ho377 hS375.size _ 1 [b] rfl (src_one9 (by rw [HSb.out]; exact hr378)) rfl (by omega) ?_
            intro g380 cap381 y379 ho384 hg383
            have hS382 : Below yAa.heap.size yAa y379 := hS375.grown hg383 hS375.size (fun k e => (ho377.lt k e).1)
            refine hK.out _ _ (fun _ => hS382) (fun _ => ?_)
            clear hK K
            refine readyL (rs := [19]) (by kernel_rfl) (by simp) ?_
            refine ReadyL.cons rfl (fun K hK => ?_) ReadyL.nil
            refine want (by rfl) ?_
            refine wp_app9 _ _ rfl yAa.heap.size g380 (i + 1) cap381 ([] ++ L1b ++ [b]) rfl ho384 hS382.size _ (r.length - i) L2b rfl (HFrb.out y379 hS382) hl2b (by omega) ?_
            intro g386 cap387 y385 ho390 hg389
            have hS388 : Below yAa.heap.size yAa y385 := hS382.grown hg389 hS382.size (fun k e => (ho384.lt k e).1)
            refine hK.out _ _ (fun _ => hS388) (fun _ => ?_)
            clear hK K
            refine readyL (rs := [20]) (by kernel_rfl) (by simp) ?_
            refine ReadyL.cons rfl (fun K hK => ?_) ReadyL.nil
            go_simp
            refine hK.out _ _ (fun _ => hS388) (fun _ => ?_)
            clear hK K
            refine readyL (rs := [21]) (by kernel_rfl) (by simp) ?_
            refine ReadyL.cons rfl (fun K hK => ?_) ReadyL.nil
            go_simp
            refine hK.out _ _ (fun _ => hS388) (fun _ => ?_)
            clear hK K
            refine readyL (rs := [22]) (by kernel_rfl) (by simp) ?_
            refine ReadyL.cons rfl (fun K hK => ?_) ReadyL.nil
            have cx := HCb.out y385 hS388
            have fx := HZb.out y385 hS388
            go_simp
            obtain ⟨yAb, eyA, hgAb, hcAb, hoAb, hkAb, hzAb, hfAb⟩ := half_of (.slice (some ⟨g386, 0, none⟩) (i + 1 + (r.length - i)) cap387) hS388 cx
            rw [eyA]
            clear eyA cx fx
            refine hK.out _ _ (fun h => absurd rfl h) (fun _ => ?_)
            clear hK K
            refine doneL (by kernel_rfl) ?_ _
            have hFin := HFIN.out yAa yAb y385 _ _ _ _ hgAa hcAa hoAa' hoY ho390 hS388 hgAb hcAb hoAb hkAb (fun j => (hfAb j).trans (HZb'.out _ hS388 j))
            obtain ⟨rZb, rYb, hE⟩ := hFin
            clear HFIN HCb HTob HFrb HV hgAa hcAa hoAa' hoY hgAb hcAb hoAb hkAb hzAb hfAb HZb HZb'
            go_wp2_with (first | (refine wpList_load_row rfl 35 _ rfl bh rfl 35 Lh.toArray (0, 0) _ rYb Try.underlying35 rfl hY ?_) | (refine wpList_store_row rfl 35 _ _ rfl w.heap.size Lh.toArray rfl rfl 35 z25.toArray rZb hY hYz hYo ?_))
            refine bodyPost_ret (v := .tuple #[.agg Lh.toArray, .int .i64 0]) (results11_row _ _ w.heap.size _ _ rfl rfl (setRow_heap yAb w.heap.size _ Lh.toArray 35 _ rZb) hY) rfl ?_
            exact hE
        · go_simp
          obtain ⟨y391, gh392, ey, eg, hS393, hb394, hr395, lt396⟩ := mks Sb hS0
          rw [ey, eg]
          clear ey
          refine hK.out _ _ (fun _ => hS393) (fun _ => ?_)
          clear hK K eg
          refine readyL (rs := [1]) (by kernel_rfl) (by simp) ?_
          refine ReadyL.cons rfl (fun K hK => ?_) ReadyL.nil
          go_simp
          obtain ⟨y397, g398, ey, eg, hS399, hb400, ho401, lt402⟩ := mk9 hS393
          rw [ey, eg]
          clear ey
          have hr403 := cell_below hr395 hb400
          have ne404 : gh392 ≠ g398 := by have := lt396; omega
          refine hK.out _ _ (fun _ => hS399) (fun _ => ?_)
          clear hK K eg
          refine readyL (rs := [8]) (by kernel_rfl) (by simp) ?_
          refine ReadyL.cons rfl (fun K hK => ?_) ReadyL.nil
          refine want (by rfl) ?_
          refine wp_app9 _ _ rfl yAa.heap.size g398 0 0 [] rfl ho401 hS399.size _ i L1b rfl (HTob.out y397 hS399) hl1b (by omega) ?_
          intro g406 cap407 y405 ho410 hg409
          rw [Nat.zero_add] at ho410 ⊢
          have hS408 : Below yAa.heap.size yAa y405 := hS399.grown hg409 hS399.size (fun k e => (ho401.lt k e).1)
          have hr411 := cell_grown hr403 hg409 ne404
          refine hK.out _ _ (fun _ => hS408) (fun _ => ?_)
          clear hK K
          refine readyL (rs := [12]) (by kernel_rfl) (by simp) ?_
          refine ReadyL.cons rfl (fun K hK => ?_) ReadyL.nil
          refine want (by rfl) ?_
          refine wp_app9 _ _ rfl yAa.heap.size g406 i cap407 ([] ++ L1b) rfl ho410 hS408.size _ 1 [b] rfl (src_one9 (by rw [HSb.out]; exact hr411)) rfl (by omega) ?_
          intro g413 cap414 y412 ho417 hg416
          have hS415 : Below yAa.heap.size yAa y412 := hS408.grown hg416 hS408.size (fun k e => (ho410.lt k e).1)
          refine hK.out _ _ (fun _ => hS415) (fun _ => ?_)
          clear hK K
          refine readyL (rs := [19]) (by kernel_rfl) (by simp) ?_
          refine ReadyL.cons rfl (fun K hK => ?_) ReadyL.nil
          refine want (by rfl) ?_
          refine wp_app9 _ _ rfl yAa.heap.size g413 (i + 1) cap414 ([] ++ L1b ++ [b]) rfl ho417 hS415.size _ (r.length - i) L2b rfl (HFrb.out y412 hS415) hl2b (by omega) ?_
          intro g419 cap420 y418 ho423 hg422
          have hS421 : Below yAa.heap.size yAa y418 := hS415.grown hg422 hS415.size (fun k e => (ho417.lt k e).1)
          refine hK.out _ _ (fun _ => hS421) (fun _ => ?_)
          clear hK K
          refine readyL (rs := [20]) (by kernel_rfl) (by simp) ?_
          refine ReadyL.cons rfl (fun K hK => ?_) ReadyL.nil
          go_simp
          refine hK.out _ _ (fun _ => hS421) (fun _ => ?_)
          clear hK K
          refine readyL (rs := [21]) (by kernel_rfl) (by simp) ?_
          refine ReadyL.cons rfl (fun K hK => ?_) ReadyL.nil
          go_simp
          refine hK.out _ _ (fun _ => hS421) (fun _ => ?_)
          clear hK K
          refine readyL (rs := [22]) (by kernel_rfl) (by simp) ?_
          refine ReadyL.cons rfl (fun K hK => ?_) ReadyL.nil
          have cx := HCb.out y418 hS421
          have fx := HZb.out y418 hS421
          go_simp
          obtain ⟨yAb, eyA, hgAb, hcAb, hoAb, hkAb, hzAb, hfAb⟩ := half_of (.slice (some ⟨g419, 0, none⟩) (i + 1 + (r.length - i)) cap420) hS421 cx
          rw [eyA]
          clear eyA cx fx
          refine hK.out _ _ (fun h => absurd rfl h) (fun _ => ?_)
          clear hK K
          refine doneL (by kernel_rfl) ?_ _
          have hFin := HFIN.out yAa yAb y418 _ _ _ _ hgAa hcAa hoAa' hoY ho423 hS421 hgAb hcAb hoAb hkAb (fun j => (hfAb j).trans (HZb'.out _ hS421 j))
          obtain ⟨rZb, rYb, hE⟩ := hFin
          clear HFIN HCb HTob HFrb HV hgAa hcAa hoAa' hoY hgAb hcAb hoAb hkAb hzAb hfAb HZb HZb'
          go_wp2_with (first | (refine wpList_load_row rfl 35 _ rfl bh rfl 35 Lh.toArray (0, 0) _ rYb Try.underlying35 rfl hY ?_) | (refine wpList_store_row rfl 35 _ _ rfl w.heap.size Lh.toArray rfl rfl 35 z25.toArray rZb hY hYz hYo ?_))
          refine bodyPost_ret (v := .tuple #[.agg Lh.toArray, .int .i64 0]) (results11_row _ _ w.heap.size _ _ rfl rfl (setRow_heap yAb w.heap.size _ Lh.toArray 35 _ rZb) hY) rfl ?_
          exact hE
    · have hroom2 : (room : Int) ≤ (r.length : Int) := by omega
      have HE : Hid (∀ n, RPut O w xb room r h b (.returned (.tuple #[.agg z25.toArray, .int .i64 12])) ((w3.drewN n).setRow w.heap.size z25.toArray)) := fun n => .full HIN.out hroom rfl (below_setRow (below_drewN hw3 n) (Nat.le_refl _) _)
      have rZn : ∀ n, (w3.drewN n).heap[w.heap.size]? = some (.cells z25.toArray 35 (0, 0)) := fun n => rZ
      clear HSP
      go_wp2_with fail
      go_quiet (fail)
      go_wp2_with (first | (refine wpList_store_row rfl 35 _ _ rfl w.heap.size z25.toArray rfl rfl 35 z25.toArray (rZn _) hz rfl hZo ?_))
      refine bodyPost_ret (v := .tuple #[.agg z25.toArray, _]) (results11_row _ _ w.heap.size _ _ rfl rfl (setRow_heap _ w.heap.size _ z25.toArray 35 _ (rZn _)) hz) rfl ?_
      exact HE.out _
end Go.Proofs.Ytjnogpcpekheoaa
