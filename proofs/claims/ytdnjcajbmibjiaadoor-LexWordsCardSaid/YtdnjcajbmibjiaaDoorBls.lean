/-
  LexBlanks.
-/
import Derived.Test.YtdnjcajbmibjiaaDoorBmt
import Derived.Test.YtdnjcajbmibjiaaDoorSli
namespace Go.Proofs.YtdnjcajbmibjiaaDoor
open Go.RowKit

theorem place_of (i : Int) (n : Nat) (hn : 1 ≤ n) : ∃ (r : Int) (k : Nat), i.tmod (n : Int) = r ∧ -(n : Int) < r ∧ r < (n : Int) ∧ (r + (n : Int)) % (n : Int) = (k : Int) ∧ k < n := by
  refine ⟨_, ((i.tmod (n : Int) + (n : Int)) % (n : Int)).toNat, rfl, ?_, ?_, ?_, ?_⟩
  · have h1 : (i.tmod (n : Int)).natAbs = i.natAbs % n := by simp [Int.natAbs_tmod]
    have h2 : i.natAbs % n < n := Nat.mod_lt _ (by omega)
    omega
  · exact Int.tmod_lt_of_pos _ (by omega)
  · have := Int.emod_nonneg (i.tmod (n : Int) + (n : Int)) (b := (n : Int)) (by omega)
    omega
  · have := Int.emod_lt_of_pos (i.tmod (n : Int) + (n : Int)) (b := (n : Int)) (by omega)
    have := Int.emod_nonneg (i.tmod (n : Int) + (n : Int)) (b := (n : Int)) (by omega)
    omega
/-- The gap of a number. -/
def gapOf (x : Int) : List UInt8 := gapsL.getD ((x.tmod 5 + 5) % 5).toNat []
def gapN (ns : List Int) (j : Nat) : List UInt8 := gapOf (ns.getD j 0)
theorem gapOf_mem (x : Int) : gapOf x ∈ gapsL := by
  obtain ⟨r, k, h1, _, _, h4, h5⟩ := place_of x 5 (by omega)
  have h1' : x.tmod 5 = r := h1
  have h4' : (r + 5) % 5 = (k : Int) := h4
  unfold gapOf
  rw [h1', h4', Int.toNat_natCast, List.getD, List.getElem?_eq_getElem (show k < gapsL.length from h5)]
  exact List.getElem_mem _
theorem gaps_row (w : World) : Row (w.alloc (.cells #[.string ⟨#[32]⟩, .string ⟨#[10]⟩, .string ⟨#[9, 32]⟩, .string ⟨#[32, 47, 47, 32, 97, 32, 39, 98, 10]⟩, .string ⟨#[47, 47, 10, 47, 47, 10]⟩] 9)) w.heap.size 9 (gapsL.map fun x => .string (str x)) := Row.new w 9 _
theorem gaps_at (k : Nat) (h : k < 5) : (gapsL.map fun x => Value.string (str x))[k]? = some (.string (str (gapsL.getD k []))) := by
  have : k < gapsL.length := h
  simp [List.getD, List.getElem?_eq_getElem this]
theorem catN_three (G : Nat → List UInt8) (T : List Tok) (k : Nat) (t : Tok) (h : T.getD k (endTok 0) = t) (h3 : t.kind = 3) : catN G T (k + 1) = catN G T k ++ G k ++ [39] ++ t.text := by
  simp only [catN, h, rawOf, if_pos h3, List.append_assoc]
  rfl
theorem catN_other (G : Nat → List UInt8) (T : List Tok) (k : Nat) (t : Tok) (h : T.getD k (endTok 0) = t) (h3 : ¬ t.kind = 3) : catN G T (k + 1) = catN G T k ++ G k ++ t.text := by
  simp only [catN, h, rawOf, if_neg h3]

set_option maxHeartbeats 16000000 in
set_option maxRecDepth 20000 in
theorem blanks_ok (l : List UInt8) (hl : l.length ≤ 1000) (w : World) (hg : Glob w) (v : Value) (ns : List Int) (hns : Ns w v ns) (T : List Tok) (hT : lexF l = (T, none)) :
    Calls Tryd.prog 7 #[.string (str l), v] w fun ev w' => ev = .returned (.bool true) ∧ Below w.heap.size w w' := by
  have hsz := str_size l
  have CT : Hid (∀ y, Below w.heap.size w y → Calls Tryd.prog 11 #[] y fun ev w' => ev = .returned (.bool true) ∧ Below y.heap.size y w') := fun y hy => told_any y (hg.below hy)
  have hlen : T.length ≤ l.length + 1 := by have := lex_len l; rw [hT] at this; exact this
  have hsl := skp_le false l
  obtain ⟨T0, q, hT0, hTk⟩ := lxr_inits 1000 _ _ _ T (show (l.drop (skp false l)).length ≤ 1000 by rw [List.length_drop]; omega) (by rw [← lexF_start]; exact hT)
  have hT1 : T.length = T0.length + 1 := by rw [hT0]; simp
  have L := lex_toks l (by omega) T hT (by omega) w hg
  have hG : ∀ j, gapN ns j ∈ gapsL := fun j => gapOf_mem _
  obtain ⟨M, hM, hM1, hM2⟩ := catN_lex (gapN ns) 1000 T0 q hG hTk
  have hcl : ∀ i, i ≤ T0.length → (catN (gapN ns) T i).length ≤ i * 1009 := fun i hi => by
    rw [hT0]
    exact catN_len (gapN ns) 1000 T0 _ (fun j => (gap_ok _ (hG j) []).2.2) hTk i hi
  rw [← hT0] at hM hM2
  have hcl2 : (catN (gapN ns) T T0.length).length ≤ 1009000 := by
    have h1 := hcl T0.length (Nat.le_refl _)
    have h2 : T0.length * 1009 ≤ 1000 * 1009 := Nat.mul_le_mul_right _ (by omega)
    omega
  have HL : Hid (∀ i, i ≤ T0.length → (catN (gapN ns) T i).length ≤ 1009000) := fun i hi => by
    have h1 := hcl i hi
    have h2 : i * 1009 ≤ 1000 * 1009 := Nat.mul_le_mul_right _ (by omega)
    omega
  have L2 : Hid (∀ y, Below w.heap.size w y → Calls Tryd.prog 10 #[.string (str (catN (gapN ns) T T0.length ++ [10]))] y fun ev w' => ∃ b' cap, ev = .returned (.tuple #[.slice (some ⟨b', 0, none⟩) (T0.length + 1) cap, .nilIface]) ∧ Ts w' (.slice (some ⟨b', 0, none⟩) (T0.length + 1) cap) M ∧ Below y.heap.size y w') := fun y hy => by
    have := lex_toks _ (by rw [List.length_append]; simp only [List.length_cons, List.length_nil]; omega) M hM (by omega) y (hg.below hy)
    rw [hM1] at this
    exact this.mono fun ev w' ⟨b', cap, e, h1, _, h3⟩ => ⟨b', cap, e, h1, h3⟩
  have HM : Hid (∀ (i : Nat), i < T0.length + 1 → ∃ t u : Tok, M[i]? = some t ∧ T[i]? = some u ∧ t.kind = u.kind ∧ t.text = u.text) := fun i hi => by
    obtain ⟨t, ht⟩ := tok_at M i (by omega)
    obtain ⟨u, hu⟩ := tok_at T i (by omega)
    exact ⟨t, u, ht, hu, hM2 i t u ht hu⟩
  have HTk : Hid (∀ k, k < T0.length → ∃ t, T[k]? = some t ∧ T.getD k (endTok 0) = t ∧ t.text.length ≤ 1000) := fun k hk => by
    obtain ⟨t, ht⟩ := tok_at T k (by omega)
    refine ⟨t, ht, by rw [List.getD, ht]; rfl, ?_⟩
    have h2 : T0[k]? = some t := by rw [hT0, List.getElem?_append_left hk] at ht; exact ht
    have h3 := (hTk t (List.mem_of_getElem? h2)).1
    unfold rawOf at h3
    split at h3
    · simp only [List.length_cons] at h3; omega
    · exact h3
  rw [hT1] at L
  have ia : ¬ (1000 : Int) < (l.length : Int) := by omega
  obtain ⟨n0, hn0⟩ : ∃ n0, n0 = T0.length := ⟨_, rfl⟩
  rw [← hn0] at L L2 HM HTk HL
  have hn0b : n0 ≤ 1000 := by omega
  obtain ⟨ao, nc, rfl, hncap, hcells⟩ := hns.shape
  have hnsm := hns.small
  have HNs : Hid (∀ y, Below w.heap.size w y → Ns y (.slice ao ns.length nc) ns) := fun y hy => hns.below hy
  clear hg hT hT0 hTk hT1 hM hM1 hM2 hcl hcl2 hG hlen hsl hn0 hns hcells
  generalize str l = S at *
  go_enter Tryd.func7, Tryd.ntmps7
  go_wp2_with fail
  refine L.mono ?_
  rintro ev w1 ⟨b, cap, rfl, hs, hcap, hb1⟩
  have HT : Hid (∀ y, Below w1.heap.size w1 y → Ts y (.slice (some ⟨b, 0, none⟩) (n0 + 1) cap) T) := fun y hy => hs.below hy
  have HB1 : Hid (Below w.heap.size w w1) := hb1
  clear L hs hb1
  go_wp2_with fail
  go_loopw [7, 8] (fun t i wr => ∃ k : Nat, k ≤ n0 ∧ t = .string (str (catN (gapN ns) T k)) ∧ i = .int .i64 (k : Int) ∧ Below w1.heap.size w1 wr) (fun _ i _ => n0 - (intOf i).toNat)
  case atStart => exact ⟨0, by omega, rfl, rfl, Below.refl _ _⟩
  case round =>
    obtain ⟨k, hk, rfl, rfl, hb⟩ := hrel
    have HB : Hid (Below w1.heap.size w1 wr) := hb
    have hcl := HL.out k hk
    by_cases h3 : k < n0
    · have l1 : (k : Int) + 1 < (n0 : Int) + 1 := by omega
      obtain ⟨t, ht1, ht2, ht3⟩ := HTk.out k h3
      have hclN := HL.out (k + 1) (by omega)
      have HBW : Hid (Below w1.heap.size w1 (wr.alloc (.cells #[.string ⟨#[32]⟩, .string ⟨#[10]⟩, .string ⟨#[9, 32]⟩, .string ⟨#[32, 47, 47, 32, 97, 32, 39, 98, 10]⟩, .string ⟨#[47, 47, 10, 47, 47, 10]⟩] 9))) := hb.alloc hb.size _
      have x0 : ∀ o, (wr.alloc o).cell? ⟨b, k * 3, none⟩ = some (.int .i64 (t.kind : Int)) := fun o => ((HT.out _ (hb.alloc hb.size o)).three k t ht1).1
      have x1 : ∀ o, (wr.alloc o).cell? ⟨b, k * 3 + 1, none⟩ = some (.string (str t.text)) := fun o => ((HT.out _ (hb.alloc hb.size o)).three k t ht1).2.1
      obtain ⟨r, c, f1, f2, f3, f4, f5⟩ := place_of (ns.getD k 0) 5 (by omega)
      have f1' : (ns.getD k 0).tmod 5 = r := f1
      have f4' : (r + 5) % 5 = (c : Int) := f4
      have hgk : gapN ns k = gapsL.getD c [] := by unfold gapN gapOf; rw [f1', f4', Int.toNat_natCast]
      have g0 : (wr.alloc (.cells #[.string ⟨#[32]⟩, .string ⟨#[10]⟩, .string ⟨#[9, 32]⟩, .string ⟨#[32, 47, 47, 32, 97, 32, 39, 98, 10]⟩, .string ⟨#[47, 47, 10, 47, 47, 10]⟩] 9)).cell? ⟨wr.heap.size, c, none⟩ = some (.string (str (gapN ns k))) := by rw [hgk]; exact ((gaps_row wr).cell c).trans (gaps_at c f5)
      have hgl := (gap_ok _ (gapOf_mem (ns.getD k 0)) []).2.2
      have c1 : str (catN (gapN ns) T k) ++ str (gapN ns k) = str (catN (gapN ns) T k ++ gapN ns k) := str_app _ _
      have z1 := str_size (catN (gapN ns) T k)
      have z2 := str_size (gapN ns k)
      have z3 := str_size t.text
      have z4 := str_size (catN (gapN ns) T k ++ gapN ns k)
      rw [List.length_append] at z4
      have hgl' : (gapN ns k).length ≤ 9 := hgl
      have i5 : (c : Int) < 5 := by omega
      clear f1 f4 hgk hgl f5
      by_cases h7 : k < ns.length
      · have l7 : (k : Int) < (ns.length : Int) := by omega
        obtain ⟨ao', nc', e, -, hcells⟩ := (HNs.out wr (nextB HB1.out hb)).shape
        injection e with e1 e2 e3
        subst e1
        obtain ⟨bn, off, rfl, hcn⟩ := hcells k h7
        clear hcells e2 e3
        have hcn' : ∀ o, (wr.alloc o).cell? ⟨bn, off + k, none⟩ = some (.int .i64 (ns.getD k 0)) := fun o => by
          obtain ⟨ao2, nc2, e, -, hc2⟩ := (HNs.out _ (nextB HB1.out (hb.alloc hb.size o))).shape
          injection e with e1 e2 e3
          subst e1
          obtain ⟨b2, off2, e4, hcn2⟩ := hc2 k h7
          injection e4 with e4
          injection e4 with e5 e6
          subst e5 e6
          exact hcn2
        clear h7
        generalize ns.getD k 0 = x at *
        by_cases h6 : t.kind = 3
        · skip
          have e1 := catN_three (gapN ns) T k t ht2 h6
          have c2 : str (catN (gapN ns) T k ++ gapN ns k) ++ ⟨#[39]⟩ = str (catN (gapN ns) T k ++ gapN ns k ++ [39]) := str_app _ [39]
          have c3 : str (catN (gapN ns) T k ++ gapN ns k ++ [39]) ++ str t.text = str (catN (gapN ns) T (k + 1)) := by rw [e1]; exact str_app _ _
          have z5 := str_size (catN (gapN ns) T k ++ gapN ns k ++ [39])
          rw [List.length_append, List.length_append] at z5
          simp only [List.length_cons, List.length_nil, Nat.zero_add] at z5
          rw [h6] at x0
          clear e1 h6
          generalize str (catN (gapN ns) T k ++ gapN ns k ++ [39]) = S3 at *
          clear ht1 ht2 hb HTk HL L2 HM HT HNs
          obtain ⟨S4, hS4⟩ : ∃ S4, S4 = str (catN (gapN ns) T (k + 1)) := ⟨_, rfl⟩
          have HS4 : Hid (S4 = str (catN (gapN ns) T (k + 1))) := hS4
          rw [← hS4] at c3
          clear hS4
          generalize str (catN (gapN ns) T k ++ gapN ns k) = S2 at *
          generalize str (catN (gapN ns) T k) = SA at *
          generalize (catN (gapN ns) T k).length = la at *
          generalize (catN (gapN ns) T (k + 1)).length = lb at *
          generalize str (gapN ns k) = SG at *
          generalize (gapN ns k).length = lg at *
          generalize str t.text = ST at *
          generalize t.text.length = lt at *
          go_wp2_with fail
          go_roundw
          case rel => exact ⟨k + 1, by omega, by rw [HS4.out], by go_num, HBW.out⟩
          case measure => simp [intOf]; omega
        · skip
          have e1 := catN_other (gapN ns) T k t ht2 h6
          have c3 : str (catN (gapN ns) T k ++ gapN ns k) ++ str t.text = str (catN (gapN ns) T (k + 1)) := by rw [e1]; exact str_app _ _
          have h6i : (t.kind : Int) ≠ 3 := by omega
          have h6' : ((t.kind : Int) == 3) = false := by rw [beq_eq_false_iff_ne]; exact h6i
          clear e1 h6
          generalize t.kind = tk at *
          clear ht1 ht2 hb HTk HL L2 HM HT HNs
          obtain ⟨S4, hS4⟩ : ∃ S4, S4 = str (catN (gapN ns) T (k + 1)) := ⟨_, rfl⟩
          have HS4 : Hid (S4 = str (catN (gapN ns) T (k + 1))) := hS4
          rw [← hS4] at c3
          clear hS4
          generalize str (catN (gapN ns) T k ++ gapN ns k) = S2 at *
          generalize str (catN (gapN ns) T k) = SA at *
          generalize (catN (gapN ns) T k).length = la at *
          generalize (catN (gapN ns) T (k + 1)).length = lb at *
          generalize str (gapN ns k) = SG at *
          generalize (gapN ns k).length = lg at *
          generalize str t.text = ST at *
          generalize t.text.length = lt at *
          go_wp2_with fail
          go_roundw
          case rel => exact ⟨k + 1, by omega, by rw [HS4.out], by go_num, HBW.out⟩
          case measure => simp [intOf]; omega
      · have l7 : ¬ (k : Int) < (ns.length : Int) := by omega
        have hx0 : ns.getD k 0 = 0 := by rw [List.getD, List.getElem?_eq_none (by omega)]; rfl
        rw [hx0] at f1'
        replace f1' : (0 : Int) = r := f1'
        subst f1'
        have hc0 : c = 0 := by simp at f4'; omega
        subst hc0
        clear h7 hx0 f2 f3 f4'
        by_cases h6 : t.kind = 3
        · skip
          have e1 := catN_three (gapN ns) T k t ht2 h6
          have c2 : str (catN (gapN ns) T k ++ gapN ns k) ++ ⟨#[39]⟩ = str (catN (gapN ns) T k ++ gapN ns k ++ [39]) := str_app _ [39]
          have c3 : str (catN (gapN ns) T k ++ gapN ns k ++ [39]) ++ str t.text = str (catN (gapN ns) T (k + 1)) := by rw [e1]; exact str_app _ _
          have z5 := str_size (catN (gapN ns) T k ++ gapN ns k ++ [39])
          rw [List.length_append, List.length_append] at z5
          simp only [List.length_cons, List.length_nil, Nat.zero_add] at z5
          rw [h6] at x0
          clear e1 h6
          generalize str (catN (gapN ns) T k ++ gapN ns k ++ [39]) = S3 at *
          clear ht1 ht2 hb HTk HL L2 HM HT HNs
          obtain ⟨S4, hS4⟩ : ∃ S4, S4 = str (catN (gapN ns) T (k + 1)) := ⟨_, rfl⟩
          have HS4 : Hid (S4 = str (catN (gapN ns) T (k + 1))) := hS4
          rw [← hS4] at c3
          clear hS4
          generalize str (catN (gapN ns) T k ++ gapN ns k) = S2 at *
          generalize str (catN (gapN ns) T k) = SA at *
          generalize (catN (gapN ns) T k).length = la at *
          generalize (catN (gapN ns) T (k + 1)).length = lb at *
          generalize str (gapN ns k) = SG at *
          generalize (gapN ns k).length = lg at *
          generalize str t.text = ST at *
          generalize t.text.length = lt at *
          go_wp2_with fail
          go_roundw
          case rel => exact ⟨k + 1, by omega, by rw [HS4.out], by go_num, HBW.out⟩
          case measure => simp [intOf]; omega
        · skip
          have e1 := catN_other (gapN ns) T k t ht2 h6
          have c3 : str (catN (gapN ns) T k ++ gapN ns k) ++ str t.text = str (catN (gapN ns) T (k + 1)) := by rw [e1]; exact str_app _ _
          have h6i : (t.kind : Int) ≠ 3 := by omega
          have h6' : ((t.kind : Int) == 3) = false := by rw [beq_eq_false_iff_ne]; exact h6i
          clear e1 h6
          generalize t.kind = tk at *
          clear ht1 ht2 hb HTk HL L2 HM HT HNs
          obtain ⟨S4, hS4⟩ : ∃ S4, S4 = str (catN (gapN ns) T (k + 1)) := ⟨_, rfl⟩
          have HS4 : Hid (S4 = str (catN (gapN ns) T (k + 1))) := hS4
          rw [← hS4] at c3
          clear hS4
          generalize str (catN (gapN ns) T k ++ gapN ns k) = S2 at *
          generalize str (catN (gapN ns) T k) = SA at *
          generalize (catN (gapN ns) T k).length = la at *
          generalize (catN (gapN ns) T (k + 1)).length = lb at *
          generalize str (gapN ns k) = SG at *
          generalize (gapN ns k).length = lg at *
          generalize str t.text = ST at *
          generalize t.text.length = lt at *
          go_wp2_with fail
          go_roundw
          case rel => exact ⟨k + 1, by omega, by rw [HS4.out], by go_num, HBW.out⟩
          case measure => simp [intOf]; omega
    · obtain rfl : k = n0 := by omega
      have l1 : ¬ (k : Int) + 1 < (k : Int) + 1 := by omega
      have c1 : str (catN (gapN ns) T k) ++ ⟨#[10]⟩ = str (catN (gapN ns) T k ++ [10]) := str_app _ [10]
      have z1 := str_size (catN (gapN ns) T k)
      have HB2 : Hid (Below w.heap.size w wr) := nextB HB1.out hb
      clear hb HTk HL HNs
      generalize str (catN (gapN ns) T k ++ [10]) = SB at *
      generalize str (catN (gapN ns) T k) = SA at *
      generalize (catN (gapN ns) T k).length = la at *
      go_wp2_with fail
      refine (L2.out _ HB2.out).mono ?_
      rintro ev w5 ⟨bm, cm, rfl, hsm, hb5⟩
      have HT5 : Hid (∀ y, Below w5.heap.size w5 y → Ts y (.slice (some ⟨b, 0, none⟩) (k + 1) cap) T ∧ Ts y (.slice (some ⟨bm, 0, none⟩) (k + 1) cm) M) := fun y hy => ⟨HT.out y ((nextB HB.out hb5).trans (hy.mono (nextB HB.out hb5).size)), hsm.below hy⟩
      have HB5 : Hid (Below w.heap.size w w5) := nextB HB2.out hb5
      clear hsm hb5 L2 HT
      go_wp2_with fail
      rename World => wA
      go_loopw [12] (fun t wr => ∃ j : Nat, j ≤ k + 1 ∧ t = .int .i64 (j : Int) ∧ Below wA.heap.size wA wr) (fun t _ => k + 1 - (intOf t).toNat)
      case atStart => exact ⟨0, by omega, rfl, Below.refl _ _⟩
      case round =>
        obtain ⟨j, hj, rfl, hb⟩ := hrel
        have HB7 : Hid (Below wA.heap.size wA wr) := hb
        by_cases h5 : j < k + 1
        · have l2 : (j : Int) < (k : Int) + 1 := by omega
          obtain ⟨t, u, ht, hu, hk1, hk2⟩ := HM.out j h5
          obtain ⟨x0, x1, -⟩ := (HT5.out wr hb).1.three j u hu
          obtain ⟨y0, y1, -⟩ := (HT5.out wr hb).2.three j t ht
          rw [hk1] at y0
          rw [hk2] at y1
          clear ht hu hk1 hk2 hb HM HT5 hcl
          generalize str u.text = S1 at *
          generalize u.kind = tk at *
          go_wp2_with fail
          go_quiet (fail)
          go_wp2_with fail
          go_roundw
          case rel => exact ⟨j + 1, by omega, by go_num, below_drewN HB7.out _⟩
          case measure => simp [intOf]; omega
        · obtain rfl : j = k + 1 := by omega
          have l2 : ¬ (k : Int) + 1 < (k : Int) + 1 := by omega
          have HB8 : Hid (Below w.heap.size w wr) := nextB HB5.out hb
          clear hb HM HT5
          go_wp2_with fail
          refine (CT.out _ HB8.out).mono ?_
          rintro ev w9 ⟨rfl, hb9⟩
          go_wp2_with fail
          go_ret
          exact ⟨rfl, nextB HB8.out hb9⟩

set_option maxHeartbeats 4000000 in
theorem blanks_walk (l : List UInt8) (v : Value) (ns : List Int) (hl : l.length ≤ 9223372036854775807) (w : World) (hg : Glob w) (hns : Ns w v ns) : Calls Tryd.prog 7 #[.string (str l), v] w fun ev w' => ev = .returned (.bool true) ∧ Below w.heap.size w w' := by
  have hsz := str_size l
  have CT : Hid (∀ y, Below w.heap.size w y → Calls Tryd.prog 11 #[] y fun ev w' => ev = .returned (.bool true) ∧ Below y.heap.size y w') := fun y hy => told_any y (hg.below hy)
  by_cases h : 1000 < l.length
  · have h' : (1000 : Int) < (l.length : Int) := by omega
    obtain ⟨ao, nc, rfl, -, -⟩ := hns.shape
    clear hg hns
    generalize str l = S at *
    generalize l.length = n at *
    go_enter Tryd.func7, Tryd.ntmps7
    go_wp2_with fail
    refine (CT.out _ (Below.refl _ _)).mono ?_
    rintro ev w1 ⟨rfl, hb1⟩
    go_wp2_with fail
    go_ret
    exact ⟨rfl, hb1⟩
  · cases hx : lexF l with
    | mk T o =>
      cases o with
      | none => exact blanks_ok l (by omega) w hg v ns hns T hx
      | some p =>
        have h' : ¬ (1000 : Int) < (l.length : Int) := by omega
        have L := lex_bad l (by omega) p (by rw [hx]) w hg
        obtain ⟨ao, nc, rfl, -, -⟩ := hns.shape
        clear hx hg hns
        generalize str l = S at *
        generalize l.length = n at *
        go_enter Tryd.func7, Tryd.ntmps7
        go_wp2_with fail
        refine L.mono ?_
        rintro ev w1 ⟨e, rfl, hE, hb1⟩
        obtain ⟨b0, rfl, -⟩ := hE.shape
        clear L hE
        go_wp2_with fail
        refine (CT.out _ hb1).mono ?_
        rintro ev w2 ⟨rfl, hb2⟩
        go_wp2_with fail
        go_ret
        exact ⟨rfl, nextB hb1 hb2⟩
end Go.Proofs.YtdnjcajbmibjiaaDoor
