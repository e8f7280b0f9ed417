/-
  The document's own made, of a proof of the right form.
-/
import Derived.Test.YtfkibbpekngciaaJoinFew3xEx
namespace Go.Proofs.Ytfkibbpekngciaa
open Go.RowKit

theorem Tx.lower {B B' : Nat} {v : Value} {T : List Bys} {w : World} (h : Tx B v T w) (hB : B' ≤ B) : Tx B' v T w := by
  obtain ⟨vs, ho, he⟩ := h.st
  exact ⟨vs, own_lower' ho hB, fun j hj => by
    obtain ⟨ao, cap, h1, h2⟩ := he j hj
    exact ⟨ao, cap, h1, own_lower' h2 hB⟩⟩
set_option maxHeartbeats 4000000 in
set_option maxRecDepth 20000 in
theorem made_yes (F : Bys → Bys) (E : Env2 F) (w : World) (bv pv : Value) (b : Bys) (i n : Nat) (P : List Bys) (hb : Sl w bv b) (hbl : b.length ≤ 1000) (hi : i < n) (hn : n ≤ 9223372036854775807) (hP : Hs w pv P) (hlen : (lefts i n).length = P.length) :
    Calls Try.prog 32 #[bv, .agg #[.int .i64 (i : Int), .int .i64 (n : Int), pv]] w fun ev w' => ∃ tv, ev = .returned (.tuple #[tv, .bool true]) ∧ Tx w.heap.size tv (texts F b i n P) w' ∧ Below w.heap.size w w' := by
  obtain ⟨ap, cpp, rfl⟩ := hP.slice
  have hA := new_below w (.cells #[.int .i64 (i : Int), .int .i64 (n : Int), .slice ap P.length cpp] 30)
  have R0 : Row (w.alloc (.cells #[.int .i64 (i : Int), .int .i64 (n : Int), .slice ap P.length cpp] 30)) w.heap.size 30 [.int .i64 (i : Int), .int .i64 (n : Int), .slice ap P.length cpp] := Row.new w 30 _
  have HS := sides_any (w.alloc (.cells #[.int .i64 (i : Int), .int .i64 (n : Int), .slice ap P.length cpp] 30)) n i hi hn
  rw [hlen] at HS
  have HA : Hid (Below w.heap.size w (w.alloc (.cells #[.int .i64 (i : Int), .int .i64 (n : Int), .slice ap P.length cpp] 30))) := hA
  have h1 : (i : Int) < (n : Int) := by omega
  have h2 : ((i : Int) < 0) = False := by simp
  have hP64 : P.length ≤ 64 := by
    rw [← hlen]; unfold lefts; have := downs_64 i n hn; simp; omega
  have HT : Hid (texts F b i n P = climb F (0 :: b) ((lefts i n).zip P) ++ [rootT n (F (lastT (climb F (0 :: b) ((lefts i n).zip P))))]) := rfl
  have HSB : Hid (Sl w bv b) := hb
  have HHP : Hid (Hs w (.slice ap P.length cpp) P) := hP
  clear hA hP hb
  generalize lefts i n = bs at *
  go_enter Try.func32, Try.ntmps32
  go_wp2_with (first
    | (go_at_call 50; refine HS.mono ?_; rintro ev w2 ⟨v2, rfl, ho2, hb2⟩; obtain ⟨a2, c2, rfl⟩ := own_shape' ho2; have R2 := R0.below hb2 R0.lt; have q2 := R2.cell 2; simp only [List.getElem?_cons_zero, List.getElem?_cons_succ] at q2; have hB2 := nextB HA.out hb2; have HL := xleaf_any w2 bv b (HSB.out.below hB2) (by omega))
    | (go_at_call 42; refine HL.mono ?_; rintro ev w4 ⟨v4, rfl, ho4, hb4⟩; obtain ⟨a4, c4, rfl⟩ := own_shape ho4; have HTx : Hid _ := Tx.one hb4.size ho4; have HB4 : Hid _ := hb4.alloc hb4.size (.cells #[.slice a4 (0 :: b).length c4] 39); clear ho4 hb4 q2))
  have HR2 : Hid (Row w2 w.heap.size 30 [.int .i64 (i : Int), .int .i64 (n : Int), .slice ap P.length cpp]) := R2
  have HB2 : Hid (Below w.heap.size w w2) := hB2
  have HO2 : Hid (∀ k y, k < P.length → Below w2.heap.size w2 y → ∃ gb, a2 = some ⟨gb, 0, none⟩ ∧ P.length ≤ c2 ∧ y.cell? ⟨gb, k, none⟩ = some (.bool (!bs.getD k false))) := fun k y hk hy => by
    rcases (own_past' ho2 hy).2 with ⟨_, h0⟩ | ⟨g, cap, cur, e, _, _, hc, _⟩
    · omega
    · cases e
      refine ⟨g, rfl, hc, ?_⟩
      rw [(own_past' ho2 hy).cellAt k (by omega), bos_get _ k (by simp; omega)]
      simp [List.getD, List.getElem?_eq_getElem (show k < bs.length by omega)]
  have HB4' : Hid (Below w2.heap.size w2 (w4.alloc (.cells #[.slice a4 (0 :: b).length c4] 39))) := HB4.out
  clear R0 HS HA ho2 hb2 hB2 HL HB4 R2
  go_loopw [7, 8] (fun tv iv wr => ∃ k : Nat, k ≤ P.length ∧ iv = .int .i64 (k : Int) ∧ Tx w2.heap.size tv (climb F (0 :: b) ((bs.zip P).take k)) wr ∧ Below w2.heap.size w2 wr) (fun _ iv _ => P.length - (intOf iv).toNat)
  case atStart => exact ⟨0, by omega, rfl, HTx.out, HB4'.out⟩
  case round =>
    obtain ⟨k, hk, rfl, hTL, hBr⟩ := hrel
    clear HTx HB4'
    by_cases hk3 : k < P.length
    · have hHP := (HHP.out.below HB2.out).below hBr
      obtain ⟨pb, po, rfl⟩ := hHP.some_ (by omega)
      obtain ⟨gb, rfl, hc2, hcb⟩ := HO2.out k wr hk3 hBr
      have h32 : ∀ p ∈ P, p.length = 32 := HHP.out.each
      have hp : (P.getD k []).length = 32 := h32 _ (by simp [List.getD, List.getElem?_eq_getElem hk3])
      have hlT := climb_take_len F b bs P hlen k hk
      obtain ⟨gt, capT, aT, cT, hv, hcT, hcell, hSl⟩ := hTL.elem k (by omega)
      have HN : Hid (climb F (0 :: b) ((bs.zip P).take k) ++ [node (bs.getD k false, P.getD k []) (F ((climb F (0 :: b) ((bs.zip P).take k)).getD k []))] = climb F (0 :: b) ((bs.zip P).take (k + 1))) := climb_next F b bs P hlen k hk3
      have hsT := climb_brief F E.len ((bs.zip P).take k) (0 :: b) (fun x hx => h32 _ (List.of_mem_zip (List.mem_of_mem_take hx)).2) (by simp; omega) k
      generalize climb F (0 :: b) ((bs.zip P).take k) = T at *
      generalize hTk : T.getD k [] = t at *
      have HPK := hHP.at k hk3
      have HPK2 : Hid (∀ y, Below w2.heap.size w2 y → y.rangeAt pb (po + k * 32) (bys (P.getD k []))) := fun y hy => ((HHP.out.below HB2.out).below hy).at k hk3
      generalize P.getD k [] = p at *
      obtain ⟨m, hm⟩ : ∃ m, m = T.length := ⟨_, rfl⟩
      rw [← hm] at hv hcT hlT
      subst hv
      have em : IntKind.i64.wrap ((m : Int) - 1) = (k : Int) := by rw [IntKind.wrap_i64]; omega
      have lm : (k : Int) < (m : Int) := by omega
      have lk : (k : Int) < (P.length : Int) := by omega
      have l0 : (0 : Int) ≤ (k : Int) := by omega
      have HTX : Hid (Tx w2.heap.size (.slice (some ⟨gt, 0, none⟩) m capT) T wr) := hTL
      have HBr : Hid (Below w2.heap.size w2 wr) := hBr
      have hTl : T.length ≤ 1000000 := by omega
      have hFt := E.len t
      have HSU := E.xsum wr _ t hSl (by omega)
      have Hcb : Hid (∀ y, Below w2.heap.size w2 y → y.cell? ⟨gb, k, none⟩ = some (.bool (!bs.getD k false))) := fun y hy => by
        obtain ⟨g', e, _, hc⟩ := HO2.out k y hk3 hy
        cases e; exact hc
      clear hTk hSl hTL hBr hcb hm
      have hLh := info26L _ hFt
      have hLp := info26L _ hp
      have HZp : Hid (∀ y, Below w2.heap.size w2 y → y.rangeAt pb (po + k * 32) (bys p)) := fun y hy => HPK2.out y hy
      have HC : Hid (∀ y, Below w2.heap.size w2 y → y.cell? ⟨w.heap.size, 2, none⟩ = some (.slice (some ⟨pb, po, none⟩) P.length cpp)) := fun y hy => (HR2.out.below hy HR2.out.lt).cell 2
      have HK : Hid (m = k + 1) := hlT
      clear hHP HPK HPK2 HO2 h32 hlT hcT
      cases hbk : bs.getD k false with
      | false =>
        rw [hbk] at Hcb HN
        clear hbk
        have HPR : Hid (∀ y, Calls Try.prog 43 #[.agg (bys (F t)).toArray, .agg (bys p).toArray] y fun ev w' => ∃ v', ev = .returned v' ∧ w'.ownsRow y.heap.size 5 1 v' (1 :: (F t ++ p)).length (bys (1 :: (F t ++ p))) ∧ Below y.heap.size y w') := fun y => pair_any y (F t) p hFt hp
        obtain ⟨X, hX⟩ : ∃ X, X = 1 :: (F t ++ p) := ⟨_, rfl⟩
        rw [← hX] at HPR
        have hXe : Hid (X = node (false, p) (F t)) := hX
        clear hX
        go_wp2_with (first
          | (go_at_call 22; refine HSU.mono ?_; rintro ev w5 ⟨rfl, hb5⟩; have hbA := new_below w5 (.cells (bys zero32).toArray 26); have RA := Row.new w5 26 (bys zero32); have hle5 : w5.heap.size ≤ w5.heap.size := Nat.le_refl _)
          | (refine store26 rfl _ _ rfl w5 w5.heap.size _ hFt rfl rfl zero32 zero32_len RA _ hbA hle5 ?_; intro w6 R6 hb6 _; have hb56 := nextB hb5 hb6; have hB26 := nextB HBr.out hb56; have hcb := Hcb.out w6 hB26; have HTX6 : Hid _ := HTX.out.below hb56; clear RA hbA hcell HSU))
        refine beginL (fun y => Below w2.heap.size w2 y ∧ Row y w5.heap.size 26 (bys (F t))) 10 (by kernel_rfl) ⟨hB26.drew, R6.drew⟩ (fun hS0 => ?_)
        refine takeL 0 (v := ?vh0) rfl (some 51) rfl (by decide) (by kernel_rfl) (by kernel_rfl) (by kernel_rfl) (by kernel_rfl) (fun _ _ _ h => h) (Or.inl ⟨by rfl, ?hh0⟩) hS0 ?rh0
        case hh0 => (intro y hy; go_simp; with_reducible rfl)
        simp only [Act.put, List.setIfInBounds_toArray, List.set_cons_zero, List.set_cons_succ]
        refine takeL 1 (v := _) rfl (some 52) rfl (by decide) (by kernel_rfl) (by kernel_rfl) (by kernel_rfl) (by kernel_rfl) (fun _ _ _ h => h) (yieldsIf_load_mid (by rfl) _ _ rfl _ _ rfl (bys (F t)) _ (fun y hy => hy.2.range) Try.underlying26 rfl hLh) hS0 ?_
        simp only [Act.put, List.setIfInBounds_toArray, List.set_cons_zero, List.set_cons_succ]
        refine takeL 2 (v := ?vh2) rfl (some 53) rfl (by decide) (by kernel_rfl) (by kernel_rfl) (by kernel_rfl) (by kernel_rfl) (fun _ _ _ h => h) (Or.inl ⟨by rfl, ?hh2⟩) hS0 ?rh2
        case hh2 => (intro y hy; go_simp; with_reducible rfl)
        simp only [Act.put, List.setIfInBounds_toArray, List.set_cons_zero, List.set_cons_succ]
        refine takeL 3 (v := ?vh3) rfl (some 54) rfl (by decide) (by kernel_rfl) (by kernel_rfl) (by kernel_rfl) (by kernel_rfl) (fun _ _ _ h => h) (Or.inl ⟨by rfl, ?hh3⟩) hS0 ?rh3
        case hh3 => (intro y hy; have cc := HC.out y hy.1; go_simp; with_reducible rfl)
        simp only [Act.put, List.setIfInBounds_toArray, List.set_cons_zero, List.set_cons_succ]
        refine takeL 4 (v := ?vh4) rfl (some 55) rfl (by decide) (by kernel_rfl) (by kernel_rfl) (by kernel_rfl) (by kernel_rfl) (fun _ _ _ h => h) (Or.inl ⟨by rfl, ?hh4⟩) hS0 ?rh4
        case hh4 => (intro y hy; go_simp; with_reducible rfl)
        simp only [Act.put, List.setIfInBounds_toArray, List.set_cons_zero, List.set_cons_succ]
        refine takeL 5 (v := ?vh5) rfl (some 56) rfl (by decide) (by kernel_rfl) (by kernel_rfl) (by kernel_rfl) (by kernel_rfl) (fun _ _ _ h => h) (Or.inl ⟨by rfl, ?hh5⟩) hS0 ?rh5
        case hh5 => (intro y hy; go_simp; with_reducible rfl)
        simp only [Act.put, List.setIfInBounds_toArray, List.set_cons_zero, List.set_cons_succ]
        refine takeL 6 (v := _) rfl (some 57) rfl (by decide) (by kernel_rfl) (by kernel_rfl) (by kernel_rfl) (by kernel_rfl) (fun _ _ _ h => h) (yieldsIf_load_mid (by rfl) _ _ rfl _ _ rfl (bys p) _ (fun y hy => HZp.out y hy.1) Try.underlying26 rfl hLp) hS0 ?_
        simp only [Act.put, List.setIfInBounds_toArray, List.set_cons_zero, List.set_cons_succ]
        refine readyL (rs := [7]) (by kernel_rfl) (by simp) ?_
        refine ReadyL.cons rfl (fun K hK => ?_) ReadyL.nil
        go_simp
        refine (HPR.out _).mono ?_
        rintro ev w8 ⟨v8, rfl, ho8, hb8⟩
        obtain ⟨a8, c8, rfl⟩ := own_shape ho8
        have hS8 : Below w2.heap.size w2 w8 ∧ Row w8 w5.heap.size 26 (bys (F t)) := ⟨nextB hS0.1 hb8, hS0.2.below hb8 hS0.2.lt⟩
        refine hK.out _ _ (fun _ => hS8) (fun _ => ?_)
        clear hK K
        refine readyL (rs := [8]) (by kernel_rfl) (by simp) ?_
        refine ReadyL.cons rfl (fun K hK => ?_) ReadyL.nil
        go_simp
        have hb9 := new_below w8 (.cells #[.slice a8 X.length c8] 39)
        have hS9 : Below w2.heap.size w2 (w8.alloc (.cells #[.slice a8 X.length c8] 39)) ∧ Row (w8.alloc (.cells #[.slice a8 X.length c8] 39)) w5.heap.size 26 (bys (F t)) := ⟨nextB hS8.1 hb9, hS8.2.below hb9 hS8.2.lt⟩
        refine hK.out _ _ (fun _ => hS9) (fun _ => ?_)
        clear hK K
        refine readyL (rs := [9]) (by kernel_rfl) (by simp) ?_
        refine ReadyL.cons rfl (fun K hK => ?_) ReadyL.nil
        refine want (by rfl) ?_
        have hc9 : (w8.alloc (.cells #[.slice a8 X.length c8] 39)).cell? ⟨w8.heap.size, 0, none⟩ = some (.slice a8 X.length c8) := (Row.new w8 39 [.slice a8 X.length c8]).cell 0
        have hX9 := ((HTX6.out.below (Below.refl w6.heap.size w6).drew).below hb8).below hb9
        have ho9 := own_past (own_lower ho8 hS0.1.size) hb9
        obtain ⟨vs9, how9⟩ := hX9.own
        have hne9 := own_apart how9 hS9.2 (by decide)
        refine wpo_app39 _ _ rfl rfl hX9 hS9.1.size w8.heap.size 1 rfl hc9 ho9 hTl ?_
        intro v10 w10 hX10 hb10 hg10
        obtain ⟨a10, c10, rfl⟩ := hX10.slice
        have hS10 : Below w2.heap.size w2 w10 ∧ Row w10 w5.heap.size 26 (bys (F t)) := ⟨hS9.1.trans hb10, hS9.2.grown hg10 (fun e => hne9 _ e rfl)⟩
        refine hK.out _ _ (fun _ => hS10) (fun _ => ?_)
        clear hK K
        refine readyL (rs := [10]) (by kernel_rfl) (by simp) ?_
        refine ReadyL.cons rfl (fun K hK => ?_) ReadyL.nil
        go_simp
        refine hK.out _ _ (fun h => absurd rfl h) (fun _ => ?_)
        clear hK K
        refine doneL (by kernel_rfl) ?_ _
        go_wp2_with fail
        go_roundw
        case rel =>
          rw [show (T ++ [X]).length = T.length + 1 by simp, hXe.out, HN.out] at hX10
          exact ⟨k + 1, by omega, by go_num, hX10, hS10.1⟩
        case measure => simp [intOf]; omega
      | true =>
        rw [hbk] at Hcb HN
        clear hbk
        have HPR : Hid (∀ y, Calls Try.prog 43 #[.agg (bys p).toArray, .agg (bys (F t)).toArray] y fun ev w' => ∃ v', ev = .returned v' ∧ w'.ownsRow y.heap.size 5 1 v' (1 :: (p ++ F t)).length (bys (1 :: (p ++ F t))) ∧ Below y.heap.size y w') := fun y => pair_any y p (F t) hp hFt
        obtain ⟨X, hX⟩ : ∃ X, X = 1 :: (p ++ F t) := ⟨_, rfl⟩
        rw [← hX] at HPR
        have hXe : Hid (X = node (true, p) (F t)) := hX
        clear hX
        go_wp2_with (first
          | (go_at_call 22; refine HSU.mono ?_; rintro ev w5 ⟨rfl, hb5⟩; have hbA := new_below w5 (.cells (bys zero32).toArray 26); have RA := Row.new w5 26 (bys zero32); have hle5 : w5.heap.size ≤ w5.heap.size := Nat.le_refl _)
          | (refine store26 rfl _ _ rfl w5 w5.heap.size _ hFt rfl rfl zero32 zero32_len RA _ hbA hle5 ?_; intro w6 R6 hb6 _; have hb56 := nextB hb5 hb6; have hB26 := nextB HBr.out hb56; have hcb := Hcb.out w6 hB26; have HTX6 : Hid _ := HTX.out.below hb56; clear RA hbA hcell HSU))
        refine beginL (fun y => Below w2.heap.size w2 y ∧ Row y w5.heap.size 26 (bys (F t))) 10 (by kernel_rfl) ⟨hB26.drew, R6.drew⟩ (fun hS0 => ?_)
        refine takeL 0 (v := ?vp0) rfl (some 61) rfl (by decide) (by kernel_rfl) (by kernel_rfl) (by kernel_rfl) (by kernel_rfl) (fun _ _ _ h => h) (Or.inl ⟨by rfl, ?hp0⟩) hS0 ?rp0
        case hp0 => (intro y hy; go_simp; with_reducible rfl)
        simp only [Act.put, List.setIfInBounds_toArray, List.set_cons_zero, List.set_cons_succ]
        refine takeL 1 (v := ?vp1) rfl (some 62) rfl (by decide) (by kernel_rfl) (by kernel_rfl) (by kernel_rfl) (by kernel_rfl) (fun _ _ _ h => h) (Or.inl ⟨by rfl, ?hp1⟩) hS0 ?rp1
        case hp1 => (intro y hy; go_simp; with_reducible rfl)
        simp only [Act.put, List.setIfInBounds_toArray, List.set_cons_zero, List.set_cons_succ]
        refine takeL 2 (v := ?vp2) rfl (some 63) rfl (by decide) (by kernel_rfl) (by kernel_rfl) (by kernel_rfl) (by kernel_rfl) (fun _ _ _ h => h) (Or.inl ⟨by rfl, ?hp2⟩) hS0 ?rp2
        case hp2 => (intro y hy; have cc := HC.out y hy.1; go_simp; with_reducible rfl)
        simp only [Act.put, List.setIfInBounds_toArray, List.set_cons_zero, List.set_cons_succ]
        refine takeL 3 (v := ?vp3) rfl (some 64) rfl (by decide) (by kernel_rfl) (by kernel_rfl) (by kernel_rfl) (by kernel_rfl) (fun _ _ _ h => h) (Or.inl ⟨by rfl, ?hp3⟩) hS0 ?rp3
        case hp3 => (intro y hy; go_simp; with_reducible rfl)
        simp only [Act.put, List.setIfInBounds_toArray, List.set_cons_zero, List.set_cons_succ]
        refine takeL 4 (v := ?vp4) rfl (some 65) rfl (by decide) (by kernel_rfl) (by kernel_rfl) (by kernel_rfl) (by kernel_rfl) (fun _ _ _ h => h) (Or.inl ⟨by rfl, ?hp4⟩) hS0 ?rp4
        case hp4 => (intro y hy; go_simp; with_reducible rfl)
        simp only [Act.put, List.setIfInBounds_toArray, List.set_cons_zero, List.set_cons_succ]
        refine takeL 5 (v := _) rfl (some 66) rfl (by decide) (by kernel_rfl) (by kernel_rfl) (by kernel_rfl) (by kernel_rfl) (fun _ _ _ h => h) (yieldsIf_load_mid (by rfl) _ _ rfl _ _ rfl (bys p) _ (fun y hy => HZp.out y hy.1) Try.underlying26 rfl hLp) hS0 ?_
        simp only [Act.put, List.setIfInBounds_toArray, List.set_cons_zero, List.set_cons_succ]
        refine takeL 6 (v := _) rfl (some 67) rfl (by decide) (by kernel_rfl) (by kernel_rfl) (by kernel_rfl) (by kernel_rfl) (fun _ _ _ h => h) (yieldsIf_load_mid (by rfl) _ _ rfl _ _ rfl (bys (F t)) _ (fun y hy => hy.2.range) Try.underlying26 rfl hLh) hS0 ?_
        simp only [Act.put, List.setIfInBounds_toArray, List.set_cons_zero, List.set_cons_succ]
        refine readyL (rs := [7]) (by kernel_rfl) (by simp) ?_
        refine ReadyL.cons rfl (fun K hK => ?_) ReadyL.nil
        go_simp
        refine (HPR.out _).mono ?_
        rintro ev w8 ⟨v8, rfl, ho8, hb8⟩
        obtain ⟨a8, c8, rfl⟩ := own_shape ho8
        have hS8 : Below w2.heap.size w2 w8 ∧ Row w8 w5.heap.size 26 (bys (F t)) := ⟨nextB hS0.1 hb8, hS0.2.below hb8 hS0.2.lt⟩
        refine hK.out _ _ (fun _ => hS8) (fun _ => ?_)
        clear hK K
        refine readyL (rs := [8]) (by kernel_rfl) (by simp) ?_
        refine ReadyL.cons rfl (fun K hK => ?_) ReadyL.nil
        go_simp
        have hb9 := new_below w8 (.cells #[.slice a8 X.length c8] 39)
        have hS9 : Below w2.heap.size w2 (w8.alloc (.cells #[.slice a8 X.length c8] 39)) ∧ Row (w8.alloc (.cells #[.slice a8 X.length c8] 39)) w5.heap.size 26 (bys (F t)) := ⟨nextB hS8.1 hb9, hS8.2.below hb9 hS8.2.lt⟩
        refine hK.out _ _ (fun _ => hS9) (fun _ => ?_)
        clear hK K
        refine readyL (rs := [9]) (by kernel_rfl) (by simp) ?_
        refine ReadyL.cons rfl (fun K hK => ?_) ReadyL.nil
        refine want (by rfl) ?_
        have hc9 : (w8.alloc (.cells #[.slice a8 X.length c8] 39)).cell? ⟨w8.heap.size, 0, none⟩ = some (.slice a8 X.length c8) := (Row.new w8 39 [.slice a8 X.length c8]).cell 0
        have hX9 := ((HTX6.out.below (Below.refl w6.heap.size w6).drew).below hb8).below hb9
        have ho9 := own_past (own_lower ho8 hS0.1.size) hb9
        obtain ⟨vs9, how9⟩ := hX9.own
        have hne9 := own_apart how9 hS9.2 (by decide)
        refine wpo_app39 _ _ rfl rfl hX9 hS9.1.size w8.heap.size 1 rfl hc9 ho9 hTl ?_
        intro v10 w10 hX10 hb10 hg10
        obtain ⟨a10, c10, rfl⟩ := hX10.slice
        have hS10 : Below w2.heap.size w2 w10 ∧ Row w10 w5.heap.size 26 (bys (F t)) := ⟨hS9.1.trans hb10, hS9.2.grown hg10 (fun e => hne9 _ e rfl)⟩
        refine hK.out _ _ (fun _ => hS10) (fun _ => ?_)
        clear hK K
        refine readyL (rs := [10]) (by kernel_rfl) (by simp) ?_
        refine ReadyL.cons rfl (fun K hK => ?_) ReadyL.nil
        go_simp
        refine hK.out _ _ (fun h => absurd rfl h) (fun _ => ?_)
        clear hK K
        refine doneL (by kernel_rfl) ?_ _
        go_wp2_with fail
        go_roundw
        case rel =>
          rw [show (T ++ [X]).length = T.length + 1 by simp, hXe.out, HN.out] at hX10
          exact ⟨k + 1, by omega, by go_num, hX10, hS10.1⟩
        case measure => simp [intOf]; omega
    · have ek : k = P.length := by omega
      have hTe : (bs.zip P).take k = bs.zip P := List.take_of_length_le (by simp; omega)
      rw [hTe] at hTL
      have hlT : (climb F (0 :: b) (bs.zip P)).length = k + 1 := by rw [climb_len]; simp; omega
      obtain ⟨gt, capT, aT, cT, hv, hcT, hcell, hSl⟩ := hTL.elem k (by omega)
      have hsT := climb_brief F E.len (bs.zip P) (0 :: b) (fun x hx => HHP.out.each _ (List.of_mem_zip hx).2) (by simp; omega) k
      have hT2 : texts F b i n P = climb F (0 :: b) (bs.zip P) ++ [rootT n (F ((climb F (0 :: b) (bs.zip P)).getD k []))] := by rw [HT.out, lastT_get, hlT]; rfl
      clear HT
      generalize climb F (0 :: b) (bs.zip P) = T at *
      generalize T.getD k [] = t at *
      have hFt := E.len t
      have HTP : Hid (∀ y, Calls Try.prog 26 #[.int .i64 (n : Int), .agg (bys (F t)).toArray] y fun ev w' => ∃ v', ev = .returned v' ∧ w'.ownsRow y.heap.size 5 1 v' (rootT n (F t)).length (bys (rootT n (F t))) ∧ Below y.heap.size y w') := fun y => by
        have := top_any y n (F t) hFt hn
        rwa [if_neg (by omega)] at this
      generalize rootT n (F t) = X at *
      have HT2 : Hid (texts F b i n P = T ++ [X]) := hT2
      obtain ⟨m, hm⟩ : ∃ m, m = T.length := ⟨_, rfl⟩
      rw [← hm] at hv hcT hlT
      subst hv
      have em : IntKind.i64.wrap ((m : Int) - 1) = (k : Int) := by rw [IntKind.wrap_i64]; omega
      have lm : (k : Int) < (m : Int) := by omega
      have lk : ¬ (k : Int) < (P.length : Int) := by omega
      have l0 : (0 : Int) ≤ (k : Int) := by omega
      have HTX : Hid (Tx w2.heap.size (.slice (some ⟨gt, 0, none⟩) m capT) T wr) := hTL
      have HBr : Hid (Below w2.heap.size w2 wr) := hBr
      have hTl : T.length ≤ 1000000 := by omega
      have HSU := E.xsum wr.drew _ t (hSl.below (Below.refl wr.heap.size wr).drew) (by omega)
      have HC1 : Hid (∀ y, Below w2.heap.size w2 y → y.cell? ⟨w.heap.size, 1, none⟩ = some (.int .i64 (n : Int))) := fun y hy => (HR2.out.below hy HR2.out.lt).cell 1
      have hcd : wr.drew.cell? ⟨gt, k, none⟩ = some (.slice aT t.length cT) := hcell
      clear hSl hTL hBr hcell hm hlT ek hTe hT2 HO2 hk hk3 hcT
      go_wp2_with fail
      refine beginL (fun y => Below w2.heap.size w2 y) 14 (by kernel_rfl) HBr.out.drew (fun hS0 => ?_)
      refine takeL 0 (v := ?ve0) rfl (some 71) rfl (by decide) (by kernel_rfl) (by kernel_rfl) (by kernel_rfl) (by kernel_rfl) (fun _ _ _ h => h) (Or.inl ⟨by rfl, ?he0⟩) hS0 ?re0
      case he0 => (intro y hy; go_simp; with_reducible rfl)
      simp only [Act.put, List.setIfInBounds_toArray, List.set_cons_zero, List.set_cons_succ]
      refine takeL 1 (v := ?ve1) rfl (some 72) rfl (by decide) (by kernel_rfl) (by kernel_rfl) (by kernel_rfl) (by kernel_rfl) (fun _ _ _ h => h) (Or.inl ⟨by rfl, ?he1⟩) hS0 ?re1
      case he1 => (intro y hy; go_simp; with_reducible rfl)
      simp only [Act.put, List.setIfInBounds_toArray, List.set_cons_zero, List.set_cons_succ]
      refine takeL 2 (v := ?ve2) rfl (some 73) rfl (by decide) (by kernel_rfl) (by kernel_rfl) (by kernel_rfl) (by kernel_rfl) (fun _ _ _ h => h) (Or.inl ⟨by rfl, ?he2⟩) hS0 ?re2
      case he2 => (intro y hy; have cc := HC1.out y hy; go_simp; with_reducible rfl)
      simp only [Act.put, List.setIfInBounds_toArray, List.set_cons_zero, List.set_cons_succ]
      refine takeL 3 (v := ?ve3) rfl (some 74) rfl (by decide) (by kernel_rfl) (by kernel_rfl) (by kernel_rfl) (by kernel_rfl) (fun _ _ _ h => h) (Or.inl ⟨by rfl, ?he3⟩) hS0 ?re3
      case he3 => (intro y hy; go_simp; with_reducible rfl)
      simp only [Act.put, List.setIfInBounds_toArray, List.set_cons_zero, List.set_cons_succ]
      refine takeL 4 (v := ?ve4) rfl (some 75) rfl (by decide) (by kernel_rfl) (by kernel_rfl) (by kernel_rfl) (by kernel_rfl) (fun _ _ _ h => h) (Or.inl ⟨by rfl, ?he4⟩) hS0 ?re4
      case he4 => (intro y hy; go_simp; with_reducible rfl)
      simp only [Act.put, List.setIfInBounds_toArray, List.set_cons_zero, List.set_cons_succ]
      refine takeL 5 (v := ?ve5) rfl (some 76) rfl (by decide) (by kernel_rfl) (by kernel_rfl) (by kernel_rfl) (by kernel_rfl) (fun _ _ _ h => h) (Or.inl ⟨by rfl, ?he5⟩) hS0 ?re5
      case he5 => (intro y hy; go_simp; with_reducible rfl)
      simp only [Act.put, List.setIfInBounds_toArray, List.set_cons_zero, List.set_cons_succ]
      refine takeL 6 (v := ?ve6) rfl (some 77) rfl (by decide) (by kernel_rfl) (by kernel_rfl) (by kernel_rfl) (by kernel_rfl) (fun _ _ _ h => h) (Or.inl ⟨by rfl, ?he6⟩) hS0 ?re6
      case he6 => (intro y hy; go_simp; with_reducible rfl)
      simp only [Act.put, List.setIfInBounds_toArray, List.set_cons_zero, List.set_cons_succ]
      refine takeL 7 (v := ?ve7) rfl (some 78) rfl (by decide) (by kernel_rfl) (by kernel_rfl) (by kernel_rfl) (by kernel_rfl) (fun _ _ _ h => h) (Or.inl ⟨by rfl, ?he7⟩) hS0 ?re7
      case he7 => (intro y hy; go_simp; with_reducible rfl)
      simp only [Act.put, List.setIfInBounds_toArray, List.set_cons_zero, List.set_cons_succ]
      refine readyL (rs := [8]) (by kernel_rfl) (by simp) ?_
      refine ReadyL.cons rfl (fun K hK => ?_) ReadyL.nil
      go_simp
      refine hK.out _ _ (fun _ => hS0) (fun _ => ?_)
      clear hK K
      refine readyL (rs := [9]) (by kernel_rfl) (by simp) ?_
      refine ReadyL.cons rfl (fun K hK => ?_) ReadyL.nil
      go_simp
      refine HSU.mono ?_
      rintro ev w5 ⟨rfl, hb5⟩
      have hS5 := nextB hS0 hb5
      refine hK.out _ _ (fun _ => hS5) (fun _ => ?_)
      clear hK K
      refine readyL (rs := [10]) (by kernel_rfl) (by simp) ?_
      refine ReadyL.cons rfl (fun K hK => ?_) ReadyL.nil
      go_simp
      refine (HTP.out _).mono ?_
      rintro ev w8 ⟨v8, rfl, ho8, hb8⟩
      obtain ⟨a8, c8, rfl⟩ := own_shape ho8
      have hS8 := nextB hS5 hb8
      refine hK.out _ _ (fun _ => hS8) (fun _ => ?_)
      clear hK K
      refine readyL (rs := [11]) (by kernel_rfl) (by simp) ?_
      refine ReadyL.cons rfl (fun K hK => ?_) ReadyL.nil
      go_simp
      have hb9 := new_below w8 (.cells #[.slice a8 X.length c8] 39)
      have hS9 := nextB hS8 hb9
      refine hK.out _ _ (fun _ => hS9) (fun _ => ?_)
      clear hK K
      refine readyL (rs := [12]) (by kernel_rfl) (by simp) ?_
      refine ReadyL.cons rfl (fun K hK => ?_) ReadyL.nil
      refine want (by rfl) ?_
      have hc9 : (w8.alloc (.cells #[.slice a8 X.length c8] 39)).cell? ⟨w8.heap.size, 0, none⟩ = some (.slice a8 X.length c8) := (Row.new w8 39 [.slice a8 X.length c8]).cell 0
      have hX9 := (((HTX.out.below (Below.refl wr.heap.size wr).drew).below hb5).below hb8).below hb9
      have ho9 := own_past (own_lower ho8 hS5.size) hb9
      refine wpo_app39 _ _ rfl rfl hX9 hS9.size w8.heap.size 1 rfl hc9 ho9 hTl ?_
      intro v10 w10 hX10 hb10 hg10
      obtain ⟨a10, c10, rfl⟩ := hX10.slice
      have hS10 : Below w2.heap.size w2 w10 := hS9.trans hb10
      refine hK.out _ _ (fun _ => hS10) (fun _ => ?_)
      clear hK K
      refine readyL (rs := [13]) (by kernel_rfl) (by simp) ?_
      refine ReadyL.cons rfl (fun K hK => ?_) ReadyL.nil
      go_simp
      refine hK.out _ _ (fun _ => hS10) (fun _ => ?_)
      clear hK K
      refine readyL (rs := [14]) (by kernel_rfl) (by simp) ?_
      refine ReadyL.cons rfl (fun K hK => ?_) ReadyL.nil
      go_simp
      refine hK.out _ _ (fun h => absurd rfl h) (fun _ => ?_)
      clear hK K
      refine doneL (by kernel_rfl) ?_ _
      go_wp2_with fail
      go_ret2
      refine ⟨_, rfl, ?_, nextB HB2.out hS10⟩
      rw [show (T ++ [X]).length = T.length + 1 by simp] at hX10
      rw [HT2.out]
      exact hX10.lower HB2.out.size
end Go.Proofs.Ytfkibbpekngciaa
