/-
  The texts Few, Rts, joined.
-/
import Derived.Test.YtfkibbpekngciaaQPrTre
import Derived.Test.YtfkibbpekngciaaQPrXpt
import Derived.Test.YtfkibbpekngciaaQPrSme
import Derived.Test.YtfkibbpekngciaaQPrTol
/- few. -/
namespace Go.Proofs.Ytfkibbpekngciaa
open Go.RowKit

/-- At most 20 leaves of at most 100 bytes. -/
def fewB (L : List Bys) : Bool := decide (L.length ≤ 20 ∧ ∀ b ∈ L, b.length ≤ 100)
theorem fewB_len {L : List Bys} (h : fewB L = true) : L.length ≤ 20 := (of_decide_eq_true h).1
theorem fewB_short {L : List Bys} (h : fewB L = true) : Short L := fun b hb => Nat.le_trans ((of_decide_eq_true h).2 b hb) (by omega)
/-- What has been seen of the list. -/
structure FewRel (L : List Bys) (k : Nat) : Prop where
  le : k ≤ L.length ∧ k ≤ 21
  ok : ∀ j, j < k → (L.getD j []).length ≤ 100

set_option maxHeartbeats 4000000 in
theorem few_any (w : World) (v : Value) (L : List Bys) (h : Ls w v L) (hL : L.length ≤ 9223372036854775807) (hE : ∀ b ∈ L, b.length ≤ 9223372036854775807) : Calls Try.prog 9 #[v] w fun ev w' => ev = .returned (.bool (fewB L)) ∧ w' = w := by
  obtain ⟨ao, cp, rfl⟩ := h.slice
  have hL2 : (L.length : Int) ≤ 9223372036854775807 := by omega
  obtain ⟨res, HRES⟩ : ∃ r, Hid (r = fewB L) := ⟨_, rfl⟩
  rw [← HRES.out]
  go_enter Try.func9, Try.ntmps9
  go_wp2
  go_loop [3] (fun i => ∃ k : Nat, FewRel L k ∧ i = .int .i64 (k : Int)) (fun i => 21 - (intOf i).toNat)
  case atStart => exact ⟨0, ⟨⟨by omega, by omega⟩, fun j hj => by omega⟩, rfl⟩
  case round =>
    obtain ⟨k, hR, rfl⟩ := hrel
    obtain ⟨hk1, hk2⟩ := hR.le
    by_cases hk : k < L.length
    · by_cases hk3 : k < 21
      · obtain ⟨b, off, cap, fv, hv, hcap, hc⟩ := h.some_ (by omega)
        cases hv
        obtain ⟨c1, s1⟩ := hc k hk
        obtain ⟨ak, ck, ek⟩ := sl_slice s1
        rw [ek] at c1
        have hmx : (L.getD k []).length ≤ 9223372036854775807 := hE _ (by simp [List.getD, List.getElem?_eq_getElem hk])
        have q1 : (k : Int) < (L.length : Int) := by omega
        have q2 : (k : Int) < 21 := by omega
        have q3 : (0 : Int) ≤ (k : Int) := by omega
        have hmem : L.getD k [] ∈ L := by simp [List.getD, List.getElem?_eq_getElem hk]
        by_cases hl : (L.getD k []).length ≤ 100
        · have HOK : Hid (∀ j, j < k + 1 → (L.getD j []).length ≤ 100) := fun j hj => by
            rcases Nat.lt_or_ge j k with h' | h'
            · exact hR.ok j h'
            · obtain rfl : j = k := by omega
              exact hl
          generalize L.getD k [] = t at *
          have q4 : ¬ (100 : Int) < (t.length : Int) := by omega
          clear hc s1 ek h hR
          go_wp2
          go_round
          case rel => exact ⟨k + 1, ⟨⟨by omega, by omega⟩, HOK.out⟩, by go_num⟩
          case measure => simp [intOf]; omega
        · have hf : fewB L = false := by
            unfold fewB
            rw [decide_eq_false_iff_not]
            exact fun h => hl (h.2 _ hmem)
          have HF : Hid (res = _) := HRES.out.trans hf
          generalize L.getD k [] = t at *
          have q4 : (100 : Int) < (t.length : Int) := by omega
          clear hc s1 ek h hR hf
          go_wp2
          go_ret
          exact ⟨by rw [HF.out]; rfl, rfl⟩
      · have hf : fewB L = false := by
          unfold fewB
          rw [decide_eq_false_iff_not]
          exact fun h => by omega
        have HF : Hid (res = _) := HRES.out.trans hf
        have q1 : (k : Int) < (L.length : Int) := by omega
        have q2 : ¬ (k : Int) < 21 := by omega
        have q4 : ¬ (L.length : Int) ≤ 20 := by omega
        clear hf h
        go_wp2
        go_ret
        exact ⟨by rw [HF.out]; rfl, rfl⟩
    · have hkk : k = L.length := by omega
      have q1 : ¬ (k : Int) < (L.length : Int) := by omega
      by_cases h20 : L.length ≤ 20
      · have hf : fewB L = true := by
          unfold fewB
          rw [decide_eq_true_iff]
          refine ⟨h20, fun b hb => ?_⟩
          obtain ⟨j, hj, rfl⟩ := List.mem_iff_getElem.1 hb
          have := hR.ok j (by omega)
          simpa [List.getD, List.getElem?_eq_getElem hj] using this
        have HF : Hid (res = _) := HRES.out.trans hf
        have q4 : (L.length : Int) ≤ 20 := by omega
        clear hf h hR hkk
        go_wp2
        go_ret
        exact ⟨by rw [HF.out]; rfl, rfl⟩
      · have hf : fewB L = false := by
          unfold fewB
          rw [decide_eq_false_iff_not]
          exact fun h => by omega
        have HF : Hid (res = _) := HRES.out.trans hf
        have q4 : ¬ (L.length : Int) ≤ 20 := by omega
        clear hf h hR hkk
        go_wp2
        go_ret
        exact ⟨by rw [HF.out]; rfl, rfl⟩
end Go.Proofs.Ytfkibbpekngciaa

/- MerkleRoots answers true. -/
namespace Go.Proofs.Ytfkibbpekngciaa
open Go.RowKit

theorem load30g {ops : Array Oper} {rest : List Oper} {o : Oper} {a : Act} {w : World} {Q : Exit → Act → World → Prop} (hgd : Region.wanted o (yielded ops a.tmps) = true) (x : Operand) (ho : o.op = .load 30 x) (g : Nat) (p q r : Value) (hx : a.eval x = .pointer (some ⟨g, 0, none⟩)) (hr : Row w g 30 [p, q, r])
    (k : wpList Try.prog ops Q rest (a.put o.dst (.agg #[p, q, r])) w) : wpList Try.prog ops Q (o :: rest) a w :=
  wpList_step fun K hK => by
    rw [if_pos hgd]
    exact wp_load_row 30 x ho g hx 30 #[p, q, r] (0, 0) _ hr.heap Try.underlying30 rfl Try.info30 (hK _ _ k)
theorem fewB_small {L : List Bys} (h : fewB L = true) : Small L := fun b hb => Nat.le_trans ((of_decide_eq_true h).2 b hb) (by omega)
theorem new30 (w : World) : Row (w.alloc (.cells #[.int .i64 0, .int .i64 0, .slice none 0 0] 30)) w.heap.size 30 [.int .i64 0, .int .i64 0, .slice none 0 0] := Row.new w 30 _
theorem new_below (w : World) (o : Obj) : Below w.heap.size w (w.alloc o) := (Below.refl _ _).alloc (Nat.le_refl _) _
theorem path_few (F : Bys → Bys) (L : List Bys) (i : Nat) (h : L.length ≤ 1000000) : (path F L i).length ≤ 1000000 := by
  simp only [path, List.length_map, List.length_reverse]
  exact Nat.le_trans (downs_64 _ _ (by omega)) (by omega)

set_option maxHeartbeats 4000000 in
theorem roots_told (F : Bys → Bys) (E : Env2 F) (w : World) (v : Value) (L : List Bys) (hL : Ls w v L) (hl : L.length ≤ 9223372036854775807) (hE : ∀ b ∈ L, b.length ≤ 9223372036854775807) (i : Int) (hc : fewB L = false) :
    Calls Try.prog 3 #[v, .int .i64 i] w fun ev w' => ev = .returned (.bool true) ∧ Below w.heap.size w w' := by
  have HF := few_any w v L hL hl hE
  obtain ⟨ao, cp, rfl⟩ := hL.slice
  have HT : Hid (∀ y, Calls Try.prog 10 #[] y fun ev w' => ev = .returned (.bool true) ∧ Below y.heap.size y w') := fun y => told_any F E y
  clear hL
  rw [hc] at HF
  clear hc
  go_enter Try.func3, Try.ntmps3
  go_wp2_with (first | (go_at_call 9; refine HF.mono ?_; rintro ev w1 ⟨rfl, rfl⟩) | (go_at_call 10; refine (HT.out _).mono ?_; rintro ev w2 ⟨rfl, hb2⟩))
  go_ret
  exact ⟨rfl, hb2⟩

set_option maxHeartbeats 4000000 in
set_option maxRecDepth 20000 in
theorem roots_in (F : Bys → Bys) (E : Env2 F) (w : World) (v : Value) (L : List Bys) (hL : Ls w v L) (hE : ∀ b ∈ L, b.length ≤ 9223372036854775807) (hf : fewB L = true) (i : Nat) (hi : i < L.length) :
    Calls Try.prog 3 #[v, .int .i64 (i : Int)] w fun ev w' => ev = .returned (.bool true) ∧ Below w.heap.size w w' := by
  have hlen := fewB_len hf
  have HF := few_any w v L hL (by omega) hE
  rw [hf] at HF
  have HT : Hid (∀ y, Calls Try.prog 10 #[] y fun ev w' => ev = .returned (.bool true) ∧ Below y.heap.size y w') := fun y => told_any F E y
  have HR := root_any F E.toEnv w v L hL (fewB_short hf) (by omega)
  have HX : Hid (∀ y, Below w.heap.size w y → Calls Try.prog 12 #[v] y fun ev w' => ev = .returned (.agg (bys (root F L)).toArray) ∧ Below y.heap.size y w') := fun y hy => xroot_any F E y v L (hL.below hy) (fewB_small hf) (by omega)
  have HP : Hid (∀ y, Below w.heap.size w y → Calls Try.prog 13 #[v, .int .i64 (i : Int)] y fun ev w' => ∃ ao cap, ev = .returned (.tuple #[.agg #[.int .i64 (i : Int), .int .i64 (L.length : Int), .slice ao (path F L i).length cap], .nilIface]) ∧ Hs w' (.slice ao (path F L i).length cap) (path F L i) ∧ Below y.heap.size y w') := fun y hy =>
    (prove_yes F E.toEnv y v L (hL.below hy) (fewB_short hf) (by omega) i hi).mono (fun ev y' ⟨ao, cap, h1, h2, _, h4⟩ => ⟨ao, cap, h1, h2, h4⟩)
  have HQ : Hid (∀ y, Below w.heap.size w y → Calls Try.prog 16 #[v, .int .i64 (i : Int)] y fun ev w' => ∃ ao cap, ev = .returned (.slice ao (path F L i).length cap) ∧ Hs w' (.slice ao (path F L i).length cap) (path F L i) ∧ Below y.heap.size y w') := fun y hy =>
    (xpath_any F E y v L i (hL.below hy) (fewB_small hf) hi (by omega)).mono (fun ev y' ⟨v', h1, h2, h3⟩ => by
      obtain ⟨ao, cap, rfl⟩ := own_shape' h2
      exact ⟨ao, cap, h1, Hs.ofOwn h2 (path_mem F E.len L i), h3⟩)
  have HS : Hid (∀ y ao bo c d, Hs y (.slice ao (path F L i).length c) (path F L i) → Hs y (.slice bo (path F L i).length d) (path F L i) → Calls Try.prog 15 #[.agg #[.int .i64 (i : Int), .int .i64 (L.length : Int), .slice ao (path F L i).length c], .agg #[.int .i64 (i : Int), .int .i64 (L.length : Int), .slice bo (path F L i).length d]] y fun ev w' => ev = .returned (.bool true) ∧ Below y.heap.size y w') := fun y ao bo c d h1 h2 =>
    same_yes y i L.length ao bo c d (path F L i) h1 h2 (path_few F L i (by omega))
  have hr : (root F L).length = 32 := E.len _
  have he : ∀ y, (Op.equalIn 10000 26 (.agg (bys (root F L)).toArray) (.agg (bys (root F L)).toArray)).run Try.prog y = .ok true y := fun y => by rw [equ25 y _ _ hr hr, beq_self_eq_true]
  obtain ⟨av, cp, rfl⟩ := hL.slice
  clear hL hE hf hr
  generalize path F L i = P at *
  generalize (bys (root F L)).toArray = Y at *
  have n1 : (i : Int) < (L.length : Int) := by omega
  have n0 : (0 : Int) ≤ (i : Int) := by omega
  generalize L.length = n at *
  go_enter Try.func3, Try.ntmps3
  go_wp2_with (first
    | (go_at_call 9; refine HF.mono ?_; rintro ev w1 ⟨rfl, hw1⟩; replace hw1 := hw1.symm; subst hw1)
    | (go_at_call 11; refine HR.mono ?_; rintro ev w2 ⟨rfl, hb2⟩)
    | (go_at_call 12; refine (HX.out _ hb2).mono ?_; rintro ev w3 ⟨rfl, hb3⟩; have hB3 := nextB hb2 hb3)
    | (go_at_call 13; refine (HP.out _ hB3).mono ?_; rintro ev w4 ⟨ao, cap, rfl, hH4, hb4⟩; have hB4 := nextB hB3 hb4; have RA4 := new30 w4; have hA4 := new_below w4 (.cells #[.int .i64 0, .int .i64 0, .slice none 0 0] 30); have h1c := one3 i n ao P.length cap; have hle4 : w4.heap.size ≤ w4.heap.size := Nat.le_refl _)
    | (refine store30 rfl _ _ rfl w4 w4.heap.size _ _ _ h1c rfl rfl _ _ _ RA4 _ hA4 hle4 ?_; intro w5 R5 hb5 _; have hB5 := nextB hB4 hb5; have hH5 := hH4.below hb5; clear RA4)
    | (go_at_call 16; refine (HQ.out _ hB5).mono ?_; rintro ev w6 ⟨bo, dap, rfl, hG6, hb6⟩; have hB6 := nextB hB5 hb6; have RA6 := new30 w6; have hA6 := new_below w6 (.cells #[.int .i64 0, .int .i64 0, .slice none 0 0] 30); have h1d := one3 i n bo P.length dap; have hle6 : w6.heap.size ≤ w6.heap.size := Nat.le_refl _)
    | (refine store30 rfl _ _ rfl w6 w6.heap.size _ _ _ h1d rfl rfl _ _ _ RA6 _ hA6 hle6 ?_; intro w7 R7 hb7 _; have hB7 := nextB hB6 hb7; have hG7 := hG6.below hb7; have hH7 := (hH5.below hb6).below hb7; have R57 := (R5.below hb6 R5.lt).below hb7 (R5.below hb6 R5.lt).lt; clear RA6)
    | (go_at_call 10; refine (HT.out _).mono ?_; rintro ev w8 ⟨rfl, hb8⟩; have hB8 := nextB hB7 hb8; have hG8 := hG7.below hb8; have hH8 := hH7.below hb8; have R58 := R57.below hb8 R57.lt; have R78 := R7.below hb8 R7.lt)
    | (refine load30g (by rfl) _ rfl w4.heap.size _ _ _ rfl R58 ?_)
    | (refine load30g (by rfl) _ rfl w6.heap.size _ _ _ rfl R78 ?_)
    | (go_at_call 15; refine (HS.out _ _ _ _ _ hH8 hG8).mono ?_; rintro ev w9 ⟨rfl, hb9⟩))
  go_ret
  exact ⟨rfl, nextB hB8 hb9⟩
set_option maxHeartbeats 4000000 in
set_option maxRecDepth 20000 in
theorem roots_out (F : Bys → Bys) (E : Env2 F) (w : World) (v : Value) (L : List Bys) (hL : Ls w v L) (hE : ∀ b ∈ L, b.length ≤ 9223372036854775807) (hf : fewB L = true) (i : Int) (hi : ¬ (0 ≤ i ∧ i < (L.length : Int))) :
    Calls Try.prog 3 #[v, .int .i64 i] w fun ev w' => ev = .returned (.bool true) ∧ Below w.heap.size w w' := by
  have hlen := fewB_len hf
  have HF := few_any w v L hL (by omega) hE
  rw [hf] at HF
  have HT : Hid (∀ y, Calls Try.prog 10 #[] y fun ev w' => ev = .returned (.bool true) ∧ Below y.heap.size y w') := fun y => told_any F E y
  have HR := root_any F E.toEnv w v L hL (fewB_short hf) (by omega)
  have HX : Hid (∀ y, Below w.heap.size w y → Calls Try.prog 12 #[v] y fun ev w' => ev = .returned (.agg (bys (root F L)).toArray) ∧ Below y.heap.size y w') := fun y hy => xroot_any F E y v L (hL.below hy) (fewB_small hf) (by omega)
  have HS : Hid (∀ y, Calls Try.prog 15 #[.agg #[.int .i64 0, .int .i64 0, .slice none 0 0], .agg #[.int .i64 0, .int .i64 0, .slice none 0 0]] y fun ev w' => ev = .returned (.bool true) ∧ Below y.heap.size y w') := fun y =>
    same_yes y 0 0 none none 0 0 [] ⟨fun p hp => by simp at hp, .inl ⟨none, 0, rfl, rfl⟩⟩ ⟨fun p hp => by simp at hp, .inl ⟨none, 0, rfl, rfl⟩⟩ (by simp)
  have HI : Hid (∀ y e, Er y e 2 0 → Calls Try.prog 14 #[e, .int .i64 2, .int .i64 0] y fun ev w' => ev = .returned (.bool true) ∧ Below y.heap.size y w') := fun y e h => is_any y e 2 0 2 0 (.inr h) rfl rfl
  have hr : (root F L).length = 32 := E.len _
  have he : ∀ y, (Op.equalIn 10000 26 (.agg (bys (root F L)).toArray) (.agg (bys (root F L)).toArray)).run Try.prog y = .ok true y := fun y => by rw [equ25 y _ _ hr hr, beq_self_eq_true]
  obtain ⟨av, cp, rfl⟩ := hL.slice
  have HP : Hid (∀ y, Calls Try.prog 13 #[.slice av L.length cp, .int .i64 i] y fun ev w' => ∃ b, ev = .returned (.tuple #[.agg #[.int .i64 0, .int .i64 0, .slice none 0 0], .iface 83 (.pointer (some ⟨b, 0, none⟩))]) ∧ Er w' (.iface 83 (.pointer (some ⟨b, 0, none⟩))) 2 0 ∧ Below y.heap.size y w') := fun y => prove_no y av L.length cp i hi
  clear hL hE hf hr
  generalize (bys (root F L)).toArray = Y at *
  generalize L.length = n at *
  by_cases n0 : i < 0
  · clear hi
    go_enter Try.func3, Try.ntmps3
    go_wp2_with (first
      | (go_at_call 9; refine HF.mono ?_; rintro ev w1 ⟨rfl, hw1⟩; replace hw1 := hw1.symm; subst hw1)
      | (go_at_call 11; refine HR.mono ?_; rintro ev w2 ⟨rfl, hb2⟩)
      | (go_at_call 12; refine (HX.out _ hb2).mono ?_; rintro ev w3 ⟨rfl, hb3⟩; have hB3 := nextB hb2 hb3)
      | (go_at_call 13; refine (HP.out _).mono ?_; rintro ev w4 ⟨eb, rfl, hE4, hb4⟩; have hB4 := nextB hB3 hb4; have RA4 := new30 w4; have hA4 := new_below w4 (.cells #[.int .i64 0, .int .i64 0, .slice none 0 0] 30); have h1c := one3 0 0 none 0 0; have hle4 : w4.heap.size ≤ w4.heap.size := Nat.le_refl _)
      | (refine store30 rfl _ _ rfl w4 w4.heap.size _ _ _ h1c rfl rfl _ _ _ RA4 _ hA4 hle4 ?_; intro w5 R5 hb5 _; have hB5 := nextB hB4 hb5; have hE5 := hE4.below hb5; clear RA4)
      | (go_at_call 10; refine (HT.out _).mono ?_; rintro ev w8 ⟨rfl, hb8⟩; have hB8 := nextB hB5 hb8; have hE8 := hE5.below hb8; have R58 := R5.below hb8 R5.lt)
      | (go_at_call 14; refine (HI.out _ _ hE8).mono ?_; rintro ev w9 ⟨rfl, hb9⟩; have hB9 := nextB hB8 hb9; have R59 := R58.below hb9 R58.lt)
      | (refine load30g (by rfl) _ rfl w4.heap.size _ _ _ rfl R59 ?_)
      | (go_at_call 15; refine (HS.out _).mono ?_; rintro ev w10 ⟨rfl, hb10⟩))
    go_ret
    exact ⟨rfl, nextB hB9 hb10⟩
  · have n1 : (n : Int) ≤ i := by omega
    have n2 : (0 : Int) ≤ i := by omega
    clear hi n0
    go_enter Try.func3, Try.ntmps3
    go_wp2_with (first
      | (go_at_call 9; refine HF.mono ?_; rintro ev w1 ⟨rfl, hw1⟩; replace hw1 := hw1.symm; subst hw1)
      | (go_at_call 11; refine HR.mono ?_; rintro ev w2 ⟨rfl, hb2⟩)
      | (go_at_call 12; refine (HX.out _ hb2).mono ?_; rintro ev w3 ⟨rfl, hb3⟩; have hB3 := nextB hb2 hb3)
      | (go_at_call 13; refine (HP.out _).mono ?_; rintro ev w4 ⟨eb, rfl, hE4, hb4⟩; have hB4 := nextB hB3 hb4; have RA4 := new30 w4; have hA4 := new_below w4 (.cells #[.int .i64 0, .int .i64 0, .slice none 0 0] 30); have h1c := one3 0 0 none 0 0; have hle4 : w4.heap.size ≤ w4.heap.size := Nat.le_refl _)
      | (refine store30 rfl _ _ rfl w4 w4.heap.size _ _ _ h1c rfl rfl _ _ _ RA4 _ hA4 hle4 ?_; intro w5 R5 hb5 _; have hB5 := nextB hB4 hb5; have hE5 := hE4.below hb5; clear RA4)
      | (go_at_call 10; refine (HT.out _).mono ?_; rintro ev w8 ⟨rfl, hb8⟩; have hB8 := nextB hB5 hb8; have hE8 := hE5.below hb8; have R58 := R5.below hb8 R5.lt)
      | (go_at_call 14; refine (HI.out _ _ hE8).mono ?_; rintro ev w9 ⟨rfl, hb9⟩; have hB9 := nextB hB8 hb9; have R59 := R58.below hb9 R58.lt)
      | (refine load30g (by rfl) _ rfl w4.heap.size _ _ _ rfl R59 ?_)
      | (go_at_call 15; refine (HS.out _).mono ?_; rintro ev w10 ⟨rfl, hb10⟩))
    go_ret
    exact ⟨rfl, nextB hB9 hb10⟩
theorem roots_walk (F : Bys → Bys) (E : Env2 F) (w : World) (v : Value) (L : List Bys) (hL : Ls w v L) (hl : L.length ≤ 9223372036854775807) (hE : ∀ b ∈ L, b.length ≤ 9223372036854775807) (i : Int) :
    Calls Try.prog 3 #[v, .int .i64 i] w fun ev w' => ev = .returned (.bool true) ∧ Below w.heap.size w w' := by
  by_cases hf : fewB L = true
  · by_cases hi : 0 ≤ i ∧ i < (L.length : Int)
    · obtain ⟨j, rfl⟩ : ∃ j : Nat, i = (j : Int) := ⟨i.toNat, by omega⟩
      exact roots_in F E w v L hL hE hf j (by omega)
    · exact roots_out F E w v L hL hE hf i hi
  · exact roots_told F E w v L hL hl hE i (by simpa using hf)
end Go.Proofs.Ytfkibbpekngciaa
