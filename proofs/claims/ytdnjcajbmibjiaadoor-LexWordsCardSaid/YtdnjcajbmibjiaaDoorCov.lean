/-
  LexCovers.
-/
import Derived.Test.YtdnjcajbmibjiaaDoorRds
namespace Go.Proofs.YtdnjcajbmibjiaaDoor
open Go.RowKit

/-- From the place e on, behind a token's end, these are the tokens that are left. -/
structure Cv (s : List UInt8) (e : Nat) (R : List Tok) : Prop where
  le : e ≤ s.length
  eq : lxr (s.length - (e + skp false (s.drop e)) + 1) (e + skp false (s.drop e)) (s.drop (e + skp false (s.drop e))) = (R, none)
theorem Cv.start {s : List UInt8} {T : List Tok} (h : lexF s = (T, none)) : Cv s 0 T := by
  refine ⟨by omega, ?_⟩
  rw [lexF_start] at h
  rw [List.drop_zero, Nat.zero_add]
  exact h
theorem text_len {k : Nat} {x : List UInt8} (h1 : 1 ≤ x.length) : (textOf k x).length + (if k = 3 then 1 else 0) = x.length := by
  unfold textOf
  split
  · rw [List.length_drop]; omega
  · omega
/-- The next token, and what is left behind it. -/
theorem Cv.next {s : List UInt8} {e : Nat} {t : Tok} {R : List Tok} (h : Cv s e (t :: R)) : ∃ q, e + skp false (s.drop e) = q ∧ e ≤ q ∧ q ≤ s.length ∧ t.place = q ∧
    ((q = s.length ∧ t.kind = 0 ∧ t.text = [] ∧ R = []) ∨ (∃ n, 1 ≤ t.kind ∧ q + n ≤ s.length ∧ 1 ≤ n ∧ t.text.length + (if t.kind = 3 then 1 else 0) = n ∧ t.text = (s.drop (q + (n - t.text.length))).take t.text.length ∧ Cv s (q + n) R ∧ R ≠ [])) := by
  have hs := skp_le false (s.drop e)
  rw [List.length_drop] at hs
  have hle := h.le
  have heq := h.eq
  refine ⟨e + skp false (s.drop e), rfl, by omega, by omega, ?_⟩
  have hq : e + skp false (s.drop e) ≤ s.length := by omega
  generalize e + skp false (s.drop e) = q at *
  rcases Nat.lt_or_ge q s.length with h1 | h1
  · cases ht : tokF (s.drop q) with
    | none =>
      rw [drop_cons s q h1] at heq ht
      rw [lxr_none _ _ _ _ ht] at heq
      cases heq
    | some kn =>
      obtain ⟨k, n⟩ := kn
      rw [lxr_step s q k n h1 ht] at heq
      injection heq with e1 e2
      injection e1 with e1 e3
      have hn := tokF_le ht
      rw [List.length_drop] at hn
      have hlt : ((s.drop q).take n).length = n := by rw [List.length_take, List.length_drop]; omega
      subst e1
      refine ⟨rfl, .inr ⟨n, (tokF_kind ht).1, by omega, hn.1, ?_, ?_, ⟨by omega, ?_⟩, ?_⟩⟩
      · have := text_len (k := k) (x := (s.drop q).take n) (by omega)
        rw [hlt] at this
        exact this
      · show textOf k ((s.drop q).take n) = (s.drop (q + (n - (textOf k ((s.drop q).take n)).length))).take (textOf k ((s.drop q).take n)).length
        have hl := text_len (k := k) (x := (s.drop q).take n) (by omega)
        rw [hlt] at hl
        unfold textOf at hl ⊢
        by_cases hk : k = 3
        · simp only [if_pos hk] at hl ⊢
          rw [show n - ((List.take n (List.drop q s)).drop 1).length = 1 by omega, show ((List.take n (List.drop q s)).drop 1).length = n - 1 by omega]
          rw [← List.drop_drop, List.drop_take]
        · simp only [if_neg hk] at hl ⊢
          rw [hlt, Nat.sub_self, Nat.add_zero]
      · rw [← e3, ← e2]
      · rw [← e3]
        intro hnil
        have hsk := skp_le false (s.drop (q + n))
        rw [List.length_drop] at hsk
        generalize q + n + skp false (s.drop (q + n)) = z at *
        rcases Nat.lt_or_ge z s.length with hz | hz
        · cases htz : tokF (s.drop z) with
          | none =>
            rw [drop_cons s z hz] at e2 htz
            rw [lxr_none _ _ _ _ htz] at e2
            cases e2
          | some kn =>
            obtain ⟨k', n'⟩ := kn
            rw [lxr_step s z k' n' hz htz] at hnil
            cases hnil
        · rw [List.drop_of_length_le hz] at hnil
          simp [lxr] at hnil
  · have hq' : q = s.length := by omega
    subst hq'
    rw [List.drop_length] at heq
    simp only [lxr] at heq
    injection heq with e1 e2
    injection e1 with e1 e3
    subst e1
    exact ⟨rfl, .inl ⟨rfl, rfl, rfl, e3.symm⟩⟩
theorem Cv.last {s : List UInt8} {e : Nat} (h : Cv s e []) : False := by
  have heq := h.eq
  generalize e + skp false (s.drop e) = q at *
  rcases Nat.lt_or_ge q s.length with h1 | h1
  · cases ht : tokF (s.drop q) with
    | none =>
      rw [drop_cons s q h1] at heq ht
      rw [lxr_none _ _ _ _ ht] at heq
      cases heq
    | some kn =>
      obtain ⟨k, n⟩ := kn
      rw [lxr_step s q k n h1 ht] at heq
      cases heq
  · rw [List.drop_of_length_le h1] at heq
    simp [lxr] at heq
/-- Within a gap: one byte on. -/
theorem gap_next {s : List UInt8} {m : Bool} {k q : Nat} (hk : k < q) (hq : q ≤ s.length) (h : k + skp m (s.drop k) = q) :
    (m = true ∧ (s.getD k 0).toNat = 10 ∧ k + 1 + skp false (s.drop (k + 1)) = q) ∨ (m = true ∧ (s.getD k 0).toNat ≠ 10 ∧ k + 1 + skp true (s.drop (k + 1)) = q) ∨
    (m = false ∧ ((s.getD k 0).toNat = 32 ∨ (s.getD k 0).toNat = 9 ∨ (s.getD k 0).toNat = 10) ∧ k + 1 + skp false (s.drop (k + 1)) = q) ∨
    (m = false ∧ (s.getD k 0).toNat = 47 ∧ k + 1 < q ∧ (s.getD (k + 1) 0).toNat = 47 ∧ k + 1 + skp true (s.drop (k + 1)) = q) := by
  rw [drop_cons s k (by omega)] at h
  cases m
  · simp only [skp] at h
    by_cases hb : isBl (s.getD k 0) = true
    · rw [if_pos hb] at h
      simp only [isBl, Bool.or_eq_true, decide_eq_true_eq] at hb
      exact .inr (.inr (.inl ⟨rfl, by omega, by omega⟩))
    · rw [if_neg hb] at h
      by_cases h2 : (decide ((s.getD k 0).toNat = 47) && ((s.drop (k + 1)).head? == some 47)) = true
      · rw [if_pos h2] at h
        simp only [Bool.and_eq_true, decide_eq_true_eq] at h2
        obtain ⟨h3, h4⟩ := h2
        have hlt : k + 1 < s.length := by
          cases hd : s.drop (k + 1) with
          | nil => rw [hd] at h4; simp at h4
          | cons d u =>
            have := congrArg List.length hd
            simp at this
            omega
        rw [drop_cons s (k + 1) hlt] at h4
        have h5 : s.getD (k + 1) 0 = 47 := by simpa using h4
        refine .inr (.inr (.inr ⟨rfl, h3, ?_, by rw [h5]; rfl, by omega⟩))
        rw [drop_cons s (k + 1) hlt] at h
        simp only [skp] at h
        omega
      · rw [if_neg h2] at h; omega
  · simp only [skp] at h
    by_cases h10 : (s.getD k 0).toNat = 10
    · rw [decide_eq_true h10] at h
      exact .inl ⟨rfl, h10, by simpa [Nat.add_assoc] using h⟩
    · rw [decide_eq_false h10] at h
      exact .inr (.inl ⟨rfl, h10, by simpa [Nat.add_assoc] using h⟩)

theorem drop_next {T R : List Tok} {t : Tok} {i : Nat} (h : T.drop i = t :: R) : T.drop (i + 1) = R ∧ T[i]? = some t ∧ i + 1 + R.length = T.length := by
  have hi : i < T.length := by
    have := congrArg List.length h
    simp at this
    omega
  have e := List.drop_eq_getElem_cons hi
  rw [h] at e
  injection e with e1 e2
  refine ⟨e2.symm, by rw [List.getElem?_eq_getElem hi, e1], ?_⟩
  rw [e2, List.length_drop]; omega

set_option maxHeartbeats 16000000 in
set_option maxRecDepth 40000 in
theorem covers_ok (l : List UInt8) (hl : l.length ≤ 3000) (w : World) (hg : Glob w) (T : List Tok) (hT : lexF l = (T, none)) : Calls Tryd.prog 6 #[.string (str l)] w fun ev w' => ev = .returned (.bool true) ∧ Below w.heap.size w w' := by
  have hsz := str_size l
  have CT : Hid (∀ y, Below w.heap.size w y → Calls Tryd.prog 11 #[] y fun ev w' => ev = .returned (.bool true) ∧ Below y.heap.size y w') := fun y hy => told_any y (hg.below hy)
  have hlen : T.length ≤ l.length + 1 := by have := lex_len l; rw [hT] at this; exact this
  have hS0 : Hid (Cv l 0 T) := Cv.start hT
  have h1 : 1 ≤ T.length := by
    cases T with
    | nil => exact absurd hS0.out (fun h => h.last)
    | cons _ _ => simp
  have L := lex_toks l (by omega) T hT h1 w hg
  have h' : ¬ (3000 : Int) < (l.length : Int) := by omega
  have HM : Hid (∀ a b : Nat, (str l).extract a (a + b) = str ((l.drop a).take b)) := fun a b => by rw [str_mid]; congr 3; omega
  obtain ⟨S, hS⟩ : ∃ S, S = str l := ⟨_, rfl⟩
  have HX : Hid (∀ k (h : k < S.size), (S[k]'h).toNat = (l.getD k 0).toNat) := by
    intro k h
    subst hS
    rw [str_at]
  rw [← hS] at hsz L HM ⊢
  obtain ⟨N, hN⟩ : ∃ N, N = T.length := ⟨_, rfl⟩
  have HN : Hid (N = T.length) := hN
  rw [← hN] at L hlen h1
  clear hg hT hS hN
  go_enter Tryd.func6, Tryd.ntmps6
  go_wp2_with fail
  refine L.mono ?_
  rintro ev w1 ⟨b, cap, rfl, hs, hcap, hb1⟩
  have HT : Hid (∀ y, Below w1.heap.size w1 y → Ts y (.slice (some ⟨b, 0, none⟩) N cap) T) := fun y hy => hs.below hy
  have HB1 : Hid (Below w.heap.size w w1) := hb1
  clear L hs hb1
  go_wp2_with fail
  go_loopw [5, 6] (fun e i wr => ∃ k j : Nat, e = .int .i64 (k : Int) ∧ i = .int .i64 (j : Int) ∧ j ≤ N ∧ (Cv l k (T.drop j) ∨ (j = N ∧ k = l.length)) ∧ Below w1.heap.size w1 wr) (fun _ i _ => N - (intOf i).toNat)
  case atStart => exact ⟨0, 0, rfl, rfl, by omega, .inl hS0.out, Below.refl _ _⟩
  case round =>
    obtain ⟨k, j, rfl, rfl, hj, hc, hb⟩ := hrel
    clear hS0
    have HB : Hid (Below w1.heap.size w1 wr) := hb
    by_cases h3 : j < N
    · have hc' : Cv l k (T.drop j) := by
        rcases hc with h | ⟨h, _⟩
        · exact h
        · omega
      obtain ⟨t, R, hd⟩ : ∃ t R, T.drop j = t :: R := by
        cases hd : T.drop j with
        | nil =>
          have := congrArg List.length hd
          simp at this
          have := HN.out
          omega
        | cons t R => exact ⟨t, R, rfl⟩
      rw [hd] at hc'
      obtain ⟨hd1, htj, hlenR⟩ := drop_next hd
      obtain ⟨q, hq1, hq2, hq3, hq4, hcase⟩ := hc'.next
      obtain ⟨x0, x1, x2⟩ := (HT.out wr hb).three j t htj
      rw [hq4] at x2
      have HQ : Hid (k + skp false (l.drop k) = q) := hq1
      have HO : Hid (Below w1.heap.size w1 (wr.alloc (.cells #[.int .i64 (t.kind : Int), .string (str t.text), .int .i64 (q : Int)] 29))) := hb.alloc hb.size _
      have i1 : (j : Int) < (N : Int) := by omega
      have i2 : ¬ (q : Int) < (k : Int) := by omega
      have i2' : decide ((q : Int) < (k : Int)) = false := decide_eq_false i2
      have i3 : ¬ (l.length : Int) < (q : Int) := by omega
      have i3' : decide ((l.length : Int) < (q : Int)) = false := decide_eq_false i3
      clear hc hc' hd hq1 hq4 htj hb
      rw [← HN.out] at hlenR
      obtain ⟨W, hW⟩ : ∃ W, W = wr.alloc (.cells #[.int .i64 (t.kind : Int), .string (str t.text), .int .i64 (q : Int)] 29) := ⟨_, rfl⟩
      have y0 : W.cell? ⟨wr.heap.size, 0, none⟩ = some (.int .i64 (t.kind : Int)) := by rw [hW]; exact (Row.new wr 29 [.int .i64 (t.kind : Int), .string (str t.text), .int .i64 (q : Int)]).cell 0
      have y1 : W.cell? ⟨wr.heap.size, 1, none⟩ = some (.string (str t.text)) := by rw [hW]; exact (Row.new wr 29 [.int .i64 (t.kind : Int), .string (str t.text), .int .i64 (q : Int)]).cell 1
      have y2 : W.cell? ⟨wr.heap.size, 2, none⟩ = some (.int .i64 (q : Int)) := by rw [hW]; exact (Row.new wr 29 [.int .i64 (t.kind : Int), .string (str t.text), .int .i64 (q : Int)]).cell 2
      have AW : Aside (W = wr.alloc (.cells #[.int .i64 (t.kind : Int), .string (str t.text), .int .i64 (q : Int)] 29)) := hW
      rw [← hW] at HO
      clear hW
      rcases hcase with ⟨e1, e2, e3, e4⟩ | ⟨n, n1, n2, n3, n4, n5, n6, n7⟩
      · rw [e2] at y0 x0 AW
        have i2n : decide (q < k) = false := decide_eq_false (by omega)
        have i3n : decide (l.length < q) = false := decide_eq_false (by omega)
        have wr1 : IntKind.i64.wrap ((l.length : Int) - (q : Int)) = (l.length : Int) - (q : Int) := by rw [IntKind.wrap_i64]; omega
        have wr2 : IntKind.i64.wrap ((N : Int) - 1) = (N : Int) - 1 := by rw [IntKind.wrap_i64]; omega
        rw [e3] at y1 x1 AW
        have hs0 : (str ([] : List UInt8)) = ⟨#[]⟩ := rfl
        rw [hs0] at y1 x1 AW
        have hjl : (j : Int) = (N : Int) - 1 := by rw [e4] at hlenR; simp at hlenR; omega
        have hjN : N = j + 1 := by rw [e4] at hlenR; simp at hlenR; omega
        have HE : Hid (j + 1 = N ∧ q = l.length) := ⟨by omega, e1⟩
        have i4 : ¬ (l.length : Int) - (q : Int) < 0 := by omega
        have i4' : decide ((l.length : Int) - (q : Int) < 0) = false := decide_eq_false i4
        have b1 : ((j : Int) == (N : Int) - 1) = true := by rw [beq_iff_eq]; exact hjl
        have hM : S.extract q q = ⟨#[]⟩ := by
          have := HM.out q 0
          simpa [str] using this
        clear e1 e2 e3 e4 hd1 hlenR HM hs0 hjl hjN
        go_wp2_with fail
        refine wp_at_world AW.out ?_
        go_quiet (fail)
        go_wp2_with fail
        go_loopw [9, 10] (fun m i wr => ∃ kk : Nat, ∃ mm : Bool, ∃ z : Nat, k ≤ kk ∧ kk ≤ q ∧ kk + skp mm (l.drop kk) = q ∧ m = .bool mm ∧ i = .int .i64 (kk : Int) ∧ wr = W.drewN z) (fun _ i _ => q - (intOf i).toNat)
        case atStart => exact ⟨k, false, _, by omega, by omega, HQ.out, rfl, rfl, rfl⟩
        case round =>
          obtain ⟨kk, mm, z, hk1, hk2, hk3, rfl, rfl, rfl⟩ := hrel
          clear HQ
          by_cases h5 : kk < q
          · have hkS : kk < S.size := by omega
            have hx := HX.out kk hkS
            have j1 : (kk : Int) < (q : Int) := by omega
            rcases gap_next h5 hq3 hk3 with ⟨rfl, h10, hP⟩ | ⟨rfl, h10, hP⟩ | ⟨rfl, hbl, hP⟩ | ⟨rfl, h47, hk47, h47', hP⟩
            · have HP : Hid _ := hP
              rw [h10] at hx
              clear hk3 hP h10 HX
              go_wp2_with fail
              go_roundw
              case rel => exact ⟨kk + 1, false, z, by omega, by omega, HP.out, rfl, by go_num, rfl⟩
              case measure => simp [intOf]; omega
            · have HP : Hid _ := hP
              have n10 : ((l.getD kk 0).toNat : Int) ≠ 10 := by omega
              have m10 : (((l.getD kk 0).toNat : Int) == 10) = false := by rw [beq_eq_false_iff_ne]; exact n10
              have m11 : (((l.getD kk 0).toNat : Int) != 10) = true := by rw [bne, m10]; rfl
              clear hk3 hP h10 HX
              generalize (l.getD kk 0).toNat = x at *
              go_wp2_with fail
              go_roundw
              case rel => exact ⟨kk + 1, true, z, by omega, by omega, HP.out, rfl, by go_num, rfl⟩
              case measure => simp [intOf]; omega
            · have HP : Hid _ := hP
              clear hk3 hP HX
              generalize (l.getD kk 0).toNat = x at *
              rcases hbl with rfl | rfl | rfl
              · skip
                go_wp2_with fail
                go_roundw
                case rel => exact ⟨kk + 1, false, z, by omega, by omega, HP.out, rfl, by go_num, rfl⟩
                case measure => simp [intOf]; omega
              · skip
                go_wp2_with fail
                go_roundw
                case rel => exact ⟨kk + 1, false, z, by omega, by omega, HP.out, rfl, by go_num, rfl⟩
                case measure => simp [intOf]; omega
              · skip
                go_wp2_with fail
                go_roundw
                case rel => exact ⟨kk + 1, false, z, by omega, by omega, HP.out, rfl, by go_num, rfl⟩
                case measure => simp [intOf]; omega
            · have HP : Hid _ := hP
              have hkS1 : kk + 1 < S.size := by omega
              have hx1 := HX.out (kk + 1) hkS1
              rw [h47] at hx
              rw [h47'] at hx1
              have j2 : (kk : Int) + 1 < (q : Int) := by omega
              clear hk3 hP h47 h47' HX
              go_wp2_with fail
              go_roundw
              case rel => exact ⟨kk + 1, true, z, by omega, by omega, HP.out, rfl, by go_num, rfl⟩
              case measure => simp [intOf]; omega
          · obtain rfl : kk = q := by omega
            clear hk3 HX
            go_wp2_with fail
            go_roundw
            case rel => exact ⟨kk, j + 1, by go_num, by go_num, by omega, .inr HE.out, below_drewN HO.out _⟩
            case measure => simp [intOf]; omega
      · have hs1 := str_size t.text
        have i2n : decide (q < k) = false := decide_eq_false (by omega)
        have i3n : decide (l.length < q) = false := decide_eq_false (by omega)
        have wr1 : IntKind.i64.wrap ((l.length : Int) - (q : Int)) = (l.length : Int) - (q : Int) := by rw [IntKind.wrap_i64]; omega
        have wr2 : IntKind.i64.wrap ((N : Int) - 1) = (N : Int) - 1 := by rw [IntKind.wrap_i64]; omega
        have hk0 : (t.kind : Int) ≠ 0 := by omega
        have hk0' : ((t.kind : Int) == 0) = false := by rw [beq_eq_false_iff_ne]; exact hk0
        have hjl : j + 1 < N := by
          have : 1 ≤ R.length := by cases R with | nil => exact absurd rfl n7 | cons _ _ => simp
          omega
        have hjn : (j : Int) ≠ (N : Int) - 1 := by omega
        have hjn' : ((j : Int) == (N : Int) - 1) = false := by rw [beq_eq_false_iff_ne]; exact hjn
        have HC : Hid (Cv l (q + n) (T.drop (j + 1))) := by rw [hd1]; exact n6
        by_cases h3k : t.kind = 3
        · rw [if_pos h3k] at n4
          rw [show n - t.text.length = 1 by omega] at n5
          have hM := HM.out (q + 1) t.text.length
          rw [← n5] at hM
          rw [h3k] at y0 x0 AW
          have i4 : ¬ (l.length : Int) - (q : Int) < (t.text.length : Int) + 1 := by omega
          have i4' : decide ((l.length : Int) - (q : Int) < (t.text.length : Int) + 1) = false := decide_eq_false i4
          have a1 : (q : Int) + ((t.text.length : Int) + 1) - (t.text.length : Int) = (q : Int) + 1 := by omega
          have a2 : (q : Int) + ((t.text.length : Int) + 1) = ((q + 1 + t.text.length : Nat) : Int) := by omega
          obtain rfl : n = t.text.length + 1 := by omega
          have wr3 : IntKind.i64.wrap ((q : Int) + ((t.text.length : Int) + 1)) = (q : Int) + ((t.text.length : Int) + 1) := by rw [IntKind.wrap_i64]; omega
          have wr4 : IntKind.i64.wrap ((q : Int) + ((t.text.length : Int) + 1) - (t.text.length : Int)) = (q : Int) + 1 := by rw [IntKind.wrap_i64]; omega
          clear hk0 hk0' n5 n6 n7 hd1 h3k hlenR HM n1
          generalize str t.text = S1 at *
          generalize t.text.length = tl at *
          go_wp2_with fail
          refine wp_at_world AW.out ?_
          go_quiet (fail)
          go_wp2_with fail
          go_loopw [9, 10] (fun m i wr => ∃ kk : Nat, ∃ mm : Bool, ∃ z : Nat, k ≤ kk ∧ kk ≤ q ∧ kk + skp mm (l.drop kk) = q ∧ m = .bool mm ∧ i = .int .i64 (kk : Int) ∧ wr = W.drewN z) (fun _ i _ => q - (intOf i).toNat)
          case atStart => exact ⟨k, false, _, by omega, by omega, HQ.out, rfl, rfl, rfl⟩
          case round =>
            obtain ⟨kk, mm, z, hk1, hk2, hk3, rfl, rfl, rfl⟩ := hrel
            clear HQ
            by_cases h5 : kk < q
            · have hkS : kk < S.size := by omega
              have hx := HX.out kk hkS
              have j1 : (kk : Int) < (q : Int) := by omega
              rcases gap_next h5 hq3 hk3 with ⟨rfl, h10, hP⟩ | ⟨rfl, h10, hP⟩ | ⟨rfl, hbl, hP⟩ | ⟨rfl, h47, hk47, h47', hP⟩
              · have HP : Hid _ := hP
                rw [h10] at hx
                clear hk3 hP h10 HX
                go_wp2_with fail
                go_roundw
                case rel => exact ⟨kk + 1, false, z, by omega, by omega, HP.out, rfl, by go_num, rfl⟩
                case measure => simp [intOf]; omega
              · have HP : Hid _ := hP
                have n10 : ((l.getD kk 0).toNat : Int) ≠ 10 := by omega
                have m10 : (((l.getD kk 0).toNat : Int) == 10) = false := by rw [beq_eq_false_iff_ne]; exact n10
                have m11 : (((l.getD kk 0).toNat : Int) != 10) = true := by rw [bne, m10]; rfl
                clear hk3 hP h10 HX
                generalize (l.getD kk 0).toNat = x at *
                go_wp2_with fail
                go_roundw
                case rel => exact ⟨kk + 1, true, z, by omega, by omega, HP.out, rfl, by go_num, rfl⟩
                case measure => simp [intOf]; omega
              · have HP : Hid _ := hP
                clear hk3 hP HX
                generalize (l.getD kk 0).toNat = x at *
                rcases hbl with rfl | rfl | rfl
                · skip
                  go_wp2_with fail
                  go_roundw
                  case rel => exact ⟨kk + 1, false, z, by omega, by omega, HP.out, rfl, by go_num, rfl⟩
                  case measure => simp [intOf]; omega
                · skip
                  go_wp2_with fail
                  go_roundw
                  case rel => exact ⟨kk + 1, false, z, by omega, by omega, HP.out, rfl, by go_num, rfl⟩
                  case measure => simp [intOf]; omega
                · skip
                  go_wp2_with fail
                  go_roundw
                  case rel => exact ⟨kk + 1, false, z, by omega, by omega, HP.out, rfl, by go_num, rfl⟩
                  case measure => simp [intOf]; omega
              · have HP : Hid _ := hP
                have hkS1 : kk + 1 < S.size := by omega
                have hx1 := HX.out (kk + 1) hkS1
                rw [h47] at hx
                rw [h47'] at hx1
                have j2 : (kk : Int) + 1 < (q : Int) := by omega
                clear hk3 hP h47 h47' HX
                go_wp2_with fail
                go_roundw
                case rel => exact ⟨kk + 1, true, z, by omega, by omega, HP.out, rfl, by go_num, rfl⟩
                case measure => simp [intOf]; omega
            · obtain rfl : kk = q := by omega
              clear hk3 HX
              go_wp2_with fail
              go_roundw
              case rel => exact ⟨kk + (tl + 1), j + 1, by go_num, by go_num, by omega, .inl HC.out, below_drewN HO.out _⟩
              case measure => simp [intOf]; omega
        · rw [if_neg h3k] at n4
          have h3i : (t.kind : Int) ≠ 3 := by omega
          have h3i' : ((t.kind : Int) == 3) = false := by rw [beq_eq_false_iff_ne]; exact h3i
          rw [show n - t.text.length = 0 by omega, Nat.add_zero] at n5
          have hM := HM.out q t.text.length
          rw [← n5] at hM
          obtain rfl : n = t.text.length := by omega
          have i4 : ¬ (l.length : Int) - (q : Int) < (t.text.length : Int) := by omega
          have i4' : decide ((l.length : Int) - (q : Int) < (t.text.length : Int)) = false := decide_eq_false i4
          have hk0n : (t.kind == 0) = false := by rw [beq_eq_false_iff_ne]; omega
          have wr3 : IntKind.i64.wrap ((q : Int) + (t.text.length : Int)) = (q : Int) + (t.text.length : Int) := by rw [IntKind.wrap_i64]; omega
          have wr4 : IntKind.i64.wrap ((q : Int) + (t.text.length : Int) - (t.text.length : Int)) = (q : Int) := by rw [IntKind.wrap_i64]; omega
          have wr5 : IntKind.i64.wrap (q : Int) = (q : Int) := by rw [IntKind.wrap_i64]; omega
          clear n5 n6 n7 hd1 h3k hlenR HM n4
          generalize str t.text = S1 at *
          generalize t.text.length = tl at *
          generalize t.kind = tk at *
          go_wp2_with fail
          refine wp_at_world AW.out ?_
          go_quiet (fail)
          go_wp2_with fail
          go_loopw [9, 10] (fun m i wr => ∃ kk : Nat, ∃ mm : Bool, ∃ z : Nat, k ≤ kk ∧ kk ≤ q ∧ kk + skp mm (l.drop kk) = q ∧ m = .bool mm ∧ i = .int .i64 (kk : Int) ∧ wr = W.drewN z) (fun _ i _ => q - (intOf i).toNat)
          case atStart => exact ⟨k, false, _, by omega, by omega, HQ.out, rfl, rfl, rfl⟩
          case round =>
            obtain ⟨kk, mm, z, hk1, hk2, hk3, rfl, rfl, rfl⟩ := hrel
            clear HQ
            by_cases h5 : kk < q
            · have hkS : kk < S.size := by omega
              have hx := HX.out kk hkS
              have j1 : (kk : Int) < (q : Int) := by omega
              rcases gap_next h5 hq3 hk3 with ⟨rfl, h10, hP⟩ | ⟨rfl, h10, hP⟩ | ⟨rfl, hbl, hP⟩ | ⟨rfl, h47, hk47, h47', hP⟩
              · have HP : Hid _ := hP
                rw [h10] at hx
                clear hk3 hP h10 HX
                go_wp2_with fail
                go_roundw
                case rel => exact ⟨kk + 1, false, z, by omega, by omega, HP.out, rfl, by go_num, rfl⟩
                case measure => simp [intOf]; omega
              · have HP : Hid _ := hP
                have n10 : ((l.getD kk 0).toNat : Int) ≠ 10 := by omega
                have m10 : (((l.getD kk 0).toNat : Int) == 10) = false := by rw [beq_eq_false_iff_ne]; exact n10
                have m11 : (((l.getD kk 0).toNat : Int) != 10) = true := by rw [bne, m10]; rfl
                clear hk3 hP h10 HX
                generalize (l.getD kk 0).toNat = x at *
                go_wp2_with fail
                go_roundw
                case rel => exact ⟨kk + 1, true, z, by omega, by omega, HP.out, rfl, by go_num, rfl⟩
                case measure => simp [intOf]; omega
              · have HP : Hid _ := hP
                clear hk3 hP HX
                generalize (l.getD kk 0).toNat = x at *
                rcases hbl with rfl | rfl | rfl
                · skip
                  go_wp2_with fail
                  go_roundw
                  case rel => exact ⟨kk + 1, false, z, by omega, by omega, HP.out, rfl, by go_num, rfl⟩
                  case measure => simp [intOf]; omega
                · skip
                  go_wp2_with fail
                  go_roundw
                  case rel => exact ⟨kk + 1, false, z, by omega, by omega, HP.out, rfl, by go_num, rfl⟩
                  case measure => simp [intOf]; omega
                · skip
                  go_wp2_with fail
                  go_roundw
                  case rel => exact ⟨kk + 1, false, z, by omega, by omega, HP.out, rfl, by go_num, rfl⟩
                  case measure => simp [intOf]; omega
              · have HP : Hid _ := hP
                have hkS1 : kk + 1 < S.size := by omega
                have hx1 := HX.out (kk + 1) hkS1
                rw [h47] at hx
                rw [h47'] at hx1
                have j2 : (kk : Int) + 1 < (q : Int) := by omega
                clear hk3 hP h47 h47' HX
                go_wp2_with fail
                go_roundw
                case rel => exact ⟨kk + 1, true, z, by omega, by omega, HP.out, rfl, by go_num, rfl⟩
                case measure => simp [intOf]; omega
            · obtain rfl : kk = q := by omega
              clear hk3 HX
              go_wp2_with fail
              go_roundw
              case rel => exact ⟨kk + tl, j + 1, by go_num, by go_num, by omega, .inl HC.out, below_drewN HO.out _⟩
              case measure => simp [intOf]; omega
    · obtain rfl : j = N := by omega
      have hke : k = l.length := by
        rcases hc with h | ⟨_, h⟩
        · exfalso
          rw [List.drop_of_length_le (by rw [← HN.out]; omega)] at h
          exact h.last
        · exact h
      subst hke
      have HB2 : Hid (Below w.heap.size w wr) := nextB HB1.out hb
      clear hc hb HX HM HT HN
      go_wp2_with fail
      refine (CT.out _ HB2.out).mono ?_
      rintro ev w3 ⟨rfl, hb3⟩
      go_wp2_with fail
      go_ret
      refine ⟨?_, nextB HB2.out hb3⟩
      first | rfl | simp

set_option maxHeartbeats 4000000 in
theorem covers_walk (l : List UInt8) (hl : l.length ≤ 9223372036854775807) (w : World) (hg : Glob w) : Calls Tryd.prog 6 #[.string (str l)] w fun ev w' => ev = .returned (.bool true) ∧ Below w.heap.size w w' := by
  have hsz := str_size l
  have CT : Hid (∀ y, Below w.heap.size w y → Calls Tryd.prog 11 #[] y fun ev w' => ev = .returned (.bool true) ∧ Below y.heap.size y w') := fun y hy => told_any y (hg.below hy)
  by_cases h : 3000 < l.length
  · have h' : (3000 : Int) < (l.length : Int) := by omega
    clear hg
    generalize str l = S at *
    generalize l.length = n at *
    go_enter Tryd.func6, Tryd.ntmps6
    go_wp2_with fail
    refine (CT.out _ (Below.refl _ _)).mono ?_
    rintro ev w1 ⟨rfl, hb1⟩
    go_wp2_with fail
    go_ret
    exact ⟨rfl, hb1⟩
  · cases hx : lexF l with
    | mk T o =>
      cases o with
      | none => exact covers_ok l (by omega) w hg T hx
      | some p =>
        have h' : ¬ (3000 : Int) < (l.length : Int) := by omega
        have L := lex_bad l (by omega) p (by rw [hx]) w hg
        clear hx hg
        generalize str l = S at *
        generalize l.length = n at *
        go_enter Tryd.func6, Tryd.ntmps6
        go_wp2_with fail
        refine L.mono ?_
        rintro ev w1 ⟨e, rfl, hE, hb1⟩
        obtain ⟨b0, rfl, -⟩ := hE.shape
        clear L hE
        go_wp2_with fail
        refine (CT.out _ hb1).mono ?_
        rintro ev w2 ⟨rfl, hb2⟩
        go_wp2_with fail
        go_ret
        exact ⟨rfl, nextB hb1 hb2⟩
end Go.Proofs.YtdnjcajbmibjiaaDoor
