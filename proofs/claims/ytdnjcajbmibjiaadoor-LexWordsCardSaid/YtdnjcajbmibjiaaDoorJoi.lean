/-
  LexJoined.
-/
import Derived.Test.YtdnjcajbmibjiaaDoorJmt
namespace Go.Proofs.YtdnjcajbmibjiaaDoor
open Go.RowKit

theorem join_left {X Y : List Tok} {d i : Nat} (h : i < X.length - 1) : (X.dropLast ++ shT d Y)[i]? = X[i]? := by
  rw [List.getElem?_append_left (by rw [List.length_dropLast]; exact h), List.getElem?_dropLast, if_pos h]
theorem join_right {X Y : List Tok} {d i : Nat} (h : ¬ i < X.length - 1) : (X.dropLast ++ shT d Y)[i]? = (Y[i - (X.length - 1)]?).map fun t => ⟨t.kind, t.text, t.place + d⟩ := by
  rw [List.getElem?_append_right (by rw [List.length_dropLast]; omega), List.length_dropLast]
  unfold shT
  rw [List.getElem?_map]
theorem join_len {X Y : List Tok} {d : Nat} : (X.dropLast ++ shT d Y).length = X.length - 1 + Y.length := by
  rw [List.length_append, List.length_dropLast]; simp [shT]
theorem str_app (a b : List UInt8) : str a ++ str b = str (a ++ b) := by
  unfold str
  apply ByteArray.ext
  simp [ByteArray.data_append]

theorem lxr_places : ∀ (f p : Nat) (l : List UInt8) (t : Tok), t ∈ (lxr f p l).1 → t.place ≤ p + l.length
  | 0, p, l, t, h => by simp [lxr] at h
  | f + 1, p, [], t, h => by
    simp [lxr] at h
    subst h
    simp [endTok]
  | f + 1, p, c :: u, t, h => by
    cases hk : tokF (c :: u) with
    | none => rw [lxr_none _ _ _ _ hk] at h; cases h
    | some kn =>
      obtain ⟨k, n⟩ := kn
      rw [lxr_cons _ _ _ _ _ _ hk] at h
      have hn := tokF_le hk
      rcases List.mem_cons.1 h with h | h
      · subst h; simp
      · have hs := skp_le false ((c :: u).drop n)
        have := lxr_places f (p + n + skp false ((c :: u).drop n)) (((c :: u).drop n).drop (skp false ((c :: u).drop n))) t h
        rw [List.length_drop] at hs
        rw [List.length_drop, List.length_drop] at this
        omega
theorem lex_places {l : List UInt8} {T : List Tok} (h : lexF l = (T, none)) (hl : l.length ≤ 1000) (t : Tok) (ht : t ∈ T) : t.place ≤ 1000 := by
  rw [lexF_start] at h
  have hs := skp_le false l
  have := lxr_places (l.length - skp false l + 1) (skp false l) (l.drop (skp false l)) t (by rw [h]; exact ht)
  rw [List.length_drop] at this
  omega
set_option maxHeartbeats 16000000 in
set_option maxRecDepth 20000 in
theorem joined_ok (a b : List UInt8) (ha : a.length ≤ 1000) (hb : b.length ≤ 1000) (w : World) (hg : Glob w) (X Y : List Tok) (hX : lexF a = (X, none)) (hY : lexF b = (Y, none)) :
    Calls Tryd.prog 9 #[.string (str a), .string (str b)] w fun ev w' => ev = .returned (.bool true) ∧ Below w.heap.size w w' := by
  have hsa := str_size a
  have hsb := str_size b
  have CT : Hid (∀ y, Below w.heap.size w y → Calls Tryd.prog 11 #[] y fun ev w' => ev = .returned (.bool true) ∧ Below y.heap.size y w') := fun y hy => told_any y (hg.below hy)
  obtain ⟨hZ, hXn⟩ := lexF_join a b X Y hX hY
  have hX1 : 1 ≤ X.length := by cases X with | nil => exact absurd rfl hXn | cons _ _ => simp
  have hY1 : 1 ≤ Y.length := by
    cases Y with
    | nil => exact absurd (Cv.start hY) (fun h => h.last)
    | cons _ _ => simp
  have hxl : X.length ≤ a.length + 1 := by have := lex_len a; rw [hX] at this; exact this
  have hyl : Y.length ≤ b.length + 1 := by have := lex_len b; rw [hY] at this; exact this
  have L1 := lex_toks a (by omega) X hX hX1 w hg
  have L2 : Hid (∀ y, Below w.heap.size w y → Calls Tryd.prog 10 #[.string (str b)] y fun ev w' => ∃ b' cap, ev = .returned (.tuple #[.slice (some ⟨b', 0, none⟩) Y.length cap, .nilIface]) ∧ Ts w' (.slice (some ⟨b', 0, none⟩) Y.length cap) Y ∧ Y.length ≤ cap ∧ Below y.heap.size y w') := fun y hy => lex_toks b (by omega) Y hY hY1 y (hg.below hy)
  have L3 : Hid (∀ y, Below w.heap.size w y → Calls Tryd.prog 10 #[.string (str (a ++ 10 :: b))] y fun ev w' => ∃ b' cap, ev = .returned (.tuple #[.slice (some ⟨b', 0, none⟩) (X.length - 1 + Y.length) cap, .nilIface]) ∧ Ts w' (.slice (some ⟨b', 0, none⟩) (X.length - 1 + Y.length) cap) (X.dropLast ++ shT (a.length + 1) Y) ∧ Below y.heap.size y w') := fun y hy => by
    have := lex_toks (a ++ 10 :: b) (by rw [List.length_append, List.length_cons]; omega) _ hZ (by rw [join_len]; omega) y (hg.below hy)
    rw [join_len] at this
    exact this.mono fun ev w' ⟨b', cap, e, h1, _, h3⟩ => ⟨b', cap, e, h1, h3⟩
  have hcat : str a ++ ⟨#[10]⟩ ++ str b = str (a ++ 10 :: b) := by
    have : (⟨#[10]⟩ : ByteArray) = str [10] := rfl
    rw [this, str_app, str_app]
    simp
  have ia : ¬ (1000 : Int) < (a.length : Int) := by omega
  have ib : ¬ (1000 : Int) < (b.length : Int) := by omega
  have ia' : decide ((1000 : Int) < (a.length : Int)) = false := decide_eq_false ia
  have ib' : decide ((1000 : Int) < (b.length : Int)) = false := decide_eq_false ib
  have HX : Hid (∀ j, j < X.length - 1 → ∃ t, X[j]? = some t ∧ (X.dropLast ++ shT (a.length + 1) Y)[j]? = some t) := fun j hj => by
    obtain ⟨t, ht⟩ := tok_at X j (by omega)
    exact ⟨t, ht, by rw [join_left hj]; exact ht⟩
  have HY : Hid (∀ j u, ¬ j < X.length - 1 → j < X.length - 1 + Y.length → u = j + 1 - X.length → ∃ t, Y[u]? = some t ∧ (X.dropLast ++ shT (a.length + 1) Y)[j]? = some ⟨t.kind, t.text, t.place + (a.length + 1)⟩) := fun j u hj hj2 hu => by
    obtain ⟨t, ht⟩ := tok_at Y u (by omega)
    refine ⟨t, ht, ?_⟩
    rw [join_right hj, show j - (X.length - 1) = u by omega, ht]; rfl
  have HPl : Hid (∀ (t : Tok) (u : Nat), Y[u]? = some t → t.place ≤ 1000) := fun t u h => lex_places hY hb t (List.mem_of_getElem? h)
  obtain ⟨Z, hZ'⟩ : ∃ Z, Z = X.dropLast ++ shT (a.length + 1) Y := ⟨_, rfl⟩
  rw [← hZ'] at L3 HX HY
  clear hg hX hY hZ hZ' hXn
  obtain ⟨nx, hnx⟩ : ∃ nx, nx = X.length := ⟨_, rfl⟩
  obtain ⟨ny, hny⟩ : ∃ ny, ny = Y.length := ⟨_, rfl⟩
  rw [← hnx] at hX1 hxl L1 L3 HX HY
  rw [← hny] at hY1 hyl L2 L3 HY
  obtain ⟨N, hN⟩ : ∃ N, N = nx - 1 + ny := ⟨_, rfl⟩
  rw [← hN] at L3 HY
  have hNb : ((N : Int) != (nx : Int) - 1 + (ny : Int)) = false := by
    have e : (N : Int) = (nx : Int) - 1 + (ny : Int) := by omega
    rw [e]; simp
  have hNe : ((N : Int) == (nx : Int) - 1 + (ny : Int)) = true := by
    rw [beq_iff_eq]; omega
  have HNN : Hid (N = nx - 1 + ny) := hN
  clear hN
  clear hnx hny
  generalize str (a ++ 10 :: b) = SZ at *
  generalize str a = SA at *
  generalize str b = SB at *
  go_enter Tryd.func9, Tryd.ntmps9
  go_wp2_with fail
  refine L1.mono ?_
  rintro ev w1 ⟨bx, cx, rfl, hsx, hcx, hb1⟩
  clear L1
  go_wp2_with fail
  refine (L2.out _ hb1).mono ?_
  rintro ev w2 ⟨by_, cy, rfl, hsy, hcy, hb2⟩
  clear L2
  have hB2 := nextB hb1 hb2
  go_wp2_with fail
  refine (L3.out _ hB2).mono ?_
  rintro ev w3 ⟨bz, cz, rfl, hsz, hb3⟩
  clear L3
  have HB3 : Hid (Below w.heap.size w w3) := nextB hB2 hb3
  have HT : Hid (∀ y, Below w3.heap.size w3 y → Ts y (.slice (some ⟨bx, 0, none⟩) nx cx) X ∧ Ts y (.slice (some ⟨by_, 0, none⟩) ny cy) Y ∧ Ts y (.slice (some ⟨bz, 0, none⟩) N cz) Z) := fun y hy => ⟨((hsx.below hb2).below hb3).below hy, (hsy.below hb3).below hy, hsz.below hy⟩
  have wr2 : IntKind.i64.wrap ((nx : Int) - 1) = (nx : Int) - 1 := by rw [IntKind.wrap_i64]; omega
  clear hsx hsy hsz hb1 hb2 hb3 hB2 hcx hcy
  go_wp2_with fail
  go_loopw [11] (fun t wr => ∃ j : Nat, j ≤ N ∧ t = .int .i64 (j : Int) ∧ Below w3.heap.size w3 wr) (fun t _ => N - (intOf t).toNat)
  case atStart => exact ⟨0, by omega, rfl, Below.refl _ _⟩
  case round =>
    obtain ⟨j, hj, rfl, hb⟩ := hrel
    have HB : Hid (Below w3.heap.size w3 wr) := hb
    have hNN := HNN.out
    by_cases h3 : j < N
    · have l1 : (j : Int) < (N : Int) := by omega
      by_cases h4 : j < nx - 1
      · obtain ⟨t, t1, t2⟩ := HX.out j h4
        have l2 : (j : Int) < (nx : Int) - 1 := by omega
        have l3 : (j : Int) < (nx : Int) := by omega
        clear hNN
        obtain ⟨W, hW⟩ : ∃ W, W = wr.alloc (.cells #[.int .i64 (t.kind : Int), .string (str t.text), .int .i64 (t.place : Int)] 29) := ⟨_, rfl⟩
        have hbW : Below w3.heap.size w3 W := by rw [hW]; exact hb.alloc hb.size _
        have HBW : Hid (Below w3.heap.size w3 W) := hbW
        have x0 : ∀ o, (wr.alloc o).cell? ⟨bx, j * 3, none⟩ = some (.int .i64 (t.kind : Int)) := fun o => ((HT.out _ (hb.alloc hb.size o)).1.three j t t1).1
        have x1 : ∀ o, (wr.alloc o).cell? ⟨bx, j * 3 + 1, none⟩ = some (.string (str t.text)) := fun o => ((HT.out _ (hb.alloc hb.size o)).1.three j t t1).2.1
        have x2 : ∀ o, (wr.alloc o).cell? ⟨bx, j * 3 + 2, none⟩ = some (.int .i64 (t.place : Int)) := fun o => ((HT.out _ (hb.alloc hb.size o)).1.three j t t1).2.2
        obtain ⟨z0, z1, z2⟩ := (HT.out W hbW).2.2.three j _ t2
        have y0 : W.cell? ⟨wr.heap.size, 0, none⟩ = some (.int .i64 (t.kind : Int)) := by rw [hW]; exact (Row.new wr 29 [.int .i64 (t.kind : Int), .string (str t.text), .int .i64 (t.place : Int)]).cell 0
        have y1 : W.cell? ⟨wr.heap.size, 1, none⟩ = some (.string (str t.text)) := by rw [hW]; exact (Row.new wr 29 [.int .i64 (t.kind : Int), .string (str t.text), .int .i64 (t.place : Int)]).cell 1
        have y2 : W.cell? ⟨wr.heap.size, 2, none⟩ = some (.int .i64 (t.place : Int)) := by rw [hW]; exact (Row.new wr 29 [.int .i64 (t.kind : Int), .string (str t.text), .int .i64 (t.place : Int)]).cell 2
        have AW : Aside (W = wr.alloc (.cells #[.int .i64 (t.kind : Int), .string (str t.text), .int .i64 (t.place : Int)] 29)) := hW
        clear hW hb hbW t1 t2 HT HX HY HPl
        generalize str t.text = S1 at *
        generalize t.kind = tk at *
        generalize t.place = tp at *
        go_wp2_with fail
        refine wp_at_world AW.out ?_
        go_quiet (fail)
        go_wp2_with fail
        go_roundw
        case rel => exact ⟨j + 1, by omega, by go_num, below_drewN HBW.out _⟩
        case measure => simp [intOf]; omega
      · obtain ⟨u, hu⟩ : ∃ u, u = j + 1 - nx := ⟨_, rfl⟩
        obtain ⟨t, t1, t2⟩ := HY.out j u h4 (by omega) hu
        have hpl := HPl.out t u t1
        have l2 : ¬ (j : Int) < (nx : Int) - 1 := by omega
        have l4 : (j : Int) - (nx : Int) + 1 = (u : Int) := by omega
        have l5 : (u : Int) < (ny : Int) := by omega
        have l6 : (0 : Int) ≤ (u : Int) := by omega
        have w5 : IntKind.i64.wrap ((j : Int) - (nx : Int)) = (j : Int) - (nx : Int) := by rw [IntKind.wrap_i64]; omega
        have l7 : (t.place : Int) + (a.length : Int) + 1 = ((t.place + (a.length + 1) : Nat) : Int) := by omega
        obtain ⟨W, hW⟩ : ∃ W, W = wr.alloc (.cells #[.int .i64 (t.kind : Int), .string (str t.text), .int .i64 ((t.place + (a.length + 1) : Nat) : Int)] 29) := ⟨_, rfl⟩
        have hbW : Below w3.heap.size w3 W := by rw [hW]; exact hb.alloc hb.size _
        have HBW : Hid (Below w3.heap.size w3 W) := hbW
        have x0 : ∀ o, (wr.alloc o).cell? ⟨by_, u * 3, none⟩ = some (.int .i64 (t.kind : Int)) := fun o => ((HT.out _ (hb.alloc hb.size o)).2.1.three u t t1).1
        have x1 : ∀ o, (wr.alloc o).cell? ⟨by_, u * 3 + 1, none⟩ = some (.string (str t.text)) := fun o => ((HT.out _ (hb.alloc hb.size o)).2.1.three u t t1).2.1
        have x2 : ∀ o, (wr.alloc o).cell? ⟨by_, u * 3 + 2, none⟩ = some (.int .i64 (t.place : Int)) := fun o => ((HT.out _ (hb.alloc hb.size o)).2.1.three u t t1).2.2
        obtain ⟨z0, z1, z2⟩ := (HT.out W hbW).2.2.three j _ t2
        have y0 : W.cell? ⟨wr.heap.size, 0, none⟩ = some (.int .i64 (t.kind : Int)) := by rw [hW]; exact (Row.new wr 29 [.int .i64 (t.kind : Int), .string (str t.text), .int .i64 ((t.place + (a.length + 1) : Nat) : Int)]).cell 0
        have y1 : W.cell? ⟨wr.heap.size, 1, none⟩ = some (.string (str t.text)) := by rw [hW]; exact (Row.new wr 29 [.int .i64 (t.kind : Int), .string (str t.text), .int .i64 ((t.place + (a.length + 1) : Nat) : Int)]).cell 1
        have y2 : W.cell? ⟨wr.heap.size, 2, none⟩ = some (.int .i64 ((t.place + (a.length + 1) : Nat) : Int)) := by rw [hW]; exact (Row.new wr 29 [.int .i64 (t.kind : Int), .string (str t.text), .int .i64 ((t.place + (a.length + 1) : Nat) : Int)]).cell 2
        have AW : Aside (W = wr.alloc (.cells #[.int .i64 (t.kind : Int), .string (str t.text), .int .i64 ((t.place + (a.length + 1) : Nat) : Int)] 29)) := hW
        clear hu hNN
        clear hW hb hbW t1 t2 HT HX HY HPl
        generalize str t.text = S1 at *
        generalize t.kind = tk at *
        generalize t.place = tp at *
        go_wp2_with fail
        refine wp_at_world AW.out ?_
        go_quiet (fail)
        go_wp2_with fail
        go_roundw
        case rel => exact ⟨j + 1, by omega, by go_num, below_drewN HBW.out _⟩
        case measure => simp [intOf]; omega
    · clear hNN
      obtain rfl : j = N := by omega
      have HB5 : Hid (Below w.heap.size w wr) := nextB HB3.out hb
      clear hb HT HX HY HPl
      go_wp2_with fail
      refine (CT.out _ HB5.out).mono ?_
      rintro ev w5 ⟨rfl, hb5⟩
      go_wp2_with fail
      go_ret
      exact ⟨rfl, nextB HB5.out hb5⟩

set_option maxHeartbeats 4000000 in
theorem joined_walk (a b : List UInt8) (ha : a.length ≤ 9223372036854775807) (hb : b.length ≤ 9223372036854775807) (w : World) (hg : Glob w) : Calls Tryd.prog 9 #[.string (str a), .string (str b)] w fun ev w' => ev = .returned (.bool true) ∧ Below w.heap.size w w' := by
  have hsa := str_size a
  have hsb := str_size b
  have CT : Hid (∀ y, Below w.heap.size w y → Calls Tryd.prog 11 #[] y fun ev w' => ev = .returned (.bool true) ∧ Below y.heap.size y w') := fun y hy => told_any y (hg.below hy)
  by_cases h : 1000 < a.length
  · have h' : (1000 : Int) < (a.length : Int) := by omega
    clear hg
    generalize str a = SA at *
    generalize str b = SB at *
    go_enter Tryd.func9, Tryd.ntmps9
    go_wp2_with fail
    refine (CT.out _ (Below.refl _ _)).mono ?_
    rintro ev w1 ⟨rfl, hb1⟩
    go_wp2_with fail
    go_ret
    exact ⟨rfl, hb1⟩
  · have ia : ¬ (1000 : Int) < (a.length : Int) := by omega
    have ia' : decide ((1000 : Int) < (a.length : Int)) = false := decide_eq_false ia
    by_cases h2 : 1000 < b.length
    · have h' : (1000 : Int) < (b.length : Int) := by omega
      clear hg
      generalize str a = SA at *
      generalize str b = SB at *
      go_enter Tryd.func9, Tryd.ntmps9
      go_wp2_with fail
      refine (CT.out _ (Below.refl _ _)).mono ?_
      rintro ev w1 ⟨rfl, hb1⟩
      go_wp2_with fail
      go_ret
      exact ⟨rfl, hb1⟩
    · have ib : ¬ (1000 : Int) < (b.length : Int) := by omega
      have ib' : decide ((1000 : Int) < (b.length : Int)) = false := decide_eq_false ib
      cases hx : lexF a with
      | mk X o =>
        cases hy : lexF b with
        | mk Y o' =>
          have L2 : Hid (∀ y, Below w.heap.size w y → Calls Tryd.prog 10 #[.string (str b)] y fun ev w' => ∃ v e, ev = .returned (.tuple #[v, e]) ∧ LexOut w' v e (lexF b) ∧ Below y.heap.size y w') := fun y hy => lex_any b (by omega) y (hg.below hy)
          cases o with
          | none =>
            cases o' with
            | none => exact joined_ok a b (by omega) (by omega) w hg X Y hx hy
            | some p =>
              have L1 := lex_any a (by omega) w hg
              rw [hx] at L1
              rw [hy] at L2
              clear hx hy hg
              generalize str a = SA at *
              generalize str b = SB at *
              go_enter Tryd.func9, Tryd.ntmps9
              go_wp2_with fail
              refine L1.mono ?_
              rintro ev w1 ⟨v, e, rfl, ho, hb1⟩
              rcases ho with ⟨T', e1, rfl, hs⟩ | ⟨T', p', e1, _⟩
              · obtain ⟨a1, c1, rfl⟩ := hs.slice
                clear L1 hs
                go_wp2_with fail
                refine (L2.out _ hb1).mono ?_
                rintro ev w2 ⟨v, e, rfl, ho, hb2⟩
                rcases ho with ⟨T', e2, _⟩ | ⟨T', p', e2, rfl, hE⟩
                · cases e2
                · obtain ⟨b0, rfl, -⟩ := hE.shape
                  clear L2 hE
                  go_wp2_with fail
                  refine (CT.out _ (nextB hb1 hb2)).mono ?_
                  rintro ev w3 ⟨rfl, hb3⟩
                  go_wp2_with fail
                  go_ret
                  exact ⟨rfl, nextB (nextB hb1 hb2) hb3⟩
              · cases e1
          | some p =>
            have L1 := lex_bad a (by omega) p (by rw [hx]) w hg
            clear hx hg
            rw [hy] at L2
            generalize str a = SA at *
            generalize str b = SB at *
            go_enter Tryd.func9, Tryd.ntmps9
            go_wp2_with fail
            refine L1.mono ?_
            rintro ev w1 ⟨e, rfl, hE, hb1⟩
            obtain ⟨b0, rfl, -⟩ := hE.shape
            clear L1 hE
            go_wp2_with fail
            refine (L2.out _ hb1).mono ?_
            rintro ev w2 ⟨v, e, rfl, ho, hb2⟩
            rcases ho with ⟨T', e2, rfl, hs⟩ | ⟨T', p', e2, rfl, hE⟩
            · obtain ⟨a1, c1, rfl⟩ := hs.slice
              clear L2 hs
              go_wp2_with fail
              refine (CT.out _ (nextB hb1 hb2)).mono ?_
              rintro ev w3 ⟨rfl, hb3⟩
              go_wp2_with fail
              go_ret
              exact ⟨rfl, nextB (nextB hb1 hb2) hb3⟩
            · obtain ⟨b1, rfl, -⟩ := hE.shape
              clear L2 hE
              go_wp2_with fail
              refine (CT.out _ (nextB hb1 hb2)).mono ?_
              rintro ev w3 ⟨rfl, hb3⟩
              go_wp2_with fail
              go_ret
              exact ⟨rfl, nextB (nextB hb1 hb2) hb3⟩
end Go.Proofs.YtdnjcajbmibjiaaDoor
