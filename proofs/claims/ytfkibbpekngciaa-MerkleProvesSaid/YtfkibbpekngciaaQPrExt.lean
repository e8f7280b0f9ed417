/-
  extractBy, Extract.
-/
import Derived.Test.YtfkibbpekngciaaJoinChk2xPr
import Derived.Test.YtfkibbpekngciaaQPrPrv
namespace Go.Proofs.Ytfkibbpekngciaa
open Go.RowKit

theorem fresh30 (w : World) : Row (w.alloc (.cells #[.int .i64 0, .int .i64 0, .slice none 0 0] 30)) w.heap.size 30 [.int .i64 0, .int .i64 0, .slice none 0 0] := Row.new w 30 _
theorem fresh_below (w : World) (o : Obj) : Below w.heap.size w (w.alloc o) := (Below.refl _ _).alloc (Nat.le_refl _) _
/-- What Extract tells, of any proof. -/
def xtr (F : Bys → Bys) (L : List Bys) (b : Bys) (i n : Int) (P : List Bys) : Option (Bys × Bys) :=
  if 0 ≤ i ∧ i < (L.length : Int) ∧ chk F (root F L) b i n P = true ∧ ¬ (n = (L.length : Int) ∧ b = L.getD i.toNat []) then extract F L b i.toNat n.toNat P else none
/-- Two texts and whether they are told. -/
def Two (o : Option (Bys × Bys)) (x y t : Value) (w : World) : Prop :=
  (o = none ∧ x = .slice none 0 0 ∧ y = .slice none 0 0 ∧ t = .bool false) ∨ ∃ s u, o = some (s, u) ∧ t = .bool true ∧ Sl w x s ∧ Sl w y u
theorem Two.below {o : Option (Bys × Bys)} {x y t : Value} {w w' : World} (h : Two o x y t w) (hb : Below w.heap.size w w') : Two o x y t w' := by
  rcases h with h | ⟨s, u, h1, h2, h3, h4⟩
  · exact .inl h
  · exact .inr ⟨s, u, h1, h2, h3.below hb, h4.below hb⟩
theorem diff_next (S M : List Bys) (d : Nat) (h1 : d < S.length) (h2 : d < M.length) (e : S.getD d [] = M.getD d []) : diff (S.drop d) (M.drop d) = diff (S.drop (d + 1)) (M.drop (d + 1)) := by
  rw [List.drop_eq_getElem_cons h1, List.drop_eq_getElem_cons h2]
  have e' : S[d] = M[d] := by simpa [List.getD, h1, h2] using e
  simp [diff, e']
theorem diff_here (S M : List Bys) (d : Nat) (h1 : d < S.length) (h2 : d < M.length) (e : ¬ S.getD d [] = M.getD d []) : diff (S.drop d) (M.drop d) = some (S.getD d [], M.getD d []) := by
  rw [List.drop_eq_getElem_cons h1, List.drop_eq_getElem_cons h2]
  have e' : ¬ S[d] = M[d] := by simpa [List.getD, h1, h2] using e
  simp [diff, e', List.getD, h1, h2]
theorem diff_end (S M : List Bys) (d : Nat) (h1 : S.length ≤ d ∨ M.length ≤ d) : diff (S.drop d) (M.drop d) = none := by
  rcases h1 with h1 | h1
  · rw [List.drop_eq_nil_of_le h1]; rfl
  · rw [List.drop_eq_nil_of_le h1]
    cases S.drop d <;> rfl
/-- Where the roots' texts are alike, there are as many texts. -/
theorem texts_alike (F : Bys → Bys) (L : List Bys) (b c : Bys) (i n : Nat) (P : List Bys) (hn : n < 18446744073709551616) (hm : L.length < 18446744073709551616) (hl : (lefts i n).length = P.length)
    (h : (texts F b i n P).reverse.getD 0 [] = (texts F c i L.length (path F L i)).reverse.getD 0 []) : (texts F b i n P).reverse.length = (texts F c i L.length (path F L i)).reverse.length := by
  rw [texts_head, texts_head, texts_last, texts_last] at h
  obtain ⟨rfl, _⟩ := rootT_inj hn hm h
  rw [List.length_reverse, List.length_reverse, texts_len _ _ _ _ _ hl, texts_len _ _ _ _ _ (lefts_path F L i), ← hl, lefts_path F L i]

set_option maxHeartbeats 4000000 in
theorem extractBy_out (w : World) (av ap : Option Addr) (nL cv lp cpp : Nat) (bv : Value) (i n : Int) (hi : ¬ (0 ≤ i ∧ i < (nL : Int))) :
    Calls Try.prog 33 #[fn25, .slice av nL cv, bv, .agg #[.int .i64 i, .int .i64 n, .slice ap lp cpp]] w fun ev w' => ev = .returned (.tuple #[.slice none 0 0, .slice none 0 0, .bool false]) ∧ Below w.heap.size w w' := by
  obtain ⟨W, hW⟩ : ∃ W, W = w.alloc (.cells #[.int .i64 i, .int .i64 n, .slice ap lp cpp] 30) := ⟨_, rfl⟩
  have hA : Below w.heap.size w W := by rw [hW]; exact (Below.refl w.heap.size w).alloc (Nat.le_refl _) _
  have RR : Row W w.heap.size 30 [.int .i64 i, .int .i64 n, .slice ap lp cpp] := by rw [hW]; exact Row.new w 30 _
  have HP := proveBy_no W av nL cv i hi
  have HA : Hid (Below w.heap.size w W) := hA
  have AW : Aside (W = w.alloc (.cells #[.int .i64 i, .int .i64 n, .slice ap lp cpp] 30)) := hW
  have c0 : W.cell? ⟨w.heap.size, 0, none⟩ = some (.int .i64 i) := RR.cell 0
  clear hW hA hi
  unfold fn25 at *
  go_enter Try.func33, Try.ntmps33
  go_wp2_with fail
  refine Calls_at_world AW.out ?_
  refine HP.mono ?_
  rintro ev w2 ⟨e, rfl, he, hb2⟩
  obtain ⟨eb, hE⟩ : ∃ b, e = .iface 83 (.pointer (some ⟨b, 0, none⟩)) := by
    obtain ⟨b, hb, _⟩ := he.shape
    exact ⟨b, hb⟩
  subst hE
  have hB2 : Hid _ := nextB HA.out hb2
  have RA4 := fresh30 w2
  have hA4 := fresh_below w2 (.cells #[.int .i64 0, .int .i64 0, .slice none 0 0] 30)
  have h1c := one3 0 0 none 0 0
  have hle4 : w2.heap.size ≤ w2.heap.size := Nat.le_refl _
  clear HP RR hb2 c0 he
  go_wp2_with (refine store30 rfl _ _ rfl w2 w2.heap.size _ _ _ h1c rfl rfl _ _ _ RA4 _ hA4 hle4 ?_; intro w5 R5 hb5 _; have hB5 : Hid _ := nextB hB2.out hb5; clear RA4 hA4 hb5 R5)
  go_quiet (fail)
  go_wp2_with fail
  go_ret3
  exact ⟨rfl, below_drewN hB5.out _⟩
/-- What is known where d texts are alike. -/
def XInv (S M : List Bys) (d : Nat) : Prop := diff S M = diff (S.drop d) (M.drop d) ∧ (d = 0 ∨ S.length = M.length)

set_option maxHeartbeats 4000000 in
set_option maxRecDepth 20000 in
theorem extractBy_in (F : Bys → Bys) (E : Env F) (w : World) (lv bv pv : Value) (L : List Bys) (b : Bys) (i : Nat) (n : Int) (P : List Bys) (hL : Ls w lv L) (hs : Short L) (h9 : L.length ≤ 1000000) (hb : Sl w bv b) (hbl : b.length ≤ 100000) (hn : n ≤ 9223372036854775807) (hP : Hs w pv P) (hi : i < L.length) :
    Calls Try.prog 33 #[fn25, lv, bv, .agg #[.int .i64 (i : Int), .int .i64 n, pv]] w fun ev w' => ∃ x y t, ev = .returned (.tuple #[x, y, t]) ∧ Two (xtr F L b i n P) x y t w' ∧ Below w.heap.size w w' := by
  obtain ⟨ap, cpp, rfl⟩ := hP.slice
  obtain ⟨ab, cb, rfl⟩ := sl_slice hb
  obtain ⟨W, hW⟩ : ∃ W, W = w.alloc (.cells #[.int .i64 (i : Int), .int .i64 n, .slice ap P.length cpp] 30) := ⟨_, rfl⟩
  have hA : Below w.heap.size w W := by rw [hW]; exact (Below.refl w.heap.size w).alloc (Nat.le_refl _) _
  have RR : Row W w.heap.size 30 [.int .i64 (i : Int), .int .i64 n, .slice ap P.length cpp] := by rw [hW]; exact Row.new w 30 _
  have HP := proveBy_yes F E W lv L (hL.below hA) hs h9 i hi
  have HR : Hid (∀ y, Below W.heap.size W y → Calls Try.prog 24 #[fn25, lv] y fun ev w' => ev = .returned (.agg (bys (root F L)).toArray) ∧ Below y.heap.size y w') := fun y hy => rootBy_any F E y lv L (hL.below (nextB hA hy)) hs h9
  have HC : Hid (∀ y, Below W.heap.size W y → Calls Try.prog 31 #[fn25, .agg (bys (root F L)).toArray, .slice ab b.length cb, .agg #[.int .i64 (i : Int), .int .i64 n, .slice ap P.length cpp]] y fun ev w' => ev = .returned (.bool (chk F (root F L) b i n P)) ∧ Below y.heap.size y w') := fun y hy => checkBy_any F E y _ _ (root F L) b i n P (E.len _) (hb.below (nextB hA hy)) hbl hn (hP.below (nextB hA hy))
  have HX : Hid (∀ y, Below W.heap.size W y → Calls Try.prog 49 #[fn25, .slice ab b.length cb, .agg #[.int .i64 (i : Int), .int .i64 n, .slice ap P.length cpp]] y fun ev w' => Below y.heap.size y w' ∧ ((¬ Form i n P ∧ ev = .returned (.tuple #[.slice none 0 0, .bool false])) ∨ (Form i n P ∧ ∃ tv, ev = .returned (.tuple #[tv, .bool true]) ∧ Tx y.heap.size tv (texts F b (i : Int).toNat n.toNat P).reverse w'))) := fun y hy => texts_any F E y _ _ b i n P (hb.below (nextB hA hy)) hbl hn (hP.below (nextB hA hy))
  obtain ⟨bl, off, cap, fv, rfl, hcap, hcell⟩ := hL.some_ (by omega)
  obtain ⟨hc1, hs1⟩ := hcell i hi
  obtain ⟨ak, ck, ek⟩ := sl_slice hs1
  rw [ek] at hc1 hs1
  have hlk : (L.getD i []).length ≤ 100000 := hs _ (by simp [List.getD, List.getElem?_eq_getElem hi])
  have HE : Hid (∀ y, Below W.heap.size W y → y.cell? ⟨bl, off + i, none⟩ = some (.slice ak (L.getD i []).length ck) ∧ Sl y (.slice ak (L.getD i []).length ck) (L.getD i []) ∧ Sl y (.slice ab b.length cb) b) := fun y hy => by
    have hy' := nextB hA hy
    refine ⟨(hy'.cell (p := ⟨bl, off + i, none⟩) (World.block_lt_of_cell? w _ hc1)).trans hc1, hs1.below hy', hb.below hy'⟩
  have HA : Hid (Below w.heap.size w W) := hA
  have HRR : Hid (∀ y, Below W.heap.size W y → Row y w.heap.size 30 [.int .i64 (i : Int), .int .i64 n, .slice ap P.length cpp]) := fun y hy => RR.below hy RR.lt
  have AW : Aside (W = w.alloc (.cells #[.int .i64 (i : Int), .int .i64 n, .slice ap P.length cpp] 30)) := hW
  have c0 : W.cell? ⟨w.heap.size, 0, none⟩ = some (.int .i64 (i : Int)) := RR.cell 0
  clear hW hA hcell hc1 hs1 ek hL hb hP RR
  unfold fn25 at *
  obtain ⟨Pi, HPi⟩ : ∃ Q, Hid (path F L i = Q) := ⟨_, rfl⟩
  rw [HPi.out] at HP
  go_enter Try.func33, Try.ntmps33
  go_wp2_with fail
  refine Calls_at_world AW.out ?_
  refine HP.mono ?_
  rintro ev w2 ⟨pv, rfl, hH, hF, hb2⟩
  obtain ⟨ao, cp, rfl⟩ := hH.slice
  have RA4 := fresh30 w2
  have hA4 := fresh_below w2 (.cells #[.int .i64 0, .int .i64 0, .slice none 0 0] 30)
  have h1c := one3 i L.length ao Pi.length cp
  have hle4 : w2.heap.size ≤ w2.heap.size := Nat.le_refl _
  clear HP c0 hF
  go_wp2_with (refine store30 rfl _ _ rfl w2 w2.heap.size _ _ _ h1c rfl rfl _ _ _ RA4 _ hA4 hle4 ?_; intro w5 R5 hb5 _; have hB5 := nextB hb2 hb5; have hH5 := hH.below hb5; clear RA4 hA4 hH)
  have HC' := HC
  generalize hcc : chk F (root F L) b i n P = c at HC
  have hD5 := hB5.drew
  have S5 := HRR.out _ hD5
  have q0 : w5.drew.cell? ⟨w.heap.size, 0, none⟩ = some (.int .i64 (i : Int)) ∧ w5.drew.cell? ⟨w.heap.size, 1, none⟩ = some (.int .i64 n) ∧ w5.drew.cell? ⟨w.heap.size, 2, none⟩ = some (.slice ap P.length cpp) := ⟨S5.cell 0, S5.cell 1, S5.cell 2⟩
  have HS : Hid (∀ y, Below W.heap.size W y → y.cell? ⟨w.heap.size, 0, none⟩ = some (.int .i64 (i : Int)) ∧ y.cell? ⟨w.heap.size, 1, none⟩ = some (.int .i64 n) ∧ y.cell? ⟨w.heap.size, 2, none⟩ = some (.slice ap P.length cpp)) := fun y hy => ⟨(HRR.out y hy).cell 0, (HRR.out y hy).cell 1, (HRR.out y hy).cell 2⟩
  have HM5 : Hid (∀ y, Below w5.heap.size w5 y → Row y w2.heap.size 30 [.int .i64 (i : Int), .int .i64 (L.length : Int), .slice ao Pi.length cp] ∧ Hs y (.slice ao Pi.length cp) Pi) := fun y hy => ⟨R5.below hy R5.lt, hH5.below hy⟩
  have HB5 : Hid (Below W.heap.size W w5) := hB5
  have HCC : Hid (chk F (root F L) b i n P = c) := hcc
  clear S5 hcc HC' R5 hH5 hB5 hb5 hb2
  generalize (bys (root F L)).toArray = Y at *
  rcases c with _ | _
  · go_region_held3 (fun y => y.cell? ⟨w.heap.size, 0, none⟩ = some (.int .i64 (i : Int)) ∧ y.cell? ⟨w.heap.size, 1, none⟩ = some (.int .i64 n) ∧ y.cell? ⟨w.heap.size, 2, none⟩ = some (.slice ap P.length cpp)) (assumption) (first
      | (go_at_call 24; refine (HR.out _ hD5).mono ?_; rintro ev w6 ⟨rfl, hb6⟩; have hD6 := nextB hD5 hb6; have hS6 := HS.out _ hD6)
      | (go_at_call 31; refine (HC.out _ hD6).mono ?_; rintro ev w7 ⟨rfl, hb7⟩; have hD7 := nextB hD6 hb7; have hS7 := HS.out _ hD7))
    clear HR HC q0 hS6
    have hb57 : Below w5.heap.size w5 w7 := nextB (nextB ((Below.refl w5.heap.size w5).drew) hb6) hb7
    have hB7 : Hid (Below w.heap.size w w7) := nextB HA.out hD7
    have HN : Hid (xtr F L b i n P = none) := by
      show _ = _
      unfold xtr
      rw [if_neg]
      rintro ⟨_, _, h, _⟩
      rw [HCC.out] at h; cases h
    clear hD5 hD6 hD7 hb6 hb7 hb57 HE HX hS7
    go_wp2_with fail
    go_ret3
    exact ⟨_, _, _, rfl, .inl ⟨HN.out, rfl, rfl, rfl⟩, hB7.out⟩
  · have hform : Form i n P := by
      have := HCC.out
      unfold chk at this
      rw [Bool.and_eq_true] at this
      exact @of_decide_eq_true _ (decForm _ _ _) this.1
    obtain ⟨n, rfl⟩ : ∃ m : Nat, n = (m : Int) := ⟨n.toNat, by have := hform.1; have := hform.2.1; omega⟩
    have HFO : Hid (Form i L.length Pi) := by
      rw [← HPi.out]
      exact ⟨by omega, by omega, by simpa using lefts_path F L i⟩
    have HX2 : Hid (∀ y, Below W.heap.size W y → Calls Try.prog 49 #[.func (.func 25) #[] #[], .slice ab b.length cb, .agg #[.int .i64 (i : Int), .int .i64 (n : Int), .slice ap P.length cpp]] y fun ev w' => Below y.heap.size y w' ∧ ∃ tv, ev = .returned (.tuple #[tv, .bool true]) ∧ Tx y.heap.size tv (texts F b i n P).reverse w') := fun y hy => (HX.out y hy).mono (fun ev w' ⟨h1, h2⟩ => by
      rcases h2 with ⟨h2, _⟩ | ⟨_, h2⟩
      · exact absurd hform h2
      · exact ⟨h1, h2⟩)
    have HY2 : Hid (∀ y, Below w5.heap.size w5 y → Calls Try.prog 49 #[.func (.func 25) #[] #[], .slice ak (L.getD i []).length ck, .agg #[.int .i64 (i : Int), .int .i64 (L.length : Int), .slice ao Pi.length cp]] y fun ev w' => Below y.heap.size y w' ∧ ∃ tv, ev = .returned (.tuple #[tv, .bool true]) ∧ Tx y.heap.size tv (texts F (L.getD i []) i L.length Pi).reverse w') := fun y hy => (texts_any F E y _ _ (L.getD i []) i L.length Pi (HE.out y (nextB HB5.out hy)).2.1 hlk (by omega) (HM5.out y hy).2).mono (fun ev w' ⟨h1, h2⟩ => by
      rcases h2 with ⟨h2, _⟩ | ⟨_, h2⟩
      · exact absurd HFO.out h2
      · exact ⟨h1, h2⟩)
    have HXT : Hid (¬ (n = L.length ∧ b = L.getD i []) → xtr F L b i n P = diff (texts F b i n P).reverse (texts F (L.getD i []) i L.length Pi).reverse) := fun hne => by
      show _ = _
      unfold xtr
      rw [if_pos ⟨by omega, by omega, HCC.out, fun h => hne ⟨by omega, by simpa using h.2⟩⟩]
      unfold extract
      rw [← HPi.out]
      simp
    have HXN : Hid ((n = L.length ∧ b = L.getD i []) → xtr F L b i n P = none) := fun hne => by
      show _ = _
      unfold xtr
      rw [if_neg]
      rintro ⟨_, _, _, h⟩
      exact h ⟨by omega, by simpa using hne.2⟩
    have HAL : Hid ((texts F b i n P).reverse.getD 0 [] = (texts F (L.getD i []) i L.length Pi).reverse.getD 0 [] → (texts F b i n P).reverse.length = (texts F (L.getD i []) i L.length Pi).reverse.length) := by
      rw [← HPi.out]
      exact texts_alike F L b _ i n P (by omega) (by omega) (by simpa using hform.2.2)
    have HPS : Hid (0 < (texts F b i n P).reverse.length ∧ 0 < (texts F (L.getD i []) i L.length Pi).reverse.length) := ⟨by simpa using texts_pos F b i n P, by simpa using texts_pos F _ i _ Pi⟩
    have HFW : Hid ((texts F b i n P).reverse.length ≤ 1000000) := by
      show _ ≤ _
      have h1 := hform.2.2
      have h2 := downs_64 i n (by omega)
      rw [List.length_reverse, texts_len _ _ _ _ _ (by simpa using h1)]
      simp only [Int.toNat_natCast] at h1
      unfold lefts at h1
      simp at h1
      omega
    obtain ⟨e, HEE⟩ : ∃ e, Hid ((b == L.getD i []) = e) := ⟨_, rfl⟩
    have HQ : Hid (∀ y, Below W.heap.size W y → Calls Try.prog 51 #[.slice ab b.length cb, .slice ak (L.getD i []).length ck] y fun ev w' => ev = .returned (.bool e) ∧ w' = y) := fun y hy => by
      have := equal_any y _ _ _ _ (HE.out y hy).2.2 (HE.out y hy).2.1
      rw [HEE.out] at this
      exact this
    have HEC : Hid (∀ y, Below W.heap.size W y → y.cell? ⟨bl, off + i, none⟩ = some (.slice ak (L.getD i []).length ck)) := fun y hy => (HE.out y hy).1
    have HEB : Hid (e = true → b = L.getD i []) := fun h => by have := HEE.out; rw [h] at this; simpa using this
    have HEN : Hid (e = false → ¬ b = L.getD i []) := fun h => by have := HEE.out; rw [h] at this; simpa using this
    generalize (texts F b i n P).reverse = S at *
    generalize (texts F (L.getD i []) i L.length Pi).reverse = M at *
    obtain ⟨XT, HXE⟩ : ∃ X, Hid (X = xtr F L b i n P) := ⟨_, rfl⟩
    have i0 : (0 : Int) ≤ (i : Int) := by omega
    have i1 : (i : Int) < (L.length : Int) := by omega
    have hcase : (n = L.length ∧ e = true) ∨ (n ≠ L.length ∨ e = false) := by
      by_cases h : n = L.length
      · rcases e with _ | _
        · exact .inr (.inr rfl)
        · exact .inl ⟨h, rfl⟩
      · exact .inr (.inl h)
    clear HX HE HEE hform HCC hlk
    generalize L.getD i [] = Li at *
    rcases hcase with ⟨hn1, rfl⟩ | hcase
    · have HN : Hid _ := HXN.out ⟨hn1, HEB.out rfl⟩
      subst hn1
      clear HX2 HY2 HXT HXN HAL HPS HFW
      go_region_held3 (fun y => y.cell? ⟨w.heap.size, 0, none⟩ = some (.int .i64 (i : Int)) ∧ y.cell? ⟨w.heap.size, 1, none⟩ = some (.int .i64 (L.length : Int)) ∧ y.cell? ⟨w.heap.size, 2, none⟩ = some (.slice ap P.length cpp)) (assumption) (first
        | (go_at_call 24; refine (HR.out _ hD5).mono ?_; rintro ev w6 ⟨rfl, hb6⟩; have hD6 := nextB hD5 hb6; have hS6 := HS.out _ hD6)
        | (go_at_call 31; refine (HC.out _ hD6).mono ?_; rintro ev w7 ⟨rfl, hb7⟩; have hD7 := nextB hD6 hb7; have hS7 := HS.out _ hD7))
      have hb57 : Below w5.heap.size w5 w7 := nextB (nextB ((Below.refl w5.heap.size w5).drew) hb6) hb7
      have hB7 : Hid (Below w.heap.size w w7) := nextB HA.out hD7
      obtain ⟨d0, d1, d2⟩ := hS7
      have R7 := HRR.out _ hD7
      obtain ⟨M7, hH7⟩ := HM5.out _ hb57
      have m1 := M7.cell 1
      simp only [List.getElem?_cons_zero, List.getElem?_cons_succ] at m1
      have hEC7 := HEC.out _ hD7
      have HQ7 := HQ.out _ hD7
      clear HR HC q0 hS6
      go_wp2_with (first | (go_at_call 51; refine HQ7.mono ?_; rintro ev w8 ⟨rfl, hw8⟩; replace hw8 := hw8.symm; subst hw8))
      go_ret3
      exact ⟨_, _, _, rfl, .inl ⟨HN.out, rfl, rfl, rfl⟩, hB7.out⟩
    have hcase2 : (¬ n = L.length) ∨ (n = L.length ∧ e = false) := by
      by_cases h : n = L.length
      · rcases hcase with h' | h'
        · exact absurd h h'
        · exact .inr ⟨h, h'⟩
      · exact .inl h
    have HXT2 : Hid (xtr F L b i n P = diff S M) := HXT.out (fun h => by
      rcases hcase with h' | h'
      · exact h' h.1
      · exact HEN.out h' h.2)
    have HDD : Hid (xtr F L b i n P = diff S M) := HXT2.out
    clear hcase HEB HEN HXN HXT HXT2 HXE
    rcases hcase2 with hc2 | ⟨rfl, rfl⟩
    · have hc3 : ¬ (n : Int) = (L.length : Int) := by omega
      clear hc2
      go_region_held3 (fun y => y.cell? ⟨w.heap.size, 0, none⟩ = some (.int .i64 (i : Int)) ∧ y.cell? ⟨w.heap.size, 1, none⟩ = some (.int .i64 n) ∧ y.cell? ⟨w.heap.size, 2, none⟩ = some (.slice ap P.length cpp)) (assumption) (first
        | (go_at_call 24; refine (HR.out _ hD5).mono ?_; rintro ev w6 ⟨rfl, hb6⟩; have hD6 := nextB hD5 hb6; have hS6 := HS.out _ hD6)
        | (go_at_call 31; refine (HC.out _ hD6).mono ?_; rintro ev w7 ⟨rfl, hb7⟩; have hD7 := nextB hD6 hb7; have hS7 := HS.out _ hD7))
      have hb57 : Below w5.heap.size w5 w7 := nextB (nextB ((Below.refl w5.heap.size w5).drew) hb6) hb7
      have hB7 : Hid (Below w.heap.size w w7) := nextB HA.out hD7
      obtain ⟨d0, d1, d2⟩ := hS7
      have R7 := HRR.out _ hD7
      obtain ⟨M7, hH7⟩ := HM5.out _ hb57
      have m1 := M7.cell 1
      simp only [List.getElem?_cons_zero, List.getElem?_cons_succ] at m1
      have hEC7 := HEC.out _ hD7
      have HQ7 := HQ.out _ hD7
      clear HR HC q0 hS6
      go_wp2_with (first
        | (go_at_call 51; refine HQ7.mono ?_; rintro ev w8 ⟨rfl, hw8⟩; replace hw8 := hw8.symm; subst hw8)
        | (refine load30r rfl _ rfl w.heap.size _ _ _ rfl R7 ?_)
        | (go_at_call 49; refine (HX2.out _ hD7).mono ?_; rintro ev w8 ⟨hb8, tv, rfl, hT8⟩; have l8 := hT8.ls; obtain ⟨x1, y1, k1, f1, rfl, kk1, hc1⟩ := l8.some_ HPS.out.1))
      have HL1 : Hid (∀ y, Below w8.heap.size w8 y → ∀ j, j < S.length → y.cell? ⟨x1, y1 + j, none⟩ = some (f1 j) ∧ Sl y (f1 j) (S.getD j [])) := fun y hy j hj => ⟨(hy.cell (p := ⟨x1, y1 + j, none⟩) (World.block_lt_of_cell? w8 _ (hc1 j hj).1)).trans (hc1 j hj).1, (hc1 j hj).2.below hy⟩
      have hD8 := nextB hD7 hb8
      have hb58 := nextB hb57 hb8
      have hDd := hD8.drew
      have hbd := hb58.drew
      obtain ⟨M8, hH8⟩ := HM5.out _ hbd
      obtain ⟨e0, e1, e2⟩ := HS.out _ hDd
      have q8 : w8.drew.cell? ⟨w.heap.size, 0, none⟩ = some (.int .i64 (i : Int)) ∧ w8.drew.cell? ⟨bl, off + i, none⟩ = some (.slice ak Li.length ck) ∧ w8.drew.cell? ⟨w2.heap.size, 0, none⟩ = some (.int .i64 (i : Int)) ∧ w8.drew.cell? ⟨w2.heap.size, 1, none⟩ = some (.int .i64 (L.length : Int)) ∧ w8.drew.cell? ⟨w2.heap.size, 2, none⟩ = some (.slice ao Pi.length cp) := ⟨e0, HEC.out _ hDd, M8.cell 0, M8.cell 1, M8.cell 2⟩
      have HB8 : Hid (Below w.heap.size w w8) := nextB HA.out hD8
      have HY8 := HY2.out _ hbd
      have HS8 : Hid (∀ y, Below w8.drew.heap.size w8.drew y → (y.cell? ⟨w.heap.size, 0, none⟩ = some (.int .i64 (i : Int)) ∧ y.cell? ⟨bl, off + i, none⟩ = some (.slice ak Li.length ck) ∧ y.cell? ⟨w2.heap.size, 0, none⟩ = some (.int .i64 (i : Int)) ∧ y.cell? ⟨w2.heap.size, 1, none⟩ = some (.int .i64 (L.length : Int)) ∧ y.cell? ⟨w2.heap.size, 2, none⟩ = some (.slice ao Pi.length cp)) ∧ Below w8.heap.size w8 y) := fun y hy => by
        have h1 := HS.out _ (nextB hDd hy)
        have h2 := HM5.out _ (nextB hbd hy)
        exact ⟨⟨h1.1, HEC.out _ (nextB hDd hy), h2.1.cell 0, h2.1.cell 1, h2.1.cell 2⟩, nextB (Below.refl w8.heap.size w8).drew hy⟩
      clear HX2 HQ HQ7 hc1 l8 hT8 hb8 hD7 hb57 d0 d1 d2 R7 M7 hH7 m1 hEC7 M8 hH8 e0 e1 e2 hb6 hb7 hD5 hD6 hD8 hb58 kk1
      go_region_held3 (fun y => y.cell? ⟨w.heap.size, 0, none⟩ = some (.int .i64 (i : Int)) ∧ y.cell? ⟨bl, off + i, none⟩ = some (.slice ak Li.length ck) ∧ y.cell? ⟨w2.heap.size, 0, none⟩ = some (.int .i64 (i : Int)) ∧ y.cell? ⟨w2.heap.size, 1, none⟩ = some (.int .i64 (L.length : Int)) ∧ y.cell? ⟨w2.heap.size, 2, none⟩ = some (.slice ao Pi.length cp)) (assumption) (first
        | (go_at_call 49; refine HY8.mono ?_; rintro ev w9 ⟨hb9, tv2, rfl, hT9⟩; have l9 := hT9.ls; obtain ⟨x2, y2, k2, f2, rfl, kk2, hc2'⟩ := l9.some_ HPS.out.2; obtain ⟨hS9, hB9⟩ := HS8.out _ hb9))
      go_wp2_with fail
      have HL2 := HL1.out _ hB9
      have HB9 : Hid (Below w.heap.size w w9) := nextB HB8.out hB9
      clear HY8 HS8 HY2 HL1 hb9 hT9 l9 kk2 q8 hS9 hB9 HS HM5 HEC HRR hDd hbd
      go_loop [73] (fun t => ∃ d : Nat, d ≤ S.length ∧ XInv S M d ∧ t = .int .i64 (d : Int)) (fun t => S.length - (intOf t).toNat)
      case atStart => exact ⟨0, by omega, ⟨rfl, .inl rfl⟩, rfl⟩
      case round =>
        obtain ⟨d, hd, hI, rfl⟩ := hrel
        by_cases hd1 : d < S.length
        · have hd2 : d < M.length := by
            rcases hI.2 with h | h
            · have := HPS.out.2; omega
            · omega
          obtain ⟨u1, s1⟩ := HL2 d hd1
          obtain ⟨u2, s2⟩ := hc2' d hd2
          have EQ := equal_any w9 _ _ _ _ s1 s2
          have g0 : (0 : Int) ≤ (d : Int) := by omega
          have g1 : (d : Int) < (S.length : Int) := by omega
          have g2 : (d : Int) < (M.length : Int) := by omega
          by_cases he : S.getD d [] = M.getD d []
          · have HN : Hid (XInv S M (d + 1)) := ⟨hI.1.trans (diff_next S M d hd1 hd2 he), .inr (by
              rcases hI.2 with h | h
              · subst h; exact HAL.out he
              · exact h)⟩
            rw [show (S.getD d [] == M.getD d []) = true by simpa using he] at EQ
            have HFW2 := HFW.out
            clear hI he s1 s2 HAL HL2 hc2' HDD
            generalize f1 d = v1 at *
            generalize f2 d = v2 at *
            go_wp2_with (first | (go_at_call 51; refine EQ.mono ?_; rintro ev w10 ⟨rfl, hw8⟩; replace hw8 := hw8.symm; subst hw8))
            go_round
            case rel => exact ⟨d + 1, by omega, HN.out, by go_num⟩
            case measure => simp [intOf]; omega
          · have HR : Hid (diff S M = some (S.getD d [], M.getD d [])) := hI.1.trans (diff_here S M d hd1 hd2 he)
            rw [show (S.getD d [] == M.getD d []) = false by simpa using he] at EQ
            have HS1 : Hid _ := s1
            have HS2 : Hid _ := s2
            clear hI he s1 s2 HAL HL2 hc2'
            generalize f1 d = v1 at *
            generalize f2 d = v2 at *
            go_wp2_with (first | (go_at_call 51; refine EQ.mono ?_; rintro ev w10 ⟨rfl, hw8⟩; replace hw8 := hw8.symm; subst hw8))
            go_quiet (fail)
            go_wp2_with fail
            go_ret3
            exact ⟨_, _, _, rfl, .inr ⟨_, _, HDD.out.trans HR.out, rfl, HS1.out.below (below_drewN (Below.refl _ _) _), HS2.out.below (below_drewN (Below.refl _ _) _)⟩, below_drewN HB9.out _⟩
        · have HR : Hid (diff S M = none) := hI.1.trans (diff_end S M d (.inl (by omega)))
          have g1 : ¬ (d : Int) < (S.length : Int) := by omega
          clear hI HAL HL2 hc2'
          go_wp2_with fail
          go_ret3
          exact ⟨_, _, _, rfl, .inl ⟨HDD.out.trans HR.out, rfl, rfl, rfl⟩, HB9.out⟩
    · go_region_held3 (fun y => y.cell? ⟨w.heap.size, 0, none⟩ = some (.int .i64 (i : Int)) ∧ y.cell? ⟨w.heap.size, 1, none⟩ = some (.int .i64 (L.length : Int)) ∧ y.cell? ⟨w.heap.size, 2, none⟩ = some (.slice ap P.length cpp)) (assumption) (first
        | (go_at_call 24; refine (HR.out _ hD5).mono ?_; rintro ev w6 ⟨rfl, hb6⟩; have hD6 := nextB hD5 hb6; have hS6 := HS.out _ hD6)
        | (go_at_call 31; refine (HC.out _ hD6).mono ?_; rintro ev w7 ⟨rfl, hb7⟩; have hD7 := nextB hD6 hb7; have hS7 := HS.out _ hD7))
      have hb57 : Below w5.heap.size w5 w7 := nextB (nextB ((Below.refl w5.heap.size w5).drew) hb6) hb7
      have hB7 : Hid (Below w.heap.size w w7) := nextB HA.out hD7
      obtain ⟨d0, d1, d2⟩ := hS7
      have R7 := HRR.out _ hD7
      obtain ⟨M7, hH7⟩ := HM5.out _ hb57
      have m1 := M7.cell 1
      simp only [List.getElem?_cons_zero, List.getElem?_cons_succ] at m1
      have hEC7 := HEC.out _ hD7
      have HQ7 := HQ.out _ hD7
      clear HR HC q0 hS6
      go_wp2_with (first
        | (go_at_call 51; refine HQ7.mono ?_; rintro ev w8 ⟨rfl, hw8⟩; replace hw8 := hw8.symm; subst hw8)
        | (refine load30r rfl _ rfl w.heap.size _ _ _ rfl R7 ?_)
        | (go_at_call 49; refine (HX2.out _ hD7).mono ?_; rintro ev w8 ⟨hb8, tv, rfl, hT8⟩; have l8 := hT8.ls; obtain ⟨x1, y1, k1, f1, rfl, kk1, hc1⟩ := l8.some_ HPS.out.1))
      have HL1 : Hid (∀ y, Below w8.heap.size w8 y → ∀ j, j < S.length → y.cell? ⟨x1, y1 + j, none⟩ = some (f1 j) ∧ Sl y (f1 j) (S.getD j [])) := fun y hy j hj => ⟨(hy.cell (p := ⟨x1, y1 + j, none⟩) (World.block_lt_of_cell? w8 _ (hc1 j hj).1)).trans (hc1 j hj).1, (hc1 j hj).2.below hy⟩
      have hD8 := nextB hD7 hb8
      have hb58 := nextB hb57 hb8
      have hDd := hD8.drew
      have hbd := hb58.drew
      obtain ⟨M8, hH8⟩ := HM5.out _ hbd
      obtain ⟨e0, e1, e2⟩ := HS.out _ hDd
      have q8 : w8.drew.cell? ⟨w.heap.size, 0, none⟩ = some (.int .i64 (i : Int)) ∧ w8.drew.cell? ⟨bl, off + i, none⟩ = some (.slice ak Li.length ck) ∧ w8.drew.cell? ⟨w2.heap.size, 0, none⟩ = some (.int .i64 (i : Int)) ∧ w8.drew.cell? ⟨w2.heap.size, 1, none⟩ = some (.int .i64 (L.length : Int)) ∧ w8.drew.cell? ⟨w2.heap.size, 2, none⟩ = some (.slice ao Pi.length cp) := ⟨e0, HEC.out _ hDd, M8.cell 0, M8.cell 1, M8.cell 2⟩
      have HB8 : Hid (Below w.heap.size w w8) := nextB HA.out hD8
      have HY8 := HY2.out _ hbd
      have HS8 : Hid (∀ y, Below w8.drew.heap.size w8.drew y → (y.cell? ⟨w.heap.size, 0, none⟩ = some (.int .i64 (i : Int)) ∧ y.cell? ⟨bl, off + i, none⟩ = some (.slice ak Li.length ck) ∧ y.cell? ⟨w2.heap.size, 0, none⟩ = some (.int .i64 (i : Int)) ∧ y.cell? ⟨w2.heap.size, 1, none⟩ = some (.int .i64 (L.length : Int)) ∧ y.cell? ⟨w2.heap.size, 2, none⟩ = some (.slice ao Pi.length cp)) ∧ Below w8.heap.size w8 y) := fun y hy => by
        have h1 := HS.out _ (nextB hDd hy)
        have h2 := HM5.out _ (nextB hbd hy)
        exact ⟨⟨h1.1, HEC.out _ (nextB hDd hy), h2.1.cell 0, h2.1.cell 1, h2.1.cell 2⟩, nextB (Below.refl w8.heap.size w8).drew hy⟩
      clear HX2 HQ HQ7 hc1 l8 hT8 hb8 hD7 hb57 d0 d1 d2 R7 M7 hH7 m1 hEC7 M8 hH8 e0 e1 e2 hb6 hb7 hD5 hD6 hD8 hb58 kk1
      go_region_held3 (fun y => y.cell? ⟨w.heap.size, 0, none⟩ = some (.int .i64 (i : Int)) ∧ y.cell? ⟨bl, off + i, none⟩ = some (.slice ak Li.length ck) ∧ y.cell? ⟨w2.heap.size, 0, none⟩ = some (.int .i64 (i : Int)) ∧ y.cell? ⟨w2.heap.size, 1, none⟩ = some (.int .i64 (L.length : Int)) ∧ y.cell? ⟨w2.heap.size, 2, none⟩ = some (.slice ao Pi.length cp)) (assumption) (first
        | (go_at_call 49; refine HY8.mono ?_; rintro ev w9 ⟨hb9, tv2, rfl, hT9⟩; have l9 := hT9.ls; obtain ⟨x2, y2, k2, f2, rfl, kk2, hc2'⟩ := l9.some_ HPS.out.2; obtain ⟨hS9, hB9⟩ := HS8.out _ hb9))
      go_wp2_with fail
      have HL2 := HL1.out _ hB9
      have HB9 : Hid (Below w.heap.size w w9) := nextB HB8.out hB9
      clear HY8 HS8 HY2 HL1 hb9 hT9 l9 kk2 q8 hS9 hB9 HS HM5 HEC HRR hDd hbd
      go_loop [73] (fun t => ∃ d : Nat, d ≤ S.length ∧ XInv S M d ∧ t = .int .i64 (d : Int)) (fun t => S.length - (intOf t).toNat)
      case atStart => exact ⟨0, by omega, ⟨rfl, .inl rfl⟩, rfl⟩
      case round =>
        obtain ⟨d, hd, hI, rfl⟩ := hrel
        by_cases hd1 : d < S.length
        · have hd2 : d < M.length := by
            rcases hI.2 with h | h
            · have := HPS.out.2; omega
            · omega
          obtain ⟨u1, s1⟩ := HL2 d hd1
          obtain ⟨u2, s2⟩ := hc2' d hd2
          have EQ := equal_any w9 _ _ _ _ s1 s2
          have g0 : (0 : Int) ≤ (d : Int) := by omega
          have g1 : (d : Int) < (S.length : Int) := by omega
          have g2 : (d : Int) < (M.length : Int) := by omega
          by_cases he : S.getD d [] = M.getD d []
          · have HN : Hid (XInv S M (d + 1)) := ⟨hI.1.trans (diff_next S M d hd1 hd2 he), .inr (by
              rcases hI.2 with h | h
              · subst h; exact HAL.out he
              · exact h)⟩
            rw [show (S.getD d [] == M.getD d []) = true by simpa using he] at EQ
            have HFW2 := HFW.out
            clear hI he s1 s2 HAL HL2 hc2' HDD
            generalize f1 d = v1 at *
            generalize f2 d = v2 at *
            go_wp2_with (first | (go_at_call 51; refine EQ.mono ?_; rintro ev w10 ⟨rfl, hw8⟩; replace hw8 := hw8.symm; subst hw8))
            go_round
            case rel => exact ⟨d + 1, by omega, HN.out, by go_num⟩
            case measure => simp [intOf]; omega
          · have HR : Hid (diff S M = some (S.getD d [], M.getD d [])) := hI.1.trans (diff_here S M d hd1 hd2 he)
            rw [show (S.getD d [] == M.getD d []) = false by simpa using he] at EQ
            have HS1 : Hid _ := s1
            have HS2 : Hid _ := s2
            clear hI he s1 s2 HAL HL2 hc2'
            generalize f1 d = v1 at *
            generalize f2 d = v2 at *
            go_wp2_with (first | (go_at_call 51; refine EQ.mono ?_; rintro ev w10 ⟨rfl, hw8⟩; replace hw8 := hw8.symm; subst hw8))
            go_quiet (fail)
            go_wp2_with fail
            go_ret3
            exact ⟨_, _, _, rfl, .inr ⟨_, _, HDD.out.trans HR.out, rfl, HS1.out.below (below_drewN (Below.refl _ _) _), HS2.out.below (below_drewN (Below.refl _ _) _)⟩, below_drewN HB9.out _⟩
        · have HR : Hid (diff S M = none) := hI.1.trans (diff_end S M d (.inl (by omega)))
          have g1 : ¬ (d : Int) < (S.length : Int) := by omega
          clear hI HAL HL2 hc2'
          go_wp2_with fail
          go_ret3
          exact ⟨_, _, _, rfl, .inl ⟨HDD.out.trans HR.out, rfl, rfl, rfl⟩, HB9.out⟩

theorem extractBy_any (F : Bys → Bys) (E : Env F) (w : World) (lv bv pv : Value) (L : List Bys) (b : Bys) (i n : Int) (P : List Bys) (hL : Ls w lv L) (hs : Short L) (h9 : L.length ≤ 1000000) (hb : Sl w bv b) (hbl : b.length ≤ 100000) (hn : n ≤ 9223372036854775807) (hP : Hs w pv P) :
    Calls Try.prog 33 #[fn25, lv, bv, .agg #[.int .i64 i, .int .i64 n, pv]] w fun ev w' => ∃ x y t, ev = .returned (.tuple #[x, y, t]) ∧ Two (xtr F L b i n P) x y t w' ∧ Below w.heap.size w w' := by
  by_cases hi : 0 ≤ i ∧ i < (L.length : Int)
  · obtain ⟨j, rfl⟩ : ∃ j : Nat, i = (j : Int) := ⟨i.toNat, by omega⟩
    exact extractBy_in F E w lv bv pv L b j n P hL hs h9 hb hbl hn hP (by omega)
  · obtain ⟨ao, cp, rfl⟩ := hL.slice
    obtain ⟨ap, cpp, rfl⟩ := hP.slice
    refine (extractBy_out w ao ap L.length cp P.length cpp bv i n hi).mono ?_
    rintro ev w' ⟨rfl, hB⟩
    refine ⟨_, _, _, rfl, .inl ⟨?_, rfl, rfl, rfl⟩, hB⟩
    unfold xtr
    rw [if_neg]
    rintro ⟨h1, h2, _⟩
    exact hi ⟨h1, h2⟩
set_option maxHeartbeats 4000000 in
theorem extract_any (F : Bys → Bys) (E : Env F) (w : World) (lv bv pv : Value) (L : List Bys) (b : Bys) (i n : Int) (P : List Bys) (hL : Ls w lv L) (hs : Short L) (h9 : L.length ≤ 1000000) (hb : Sl w bv b) (hbl : b.length ≤ 100000) (hn : n ≤ 9223372036854775807) (hP : Hs w pv P) :
    Calls Try.prog 20 #[lv, bv, .agg #[.int .i64 i, .int .i64 n, pv]] w fun ev w' => ∃ x y t, ev = .returned (.tuple #[x, y, t]) ∧ Two (xtr F L b i n P) x y t w' ∧ Below w.heap.size w w' := by
  obtain ⟨ap, cpp, rfl⟩ := hP.slice
  obtain ⟨W, hW⟩ : ∃ W, W = w.alloc (.cells #[.int .i64 i, .int .i64 n, .slice ap P.length cpp] 30) := ⟨_, rfl⟩
  have hA : Below w.heap.size w W := by rw [hW]; exact (Below.refl w.heap.size w).alloc (Nat.le_refl _) _
  have R3 : Row W w.heap.size 30 [.int .i64 i, .int .i64 n, .slice ap P.length cpp] := by rw [hW]; exact Row.new w 30 _
  have HT := extractBy_any F E W lv bv _ L b i n P (hL.below hA) hs h9 (hb.below hA) hbl hn (hP.below hA)
  have AW : Aside (W = w.alloc (.cells #[.int .i64 i, .int .i64 n, .slice ap P.length cpp] 30)) := hW
  have HA : Hid (Below w.heap.size w W) := hA
  clear hW hA hb hP hL
  unfold fn25 at *
  generalize xtr F L b i n P = res at *
  go_enter Try.func20, Try.ntmps20
  go_wp2_with (first | (rw [← AW.out]; refine load30r rfl _ rfl w.heap.size _ _ _ rfl R3 ?_) | (go_at_call 33; refine HT.mono ?_; rintro ev w2 ⟨x, y, t, rfl, hT2, hB2⟩))
  go_ret3
  exact ⟨_, _, _, rfl, hT2, nextB HA.out hB2⟩
end Go.Proofs.Ytfkibbpekngciaa
