/-
  MerkleForms.
-/
import Derived.Test.YtfkibbpekngciaaQExR17
import Derived.Test.YtfkibbpekngciaaJoinChk2xEx
import Derived.Test.YtfkibbpekngciaaJoinFew3xEx
namespace Go.Proofs.Ytfkibbpekngciaa
open Go.RowKit

theorem chk_no {F : Bys → Bys} {r b : Bys} {i n : Int} {P : List Bys} (h : ¬ Form i n P) : chk F r b i n P = false := by
  unfold chk
  rw [@decide_eq_false _ (decForm _ _ _) h, Bool.false_and]
/-- A place out of any number. -/
theorem place_of (i : Int) (n : Nat) (hn : 1 ≤ n) : ∃ (r : Int) (k : Nat), i.tmod (n : Int) = r ∧ -(n : Int) < r ∧ r < (n : Int) ∧ (r + (n : Int)) % (n : Int) = (k : Int) ∧ k < n := by
  refine ⟨_, ((i.tmod (n : Int) + (n : Int)) % (n : Int)).toNat, rfl, ?_, ?_, ?_, ?_⟩
  · have h1 : (i.tmod (n : Int)).natAbs = i.natAbs % n := by simp [Int.natAbs_tmod]
    have h2 := Nat.mod_lt i.natAbs (show 0 < n by omega)
    omega
  · exact Int.tmod_lt_of_pos _ (by omega)
  · have := Int.emod_nonneg (i.tmod (n : Int) + (n : Int)) (b := (n : Int)) (by omega)
    omega
  · have := Int.emod_lt_of_pos (i.tmod (n : Int) + (n : Int)) (b := (n : Int)) (by omega)
    have := Int.emod_nonneg (i.tmod (n : Int) + (n : Int)) (b := (n : Int)) (by omega)
    omega
set_option maxHeartbeats 8000000 in
set_option maxRecDepth 20000 in
theorem forms_told (F : Bys → Bys) (E : Env2 F) (w : World) (v : Value) (L : List Bys) (hL : Ls w v L) (hl : L.length ≤ 9223372036854775807) (hE : ∀ b ∈ L, b.length ≤ 9223372036854775807) (i : Int) (h : Bys) (hc : fewB L = false ∨ L.length = 0) :
    Calls Try.prog 8 #[v, .int .i64 i, .agg (bys h).toArray] w fun ev w' => ev = .returned (.bool true) ∧ Below w.heap.size w w' := by
  have hA : Below w.heap.size w (w.alloc (.cells (bys h).toArray 26)) := (Below.refl _ _).alloc (Nat.le_refl _) _
  have HF := few_any (w.alloc (.cells (bys h).toArray 26)) v L (hL.below hA) hl hE
  obtain ⟨ao, cp, rfl⟩ := hL.slice
  have HT : Hid (∀ y, Calls Try.prog 10 #[] y fun ev w' => ev = .returned (.bool true) ∧ Below y.heap.size y w') := fun y => told_any F E y
  have HA : Hid (Below w.heap.size w (w.alloc (.cells (bys h).toArray 26))) := hA
  clear hL hA
  generalize (bys h).toArray = Y at *
  by_cases hf : fewB L = true
  · rw [hf] at HF
    have h0 : (L.length : Int) = 0 := by
      rcases hc with hc | hc
      · rw [hf] at hc; cases hc
      · omega
    have h0' : ((L.length : Int) == 0) = true := by simp [h0]
    clear hc h0
    go_enter Try.func8, Try.ntmps8
    go_wp2_with (first | (go_at_call 9; refine HF.mono ?_; rintro ev w1 ⟨rfl, rfl⟩) | (go_at_call 10; refine (HT.out _).mono ?_; rintro ev w2 ⟨rfl, hb2⟩))
    go_ret
    exact ⟨rfl, nextB HA.out hb2⟩
  · rw [show fewB L = false by simpa using hf] at HF
    clear hc hf
    go_enter Try.func8, Try.ntmps8
    go_wp2_with (first | (go_at_call 9; refine HF.mono ?_; rintro ev w1 ⟨rfl, rfl⟩) | (go_at_call 10; refine (HT.out _).mono ?_; rintro ev w2 ⟨rfl, hb2⟩))
    go_ret
    exact ⟨rfl, nextB HA.out hb2⟩

/-- A row of sums without its first one. -/
theorem Hs.tail {w : World} {b off cap : Nat} {P : List Bys} (h : Hs w (.slice (some ⟨b, off, none⟩) P.length cap) P) (h0 : 0 < P.length) : Hs w (.slice (some ⟨b, off + 32, none⟩) (P.length - 1) (cap - 1)) (P.drop 1) := by
  rcases h.shape with ⟨_, _, _, e0⟩ | ⟨b', off', cap', e, hcap, hr⟩
  · rw [e0] at h0; simp at h0
  · cases e
    refine ⟨fun p hp => h.each p (List.mem_of_mem_drop hp), .inr ⟨b, off + 32, cap - 1, by simp, by simp; omega, fun j u hj => ?_⟩⟩
    obtain ⟨p, P', rfl⟩ : ∃ p P', P = p :: P' := by
      cases P with
      | nil => simp at h0
      | cons p P' => exact ⟨p, P', rfl⟩
    have hp : (bys p).length = 32 := by rw [bys_len]; exact h.each p (by simp)
    have hr' : (rows26 (p :: P'))[32 + j]? = some u := by
      show (bys p ++ rows26 P')[32 + j]? = _
      rw [List.getElem?_append_right (by omega), hp, Nat.add_sub_cancel_left]; exact hj
    have := hr (32 + j) u hr'
    rw [Nat.add_assoc]; exact this
theorem Hs.tail1 {w : World} {b off cap : Nat} {P : List Bys} (h : Hs w (.slice (some ⟨b, off, none⟩) P.length cap) P) (h0 : 0 < P.length) (hc : cap = 1) : P.length = 1 := by
  rcases h.shape with ⟨_, _, _, e0⟩ | ⟨b', off', cap', e, hcap, hr⟩
  · rw [e0] at h0; simp at h0
  · cases e; omega
set_option maxHeartbeats 8000000 in
set_option maxRecDepth 20000 in
theorem forms_some (F : Bys → Bys) (E : Env2 F) (w : World) (v : Value) (L : List Bys) (hL : Ls w v L) (hf : fewB L = true) (h1 : 1 ≤ L.length) (hE : ∀ b ∈ L, b.length ≤ 9223372036854775807) (i : Int) (h : Bys) (hh : h.length = 32) :
    Calls Try.prog 8 #[v, .int .i64 i, .agg (bys h).toArray] w fun ev w' => ev = .returned (.bool true) ∧ Below w.heap.size w w' := by
  have h20 := fewB_len hf
  have hsh := fewB_short hf
  have hA : Below w.heap.size w (w.alloc (.cells (bys h).toArray 26)) := (Below.refl _ _).alloc (Nat.le_refl _) _
  have HF := few_any (w.alloc (.cells (bys h).toArray 26)) v L (hL.below hA) (by omega) hE
  rw [hf] at HF
  obtain ⟨b, off, cap, fv, rfl, hcap, hcells⟩ := hL.some_ (by omega)
  obtain ⟨r, k, e1, e2, e3, e4, hk⟩ := place_of i L.length h1
  have HP := prove_yes F E.toEnv (w.alloc (.cells (bys h).toArray 26)) _ L (hL.below hA) hsh (by omega) k hk
  have R5 := Row.new w 26 (bys h)
  have HA : Hid (Below w.heap.size w (w.alloc (.cells (bys h).toArray 26))) := hA
  have n0 : ((L.length : Int) == 0) = false := by
    have : ¬ (L.length : Int) = 0 := by omega
    simpa using this
  have n1 : (1 : Int) ≤ (L.length : Int) := by omega
  have n2 : (L.length : Int) ≤ 20 := by omega
  have HLw : Hid (Ls w (.slice (some ⟨b, off, none⟩) L.length cap) L) := hL
  clear hL hA hf hE
  generalize hYe : (bys h).toArray = Y at *
  go_enter Try.func8, Try.ntmps8
  go_wp2_with (first | (go_at_call 9; refine HF.mono ?_; rintro ev w1 ⟨rfl, rfl⟩))
  rw [e4]
  refine HP.mono ?_
  rintro ev w1 ⟨ap, cpp, rfl, hH1, hF1, hb1⟩
  have b1 : ∀ (y : World) o, Below y.heap.size y (y.alloc o) := fun y o => (Below.refl _ _).alloc (Nat.le_refl _) _
  have hpl : (path F L k).length = (lefts k L.length).length := (lefts_path F L k).symm
  have hp63 : (path F L k).length ≤ 63 := by
    have := downs_64 k L.length (by omega)
    simpa [path] using this
  generalize path F L k = P at *
  have HPL : Hid (P.length = (lefts k L.length).length) := hpl
  clear hpl
  have N1 := Row.new w1 30 [.int .i64 0, .int .i64 0, .slice none 0 0]
  have A1 := b1 w1 (.cells #[.int .i64 0, .int .i64 0, .slice none 0 0] 30)
  have o1 := one3 k L.length ap P.length cpp
  have hBW : Below w.heap.size w w1 := nextB HA.out hb1
  have R51 := R5.below hb1 R5.lt
  clear HP HF e1 e2 e3 e4 R5
  go_wp2_with (first | (refine store30 rfl _ _ rfl w1 w1.heap.size _ _ _ o1 rfl rfl _ _ _ N1 _ A1 (Nat.le_refl _) ?_; intro w2 R2 hb2 _))
  have hBW2 := nextB hBW hb2
  have RO := root_any F E.toEnv w2 _ L (HLw.out.below hBW2) hsh (by omega)
  have hrl : (root F L).length = 32 := E.len _
  refine RO.mono ?_
  rintro ev w3 ⟨rfl, hb3⟩
  have N3 := Row.new w3 26 (bys zero32)
  have A3 := b1 w3 (.cells (bys zero32).toArray 26)
  generalize root F L = rt at *
  clear RO
  go_wp2_with (first | (refine store26 rfl _ _ rfl w3 w3.heap.size _ hrl rfl rfl zero32 zero32_len N3 _ A3 (Nat.le_refl _) ?_; intro w4 R4 hb4 _))
  have h24 := nextB hb3 hb4
  have R8 := R2.below h24 R2.lt
  have R54 := (R51.below hb2 R51.lt).below h24 (by have := R51.lt; have := hb2.size; omega)
  have hH4 := (hH1.below hb2).below h24
  have hBW4 := nextB hBW2 h24
  refine Code.wp_mono ?_ (reg8_any w4 w1.heap.size P.length cpp (k : Int) (L.length : Int) ap R8 _ _ _ _ _ _ _ _ _ _ _ _ _ _ _ _ _ _ _ _ _ _ _ _ _ _ _ _ _ _ _ _ _ _ _ _ _ _ _ _ _ _ _ _ _ _ _ _ _ _ _ _ _ _ _ _ _ _ _ _ _ _ _ _ _ _ _ _ _ _ _ _ _ _ _ _ _ _ _ _ _ _ _ _ _ _ _ _ _ _ _ _ _ _ _ _ _ _ _ _ _ _ _ _ _ _ _ _ _ _ _ _ _ _ _)
  rintro e a' w5 ⟨rfl, g11, g12, g13, rfl, Ra, Rb, Rc, na, nb, nc, ea, eb, ec, hb5⟩
  dsimp only
  have lt1 := R8.lt
  have H5 := hH4.below hb5
  have R85 := R8.below hb5 lt1
  have R55 := R54.below hb5 R54.lt
  have ne8 : w1.heap.size ≠ g11 := by omega
  have Hb5 : Hid (Below w4.heap.size w4 w5) := hb5
  have HF4 : Hid (Row w4 w1.heap.size 30 [.int .i64 (k : Int), .int .i64 (L.length : Int), .slice ap P.length cpp] ∧ Row w4 w.heap.size 26 (bys h) ∧ Row w4 w3.heap.size 26 (bys rt) ∧ Hs w4 (.slice ap P.length cpp) P ∧ Below w.heap.size w w4) := ⟨R8, R54, R4, hH4, hBW4⟩
  clear R51 R2 R4 R54 R8 hH4 hBW4 hBW hBW2 hb1 hb2 hb3 hb4 h24 hH1 N1 A1 N3 A3 hb5
  go_wp2_with fail
  refine Code.wp_mono ?_ (reg9_any w5 w.heap.size w1.heap.size g11 cpp (k : Int) (L.length : Int) ap h hh P (by omega) H5 R55 R85 Ra ne8 _ _ _ _ _ _ _ _ _ _ _ _ _ _ _ _ _ _ _ _ _ _ _ _ _ _ _ _ _ _ _ _ _ _ _ _ _ _ _ _ _ _ _ _ _ _ _ _ _ _ _ _ _ _ _ _ _ _ _ _ _ _ _ _ _ _ _ _ _ _ _ _ _ _ _ _ _ _ _ _ _ _ _ _ _ _ _ _ _ _ _ _ _ _ _ _ _ _ _ _ _ _ _ _ _ _ _ _ _ _ _ _ _)
  rintro e a' w6 ⟨rfl, g47, g52, c5, c6, a5, a6, rfl, Ra6, Hm6, hg6⟩
  dsimp only
  have Rb6 := Rb.grown hg6 (fun e => na (Option.some.inj e))
  have Rc6 := Rc.grown hg6 (fun e => nb (Option.some.inj e))
  have hb46 : Below w4.heap.size w4 w6 := Hb5.out.trans (below_grown hg6 Hb5.out.size (fun q e => by cases e; exact ea))
  obtain ⟨R84, R54, R4, hH4, hBW4⟩ := HF4.out
  have R86 := R84.below hb46 R84.lt
  have R56 := R54.below hb46 R54.lt
  have R46 := R4.below hb46 R4.lt
  have hH6 := hH4.below hb46
  have ne812 : w1.heap.size ≠ g12 := by have := R84.lt; omega
  have ne813 : w1.heap.size ≠ g13 := by have := R84.lt; omega
  obtain ⟨W8, hW8⟩ : ∃ W8, W8 = (w6.setCell ⟨g13, 0, none⟩ (.int .i64 (L.length : Int))).setCell ⟨g12, 1, none⟩ (.int .i64 0) := ⟨_, rfl⟩
  have q1 := Rc6.cell 0
  have q2 := Rc6.fz 0
  have q3 := fun x => (Rb6.other nc (j := 0) x).cell 1
  have q4 := fun x => (Rb6.other nc (j := 0) x).fz 1
  have q5 := fun x y => ((R86.other ne813 (j := 0) x).other ne812 (j := 1) y).cell 2
  simp only [List.getElem?_cons_zero, List.getElem?_cons_succ] at q1 q3 q5
  have R88 : Row W8 w1.heap.size 30 [.int .i64 (k : Int), .int .i64 (L.length : Int), .slice ap P.length cpp] := by rw [hW8]; exact (R86.other ne813 _).other ne812 _
  have Ra8 : Row W8 g11 30 [.int .i64 (k : Int), .int .i64 (L.length : Int), .slice a6 (P.length + 1) c6] := by rw [hW8]; exact (Ra6.other nb _).other na _
  have Rb8 : Row W8 g12 30 [.int .i64 (k : Int), .int .i64 0, .slice ap P.length cpp] := by rw [hW8]; exact (Rb6.other nc _).set 1 _
  have Rc8 : Row W8 g13 30 [.int .i64 (L.length : Int), .int .i64 (L.length : Int), .slice ap P.length cpp] := by rw [hW8]; exact (Rc6.set 0 _).other (fun e => nc e.symm) _
  have hb48 : Below w4.heap.size w4 W8 := by rw [hW8]; exact (hb46.setCell (p := ⟨g13, 0, none⟩) ec _).setCell (p := ⟨g12, 1, none⟩) eb _
  have hM8 : Hs W8 (.slice a6 (P.length + 1) c6) (P ++ [h]) := by
    have e : P.length + 1 = (P ++ [h]).length := by simp
    rw [e] at Hm6 ⊢
    refine Hs.ofOwn (B := w5.heap.size) ?_ (fun p hp => ?_)
    · rw [hW8]; exact own_setCell (own_setCell Hm6 Rc6 (by decide)) (Rb6.other nc _) (by decide)
    · rcases List.mem_append.1 hp with hp | hp
      · exact hH4.each p hp
      · rw [List.mem_singleton.1 hp]; exact hh
  have AW : Aside (W8 = (w6.setCell ⟨g13, 0, none⟩ (.int .i64 (L.length : Int))).setCell ⟨g12, 1, none⟩ (.int .i64 0)) := hW8
  clear hW8 Ra6 Rb6 Rc6 R86 R56 R46 hH6 hb46 hg6 Hm6 Ra Rb Rc R85 R55 H5
  have hBW8 := nextB hBW4 hb48
  have hb4B : w4.heap.size ≤ W8.heap.size := hb48.size
  obtain ⟨ckv, lkv⟩ := hcells k hk
  obtain ⟨ak, ck, ek⟩ := sl_slice lkv
  rw [ek] at ckv lkv
  have hlk := hsh.get k
  generalize L.getD k [] = lk at *
  have hq5 := q5 (.int .i64 (L.length : Int)) (.int .i64 0)
  have HEND : Hid (∀ y, Below W8.heap.size W8 y → (Row y g11 30 [.int .i64 (k : Int), .int .i64 (L.length : Int), .slice a6 (P.length + 1) c6] ∧ Row y g12 30 [.int .i64 (k : Int), .int .i64 0, .slice ap P.length cpp] ∧ Row y g13 30 [.int .i64 (L.length : Int), .int .i64 (L.length : Int), .slice ap P.length cpp] ∧ Row y w.heap.size 26 (bys h) ∧ Row y w3.heap.size 26 (bys rt) ∧ Hs y (.slice a6 (P.length + 1) c6) (P ++ [h]) ∧ Hs y (.slice ap P.length cpp) P ∧ Below w.heap.size w y ∧ y.cell? ⟨b, off + k, none⟩ = some (.slice ak lk.length ck) ∧ Sl y (.slice ak lk.length ck) lk)) := fun y hy => by
    have hy4 := nextB hb48 hy
    have hyw := nextB hBW8 hy
    exact ⟨Ra8.below hy Ra8.lt, Rb8.below hy Rb8.lt, Rc8.below hy Rc8.lt, R54.below hy4 R54.lt, R4.below hy4 R4.lt, hM8.below hy, hH4.below hy4, hyw, (hyw.cell (p := ⟨b, off + k, none⟩) (World.block_lt_of_cell? w _ ckv)).trans ckv, lkv.below hyw⟩
  have HT : Hid (∀ y, Calls Try.prog 10 #[] y fun ev w' => ev = .returned (.bool true) ∧ Below y.heap.size y w') := fun y => told_any F E y
  have HFm : Hid (¬ Form (k : Int) (L.length : Int) (P ++ [h])) := fun hF => by
    have a1 := hF.2.2
    have a2 := HPL.out
    simp at a1 a2
    omega
  have HFl : Hid (0 < P.length → ¬ Form (k : Int) (L.length : Int) (P.drop 1)) := fun h0 hF => by
    have a1 := hF.2.2
    have a2 := HPL.out
    simp at a1 a2
    omega
  clear hcells ek q5 hBW4 R4 R54 R84 hH4 HF4 Ra8 Rb8 Rc8 hM8 hsh
  by_cases hp0 : 0 < P.length
  · have p1 : (0 : Int) < (P.length : Int) := by omega
    obtain ⟨pb, po, rfl⟩ : ∃ pb po, ap = some ⟨pb, po, none⟩ := by
      rcases (HEND.out W8 (Below.refl _ _)).2.2.2.2.2.2.1.shape with ⟨_, _, _, e0⟩ | ⟨b', off', _, e, _⟩
      · rw [e0] at hp0; simp at hp0
      · cases e; exact ⟨_, _, rfl⟩
    have N8 := Row.new W8 30 [.int .i64 0, .int .i64 0, .slice none 0 0]
    have A8 := b1 W8 (.cells #[.int .i64 0, .int .i64 0, .slice none 0 0] 30)
    have R88' := R88
    by_cases hc1 : cpp = 1
    · have hP1 : P.length = 1 := (HEND.out W8 (Below.refl _ _)).2.2.2.2.2.2.1.tail1 hp0 hc1
      subst hc1
      have p3 : (P.length : Int) ≤ 1 := by omega
      have HS1 : Hid (∀ y, Hs y (.slice (some ⟨pb, po, none⟩) (P.length - 1) 0) (P.drop 1)) := fun y => by
        have e1 : P.drop 1 = [] := List.drop_eq_nil_of_le (by omega)
        rw [e1, hP1]
        exact ⟨fun p hp => by simp at hp, .inl ⟨_, _, rfl, rfl⟩⟩
      clear hP1
      have p2 : (1 : Int) ≤ (P.length : Int) := by omega
      go_wp2_with (first | (rw [← AW.out]; refine load30r rfl _ rfl w1.heap.size _ _ _ rfl R88 ?_) | (refine store30 rfl _ _ rfl W8 W8.heap.size _ _ _ o1 rfl rfl _ _ _ N8 _ A8 (Nat.le_refl _) ?_; intro w9 R9 hb9 _; have c9 := (R88'.below hb9 R88'.lt).cell 2; have d9 := R9.cell 2; have f9 := R9.fz 2; simp only [List.getElem?_cons_zero, List.getElem?_cons_succ] at c9 d9))
      have hb10 : Below W8.heap.size W8 (w9.setCell ⟨W8.heap.size, 2, none⟩ (.slice (some ⟨pb, po, none⟩) (P.length - 1) 0)) := hb9.setCell (p := ⟨W8.heap.size, 2, none⟩) (Nat.le_refl _) _
      have R10 := R9.set 2 (.slice (some ⟨pb, po, none⟩) (P.length - 1) 0)
      generalize w9.setCell ⟨W8.heap.size, 2, none⟩ (.slice (some ⟨pb, po, none⟩) (P.length - 1) 0) = w10 at *
      have hd10 : Below W8.heap.size W8 w10.drew := hb10.drew
      obtain ⟨_, _, _, _, Le10, _, Lp10, _, Lcell10, Lsl10⟩ := HEND.out w10.drew hd10
      have s1 := R10.drew.cell 0
      have s2 := R10.drew.cell 1
      have s3 := R10.drew.cell 2
      simp only [List.getElem?_cons_zero, List.getElem?_cons_succ, List.set_cons_zero, List.set_cons_succ] at s1 s2 s3
      have CK := check_any F E.toEnv w10.drew _ _ rt lk (k : Int) (L.length : Int) (P.drop 1) hrl Lsl10 hlk (by omega) (HS1.out _)
      rw [chk_no (HFl.out hp0)] at CK
      have q0 : w10.drew.rangeAt w3.heap.size 0 (bys rt) ∧ w10.drew.cell? ⟨b, off + k, none⟩ = some (.slice ak lk.length ck) ∧ w10.drew.cell? ⟨W8.heap.size, 0, none⟩ = some (.int .i64 (k : Int)) ∧ w10.drew.cell? ⟨W8.heap.size, 1, none⟩ = some (.int .i64 (L.length : Int)) ∧ w10.drew.cell? ⟨W8.heap.size, 2, none⟩ = some (.slice (some ⟨pb, po, none⟩) (P.length - 1) 0) := ⟨Le10.range, Lcell10, s1, s2, s3⟩
      have HQ0 : Hid (∀ y, Below w10.drew.heap.size w10.drew y → (y.rangeAt w3.heap.size 0 (bys rt) ∧ y.cell? ⟨b, off + k, none⟩ = some (.slice ak lk.length ck) ∧ y.cell? ⟨W8.heap.size, 0, none⟩ = some (.int .i64 (k : Int)) ∧ y.cell? ⟨W8.heap.size, 1, none⟩ = some (.int .i64 (L.length : Int)) ∧ y.cell? ⟨W8.heap.size, 2, none⟩ = some (.slice (some ⟨pb, po, none⟩) (P.length - 1) 0)) ∧ Below W8.heap.size W8 y) := fun y hy => ⟨⟨range_below q0.1 hy, (hy.cell (p := ⟨b, off + k, none⟩) (World.block_lt_of_cell? w10.drew _ q0.2.1)).trans q0.2.1, (hy.cell (p := ⟨W8.heap.size, 0, none⟩) (World.block_lt_of_cell? w10.drew _ s1)).trans s1, (hy.cell (p := ⟨W8.heap.size, 1, none⟩) (World.block_lt_of_cell? w10.drew _ s2)).trans s2, (hy.cell (p := ⟨W8.heap.size, 2, none⟩) (World.block_lt_of_cell? w10.drew _ s3)).trans s3⟩, nextB hd10 hy⟩
      have hlr := info26L rt hrl
      have hu := Try.underlying26
      have k1 : (0 : Int) ≤ (k : Int) := by omega
      have k2 : (k : Int) < (L.length : Int) := by omega
      have HRT : Hid (rt.length = 32) := hrl
      clear s1 s2 s3 Le10 Lp10 Lcell10 Lsl10 R10 hb10 hd10 c9 d9 f9 R9 hb9 N8 A8 R88 R88' hq5 q1 q2 q3 q4 AW
      generalize hZ : bys rt = Z at *
      go_region_held3 (fun y => y.rangeAt w3.heap.size 0 Z ∧ y.cell? ⟨b, off + k, none⟩ = some (.slice ak lk.length ck) ∧ y.cell? ⟨W8.heap.size, 0, none⟩ = some (.int .i64 (k : Int)) ∧ y.cell? ⟨W8.heap.size, 1, none⟩ = some (.int .i64 (L.length : Int)) ∧ y.cell? ⟨W8.heap.size, 2, none⟩ = some (.slice (some ⟨pb, po, none⟩) (P.length - 1) 0)) (assumption) (first
        | (go_at_call 17; refine CK.mono ?_; rintro ev w11 ⟨rfl, hb11⟩; obtain ⟨hS11, hB11⟩ := HQ0.out w11 hb11))
      clear CK q0
      subst hZ
      go_wp2_with fail
      obtain ⟨La, Lb, Lc, Ld, Le, Lm, Lp, LB, Lcell, Lsl⟩ := HEND.out w11 hB11
      refine Code.wp_mono ?_ (reg17_any w11 b off L.length cap k w.heap.size w3.heap.size g11 g12 g13 lk.length ck ak rt h hrl hh (.int .i64 (k : Int)) (.int .i64 (L.length : Int)) (.int .i64 (k : Int)) (.int .i64 0) (.int .i64 (L.length : Int)) (.int .i64 (L.length : Int)) a6 (some ⟨pb, po, none⟩) (some ⟨pb, po, none⟩) (P.length + 1) c6 P.length 1 P.length 1 hk Lcell Ld Le La Lb Lc
        (fun y _ => HT.out y)
        (fun y hy => (check_any F E.toEnv y _ _ rt lk (k : Int) (L.length : Int) (P ++ [h]) hrl (Lsl.below hy) hlk (by omega) (Lm.below hy)).mono (fun ev y' ⟨e, hb⟩ => ⟨by rw [e, chk_no HFm.out], hb⟩))
        (fun y hy => (check_any F E.toEnv y _ _ rt lk (L.length : Int) (L.length : Int) P hrl (Lsl.below hy) hlk (by omega) (Lp.below hy)).mono (fun ev y' ⟨e, hb⟩ => ⟨by rw [e, chk_no (fun hF => by have := hF.2.1; omega)], hb⟩))
        (fun y hy => (check_any F E.toEnv y _ _ rt lk (k : Int) 0 P hrl (Lsl.below hy) hlk (by omega) (Lp.below hy)).mono (fun ev y' ⟨e, hb⟩ => ⟨by rw [e, chk_no (fun hF => by have := hF.2.1; omega)], hb⟩))
        (fun y hy => (check_any F E.toEnv y _ _ h lk (-1) 1 [] hh (Lsl.below hy) hlk (by omega) ⟨fun p hp => by simp at hp, .inl ⟨none, 0, rfl, rfl⟩⟩).mono (fun ev y' ⟨e, hb⟩ => ⟨by rw [e, chk_no (fun hF => by have := hF.1; omega)], hb⟩))
        _ _ _ _ _ _ _ _ _ _ _ _ _ _ _ _ _ _ _ _ _ _ _ _ _ _ _ _ _ _ _ _ _ _ _ _ _ _ _ _ _ _ _ _ _ _ _ _ _ _ _ _ _ _ _ _ _ _ _ _ _ _ _ _ _ _ _ _ _ _ _ _ _ _ _ _ _ _ _ _ _ _ _ _ _ _ _ _ _ _ _ _ _ _ _ _ _ _ _ _ _ _ _ _ _ _ _ _ _)
      rintro e a' w20 ⟨rfl, hd, h0, hb20⟩
      have HB : Hid (Below w.heap.size w w20) := nextB LB hb20
      have HD : Hid (a'.defers = []) := hd
      have H0 : Hid (a'.tmps.getD 6 undef = .bool true) := h0
      clear hd h0 hb20 LB Lcell Lsl La Lb Lc Ld Le Lm Lp
      go_wp2_with fail
      refine bodyPost_ret (results_tmp Try.results8 _ _ _) HD.out ⟨?_, HB.out⟩
      rw [H0.out]
    · have p2 : (1 : Int) ≤ (P.length : Int) := by omega
      go_wp2_with (first | (rw [← AW.out]; refine load30r rfl _ rfl w1.heap.size _ _ _ rfl R88 ?_) | (refine store30 rfl _ _ rfl W8 W8.heap.size _ _ _ o1 rfl rfl _ _ _ N8 _ A8 (Nat.le_refl _) ?_; intro w9 R9 hb9 _; have c9 := (R88'.below hb9 R88'.lt).cell 2; have d9 := R9.cell 2; have f9 := R9.fz 2; simp only [List.getElem?_cons_zero, List.getElem?_cons_succ] at c9 d9))
      have hb10 : Below W8.heap.size W8 (w9.setCell ⟨W8.heap.size, 2, none⟩ (.slice (some ⟨pb, po + 32, none⟩) (P.length - 1) (cpp - 1))) := hb9.setCell (p := ⟨W8.heap.size, 2, none⟩) (Nat.le_refl _) _
      have R10 := R9.set 2 (.slice (some ⟨pb, po + 32, none⟩) (P.length - 1) (cpp - 1))
      generalize w9.setCell ⟨W8.heap.size, 2, none⟩ (.slice (some ⟨pb, po + 32, none⟩) (P.length - 1) (cpp - 1)) = w10 at *
      have hd10 : Below W8.heap.size W8 w10.drew := hb10.drew
      obtain ⟨_, _, _, _, Le10, _, Lp10, _, Lcell10, Lsl10⟩ := HEND.out w10.drew hd10
      have s1 := R10.drew.cell 0
      have s2 := R10.drew.cell 1
      have s3 := R10.drew.cell 2
      simp only [List.getElem?_cons_zero, List.getElem?_cons_succ, List.set_cons_zero, List.set_cons_succ] at s1 s2 s3
      have CK := check_any F E.toEnv w10.drew _ _ rt lk (k : Int) (L.length : Int) (P.drop 1) hrl Lsl10 hlk (by omega) (Lp10.tail hp0)
      rw [chk_no (HFl.out hp0)] at CK
      have q0 : w10.drew.rangeAt w3.heap.size 0 (bys rt) ∧ w10.drew.cell? ⟨b, off + k, none⟩ = some (.slice ak lk.length ck) ∧ w10.drew.cell? ⟨W8.heap.size, 0, none⟩ = some (.int .i64 (k : Int)) ∧ w10.drew.cell? ⟨W8.heap.size, 1, none⟩ = some (.int .i64 (L.length : Int)) ∧ w10.drew.cell? ⟨W8.heap.size, 2, none⟩ = some (.slice (some ⟨pb, po + 32, none⟩) (P.length - 1) (cpp - 1)) := ⟨Le10.range, Lcell10, s1, s2, s3⟩
      have HQ0 : Hid (∀ y, Below w10.drew.heap.size w10.drew y → (y.rangeAt w3.heap.size 0 (bys rt) ∧ y.cell? ⟨b, off + k, none⟩ = some (.slice ak lk.length ck) ∧ y.cell? ⟨W8.heap.size, 0, none⟩ = some (.int .i64 (k : Int)) ∧ y.cell? ⟨W8.heap.size, 1, none⟩ = some (.int .i64 (L.length : Int)) ∧ y.cell? ⟨W8.heap.size, 2, none⟩ = some (.slice (some ⟨pb, po + 32, none⟩) (P.length - 1) (cpp - 1))) ∧ Below W8.heap.size W8 y) := fun y hy => ⟨⟨range_below q0.1 hy, (hy.cell (p := ⟨b, off + k, none⟩) (World.block_lt_of_cell? w10.drew _ q0.2.1)).trans q0.2.1, (hy.cell (p := ⟨W8.heap.size, 0, none⟩) (World.block_lt_of_cell? w10.drew _ s1)).trans s1, (hy.cell (p := ⟨W8.heap.size, 1, none⟩) (World.block_lt_of_cell? w10.drew _ s2)).trans s2, (hy.cell (p := ⟨W8.heap.size, 2, none⟩) (World.block_lt_of_cell? w10.drew _ s3)).trans s3⟩, nextB hd10 hy⟩
      have hlr := info26L rt hrl
      have hu := Try.underlying26
      have k1 : (0 : Int) ≤ (k : Int) := by omega
      have k2 : (k : Int) < (L.length : Int) := by omega
      have HRT : Hid (rt.length = 32) := hrl
      clear s1 s2 s3 Le10 Lp10 Lcell10 Lsl10 R10 hb10 hd10 c9 d9 f9 R9 hb9 N8 A8 R88 R88' hq5 q1 q2 q3 q4 AW
      generalize hZ : bys rt = Z at *
      go_region_held3 (fun y => y.rangeAt w3.heap.size 0 Z ∧ y.cell? ⟨b, off + k, none⟩ = some (.slice ak lk.length ck) ∧ y.cell? ⟨W8.heap.size, 0, none⟩ = some (.int .i64 (k : Int)) ∧ y.cell? ⟨W8.heap.size, 1, none⟩ = some (.int .i64 (L.length : Int)) ∧ y.cell? ⟨W8.heap.size, 2, none⟩ = some (.slice (some ⟨pb, po + 32, none⟩) (P.length - 1) (cpp - 1))) (assumption) (first
        | (go_at_call 17; refine CK.mono ?_; rintro ev w11 ⟨rfl, hb11⟩; obtain ⟨hS11, hB11⟩ := HQ0.out w11 hb11))
      clear CK q0
      subst hZ
      go_wp2_with fail
      obtain ⟨La, Lb, Lc, Ld, Le, Lm, Lp, LB, Lcell, Lsl⟩ := HEND.out w11 hB11
      refine Code.wp_mono ?_ (reg17_any w11 b off L.length cap k w.heap.size w3.heap.size g11 g12 g13 lk.length ck ak rt h hrl hh (.int .i64 (k : Int)) (.int .i64 (L.length : Int)) (.int .i64 (k : Int)) (.int .i64 0) (.int .i64 (L.length : Int)) (.int .i64 (L.length : Int)) a6 (some ⟨pb, po, none⟩) (some ⟨pb, po, none⟩) (P.length + 1) c6 P.length cpp P.length cpp hk Lcell Ld Le La Lb Lc
        (fun y _ => HT.out y)
        (fun y hy => (check_any F E.toEnv y _ _ rt lk (k : Int) (L.length : Int) (P ++ [h]) hrl (Lsl.below hy) hlk (by omega) (Lm.below hy)).mono (fun ev y' ⟨e, hb⟩ => ⟨by rw [e, chk_no HFm.out], hb⟩))
        (fun y hy => (check_any F E.toEnv y _ _ rt lk (L.length : Int) (L.length : Int) P hrl (Lsl.below hy) hlk (by omega) (Lp.below hy)).mono (fun ev y' ⟨e, hb⟩ => ⟨by rw [e, chk_no (fun hF => by have := hF.2.1; omega)], hb⟩))
        (fun y hy => (check_any F E.toEnv y _ _ rt lk (k : Int) 0 P hrl (Lsl.below hy) hlk (by omega) (Lp.below hy)).mono (fun ev y' ⟨e, hb⟩ => ⟨by rw [e, chk_no (fun hF => by have := hF.2.1; omega)], hb⟩))
        (fun y hy => (check_any F E.toEnv y _ _ h lk (-1) 1 [] hh (Lsl.below hy) hlk (by omega) ⟨fun p hp => by simp at hp, .inl ⟨none, 0, rfl, rfl⟩⟩).mono (fun ev y' ⟨e, hb⟩ => ⟨by rw [e, chk_no (fun hF => by have := hF.1; omega)], hb⟩))
        _ _ _ _ _ _ _ _ _ _ _ _ _ _ _ _ _ _ _ _ _ _ _ _ _ _ _ _ _ _ _ _ _ _ _ _ _ _ _ _ _ _ _ _ _ _ _ _ _ _ _ _ _ _ _ _ _ _ _ _ _ _ _ _ _ _ _ _ _ _ _ _ _ _ _ _ _ _ _ _ _ _ _ _ _ _ _ _ _ _ _ _ _ _ _ _ _ _ _ _ _ _ _ _ _ _ _ _ _)
      rintro e a' w20 ⟨rfl, hd, h0, hb20⟩
      have HB : Hid (Below w.heap.size w w20) := nextB LB hb20
      have HD : Hid (a'.defers = []) := hd
      have H0 : Hid (a'.tmps.getD 6 undef = .bool true) := h0
      clear hd h0 hb20 LB Lcell Lsl La Lb Lc Ld Le Lm Lp
      go_wp2_with fail
      refine bodyPost_ret (results_tmp Try.results8 _ _ _) HD.out ⟨?_, HB.out⟩
      rw [H0.out]
  · have p1 : ¬ (0 : Int) < (P.length : Int) := by omega
    go_wp2_with fail
    refine wp_at_world AW.out ?_
    obtain ⟨La, Lb, Lc, Ld, Le, Lm, Lp, LB, Lcell, Lsl⟩ := HEND.out W8 (Below.refl _ _)
    refine Code.wp_mono ?_ (reg17_any W8 b off L.length cap k w.heap.size w3.heap.size g11 g12 g13 lk.length ck ak rt h hrl hh (.int .i64 (k : Int)) (.int .i64 (L.length : Int)) (.int .i64 (k : Int)) (.int .i64 0) (.int .i64 (L.length : Int)) (.int .i64 (L.length : Int)) a6 ap ap (P.length + 1) c6 P.length cpp P.length cpp hk Lcell Ld Le La Lb Lc
      (fun y _ => HT.out y)
      (fun y hy => (check_any F E.toEnv y _ _ rt lk (k : Int) (L.length : Int) (P ++ [h]) hrl (Lsl.below hy) hlk (by omega) (Lm.below hy)).mono (fun ev y' ⟨e, hb⟩ => ⟨by rw [e, chk_no HFm.out], hb⟩))
      (fun y hy => (check_any F E.toEnv y _ _ rt lk (L.length : Int) (L.length : Int) P hrl (Lsl.below hy) hlk (by omega) (Lp.below hy)).mono (fun ev y' ⟨e, hb⟩ => ⟨by rw [e, chk_no (fun hF => by have := hF.2.1; omega)], hb⟩))
      (fun y hy => (check_any F E.toEnv y _ _ rt lk (k : Int) 0 P hrl (Lsl.below hy) hlk (by omega) (Lp.below hy)).mono (fun ev y' ⟨e, hb⟩ => ⟨by rw [e, chk_no (fun hF => by have := hF.2.1; omega)], hb⟩))
      (fun y hy => (check_any F E.toEnv y _ _ h lk (-1) 1 [] hh (Lsl.below hy) hlk (by omega) ⟨fun p hp => by simp at hp, .inl ⟨none, 0, rfl, rfl⟩⟩).mono (fun ev y' ⟨e, hb⟩ => ⟨by rw [e, chk_no (fun hF => by have := hF.1; omega)], hb⟩))
      _ _ _ _ _ _ _ _ _ _ _ _ _ _ _ _ _ _ _ _ _ _ _ _ _ _ _ _ _ _ _ _ _ _ _ _ _ _ _ _ _ _ _ _ _ _ _ _ _ _ _ _ _ _ _ _ _ _ _ _ _ _ _ _ _ _ _ _ _ _ _ _ _ _ _ _ _ _ _ _ _ _ _ _ _ _ _ _ _ _ _ _ _ _ _ _ _ _ _ _ _ _ _ _ _ _ _ _ _)
    rintro e a' w20 ⟨rfl, hd, h0, hb20⟩
    have HB : Hid (Below w.heap.size w w20) := nextB LB hb20
    have HD : Hid (a'.defers = []) := hd
    have H0 : Hid (a'.tmps.getD 6 undef = .bool true) := h0
    clear hd h0 hb20 LB Lcell Lsl La Lb Lc Ld Le Lm Lp
    go_wp2_with fail
    refine bodyPost_ret (results_tmp Try.results8 _ _ _) HD.out ⟨?_, HB.out⟩
    rw [H0.out]
theorem forms_walk (F : Bys → Bys) (E : Env2 F) (w : World) (v : Value) (L : List Bys) (hL : Ls w v L) (hl : L.length ≤ 9223372036854775807) (hE : ∀ b ∈ L, b.length ≤ 9223372036854775807) (i : Int) (h : Bys) (hh : h.length = 32) :
    Calls Try.prog 8 #[v, .int .i64 i, .agg (bys h).toArray] w fun ev w' => ev = .returned (.bool true) ∧ Below w.heap.size w w' := by
  by_cases hf : fewB L = true
  · rcases Nat.eq_zero_or_pos L.length with h0 | h0
    · exact forms_told F E w v L hL hl hE i h (.inr h0)
    · exact forms_some F E w v L hL hf h0 hE i h hh
  · exact forms_told F E w v L hL hl hE i h (.inl (by simpa using hf))
end Go.Proofs.Ytfkibbpekngciaa
