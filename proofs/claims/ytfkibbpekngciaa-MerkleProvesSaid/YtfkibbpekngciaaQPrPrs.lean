/-
  MerkleProves answers true.
-/
import Derived.Test.YtfkibbpekngciaaJoinXmd5xPr
import Derived.Test.YtfkibbpekngciaaJoinOpl2xPr
import Derived.Test.YtfkibbpekngciaaJoinFew2xPr
namespace Go.Proofs.Ytfkibbpekngciaa
open Go.RowKit

theorem chk_own (F : Bys → Bys) (L : List Bys) (i : Nat) (h : i < L.length) : chk F (root F L) (L.getD i []) i L.length (path F L i) = true := by
  unfold chk
  rw [Bool.and_eq_true]
  exact ⟨@decide_eq_true _ (decForm _ _ _) ⟨by omega, by omega, by simpa using lefts_path F L i⟩, by simpa using check_own F L i h⟩
theorem set_getD (L : List Bys) (i : Nat) (b : Bys) (h : i < L.length) : (L.set i b).getD i [] = b := by simp [List.getD, h]
theorem chk_set (F : Bys → Bys) (L : List Bys) (i : Nat) (b : Bys) (h : i < L.length) : chk F (root F (L.set i b)) b i L.length (path F (L.set i b) i) = true := by
  have := chk_own F (L.set i b) i (by simpa using h)
  rwa [set_getD L i b h, List.length_set] at this
theorem short_set {L : List Bys} {i : Nat} {b : Bys} (h : Short L) (hb : b.length ≤ 1000) : Short (L.set i b) := fun c hc => by
  rcases List.mem_or_eq_of_mem_set hc with h' | rfl
  · exact h c h'
  · omega
theorem str_alike {a b : Bys} (h : a = b) : ((str a).toList == (str b).toList) = true := by rw [h]; simp
set_option maxHeartbeats 16000000 in
set_option maxRecDepth 20000 in
theorem proves_told (F : Bys → Bys) (E : Env2 F) (w : World) (v bv : Value) (L : List Bys) (hL : Ls w v L) (hl : L.length ≤ 9223372036854775807) (hE : ∀ b ∈ L, b.length ≤ 9223372036854775807) (b : Bys) (hb : Sl w bv b) (hc : fewB L = false ∨ L.length = 0 ∨ 100 < b.length) :
    Calls Try.prog 5 #[v, bv] w fun ev w' => ev = .returned (.bool true) ∧ Below w.heap.size w w' := by
  obtain ⟨ab, cb, rfl⟩ := sl_slice hb
  have HF := few_any w v L hL hl hE
  have HT : Hid (∀ y, Calls Try.prog 10 #[] y fun ev w' => ev = .returned (.bool true) ∧ Below y.heap.size y w') := fun y => told_any F E y
  obtain ⟨av, cv, rfl⟩ := hL.slice
  have hc' : fewB L = false ∨ (fewB L = true ∧ ((L.length : Int) == 0) = true) ∨ (fewB L = true ∧ ((L.length : Int) == 0) = false ∧ (100 : Int) < (b.length : Int)) := by
    by_cases hf : fewB L = true
    · right
      by_cases h0 : L.length = 0
      · exact .inl ⟨hf, by simp [h0]⟩
      · refine .inr ⟨hf, ?_, ?_⟩
        · have : ¬ (L.length : Int) = 0 := by omega
          simpa using this
        · rcases hc with hc | hc | hc
          · rw [hf] at hc; cases hc
          · exact absurd hc h0
          · omega
    · exact .inl (by simpa using hf)
  clear hL hb hc hE hl
  rcases hc' with hf | ⟨hf, h1⟩ | ⟨hf, h1, h2⟩
  all_goals
    rw [hf] at HF
    clear hf
    generalize L.length = nL at *
    go_enter Try.func5, Try.ntmps5
    go_wp2_with fail
    refine HF.mono ?_
    rintro ev w1 ⟨rfl, rfl⟩
    go_wp2_with (first | (go_at_call 10; refine (HT.out _).mono ?_; rintro ev w2 ⟨rfl, hb2⟩))
    go_ret
    exact ⟨rfl, hb2⟩
set_option maxHeartbeats 16000000 in
set_option maxRecDepth 20000 in
theorem proves_some (F : Bys → Bys) (E : Env2 F) (w : World) (v bv : Value) (L : List Bys) (hL : Ls w v L) (hl : L.length ≤ 9223372036854775807) (hE : ∀ b ∈ L, b.length ≤ 9223372036854775807) (b : Bys) (hb : Sl w bv b) (hf : fewB L = true) (h1 : 1 ≤ L.length) (hbl : b.length ≤ 100) :
    Calls Try.prog 5 #[v, bv] w fun ev w' => ev = .returned (.bool true) ∧ Below w.heap.size w w' := by
  have h20 := fewB_len hf
  have hsh := fewB_short hf
  have hE1 : ∀ c ∈ L, c.length ≤ 1000 := fun c hc => Nat.le_trans ((of_decide_eq_true hf).2 c hc) (by omega)
  obtain ⟨ab, cb, rfl⟩ := sl_slice hb
  have HF := few_any w v L hL hl hE
  rw [hf] at HF
  have HT : Hid (∀ y, Calls Try.prog 10 #[] y fun ev w' => ev = .returned (.bool true) ∧ Below y.heap.size y w') := fun y => told_any F E y
  have HR := root_any F E.toEnv w v L hL hsh (by omega)
  have HLs : Hid (∀ y, Below w.heap.size w y → Ls y v L ∧ Sl y (.slice ab b.length cb) b) := fun y hy => ⟨hL.below hy, hb.below hy⟩
  obtain ⟨bl, off, cv, fv, rfl, hcap, hcells⟩ := hL.some_ (by omega)
  have HEl : Hid (∀ y, Below w.heap.size w y → ∀ i, i < L.length → y.cell? ⟨bl, off + i, none⟩ = some (fv i) ∧ Sl y (fv i) (L.getD i [])) := fun y hy i hi => ⟨(hy.cell (p := ⟨bl, off + i, none⟩) (World.block_lt_of_cell? w _ (hcells i hi).1)).trans (hcells i hi).1, (hcells i hi).2.below hy⟩
  have hR32 : (root F L).length = 32 := E.len _
  have n0 : ((L.length : Int) == 0) = false := by
    have : ¬ (L.length : Int) = 0 := by omega
    simpa using this
  have n1 : ¬ (100 : Int) < (b.length : Int) := by omega
  have HHB : Hid (b.length ≤ 100) := hbl
  have HHF : Hid (L.length ≤ 20 ∧ Short L ∧ ∀ c ∈ L, c.length ≤ 1000) := ⟨h20, hsh, hE1⟩
  clear hL hb hf hE hl hcells hbl hcap hsh hE1
  go_enter Try.func5, Try.ntmps5
  go_wp2_with fail
  refine HF.mono ?_
  rintro ev w0 ⟨rfl, hw0⟩
  replace hw0 := hw0.symm
  subst hw0
  go_wp2_with fail
  refine HR.mono ?_
  rintro ev w1 ⟨rfl, hb1⟩
  have N1 := Row.new w1 26 (bys zero32)
  have A1 := new_below w1 (.cells (bys zero32).toArray 26)
  have hle : w1.heap.size ≤ w1.heap.size := Nat.le_refl _
  clear HF HR n0 n1
  go_wp2_with (refine store26 rfl _ _ rfl w1 w1.heap.size _ hR32 rfl rfl zero32 zero32_len N1 _ A1 hle ?_; intro w2 R2 hb2 _)
  have HB2 : Hid (Below w.heap.size w w2) := nextB hb1 hb2
  have HR2 : Hid (∀ y, Below w2.heap.size w2 y → Row y w1.heap.size 26 (bys (root F L))) := fun y hy => R2.below hy R2.lt
  clear hb1 hb2 N1 A1 R2
  go_loopw [6] (fun t wr => ∃ i : Nat, i ≤ L.length ∧ t = .int .i64 (i : Int) ∧ Below w2.heap.size w2 wr) (fun t _ => L.length - (intOf t).toNat)
  case atStart => exact ⟨0, by omega, rfl, Below.refl _ _⟩
  case round =>
    obtain ⟨i, hi, rfl, hbr⟩ := hrel
    by_cases hi2 : i < L.length
    case neg =>
      have g1 : ¬ (i : Int) < (L.length : Int) := by omega
      have HBR : Hid (Below w2.heap.size w2 wr) := hbr
      clear hi hi2 hbr HEl HLs HR2
      go_wp2_with (first | (go_at_call 10; refine (HT.out _).mono ?_; rintro ev w9 ⟨rfl, hb9⟩))
      go_ret
      exact ⟨rfl, nextB (nextB HB2.out HBR.out) hb9⟩
    have hBr := nextB HB2.out hbr
    have HPV := prove_yes F E.toEnv wr _ L (HLs.out _ hBr).1 HHF.out.2.1 (by omega) i hi2
    have HPM : Hid (∀ p ∈ path F L i, p.length = 32) := path_mem F E.len L i
    have HI : Hid (i < L.length) := hi2
    have g1 : (i : Int) < (L.length : Int) := by omega
    have g0 : (0 : Int) ≤ (i : Int) := by omega
    have HOWN : Hid (chk F (root F L) (L.getD i []) i L.length (path F L i) = true) := chk_own F L i hi2
    have HLI : Hid ((L.getD i []).length ≤ 1000) := HHF.out.2.2 _ (by simp [List.getElem?_eq_getElem hi2])
    have HRI : Hid (∀ (Q : List Bys), ¬ b = L.getD i [] → (xtr F L b i L.length Q).isSome = chk F (root F L) b i L.length Q) := fun Q h => xtr_right F L b i L.length Q (by omega) (by omega) (by omega) (fun h' => h (by simpa using h'.2))
    have HSE : Hid (chk F (root F (L.set i b)) b i L.length (path F (L.set i b) i) = true) := chk_set F L i b hi2
    obtain ⟨Pi, hPi⟩ : ∃ Q, Hid (path F L i = Q) := ⟨_, rfl⟩
    rw [hPi.out] at HPV HPM HOWN
    obtain ⟨Li, hLi⟩ : ∃ Q, Hid (L.getD i [] = Q) := ⟨_, rfl⟩
    rw [hLi.out] at HOWN HLI HRI
    have HBR : Hid (Below w2.heap.size w2 wr) := hbr
    clear hi hbr hi2 hBr
    go_wp2_with fail
    refine HPV.mono ?_
    rintro ev w3 ⟨ao, cp, rfl, hH3, _, hb3⟩
    have N3 := new30 w3
    have A3 := new_below w3 (.cells #[.int .i64 0, .int .i64 0, .slice none 0 0] 30)
    have o3 := one3 i L.length ao Pi.length cp
    have hle3 : w3.heap.size ≤ w3.heap.size := Nat.le_refl _
    clear HPV
    go_wp2_with (refine store30 rfl _ _ rfl w3 w3.heap.size _ _ _ o3 rfl rfl _ _ _ N3 _ A3 hle3 ?_; intro w4 R4 hb4 _)
    have HB4 : Hid (Below w2.heap.size w2 w4) := nextB HBR.out (nextB hb3 hb4)
    have HM4 : Hid (∀ y, Below w4.heap.size w4 y → Row y w3.heap.size 30 [.int .i64 (i : Int), .int .i64 (L.length : Int), .slice ao Pi.length cp] ∧ Hs y (.slice ao Pi.length cp) Pi) := fun y hy => ⟨R4.below hy R4.lt, (hH3.below hb4).below hy⟩
    have HE4 : Hid (∀ y, Below w4.heap.size w4 y → y.cell? ⟨bl, off + i, none⟩ = some (fv i) ∧ Sl y (fv i) Li ∧ Sl y (.slice ab b.length cb) b ∧ Row y w1.heap.size 26 (bys (root F L))) := fun y hy => by
      have h1 := nextB HB2.out (nextB HB4.out hy)
      have h2 := HEl.out y h1 i HI.out
      rw [hLi.out] at h2
      exact ⟨h2.1, h2.2, (HLs.out y h1).2, HR2.out y (nextB HB4.out hy)⟩
    have HBW4 : Hid (Below w.heap.size w w4) := nextB HB2.out HB4.out
    obtain ⟨ae, ce, ef⟩ := sl_slice (HE4.out w4 (Below.refl _ _)).2.1
    have hB4d : Below w4.heap.size w4 w4.drew := (Below.refl _ _).drew
    have q4 : w4.drew.cell? ⟨w3.heap.size, 0, none⟩ = some (.int .i64 (i : Int)) ∧ w4.drew.cell? ⟨w3.heap.size, 1, none⟩ = some (.int .i64 (L.length : Int)) ∧ w4.drew.cell? ⟨w3.heap.size, 2, none⟩ = some (.slice ao Pi.length cp) ∧ w4.drew.cell? ⟨bl, off + i, none⟩ = some (fv i) ∧ w4.drew.rangeAt w1.heap.size 0 (bys (root F L)) := ⟨(HM4.out _ hB4d).1.cell 0, (HM4.out _ hB4d).1.cell 1, (HM4.out _ hB4d).1.cell 2, (HE4.out _ hB4d).1, (HE4.out _ hB4d).2.2.2.range⟩
    have CK8 := check_any F E.toEnv w4.drew _ _ (root F L) Li i L.length Pi hR32 (HE4.out _ hB4d).2.1 (by have := HLI.out; omega) (by omega) (HM4.out _ hB4d).2
    rw [HOWN.out] at CK8
    have hLr := info26L _ hR32
    have hu := Try.underlying26
    have HQ8 : Hid (∀ y, Below w4.drew.heap.size w4.drew y → (y.cell? ⟨w3.heap.size, 0, none⟩ = some (.int .i64 (i : Int)) ∧ y.cell? ⟨w3.heap.size, 1, none⟩ = some (.int .i64 (L.length : Int)) ∧ y.cell? ⟨w3.heap.size, 2, none⟩ = some (.slice ao Pi.length cp) ∧ y.cell? ⟨bl, off + i, none⟩ = some (fv i) ∧ y.rangeAt w1.heap.size 0 (bys (root F L))) ∧ Below w4.heap.size w4 y) := fun y hy => by
      have h1 := nextB hB4d hy
      exact ⟨⟨(HM4.out _ h1).1.cell 0, (HM4.out _ h1).1.cell 1, (HM4.out _ h1).1.cell 2, (HE4.out _ h1).1, (HE4.out _ h1).2.2.2.range⟩, h1⟩
    clear R4 hH3 hb3 hb4 N3 A3 o3 hle3 ef
    by_cases heq : b = Li
    · have HEQ : Hid (b = Li) := heq
      clear heq
      obtain ⟨Z, hZ⟩ : ∃ Z, Hid (bys (root F L) = Z) := ⟨_, rfl⟩
      rw [hZ.out] at q4 CK8 hLr HQ8
      generalize fv i = fvi at *
      go_region_held3 (fun y => y.cell? ⟨w3.heap.size, 0, none⟩ = some (.int .i64 (i : Int)) ∧ y.cell? ⟨w3.heap.size, 1, none⟩ = some (.int .i64 (L.length : Int)) ∧ y.cell? ⟨w3.heap.size, 2, none⟩ = some (.slice ao Pi.length cp) ∧ y.cell? ⟨bl, off + i, none⟩ = some fvi ∧ y.rangeAt w1.heap.size 0 Z) (assumption) (first
        | (go_at_call 17; refine CK8.mono ?_; rintro ev w5 ⟨rfl, hb5⟩; obtain ⟨hS5, hB5⟩ := HQ8.out w5 hb5))
      have hsE := HE4.out w5 hB5
      have v1 : ∀ m, (convert 39 9 (.slice ab b.length cb)).run Try.prog (w5.drewN m) = .ok (.string (str b)) (w5.drewN m) := fun m => conv_sl _ _ _ (hsE.2.2.1.below (below_drewN (Below.refl _ _) _))
      have v2 : ∀ m, (convert 39 9 fvi).run Try.prog (w5.drewN m) = .ok (.string (str Li)) (w5.drewN m) := fun m => conv_sl _ _ _ (hsE.2.1.below (below_drewN (Below.refl _ _) _))
      have hst := str_alike HEQ.out
      have hc5 := hS5.2.2.2.1
      have HB5 : Hid (Below w2.heap.size w2 w5) := nextB HB4.out hB5
      clear hsE HEQ HSE HRI HOWN HEl HLs HR2 HM4 HE4 HQ8 CK8 q4 hS5 hB5 hb5 hB4d
      generalize str b = S1 at *
      generalize str Li = S2 at *
      go_wp2_with fail
      go_quiet (fail)
      go_wp2_with fail
      go_roundw
      case rel => exact ⟨i + 1, HI.out, by go_num, below_drewN HB5.out _⟩
      case measure => have := HI.out; simp [intOf]; omega
    · have HNE : Hid (¬ b = Li) := heq
      clear heq
      obtain ⟨Z, hZ⟩ : ∃ Z, Hid (bys (root F L) = Z) := ⟨_, rfl⟩
      rw [hZ.out] at q4 CK8 hLr HQ8
      generalize fv i = fvi at *
      go_region_held3 (fun y => y.cell? ⟨w3.heap.size, 0, none⟩ = some (.int .i64 (i : Int)) ∧ y.cell? ⟨w3.heap.size, 1, none⟩ = some (.int .i64 (L.length : Int)) ∧ y.cell? ⟨w3.heap.size, 2, none⟩ = some (.slice ao Pi.length cp) ∧ y.cell? ⟨bl, off + i, none⟩ = some fvi ∧ y.rangeAt w1.heap.size 0 Z) (assumption) (first
        | (go_at_call 17; refine CK8.mono ?_; rintro ev w5 ⟨rfl, hb5⟩; obtain ⟨hS5, hB5⟩ := HQ8.out w5 hb5))
      have hsE := HE4.out w5 hB5
      have v1 : ∀ m, (convert 39 9 (.slice ab b.length cb)).run Try.prog (w5.drewN m) = .ok (.string (str b)) (w5.drewN m) := fun m => conv_sl _ _ _ (hsE.2.2.1.below (below_drewN (Below.refl _ _) _))
      have v2 : ∀ m, (convert 39 9 fvi).run Try.prog (w5.drewN m) = .ok (.string (str Li)) (w5.drewN m) := fun m => conv_sl _ _ _ (hsE.2.1.below (below_drewN (Below.refl _ _) _))
      have hst := str_apart HNE.out
      have hc5 := hS5.2.2.2.1
      have HB5 : Hid (Below w4.heap.size w4 w5) := hB5
      clear hsE HOWN HR2 HQ8 CK8 q4 hS5 hB5 hb5 hB4d
      generalize str b = S1 at *
      generalize str Li = S2 at *
      go_wp2_with fail
      go_quiet (fail)
      have hB6 : Below w4.heap.size w4 (w5.drewN nq) := below_drewN HB5.out _
      have hc6 := HEl.out _ (nextB HBW4.out hB6)
      have hO6 := own39_nil (w5.drewN nq)
      have hA6 := new_below (w5.drewN nq) (.cells #[] 39)
      have hcA : ∀ j, j < L.length → ((w5.drewN nq).alloc (.cells #[] 39)).cell? ⟨bl, off + j, none⟩ = some (fv j) ∧ Sl ((w5.drewN nq).alloc (.cells #[] 39)) (fv j) (L.getD j []) := HEl.out _ (nextB (nextB HBW4.out hB6) hA6)
      have hsz6 : (w5.drewN nq).heap.size ≤ ((w5.drewN nq).alloc (.cells #[] 39)).heap.size := hA6.size
      clear v1 v2 hst hc5 hc6
      have hf20 : L.length ≤ 1000000 := by omega
      go_wp2_with (first | (refine app22 rfl _ _ rfl rfl hO6 hsz6 bl off cv rfl fv hcA hf20 ?_; intro v7 w7 ho7 hb7 _; obtain ⟨gm, cm, cur, rfl, hgm, RM7, hcm, htm⟩ := own_row39 ho7 (by omega); have cc7 := RM7.cell i; rw [own39_cell htm HI.out] at cc7; have fz7 := RM7.fz i; clear hO6 hcA ho7))
      have hw8 : ∃ w8, w8 = w7.setCell ⟨gm, i, none⟩ (.slice ab b.length cb) := ⟨_, rfl⟩
      have hBB7 : Below (w5.drewN nq).heap.size (w5.drewN nq) w7 := hA6.trans hb7
      have hgm4 : w4.heap.size ≤ gm := Nat.le_trans hB6.size hgm
      have hB8 : Below w4.heap.size w4 (w7.setCell ⟨gm, i, none⟩ (.slice ab b.length cb)) := (nextB hB6 hBB7).setCell (p := ⟨gm, i, none⟩) hgm4 _
      have hLM : Ls (w7.setCell ⟨gm, i, none⟩ (.slice ab b.length cb)) (.slice (some ⟨gm, 0, none⟩) (L.set i b).length cm) (L.set i b) := ls_set fv i HI.out RM7 hcm htm (fun j hj => (HEl.out _ (nextB HBW4.out hB8) j hj).2) (HLs.out _ (nextB HBW4.out hB8)).2
      have hMl : (L.set i b).length = L.length := by simp
      rw [hMl] at hLM
      obtain ⟨w8, AW8⟩ : ∃ w8, Aside (w8 = w7.setCell ⟨gm, i, none⟩ (.slice ab b.length cb)) := ⟨_, rfl⟩
      rw [← AW8.out] at hB8 hLM ⊢
      have hshM : Short (L.set i b) := short_set HHF.out.2.1 (by have := HHB.out; omega)
      obtain ⟨M, hM⟩ : ∃ M, Hid (L.set i b = M) := ⟨_, rfl⟩
      rw [hM.out] at hLM hMl hshM HSE
      have HLM : Hid (∀ y, Below w8.heap.size w8 y → Ls y (.slice (some ⟨gm, 0, none⟩) M.length cm) M) := fun y hy => by rw [hMl]; exact hLM.below hy
      have PVM := prove_yes F E.toEnv w8 _ M (HLM.out _ (Below.refl _ _)) hshM (by omega) i (by have := HI.out; omega)
      have HRM : Hid (∀ y, Below w8.heap.size w8 y → Calls Try.prog 11 #[.slice (some ⟨gm, 0, none⟩) M.length cm] y fun ev w' => ev = .returned (.agg (bys (root F M)).toArray) ∧ Below y.heap.size y w') := fun y hy => root_any F E.toEnv y _ M (HLM.out y hy) hshM (by omega)
      rw [hMl] at PVM HRM
      have HPMM : Hid (∀ p ∈ path F M i, p.length = 32) := path_mem F E.len M i
      obtain ⟨Pm, hPm⟩ : ∃ Q, Hid (path F M i = Q) := ⟨_, rfl⟩
      rw [hPm.out] at PVM HPMM HSE
      have hRM32 : (root F M).length = 32 := E.len _
      have HML : Hid (M.length = L.length) := hMl
      clear hLM HLM hMl hshM RM7 hcm htm cc7 fz7 hBB7 hgm4 hgm hb7 hA6 hsz6 hB6 AW8 hw8
      refine PVM.mono ?_
      rintro ev w9 ⟨am, cpm, rfl, hH9, _, hb9⟩
      have N9 := new30 w9
      have A9 := new_below w9 (.cells #[.int .i64 0, .int .i64 0, .slice none 0 0] 30)
      have o9 := one3 i L.length am Pm.length cpm
      have hle9 : w9.heap.size ≤ w9.heap.size := Nat.le_refl _
      clear PVM
      go_wp2_with (refine store30 rfl _ _ rfl w9 w9.heap.size _ _ _ o9 rfl rfl _ _ _ N9 _ A9 hle9 ?_; intro w10 R10 hb10 _)
      have HB10 : Hid (Below w8.heap.size w8 w10) := nextB hb9 hb10
      have HB410 : Hid (Below w4.heap.size w4 w10) := nextB hB8 HB10.out
      have HM10 : Hid (∀ y, Below w10.heap.size w10 y → Row y w9.heap.size 30 [.int .i64 (i : Int), .int .i64 (L.length : Int), .slice am Pm.length cpm] ∧ Hs y (.slice am Pm.length cpm) Pm) := fun y hy => ⟨R10.below hy R10.lt, (hH9.below hb10).below hy⟩
      have hBd := (Below.refl w10.heap.size w10).drew
      have q10 : w10.drew.cell? ⟨w9.heap.size, 0, none⟩ = some (.int .i64 (i : Int)) ∧ w10.drew.cell? ⟨w9.heap.size, 1, none⟩ = some (.int .i64 (L.length : Int)) ∧ w10.drew.cell? ⟨w9.heap.size, 2, none⟩ = some (.slice am Pm.length cpm) := ⟨(HM10.out _ hBd).1.cell 0, (HM10.out _ hBd).1.cell 1, (HM10.out _ hBd).1.cell 2⟩
      have HQ10 : Hid (∀ y, Below w10.heap.size w10 y → y.cell? ⟨w9.heap.size, 0, none⟩ = some (.int .i64 (i : Int)) ∧ y.cell? ⟨w9.heap.size, 1, none⟩ = some (.int .i64 (L.length : Int)) ∧ y.cell? ⟨w9.heap.size, 2, none⟩ = some (.slice am Pm.length cpm)) := fun y hy => ⟨(HM10.out _ hy).1.cell 0, (HM10.out _ hy).1.cell 1, (HM10.out _ hy).1.cell 2⟩
      have RM14 := HRM.out _ (nextB HB10.out hBd)
      have HC14 : Hid (∀ y, Below w10.heap.size w10 y → Calls Try.prog 17 #[.agg (bys (root F M)).toArray, .slice ab b.length cb, .agg #[.int .i64 (i : Int), .int .i64 (L.length : Int), .slice am Pm.length cpm]] y fun ev w' => ev = .returned (.bool true) ∧ Below y.heap.size y w') := fun y hy => by
        have := check_any F E.toEnv y _ _ (root F M) b i L.length Pm hRM32 (HE4.out y (nextB HB410.out hy)).2.2.1 (by have := HHB.out; omega) (by omega) (HM10.out y hy).2
        rw [HSE.out] at this
        exact this
      clear R10 hH9 hb9 hb10 N9 A9 o9 hle9 hB8
      go_region_held3 (fun y => y.cell? ⟨w9.heap.size, 0, none⟩ = some (.int .i64 (i : Int)) ∧ y.cell? ⟨w9.heap.size, 1, none⟩ = some (.int .i64 (L.length : Int)) ∧ y.cell? ⟨w9.heap.size, 2, none⟩ = some (.slice am Pm.length cpm)) (assumption) (first
        | (go_at_call 11; refine RM14.mono ?_; rintro ev w11 ⟨rfl, hb11⟩; have hB11 := nextB hBd hb11; have q11 := HQ10.out _ hB11)
        | (go_at_call 17; refine (HC14.out _ hB11).mono ?_; rintro ev w12 ⟨rfl, hb12⟩; have hB12 := nextB hB11 hb12; have q12 := HQ10.out _ hB12))
      have R712 := (HM4.out _ (nextB HB410.out hB12))
      have R1012 := (HM10.out _ hB12)
      have RA12 := R712.1
      have RB12 := R1012.1
      clear RM14 HC14 q10 q11 q12 hBd hB11 hb11 hb12
      go_wp2_with (first
        | (refine load30r rfl _ rfl w3.heap.size _ _ _ rfl RA12 ?_)
        | (refine load30r rfl _ rfl w9.heap.size _ _ _ rfl RB12 ?_)
        | (refine build42 rfl _ _ rfl _ _ _ _ _ _ rfl rfl ?_; intro w13 g13 hb13 R13))
      have HB13 : Hid (Below w4.heap.size w4 w13) := nextB HB410.out (nextB hB12 hb13)
      have HB1013 : Hid (Below w10.heap.size w10 w13) := nextB hB12 hb13
      have HHP : Hid (∀ y, Below w13.heap.size w13 y → Hs y (.slice ao Pi.length cp) Pi ∧ Hs y (.slice am Pm.length cpm) Pm ∧ Row y g13 30 [.int .i64 (i : Int), .int .i64 (L.length : Int), .slice ao Pi.length cp, .int .i64 (i : Int), .int .i64 (L.length : Int), .slice am Pm.length cpm]) := fun y hy => ⟨(HM4.out _ (nextB HB13.out hy)).2, (HM10.out _ (nextB HB1013.out hy)).2, R13.below hy R13.lt⟩
      have HZZ : Hid (∀ y, Below w13.heap.size w13 y → y.rangeAt w1.heap.size 0 Z) := fun y hy => by
        rw [← hZ.out]; exact (HE4.out _ (nextB HB13.out hy)).2.2.2.range
      have HKA : Hid (∀ y ax (T : List Bys) cx, Below w13.heap.size w13 y → Hs y (.slice ax T.length cx) T → Calls Try.prog 17 #[.agg Z.toArray, .slice ab b.length cb, .agg #[.int .i64 (i : Int), .int .i64 (L.length : Int), .slice ax T.length cx]] y fun ev w' => ev = .returned (.bool (chk F (root F L) b i L.length T)) ∧ Below y.heap.size y w') := fun y ax T cx hy hH => by
        rw [← hZ.out]
        exact check_any F E.toEnv y _ _ (root F L) b i L.length T hR32 (HE4.out _ (nextB HB13.out hy)).2.2.1 (by have := HHB.out; omega) (by omega) hH
      have HKB : Hid (∀ y ax (T : List Bys) cx, Below w13.heap.size w13 y → Hs y (.slice ax T.length cx) T → Calls Try.prog 19 #[.slice (some ⟨bl, off, none⟩) L.length cv, .slice ab b.length cb, .agg #[.int .i64 (i : Int), .int .i64 (L.length : Int), .slice ax T.length cx]] y fun ev w' => ev = .returned (.bool (chk F (root F L) b i L.length T)) ∧ Below y.heap.size y w') := fun y ax T cx hy hH => by
        have h1 := HLs.out y (nextB HBW4.out (nextB HB13.out hy))
        have := clashes_any F E y _ _ _ L b i L.length T h1.1 HHF.out.2.1 HHF.out.2.2 (by omega) h1.2 (by have := HHB.out; omega) (by omega) hH
        rw [HRI.out T HNE.out] at this
        exact this
      have HBO : Hid (Below w2.heap.size w2 w13) := nextB HB4.out HB13.out
      have HRM13 : Hid (∀ y, Below w13.heap.size w13 y → Calls Try.prog 11 #[.slice (some ⟨gm, 0, none⟩) L.length cm] y fun ev w' => ev = .returned (.agg (bys (root F M)).toArray) ∧ Below y.heap.size y w') := fun y hy => HRM.out y (nextB HB10.out (nextB HB1013.out hy))
      have HQ13 : Hid (∀ y, Below w13.heap.size w13 y → y.cell? ⟨w9.heap.size, 0, none⟩ = some (.int .i64 (i : Int)) ∧ y.cell? ⟨w9.heap.size, 1, none⟩ = some (.int .i64 (L.length : Int)) ∧ y.cell? ⟨w9.heap.size, 2, none⟩ = some (.slice am Pm.length cpm)) := fun y hy => HQ10.out y (nextB HB1013.out hy)
      clear R13 hb13 hB12 RA12 RB12 R712 R1012 HM4 HM10 HE4 HEl HRM HQ10 HB10 HB410 HB13 HB1013
      go_loopw [102] (fun t wr => ∃ k : Nat, k ≤ 2 ∧ t = .int .i64 (k : Int) ∧ Below w13.heap.size w13 wr) (fun t _ => 2 - (intOf t).toNat)
      case atStart => exact ⟨0, by omega, rfl, Below.refl _ _⟩
      case round =>
        obtain ⟨k, hk, rfl, hbq⟩ := hrel
        have HBQ : Hid (Below w13.heap.size w13 wr) := hbq
        by_cases hk2 : k < 2
        · obtain ⟨ax, T, cx, hrg, hHT⟩ : ∃ (ax : Option Addr) (T : List Bys) (cx : Nat), wr.rangeAt g13 (k * 3) [.int .i64 (i : Int), .int .i64 (L.length : Int), .slice ax T.length cx] ∧ Hs wr (.slice ax T.length cx) T := by
            rcases k with _ | _ | k
            · exact ⟨_, _, _, row_mid0 (HHP.out wr hbq).2.2, (HHP.out wr hbq).1⟩
            · exact ⟨_, _, _, row_mid3 (HHP.out wr hbq).2.2, (HHP.out wr hbq).2.1⟩
            · omega
          have l1 : (k : Int) < 2 := by omega
          have l0 : (0 : Int) ≤ (k : Int) := by omega
          have HK : Hid (k < 2) := hk2
          have N14 := new30 wr
          have A14 := new_below wr (.cells #[.int .i64 0, .int .i64 0, .slice none 0 0] 30)
          have o14 := one3 i L.length ax T.length cx
          have hle14 : wr.heap.size ≤ wr.heap.size := Nat.le_refl _
          clear hk hk2 hbq
          go_wp2_with (first
            | (refine wpList_load_mid rfl 30 _ rfl g13 (k * 3) rfl [.int .i64 (i : Int), .int .i64 (L.length : Int), .slice ax T.length cx] _ hrg Try.underlying30 rfl Try.info30 ?_)
            | (refine store30 rfl _ _ rfl wr wr.heap.size _ _ _ o14 rfl rfl _ _ _ N14 _ A14 hle14 ?_; intro w14 R14 hb14 _))
          have hB14 := nextB HBQ.out hb14
          have hD14 := hB14.drew
          have q14 : w14.drew.cell? ⟨wr.heap.size, 0, none⟩ = some (.int .i64 (i : Int)) ∧ w14.drew.cell? ⟨wr.heap.size, 1, none⟩ = some (.int .i64 (L.length : Int)) ∧ w14.drew.cell? ⟨wr.heap.size, 2, none⟩ = some (.slice ax T.length cx) ∧ w14.drew.rangeAt w1.heap.size 0 Z := ⟨R14.drew.cell 0, R14.drew.cell 1, R14.drew.cell 2, HZZ.out _ hD14⟩
          have HH14 : Hid (∀ y, Below w14.heap.size w14 y → Hs y (.slice ax T.length cx) T ∧ Row y wr.heap.size 30 [.int .i64 (i : Int), .int .i64 (L.length : Int), .slice ax T.length cx]) := fun y hy => ⟨(hHT.below hb14).below hy, R14.below hy R14.lt⟩
          have hBd14 := (Below.refl w14.heap.size w14).drew
          have HQ14 : Hid (∀ y, Below w14.heap.size w14 y → y.cell? ⟨wr.heap.size, 0, none⟩ = some (.int .i64 (i : Int)) ∧ y.cell? ⟨wr.heap.size, 1, none⟩ = some (.int .i64 (L.length : Int)) ∧ y.cell? ⟨wr.heap.size, 2, none⟩ = some (.slice ax T.length cx) ∧ y.rangeAt w1.heap.size 0 Z) := fun y hy => ⟨(HH14.out y hy).2.cell 0, (HH14.out y hy).2.cell 1, (HH14.out y hy).2.cell 2, HZZ.out _ (nextB hB14 hy)⟩
          have CKA := HKA.out _ _ _ _ hD14 (HH14.out _ hBd14).1
          have HKC : Hid (∀ y, Below w14.heap.size w14 y → Calls Try.prog 19 #[.slice (some ⟨bl, off, none⟩) L.length cv, .slice ab b.length cb, .agg #[.int .i64 (i : Int), .int .i64 (L.length : Int), .slice ax T.length cx]] y fun ev w' => ev = .returned (.bool (chk F (root F L) b i L.length T)) ∧ Below y.heap.size y w') := fun y hy => HKB.out _ _ _ _ (nextB hB14 hy) (HH14.out _ hy).1
          generalize chk F (root F L) b i L.length T = c at *
          clear HKA HKB HHP HZZ hrg hHT N14 A14 o14 hle14 R14 HRM13 HQ13 HSE HRI
          rcases c with _ | _
          all_goals
            go_region_held3 (fun y => y.cell? ⟨wr.heap.size, 0, none⟩ = some (.int .i64 (i : Int)) ∧ y.cell? ⟨wr.heap.size, 1, none⟩ = some (.int .i64 (L.length : Int)) ∧ y.cell? ⟨wr.heap.size, 2, none⟩ = some (.slice ax T.length cx) ∧ y.rangeAt w1.heap.size 0 Z) (assumption) (first
              | (go_at_call 17; refine CKA.mono ?_; rintro ev w15 ⟨rfl, hb15⟩; have hB15 := nextB hBd14 hb15; have q15 := HQ14.out _ hB15)
              | (go_at_call 19; refine (HKC.out _ hB15).mono ?_; rintro ev w16 ⟨rfl, hb16⟩; have hB16 := nextB hB15 hb16; have q16 := HQ14.out _ hB16))
            go_wp2_with fail
            go_roundw
            case rel => exact ⟨k + 1, HK.out, by go_num, nextB hB14 hB16⟩
            case measure => have := HK.out; simp [intOf]; omega
        · have l1 : ¬ (k : Int) < 2 := by omega
          have HHQ := fun y hy => (HHP.out y hy).2.1
          clear hk hk2 hbq HHP HKA
          have hDr := HBQ.out.drew
          have hBd := (Below.refl wr.heap.size wr).drew
          have q22 : wr.drew.cell? ⟨w9.heap.size, 0, none⟩ = some (.int .i64 (i : Int)) ∧ wr.drew.cell? ⟨w9.heap.size, 1, none⟩ = some (.int .i64 (L.length : Int)) ∧ wr.drew.cell? ⟨w9.heap.size, 2, none⟩ = some (.slice am Pm.length cpm) ∧ wr.drew.rangeAt w1.heap.size 0 Z := ⟨(HQ13.out _ hDr).1, (HQ13.out _ hDr).2.1, (HQ13.out _ hDr).2.2, HZZ.out _ hDr⟩
          have HQ22 : Hid (∀ y, Below wr.heap.size wr y → y.cell? ⟨w9.heap.size, 0, none⟩ = some (.int .i64 (i : Int)) ∧ y.cell? ⟨w9.heap.size, 1, none⟩ = some (.int .i64 (L.length : Int)) ∧ y.cell? ⟨w9.heap.size, 2, none⟩ = some (.slice am Pm.length cpm) ∧ y.rangeAt w1.heap.size 0 Z) := fun y hy => by
            have h1 := nextB HBQ.out hy
            exact ⟨(HQ13.out _ h1).1, (HQ13.out _ h1).2.1, (HQ13.out _ h1).2.2, HZZ.out _ h1⟩
          have RM22 := HRM13.out _ hDr
          by_cases hrt : root F M = root F L
          · have he : ∀ y, (Op.equalIn 10000 26 (.agg (bys (root F M)).toArray) (.agg Z.toArray)).run Try.prog y = .ok true y := fun y => by
              rw [← hZ.out, equ25 y _ _ hRM32 hR32, hrt, beq_self_eq_true]
            have HKC : Hid (∀ y, Below wr.heap.size wr y → Calls Try.prog 19 #[.slice (some ⟨bl, off, none⟩) L.length cv, .slice ab b.length cb, .agg #[.int .i64 (i : Int), .int .i64 (L.length : Int), .slice am Pm.length cpm]] y fun ev w' => ev = .returned (.bool true) ∧ Below y.heap.size y w') := fun y hy => by
              have := HKB.out _ _ _ _ (nextB HBQ.out hy) (HHQ y (nextB HBQ.out hy))
              rw [← hrt, HSE.out] at this
              exact this
            clear HKB HZZ HRM13 HQ13 HSE HRI HHQ hrt
            generalize (bys (root F M)).toArray = YM at *
            go_wp2_with fail
            go_region_held3 (fun y => y.cell? ⟨w9.heap.size, 0, none⟩ = some (.int .i64 (i : Int)) ∧ y.cell? ⟨w9.heap.size, 1, none⟩ = some (.int .i64 (L.length : Int)) ∧ y.cell? ⟨w9.heap.size, 2, none⟩ = some (.slice am Pm.length cpm) ∧ y.rangeAt w1.heap.size 0 Z) (assumption) (first
              | (go_at_call 11; refine RM22.mono ?_; rintro ev w17 ⟨rfl, hb17⟩; have hB17 := nextB hBd hb17; have q17 := HQ22.out _ hB17)
              | (go_at_call 19; refine (HKC.out _ hB17).mono ?_; rintro ev w18 ⟨rfl, hb18⟩; have hB18 := nextB hB17 hb18; have q18 := HQ22.out _ hB18))
            go_wp2_with fail
            go_roundw
            case rel => exact ⟨i + 1, HI.out, by go_num, nextB HBO.out (nextB HBQ.out hB18)⟩
            case measure => have := HI.out; simp [intOf]; omega
          · have he : ∀ y, (Op.equalIn 10000 26 (.agg (bys (root F M)).toArray) (.agg Z.toArray)).run Try.prog y = .ok false y := fun y => by
              rw [← hZ.out, equ25 y _ _ hRM32 hR32]
              have : (root F M == root F L) = false := by simpa using hrt
              rw [this]
            have HZ22 : Hid (∀ y, Below wr.heap.size wr y → y.rangeAt w1.heap.size 0 Z) := fun y hy => (HQ22.out y hy).2.2.2
            clear HKB HZZ HRM13 HQ13 HSE HRI HHQ hrt
            generalize (bys (root F M)).toArray = YM at *
            go_wp2_with fail
            refine wp_region_held_drew (S := fun y => Below wr.heap.size wr y) (by kernel_rfl) (hBd) (fun hHeld => ?_)
            refine wpAnyH_take (i := 0) (oi := { dst := some 116, op := Op.move (Operand.tmp 9), type := 22, pos := "law.go:103", after := #[], guard := none }) (v := ?vg0) rfl (by kernel_rfl) (by kernel_rfl) (by kernel_rfl) (fun _ _ _ h => h) (Or.inl ⟨by rfl, ?hg0⟩) hHeld ?rg0
            case hg0 => (intro y hy; go_simp; with_reducible rfl)
            try simp only [Act.put, List.setIfInBounds_toArray, List.set_cons_zero, List.set_cons_succ]
            refine wpAnyH_take (i := 2) (oi := { dst := some 118, op := Op.load 26 (Operand.tmp 5), type := 26, pos := "law.go:103", after := #[], guard := none }) (v := _) rfl (by kernel_rfl) (by kernel_rfl) (by kernel_rfl) (fun _ _ _ h => h) (yieldsIf_load_mid (by rfl) _ _ rfl _ _ rfl Z _ (fun y hy => HZ22.out y hy) Try.underlying26 rfl hLr) hHeld ?_
            try simp only [Act.put, List.setIfInBounds_toArray, List.set_cons_zero, List.set_cons_succ]
            refine wpAnyH_ready (rs := [1]) (by kernel_rfl) (by simp) ?_
            refine AllReadyH.cons (o := { dst := some 117, op := Op.call { callee := Callee.value (Operand.func 11), args := #[Operand.tmp 116], argTypes := #[22] }, type := 26, pos := "law.go:103", after := #[{ on := 0, ground := Ground.data }], guard := none }) rfl (fun K hK => ?_) AllReadyH.nil
            go_simp
            refine RM22.mono ?_
            rintro ev w17 ⟨rfl, hb17⟩
            refine hK.out _ _ (nextB hHeld hb17) (fun hHeld => ?_)
            clear hK K
            try simp only [Act.put, List.setIfInBounds_toArray, List.set_cons_zero, List.set_cons_succ]
            refine wpAnyH_take (i := 3) (oi := { dst := some 119, op := Op.binOp BinOp.eql 26 (Operand.tmp 117) (Operand.tmp 118) 26, type := 4, pos := "law.go:103", after := #[{ on := 1, ground := Ground.data }, { on := 2, ground := Ground.data }], guard := none }) (v := ?vg3) rfl (by kernel_rfl) (by kernel_rfl) (by kernel_rfl) (fun _ _ _ h => h) (Or.inl ⟨by rfl, ?hg3⟩) hHeld ?rg3
            case hg3 => (intro y hy; go_simp; with_reducible rfl)
            try simp only [Act.put, List.setIfInBounds_toArray, List.set_cons_zero, List.set_cons_succ]
            refine wpAnyH_take (i := 4) (oi := { dst := some 120, op := Op.move (Operand.tmp 119), type := 4, pos := "law.go:103", after := #[{ on := 3, ground := Ground.data }, { on := 1, ground := Ground.chain }], guard := none }) (v := ?vg4) rfl (by kernel_rfl) (by kernel_rfl) (by kernel_rfl) (fun _ _ _ h => h) (Or.inl ⟨by rfl, ?hg4⟩) hHeld ?rg4
            case hg4 => (intro y hy; go_simp; with_reducible rfl)
            try simp only [Act.put, List.setIfInBounds_toArray, List.set_cons_zero, List.set_cons_succ]
            refine wpAnyH_take (i := 5) (oi := { dst := some 121, op := Op.move (Operand.tmp 0), type := 22, pos := "law.go:103", after := #[{ on := 4, ground := Ground.guard }], guard := some (4, true) }) (v := undef) rfl (by kernel_rfl) (by kernel_rfl) (by kernel_rfl) (fun _ _ _ h => h) (Or.inr ⟨by rfl, rfl⟩) hHeld ?_
            try simp only [Act.put, List.setIfInBounds_toArray, List.set_cons_zero, List.set_cons_succ]
            refine wpAnyH_take (i := 6) (oi := { dst := some 122, op := Op.move (Operand.tmp 1), type := 39, pos := "law.go:103", after := #[{ on := 4, ground := Ground.guard }], guard := some (4, true) }) (v := undef) rfl (by kernel_rfl) (by kernel_rfl) (by kernel_rfl) (fun _ _ _ h => h) (Or.inr ⟨by rfl, rfl⟩) hHeld ?_
            try simp only [Act.put, List.setIfInBounds_toArray, List.set_cons_zero, List.set_cons_succ]
            refine wpAnyH_take (i := 7) (oi := { dst := some 123, op := Op.load 30 (Operand.tmp 10), type := 30, pos := "law.go:103", after := #[{ on := 4, ground := Ground.guard }], guard := some (4, true) }) (v := undef) rfl (by kernel_rfl) (by kernel_rfl) (by kernel_rfl) (fun _ _ _ h => h) (Or.inr ⟨by rfl, rfl⟩) hHeld ?_
            try simp only [Act.put, List.setIfInBounds_toArray, List.set_cons_zero, List.set_cons_succ]
            refine wpAnyH_take (i := 8) (oi := { dst := some 124, op := Op.call { callee := Callee.value (Operand.func 19), args := #[Operand.tmp 121, Operand.tmp 122, Operand.tmp 123], argTypes := #[22, 39, 30] }, type := 4, pos := "law.go:103", after := #[{ on := 5, ground := Ground.data }, { on := 6, ground := Ground.data }, { on := 7, ground := Ground.data }, { on := 4, ground := Ground.chain }, { on := 4, ground := Ground.guard }], guard := some (4, true) }) (v := undef) rfl (by kernel_rfl) (by kernel_rfl) (by kernel_rfl) (fun _ _ _ h => h) (Or.inr ⟨by rfl, rfl⟩) hHeld ?_
            try simp only [Act.put, List.setIfInBounds_toArray, List.set_cons_zero, List.set_cons_succ]
            refine wpAnyH_take (i := 9) (oi := { dst := some 125, op := Op.unOp UnOp.not 4 (Operand.tmp 124), type := 4, pos := "law.go:103", after := #[{ on := 8, ground := Ground.data }, { on := 4, ground := Ground.guard }], guard := some (4, true) }) (v := undef) rfl (by kernel_rfl) (by kernel_rfl) (by kernel_rfl) (fun _ _ _ h => h) (Or.inr ⟨by rfl, rfl⟩) hHeld ?_
            try simp only [Act.put, List.setIfInBounds_toArray, List.set_cons_zero, List.set_cons_succ]
            refine wpAnyH_take (i := 10) (oi := { dst := some 126, op := Op.pick (Operand.tmp 120) (Operand.tmp 125) (Operand.const (Value.bool false)), type := 4, pos := "law.go:103", after := #[{ on := 4, ground := Ground.data }, { on := 9, ground := Ground.data }], guard := none }) (v := ?vg10) rfl (by kernel_rfl) (by kernel_rfl) (by kernel_rfl) (fun _ _ _ h => h) (Or.inl ⟨by rfl, ?hg10⟩) hHeld ?rg10
            case hg10 => (intro y hy; go_simp; with_reducible rfl)
            try simp only [Act.put, List.setIfInBounds_toArray, List.set_cons_zero, List.set_cons_succ]
            refine wpAnyH_done (by kernel_rfl) ?_ _
            go_wp2_with fail
            go_roundw
            case rel => exact ⟨i + 1, HI.out, by go_num, nextB HBO.out (nextB HBQ.out hHeld)⟩
            case measure => have := HI.out; simp [intOf]; omega
theorem proves_walk (F : Bys → Bys) (E : Env2 F) (w : World) (v bv : Value) (L : List Bys) (hL : Ls w v L) (hl : L.length ≤ 9223372036854775807) (hE : ∀ b ∈ L, b.length ≤ 9223372036854775807) (b : Bys) (hb : Sl w bv b) :
    Calls Try.prog 5 #[v, bv] w fun ev w' => ev = .returned (.bool true) ∧ Below w.heap.size w w' := by
  by_cases hc : fewB L = true ∧ 1 ≤ L.length ∧ b.length ≤ 100
  · exact proves_some F E w v bv L hL hl hE b hb hc.1 hc.2.1 hc.2.2
  · refine proves_told F E w v bv L hL hl hE b hb ?_
    by_cases h1 : fewB L = true
    · right
      by_cases h2 : L.length = 0
      · exact .inl h2
      · right
        have : ¬ b.length ≤ 100 := fun h => hc ⟨h1, by omega, h⟩
        omega
    · left; simpa using h1
end Go.Proofs.Ytfkibbpekngciaa
