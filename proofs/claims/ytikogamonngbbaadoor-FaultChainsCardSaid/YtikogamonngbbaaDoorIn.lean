/-
  FaultIn's walk: whatever the number, the places and the place more are, it answers true, and nothing that was there has changed.
-/
import Derived.Test.YtikogamonngbbaaDoorTold
namespace Go.Proofs.YtikogamonngbbaaDoor
open Go.RowKit Go.Extern.Stop Go.Stop Go.Extern Err

/-- A chain of faults over one number: k links, their places, from the inside to the outside, the first k of l. -/
structure ChR (c : Int) (l : List Int) (k : Nat) (x : Err) : Prop where
  isf : ff x = x
  code : code x = c
  path : path x = (l.take k).reverse
  has : ∀ j, has j x = (c == j)

theorem path_fault {b : Nat} {c a : Int} {x : Err} (h : ff x = x) : path (fault b c a x) = a :: path x := by
  show a :: (links x).map (·.2) = a :: (links (ff x)).map (·.2)
  rw [h]
theorem ChR.one {c : Int} {l : List Int} {b : Nat} (h : 0 < l.length) : ChR c l 1 (fault b c (l.getD 0 0) (num c)) := by
  refine ⟨rfl, rfl, ?_, fun j => rfl⟩
  show [l.getD 0 0] = _
  cases l with
  | nil => simp at h
  | cons y r => rfl
theorem ChR.step {c : Int} {l : List Int} {k b : Nat} {x : Err} (h : ChR c l k x) (hk : k < l.length) : ChR c l (k + 1) (fault b (Err.code x) (l.getD k 0) x) := by
  refine ⟨rfl, h.code, ?_, h.has⟩
  rw [path_fault h.isf, h.path, List.take_succ_eq_append_getElem hk]
  have hq : l.getD k 0 = l[k] := by simp [List.getD, List.getElem?_eq_getElem hk]
  rw [hq, List.reverse_append]; rfl
theorem links_path (x : Err) : (links (ff x)).length = (Err.path x).length := by unfold Err.path; simp
theorem ChR.length {c : Int} {l : List Int} {k : Nat} {x : Err} (h : ChR c l k x) (hk : k ≤ l.length) : (links (ff x)).length = k := by
  rw [links_path, h.path]; simp; omega

set_option maxHeartbeats 2000000 in
theorem in_few (c a : Int) (v : Value) (l : List Int) (w : World) (hg : Glob w) (hs : Sl w v l) (hno : c = 0 ∨ l.length = 0 ∨ 40 < l.length) :
    Calls Tryd.prog 5 #[.int .i64 c, v, .int .i64 a] w fun ev w' => ev = .returned (.bool true) ∧ Below w.heap.size w w' := by
  obtain ⟨ao, cap, rfl, hc1, -⟩ := hs
  generalize l.length = n at hno hc1 ⊢
  have T := told_any w hg
  by_cases h1 : c = 0
  · subst h1
    go_enter Tryd.func5, Tryd.ntmps5
    go_wp2_with fail
    refine T.mono ?_
    rintro ev w1 ⟨rfl, hB⟩
    go_wp2
    go_ret
    exact ⟨rfl, hB⟩
  · have h1' : (c == 0) = false := by simpa using h1
    by_cases h2 : n = 0
    · subst h2
      clear hno h1
      go_enter Tryd.func5, Tryd.ntmps5
      go_wp2_with fail
      refine T.mono ?_
      rintro ev w1 ⟨rfl, hB⟩
      go_wp2
      go_ret
      exact ⟨rfl, hB⟩
    · have h3 : 40 < n := by omega
      clear hno h1 h2
      go_enter Tryd.func5, Tryd.ntmps5
      go_wp2_with fail
      refine T.mono ?_
      rintro ev w1 ⟨rfl, hB⟩
      go_wp2
      go_ret
      exact ⟨rfl, hB⟩

set_option maxHeartbeats 4000000 in
theorem in_many (c a : Int) (v : Value) (l : List Int) (w : World) (hg : Glob w) (hs : Sl w v l) (hc : c ≠ 0) (h0 : 0 < l.length) (h40 : l.length ≤ 40) :
    Calls Tryd.prog 5 #[.int .i64 c, v, .int .i64 a] w fun ev w' => ev = .returned (.bool true) ∧ Below w.heap.size w w' := by
  have hc0 : (c == 0) = false := by simpa using hc
  have HS : Hid (∀ wr, Below w.heap.size w wr → Sl wr v l) := fun wr hb => hs.below hb
  have HO : Hid (∀ b, ChR c l 1 (fault b c (l.getD 0 0) (num c))) := fun b => ChR.one h0
  obtain ⟨ao, cap, rfl, hc1, hq⟩ := hs
  obtain ⟨g, off, rfl, q0⟩ := hq 0 h0
  rw [Nat.add_zero] at q0
  generalize hy : l.getD 0 0 = y0 at q0 HO
  clear hy hq
  have HN : Hid (∃ n, l.length = n) := ⟨_, rfl⟩
  obtain ⟨n, hn⟩ := HN.out
  rw [hn] at h0 h40 hc1 HS ⊢
  have HN : Hid (l.length = n) := hn
  clear hn
  have hn0 : ((n : Int) == 0) = false := by simp; omega
  go_enter Tryd.func5, Tryd.ntmps5
  go_wp2_with fail
  refine (new_any c y0 _ hc).mono ?_
  rintro ev w1 ⟨rfl, hl1, hB1⟩
  go_wp2
  go_loopw [7, 8] (fun e i wr => ∃ (k : Nat) (x : Err), 1 ≤ k ∧ k ≤ n ∧ i = .int .i64 k ∧ e = val x ∧ lies wr x ∧ ChR c l k x ∧ Below w.heap.size w wr) (fun _ i _ => n - (intOf i).toNat)
  case atStart => exact ⟨1, _, Nat.le_refl _, h0, rfl, rfl, hl1, HO.out _, hB1⟩
  case round =>
    obtain ⟨k, x, hk1, hkn, rfl, rfl, hx, hR, hB⟩ := hrel
    by_cases hlt : k < n
    · obtain ⟨ao, cap', hv, -, hq⟩ := HS.out wr hB
      obtain ⟨g', off', ha, q⟩ := hq k (by have := HN.out; omega)
      cases hv
      cases ha
      clear hq
      have HR : Hid (∀ b, ChR c l (k + 1) (fault b (Err.code x) (l.getD k 0) x)) := fun b => hR.step (by have := HN.out; omega)
      clear hR
      generalize l.getD k 0 = y at q HR
      go_wp2_with fail
      refine (in_any x y _ (hg.below hB) hx).mono ?_
      rintro ev w2 ⟨b2, -, rfl, hl2, hB2⟩
      go_wp2
      go_roundw
      case rel => exact ⟨k + 1, _, by omega, by omega, by go_num, rfl, hl2, HR.out b2, hB.trans (hB2.mono hB.size)⟩
      case measure => simp [intOf]; omega
    · have hkk : (links (ff x)).length ≤ 100 := by rw [hR.length (by have := HN.out; omega)]; omega
      have hkl : (Err.path x).length = k := by rw [← links_path, hR.length (by have := HN.out; omega)]
      have hpf : ∀ b, Err.path (fault b (Err.code x) a x) = a :: Err.path x := fun b => path_fault hR.isf
      have HF : Hid (∀ b, (links (ff (fault b (Err.code x) a x))).length ≤ 100 ∧ at_ (fault b (Err.code x) a x) = at_ x ∧ Err.code (fault b (Err.code x) a x) = Err.code x) := by
        intro b
        refine ⟨?_, ?_, rfl⟩
        · rw [links_path, hpf b, List.length_cons, hkl]; omega
        · unfold at_
          rw [hpf b]
          cases hp : Err.path x with
          | nil => rw [hp] at hkl; simp at hkl; omega
          | cons y r => rfl
      have HP : Hid (∀ b, Err.path (fault b (Err.code x) a x) = a :: Err.path x) := hpf
      have HL : Hid ((Err.path x).length = k) := hkl
      clear hpf hkl hR
      go_wp2_with fail
      refine (path_any x _ (hg.below hB) hx hkk).mono ?_
      rintro ev w3 ⟨v3, rfl, hown3, hB3'⟩
      have hs3 := sl_own hown3
      have hl3 := lies_below hB3' (Nat.le_refl _) hx
      have hB3 := hB.trans (hB3'.mono hB.size)
      clear hown3 hB3' hx hB
      go_wp2_with fail
      refine (in_any x a _ (hg.below hB3) hl3).mono ?_
      rintro ev w4 ⟨b4, -, rfl, hf4, hB4'⟩
      obtain ⟨f1, f2, f3⟩ := HF.out b4
      have HP4 : Hid (Err.path (fault b4 (Err.code x) a x) = a :: Err.path x) := HP.out b4
      generalize fault b4 (Err.code x) a x = f at hf4 f1 f2 f3 HP4 ⊢
      have hs4 := hs3.below hB4'
      have hl4 := lies_below hB4' (Nat.le_refl _) hl3
      have hB4 := hB3.trans (hB4'.mono hB3.size)
      clear hB4' hs3 hl3 hB3 HF HP
      go_wp2_with fail
      refine (path_any f _ (hg.below hB4) hf4 f1).mono ?_
      rintro ev w5 ⟨v5, rfl, hown5, hB5'⟩
      rw [HP4.out] at hown5
      obtain ⟨g5, cap5, rfl, -, hgl5, hnc5, hcm5, hcl5⟩ := own_some hown5 (by simp)
      rw [List.length_cons, HL.out] at hnc5 ⊢
      have hs5 := hs4.below hB5'
      have hl5 := lies_below hB5' (Nat.le_refl _) hl4
      have hf5 := lies_below hB5' (Nat.le_refl _) hf4
      have hB5 := hB4.trans (hB5'.mono hB4.size)
      obtain ⟨ao3, cap3, rfl, hc3, -⟩ := hs4
      have hown5' : Hid _ := hown5
      clear hB5' hl4 hf4 hB4 hown5
      rw [HL.out] at hc3 hs5 ⊢
      go_wp2_with fail
      refine (told_any _ (hg.below hB5)).mono ?_
      rintro ev w6 ⟨rfl, hB6'⟩
      have hs6 := hs5.below hB6'
      have hl6 := lies_below hB6' (Nat.le_refl _) hl5
      have hf6 := lies_below hB6' (Nat.le_refl _) hf5
      have hB6 := hB5.trans (hB6'.mono hB5.size)
      have q6 : w6.cell? ⟨g5, 0, none⟩ = some (.int .i64 a) := (hB6'.cell (p := ⟨g5, 0, none⟩) hgl5).trans (hcl5 0 (by simp [ints]))
      have HT : Hid (Sl w6 (.slice (some ⟨g5, 1, none⟩) k (cap5 - 1)) (Err.path x)) := by
        refine ⟨_, _, by rw [HL.out], by rw [HL.out]; omega, fun j hj => ⟨g5, 1, rfl, ?_⟩⟩
        refine (hB6'.cell (p := ⟨g5, 1 + j, none⟩) hgl5).trans ?_
        have := hcl5 (j + 1) (by simp [ints]; omega)
        rw [Nat.add_comm 1 j, this]
        simp [ints, List.getD, List.getElem?_eq_getElem hj]
      clear hs5 hl5 hf5 hB5 hB6' hcl5
      go_wp2_with fail
      refine (ints_same _ _ (Err.path x) _ HT.out hs6 (by rw [HL.out]; omega)).mono ?_
      rintro ev w7 ⟨rfl, hB7'⟩
      have hs7 := hs6.below hB7'
      have hl7 := lies_below hB7' (Nat.le_refl _) hl6
      have hf7 := lies_below hB7' (Nat.le_refl _) hf6
      have hB7 := hB6.trans (hB7'.mono hB6.size)
      clear hB7' hs6 hl6 hf6 hB6 q6 HT
      go_wp2_with fail
      refine (at_any f _ (hg.below hB7) hf7 f1).mono ?_
      rintro ev w8 ⟨rfl, hB8'⟩
      rw [f2]
      have hs8 := hs7.below hB8'
      have hl8 := lies_below hB8' (Nat.le_refl _) hl7
      have hf8 := lies_below hB8' (Nat.le_refl _) hf7
      have hB8 := hB7.trans (hB8'.mono hB7.size)
      clear hB8' hs7 hl7 hf7 hB7
      go_wp2_with fail
      refine (at_any x _ (hg.below hB8) hl8 hkk).mono ?_
      rintro ev w9 ⟨rfl, hB9'⟩
      have hs9 := hs8.below hB9'
      have hl9 := lies_below hB9' (Nat.le_refl _) hl8
      have hf9 := lies_below hB9' (Nat.le_refl _) hf8
      have hB9 := hB8.trans (hB9'.mono hB8.size)
      clear hB9' hs8 hl8 hf8 hB8
      go_wp2_with fail
      refine (code_any f _ (hg.below hB9) hf9).mono ?_
      rintro ev w10 ⟨rfl, hB10'⟩
      rw [f3]
      have hs10 := hs9.below hB10'
      have hl10 := lies_below hB10' (Nat.le_refl _) hl9
      have hB10 := hB9.trans (hB10'.mono hB9.size)
      clear hB10' hs9 hl9 hf9 hB9
      go_wp2_with fail
      refine (code_any x _ (hg.below hB10) hl10).mono ?_
      rintro ev w11 ⟨rfl, hB11'⟩
      have hs11 := hs10.below hB11'
      have hl11 := lies_below hB11' (Nat.le_refl _) hl10
      have hB11 := hB10.trans (hB11'.mono hB10.size)
      clear hB11' hs10 hl10 hB10
      go_wp2_with fail
      refine (path_any x _ (hg.below hB11) hl11 hkk).mono ?_
      rintro ev w12 ⟨v12, rfl, hown12, hB12'⟩
      have hv12 := sl_own hown12
      have hs12 := hs11.below hB12'
      have hB12 := hB11.trans (hB12'.mono hB11.size)
      clear hB12' hs11 hl11 hB11 hown12
      go_wp2_with fail
      refine (ints_same _ _ (Err.path x) _ hv12 hs12 (by rw [HL.out]; omega)).mono ?_
      rintro ev w13 ⟨rfl, hB13'⟩
      have hB13 := hB12.trans (hB13'.mono hB12.size)
      clear hB13' hs12 hB12 hv12
      go_wp2
      go_ret
      exact ⟨rfl, hB13⟩
end Go.Proofs.YtikogamonngbbaaDoor
