/-
  The document's words.
-/
import Derived.Test.YtmfdmpfeoppnfaaDoorSam
namespace Go.Proofs.YtmfdmpfeoppnfaaDoor
open Go.RowKit

theorem spl_blank : ∀ l : Bs, spl (l ++ [32]) = spl l ++ [[]]
  | [] => rfl
  | c :: t => by
    have ih := spl_blank t
    show spl (c :: (t ++ [32])) = _
    rw [spl, ih]
    by_cases hc : c = 32
    · rw [if_pos hc]; conv => rhs; rw [spl, if_pos hc]
      rfl
    · rw [if_neg hc]
      conv => rhs; rw [spl, if_neg hc]
      cases h : spl t with
      | nil => exact absurd h (spl_ne t)
      | cons x r => rfl
theorem spl_char : ∀ (l : Bs) (W : List Bs) (x : Bs) (c : UInt8), c ≠ 32 → spl l = W ++ [x] → spl (l ++ [c]) = W ++ [x ++ [c]]
  | [], W, x, c, hc, h => by
    have h' : W ++ [x] = [[]] := h.symm
    cases W with
    | nil => simp at h'; subst h'; simp [spl, hc]
    | cons a W => simp at h'
  | d :: t, W, x, c, hc, h => by
    show spl (d :: (t ++ [c])) = _
    rw [spl] at h ⊢
    by_cases hd : d = 32
    · rw [if_pos hd] at h ⊢
      cases W with
      | nil => simp at h; exact absurd h.2 (spl_ne t)
      | cons a W =>
        simp at h
        rw [spl_char t W x c hc h.2, ← h.1]; rfl
    · rw [if_neg hd] at h ⊢
      cases hs : spl t with
      | nil => exact absurd hs (spl_ne t)
      | cons y r =>
        rw [hs] at h
        simp only at h
        cases W with
        | nil =>
          simp at h
          obtain ⟨rfl, rfl⟩ := h
          rw [spl_char t [] y c hc hs]; simp
        | cons a W =>
          simp at h
          obtain ⟨rfl, rfl⟩ := h
          rw [spl_char t (y :: W) x c hc (by rw [hs]; simp)]; simp
set_option maxHeartbeats 4000000 in
set_option maxRecDepth 20000 in
theorem words_any (s : Bs) (hs : s.length ≤ 4194304) (w : World) : Calls Tryd.prog 33 #[.string (str s)] w fun ev w' => ∃ v, ev = .returned v ∧ Ss w' v (spl s) ∧ Below w.heap.size w w' := by
  have hsz := str_size s
  have HM := hid0 (str_mid s)
  have HAT := hid0 (str_at s)
  obtain ⟨n, hn⟩ : ∃ n, n = s.length := ⟨_, rfl⟩
  have AN := aside0 hn
  rw [← hn] at hs hsz
  clear hn
  go_enter Tryd.func33, Tryd.ntmps33
  go_wp2_with fail
  go_loopw [3, 4, 5] (fun vo vf vi wr => ∃ (k f : Nat) (W : List Bs) (v : Value), k ≤ n + 1 ∧ f ≤ k ∧ vi = .int .i64 k ∧ vf = .int .i64 f ∧ vo = v ∧ wr.ownsRow w.heap.size 9 1 v W.length (sts W) ∧ Below w.heap.size w wr ∧ W.length ≤ k ∧ (k ≤ n → spl (s.take k) = W ++ [(s.drop f).take (k - f)]) ∧ (n < k → W = spl s)) (fun _ _ i _ => n + 1 - (intOf i).toNat)
  case atStart => exact ⟨0, 0, [], .slice none 0 0, by omega, by omega, rfl, rfl, rfl, ⟨rfl, .inl ⟨rfl, rfl⟩⟩, Below.refl _ _, by simp, fun _ => by simp [spl], fun h => by omega⟩
  case round =>
    obtain ⟨k, f, W, v, hk, hf, rfl, rfl, rfl, hO, hB, hWl, hW, hE⟩ := hrel
    by_cases h3 : k ≤ n
    · have l1 : (k : Int) ≤ (n : Int) := by omega
      have hmid := HM.out f k
      have OW := own_past' hO ((Below.refl wr.heap.size wr).alloc (Nat.le_refl _) (.cells #[.string (str ((s.drop f).take (k - f)))] 9))
      have hwr : w.heap.size ≤ (wr.alloc (.cells #[.string (str ((s.drop f).take (k - f)))] 9)).heap.size := by have := hB.size; simp; omega
      have SS : Ss (wr.alloc (.cells #[.string (str ((s.drop f).take (k - f)))] 9)) (.slice (some ⟨wr.heap.size, 0, none⟩) 1 1) [(s.drop f).take (k - f)] := Ss.row (D := [(s.drop f).take (k - f)]) (Row.new wr 9 [.string (str ((s.drop f).take (k - f)))]) (by simp) (by simp)
      have HBA : Hid (Below w.heap.size w (wr.alloc (.cells #[.string (str ((s.drop f).take (k - f)))] 9))) := hB.alloc hB.size _
      have HO := aside0 hO
      have AB := aside0 hB
      have AW := aside0 (hW h3)
      have hlen : W.length + [(s.drop f).take (k - f)].length ≤ 5000000000 := by simp; omega
      clear hB hO hW hE
      have l4 : (f : Int) ≤ (k : Int) := by omega
      have hkz : k ≤ (str s).size := by rw [hsz]; exact h3
      generalize hpc : (s.drop f).take (k - f) = pc at *
      have APC := aside0 hpc
      clear hpc
      by_cases h4 : k = n
      · have b4 : ((k : Int) == (n : Int)) = true := by simp [h4]
        obtain rfl := h4
        go_wp2_with (first | (refine app22 rfl _ _ rfl rfl OW hwr rfl SS hlen ?_; intro v7 w7 hown7 hbel7; have A7 := aside0 hown7; have B7 := aside0 hbel7; clear hown7 hbel7))
        go_roundw
        case rel =>
          refine ⟨k + 1, k + 1, W ++ [pc], v7, by omega, by omega, by go_num, by go_num, rfl, A7.out, HBA.out.trans B7.out, by simp; omega, fun h => by omega, fun _ => ?_⟩
          rw [← AW.out, List.take_of_length_le (by have := AN.out; omega)]
        case measure => simp [intOf]
      · have b4 : ((k : Int) == (n : Int)) = false := by simp; omega
        have hkn : k < n := by omega
        have hkl : k < (str s).size := by rw [hsz]; omega
        have hks : k < s.length := by rw [← AN.out]; exact hkn
        have hat := HAT.out k hkl
        have eT : s.take (k + 1) = s.take k ++ [s.getD k 0] := by rw [List.take_add_one, List.getElem?_eq_getElem hks, getD_eq s k 0 hks]; rfl
        have eP : (s.drop f).take (k + 1 - f) = pc ++ [s.getD k 0] := by
          rw [← APC.out, show k + 1 - f = (k - f) + 1 by omega, List.take_add_one, List.getElem?_drop, show f + (k - f) = k by omega, List.getElem?_eq_getElem hks, getD_eq s k 0 hks]; rfl
        obtain ⟨S, hS⟩ : ∃ S, S = str s := ⟨_, rfl⟩
        obtain ⟨hx1, hx2⟩ : ∃ hx1 : k < S.size, (S[k]'hx1).toNat = (s.getD k 0).toNat := by rw [hS]; exact ⟨hkl, by rw [hat]⟩
        rw [← hS] at hsz hkz hmid ⊢
        clear hat hkl hS
        have ln : (k : Int) < (n : Int) := by omega
        by_cases hc : s.getD k 0 = 32
        · have hc1 : (((s.getD k 0).toNat : Int) == 32) = true := by rw [hc]; rfl
          generalize hcc : (s.getD k 0).toNat = cc at *
          have HP : Hid (spl (s.take (k + 1)) = W ++ [pc] ++ [(s.drop (k + 1)).take (k + 1 - (k + 1))]) := by
            show _ = _
            rw [eT, hc, spl_blank, AW.out]; simp
          clear hcc
          go_wp2_with (first | (refine app22 rfl _ _ rfl rfl OW hwr rfl SS hlen ?_; intro v7 w7 hown7 hbel7; have A7 := aside0 hown7; have B7 := aside0 hbel7; clear hown7 hbel7))
          go_roundw
          case rel => exact ⟨k + 1, k + 1, W ++ [pc], v7, by omega, by omega, by go_num, by go_num, rfl, A7.out, HBA.out.trans B7.out, by simp; omega, fun _ => HP.out, fun h => by omega⟩
          case measure => simp [intOf]; omega
        · have hc1 : (((s.getD k 0).toNat : Int) == 32) = false := by
            simp only [beq_eq_false_iff_ne]
            intro e
            exact hc (UInt8.toNat_inj.1 (by simpa using Int.ofNat.inj e))
          have hc2 : ((s.getD k 0).toNat : Int) ≠ 32 := by simpa using hc1
          generalize hcc : (s.getD k 0).toNat = cc at *
          have HP : Hid (spl (s.take (k + 1)) = W ++ [(s.drop f).take (k + 1 - f)]) := by
            show _ = _
            rw [eT, eP, spl_char _ W pc _ hc AW.out]
          clear hcc
          go_wp2_with fail
          go_roundw
          case rel => exact ⟨k + 1, f, W, _, by omega, by omega, by go_num, rfl, rfl, HO.out, AB.out, by omega, fun _ => HP.out, fun h => by omega⟩
          case measure => simp [intOf]; omega
    · have l1 : ¬ (k : Int) ≤ (n : Int) := by omega
      have hWs := hE (by omega)
      rw [hWs] at hO
      have HS := hid0 (Ss.ofOwn hO (by have := spl_len s; have := AN.out; omega))
      go_wp2_with fail
      go_ret
      exact ⟨_, rfl, HS.out, hB⟩
end Go.Proofs.YtmfdmpfeoppnfaaDoor
