/-
  The document on tokens.
-/
import Derived.Test.YtldbbkheemnnhaaGreatDoorJpLsk3
import Derived.OwnWalk
namespace Go.Proofs.YtldbbkheemnnhaaGreatDoor
open Go.RowKit
def XLexOut (w : World) (v : Value) (c p : Int) (r : List Tok × Option Nat) : Prop :=
 (∃ T, r = (T, none) /\ c = 0 /\ p = 0 /\ Ts w v T) ∨ (∃ T q, r = (T, some q) /\ v = .slice none 0 0 /\ c = 20 /\ p = (q : Int))
theorem run_pos {c : UInt8} {t : List UInt8} (h : isNm c = true) : 1 <= runL (c :: t) := by simp [runL, h]
theorem run_take : ∀ l : List UInt8, runL (l.take (runL l)) = runL l
 | [] => rfl
 | c :: t => by
  cases h : isNm c
  ·simp [runL, h]
  ·have e : runL (c :: t) = runL t + 1 := by simp [runL, h]
   rw [e, List.take_succ_cons]
   simp [runL, h, run_take t]
theorem life_take (l : List UInt8) : lifeB (l.take (runL l)) = isLife (l.take (runL l)) := by
 have hle := runL_le l
 have hlen : (l.take (runL l)).length = runL l := by rw [List.length_take]; omega
 unfold lifeB
 rw [run_take, hlen, decide_eq_true (rfl : runL l = runL l), Bool.and_true]
 unfold isLife
 rw [hlen]
 cases l with
 | nil => rfl
 | cons c t =>
  cases h : isNm c
  ·have e : runL (c :: t) = 0 := by simp [runL, h]
   rw [e]; rfl
  ·have e : runL (c :: t) = runL t + 1 := by simp [runL, h]
   rw [e]
   simp
theorem tok_word {c : UInt8} {t : List UInt8} (h : isLt c = true) (hw : isWord ((c :: t).take (runL (c :: t))) = true) : tokF (c :: t) = some (2, runL (c :: t)) := by
 simp only [tokF, h, if_true, hw]
theorem tok_name {c : UInt8} {t : List UInt8} (h : isLt c = true) (hw : isWord ((c :: t).take (runL (c :: t))) = false) : tokF (c :: t) = if nameB ((c :: t).take (runL (c :: t))) then some (1, runL (c :: t)) else none := by
 have hle := runL_le (c :: t)
 have e : runL (c :: t) = runL t + 1 := by simp [runL, isNm, h]
 have hN : nameB ((c :: t).take (runL (c :: t))) = decide (runL (c :: t) <= 32) := by
  rw [← life_name, hw, life_take]
  unfold isLife
  have hlen : ((c :: t).take (runL (c :: t))).length = runL (c :: t) := by rw [List.length_take]; omega
  rw [hlen, e]
  simp [h]
 simp only [tokF, h, if_true, hw, Bool.false_eq_true, if_false]
 rw [hN]
 by_cases h3 : runL (c :: t) <= 32
 ·rw [if_pos h3, decide_eq_true h3, if_pos rfl]
 ·rw [if_neg h3, decide_eq_false h3, if_neg (by simp)]
theorem tok_life {t : List UInt8} : tokF (39 :: t) = if lifeB (t.take (runL t)) then some (3, runL t + 1) else none := by
 rw [life_take]; rfl
theorem tok_num {c : UInt8} {t : List UInt8} (h1 : isLt c = false) (h2 : ¬ c.toNat = 39) (h3 : isDg c = true) : tokF (c :: t) = if isNum ((c :: t).take (runL (c :: t))) then some (4, runL (c :: t)) else none := by
 simp only [tokF, h1, h3, if_neg h2, Bool.false_eq_true, if_false, if_true]
theorem tok_sign {c : UInt8} {t : List UInt8} (h1 : isLt c = false) (h2 : ¬ c.toNat = 39) (h3 : isDg c = false) : tokF (c :: t) = if signF (c :: t) = 0 then none else some (5, signF (c :: t)) := by
 simp only [tokF, h1, h3, if_neg h2, Bool.false_eq_true, if_false]
theorem LRel.stop {l : List UInt8} {w wr : World} {p : Nat} {T : List Tok} {v : Value} (h : LRel l w p T v wr) (hp : p < l.length) (ht : tokF (l.drop p) = none) : (lexF l).2 = some p := by
 have := h.eq
 rw [drop_cons l p hp] at this ht
 rw [lxr_none _ _ _ _ ht] at this
 rw [this]
set_option maxHeartbeats 8000000 in
set_option maxRecDepth 20000 in
theorem xlex_any (l : List UInt8) (hl : l.length <= 1048576) (w : World) :
  Calls Tryz.prog 55 #[.string (str l)] w fun ev w' => ∃ v c p, ev = .returned (.tuple #[v, .int .i64 c, .int .i64 p]) /\ XLexOut w' v c p (lexF l) /\ Below w.heap.size w w' := by
 have B0 := xskip_any l 0 (by omega) (by omega) w
 rw [List.drop_zero, Nat.zero_add] at B0
 have HB : Hid (∀ p : Nat, p <= l.length -> ∀ y, Calls Tryz.prog 79 #[.string (str l), .int .i64 (p : Int)] y fun ev w' => ev = .returned (.int .i64 ((p + skp false (l.drop p) : Nat) : Int)) /\ w' = y) := fun p hp y => xskip_any l p hp (by omega) y
 have HRun : Hid (∀ p : Nat, p <= l.length -> ∀ y, Calls Tryz.prog 81 #[.string (str l), .int .i64 (p : Int)] y fun ev w' => ev = .returned (.int .i64 ((p + runL (l.drop p) : Nat) : Int)) /\ w' = y) := fun p hp y => xrun_any l p hp (by omega) y
 have HSg : Hid (∀ p : Nat, p < l.length -> ∀ y, Calls Tryz.prog 86 #[.string (str l), .int .i64 (p : Int)] y fun ev w' => ev = .returned (.int .i64 (signF (l.drop p) : Int)) /\ Below y.heap.size y w') := fun p hp y => xsign_any l p hp (by omega) y
 have HM : Hid (∀ a b : Nat, (str l).extract a (a + b) = str ((l.drop a).take b)) := fun a b => by rw [str_mid]; congr 3; omega
 have HI : Hid (LRel l w (skp false l) [] (.slice none 0 0) w) := LRel.start l w
 obtain ⟨S, hS⟩ : ∃ S, S = str l := ⟨_, rfl⟩
 have hsz : S.size = l.length := by rw [hS, str_size]
 have HX : Hid (∀ k (h : k < S.size), (S[k]'h).toNat = (l.getD k 0).toNat) := by
  intro k h
  subst hS
  rw [str_at]
 rw [← hS] at HB HRun HSg HM B0 ⊢
 clear hS
 have h20 : ¬ (1048576 : Int) < (l.length : Int) := by omega
 generalize skp false l = p0 at *
 go_enter Tryz.func55, Tryz.ntmps55
 go_wp2_with fail
 refine B0.mono ?_
 rintro ev w2 ⟨rfl, hw2⟩
 replace hw2 := hw2.symm
 subst hw2
 clear B0
 go_wp2_with fail
 go_loopw [5, 6] (fun v i wr => ∃ p : Nat, ∃ T : List Tok, i = .int .i64 (p : Int) /\ LRel l w p T v wr) (fun _ i _ => l.length - (intOf i).toNat)
 case atStart => exact ⟨p0, [], rfl, HI.out⟩
 case round =>
  obtain ⟨p, T, rfl, hR⟩ := hrel
  clear HI
  have hpl := hR.le
  have HR : Hid (LRel l w p T _ wr) := hR
  by_cases h3 : p < l.length
  ·have hpS : p < S.size := by omega
   have hx := HX.out p hpS
   have h3' : (p : Int) < (l.length : Int) := by omega
   have hdc := drop_cons l p h3
   have LT := fun y => letter_any (l.getD p 0) y
   have DG := fun y => xdigit_any (l.getD p 0) y
   have hrl := runL_le (l.drop p)
   rw [List.length_drop] at hrl
   clear hR
   cases hA : isLt (l.getD p 0)
   ·rw [hA] at LT
    by_cases hL : (l.getD p 0).toNat = 39
    ·have hc39 : l.getD p 0 = 39 := UInt8.toNat_inj.1 (by simpa using hL)
     have ht1 := tok_life (t := l.drop (p + 1))
     rw [← hc39, ← hdc] at ht1
     rw [hL] at hx
     replace hx : (S[p]'hpS).toNat = 39 := hx
     have RN := fun y => HRun.out (p + 1) (by omega) y
     have hp1 : ((p + 1 : Nat) : Int) = (p : Int) + 1 := by omega
     rw [hp1] at RN
     have hM := HM.out (p + 1) (runL (l.drop (p + 1)))
     have XL := fun y => xlife_any ((l.drop (p + 1)).take (runL (l.drop (p + 1)))) (by rw [List.length_take, List.length_drop]; omega) y
     have hrl1 := runL_le (l.drop (p + 1))
     rw [List.length_drop] at hrl1
     obtain ⟨E, hE⟩ : ∃ E, p + 1 + runL (l.drop (p + 1)) = E := ⟨_, rfl⟩
     obtain ⟨S1, hS1⟩ : ∃ S1, S1 = str ((l.drop (p + 1)).take (runL (l.drop (p + 1)))) := ⟨_, rfl⟩
     rw [hE] at RN hM
     rw [← hS1] at hM XL
     cases hn : lifeB ((l.drop (p + 1)).take (runL (l.drop (p + 1))))
     ·rw [hn] at XL ht1
      have HP : Hid ((lexF l).2 = some p) := HR.out.stop h3 ht1
      have HB5 : Hid (Below w.heap.size w (wr.alloc (.cells #[.int .i64 3, .string S1, .int .i64 (p : Int)] 109))) := HR.out.below.alloc HR.out.below.size _
      rw [hL] at LT
      clear DG hdc hS1 HM HX HSg hL hc39
      go_wp2_with fail
      refine (LT _).mono ?_
      rintro ev w2 ⟨rfl, hw2⟩
      replace hw2 := hw2.symm
      subst hw2
      go_wp2_with fail
      refine (RN _).mono ?_
      rintro ev w2 ⟨rfl, hw2⟩
      replace hw2 := hw2.symm
      subst hw2
      go_wp2_with fail
      refine (XL _).mono ?_
      rintro ev w2 ⟨rfl, rfl⟩
      go_wp2_with fail
      go_ret3
      exact ⟨_, _, _, rfl, .inr ⟨(lexF l).1, p, by rw [← HP.out], rfl, rfl, rfl⟩, HB5.out⟩
     ·rw [hn] at XL ht1
      have ht : tokF (l.drop p) = some (3, runL (l.drop (p + 1)) + 1) := ht1
      have hE2 : p + (runL (l.drop (p + 1)) + 1) = E := by omega
      have hTX : textOf 3 ((l.drop p).take (runL (l.drop (p + 1)) + 1)) = (l.drop (p + 1)).take (runL (l.drop (p + 1))) := by rw [hdc]; rfl
      obtain ⟨X, hX⟩ : ∃ X : Tok, X = ⟨3, textOf 3 ((l.drop p).take (runL (l.drop (p + 1)) + 1)), p⟩ := ⟨_, rfl⟩
      have HN : Hid (∀ v' w', w'.ownsRow w.heap.size 109 3 v' (T ++ [X]).length (tvs (T ++ [X])) -> Below w.heap.size w w' -> LRel l w (E + skp false (l.drop E)) (T ++ [X]) v' w') := by
       intro v' w' a b
       rw [hX] at a ⊢
       have := HR.out.next h3 ht (v' := v') (w' := w')
       rw [hE2] at this
       exact this a b
      have HC : Hid (X.cells = [.int .i64 3, .string S1, .int .i64 (p : Int)]) := by rw [hX, hTX]; subst hS1; rfl
      have BB := fun y => HB.out E (by omega) y
      have HS : Hid (p < E + skp false (l.drop E) /\ E + skp false (l.drop E) <= l.length) := by
       have hs := skp_le false (l.drop E)
       rw [List.length_drop] at hs
       show _ /\ _
       omega
      clear hX
      rw [hL] at LT
      clear DG hdc hS1 HM HX HSg hL hc39 hTX
      go_wp2_with fail
      refine (LT _).mono ?_
      rintro ev w2 ⟨rfl, hw2⟩
      replace hw2 := hw2.symm
      subst hw2
      go_wp2_with fail
      refine (RN _).mono ?_
      rintro ev w2 ⟨rfl, hw2⟩
      replace hw2 := hw2.symm
      subst hw2
      go_wp2_with fail
      refine (XL _).mono ?_
      rintro ev w2 ⟨rfl, rfl⟩
      have HBF : Hid (Below wr.heap.size wr (wr.alloc (.cells #[.int .i64 3, .string S1, .int .i64 (p : Int)] 109))) := (Below.refl _ _).alloc (Nat.le_refl _) _
      have hrowF : (wr.alloc (.cells #[.int .i64 3, .string S1, .int .i64 (p : Int)] 109)).rangeAt wr.heap.size 0 [.int .i64 3, .string S1, .int .i64 (p : Int)] := (Row.new wr 109 [.int .i64 3, .string S1, .int .i64 (p : Int)]).range
      have O3 : ((wr.alloc (.cells #[.int .i64 3, .string S1, .int .i64 (p : Int)] 109)).alloc (.cells #[.int .i64 3, .string S1, .int .i64 (p : Int)] 109)).ownsRow w.heap.size 109 3 _ T.length (tvs T) := own_past' HR.out.own (HBF.out.alloc HBF.out.size _)
      have HB3 : Hid (Below w.heap.size w ((wr.alloc (.cells #[.int .i64 3, .string S1, .int .i64 (p : Int)] 109)).alloc (.cells #[.int .i64 3, .string S1, .int .i64 (p : Int)] 109))) := (HR.out.below.trans (HBF.out.mono HR.out.below.size)).alloc (Nat.le_trans HR.out.below.size HBF.out.size) _
      have hBs := HB3.out.size
      have hFs : (wr.alloc (.cells #[.int .i64 3, .string S1, .int .i64 (p : Int)] 109)).heap.size = wr.heap.size + 1 := by simp
      have hRg : ((wr.alloc (.cells #[.int .i64 3, .string S1, .int .i64 (p : Int)] 109)).alloc (.cells #[.int .i64 3, .string S1, .int .i64 (p : Int)] 109)).rangeAt (wr.heap.size + 1) 0 X.cells := by rw [HC.out, ← hFs]; exact (Row.new (wr.alloc (.cells #[.int .i64 3, .string S1, .int .i64 (p : Int)] 109)) 109 [.int .i64 3, .string S1, .int .i64 (p : Int)]).range
      have hRg2 : ((wr.alloc (.cells #[.int .i64 3, .string S1, .int .i64 (p : Int)] 109)).alloc (.cells #[.int .i64 3, .string S1, .int .i64 (p : Int)] 109)).rangeAt (wr.alloc (.cells #[.int .i64 3, .string S1, .int .i64 (p : Int)] 109)).heap.size 0 X.cells := by rw [HC.out]; exact (Row.new (wr.alloc (.cells #[.int .i64 3, .string S1, .int .i64 (p : Int)] 109)) 109 [.int .i64 3, .string S1, .int .i64 (p : Int)]).range
      have hfew : T.length <= 10000000 := by have := HR.out.few; omega
      clear hFs
      go_wp2_with (first | (refine load29g (by rfl) _ rfl wr.heap.size 0 _ _ _ rfl hrowF ?_) | (refine build29 rfl _ rfl X (by rw [HC.out]; rfl) ?_; rw [HC.out]) | (refine app29 rfl _ _ rfl rfl O3 hBs (wr.heap.size + 1) 1 X rfl hRg hfew ?_; intro v' w4 hown4 hb4) | (refine app29 rfl _ _ rfl rfl O3 hBs (wr.alloc (.cells #[.int .i64 3, .string S1, .int .i64 (p : Int)] 109)).heap.size 1 X rfl hRg2 hfew ?_; intro v' w4 hown4 hb4))
      have HB4 : Hid (Below w.heap.size w w4) := HB3.out.trans hb4
      have HO4 : Hid _ := HN.out v' w4 hown4 HB4.out
      clear O3 hRg hRg2 hb4 hown4 HB3 HN hrowF HBF
      refine (BB _).mono ?_
      rintro ev w5 ⟨rfl, hw5⟩
      replace hw5 := hw5.symm
      subst hw5
      generalize E + skp false (l.drop E) = q at *
      go_wp2_with fail
      go_roundw
      case rel => exact ⟨q, _, rfl, HO4.out⟩
      case measure => have := HS.out; simp [intOf]; omega
    ·have nL : ((l.getD p 0).toNat : Int) ≠ 39 := by omega
     cases hD : isDg (l.getD p 0)
     ·rw [hD] at DG
      have ht0 := tok_sign (t := l.drop (p + 1)) hA hL hD
      rw [← hdc] at ht0
      have SG := fun y => HSg.out p h3 y
      have hsl := (signF_le (l.drop p)).1
      rw [List.length_drop] at hsl
      have hM := HM.out p (signF (l.drop p))
      obtain ⟨n, hn⟩ : ∃ n, signF (l.drop p) = n := ⟨_, rfl⟩
      rw [hn] at SG hsl hM ht0
      by_cases h0 : n = 0
      ·rw [if_pos h0] at ht0
       have HP : Hid ((lexF l).2 = some p) := HR.out.stop h3 ht0
       have HY : Hid (∀ y, Below (wr.alloc (.cells #[.int .i64 0, .string ⟨#[]⟩, .int .i64 (p : Int)] 109)).heap.size (wr.alloc (.cells #[.int .i64 0, .string ⟨#[]⟩, .int .i64 (p : Int)] 109)) y -> Below w.heap.size w y) := fun y hy => HR.out.below.trans ((((Below.refl _ _).alloc (Nat.le_refl _) _).trans (hy.mono (by simp))).mono HR.out.below.size)
       subst h0
       generalize (l.getD p 0).toNat = x at *
       clear hdc HM HX HSg hn hM
       go_wp2_with fail
       refine (LT _).mono ?_
       rintro ev w2 ⟨rfl, hw2⟩
       replace hw2 := hw2.symm
       subst hw2
       go_wp2_with fail
       refine (DG _).mono ?_
       rintro ev w2 ⟨rfl, rfl⟩
       go_wp2_with fail
       refine (SG _).mono ?_
       rintro ev w2 ⟨rfl, hb2⟩
       have HB5 : Hid (Below w.heap.size w w2) := HY.out w2 hb2
       clear hb2 HY
       go_wp2_with fail
       go_ret3
       exact ⟨_, _, _, rfl, .inr ⟨(lexF l).1, p, by rw [← HP.out], rfl, rfl, rfl⟩, HB5.out⟩
      ·rw [if_neg h0] at ht0
       have ht : tokF (l.drop p) = some (5, n) := ht0
       have n0 : (n : Int) ≠ 0 := by omega
       obtain ⟨E, hE⟩ : ∃ E, p + n = E := ⟨_, rfl⟩
       obtain ⟨S1, hS1⟩ : ∃ S1, S1 = str ((l.drop p).take n) := ⟨_, rfl⟩
       rw [← hS1, hE] at hM
       have hEi : (p : Int) + (n : Int) = (E : Int) := by omega
       obtain ⟨X, hX⟩ : ∃ X : Tok, X = ⟨5, textOf 5 ((l.drop p).take n), p⟩ := ⟨_, rfl⟩
       have HN : Hid (∀ v' w', w'.ownsRow w.heap.size 109 3 v' (T ++ [X]).length (tvs (T ++ [X])) -> Below w.heap.size w w' -> LRel l w (E + skp false (l.drop E)) (T ++ [X]) v' w') := by
        intro v' w' a b
        rw [hX] at a ⊢
        have := HR.out.next h3 ht (v' := v') (w' := w')
        rw [hE] at this
        exact this a b
       have HC : Hid (X.cells = [.int .i64 5, .string S1, .int .i64 (p : Int)]) := by rw [hX]; subst hS1; rfl
       have BB := fun y => HB.out E (by omega) y
       have HS : Hid (p < E + skp false (l.drop E) /\ E + skp false (l.drop E) <= l.length) := by
        have hs := skp_le false (l.drop E)
        rw [List.length_drop] at hs
        show _ /\ _
        omega
       clear hX
       generalize (l.getD p 0).toNat = x at *
       clear hdc hS1 HM HX HSg hn
       go_wp2_with fail
       refine (LT _).mono ?_
       rintro ev w2 ⟨rfl, hw2⟩
       replace hw2 := hw2.symm
       subst hw2
       go_wp2_with fail
       refine (DG _).mono ?_
       rintro ev w2 ⟨rfl, rfl⟩
       go_wp2_with fail
       refine (SG _).mono ?_
       rintro ev w2 ⟨rfl, hb2⟩
       have hrow : Row w2 wr.heap.size 109 [.int .i64 0, .string ⟨#[]⟩, .int .i64 (p : Int)] := (Row.new wr 109 [.int .i64 0, .string ⟨#[]⟩, .int .i64 (p : Int)]).below hb2 (by simp)
       have q0 : w2.cell? ⟨wr.heap.size, 0, none⟩ = some (.int .i64 0) := hrow.cell 0
       have q1 : w2.cell? ⟨wr.heap.size, 1, none⟩ = some (.string ⟨#[]⟩) := hrow.cell 1
       have f0 := hrow.fz 0
       have f1 := hrow.fz 1
       have hrow3 : Row ((w2.setCell ⟨wr.heap.size, 1, none⟩ (.string S1)).setCell ⟨wr.heap.size, 0, none⟩ (.int .i64 5)) wr.heap.size 109 [.int .i64 5, .string S1, .int .i64 (p : Int)] := (hrow.set 1 (.string S1)).set 0 (.int .i64 5)
       have HB2 : Hid (Below wr.heap.size wr w2) := ((Below.refl _ _).alloc (Nat.le_refl _) _).trans (hb2.mono (by simp))
       clear hb2 hrow SG LT DG
       have HBF : Hid (Below wr.heap.size wr ((w2.setCell ⟨wr.heap.size, 1, none⟩ (.string S1)).setCell ⟨wr.heap.size, 0, none⟩ (.int .i64 5))) := (HB2.out.setCell (p := ⟨wr.heap.size, 1, none⟩) (Nat.le_refl _) _).setCell (p := ⟨wr.heap.size, 0, none⟩) (Nat.le_refl _) _
       have hrowF : ((w2.setCell ⟨wr.heap.size, 1, none⟩ (.string S1)).setCell ⟨wr.heap.size, 0, none⟩ (.int .i64 5)).rangeAt wr.heap.size 0 [.int .i64 5, .string S1, .int .i64 (p : Int)] := hrow3.range
       have O3 : (((w2.setCell ⟨wr.heap.size, 1, none⟩ (.string S1)).setCell ⟨wr.heap.size, 0, none⟩ (.int .i64 5)).alloc (.cells #[.int .i64 5, .string S1, .int .i64 (p : Int)] 109)).ownsRow w.heap.size 109 3 _ T.length (tvs T) := own_past' HR.out.own (HBF.out.alloc HBF.out.size _)
       have HB3 : Hid (Below w.heap.size w (((w2.setCell ⟨wr.heap.size, 1, none⟩ (.string S1)).setCell ⟨wr.heap.size, 0, none⟩ (.int .i64 5)).alloc (.cells #[.int .i64 5, .string S1, .int .i64 (p : Int)] 109))) := (HR.out.below.trans (HBF.out.mono HR.out.below.size)).alloc (Nat.le_trans HR.out.below.size HBF.out.size) _
       have hBs := HB3.out.size
       have hFs : ((w2.setCell ⟨wr.heap.size, 1, none⟩ (.string S1)).setCell ⟨wr.heap.size, 0, none⟩ (.int .i64 5)).heap.size = w2.heap.size := by simp
       have hRg : (((w2.setCell ⟨wr.heap.size, 1, none⟩ (.string S1)).setCell ⟨wr.heap.size, 0, none⟩ (.int .i64 5)).alloc (.cells #[.int .i64 5, .string S1, .int .i64 (p : Int)] 109)).rangeAt (w2.heap.size) 0 X.cells := by rw [HC.out, ← hFs]; exact (Row.new ((w2.setCell ⟨wr.heap.size, 1, none⟩ (.string S1)).setCell ⟨wr.heap.size, 0, none⟩ (.int .i64 5)) 109 [.int .i64 5, .string S1, .int .i64 (p : Int)]).range
       have hRg2 : (((w2.setCell ⟨wr.heap.size, 1, none⟩ (.string S1)).setCell ⟨wr.heap.size, 0, none⟩ (.int .i64 5)).alloc (.cells #[.int .i64 5, .string S1, .int .i64 (p : Int)] 109)).rangeAt ((w2.setCell ⟨wr.heap.size, 1, none⟩ (.string S1)).setCell ⟨wr.heap.size, 0, none⟩ (.int .i64 5)).heap.size 0 X.cells := by rw [HC.out]; exact (Row.new ((w2.setCell ⟨wr.heap.size, 1, none⟩ (.string S1)).setCell ⟨wr.heap.size, 0, none⟩ (.int .i64 5)) 109 [.int .i64 5, .string S1, .int .i64 (p : Int)]).range
       have hfew : T.length <= 10000000 := by have := HR.out.few; omega
       clear hFs
       go_wp2_with (first | (refine load29g (by rfl) _ rfl wr.heap.size 0 _ _ _ rfl hrowF ?_) | (refine build29 rfl _ rfl X (by rw [HC.out]; rfl) ?_; rw [HC.out]) | (refine app29 rfl _ _ rfl rfl O3 hBs (w2.heap.size) 1 X rfl hRg hfew ?_; intro v' w4 hown4 hb4) | (refine app29 rfl _ _ rfl rfl O3 hBs ((w2.setCell ⟨wr.heap.size, 1, none⟩ (.string S1)).setCell ⟨wr.heap.size, 0, none⟩ (.int .i64 5)).heap.size 1 X rfl hRg2 hfew ?_; intro v' w4 hown4 hb4))
       have HB4 : Hid (Below w.heap.size w w4) := HB3.out.trans hb4
       have HO4 : Hid _ := HN.out v' w4 hown4 HB4.out
       clear O3 hRg hRg2 hb4 hown4 HB3 HN hrowF HBF
       refine (BB _).mono ?_
       rintro ev w5 ⟨rfl, hw5⟩
       replace hw5 := hw5.symm
       subst hw5
       generalize E + skp false (l.drop E) = q at *
       go_wp2_with fail
       go_roundw
       case rel => exact ⟨q, _, rfl, HO4.out⟩
       case measure => have := HS.out; simp [intOf]; omega
     ·rw [hD] at DG
      have ht0 := tok_num (t := l.drop (p + 1)) hA hL hD
      rw [← hdc] at ht0
      have RN := fun y => HRun.out p (by omega) y
      have hM := HM.out p (runL (l.drop p))
      have XB := fun y => xnumber_any ((l.drop p).take (runL (l.drop p))) (by rw [List.length_take, List.length_drop]; omega) y
      have hr1 : 1 <= runL (l.drop p) := by rw [hdc]; exact run_pos (by unfold isNm; rw [hD]; simp)
      obtain ⟨E, hE⟩ : ∃ E, p + runL (l.drop p) = E := ⟨_, rfl⟩
      obtain ⟨S1, hS1⟩ : ∃ S1, S1 = str ((l.drop p).take (runL (l.drop p))) := ⟨_, rfl⟩
      rw [hE] at RN hM
      rw [← hS1] at hM XB
      cases hn : isNum ((l.drop p).take (runL (l.drop p)))
      ·rw [hn] at XB ht0
       have HP : Hid ((lexF l).2 = some p) := HR.out.stop h3 ht0
       have HB5 : Hid (Below w.heap.size w (wr.alloc (.cells #[.int .i64 4, .string S1, .int .i64 (p : Int)] 109))) := HR.out.below.alloc HR.out.below.size _
       generalize (l.getD p 0).toNat = x at *
       clear hdc hS1 HM HX HSg
       go_wp2_with fail
       refine (LT _).mono ?_
       rintro ev w2 ⟨rfl, hw2⟩
       replace hw2 := hw2.symm
       subst hw2
       go_wp2_with fail
       refine (DG _).mono ?_
       rintro ev w2 ⟨rfl, rfl⟩
       go_wp2_with fail
       refine (RN _).mono ?_
       rintro ev w2 ⟨rfl, rfl⟩
       go_wp2_with fail
       refine (XB _).mono ?_
       rintro ev w2 ⟨rfl, rfl⟩
       go_wp2_with fail
       go_ret3
       exact ⟨_, _, _, rfl, .inr ⟨(lexF l).1, p, by rw [← HP.out], rfl, rfl, rfl⟩, HB5.out⟩
      ·rw [hn] at XB ht0
       have ht : tokF (l.drop p) = some (4, runL (l.drop p)) := ht0
       obtain ⟨X, hX⟩ : ∃ X : Tok, X = ⟨4, textOf 4 ((l.drop p).take (runL (l.drop p))), p⟩ := ⟨_, rfl⟩
       have HN : Hid (∀ v' w', w'.ownsRow w.heap.size 109 3 v' (T ++ [X]).length (tvs (T ++ [X])) -> Below w.heap.size w w' -> LRel l w (E + skp false (l.drop E)) (T ++ [X]) v' w') := by
        intro v' w' a b
        rw [hX] at a ⊢
        have := HR.out.next h3 ht (v' := v') (w' := w')
        rw [hE] at this
        exact this a b
       have HC : Hid (X.cells = [.int .i64 4, .string S1, .int .i64 (p : Int)]) := by rw [hX]; subst hS1; rfl
       have BB := fun y => HB.out E (by omega) y
       have HS : Hid (p < E + skp false (l.drop E) /\ E + skp false (l.drop E) <= l.length) := by
        have hs := skp_le false (l.drop E)
        rw [List.length_drop] at hs
        show _ /\ _
        omega
       clear hX
       generalize (l.getD p 0).toNat = x at *
       clear hdc hS1 HM HX HSg
       go_wp2_with fail
       refine (LT _).mono ?_
       rintro ev w2 ⟨rfl, hw2⟩
       replace hw2 := hw2.symm
       subst hw2
       go_wp2_with fail
       refine (DG _).mono ?_
       rintro ev w2 ⟨rfl, rfl⟩
       go_wp2_with fail
       refine (RN _).mono ?_
       rintro ev w2 ⟨rfl, rfl⟩
       go_wp2_with fail
       refine (XB _).mono ?_
       rintro ev w2 ⟨rfl, rfl⟩
       have HBF : Hid (Below wr.heap.size wr (wr.alloc (.cells #[.int .i64 4, .string S1, .int .i64 (p : Int)] 109))) := (Below.refl _ _).alloc (Nat.le_refl _) _
       have hrowF : (wr.alloc (.cells #[.int .i64 4, .string S1, .int .i64 (p : Int)] 109)).rangeAt wr.heap.size 0 [.int .i64 4, .string S1, .int .i64 (p : Int)] := (Row.new wr 109 [.int .i64 4, .string S1, .int .i64 (p : Int)]).range
       have O3 : ((wr.alloc (.cells #[.int .i64 4, .string S1, .int .i64 (p : Int)] 109)).alloc (.cells #[.int .i64 4, .string S1, .int .i64 (p : Int)] 109)).ownsRow w.heap.size 109 3 _ T.length (tvs T) := own_past' HR.out.own (HBF.out.alloc HBF.out.size _)
       have HB3 : Hid (Below w.heap.size w ((wr.alloc (.cells #[.int .i64 4, .string S1, .int .i64 (p : Int)] 109)).alloc (.cells #[.int .i64 4, .string S1, .int .i64 (p : Int)] 109))) := (HR.out.below.trans (HBF.out.mono HR.out.below.size)).alloc (Nat.le_trans HR.out.below.size HBF.out.size) _
       have hBs := HB3.out.size
       have hFs : (wr.alloc (.cells #[.int .i64 4, .string S1, .int .i64 (p : Int)] 109)).heap.size = wr.heap.size + 1 := by simp
       have hRg : ((wr.alloc (.cells #[.int .i64 4, .string S1, .int .i64 (p : Int)] 109)).alloc (.cells #[.int .i64 4, .string S1, .int .i64 (p : Int)] 109)).rangeAt (wr.heap.size + 1) 0 X.cells := by rw [HC.out, ← hFs]; exact (Row.new (wr.alloc (.cells #[.int .i64 4, .string S1, .int .i64 (p : Int)] 109)) 109 [.int .i64 4, .string S1, .int .i64 (p : Int)]).range
       have hRg2 : ((wr.alloc (.cells #[.int .i64 4, .string S1, .int .i64 (p : Int)] 109)).alloc (.cells #[.int .i64 4, .string S1, .int .i64 (p : Int)] 109)).rangeAt (wr.alloc (.cells #[.int .i64 4, .string S1, .int .i64 (p : Int)] 109)).heap.size 0 X.cells := by rw [HC.out]; exact (Row.new (wr.alloc (.cells #[.int .i64 4, .string S1, .int .i64 (p : Int)] 109)) 109 [.int .i64 4, .string S1, .int .i64 (p : Int)]).range
       have hfew : T.length <= 10000000 := by have := HR.out.few; omega
       clear hFs
       go_wp2_with (first | (refine load29g (by rfl) _ rfl wr.heap.size 0 _ _ _ rfl hrowF ?_) | (refine build29 rfl _ rfl X (by rw [HC.out]; rfl) ?_; rw [HC.out]) | (refine app29 rfl _ _ rfl rfl O3 hBs (wr.heap.size + 1) 1 X rfl hRg hfew ?_; intro v' w4 hown4 hb4) | (refine app29 rfl _ _ rfl rfl O3 hBs (wr.alloc (.cells #[.int .i64 4, .string S1, .int .i64 (p : Int)] 109)).heap.size 1 X rfl hRg2 hfew ?_; intro v' w4 hown4 hb4))
       have HB4 : Hid (Below w.heap.size w w4) := HB3.out.trans hb4
       have HO4 : Hid _ := HN.out v' w4 hown4 HB4.out
       clear O3 hRg hRg2 hb4 hown4 HB3 HN hrowF HBF
       refine (BB _).mono ?_
       rintro ev w5 ⟨rfl, hw5⟩
       replace hw5 := hw5.symm
       subst hw5
       generalize E + skp false (l.drop E) = q at *
       go_wp2_with fail
       go_roundw
       case rel => exact ⟨q, _, rfl, HO4.out⟩
       case measure => have := HS.out; simp [intOf]; omega
   ·rw [hA] at LT
    have RN := fun y => HRun.out p (by omega) y
    have hM := HM.out p (runL (l.drop p))
    have XW := fun y => xword_any ((l.drop p).take (runL (l.drop p))) y
    have XN := fun y => xname_any ((l.drop p).take (runL (l.drop p))) (by rw [List.length_take, List.length_drop]; omega) y
    have hr1 : 1 <= runL (l.drop p) := by rw [hdc]; exact run_pos (by unfold isNm; rw [hA]; rfl)
    obtain ⟨E, hE⟩ : ∃ E, p + runL (l.drop p) = E := ⟨_, rfl⟩
    obtain ⟨S1, hS1⟩ : ∃ S1, S1 = str ((l.drop p).take (runL (l.drop p))) := ⟨_, rfl⟩
    rw [hE] at RN hM
    rw [← hS1] at hM XW XN
    cases hw : isWord ((l.drop p).take (runL (l.drop p)))
    ·have ht0 := hw
     rw [hdc] at ht0
     have ht1 := tok_name hA ht0
     rw [← hdc] at ht1
     rw [hw] at XW
     cases hn : nameB ((l.drop p).take (runL (l.drop p)))
     ·rw [hn] at XN ht1
      have HP : Hid ((lexF l).2 = some p) := HR.out.stop h3 ht1
      generalize (l.getD p 0).toNat = x at *
      clear DG hdc hS1 HM HX HSg
      go_wp2_with fail
      refine (LT _).mono ?_
      rintro ev w2 ⟨rfl, hw2⟩
      replace hw2 := hw2.symm
      subst hw2
      go_wp2_with fail
      refine (RN _).mono ?_
      rintro ev w2 ⟨rfl, hw2⟩
      replace hw2 := hw2.symm
      subst hw2
      go_wp2_with fail
      refine (XW _).mono ?_
      rintro ev w2 ⟨rfl, hb2⟩
      have hrow : Row w2 wr.heap.size 109 [.int .i64 1, .string S1, .int .i64 (p : Int)] := (Row.new wr 109 [.int .i64 1, .string S1, .int .i64 (p : Int)]).below hb2 (by simp)
      have q1 : w2.cell? ⟨wr.heap.size, 1, none⟩ = some (.string S1) := hrow.cell 1
      have HB2 : Hid (Below wr.heap.size wr w2) := ((Below.refl _ _).alloc (Nat.le_refl _) _).trans (hb2.mono (by simp))
      clear hb2 hrow
      go_wp2_with fail
      refine (XN _).mono ?_
      rintro ev w3 ⟨rfl, hb3⟩
      have HB5 : Hid (Below w.heap.size w w3) := HR.out.below.trans ((nextB HB2.out hb3).mono HR.out.below.size)
      clear hb3
      go_wp2_with fail
      go_ret3
      exact ⟨_, _, _, rfl, .inr ⟨(lexF l).1, p, by rw [← HP.out], rfl, rfl, rfl⟩, HB5.out⟩
     ·rw [hn] at XN ht1
      have ht : tokF (l.drop p) = some (1, runL (l.drop p)) := ht1
      obtain ⟨X, hX⟩ : ∃ X : Tok, X = ⟨1, textOf 1 ((l.drop p).take (runL (l.drop p))), p⟩ := ⟨_, rfl⟩
      have HN : Hid (∀ v' w', w'.ownsRow w.heap.size 109 3 v' (T ++ [X]).length (tvs (T ++ [X])) -> Below w.heap.size w w' -> LRel l w (E + skp false (l.drop E)) (T ++ [X]) v' w') := by
       intro v' w' a b
       rw [hX] at a ⊢
       have := HR.out.next h3 ht (v' := v') (w' := w')
       rw [hE] at this
       exact this a b
      have HC : Hid (X.cells = [.int .i64 1, .string S1, .int .i64 (p : Int)]) := by rw [hX]; subst hS1; rfl
      have BB := fun y => HB.out E (by omega) y
      have HS : Hid (p < E + skp false (l.drop E) /\ E + skp false (l.drop E) <= l.length) := by
       have hs := skp_le false (l.drop E)
       rw [List.length_drop] at hs
       show _ /\ _
       omega
      clear hX
      generalize (l.getD p 0).toNat = x at *
      clear DG hdc hS1 HM HX HSg
      go_wp2_with fail
      refine (LT _).mono ?_
      rintro ev w2 ⟨rfl, hw2⟩
      replace hw2 := hw2.symm
      subst hw2
      go_wp2_with fail
      refine (RN _).mono ?_
      rintro ev w2 ⟨rfl, hw2⟩
      replace hw2 := hw2.symm
      subst hw2
      go_wp2_with fail
      refine (XW _).mono ?_
      rintro ev w2 ⟨rfl, hb2⟩
      have hrow : Row w2 wr.heap.size 109 [.int .i64 1, .string S1, .int .i64 (p : Int)] := (Row.new wr 109 [.int .i64 1, .string S1, .int .i64 (p : Int)]).below hb2 (by simp)
      have q1 : w2.cell? ⟨wr.heap.size, 1, none⟩ = some (.string S1) := hrow.cell 1
      have HB2 : Hid (Below wr.heap.size wr w2) := ((Below.refl _ _).alloc (Nat.le_refl _) _).trans (hb2.mono (by simp))
      clear hb2
      go_wp2_with fail
      refine (XN _).mono ?_
      rintro ev w3 ⟨rfl, hb3⟩
      have hrow3 := hrow.below hb3 hrow.lt
      clear hrow q1 XW XN RN LT
      have HBF : Hid (Below wr.heap.size wr (w3)) := nextB HB2.out hb3
      have hrowF : (w3).rangeAt wr.heap.size 0 [.int .i64 1, .string S1, .int .i64 (p : Int)] := hrow3.range
      have O3 : ((w3).alloc (.cells #[.int .i64 1, .string S1, .int .i64 (p : Int)] 109)).ownsRow w.heap.size 109 3 _ T.length (tvs T) := own_past' HR.out.own (HBF.out.alloc HBF.out.size _)
      have HB3 : Hid (Below w.heap.size w ((w3).alloc (.cells #[.int .i64 1, .string S1, .int .i64 (p : Int)] 109))) := (HR.out.below.trans (HBF.out.mono HR.out.below.size)).alloc (Nat.le_trans HR.out.below.size HBF.out.size) _
      have hBs := HB3.out.size
      have hFs : (w3).heap.size = w3.heap.size := by simp
      have hRg : ((w3).alloc (.cells #[.int .i64 1, .string S1, .int .i64 (p : Int)] 109)).rangeAt (w3.heap.size) 0 X.cells := by rw [HC.out, ← hFs]; exact (Row.new (w3) 109 [.int .i64 1, .string S1, .int .i64 (p : Int)]).range
      have hRg2 : ((w3).alloc (.cells #[.int .i64 1, .string S1, .int .i64 (p : Int)] 109)).rangeAt (w3).heap.size 0 X.cells := by rw [HC.out]; exact (Row.new (w3) 109 [.int .i64 1, .string S1, .int .i64 (p : Int)]).range
      have hfew : T.length <= 10000000 := by have := HR.out.few; omega
      clear hFs
      go_wp2_with (first | (refine load29g (by rfl) _ rfl wr.heap.size 0 _ _ _ rfl hrowF ?_) | (refine build29 rfl _ rfl X (by rw [HC.out]; rfl) ?_; rw [HC.out]) | (refine app29 rfl _ _ rfl rfl O3 hBs (w3.heap.size) 1 X rfl hRg hfew ?_; intro v' w4 hown4 hb4) | (refine app29 rfl _ _ rfl rfl O3 hBs (w3).heap.size 1 X rfl hRg2 hfew ?_; intro v' w4 hown4 hb4))
      have HB4 : Hid (Below w.heap.size w w4) := HB3.out.trans hb4
      have HO4 : Hid _ := HN.out v' w4 hown4 HB4.out
      clear O3 hRg hRg2 hb4 hown4 HB3 HN hrowF HBF
      refine (BB _).mono ?_
      rintro ev w5 ⟨rfl, hw5⟩
      replace hw5 := hw5.symm
      subst hw5
      generalize E + skp false (l.drop E) = q at *
      go_wp2_with fail
      go_roundw
      case rel => exact ⟨q, _, rfl, HO4.out⟩
      case measure => have := HS.out; simp [intOf]; omega
    ·have ht0 := hw
     rw [hdc] at ht0
     have ht := tok_word hA ht0
     rw [← hdc] at ht
     rw [hw] at XW
     obtain ⟨X, hX⟩ : ∃ X : Tok, X = ⟨2, textOf 2 ((l.drop p).take (runL (l.drop p))), p⟩ := ⟨_, rfl⟩
     have HN : Hid (∀ v' w', w'.ownsRow w.heap.size 109 3 v' (T ++ [X]).length (tvs (T ++ [X])) -> Below w.heap.size w w' -> LRel l w (E + skp false (l.drop E)) (T ++ [X]) v' w') := by
      intro v' w' a b
      rw [hX] at a ⊢
      have := HR.out.next h3 ht (v' := v') (w' := w')
      rw [hE] at this
      exact this a b
     have HC : Hid (X.cells = [.int .i64 2, .string S1, .int .i64 (p : Int)]) := by rw [hX]; subst hS1; rfl
     have BB := fun y => HB.out E (by omega) y
     have HS : Hid (p < E + skp false (l.drop E) /\ E + skp false (l.drop E) <= l.length) := by
      have hs := skp_le false (l.drop E)
      rw [List.length_drop] at hs
      show _ /\ _
      omega
     clear hX
     generalize (l.getD p 0).toNat = x at *
     clear DG hdc hS1 HM HX HSg
     go_wp2_with fail
     refine (LT _).mono ?_
     rintro ev w2 ⟨rfl, hw2⟩
     replace hw2 := hw2.symm
     subst hw2
     go_wp2_with fail
     refine (RN _).mono ?_
     rintro ev w2 ⟨rfl, hw2⟩
     replace hw2 := hw2.symm
     subst hw2
     go_wp2_with fail
     refine (XW _).mono ?_
     rintro ev w2 ⟨rfl, hb2⟩
     have hrow : Row w2 wr.heap.size 109 [.int .i64 1, .string S1, .int .i64 (p : Int)] := (Row.new wr 109 [.int .i64 1, .string S1, .int .i64 (p : Int)]).below hb2 (by simp)
     have q0 : w2.cell? ⟨wr.heap.size, 0, none⟩ = some (.int .i64 1) := hrow.cell 0
     have f0 := hrow.fz 0
     have hrow3 : Row (w2.setCell ⟨wr.heap.size, 0, none⟩ (.int .i64 2)) wr.heap.size 109 [.int .i64 2, .string S1, .int .i64 (p : Int)] := hrow.set 0 (.int .i64 2)
     have HB2 : Hid (Below wr.heap.size wr w2) := ((Below.refl _ _).alloc (Nat.le_refl _) _).trans (hb2.mono (by simp))
     clear hb2 hrow XW XN RN LT
     have HBF : Hid (Below wr.heap.size wr (w2.setCell ⟨wr.heap.size, 0, none⟩ (.int .i64 2))) := HB2.out.setCell (p := ⟨wr.heap.size, 0, none⟩) (Nat.le_refl _) _
     have hrowF : (w2.setCell ⟨wr.heap.size, 0, none⟩ (.int .i64 2)).rangeAt wr.heap.size 0 [.int .i64 2, .string S1, .int .i64 (p : Int)] := hrow3.range
     have O3 : ((w2.setCell ⟨wr.heap.size, 0, none⟩ (.int .i64 2)).alloc (.cells #[.int .i64 2, .string S1, .int .i64 (p : Int)] 109)).ownsRow w.heap.size 109 3 _ T.length (tvs T) := own_past' HR.out.own (HBF.out.alloc HBF.out.size _)
     have HB3 : Hid (Below w.heap.size w ((w2.setCell ⟨wr.heap.size, 0, none⟩ (.int .i64 2)).alloc (.cells #[.int .i64 2, .string S1, .int .i64 (p : Int)] 109))) := (HR.out.below.trans (HBF.out.mono HR.out.below.size)).alloc (Nat.le_trans HR.out.below.size HBF.out.size) _
     have hBs := HB3.out.size
     have hFs : (w2.setCell ⟨wr.heap.size, 0, none⟩ (.int .i64 2)).heap.size = w2.heap.size := by simp
     have hRg : ((w2.setCell ⟨wr.heap.size, 0, none⟩ (.int .i64 2)).alloc (.cells #[.int .i64 2, .string S1, .int .i64 (p : Int)] 109)).rangeAt (w2.heap.size) 0 X.cells := by rw [HC.out, ← hFs]; exact (Row.new (w2.setCell ⟨wr.heap.size, 0, none⟩ (.int .i64 2)) 109 [.int .i64 2, .string S1, .int .i64 (p : Int)]).range
     have hRg2 : ((w2.setCell ⟨wr.heap.size, 0, none⟩ (.int .i64 2)).alloc (.cells #[.int .i64 2, .string S1, .int .i64 (p : Int)] 109)).rangeAt (w2.setCell ⟨wr.heap.size, 0, none⟩ (.int .i64 2)).heap.size 0 X.cells := by rw [HC.out]; exact (Row.new (w2.setCell ⟨wr.heap.size, 0, none⟩ (.int .i64 2)) 109 [.int .i64 2, .string S1, .int .i64 (p : Int)]).range
     have hfew : T.length <= 10000000 := by have := HR.out.few; omega
     clear hFs
     go_wp2_with (first | (refine load29g (by rfl) _ rfl wr.heap.size 0 _ _ _ rfl hrowF ?_) | (refine build29 rfl _ rfl X (by rw [HC.out]; rfl) ?_; rw [HC.out]) | (refine app29 rfl _ _ rfl rfl O3 hBs (w2.heap.size) 1 X rfl hRg hfew ?_; intro v' w4 hown4 hb4) | (refine app29 rfl _ _ rfl rfl O3 hBs (w2.setCell ⟨wr.heap.size, 0, none⟩ (.int .i64 2)).heap.size 1 X rfl hRg2 hfew ?_; intro v' w4 hown4 hb4))
     have HB4 : Hid (Below w.heap.size w w4) := HB3.out.trans hb4
     have HO4 : Hid _ := HN.out v' w4 hown4 HB4.out
     clear O3 hRg hRg2 hb4 hown4 HB3 HN hrowF HBF
     refine (BB _).mono ?_
     rintro ev w5 ⟨rfl, hw5⟩
     replace hw5 := hw5.symm
     subst hw5
     generalize E + skp false (l.drop E) = q at *
     go_wp2_with fail
     go_roundw
     case rel => exact ⟨q, _, rfl, HO4.out⟩
     case measure => have := HS.out; simp [intOf]; omega
  ·obtain rfl : p = l.length := by omega
   have HP : Hid (lexF l = (T ++ [endTok l.length], none)) := by
    have := hR.eq
    simp only [List.drop_length, lxr] at this
    exact this
   have O3 : (wr.alloc (.cells (endTok l.length).cells.toArray 109)).ownsRow w.heap.size 109 3 _ T.length (tvs T) := own_past' hR.own ((Below.refl _ _).alloc (Nat.le_refl _) _)
   have HB3 : Hid (Below w.heap.size w (wr.alloc (.cells (endTok l.length).cells.toArray 109))) := hR.below.alloc hR.below.size _
   have hBs := HB3.out.size
   have hRg : (wr.alloc (.cells (endTok l.length).cells.toArray 109)).rangeAt wr.heap.size 0 (endTok l.length).cells := (Row.new wr 109 _).range
   have hfew : T.length <= 10000000 := by have := hR.few; omega
   clear hR HR HB HRun HSg HM HX
   go_wp2_with (first | (refine build29 rfl _ rfl (endTok l.length) rfl ?_) | (refine app29 rfl _ _ rfl rfl O3 hBs wr.heap.size 1 (endTok l.length) rfl hRg hfew ?_; intro v' w4 hown4 hb4))
   go_ret3
   exact ⟨_, _, _, rfl, .inl ⟨_, HP.out, rfl, rfl, Ts.ofOwn hown4⟩, HB3.out.trans hb4⟩
end Go.Proofs.YtldbbkheemnnhaaGreatDoor
