/-
  The texts Ypa, Lmt, Rin, joined.
-/
import Derived.Test.YtldbbkheemnnhaaGreatDoorQpYty
import Derived.Test.YtldbbkheemnnhaaGreatDoorJpMat4
import Derived.Orders
namespace Go.Proofs.YtldbbkheemnnhaaGreatDoor
open Go.RowKit
def fldB (m : Bool) (x : Fld) : Prop := (x.mu = true -> m = true) /\ MayPar x
set_option maxHeartbeats 8000000 in
set_option maxRecDepth 20000 in
theorem xparts_any {K : Ctx} {w : World} (he : Env K w) {v : Value} {l : List Fld} (hx : Ar 6 96 (FldAt K w) K w v l) (m : Bool) (B : Bool) (hB : B = true ↔ l.length <= 64 /\ ∀ x ∈ l, fldB m x) :
  Calls Tryz.prog 108 #[v, .bool m] w fun ev w' => ev = .returned (.bool B) /\ Below w.heap.size w w' := by
 obtain ⟨ao, cap, rfl, hc1, hb1, hA1⟩ := id hx.shape
 have HK : ∀ W, Below w.heap.size w W -> Below K.C w W := fun W hb => below_le hb he.C
 have HE : Hid (∀ i (h : i < l.length), ∃ (b o : Nat) (c2 c3 c4 c5 : Value), ao = some ⟨b, o, none⟩ /\ (∀ W, Below w.heap.size w W -> W.cell? ⟨b, o + i * 6, none⟩ = some (.bool l[i].mu) /\ W.cell? ⟨b, o + i * 6 + 1, none⟩ = some (.string (str l[i].name)) /\ W.cell? ⟨b, o + i * 6 + 2, none⟩ = some c2 /\ W.cell? ⟨b, o + i * 6 + 2 + 1, none⟩ = some c3 /\ W.cell? ⟨b, o + i * 6 + 2 + 2, none⟩ = some c4 /\ W.cell? ⟨b, o + i * 6 + 2 + 3, none⟩ = some c5) /\
   (∀ W, Below w.heap.size w W -> Calls Tryz.prog 65 #[.string (str l[i].name)] W fun ev w' => ev = .returned (.bool (nameB l[i].name)) /\ Below w.heap.size w w') /\
   ∀ W, Below w.heap.size w W -> ∀ (B : Bool), (B = true ↔ MayTy 64 l[i].ty) -> Calls Tryz.prog 142 #[.agg #[c2, c3, c4, c5], .int .i64 1] W fun ev w' => ev = .returned (.bool B) /\ Below w.heap.size w w') := by
  intro i h
  obtain ⟨b, o, e, hbC, cs, hl, hc, ts, rfl, hnl, N, hty⟩ := hA1 i h
  obtain ⟨c2, c3, c4, c5, rfl⟩ := list4 (l := ts) (by simpa using hl)
  refine ⟨b, o, c2, c3, c4, c5, e, fun W hb => ?_, fun W hb => ?_, fun W hb B hB => ?_⟩
  ·have f : ∀ j, j < 6 -> W.cell? ⟨b, o + i * 6 + j, none⟩ = [Value.bool l[i].mu, .string (str l[i].name), c2, c3, c4, c5][j]? := fun j hj => ((HK W hb).cell (p := ⟨b, o + i * 6 + j, none⟩) hbC).trans (hc j hj)
   exact ⟨f 0 (by decide), f 1 (by decide), f 2 (by decide), f 3 (by decide), f 4 (by decide), f 5 (by decide)⟩
  ·refine (xname_any l[i].name (by have := he.B; omega) W).mono ?_
   rintro _ _ ⟨rfl, h⟩
   exact ⟨rfl, hb.trans (below_le h hb.size)⟩
  ·refine (xty_any 64 (he.below (HK W hb)) (d := 1) (by omega) (hty.below (HK W hb)) B hB).mono ?_
   rintro _ _ ⟨rfl, h⟩
   exact ⟨rfl, hb.trans (below_le h hb.size)⟩
 have HT : Hid ((∀ j (h : j < l.length), j < 65 -> fldB m l[j]) -> B = decide (l.length <= 64)) := by
  intro h
  refine Bool.eq_iff_iff.2 (hB.trans ?_)
  rw [decide_eq_true_eq]
  refine ⟨fun h => h.1, fun h64 => ⟨h64, fun y hy => ?_⟩⟩
  obtain ⟨j, hj, rfl⟩ := List.getElem_of_mem hy
  exact h j hj (by omega)
 have HF : Hid (∀ j (h : j < l.length), ¬ fldB m l[j] -> B = false) := fun j h hj => bool_false hB fun hm => hj (hm.2 _ (List.getElem_mem h))
 have hl9 : l.length <= 9223372036854775807 := by omega
 clear hB hA1 HK hx he hc1 hb1
 go_enter Tryz.func108, Tryz.ntmps108
 go_wp2_with fail
 go_loopw [5] (fun i wr => ∃ k : Nat, k <= l.length /\ k <= 65 /\ i = .int .i64 k /\ (∀ j (h : j < l.length), j < k -> fldB m l[j]) /\ Below w.heap.size w wr) (fun i _ => l.length - (intOf i).toNat)
 case atStart => exact ⟨0, by omega, by omega, rfl, fun j _ h => by omega, Below.refl _ _⟩
 case round =>
  obtain ⟨k, hk, hk5, rfl, hj, hbw⟩ := hrel
  have HJ := hid hj
  have HBW := hid hbw
  clear hj hbw
  by_cases h3 : k < l.length
  ·have i1 : (k : Int) < (l.length : Int) := by omega
   by_cases h5 : k < 65
   ·have i2 : (k : Int) < 65 := by omega
    obtain ⟨b, o, c2, c3, c4, c5, rfl, hcell, hc26, hc58⟩ := HE.out k h3
    obtain ⟨g0, g1, -, -, -, -⟩ := hcell wr HBW.out
    have HCE := hid hcell
    have HN := hid hc26
    have HY := hid hc58
    have HNX : Hid (fldB m l[k] -> ∀ j (h : j < l.length), j < k + 1 -> fldB m l[j]) := by
     intro hv j h hjk
     rcases Nat.lt_or_ge j k with h' | h'
     ·exact HJ.out j h h'
     ·obtain rfl : j = k := by omega
      exact hv
    have HFX := hid (HF.out k h3)
    clear hcell hc26 hc58 HE HF HT
    generalize l[k] = x at *
    by_cases e0 : x.mu = true /\ m = false
    ·have HFF := hid (HFX.out fun h => by have := h.1 e0.1; rw [e0.2] at this; cases this)
     obtain ⟨e1, rfl⟩ := e0
     rw [e1] at g0
     clear HNX HFX HN HY HCE e1
     generalize str x.name = S at *
     go_wp2_with fail
     go_ret
     exact ⟨by rw [HFF.out]; rfl, HBW.out⟩
    ·have HMU : Hid (x.mu = true -> m = true) := fun h => by
      cases m
      ·exact absurd ⟨h, rfl⟩ e0
      ·rfl
     have HP : Hid (fldB m x ↔ nameB x.name = true /\ MayTy 64 x.ty) := ⟨fun h => h.2, fun h => ⟨HMU.out, h⟩⟩
     have hmu : x.mu = false ∨ x.mu = true /\ m = true := by
      cases hh : x.mu
      ·exact .inl rfl
      ·exact .inr ⟨rfl, HMU.out hh⟩
     clear HMU e0
     cases hv : nameB x.name
     ·have HFF := hid (HFX.out fun h => by have := (HP.out.1 h).1; rw [hv] at this; cases this)
      rw [hv] at HN
      clear HNX HFX HY hv HP
      generalize str x.name = S at *
      rcases hmu with e1 | ⟨e1, rfl⟩ <;> rw [e1] at g0 <;> clear e1
      ·go_wp2_with fail
       refine (HN.out _ HBW.out).mono ?_
       rintro _ W1 ⟨rfl, hb1⟩
       go_wp2_with fail
       go_ret
       exact ⟨by rw [HFF.out]; rfl, hb1⟩
      ·go_wp2_with fail
       refine (HN.out _ HBW.out).mono ?_
       rintro _ W1 ⟨rfl, hb1⟩
       go_wp2_with fail
       go_ret
       exact ⟨by rw [HFF.out]; rfl, hb1⟩
     ·rw [hv] at HN
      by_cases ht : MayTy 64 x.ty
      ·have HJ' := hid (HNX.out (HP.out.2 ⟨hv, ht⟩))
       have HYY := hid fun W hb => HY.out W hb true ⟨fun _ => ht, fun _ => rfl⟩
       clear HNX HFX HY hv HP ht
       generalize str x.name = S at *
       rcases hmu with e1 | ⟨e1, rfl⟩ <;> rw [e1] at g0 <;> clear e1
       ·go_wp2_with fail
        refine (HN.out _ HBW.out).mono ?_
        rintro _ W1 ⟨rfl, hb1⟩
        obtain ⟨-, -, g2, g3, g4, g5⟩ := HCE.out W1 hb1
        go_wp2_with fail
        refine (HYY.out _ hb1).mono ?_
        rintro _ W2 ⟨rfl, hb2⟩
        go_wp2_with fail
        go_roundw
        case rel => exact ⟨k + 1, by omega, by omega, by go_num, HJ'.out, hb2⟩
        case measure => simp [intOf]; omega
       ·go_wp2_with fail
        refine (HN.out _ HBW.out).mono ?_
        rintro _ W1 ⟨rfl, hb1⟩
        obtain ⟨-, -, g2, g3, g4, g5⟩ := HCE.out W1 hb1
        go_wp2_with fail
        refine (HYY.out _ hb1).mono ?_
        rintro _ W2 ⟨rfl, hb2⟩
        go_wp2_with fail
        go_roundw
        case rel => exact ⟨k + 1, by omega, by omega, by go_num, HJ'.out, hb2⟩
        case measure => simp [intOf]; omega
      ·have HFF := hid (HFX.out fun h => ht (HP.out.1 h).2)
       have HYY := hid fun W hb => HY.out W hb false ⟨fun h => (by cases h), fun h => absurd h ht⟩
       clear HNX HFX HY hv HP ht
       generalize str x.name = S at *
       rcases hmu with e1 | ⟨e1, rfl⟩ <;> rw [e1] at g0 <;> clear e1
       ·go_wp2_with fail
        refine (HN.out _ HBW.out).mono ?_
        rintro _ W1 ⟨rfl, hb1⟩
        obtain ⟨-, -, g2, g3, g4, g5⟩ := HCE.out W1 hb1
        go_wp2_with fail
        refine (HYY.out _ hb1).mono ?_
        rintro _ W2 ⟨rfl, hb2⟩
        go_wp2_with fail
        go_ret
        exact ⟨by rw [HFF.out]; rfl, hb2⟩
       ·go_wp2_with fail
        refine (HN.out _ HBW.out).mono ?_
        rintro _ W1 ⟨rfl, hb1⟩
        obtain ⟨-, -, g2, g3, g4, g5⟩ := HCE.out W1 hb1
        go_wp2_with fail
        refine (HYY.out _ hb1).mono ?_
        rintro _ W2 ⟨rfl, hb2⟩
        go_wp2_with fail
        go_ret
        exact ⟨by rw [HFF.out]; rfl, hb2⟩
   ·have i2 : ¬ (k : Int) < 65 := by omega
    have i3 : ¬ (l.length : Int) <= 64 := by omega
    have HFF := hid (HT.out fun j h h' => HJ.out j h (by omega))
    rw [decide_eq_false (show ¬ l.length <= 64 by omega)] at HFF
    clear HE HF HT
    go_wp2_with fail
    go_ret
    exact ⟨by rw [HFF.out]; first | rfl | exact congrArg (fun b => Ending.returned (.bool b)) (decide_eq_false (by omega)), HBW.out⟩
  ·have i1 : ¬ (k : Int) < (l.length : Int) := by omega
   have HFF := hid (HT.out fun j h h' => HJ.out j h (by omega))
   clear HE HF HT
   go_wp2_with fail
   go_ret
   exact ⟨by rw [HFF.out]; exact congrArg (fun b => Ending.returned (.bool b)) (decide_eq_decide.2 (by omega)), HBW.out⟩
end Go.Proofs.YtldbbkheemnnhaaGreatDoor

namespace Go.Proofs.YtldbbkheemnnhaaGreatDoor
def skp : Bool -> List UInt8 -> Nat
 | _, [] => 0
 | true, c :: t => 1 + skp (!decide (c.toNat = 10)) t
 | false, c :: t => if isBl c then 1 + skp false t else if decide (c.toNat = 47) && (t.head? == some 47) then 1 + skp true t else 0
theorem skp_le : ∀ (m : Bool) (l : List UInt8), skp m l <= l.length
 | _, [] => by simp [skp]
 | true, c :: t => by have := skp_le (!decide (c.toNat = 10)) t; simp only [skp, List.length_cons]; omega
 | false, c :: t => by
  have h1 := skp_le false t
  have h2 := skp_le true t
  simp only [skp, List.length_cons]
  split
  ·omega
  ·split <;> omega
def numV (l : List UInt8) : Nat := l.foldl (fun n c => n * 10 + (c.toNat - 48)) 0
def isNum (l : List UInt8) : Bool := decide (1 <= l.length) && decide (l.length <= 10) && (decide (l.length <= 1) || !(l.head? == some 48)) && l.all isDg && decide (numV l <= 2147483647)
def signs1 : List UInt8 := [40, 41, 123, 125, 60, 62, 44, 59, 58, 46, 42, 38, 43, 45, 61, 33]
def signs2 : List (List UInt8) := [[58, 58], [45, 62], [61, 61]]
def signF (l : List UInt8) : Nat := if signs2.contains (l.take 2) then 2 else match l with | [] => 0 | c :: _ => if signs1.contains c then 1 else 0
def isLife (l : List UInt8) : Bool := decide (l.length <= 32) && (match l with | [] => false | c :: _ => isLt c)
def tokF (l : List UInt8) : Option (Nat × Nat) :=
 match l with
 | [] => none
 | c :: t =>
  if isLt c then if isWord (l.take (runL l)) then some (2, runL l) else if runL l <= 32 then some (1, runL l) else none
  else if c.toNat = 39 then if isLife (t.take (runL t)) then some (3, runL t + 1) else none
  else if isDg c then if isNum (l.take (runL l)) then some (4, runL l) else none
  else if signF l = 0 then none else some (5, signF l)
structure Tok where
 kind : Nat
 text : List UInt8
 place : Nat
def textOf (k : Nat) (l : List UInt8) : List UInt8 := if k = 3 then l.drop 1 else l
def endTok (p : Nat) : Tok := ⟨0, [], p⟩
def lxr : Nat -> Nat -> List UInt8 -> List Tok × Option Nat
 | 0, p, _ => ([], some p)
 | _ + 1, p, [] => ([endTok p], none)
 | f + 1, p, c :: t =>
  match tokF (c :: t) with
  | none => ([], some p)
  | some (k, n) =>
   (⟨k, textOf k ((c :: t).take n), p⟩ :: (lxr f (p + n + skp false ((c :: t).drop n)) (((c :: t).drop n).drop (skp false ((c :: t).drop n)))).1,
    (lxr f (p + n + skp false ((c :: t).drop n)) (((c :: t).drop n).drop (skp false ((c :: t).drop n)))).2)
def lxs (f p : Nat) (l : List UInt8) : List Tok × Option Nat := lxr f (p + skp false l) (l.drop (skp false l))
def lexF (l : List UInt8) : List Tok × Option Nat := lxs (l.length + 1) 0 l
theorem lxr_cons (f p : Nat) (c : UInt8) (t : List UInt8) (k n : Nat) (h : tokF (c :: t) = some (k, n)) :
  lxr (f + 1) p (c :: t) = (⟨k, textOf k ((c :: t).take n), p⟩ :: (lxs f (p + n) ((c :: t).drop n)).1, (lxs f (p + n) ((c :: t).drop n)).2) := by
 simp only [lxr, h, lxs]
theorem lxr_none (f p : Nat) (c : UInt8) (t : List UInt8) (h : tokF (c :: t) = none) : lxr (f + 1) p (c :: t) = ([], some p) := by
 simp only [lxr, h]
theorem signF_le (l : List UInt8) : signF l <= l.length /\ signF l <= 2 := by
 unfold signF
 split
 ·rename_i h
  simp only [signs2, List.contains_eq_mem, List.mem_cons, List.not_mem_nil, decide_eq_true_eq, or_false] at h
  have : (l.take 2).length = 2 := by rcases h with h | h | h <;> rw [h] <;> rfl
  simp at this
  omega
 ·split
  ·simp
  ·split <;> simp
theorem tokF_le {l : List UInt8} {k n : Nat} (h : tokF l = some (k, n)) : 1 <= n /\ n <= l.length := by
 unfold tokF at h
 split at h
 ·cases h
 ·rename_i c t
  have hr := runL_le (c :: t)
  have hrt := runL_le t
  split at h
  ·rename_i hl
   have : 1 <= runL (c :: t) := by simp [runL, isNm, hl]
   split at h
   ·cases h; omega
   ·split at h
    ·cases h; omega
    ·cases h
  ·split at h
   ·split at h
    ·cases h; simp; omega
    ·cases h
   ·split at h
    ·rename_i hd
     have : 1 <= runL (c :: t) := by simp [runL, isNm, hd]
     split at h
     ·cases h; omega
     ·cases h
    ·split at h
     ·cases h
     ·have := signF_le (c :: t)
      cases h; omega
theorem lxr_fuel : ∀ (f g p : Nat) (l : List UInt8), l.length < f -> l.length < g -> lxr f p l = lxr g p l
 | 0, _, _, _, h, _ => by omega
 | _, 0, _, _, _, h => by omega
 | f + 1, g + 1, p, [], _, _ => rfl
 | f + 1, g + 1, p, c :: t, h1, h2 => by
  cases h : tokF (c :: t) with
  | none => rw [lxr_none _ _ _ _ h, lxr_none _ _ _ _ h]
  | some kn =>
   obtain ⟨k, n⟩ := kn
   rw [lxr_cons _ _ _ _ _ _ h, lxr_cons _ _ _ _ _ _ h]
   have := tokF_le h
   simp only [List.length_cons] at h1 h2 this
   have e : lxs f (p + n) ((c :: t).drop n) = lxs g (p + n) ((c :: t).drop n) := by
    unfold lxs
    refine lxr_fuel f g _ _ ?_ ?_ <;> (simp only [List.length_drop, List.length_cons]; omega)
   rw [e]
theorem lxr_step (s : List UInt8) (p : Nat) (k n : Nat) (hp : p < s.length) (h : tokF (s.drop p) = some (k, n)) :
  lxr (s.length - p + 1) p (s.drop p) = (⟨k, textOf k ((s.drop p).take n), p⟩ :: (lxr (s.length - (p + n + skp false (s.drop (p + n))) + 1) (p + n + skp false (s.drop (p + n))) (s.drop (p + n + skp false (s.drop (p + n))))).1,
   (lxr (s.length - (p + n + skp false (s.drop (p + n))) + 1) (p + n + skp false (s.drop (p + n))) (s.drop (p + n + skp false (s.drop (p + n))))).2) := by
 have hl := tokF_le h
 obtain ⟨c, t, hd⟩ : ∃ c t, s.drop p = c :: t := by
  cases hd : s.drop p with
  | nil => rw [hd] at h; simp [tokF] at h
  | cons c t => exact ⟨c, t, rfl⟩
 have hlen : (c :: t).length = s.length - p := by rw [← hd]; simp
 have hdd : (c :: t).drop n = s.drop (p + n) := by rw [← hd, List.drop_drop]
 rw [hd] at h ⊢
 rw [lxr_cons _ _ _ _ _ _ h, hdd]
 have e : lxs (s.length - p) (p + n) (s.drop (p + n)) = lxr (s.length - (p + n + skp false (s.drop (p + n))) + 1) (p + n + skp false (s.drop (p + n))) (s.drop (p + n + skp false (s.drop (p + n)))) := by
  unfold lxs
  rw [List.drop_drop]
  refine lxr_fuel _ _ _ _ ?_ ?_
  ·simp only [List.length_drop]
   simp only [List.length_drop] at hl
   omega
  ·simp only [List.length_drop]; omega
 rw [e]
theorem lexF_start (s : List UInt8) : lexF s = lxr (s.length - skp false s + 1) (skp false s) (s.drop (skp false s)) := by
 unfold lexF lxs
 rw [Nat.zero_add]
 refine lxr_fuel _ _ _ _ ?_ ?_ <;> (simp only [List.length_drop]; omega)
end Go.Proofs.YtldbbkheemnnhaaGreatDoor

namespace Go.Proofs.YtldbbkheemnnhaaGreatDoor
open Go.RowKit
section
variable {P : Program} {ops : Array Oper} {Q : Exit -> Act -> World -> Prop} {md : Region.Mode}
end
end Go.Proofs.YtldbbkheemnnhaaGreatDoor
