/-
  Parse: the program's.
-/
import Derived.Test.YtnfiecafkapgmaaErr
import Derived.Test.YtnfiecafkapgmaaHex
namespace Go.Proofs.Ytnfiecafkapgmaa
open Go.RowKit

/-- Is a byte a digit, and which? -/
def isDig (c : UInt8) : Bool := (decide (48 ≤ c.toNat) && decide (c.toNat ≤ 57)) || (decide (97 ≤ c.toNat) && decide (c.toNat ≤ 102))
def dv (c : UInt8) : Nat := if 48 ≤ c.toNat ∧ c.toNat ≤ 57 then c.toNat - 48 else if 97 ≤ c.toNat ∧ c.toNat ≤ 102 then c.toNat - 87 else 0
theorem dv_lt (c : UInt8) : dv c < 16 := by unfold dv; split <;> (try split) <;> omega

set_option maxHeartbeats 1000000 in
theorem digit_any (c : UInt8) (w : World) : Calls Try.prog 23 #[.int .u8 (c.toNat : Int)] w fun ev w' => ev = .returned (.tuple #[.int .u8 (dv c : Int), .bool (isDig c)]) ∧ w' = w := by
  have hc := c.toNat_lt
  have HD : Hid (dv c = if 48 ≤ c.toNat ∧ c.toNat ≤ 57 then c.toNat - 48 else if 97 ≤ c.toNat ∧ c.toNat ≤ 102 then c.toNat - 87 else 0) := rfl
  have HI : Hid (isDig c = ((decide (48 ≤ c.toNat) && decide (c.toNat ≤ 57)) || (decide (97 ≤ c.toNat) && decide (c.toNat ≤ 102)))) := rfl
  generalize isDig c = I at *
  generalize dv c = D at *
  generalize c.toNat = n at *
  by_cases h1 : 48 ≤ n ∧ n ≤ 57
  · obtain ⟨h1a, h1b⟩ := h1
    obtain ⟨rfl, rfl⟩ : D = n - 48 ∧ I = true := ⟨by rw [HD.out, if_pos ⟨h1a, h1b⟩], by rw [HI.out]; simp [h1a, h1b]⟩
    clear HD HI
    go_enter Try.func23, Try.ntmps23
    go_wp2_with fail
    go_ret2
    refine ⟨?_, rfl⟩
    simp
    omega
  · by_cases h2 : 97 ≤ n ∧ n ≤ 102
    · obtain ⟨h2a, h2b⟩ := h2
      obtain ⟨rfl, rfl⟩ : D = n - 87 ∧ I = true := ⟨by rw [HD.out, if_neg h1, if_pos ⟨h2a, h2b⟩], by rw [HI.out]; simp [h2a, h2b]⟩
      have h3 : ¬ n ≤ 57 := by omega
      have h4 : 48 ≤ n := by omega
      clear HD HI h1
      go_enter Try.func23, Try.ntmps23
      go_wp2_with fail
      go_ret2
      refine ⟨?_, rfl⟩
      simp
      omega
    · obtain ⟨rfl, rfl⟩ : D = 0 ∧ I = false := ⟨by rw [HD.out, if_neg h1, if_neg h2], by rw [HI.out]; simp; omega⟩
      clear HD HI
      by_cases h5 : 48 ≤ n
      · have h6 : ¬ n ≤ 57 := fun h => h1 ⟨h5, h⟩
        by_cases h7 : 97 ≤ n
        · have h8 : ¬ n ≤ 102 := fun h => h2 ⟨h7, h⟩
          clear h1 h2
          go_enter Try.func23, Try.ntmps23
          go_wp2_with fail
          go_ret2
          exact ⟨rfl, rfl⟩
        · clear h1 h2
          go_enter Try.func23, Try.ntmps23
          go_wp2_with fail
          go_ret2
          exact ⟨rfl, rfl⟩
      · have h7 : ¬ 97 ≤ n := by omega
        clear h1 h2
        go_enter Try.func23, Try.ntmps23
        go_wp2_with fail
        go_ret2
        exact ⟨rfl, rfl⟩

/-- How many digits a text opens with, of n at most. -/
def good : Nat → List UInt8 → Nat
  | 0, _ => 0
  | _ + 1, [] => 0
  | n + 1, c :: t => if isDig c then good n t + 1 else 0
theorem good_le : ∀ (n : Nat) (l : List UInt8), good n l ≤ n ∧ good n l ≤ l.length
  | 0, _ => by simp [good]
  | _ + 1, [] => by simp [good]
  | n + 1, c :: t => by
    have := good_le n t
    unfold good
    split <;> simp <;> omega
theorem good_stop : ∀ (n : Nat) (l : List UInt8) (k : Nat), k ≤ good n l → k < n → (k = l.length ∨ isDig (l.getD k 0) = false) → good n l = k
  | 0, _, k, _, h, _ => by omega
  | _ + 1, [], k, h, _, _ => by simp [good] at h ⊢; omega
  | n + 1, c :: t, 0, _, _, h => by
    rcases h with h | h
    · simp at h
    · have : isDig c = false := h
      simp [good, this]
  | n + 1, c :: t, k + 1, h, hk, hs => by
    unfold good at h ⊢
    split at h
    · rename_i hd
      rw [if_pos hd]
      have := good_stop n t k (by omega) (by omega) (by
        rcases hs with hs | hs
        · left; simpa using hs
        · right; exact hs)
      omega
    · omega
theorem good_go : ∀ (n : Nat) (l : List UInt8) (k : Nat), k ≤ good n l → k < n → k < l.length → isDig (l.getD k 0) = true → k + 1 ≤ good n l
  | 0, _, k, _, h, _, _ => by omega
  | _ + 1, [], k, _, _, h, _ => by simp at h
  | n + 1, c :: t, 0, _, _, _, h => by
    have : isDig c = true := h
    simp [good, this]
  | n + 1, c :: t, k + 1, h, hk, hl, hd => by
    unfold good at h ⊢
    split at h
    · rename_i hc
      rw [if_pos hc]
      have := good_go n t k (by omega) (by omega) (by simpa using hl) hd
      omega
    · omega

def orB (x : UInt8) (v : Nat) : UInt8 := UInt8.ofNat ((x.toNat * 16 % 256) ||| v)
theorem orB_nat (x : UInt8) (v : Nat) (hv : v < 16) : bits .or .u8 ((x.toNat : Int) * 16 % 256) (v : Int) = ((orB x v).toNat : Int) := by
  have h := u8_or_nat (x.toNat * 16 % 256) v (by omega) (by omega)
  have e : ((x.toNat * 16 % 256 : Nat) : Int) = (x.toNat : Int) * 16 % 256 := by omega
  rw [e] at h
  rw [h]
  have hlt : (x.toNat * 16 % 256 ||| v) < 2 ^ 8 := Nat.or_lt_two_pow (by omega) (by omega)
  unfold orB
  generalize (x.toNat * 16 % 256 ||| v) = m at *
  simp
  omega
def nib (l : List UInt8) : Nat → List UInt8
  | 0 => List.replicate 32 0
  | k + 1 => (nib l k).set (k / 2) (orB ((nib l k).getD (k / 2) 0) (dv (l.getD k 0)))
theorem nib_len (l : List UInt8) (k : Nat) : (nib l k).length = 32 := by
  induction k with
  | zero => rfl
  | succ n ih => simp [nib, ih]
def zs : List UInt8 := List.replicate 32 0
def parseF (l : List UInt8) : List UInt8 × Nat × Nat :=
  if good 64 l < 64 then (zs, 4, good 64 l) else if 64 < l.length then (zs, 4, 64) else (nib l 64, 0, 0)
theorem parseF_len (l : List UInt8) : (parseF l).1.length = 32 := by
  have h := nib_len l 64
  unfold parseF
  generalize nib l 64 = n at *
  split
  · rfl
  · split
    · rfl
    · exact h

def z25' : List Value := bys zs
theorem results11_row (tmps : Array Value) (w : World) (g : Nat) (cs : Array Value) (e : Value) (hs : cs.size = 32) (hp : tmps.getD 2 undef = .pointer (some ⟨g, 0, none⟩)) (he : tmps.getD 3 undef = e) (hg : w.heap[g]? = some (.cells cs 25 (0, 0))) :
    (results Try.f11 tmps).run Try.prog w = .ok (.tuple #[.agg cs, e]) w := by
  have hp' : tmps[2]?.getD undef = .pointer (some ⟨g, 0, none⟩) := by simpa using hp
  have he' : tmps[3]?.getD undef = e := by simpa using he
  have hi : (Try.prog.info? 25).map (·.size) = some cs.size := by rw [hs]; exact Try.info25
  simp [results, Try.results11, hp', he', asAddr, run_loadVar_row w g 25 25 cs (0, 0) _ hg Try.underlying25 rfl hi]

/-- An error, or none. -/
def ErO (w : World) (e : Value) (c p : Nat) : Prop := (c = 0 ∧ p = 0 ∧ e = .nilIface) ∨ (c ≠ 0 ∧ Er w e c p)

/-- Where Parse's loop stands. -/
structure QRel (w : World) (l : List UInt8) (k : Nat) (wr : World) : Prop where
  le : k ≤ good 64 l
  res : Row wr w.heap.size 25 z25'
  h : Row wr (w.heap.size + 1) 25 (bys (nib l k))
  below : Below w.heap.size w wr
theorem QRel.next {w wr : World} {l : List UInt8} {k : Nat} (h : QRel w l k wr) (hk : k < 64) (hl : k < l.length) (hd : isDig (l.getD k 0) = true) :
    QRel w l (k + 1) (wr.setCell ⟨w.heap.size + 1, k / 2, none⟩ (.int .u8 (bits .or .u8 ((((nib l k).getD (k / 2) 0).toNat : Int) * 16 % 256) (dv (l.getD k 0) : Int)))) := by
  refine ⟨good_go 64 l k h.le hk hl hd, h.res.other (by omega) _, ?_, h.below.setCell (p := ⟨w.heap.size + 1, k / 2, none⟩) (by show w.heap.size ≤ w.heap.size + 1; omega) _⟩
  rw [orB_nat _ _ (dv_lt _)]
  have := h.h.set (k / 2) (.int .u8 ((orB ((nib l k).getD (k / 2) 0) (dv (l.getD k 0))).toNat : Int))
  have e : bys (nib l (k + 1)) = (bys (nib l k)).set (k / 2) (.int .u8 ((orB ((nib l k).getD (k / 2) 0) (dv (l.getD k 0))).toNat : Int)) := by
    simp [nib, bys, List.map_set]
  rw [e]; exact this
/-- What is left where an error is told. -/
theorem QRel.bad {w wr w2 : World} {l : List UInt8} {k c p : Nat} {e : Value} (h : QRel w l k wr) (hb : Below wr.heap.size wr w2) (he : Er w2 e c p) :
    w2.heap[w.heap.size]? = some (.cells z25'.toArray 25 (0, 0)) ∧ (w2.setRow w.heap.size z25'.toArray).heap[w.heap.size]? = some (.cells z25'.toArray 25 (0, 0)) ∧ Er (w2.setRow w.heap.size z25'.toArray) e c p ∧ Below w.heap.size w (w2.setRow w.heap.size z25'.toArray) := by
  have hr : Row w2 w.heap.size 25 z25' := h.res.below hb h.res.lt
  refine ⟨hr.heap, (hr.setRow z25').heap, ?_, below_setRow (h.below.trans (hb.mono h.below.size)) (Nat.le_refl _) _⟩
  obtain ⟨b, hv, h0, h1, h2⟩ := he.shape
  have hne : b ≠ w.heap.size := by
    rintro rfl
    rw [hr.cell 0] at h0
    simp [z25', bys, zs] at h0
  exact ⟨b, hv, (cell_setRow_other w2 w.heap.size _ ⟨b, 0, none⟩ hne).trans h0, (cell_setRow_other w2 w.heap.size _ ⟨b, 1, none⟩ hne).trans h1, (cell_setRow_other w2 w.heap.size _ ⟨b, 2, none⟩ hne).trans h2⟩

attribute [local go_sem ↓] Go.wp_at_zero Go.wp_at_succ
set_option maxHeartbeats 4000000 in
set_option maxRecDepth 20000 in
theorem parse_any (w : World) (l : List UInt8) (hl : l.length ≤ 9223372036854775807) :
    Calls Try.prog 11 #[.string (str l)] w fun ev w' => ∃ e, ev = .returned (.tuple #[.agg (bys (parseF l).1).toArray, e]) ∧ ErO w' e (parseF l).2.1 (parseF l).2.2 ∧ Below w.heap.size w w' := by
  have HI : Hid (QRel w l 0 ((w.alloc (.cells z25'.toArray 25)).alloc (.cells z25'.toArray 25))) := by
    refine ⟨by omega, (Row.new w 25 z25').below ((Below.refl _ _).alloc (Nat.le_refl _) _) (by simp), ?_, ((Below.refl w.heap.size w).alloc (Nat.le_refl _) _).alloc (by simp) _⟩
    have := Row.new (w.alloc (.cells z25'.toArray 25)) 25 z25'
    have e : bys (nib l 0) = z25' := rfl
    rw [e]
    simpa using this
  obtain ⟨S, hS⟩ : ∃ S, S = str l := ⟨_, rfl⟩
  have hSs : S.size = l.length := by rw [hS, str_size]
  have HX : Hid (∀ k (h : k < S.size), (S[k]'h).toNat = (l.getD k 0).toNat) := by
    intro k h
    subst hS
    have hk : k < l.length := by rw [str_size] at h; exact h
    simp [List.getD, List.getElem?_eq_getElem hk]; rfl
  rw [← hS]
  clear hS
  go_enter Try.func11, Try.ntmps11
  go_wp2_with fail
  go_loopw [8] (fun i wr => ∃ k : Nat, k ≤ 64 ∧ i = .int .i64 k ∧ QRel w l k wr) (fun i _ => 64 - (intOf i).toNat)
  case atStart => exact ⟨0, by omega, rfl, HI.out⟩
  case round =>
    obtain ⟨k, hk, rfl, hQ⟩ := hrel
    clear HI
    by_cases hk3 : k < 64
    · by_cases hkl : k = l.length
      · subst hkl
        have C := new_any wr 4 l.length (by omega)
        have HB : Hid (∀ w2 e, Below wr.heap.size wr w2 → Er w2 e 4 l.length → _) := fun w2 e hb he => hQ.bad hb he
        have HP : Hid (parseF l = (zs, 4, l.length)) := by
          have := good_stop 64 l l.length hQ.le hk3 (.inl rfl)
          show _ = _
          rw [parseF, if_pos (by omega), this]
        clear hQ HX
        go_wp2_with fail
        refine C.mono ?_
        rintro ev w2 ⟨e, rfl, hE, hb⟩
        obtain ⟨G1, G2, G3, G4⟩ := HB.out w2 e hb hE
        have A3 : Aside _ := G3
        have A4 : Aside _ := G4
        obtain ⟨b0, rfl, -⟩ := hE.shape
        clear hE hb HB C G3 G4
        have hi : (Try.prog.info? 25).map (·.size) = some z25'.toArray.size := Try.info25
        go_wp2_with (refine wpList_store_row rfl 25 _ _ rfl w.heap.size z25'.toArray rfl rfl 25 z25'.toArray G1 hi rfl (all_one (bys_one zs)) ?_)
        refine bodyPost_ret (v := .tuple #[.agg z25'.toArray, .iface 62 (.pointer (some ⟨b0, 0, none⟩))]) (results11_row _ _ w.heap.size z25'.toArray _ rfl rfl rfl G2) rfl ⟨.iface 62 (.pointer (some ⟨b0, 0, none⟩)), ?_, ?_, A4.out⟩
        · rw [HP.out]; rfl
        · rw [HP.out]; exact .inr ⟨Nat.succ_ne_zero 3, A3.out⟩
      · have hle : k < l.length := by
          have := (good_le 64 l).2
          have := hQ.le
          omega
        have hkS : k < S.size := by omega
        have hx := HX.out k hkS
        have D := digit_any (l.getD k 0) wr
        have hne : (k : Int) ≠ (l.length : Int) := by omega
        cases hd : isDig (l.getD k 0)
        · have C := new_any wr 4 k (by omega)
          have HB : Hid (∀ w2 e, Below wr.heap.size wr w2 → Er w2 e 4 k → _) := fun w2 e hb he => hQ.bad hb he
          have HP : Hid (parseF l = (zs, 4, k)) := by
            have := good_stop 64 l k hQ.le hk3 (.inr hd)
            show _ = _
            rw [parseF, if_pos (by omega), this]
          rw [hd] at D
          clear hQ HX
          generalize (l.getD k 0).toNat = x at *
          generalize (dv (l.getD k 0)) = y at *
          go_wp2_with fail
          refine D.mono ?_
          rintro ev w2 ⟨rfl, rfl⟩
          go_wp2_with fail
          refine C.mono ?_
          rintro ev w2 ⟨e, rfl, hE, hb⟩
          obtain ⟨G1, G2, G3, G4⟩ := HB.out w2 e hb hE
          have A3 : Aside _ := G3
          have A4 : Aside _ := G4
          obtain ⟨b0, rfl, -⟩ := hE.shape
          clear hE hb HB C G3 G4 D
          have hi : (Try.prog.info? 25).map (·.size) = some z25'.toArray.size := Try.info25
          go_wp2_with (refine wpList_store_row rfl 25 _ _ rfl w.heap.size z25'.toArray rfl rfl 25 z25'.toArray G1 hi rfl (all_one (bys_one zs)) ?_)
          refine bodyPost_ret (v := .tuple #[.agg z25'.toArray, .iface 62 (.pointer (some ⟨b0, 0, none⟩))]) (results11_row _ _ w.heap.size z25'.toArray _ rfl rfl rfl G2) rfl ⟨.iface 62 (.pointer (some ⟨b0, 0, none⟩)), ?_, ?_, A4.out⟩
          · rw [HP.out]; rfl
          · rw [HP.out]; exact .inr ⟨Nat.succ_ne_zero 3, A3.out⟩
        · have HN : Hid _ := hQ.next hk3 hle hd
          have q0 : wr.cell? ⟨w.heap.size + 1, k / 2, none⟩ = some (.int .u8 (((nib l k).getD (k / 2) 0).toNat : Int)) := by rw [hQ.h.cell, bys_get _ _ (by rw [nib_len]; omega)]
          have q1 := hQ.h.fz (k / 2)
          rw [hd] at D
          clear hQ HX
          generalize ((nib l k).getD (k / 2) 0).toNat = z at *
          generalize (l.getD k 0).toNat = x at *
          generalize (dv (l.getD k 0)) = y at *
          go_wp2_with fail
          refine D.mono ?_
          rintro ev w2 ⟨rfl, rfl⟩
          go_wp2_with fail
          go_roundw
          case rel => exact ⟨k + 1, by omega, by go_num, HN.out⟩
          case measure => simp [intOf]; omega
    · obtain rfl : k = 64 := by omega
      have hg : good 64 l = 64 := by have := (good_le 64 l).1; have := hQ.le; omega
      have hl64 : 64 ≤ l.length := by have := (good_le 64 l).2; omega
      by_cases hgt : 64 < l.length
      · have C := new_any wr 4 64 (by omega)
        have HB : Hid (∀ w2 e, Below wr.heap.size wr w2 → Er w2 e 4 64 → _) := fun w2 e hb he => hQ.bad hb he
        have HP : Hid (parseF l = (zs, 4, 64)) := by
          show _ = _
          rw [parseF, if_neg (by omega), if_pos hgt]
        have hgt' : (64 : Int) < (l.length : Int) := by omega
        clear hQ HX hg
        go_wp2_with fail
        refine C.mono ?_
        rintro ev w2 ⟨e, rfl, hE, hb⟩
        obtain ⟨G1, G2, G3, G4⟩ := HB.out w2 e hb hE
        have A3 : Aside _ := G3
        have A4 : Aside _ := G4
        obtain ⟨b0, rfl, -⟩ := hE.shape
        clear hE hb HB C G3 G4
        have hi : (Try.prog.info? 25).map (·.size) = some z25'.toArray.size := Try.info25
        go_wp2_with (refine wpList_store_row rfl 25 _ _ rfl w.heap.size z25'.toArray rfl rfl 25 z25'.toArray G1 hi rfl (all_one (bys_one zs)) ?_)
        refine bodyPost_ret (v := .tuple #[.agg z25'.toArray, .iface 62 (.pointer (some ⟨b0, 0, none⟩))]) (results11_row _ _ w.heap.size z25'.toArray _ rfl rfl rfl G2) rfl ⟨.iface 62 (.pointer (some ⟨b0, 0, none⟩)), ?_, ?_, A4.out⟩
        · rw [HP.out]; rfl
        · rw [HP.out]; exact .inr ⟨Nat.succ_ne_zero 3, A3.out⟩
      · have HP : Hid (parseF l = (nib l 64, 0, 0)) := by
          show _ = _
          rw [parseF, if_neg (by omega), if_neg hgt]
        have hgt' : ¬ (64 : Int) < (l.length : Int) := by omega
        have HF : Hid (Below w.heap.size w (wr.setRow w.heap.size (bys (nib l 64)).toArray)) := below_setRow hQ.below (Nat.le_refl _) _
        have hres := hQ.res.heap
        have hrow := hQ.h.heap
        have hres2 := (hQ.res.setRow (bys (nib l 64))).heap
        have hs32 : (bys (nib l 64)).toArray.size = 32 := by rw [List.size_toArray, bys_len, nib_len]
        have hi : (Try.prog.info? 25).map (·.size) = some (bys (nib l 64)).toArray.size := by rw [hs32]; exact Try.info25
        have hz : z25'.toArray.size = (bys (nib l 64)).toArray.size := by rw [hs32]; rfl
        have hone := all_one (bys_one (nib l 64))
        obtain ⟨Y2, hY2⟩ : ∃ Y2, Y2 = (bys (nib l 64)).toArray := ⟨_, rfl⟩
        rw [← hY2] at HF hrow hres2 hi hz hone hs32
        have HY : Hid (Y2 = (bys (nib l 64)).toArray) := hY2
        clear hQ hY2 HX hg
        go_wp2_with (first | (refine wpList_load_row rfl 25 _ rfl (w.heap.size + 1) rfl 25 Y2 (0, 0) _ hrow Try.underlying25 rfl hi ?_) | (refine wpList_store_row rfl 25 _ _ rfl w.heap.size Y2 rfl rfl 25 z25'.toArray hres hi hz hone ?_))
        refine bodyPost_ret (v := .tuple #[.agg Y2, .nilIface]) (results11_row _ _ w.heap.size Y2 _ hs32 rfl rfl hres2) rfl ⟨.nilIface, ?_, ?_, HF.out⟩
        · rw [HP.out, HY.out]
        · rw [HP.out]; exact .inl ⟨rfl, rfl, rfl⟩
end Go.Proofs.Ytnfiecafkapgmaa
