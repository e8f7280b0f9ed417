/-
  The texts To9, Rfy, joined.
-/
import Derived.Test.YtlbhaaldndjigaaGreatDoorJStg3
import Derived.Test.YtlbhaaldndjigaaGreatDoorJTyp2
import Derived.Test.YtlbhaaldndjigaaGreatDoorJSmt2
namespace Go.Proofs.YtlbhaaldndjigaaGreatDoor
open Go.RowKit

def fewF : Fnc := ⟨false, [102], [], [], Ty.zero, [], 0⟩
def fewC : Crt := ⟨[], [fewF]⟩
def fewT : Ty := ⟨5, [], [[97]], [⟨1, [], [], []⟩]⟩
def fewH : Fnc := ⟨true, [102], [⟨[97], [[98]]⟩, ⟨[98], []⟩], [], Ty.zero, [], 0⟩
theorem fewC_may : MayCrt 1 fewC := by
  refine ⟨by decide, fun s hs => (by cases hs), fun f hf => ?_⟩
  have : f = fewF := by simpa [fewC] using hf
  subst this
  refine ⟨by decide, ⟨by decide, fun l hl => (by cases hl)⟩, ⟨by decide, fun l hl => (by cases hl)⟩, .inl rfl, fun s hs => (by cases hs), by decide⟩
def oneK (C : Nat) : Ctx := ⟨C, 1, by decide⟩
theorem oneB {C n : Nat} (h : n ≤ 1) : n ≤ (oneK C).B := h
theorem one_ar {α : Type} {z bz : Nat} {P : List Value → α → Prop} {K : Ctx} {w : World} {g t : Nat} {cs : List Value} {x : α} (hr : Row w g t cs) (hg : g < K.C) (hz : cs.length = z) (hb : bz ≤ 140737488355328) (hp : P cs x) : Ar z bz P K w (.slice (some ⟨g, 0, none⟩) 1 1) [x] := by
  refine ⟨some ⟨g, 0, none⟩, 1, rfl, by simp, by simpa using hb, fun i hi => ?_⟩
  have hi0 : i = 0 := by simpa using hi
  subst hi0
  exact ⟨g, 0, rfl, hg, cs, hz, fun j _ => by have := hr.cell j; simpa using this, hp⟩
theorem alloc_nd (w : World) (o : Obj) : Below w.heap.size w (w.alloc o) := alloc_one w o

theorem tell_crate {w : World} (hm : ∃ m, w.cell? ⟨0, 0, none⟩ = some (.int .i64 m)) (tb : Tb w) (h1 : 1 < w.heap.size) :
    Calls Tryz.prog 8 #[.agg #[.slice none 0 0, .slice (some ⟨w.heap.size, 0, none⟩) 1 1]] (w.alloc (.cells #[.bool false, .string ⟨#[102]⟩, .slice none 0 0, .slice none 0 0, .int .i64 0, .string ⟨#[]⟩, .slice none 0 0, .slice none 0 0, .slice none 0 0, .int .i64 0] 43)) fun e w' => e = .returned (.tuple #[.string ⟨#[102, 110, 32, 102, 40, 41, 32, 123, 10, 125, 10]⟩, .nilIface]) ∧ Below w.heap.size w w' := by
  have hA := alloc_one w (.cells #[.bool false, .string ⟨#[102]⟩, .slice none 0 0, .slice none 0 0, .int .i64 0, .string ⟨#[]⟩, .slice none 0 0, .slice none 0 0, .slice none 0 0, .int .i64 0] 43)
  have r : Row (w.alloc (.cells #[.bool false, .string ⟨#[102]⟩, .slice none 0 0, .slice none 0 0, .int .i64 0, .string ⟨#[]⟩, .slice none 0 0, .slice none 0 0, .slice none 0 0, .int .i64 0] 43)) w.heap.size 43 [.bool false, .string (str [102]), .slice none 0 0, .slice none 0 0, .int .i64 0, .string (str []), .slice none 0 0, .slice none 0 0, .slice none 0 0, .int .i64 0] := Row.new w 43 [.bool false, .string (str [102]), .slice none 0 0, .slice none 0 0, .int .i64 0, .string (str []), .slice none 0 0, .slice none 0 0, .slice none 0 0, .int .i64 0]
  have hs := size_alloc w (.cells #[.bool false, .string ⟨#[102]⟩, .slice none 0 0, .slice none 0 0, .int .i64 0, .string ⟨#[]⟩, .slice none 0 0, .slice none 0 0, .slice none 0 0, .int .i64 0] 43)
  generalize (w.alloc (.cells #[.bool false, .string ⟨#[102]⟩, .slice none 0 0, .slice none 0 0, .int .i64 0, .string ⟨#[]⟩, .slice none 0 0, .slice none 0 0, .slice none 0 0, .int .i64 0] 43)) = W at *
  have he : Env (oneK (w.heap.size + 1)) W := by
    refine ⟨by show w.heap.size + 1 ≤ _; omega, Nat.succ_pos _, ?_, by show 1 ≤ 1048576; decide⟩
    obtain ⟨m, hm⟩ := hm
    exact ⟨m, (hA.cell (p := ⟨0, 0, none⟩) (show 0 < w.heap.size by omega)).trans hm⟩
  have hx : CrtAt 1 (oneK (w.heap.size + 1)) W [.slice none 0 0, .slice (some ⟨w.heap.size, 0, none⟩) 1 1] fewC := by
    refine ⟨_, _, rfl, nil_ar, one_ar r (Nat.lt_succ_self _) rfl (by decide) ?_⟩
    exact ⟨_, _, tyCells 0, _, rfl, oneB (by decide), nil_ar, nil_ar, kind_at _ _ 0, nil_ar⟩
  have e : crtT Lib.itoa fewC = [102, 110, 32, 102, 40, 41, 32, 123, 10, 125, 10] := by
    have e0 : blkT Lib.itoa [] 0 = [123, 10, 125] := by unfold blkT; rw [stsT_nil]; rfl
    show ([] ++ ((headT fewF ++ [32] ++ blkT Lib.itoa [] 0 ++ [10]) ++ []) : Bs) = _
    rw [e0]
    decide
  have := crateP_ok he (show 1 < w.heap.size + 1 by omega) (tb.below hA h1) hx fewC_may (by rw [e]; decide)
  rw [e] at this
  refine this.mono ?_
  rintro _ _ ⟨rfl, h⟩
  exact ⟨rfl, hA.trans (below_le h hA.size)⟩

theorem tell_type (w : World) : Calls Tryz.prog 11 #[.agg #[.int .i64 5, .string ⟨#[]⟩, .slice (some ⟨w.heap.size, 0, none⟩) 1 1, .slice (some ⟨w.heap.size + 1, 0, none⟩) 1 1]] ((w.alloc (.cells #[.string ⟨#[97]⟩] 9)).alloc (.cells #[.int .i64 1, .string ⟨#[]⟩, .slice none 0 0, .slice none 0 0] 38)) fun e w' => e = .returned (.string ⟨#[38, 39, 97, 32, 109, 117, 116, 32, 105, 110, 116]⟩) ∧ Below w.heap.size w w' := by
  have hA := alloc_two w (.cells #[.string ⟨#[97]⟩] 9) (.cells #[.int .i64 1, .string ⟨#[]⟩, .slice none 0 0, .slice none 0 0] 38)
  have r1 : Row ((w.alloc (.cells #[.string ⟨#[97]⟩] 9)).alloc (.cells #[.int .i64 1, .string ⟨#[]⟩, .slice none 0 0, .slice none 0 0] 38)) w.heap.size 9 [.string (str [97])] := (Row.new w 9 [.string (str [97])]).alloc _
  have r2 := Row.new (w.alloc (.cells #[.string ⟨#[97]⟩] 9)) 38 (tyCells 1)
  rw [size_alloc] at r2
  have r2 : Row ((w.alloc (.cells #[.string ⟨#[97]⟩] 9)).alloc (.cells #[.int .i64 1, .string ⟨#[]⟩, .slice none 0 0, .slice none 0 0] 38)) (w.heap.size + 1) 38 (tyCells 1) := r2
  have hs : ((w.alloc (.cells #[.string ⟨#[97]⟩] 9)).alloc (.cells #[.int .i64 1, .string ⟨#[]⟩, .slice none 0 0, .slice none 0 0] 38)).heap.size = w.heap.size + 1 + 1 := by rw [size_alloc, size_alloc]
  generalize ((w.alloc (.cells #[.string ⟨#[97]⟩] 9)).alloc (.cells #[.int .i64 1, .string ⟨#[]⟩, .slice none 0 0, .slice none 0 0] 38)) = W at *
  have hx : TyAt 2 (oneK (w.heap.size + 1 + 1)) W [.int .i64 5, .string (str []), .slice (some ⟨w.heap.size, 0, none⟩) 1 1, .slice (some ⟨w.heap.size + 1, 0, none⟩) 1 1] fewT := by
    refine ⟨_, _, rfl, oneB (by decide), one_ar r1 (show w.heap.size < w.heap.size + 1 + 1 by omega) rfl (by decide) ⟨rfl, oneB (by decide)⟩, one_ar r2 (show w.heap.size + 1 < w.heap.size + 1 + 1 by omega) rfl (by decide) ?_⟩
    exact ⟨_, _, rfl, oneB (by decide), nil_ar, nil_ar⟩
  have e : tyT fewT = [38, 39, 97, 32, 109, 117, 116, 32, 105, 110, 116] := by decide
  have := typeP_any (K := oneK (w.heap.size + 1 + 1)) (show w.heap.size + 1 + 1 ≤ W.heap.size by omega) hx (by rw [e]; decide)
  rw [e] at this
  refine this.mono ?_
  rintro _ _ ⟨rfl, h⟩
  exact ⟨rfl, hA.trans (below_le h hA.size)⟩

theorem tell_head (w : World) : Calls Tryz.prog 13 #[.agg #[.bool true, .string ⟨#[102]⟩, .slice (some ⟨w.heap.size + 1, 0, none⟩) 2 2, .slice none 0 0, .int .i64 0, .string ⟨#[]⟩, .slice none 0 0, .slice none 0 0, .slice none 0 0, .int .i64 0]] ((w.alloc (.cells #[.string ⟨#[98]⟩] 9)).alloc (.cells #[.string ⟨#[97]⟩, .slice (some ⟨w.heap.size, 0, none⟩) 1 1, .string ⟨#[98]⟩, .slice none 0 0] 50)) fun e w' => e = .returned (.string ⟨#[112, 117, 98, 32, 102, 110, 32, 102, 60, 39, 97, 58, 32, 39, 98, 44, 32, 39, 98, 62, 40, 41]⟩) ∧ Below w.heap.size w w' := by
  have hA := alloc_two w (.cells #[.string ⟨#[98]⟩] 9) (.cells #[.string ⟨#[97]⟩, .slice (some ⟨w.heap.size, 0, none⟩) 1 1, .string ⟨#[98]⟩, .slice none 0 0] 50)
  have r1 : Row ((w.alloc (.cells #[.string ⟨#[98]⟩] 9)).alloc (.cells #[.string ⟨#[97]⟩, .slice (some ⟨w.heap.size, 0, none⟩) 1 1, .string ⟨#[98]⟩, .slice none 0 0] 50)) w.heap.size 9 [.string (str [98])] := (Row.new w 9 [.string (str [98])]).alloc _
  have r2 := Row.new (w.alloc (.cells #[.string ⟨#[98]⟩] 9)) 50 [.string (str [97]), .slice (some ⟨w.heap.size, 0, none⟩) 1 1, .string (str [98]), .slice none 0 0]
  rw [size_alloc] at r2
  have r2 : Row ((w.alloc (.cells #[.string ⟨#[98]⟩] 9)).alloc (.cells #[.string ⟨#[97]⟩, .slice (some ⟨w.heap.size, 0, none⟩) 1 1, .string ⟨#[98]⟩, .slice none 0 0] 50)) (w.heap.size + 1) 50 [.string (str [97]), .slice (some ⟨w.heap.size, 0, none⟩) 1 1, .string (str [98]), .slice none 0 0] := r2
  have hs : ((w.alloc (.cells #[.string ⟨#[98]⟩] 9)).alloc (.cells #[.string ⟨#[97]⟩, .slice (some ⟨w.heap.size, 0, none⟩) 1 1, .string ⟨#[98]⟩, .slice none 0 0] 50)).heap.size = w.heap.size + 1 + 1 := by rw [size_alloc, size_alloc]
  generalize ((w.alloc (.cells #[.string ⟨#[98]⟩] 9)).alloc (.cells #[.string ⟨#[97]⟩, .slice (some ⟨w.heap.size, 0, none⟩) 1 1, .string ⟨#[98]⟩, .slice none 0 0] 50)) = W at *
  have hls : Ar 2 40 (LfeAt (oneK (w.heap.size + 1 + 1)) W) (oneK (w.heap.size + 1 + 1)) W (.slice (some ⟨w.heap.size + 1, 0, none⟩) 2 2) fewH.lives := by
    refine ⟨some ⟨w.heap.size + 1, 0, none⟩, 2, rfl, by decide, by decide, fun i hi => ?_⟩
    have hi2 : i < 2 := hi
    have hc : i = 0 ∨ i = 1 := by omega
    rcases hc with rfl | rfl
    · refine ⟨w.heap.size + 1, 0, rfl, show w.heap.size + 1 < w.heap.size + 1 + 1 by omega, [.string (str [97]), .slice (some ⟨w.heap.size, 0, none⟩) 1 1], rfl, fun j hj => ?_, _, rfl, Nat.le_refl 1, one_ar r1 (show w.heap.size < w.heap.size + 1 + 1 by omega) rfl (by decide) ⟨rfl, oneB (by decide)⟩⟩
      have h2 : j = 0 ∨ j = 1 := by omega
      rcases h2 with rfl | rfl
      · exact r2.cell 0
      · exact r2.cell 1
    · refine ⟨w.heap.size + 1, 0, rfl, show w.heap.size + 1 < w.heap.size + 1 + 1 by omega, [.string (str [98]), .slice none 0 0], rfl, fun j hj => ?_, _, rfl, Nat.le_refl 1, nil_ar⟩
      have h2 : j = 0 ∨ j = 1 := by omega
      rcases h2 with rfl | rfl
      · exact r2.cell 2
      · exact r2.cell 3
  have hx : FncAt 1 (oneK (w.heap.size + 1 + 1)) W [.bool true, .string (str [102]), .slice (some ⟨w.heap.size + 1, 0, none⟩) 2 2, .slice none 0 0, .int .i64 0, .string (str []), .slice none 0 0, .slice none 0 0, .slice none 0 0, .int .i64 0] fewH :=
    ⟨_, _, tyCells 0, _, rfl, oneB (by decide), hls, nil_ar, kind_at _ _ 0, nil_ar⟩
  have e : headT fewH = [112, 117, 98, 32, 102, 110, 32, 102, 60, 39, 97, 58, 32, 39, 98, 44, 32, 39, 98, 62, 40, 41] := by decide
  have := headP_any (K := oneK (w.heap.size + 1 + 1)) (show w.heap.size + 1 + 1 ≤ W.heap.size by omega) hx (by rw [e]; decide)
  rw [e] at this
  refine this.mono ?_
  rintro _ _ ⟨rfl, h⟩
  exact ⟨rfl, hA.trans (below_le h hA.size)⟩

set_option maxHeartbeats 8000000 in
set_option maxRecDepth 20000 in
theorem told9_any {w : World} (hm : ∃ m, w.cell? ⟨0, 0, none⟩ = some (.int .i64 m)) (tb : Tb w) (h1 : 1 < w.heap.size) : Calls Tryz.prog 7 #[] w fun ev w' => ev = .returned (.bool true) ∧ Below w.heap.size w w' := by
  have D1 := hid0 (tell_crate hm tb h1)
  have D2 := hid0 tell_type
  have D3 := hid0 tell_head
  clear hm tb h1
  go_enter Tryz.func7, Tryz.ntmps7
  go_wp2_with fail
  refine D1.out.mono ?_
  rintro _ w1 ⟨rfl, q1⟩
  go_wp2_with fail
  refine (D2.out w1).mono ?_
  rintro _ w2 ⟨rfl, q2⟩
  have q3 := q1.trans (below_le q2 q1.size)
  clear q1 q2
  go_wp2_with fail
  refine (D3.out w2).mono ?_
  rintro _ w3 ⟨rfl, q4⟩
  go_wp2_with fail
  go_ret
  exact ⟨rfl, q3.trans (below_le q4 q3.size)⟩
end Go.Proofs.YtlbhaaldndjigaaGreatDoor

namespace Go.Proofs.YtlbhaaldndjigaaGreatDoor
open Go.RowKit

theorem str_app (a b : Bs) : str a ++ str b = str (a ++ b) := by
  unfold str
  apply ByteArray.ext
  simp
theorem str_nil_no {l : Bs} (h : l ≠ []) : ((str l).toList == []) = false := by rw [str_nil_beq]; exact decide_eq_false h
theorem str_nil_yes : ((str []).toList == []) = true := by rw [str_nil_beq]; rfl

set_option maxHeartbeats 4000000 in
theorem marks_any {K : Ctx} {w : World} {v : Value} {l : List Bs} (hs : Strs K w v l) (hlen : (markT l).length ≤ 140737488355328) :
    Calls Tryz.prog 26 #[v] w fun e w' => e = .returned (.string (str (markT l))) ∧ w' = w := by
  obtain ⟨ao, cap, rfl, hc, hb, hA⟩ := hs.at
  have HA := hid0 hA
  have hl9 : l.length ≤ 9223372036854775807 := by omega
  clear hA hs hb
  obtain ⟨ps, hps⟩ : ∃ ps, ps = l.map lifT := ⟨_, rfl⟩
  have hpl : ps.length = l.length := by rw [hps, List.length_map]
  have HP : Hid (∀ k (h : k < l.length), ∃ h' : k < ps.length, ps[k] = [39] ++ l[k]) := by
    intro k h
    subst hps
    exact ⟨by simpa using h, by simp [lifT]⟩
  have HM : Hid (markT l = angT ps) := by show markT l = angT ps; rw [hps]; rfl
  have HZ : Hid (∀ x ∈ ps, x ≠ []) := by
    intro x hx
    rw [hps] at hx
    obtain ⟨y, _, rfl⟩ := List.mem_map.1 hx
    simp [lifT]
  have HQ := hid0 hpl
  have HL : Hid ((jn [44, 32] ps).length ≤ 140737488355328) := by
    show _ ≤ _
    rw [HM.out] at hlen
    unfold angT at hlen
    split at hlen
    · rename_i hz; rw [hz]; simp [jn]
    · simp only [List.length_append, List.length_cons, List.length_nil] at hlen; omega
  clear hps hpl hlen
  go_enter Tryz.func26, Tryz.ntmps26
  go_wp2_with fail
  go_loopw [3, 4] (fun s i wr => ∃ k : Nat, k ≤ l.length ∧ i = .int .i64 k ∧ s = .string (str (jn [44, 32] (ps.take k))) ∧ wr = w) (fun _ i _ => l.length - (intOf i).toNat)
  case atStart => exact ⟨0, by omega, rfl, by simp [jn]; rfl, rfl⟩
  case round =>
    obtain ⟨k, hk, rfl, rfl, rfl⟩ := hrel
    by_cases h3 : k < l.length
    · obtain ⟨bb, o, rfl, hbC, hcell⟩ := HA.out k h3
      have cc := hcell _ (Below.refl _ _)
      obtain ⟨h', eP⟩ := HP.out k h3
      have e1 := jn_take [44, 32] ps k h'
      rw [eP] at e1
      have e2 := jn_le [44, 32] ps (k + 1)
      have e3 := HL.out
      rw [e1] at e2
      simp only [List.length_append, List.length_cons, List.length_nil] at e2
      have i1 : (k : Int) < (l.length : Int) := by omega
      by_cases h0 : k = 0
      · have i2 : ¬ (0 : Int) < (k : Int) := by omega
        rw [if_pos h0, List.nil_append] at e1
        obtain ⟨J, hJ⟩ : ∃ J, J = jn [44, 32] (ps.take k) := ⟨_, rfl⟩
        rw [← hJ] at e1 ⊢
        have s1 : str J ++ ⟨#[39]⟩ = str (J ++ [39]) := str_app _ [39]
        have s2 : str (J ++ [39]) ++ str l[k] = str (jn [44, 32] (ps.take (k + 1))) := by rw [str_app, e1, List.append_assoc]
        have n1 : ¬ 9223372036854775807 < (str J).size + 1 := by rw [str_size, hJ]; omega
        have n2 : ¬ 9223372036854775807 < (str (J ++ [39])).size + (str l[k]).size := by rw [str_size, str_size, List.length_append, hJ]; simp only [List.length_cons, List.length_nil]; omega
        clear hcell HA HP HM HZ e1 eP hJ h0 e2 e3 HL
        obtain ⟨R, hR⟩ : ∃ R, R = str (jn [44, 32] (ps.take (k + 1))) := ⟨_, rfl⟩
        rw [← hR] at s2
        have HRk := hid0 hR
        clear hR
        generalize str (J ++ [39]) = R1 at *
        generalize str J = R0 at *
        generalize str l[k] = X at *
        go_wp2_with fail
        go_roundw
        case rel => exact ⟨k + 1, by omega, by go_num, by rw [HRk.out], by trivial⟩
        case measure => simp [intOf]; omega
      · have i2 : (0 : Int) < (k : Int) := by omega
        rw [if_neg h0] at e1
        obtain ⟨J, hJ⟩ : ∃ J, J = jn [44, 32] (ps.take k) := ⟨_, rfl⟩
        rw [← hJ] at e1 ⊢
        have s0 : str J ++ ⟨#[44, 32]⟩ = str (J ++ [44, 32]) := str_app _ [44, 32]
        have s1 : str (J ++ [44, 32]) ++ ⟨#[39]⟩ = str (J ++ [44, 32] ++ [39]) := str_app _ [39]
        have s2 : str (J ++ [44, 32] ++ [39]) ++ str l[k] = str (jn [44, 32] (ps.take (k + 1))) := by rw [str_app, e1]; simp only [List.append_assoc]
        have n0 : ¬ 9223372036854775807 < (str J).size + 2 := by rw [str_size, hJ]; omega
        have n1 : ¬ 9223372036854775807 < (str (J ++ [44, 32])).size + 1 := by rw [str_size, List.length_append, hJ]; simp only [List.length_cons, List.length_nil]; omega
        have n2 : ¬ 9223372036854775807 < (str (J ++ [44, 32] ++ [39])).size + (str l[k]).size := by rw [str_size, str_size, List.length_append, List.length_append, hJ]; simp only [List.length_cons, List.length_nil]; omega
        clear hcell HA HP HM HZ e1 eP hJ h0 e2 e3 HL
        obtain ⟨R, hR⟩ : ∃ R, R = str (jn [44, 32] (ps.take (k + 1))) := ⟨_, rfl⟩
        rw [← hR] at s2
        have HRk := hid0 hR
        clear hR
        generalize str (J ++ [44, 32] ++ [39]) = R1 at *
        generalize str (J ++ [44, 32]) = R2 at *
        generalize str J = R0 at *
        generalize str l[k] = X at *
        go_wp2_with fail
        go_roundw
        case rel => exact ⟨k + 1, by omega, by go_num, by rw [HRk.out], by trivial⟩
        case measure => simp [intOf]; omega
    · have i1 : ¬ (k : Int) < (l.length : Int) := by omega
      have hq := HQ.out
      rw [List.take_of_length_le (by omega)]
      by_cases hp : ps = []
      · have HR : Hid (markT l = []) := by show markT l = []; rw [HM.out, hp]; rfl
        have e0 : jn [44, 32] ps = [] := by rw [hp]; rfl
        rw [e0]
        have q := str_nil_yes
        clear HA HP HM HZ HQ e0 hp hq
        generalize str [] = R at *
        go_wp2_with fail
        go_ret
        exact ⟨by rw [HR.out]; rfl, rfl⟩
      · have hne : jn [44, 32] ps ≠ [] := fun h => hp ((jn_empty [44, 32] ps HZ.out).1 h)
        have q := str_nil_no hne
        have HR : Hid (str (markT l) = str ([60] ++ jn [44, 32] ps ++ [62])) := by show str (markT l) = _; rw [HM.out]; unfold angT; rw [if_neg hp]
        have s1 : ⟨#[60]⟩ ++ str (jn [44, 32] ps) = str ([60] ++ jn [44, 32] ps) := str_app [60] _
        have s2 : str ([60] ++ jn [44, 32] ps) ++ ⟨#[62]⟩ = str ([60] ++ jn [44, 32] ps ++ [62]) := str_app _ [62]
        have n1 : ¬ 9223372036854775807 < 1 + (str (jn [44, 32] ps)).size := by rw [str_size]; have := HL.out; omega
        have n2 : ¬ 9223372036854775807 < (str ([60] ++ jn [44, 32] ps)).size + 1 := by rw [str_size, List.length_append]; have := HL.out; simp only [List.length_cons, List.length_nil]; omega
        clear HA HP HM HZ HQ hp hq hne HL
        generalize str ([60] ++ jn [44, 32] ps ++ [62]) = R2 at *
        generalize str ([60] ++ jn [44, 32] ps) = R1 at *
        generalize str (jn [44, 32] ps) = R at *
        go_wp2_with fail
        go_ret
        exact ⟨by rw [HR.out]; rfl, rfl⟩

theorem xpub_any (B : Bool) (w : World) : Calls Tryz.prog 28 #[.bool B] w fun e w' => e = .returned (.string (str (pubT B))) ∧ w' = w := by
  cases B
  · go_enter Tryz.func28, Tryz.ntmps28
    go_wp2_with fail
    go_ret
    exact ⟨rfl, rfl⟩
  · go_enter Tryz.func28, Tryz.ntmps28
    go_wp2_with fail
    go_ret
    exact ⟨rfl, rfl⟩
end Go.Proofs.YtlbhaaldndjigaaGreatDoor
