/-
  The document's Head: its lifetimes.
-/
import Derived.Test.YtlbhaaldndjigaaGreatDoorRfd
import Derived.Test.YtlbhaaldndjigaaGreatDoorJMfd2
namespace Go.Proofs.YtlbhaaldndjigaaGreatDoor
open Go.RowKit

def ovP (l : List Bs) (j : Nat) : Bs := if j = 0 then [] else [58, 32] ++ jn [32, 43, 32] ((l.map lifT).take j)
theorem ovP_succ (l : List Bs) (j : Nat) (h : j < l.length) : ovP l (j + 1) = ovP l j ++ (if j = 0 then [58, 32] else [32, 43, 32]) ++ [39] ++ l[j] := by
  have h' : j < (l.map lifT).length := by simpa using h
  unfold ovP
  rw [if_neg (Nat.succ_ne_zero _), jn_take _ _ j h']
  by_cases h0 : j = 0
  · subst h0; simp [jn, lifT]
  · simp [h0, lifT]
theorem ovP_full (l : List Bs) (j : Nat) (h : j ≤ l.length) (h2 : ¬ j < l.length) : ovP l j = overT l := by
  have e : j = l.length := by omega
  subst e
  unfold ovP overT
  cases l with
  | nil => rfl
  | cons a l => rw [if_neg (by simp), if_neg (by simp), List.take_of_length_le (by simp)]
theorem ovP_le (l : List Bs) (j : Nat) (h : j ≤ l.length) : (ovP l j).length ≤ (overT l).length := by
  unfold ovP overT
  split
  · simp
  · rename_i hj
    by_cases hl : l = []
    · subst hl; simp at h; exact absurd h hj
    · rw [if_neg hl]
      have := jn_le [32, 43, 32] (l.map lifT) j
      simp only [List.length_append]
      omega

set_option maxHeartbeats 16000000 in
set_option maxRecDepth 20000 in
theorem xhead_any {K : Ctx} {n : Nat} {w : World} (hC : K.C ≤ w.heap.size) {cs : List Value} {f : Fnc} (hx : FncAt n K w cs f) (hlen : (headT f).length ≤ 140737488355328) :
    Calls Tryz.prog 14 #[.agg cs.toArray] w fun e w' => e = .returned (.string (str (headT f))) ∧ Below w.heap.size w w' := by
  obtain ⟨v2, v3, ts, v8, rfl, hn, h2, h3, ⟨mt, ht⟩, h8⟩ := hx
  obtain ⟨a8, n8, rfl, -⟩ := id h8.shape
  obtain ⟨a3, n3, rfl, hc3, hb3, -⟩ := id h3.shape
  obtain ⟨a2, n2, rfl, hc2, hb2, hA2⟩ := Ar.at (P := LfeAt K) h2 (fun h hx => hx.below h)
  obtain ⟨r2, k2, m2, r3, k3, m3, rfl⟩ := IsTy.open ⟨mt, ht⟩
  obtain ⟨ps, hps⟩ : ∃ ps, ps = f.lives.map lfeT := ⟨_, rfl⟩
  have HH : Hid (headT f = pubT f.pub ++ ([102, 110, 32] ++ f.name) ++ angT ps ++ ([40] ++ jn [44, 32] (f.params.map fldT) ++ [41]) ++ resT f.result) := by show headT f = _; rw [hps]; rfl
  rw [HH.out] at hlen
  simp only [List.length_append, List.length_cons, List.length_nil] at hlen
  have hpl : ps.length = f.lives.length := by rw [hps, List.length_map]
  have hjl : (jn [44, 32] ps).length ≤ (angT ps).length := by
    unfold angT
    split
    · rename_i hz; rw [hz]; simp [jn]
    · simp only [List.length_append]; omega
  have HZ : Hid (∀ x ∈ ps, x ≠ []) := by
    intro x hx
    rw [hps] at hx
    obtain ⟨y, _, rfl⟩ := List.mem_map.1 hx
    simp [lfeT, lifT]
  have HP : Hid (∀ k (h : k < f.lives.length), ∃ h' : k < ps.length, ps[k] = lfeT f.lives[k]) := by
    intro k h
    subst hps
    exact ⟨by simpa using h, by simp⟩
  have HA : Hid (∀ k (h : k < f.lives.length), ∃ bb o, a2 = some ⟨bb, o, none⟩ ∧ ∃ ao cap, (∀ q, (w.alloc q).cell? ⟨bb, o + k * 2, none⟩ = some (.string (str (f.lives[k]).name))) ∧ (∀ q, (w.alloc q).cell? ⟨bb, o + k * 2 + 1, none⟩ = some (.slice ao (f.lives[k]).over.length cap)) ∧ (f.lives[k]).over.length ≤ 9223372036854775807 ∧
      ∀ j (hj : j < (f.lives[k]).over.length), ∃ b2 o2, ao = some ⟨b2, o2, none⟩ ∧ ∀ q, (w.alloc q).cell? ⟨b2, o2 + j, none⟩ = some (.string (str ((f.lives[k]).over[j]))))  := by
    intro k h
    obtain ⟨bb, o, cs, ea, hbC, hcell⟩ := hA2 k h
    obtain ⟨l0, v1, ecs, -, hov⟩ := hcell w (Below.refl _ _)
    obtain ⟨ao, cap, rfl, -, hb, hO⟩ := hov.at
    have hq : ∀ q, Below K.C w (w.alloc q) := fun q => below_le (alloc_one w q) hC
    refine ⟨bb, o, ea, ao, cap, fun q => ?_, fun q => ?_, by omega, fun j hj => ?_⟩
    · have := (hcell _ (hq q)).1.2 0 (by decide); rw [ecs] at this; exact this
    · have := (hcell _ (hq q)).1.2 1 (by decide); rw [ecs] at this; exact this
    · obtain ⟨b2, o2, e2, -, hc⟩ := hO j hj
      exact ⟨b2, o2, e2, fun q => hc _ (hq q)⟩
  have DP : Hid (∀ y, Calls Tryz.prog 28 #[.bool f.pub] y fun e w' => e = .returned (.string (str (pubT f.pub))) ∧ w' = y) := fun y => xpub_any f.pub y
  have DF : Hid (∀ y, Below w.heap.size w y → Calls Tryz.prog 29 #[.slice a3 f.params.length n3] y fun e w' => e = .returned (.string (str (jn [44, 32] (f.params.map fldT)))) ∧ Below y.heap.size y w') := fun y hy => xfieldsT_any (K := K) (Nat.le_trans hC hy.size) (h3.mono (below_le hy hC) fun _ _ _ h => h.below (below_le hy hC)) (by omega)
  have DT : Hid (∀ y, Below w.heap.size w y → f.result.kind ≠ 0 → Calls Tryz.prog 12 #[.agg #[.int .i64 f.result.kind, .string (str f.result.name), .slice r2 k2 m2, .slice r3 k3 m3]] y fun e w' => e = .returned (.string (str (tyT f.result))) ∧ Below y.heap.size y w') := by
    intro y hy h0
    have hr : resT f.result = [32, 45, 62, 32] ++ tyT f.result := by unfold resT; rw [if_neg h0]
    rw [hr] at hlen
    simp only [List.length_append, List.length_cons, List.length_nil] at hlen
    exact xtype_any mt (K := K) (Nat.le_trans hC hy.size) (ht.below (below_le hy hC)) (by omega)
  have HB0 : Hid (∀ q, Below w.heap.size w (w.alloc q)) := fun q => alloc_one w q
  have hl9 : f.lives.length ≤ 9223372036854775807 := by omega
  have hl8 : f.params.length ≤ 9223372036854775807 := by omega
  have HN : Hid (f.result.kind = 0 ∧ resT f.result = [] ∨ f.result.kind ≠ 0 ∧ resT f.result = [32, 45, 62, 32] ++ tyT f.result) := by
    by_cases h0 : f.result.kind = 0
    · exact .inl ⟨h0, by unfold resT; rw [if_pos h0]⟩
    · exact .inr ⟨h0, by unfold resT; rw [if_neg h0]⟩
  clear hps h2 h3 h8 ht hA2 hn hC hb2 hb3 hc2 hc3
  generalize hlv : f.lives = lv at *
  obtain ⟨TP, hTP⟩ : ∃ x, x = pubT f.pub := ⟨_, rfl⟩
  obtain ⟨TF, hTF⟩ : ∃ x, x = jn [44, 32] (f.params.map fldT) := ⟨_, rfl⟩
  obtain ⟨TR, hTR⟩ : ∃ x, x = tyT f.result := ⟨_, rfl⟩
  obtain ⟨TZ, hTZ⟩ : ∃ x, x = resT f.result := ⟨_, rfl⟩
  obtain ⟨TN, hTN⟩ : ∃ x, x = f.name := ⟨_, rfl⟩
  obtain ⟨TH, hTH⟩ : ∃ x, x = headT f := ⟨_, rfl⟩
  rw [← hTP] at DP HH hlen
  rw [← hTF] at DF HH hlen
  rw [← hTR] at DT HN
  rw [← hTZ] at HN HH hlen
  rw [← hTN] at HH hlen ⊢
  rw [← hTH] at HH ⊢
  clear hTP hTF hTR hTZ hTN hTH hlv
  have HLn := hid0 hlen
  have HQ := hid0 hpl
  have HJ := hid0 hjl
  clear hlen hpl hjl
  generalize f.pub = pb at *
  generalize f.result.kind = kd at *
  generalize str f.result.name = XR at *
  generalize f.params.length = L3 at *
  generalize f.body.length = L8 at *
  generalize f.pos = ps0 at *
  obtain ⟨XN, hXN⟩ : ∃ x, x = str TN := ⟨_, rfl⟩
  rw [← hXN]
  have HXN := hid0 hXN
  clear hXN
  go_enter Tryz.func14, Tryz.ntmps14
  go_wp2_with fail
  go_loopw [3, 4] (fun s i wr => ∃ k : Nat, k ≤ lv.length ∧ i = .int .i64 k ∧ s = .string (str (jn [44, 32] (ps.take k))) ∧ wr = (w.alloc (.cells #[.bool pb, .string XN, .slice a2 lv.length n2, .slice a3 L3 n3, .int .i64 kd, .string XR, .slice r2 k2 m2, .slice r3 k3 m3, .slice a8 L8 n8, .int .i64 ps0] 43))) (fun _ i _ => lv.length - (intOf i).toNat)
  case atStart => exact ⟨0, by omega, rfl, by simp [jn]; rfl, rfl⟩
  case round =>
    obtain ⟨k, hk, rfl, rfl, rfl⟩ := hrel
    by_cases h3 : k < lv.length
    · obtain ⟨bb, o, rfl, ao, cap, xn, xo, hol, hO⟩ := HA.out k h3
      obtain ⟨h', eP⟩ := HP.out k h3
      have e1 := jn_take [44, 32] ps k h'
      rw [eP] at e1
      have e2 := jn_le [44, 32] ps (k + 1)
      have e3 : (jn [44, 32] ps).length ≤ 140737488355328 := by have := HLn.out; have := HJ.out; omega
      have e4 := congrArg List.length e1
      unfold lfeT lifT at e4
      simp only [List.length_append, List.length_cons, List.length_nil] at e4
      obtain ⟨nm, hnm⟩ : ∃ nm, nm = (lv[k]).name := ⟨_, rfl⟩
      obtain ⟨ov, hov'⟩ : ∃ ov, ov = (lv[k]).over := ⟨_, rfl⟩
      have HO : Hid (∀ j (hj : j < ov.length), ∃ b2 o2, ao = some ⟨b2, o2, none⟩ ∧ ∀ q, (w.alloc q).cell? ⟨b2, o2 + j, none⟩ = some (.string (str ov[j]))) := by rw [hov']; exact hO
      rw [← hnm] at xn e4
      rw [← hov'] at xo hol e4
      obtain ⟨J, hJ⟩ : ∃ J, J = jn [44, 32] (ps.take k) := ⟨_, rfl⟩
      rw [← hJ] at e1 e4 ⊢
      have i1 : (k : Int) < (lv.length : Int) := by omega
      have hov := hol
      clear hO hJ HA HP HZ HH HN DP DF DT HXN HQ HJ HLn HB0
      by_cases h0 : k = 0
      · have i2 : ¬ (0 : Int) < (k : Int) := by omega
        rw [if_pos h0] at e4
        simp only [List.length_nil] at e4
        have s0 : str (J) ++ ⟨#[39]⟩ = str (J ++ [39]) := str_app _ [39]
        have nn0 : ¬ 9223372036854775807 < (str (J)).size + 1 := no_overC (by first | omega | (simp; omega))
        have s1 : str (J ++ [39]) ++ str nm = str (J ++ [39] ++ nm) := str_app _ _
        have nn1 : ¬ 9223372036854775807 < (str (J ++ [39])).size + (str nm).size := no_over (by first | omega | (simp; omega))
        obtain ⟨B, hB⟩ : ∃ B, B = J ++ [39] ++ nm := ⟨_, rfl⟩
        rw [← hB] at s1
        have eB : B ++ overT ov = jn [44, 32] (ps.take (k + 1)) := by rw [hB, e1, if_pos h0]; simp [lfeT, lifT, hnm, hov']
        have hBl : B.length + (overT ov).length ≤ 140737488355328 := by rw [← List.length_append, eB]; omega
        have z0 : str B = str (B ++ ovP ov 0) := by simp [ovP]
        rw [z0] at s1
        have HEB := hid0 eB
        clear z0 hB e1 e2 e3 h0 eB e4 eP hnm hov'
        generalize str (J ++ [39]) = U0 at *
        generalize str J = UJ at *
        generalize str nm = UN at *
        obtain ⟨V0, hV0⟩ : ∃ V, V = str (B ++ ovP ov 0) := ⟨_, rfl⟩
        rw [← hV0] at s1
        have HV0 := hid0 hV0
        clear hV0
        go_wp2_with fail
        go_loopw [3, 5] (fun s i wr => ∃ j : Nat, j ≤ ov.length ∧ i = .int .i64 j ∧ s = .string (str (B ++ ovP ov j)) ∧ wr = (w.alloc (.cells #[.bool pb, .string XN, .slice (some ⟨bb, o, none⟩) lv.length n2, .slice a3 L3 n3, .int .i64 kd, .string XR, .slice r2 k2 m2, .slice r3 k3 m3, .slice a8 L8 n8, .int .i64 ps0] 43))) (fun _ i _ => ov.length - (intOf i).toNat)
        case atStart => exact ⟨0, by omega, rfl, by rw [HV0.out], rfl⟩
        case round =>
          obtain ⟨j, hj, rfl, rfl, rfl⟩ := hrel
          clear HV0 s1
          by_cases h4 : j < ov.length
          · obtain ⟨b2, o2, rfl, xo⟩ := HO.out j h4
            have eo1 := ovP_le ov (j + 1) h4
            have eo2 := ovP_succ ov j h4
            have eo3 := congrArg List.length eo2
            have l1 : (j : Int) < (ov.length : Int) := by omega
            by_cases j0 : j = 0
            · have l2 : ((j : Int) == 0) = true := by rw [j0]; rfl
              rw [if_pos j0] at eo3
              simp only [List.length_append, List.length_cons, List.length_nil] at eo3
              have s0 : str (B ++ ovP ov j) ++ ⟨#[58, 32]⟩ = str (B ++ ovP ov j ++ [58, 32]) := str_app _ [58, 32]
              have nn0 : ¬ 9223372036854775807 < (str (B ++ ovP ov j)).size + 2 := no_overC (by first | omega | (simp; omega))
              have s1 : str (B ++ ovP ov j ++ [58, 32]) ++ ⟨#[39]⟩ = str (B ++ ovP ov j ++ [58, 32] ++ [39]) := str_app _ [39]
              have nn1 : ¬ 9223372036854775807 < (str (B ++ ovP ov j ++ [58, 32])).size + 1 := no_overC (by first | omega | (simp; omega))
              have s2 : str (B ++ ovP ov j ++ [58, 32] ++ [39]) ++ str ov[j] = str (B ++ ovP ov j ++ [58, 32] ++ [39] ++ ov[j]) := str_app _ _
              have nn2 : ¬ 9223372036854775807 < (str (B ++ ovP ov j ++ [58, 32] ++ [39])).size + (str ov[j]).size := no_over (by first | omega | (simp; omega))
              have sF : str (B ++ ovP ov j ++ [58, 32] ++ [39] ++ ov[j]) = str (B ++ ovP ov (j + 1)) := by rw [ovP_succ ov j h4, if_pos j0]; simp only [List.append_assoc]
              obtain ⟨R, hR⟩ : ∃ R, R = str (B ++ ovP ov (j + 1)) := ⟨_, rfl⟩
              rw [← hR] at sF
              rw [sF] at s2
              have HRj := hid0 hR
              clear hR sF j0 eo3 eo1 eo2 hBl hov HO
              generalize str (B ++ ovP ov j ++ [58, 32] ++ [39]) = Y1 at *
              generalize str (B ++ ovP ov j ++ [58, 32]) = Y0 at *
              generalize str (B ++ ovP ov j) = YY at *
              generalize str ov[j] = XO at *
              go_wp2_with fail
              go_roundw
              case rel => exact ⟨j + 1, by omega, by go_num, by rw [HRj.out], by trivial⟩
              case measure => simp [intOf]; omega
            · have l2 : ((j : Int) == 0) = false := by have h9 : (j : Int) ≠ 0 := (by omega); simpa using h9
              rw [if_neg j0] at eo3
              simp only [List.length_append, List.length_cons, List.length_nil] at eo3
              have s0 : str (B ++ ovP ov j) ++ ⟨#[32, 43, 32]⟩ = str (B ++ ovP ov j ++ [32, 43, 32]) := str_app _ [32, 43, 32]
              have nn0 : ¬ 9223372036854775807 < (str (B ++ ovP ov j)).size + 3 := no_overC (by first | omega | (simp; omega))
              have s1 : str (B ++ ovP ov j ++ [32, 43, 32]) ++ ⟨#[39]⟩ = str (B ++ ovP ov j ++ [32, 43, 32] ++ [39]) := str_app _ [39]
              have nn1 : ¬ 9223372036854775807 < (str (B ++ ovP ov j ++ [32, 43, 32])).size + 1 := no_overC (by first | omega | (simp; omega))
              have s2 : str (B ++ ovP ov j ++ [32, 43, 32] ++ [39]) ++ str ov[j] = str (B ++ ovP ov j ++ [32, 43, 32] ++ [39] ++ ov[j]) := str_app _ _
              have nn2 : ¬ 9223372036854775807 < (str (B ++ ovP ov j ++ [32, 43, 32] ++ [39])).size + (str ov[j]).size := no_over (by first | omega | (simp; omega))
              have sF : str (B ++ ovP ov j ++ [32, 43, 32] ++ [39] ++ ov[j]) = str (B ++ ovP ov (j + 1)) := by rw [ovP_succ ov j h4, if_neg j0]; simp only [List.append_assoc]
              obtain ⟨R, hR⟩ : ∃ R, R = str (B ++ ovP ov (j + 1)) := ⟨_, rfl⟩
              rw [← hR] at sF
              rw [sF] at s2
              have HRj := hid0 hR
              clear hR sF j0 eo3 eo1 eo2 hBl hov HO
              generalize str (B ++ ovP ov j ++ [32, 43, 32] ++ [39]) = Y1 at *
              generalize str (B ++ ovP ov j ++ [32, 43, 32]) = Y0 at *
              generalize str (B ++ ovP ov j) = YY at *
              generalize str ov[j] = XO at *
              go_wp2_with fail
              go_roundw
              case rel => exact ⟨j + 1, by omega, by go_num, by rw [HRj.out], by trivial⟩
              case measure => simp [intOf]; omega
          · have l1 : ¬ (j : Int) < (ov.length : Int) := by omega
            have HRk : Hid (str (B ++ ovP ov j) = str (jn [44, 32] (ps.take (k + 1)))) := by show _ = _; rw [ovP_full ov j hj h4, HEB.out]
            clear HEB HO hBl hov
            generalize str (B ++ ovP ov j) = YY at *
            go_wp2_with fail
            go_roundw
            case rel => exact ⟨k + 1, by omega, by go_num, by rw [HRk.out], by trivial⟩
            case measure => simp [intOf]; omega
      · have i2 : (0 : Int) < (k : Int) := by omega
        rw [if_neg h0] at e4
        simp only [List.length_cons, List.length_nil] at e4
        have s0 : str (J) ++ ⟨#[44, 32]⟩ = str (J ++ [44, 32]) := str_app _ [44, 32]
        have nn0 : ¬ 9223372036854775807 < (str (J)).size + 2 := no_overC (by first | omega | (simp; omega))
        have s1 : str (J ++ [44, 32]) ++ ⟨#[39]⟩ = str (J ++ [44, 32] ++ [39]) := str_app _ [39]
        have nn1 : ¬ 9223372036854775807 < (str (J ++ [44, 32])).size + 1 := no_overC (by first | omega | (simp; omega))
        have s2 : str (J ++ [44, 32] ++ [39]) ++ str nm = str (J ++ [44, 32] ++ [39] ++ nm) := str_app _ _
        have nn2 : ¬ 9223372036854775807 < (str (J ++ [44, 32] ++ [39])).size + (str nm).size := no_over (by first | omega | (simp; omega))
        obtain ⟨B, hB⟩ : ∃ B, B = J ++ [44, 32] ++ [39] ++ nm := ⟨_, rfl⟩
        rw [← hB] at s2
        have eB : B ++ overT ov = jn [44, 32] (ps.take (k + 1)) := by rw [hB, e1, if_neg h0]; simp [lfeT, lifT, hnm, hov']
        have hBl : B.length + (overT ov).length ≤ 140737488355328 := by rw [← List.length_append, eB]; omega
        have z0 : str B = str (B ++ ovP ov 0) := by simp [ovP]
        rw [z0] at s2
        have HEB := hid0 eB
        clear z0 hB e1 e2 e3 h0 eB e4 eP hnm hov'
        generalize str (J ++ [44, 32] ++ [39]) = U1 at *
        generalize str (J ++ [44, 32]) = U0 at *
        generalize str J = UJ at *
        generalize str nm = UN at *
        obtain ⟨V0, hV0⟩ : ∃ V, V = str (B ++ ovP ov 0) := ⟨_, rfl⟩
        rw [← hV0] at s2
        have HV0 := hid0 hV0
        clear hV0
        go_wp2_with fail
        go_loopw [3, 5] (fun s i wr => ∃ j : Nat, j ≤ ov.length ∧ i = .int .i64 j ∧ s = .string (str (B ++ ovP ov j)) ∧ wr = (w.alloc (.cells #[.bool pb, .string XN, .slice (some ⟨bb, o, none⟩) lv.length n2, .slice a3 L3 n3, .int .i64 kd, .string XR, .slice r2 k2 m2, .slice r3 k3 m3, .slice a8 L8 n8, .int .i64 ps0] 43))) (fun _ i _ => ov.length - (intOf i).toNat)
        case atStart => exact ⟨0, by omega, rfl, by rw [HV0.out], rfl⟩
        case round =>
          obtain ⟨j, hj, rfl, rfl, rfl⟩ := hrel
          clear HV0 s2
          by_cases h4 : j < ov.length
          · obtain ⟨b2, o2, rfl, xo⟩ := HO.out j h4
            have eo1 := ovP_le ov (j + 1) h4
            have eo2 := ovP_succ ov j h4
            have eo3 := congrArg List.length eo2
            have l1 : (j : Int) < (ov.length : Int) := by omega
            by_cases j0 : j = 0
            · have l2 : ((j : Int) == 0) = true := by rw [j0]; rfl
              rw [if_pos j0] at eo3
              simp only [List.length_append, List.length_cons, List.length_nil] at eo3
              have s0 : str (B ++ ovP ov j) ++ ⟨#[58, 32]⟩ = str (B ++ ovP ov j ++ [58, 32]) := str_app _ [58, 32]
              have nn0 : ¬ 9223372036854775807 < (str (B ++ ovP ov j)).size + 2 := no_overC (by first | omega | (simp; omega))
              have s1 : str (B ++ ovP ov j ++ [58, 32]) ++ ⟨#[39]⟩ = str (B ++ ovP ov j ++ [58, 32] ++ [39]) := str_app _ [39]
              have nn1 : ¬ 9223372036854775807 < (str (B ++ ovP ov j ++ [58, 32])).size + 1 := no_overC (by first | omega | (simp; omega))
              have s2 : str (B ++ ovP ov j ++ [58, 32] ++ [39]) ++ str ov[j] = str (B ++ ovP ov j ++ [58, 32] ++ [39] ++ ov[j]) := str_app _ _
              have nn2 : ¬ 9223372036854775807 < (str (B ++ ovP ov j ++ [58, 32] ++ [39])).size + (str ov[j]).size := no_over (by first | omega | (simp; omega))
              have sF : str (B ++ ovP ov j ++ [58, 32] ++ [39] ++ ov[j]) = str (B ++ ovP ov (j + 1)) := by rw [ovP_succ ov j h4, if_pos j0]; simp only [List.append_assoc]
              obtain ⟨R, hR⟩ : ∃ R, R = str (B ++ ovP ov (j + 1)) := ⟨_, rfl⟩
              rw [← hR] at sF
              rw [sF] at s2
              have HRj := hid0 hR
              clear hR sF j0 eo3 eo1 eo2 hBl hov HO
              generalize str (B ++ ovP ov j ++ [58, 32] ++ [39]) = Y1 at *
              generalize str (B ++ ovP ov j ++ [58, 32]) = Y0 at *
              generalize str (B ++ ovP ov j) = YY at *
              generalize str ov[j] = XO at *
              go_wp2_with fail
              go_roundw
              case rel => exact ⟨j + 1, by omega, by go_num, by rw [HRj.out], by trivial⟩
              case measure => simp [intOf]; omega
            · have l2 : ((j : Int) == 0) = false := by have h9 : (j : Int) ≠ 0 := (by omega); simpa using h9
              rw [if_neg j0] at eo3
              simp only [List.length_append, List.length_cons, List.length_nil] at eo3
              have s0 : str (B ++ ovP ov j) ++ ⟨#[32, 43, 32]⟩ = str (B ++ ovP ov j ++ [32, 43, 32]) := str_app _ [32, 43, 32]
              have nn0 : ¬ 9223372036854775807 < (str (B ++ ovP ov j)).size + 3 := no_overC (by first | omega | (simp; omega))
              have s1 : str (B ++ ovP ov j ++ [32, 43, 32]) ++ ⟨#[39]⟩ = str (B ++ ovP ov j ++ [32, 43, 32] ++ [39]) := str_app _ [39]
              have nn1 : ¬ 9223372036854775807 < (str (B ++ ovP ov j ++ [32, 43, 32])).size + 1 := no_overC (by first | omega | (simp; omega))
              have s2 : str (B ++ ovP ov j ++ [32, 43, 32] ++ [39]) ++ str ov[j] = str (B ++ ovP ov j ++ [32, 43, 32] ++ [39] ++ ov[j]) := str_app _ _
              have nn2 : ¬ 9223372036854775807 < (str (B ++ ovP ov j ++ [32, 43, 32] ++ [39])).size + (str ov[j]).size := no_over (by first | omega | (simp; omega))
              have sF : str (B ++ ovP ov j ++ [32, 43, 32] ++ [39] ++ ov[j]) = str (B ++ ovP ov (j + 1)) := by rw [ovP_succ ov j h4, if_neg j0]; simp only [List.append_assoc]
              obtain ⟨R, hR⟩ : ∃ R, R = str (B ++ ovP ov (j + 1)) := ⟨_, rfl⟩
              rw [← hR] at sF
              rw [sF] at s2
              have HRj := hid0 hR
              clear hR sF j0 eo3 eo1 eo2 hBl hov HO
              generalize str (B ++ ovP ov j ++ [32, 43, 32] ++ [39]) = Y1 at *
              generalize str (B ++ ovP ov j ++ [32, 43, 32]) = Y0 at *
              generalize str (B ++ ovP ov j) = YY at *
              generalize str ov[j] = XO at *
              go_wp2_with fail
              go_roundw
              case rel => exact ⟨j + 1, by omega, by go_num, by rw [HRj.out], by trivial⟩
              case measure => simp [intOf]; omega
          · have l1 : ¬ (j : Int) < (ov.length : Int) := by omega
            have HRk : Hid (str (B ++ ovP ov j) = str (jn [44, 32] (ps.take (k + 1)))) := by show _ = _; rw [ovP_full ov j hj h4, HEB.out]
            clear HEB HO hBl hov
            generalize str (B ++ ovP ov j) = YY at *
            go_wp2_with fail
            go_roundw
            case rel => exact ⟨k + 1, by omega, by go_num, by rw [HRk.out], by trivial⟩
            case measure => simp [intOf]; omega
    · have i1 : ¬ (k : Int) < (lv.length : Int) := by omega
      have hq := HQ.out
      rw [List.take_of_length_le (by omega)]
      obtain ⟨W, hW⟩ : ∃ W, W = (w.alloc (.cells #[.bool pb, .string XN, .slice a2 lv.length n2, .slice a3 L3 n3, .int .i64 kd, .string XR, .slice r2 k2 m2, .slice r3 k3 m3, .slice a8 L8 n8, .int .i64 ps0] 43)) := ⟨_, rfl⟩
      have R1 : Row W w.heap.size 43 [.bool pb, .string XN, .slice a2 lv.length n2, .slice a3 L3 n3, .int .i64 kd, .string XR, .slice r2 k2 m2, .slice r3 k3 m3, .slice a8 L8 n8, .int .i64 ps0] := by rw [hW]; exact Row.new w 43 [.bool pb, .string XN, .slice a2 lv.length n2, .slice a3 L3 n3, .int .i64 kd, .string XR, .slice r2 k2 m2, .slice r3 k3 m3, .slice a8 L8 n8, .int .i64 ps0]
      have hsz : W.heap.size = w.heap.size + 1 := by rw [hW, size_alloc]
      have HS : Hid (∀ z, Below (w.heap.size + 1) W z → z.cell? ⟨w.heap.size, 0, none⟩ = some (.bool pb) ∧ z.cell? ⟨w.heap.size, 1, none⟩ = some (.string XN) ∧ z.cell? ⟨w.heap.size, 3, none⟩ = some (.slice a3 L3 n3) ∧ z.cell? ⟨w.heap.size, 4, none⟩ = some (.int .i64 kd) ∧ z.cell? ⟨w.heap.size, 5, none⟩ = some (.string XR) ∧ z.cell? ⟨w.heap.size, 6, none⟩ = some (.slice r2 k2 m2) ∧ z.cell? ⟨w.heap.size, 7, none⟩ = some (.slice r3 k3 m3)) := by
        intro z hz
        have r := R1.below hz (Nat.lt_succ_self _)
        exact ⟨r.cell 0, r.cell 1, r.cell 3, r.cell 4, r.cell 5, r.cell 6, r.cell 7⟩
      have HBW : Hid (∀ y, Below (w.heap.size + 1) W y → Below w.heap.size w y) := by
        intro y hy
        have h1 : Below w.heap.size w W := by rw [hW]; exact HB0.out _
        exact h1.trans (below_le hy (Nat.le_succ _))
      have DF2 : Hid (∀ y, Below (w.heap.size + 1) W y → Calls Tryz.prog 29 #[.slice a3 L3 n3] y fun e w' => e = .returned (.string (str TF)) ∧ Below (w.heap.size + 1) W w') := by
        intro y hy
        refine (DF.out y (HBW.out y hy)).mono ?_
        rintro _ _ ⟨rfl, h⟩
        exact ⟨rfl, hy.trans (below_le h (by have := hy.size; omega))⟩
      have fd : Below (w.heap.size + 1) W W.drew := ⟨rfl, rfl, rfl, Nat.le_refl _, fun _ _ => rfl⟩
      clear R1 hsz DF HB0
      by_cases hp : ps = []
      · have eJ : jn [44, 32] ps = [] := by rw [hp]; rfl
        have eA : angT ps = [] := by rw [hp]; rfl
        rw [eJ]
        have qq := str_nil_yes
        have eAs : str [] = str (angT ps) := by rw [eA]
        rw [eAs] at qq ⊢
        clear eAs eA eJ hp hq
        rcases HN.out with ⟨h0, hz⟩ | ⟨h0, hz⟩
        · have b0 : (kd == 0) = true := by rw [h0]; rfl
          clear h0
          have t1 : str TP ++ ⟨#[102, 110, 32]⟩ = str (TP ++ [102, 110, 32]) := str_app _ [102, 110, 32]
          have t2 : str (TP ++ [102, 110, 32]) ++ XN = str (TP ++ [102, 110, 32] ++ TN) := by rw [HXN.out]; exact str_app _ _
          have t3 : str (TP ++ [102, 110, 32] ++ TN) ++ str (angT ps) = str (TP ++ [102, 110, 32] ++ TN ++ angT ps) := str_app _ _
          have t4 : str (TP ++ [102, 110, 32] ++ TN ++ angT ps) ++ ⟨#[40]⟩ = str (TP ++ [102, 110, 32] ++ TN ++ angT ps ++ [40]) := str_app _ [40]
          have t5 : str (TP ++ [102, 110, 32] ++ TN ++ angT ps ++ [40]) ++ str TF = str (TP ++ [102, 110, 32] ++ TN ++ angT ps ++ [40] ++ TF) := str_app _ _
          have t6 : str (TP ++ [102, 110, 32] ++ TN ++ angT ps ++ [40] ++ TF) ++ ⟨#[41]⟩ = str (TP ++ [102, 110, 32] ++ TN ++ angT ps ++ [40] ++ TF ++ [41]) := str_app _ [41]
          have hln := HLn.out
          have u1 : ¬ 9223372036854775807 < (str TP).size + 3 := no_overC (by omega)
          have u2 : ¬ 9223372036854775807 < (str (TP ++ [102, 110, 32])).size + XN.size := by rw [HXN.out]; exact no_over (by simp; omega)
          have u3 : ¬ 9223372036854775807 < (str (TP ++ [102, 110, 32] ++ TN)).size + (str (angT ps)).size := no_over (by simp; omega)
          have u4 : ¬ 9223372036854775807 < (str (TP ++ [102, 110, 32] ++ TN ++ angT ps)).size + 1 := no_overC (by simp; omega)
          have u5 : ¬ 9223372036854775807 < (str (TP ++ [102, 110, 32] ++ TN ++ angT ps ++ [40])).size + (str TF).size := no_over (by simp; omega)
          have u6 : ¬ 9223372036854775807 < (str (TP ++ [102, 110, 32] ++ TN ++ angT ps ++ [40] ++ TF)).size + 1 := no_overC (by simp; omega)
          have HE : Hid (str TH = str (TP ++ [102, 110, 32] ++ TN ++ angT ps ++ [40] ++ TF ++ [41])) := by show _ = _; rw [HH.out, hz]; simp
          clear hln hz HH HLn HXN HN HQ HJ HZ HA HP
          generalize str (TP ++ [102, 110, 32] ++ TN ++ angT ps ++ [40] ++ TF ++ [41]) = Z7 at *
          generalize str (TP ++ [102, 110, 32] ++ TN ++ angT ps ++ [40] ++ TF) = Z6 at *
          generalize str (TP ++ [102, 110, 32] ++ TN ++ angT ps ++ [40]) = Z5 at *
          generalize str (TP ++ [102, 110, 32] ++ TN ++ angT ps) = Z4 at *
          generalize str (TP ++ [102, 110, 32] ++ TN) = Z3 at *
          generalize str (TP ++ [102, 110, 32]) = Z2 at *
          generalize str TP = Z1 at *
          generalize str (angT ps) = ZA at *
          generalize str TF = ZF at *
          go_wp2_with fail
          rw [← hW]
          clear hW
          go_region_held3 (fun z => z.cell? ⟨w.heap.size, 0, none⟩ = some (.bool pb) ∧ z.cell? ⟨w.heap.size, 1, none⟩ = some (.string XN) ∧ z.cell? ⟨w.heap.size, 3, none⟩ = some (.slice a3 L3 n3) ∧ z.cell? ⟨w.heap.size, 4, none⟩ = some (.int .i64 kd) ∧ z.cell? ⟨w.heap.size, 5, none⟩ = some (.string XR) ∧ z.cell? ⟨w.heap.size, 6, none⟩ = some (.slice r2 k2 m2) ∧ z.cell? ⟨w.heap.size, 7, none⟩ = some (.slice r3 k3 m3)) (exact HS.out _ (by assumption)) (first | (go_at_call 28; refine (DP.out _).mono ?_; rintro _ _ ⟨rfl, rfl⟩) | (go_at_call 29; refine (DF2.out _ (by assumption)).mono ?_; rintro _ w1 ⟨rfl, q1⟩))
          all_goals
            obtain ⟨_, _, _, y4, y5, y6, y7⟩ := HS.out _ (by assumption)
            go_wp2_with fail
            go_ret
            exact ⟨by rw [HE.out]; rfl, HBW.out _ (by assumption)⟩
        · have b0 : (kd == 0) = false := by simpa using h0
          have DT : Hid (∀ y, Below (w.heap.size + 1) W y → Calls Tryz.prog 12 #[.agg #[.int .i64 kd, .string XR, .slice r2 k2 m2, .slice r3 k3 m3]] y fun e w' => e = .returned (.string (str TR)) ∧ Below w.heap.size w w') := by
            intro y hy
            refine (DT.out y (HBW.out y hy) h0).mono ?_
            rintro _ _ ⟨rfl, h⟩
            exact ⟨rfl, (HBW.out y hy).trans (below_le h (HBW.out y hy).size)⟩
          clear h0
          have t1 : str TP ++ ⟨#[102, 110, 32]⟩ = str (TP ++ [102, 110, 32]) := str_app _ [102, 110, 32]
          have t2 : str (TP ++ [102, 110, 32]) ++ XN = str (TP ++ [102, 110, 32] ++ TN) := by rw [HXN.out]; exact str_app _ _
          have t3 : str (TP ++ [102, 110, 32] ++ TN) ++ str (angT ps) = str (TP ++ [102, 110, 32] ++ TN ++ angT ps) := str_app _ _
          have t4 : str (TP ++ [102, 110, 32] ++ TN ++ angT ps) ++ ⟨#[40]⟩ = str (TP ++ [102, 110, 32] ++ TN ++ angT ps ++ [40]) := str_app _ [40]
          have t5 : str (TP ++ [102, 110, 32] ++ TN ++ angT ps ++ [40]) ++ str TF = str (TP ++ [102, 110, 32] ++ TN ++ angT ps ++ [40] ++ TF) := str_app _ _
          have t6 : str (TP ++ [102, 110, 32] ++ TN ++ angT ps ++ [40] ++ TF) ++ ⟨#[41]⟩ = str (TP ++ [102, 110, 32] ++ TN ++ angT ps ++ [40] ++ TF ++ [41]) := str_app _ [41]
          have hln := HLn.out
          have u1 : ¬ 9223372036854775807 < (str TP).size + 3 := no_overC (by omega)
          have u2 : ¬ 9223372036854775807 < (str (TP ++ [102, 110, 32])).size + XN.size := by rw [HXN.out]; exact no_over (by simp; omega)
          have u3 : ¬ 9223372036854775807 < (str (TP ++ [102, 110, 32] ++ TN)).size + (str (angT ps)).size := no_over (by simp; omega)
          have u4 : ¬ 9223372036854775807 < (str (TP ++ [102, 110, 32] ++ TN ++ angT ps)).size + 1 := no_overC (by simp; omega)
          have u5 : ¬ 9223372036854775807 < (str (TP ++ [102, 110, 32] ++ TN ++ angT ps ++ [40])).size + (str TF).size := no_over (by simp; omega)
          have u6 : ¬ 9223372036854775807 < (str (TP ++ [102, 110, 32] ++ TN ++ angT ps ++ [40] ++ TF)).size + 1 := no_overC (by simp; omega)
          rw [hz] at hln
          simp only [List.length_append, List.length_cons, List.length_nil] at hln
          have t7 : str (TP ++ [102, 110, 32] ++ TN ++ angT ps ++ [40] ++ TF ++ [41]) ++ ⟨#[32, 45, 62, 32]⟩ = str (TP ++ [102, 110, 32] ++ TN ++ angT ps ++ [40] ++ TF ++ [41] ++ [32, 45, 62, 32]) := str_app _ [32, 45, 62, 32]
          have t8 : str (TP ++ [102, 110, 32] ++ TN ++ angT ps ++ [40] ++ TF ++ [41] ++ [32, 45, 62, 32]) ++ str TR = str (TP ++ [102, 110, 32] ++ TN ++ angT ps ++ [40] ++ TF ++ [41] ++ [32, 45, 62, 32] ++ TR) := str_app _ _
          have u7 : ¬ 9223372036854775807 < (str (TP ++ [102, 110, 32] ++ TN ++ angT ps ++ [40] ++ TF ++ [41])).size + 4 := no_overC (by simp; omega)
          have u8 : ¬ 9223372036854775807 < (str (TP ++ [102, 110, 32] ++ TN ++ angT ps ++ [40] ++ TF ++ [41] ++ [32, 45, 62, 32])).size + (str TR).size := no_over (by simp; omega)
          have HE : Hid (str TH = str (TP ++ [102, 110, 32] ++ TN ++ angT ps ++ [40] ++ TF ++ [41] ++ [32, 45, 62, 32] ++ TR)) := by show _ = _; rw [HH.out, hz]; simp
          clear hln hz HH HLn HXN HN HQ HJ HZ HA HP
          generalize str (TP ++ [102, 110, 32] ++ TN ++ angT ps ++ [40] ++ TF ++ [41] ++ [32, 45, 62, 32] ++ TR) = Z9 at *
          generalize str (TP ++ [102, 110, 32] ++ TN ++ angT ps ++ [40] ++ TF ++ [41] ++ [32, 45, 62, 32]) = Z8 at *
          generalize str (TP ++ [102, 110, 32] ++ TN ++ angT ps ++ [40] ++ TF ++ [41]) = Z7 at *
          generalize str (TP ++ [102, 110, 32] ++ TN ++ angT ps ++ [40] ++ TF) = Z6 at *
          generalize str (TP ++ [102, 110, 32] ++ TN ++ angT ps ++ [40]) = Z5 at *
          generalize str (TP ++ [102, 110, 32] ++ TN ++ angT ps) = Z4 at *
          generalize str (TP ++ [102, 110, 32] ++ TN) = Z3 at *
          generalize str (TP ++ [102, 110, 32]) = Z2 at *
          generalize str TP = Z1 at *
          generalize str (angT ps) = ZA at *
          generalize str TF = ZF at *
          generalize str TR = ZR at *
          go_wp2_with fail
          rw [← hW]
          clear hW
          go_region_held3 (fun z => z.cell? ⟨w.heap.size, 0, none⟩ = some (.bool pb) ∧ z.cell? ⟨w.heap.size, 1, none⟩ = some (.string XN) ∧ z.cell? ⟨w.heap.size, 3, none⟩ = some (.slice a3 L3 n3) ∧ z.cell? ⟨w.heap.size, 4, none⟩ = some (.int .i64 kd) ∧ z.cell? ⟨w.heap.size, 5, none⟩ = some (.string XR) ∧ z.cell? ⟨w.heap.size, 6, none⟩ = some (.slice r2 k2 m2) ∧ z.cell? ⟨w.heap.size, 7, none⟩ = some (.slice r3 k3 m3)) (exact HS.out _ (by assumption)) (first | (go_at_call 28; refine (DP.out _).mono ?_; rintro _ _ ⟨rfl, rfl⟩) | (go_at_call 29; refine (DF2.out _ (by assumption)).mono ?_; rintro _ w1 ⟨rfl, q1⟩))
          all_goals
            obtain ⟨_, _, _, y4, y5, y6, y7⟩ := HS.out _ (by assumption)
            go_wp2_with fail
            refine (DT.out _ (by assumption)).mono ?_
            rintro ev w9 ⟨rfl, q9⟩
            go_wp2_with fail
            go_ret
            exact ⟨by rw [HE.out]; rfl, q9⟩
      · have hne : jn [44, 32] ps ≠ [] := fun h => hp ((jn_empty [44, 32] ps HZ.out).1 h)
        have qq := str_nil_no hne
        have sA1 : ⟨#[60]⟩ ++ str (jn [44, 32] ps) = str ([60] ++ jn [44, 32] ps) := str_app [60] _
        have sA2 : str ([60] ++ jn [44, 32] ps) ++ ⟨#[62]⟩ = str (angT ps) := by
          have : angT ps = [60] ++ jn [44, 32] ps ++ [62] := by unfold angT; rw [if_neg hp]
          rw [this]; exact str_app _ [62]
        have nA0 : (jn [44, 32] ps).length ≤ 140737488355328 := by have := HLn.out; have := HJ.out; omega
        have nA1 : ¬ 9223372036854775807 < 1 + (str (jn [44, 32] ps)).size := by rw [str_size]; omega
        have nA2 : ¬ 9223372036854775807 < (str ([60] ++ jn [44, 32] ps)).size + 1 := no_overC (by simp; omega)
        clear hp hne hq nA0
        generalize str ([60] ++ jn [44, 32] ps) = YA1 at *
        generalize str (jn [44, 32] ps) = YA at *
        rcases HN.out with ⟨h0, hz⟩ | ⟨h0, hz⟩
        · have b0 : (kd == 0) = true := by rw [h0]; rfl
          clear h0
          have t1 : str TP ++ ⟨#[102, 110, 32]⟩ = str (TP ++ [102, 110, 32]) := str_app _ [102, 110, 32]
          have t2 : str (TP ++ [102, 110, 32]) ++ XN = str (TP ++ [102, 110, 32] ++ TN) := by rw [HXN.out]; exact str_app _ _
          have t3 : str (TP ++ [102, 110, 32] ++ TN) ++ str (angT ps) = str (TP ++ [102, 110, 32] ++ TN ++ angT ps) := str_app _ _
          have t4 : str (TP ++ [102, 110, 32] ++ TN ++ angT ps) ++ ⟨#[40]⟩ = str (TP ++ [102, 110, 32] ++ TN ++ angT ps ++ [40]) := str_app _ [40]
          have t5 : str (TP ++ [102, 110, 32] ++ TN ++ angT ps ++ [40]) ++ str TF = str (TP ++ [102, 110, 32] ++ TN ++ angT ps ++ [40] ++ TF) := str_app _ _
          have t6 : str (TP ++ [102, 110, 32] ++ TN ++ angT ps ++ [40] ++ TF) ++ ⟨#[41]⟩ = str (TP ++ [102, 110, 32] ++ TN ++ angT ps ++ [40] ++ TF ++ [41]) := str_app _ [41]
          have hln := HLn.out
          have u1 : ¬ 9223372036854775807 < (str TP).size + 3 := no_overC (by omega)
          have u2 : ¬ 9223372036854775807 < (str (TP ++ [102, 110, 32])).size + XN.size := by rw [HXN.out]; exact no_over (by simp; omega)
          have u3 : ¬ 9223372036854775807 < (str (TP ++ [102, 110, 32] ++ TN)).size + (str (angT ps)).size := no_over (by simp; omega)
          have u4 : ¬ 9223372036854775807 < (str (TP ++ [102, 110, 32] ++ TN ++ angT ps)).size + 1 := no_overC (by simp; omega)
          have u5 : ¬ 9223372036854775807 < (str (TP ++ [102, 110, 32] ++ TN ++ angT ps ++ [40])).size + (str TF).size := no_over (by simp; omega)
          have u6 : ¬ 9223372036854775807 < (str (TP ++ [102, 110, 32] ++ TN ++ angT ps ++ [40] ++ TF)).size + 1 := no_overC (by simp; omega)
          have HE : Hid (str TH = str (TP ++ [102, 110, 32] ++ TN ++ angT ps ++ [40] ++ TF ++ [41])) := by show _ = _; rw [HH.out, hz]; simp
          clear hln hz HH HLn HXN HN HQ HJ HZ HA HP
          generalize str (TP ++ [102, 110, 32] ++ TN ++ angT ps ++ [40] ++ TF ++ [41]) = Z7 at *
          generalize str (TP ++ [102, 110, 32] ++ TN ++ angT ps ++ [40] ++ TF) = Z6 at *
          generalize str (TP ++ [102, 110, 32] ++ TN ++ angT ps ++ [40]) = Z5 at *
          generalize str (TP ++ [102, 110, 32] ++ TN ++ angT ps) = Z4 at *
          generalize str (TP ++ [102, 110, 32] ++ TN) = Z3 at *
          generalize str (TP ++ [102, 110, 32]) = Z2 at *
          generalize str TP = Z1 at *
          generalize str (angT ps) = ZA at *
          generalize str TF = ZF at *
          go_wp2_with fail
          rw [← hW]
          clear hW
          go_region_held3 (fun z => z.cell? ⟨w.heap.size, 0, none⟩ = some (.bool pb) ∧ z.cell? ⟨w.heap.size, 1, none⟩ = some (.string XN) ∧ z.cell? ⟨w.heap.size, 3, none⟩ = some (.slice a3 L3 n3) ∧ z.cell? ⟨w.heap.size, 4, none⟩ = some (.int .i64 kd) ∧ z.cell? ⟨w.heap.size, 5, none⟩ = some (.string XR) ∧ z.cell? ⟨w.heap.size, 6, none⟩ = some (.slice r2 k2 m2) ∧ z.cell? ⟨w.heap.size, 7, none⟩ = some (.slice r3 k3 m3)) (exact HS.out _ (by assumption)) (first | (go_at_call 28; refine (DP.out _).mono ?_; rintro _ _ ⟨rfl, rfl⟩) | (go_at_call 29; refine (DF2.out _ (by assumption)).mono ?_; rintro _ w1 ⟨rfl, q1⟩))
          all_goals
            obtain ⟨_, _, _, y4, y5, y6, y7⟩ := HS.out _ (by assumption)
            go_wp2_with fail
            go_ret
            exact ⟨by rw [HE.out]; rfl, HBW.out _ (by assumption)⟩
        · have b0 : (kd == 0) = false := by simpa using h0
          have DT : Hid (∀ y, Below (w.heap.size + 1) W y → Calls Tryz.prog 12 #[.agg #[.int .i64 kd, .string XR, .slice r2 k2 m2, .slice r3 k3 m3]] y fun e w' => e = .returned (.string (str TR)) ∧ Below w.heap.size w w') := by
            intro y hy
            refine (DT.out y (HBW.out y hy) h0).mono ?_
            rintro _ _ ⟨rfl, h⟩
            exact ⟨rfl, (HBW.out y hy).trans (below_le h (HBW.out y hy).size)⟩
          clear h0
          have t1 : str TP ++ ⟨#[102, 110, 32]⟩ = str (TP ++ [102, 110, 32]) := str_app _ [102, 110, 32]
          have t2 : str (TP ++ [102, 110, 32]) ++ XN = str (TP ++ [102, 110, 32] ++ TN) := by rw [HXN.out]; exact str_app _ _
          have t3 : str (TP ++ [102, 110, 32] ++ TN) ++ str (angT ps) = str (TP ++ [102, 110, 32] ++ TN ++ angT ps) := str_app _ _
          have t4 : str (TP ++ [102, 110, 32] ++ TN ++ angT ps) ++ ⟨#[40]⟩ = str (TP ++ [102, 110, 32] ++ TN ++ angT ps ++ [40]) := str_app _ [40]
          have t5 : str (TP ++ [102, 110, 32] ++ TN ++ angT ps ++ [40]) ++ str TF = str (TP ++ [102, 110, 32] ++ TN ++ angT ps ++ [40] ++ TF) := str_app _ _
          have t6 : str (TP ++ [102, 110, 32] ++ TN ++ angT ps ++ [40] ++ TF) ++ ⟨#[41]⟩ = str (TP ++ [102, 110, 32] ++ TN ++ angT ps ++ [40] ++ TF ++ [41]) := str_app _ [41]
          have hln := HLn.out
          have u1 : ¬ 9223372036854775807 < (str TP).size + 3 := no_overC (by omega)
          have u2 : ¬ 9223372036854775807 < (str (TP ++ [102, 110, 32])).size + XN.size := by rw [HXN.out]; exact no_over (by simp; omega)
          have u3 : ¬ 9223372036854775807 < (str (TP ++ [102, 110, 32] ++ TN)).size + (str (angT ps)).size := no_over (by simp; omega)
          have u4 : ¬ 9223372036854775807 < (str (TP ++ [102, 110, 32] ++ TN ++ angT ps)).size + 1 := no_overC (by simp; omega)
          have u5 : ¬ 9223372036854775807 < (str (TP ++ [102, 110, 32] ++ TN ++ angT ps ++ [40])).size + (str TF).size := no_over (by simp; omega)
          have u6 : ¬ 9223372036854775807 < (str (TP ++ [102, 110, 32] ++ TN ++ angT ps ++ [40] ++ TF)).size + 1 := no_overC (by simp; omega)
          rw [hz] at hln
          simp only [List.length_append, List.length_cons, List.length_nil] at hln
          have t7 : str (TP ++ [102, 110, 32] ++ TN ++ angT ps ++ [40] ++ TF ++ [41]) ++ ⟨#[32, 45, 62, 32]⟩ = str (TP ++ [102, 110, 32] ++ TN ++ angT ps ++ [40] ++ TF ++ [41] ++ [32, 45, 62, 32]) := str_app _ [32, 45, 62, 32]
          have t8 : str (TP ++ [102, 110, 32] ++ TN ++ angT ps ++ [40] ++ TF ++ [41] ++ [32, 45, 62, 32]) ++ str TR = str (TP ++ [102, 110, 32] ++ TN ++ angT ps ++ [40] ++ TF ++ [41] ++ [32, 45, 62, 32] ++ TR) := str_app _ _
          have u7 : ¬ 9223372036854775807 < (str (TP ++ [102, 110, 32] ++ TN ++ angT ps ++ [40] ++ TF ++ [41])).size + 4 := no_overC (by simp; omega)
          have u8 : ¬ 9223372036854775807 < (str (TP ++ [102, 110, 32] ++ TN ++ angT ps ++ [40] ++ TF ++ [41] ++ [32, 45, 62, 32])).size + (str TR).size := no_over (by simp; omega)
          have HE : Hid (str TH = str (TP ++ [102, 110, 32] ++ TN ++ angT ps ++ [40] ++ TF ++ [41] ++ [32, 45, 62, 32] ++ TR)) := by show _ = _; rw [HH.out, hz]; simp
          clear hln hz HH HLn HXN HN HQ HJ HZ HA HP
          generalize str (TP ++ [102, 110, 32] ++ TN ++ angT ps ++ [40] ++ TF ++ [41] ++ [32, 45, 62, 32] ++ TR) = Z9 at *
          generalize str (TP ++ [102, 110, 32] ++ TN ++ angT ps ++ [40] ++ TF ++ [41] ++ [32, 45, 62, 32]) = Z8 at *
          generalize str (TP ++ [102, 110, 32] ++ TN ++ angT ps ++ [40] ++ TF ++ [41]) = Z7 at *
          generalize str (TP ++ [102, 110, 32] ++ TN ++ angT ps ++ [40] ++ TF) = Z6 at *
          generalize str (TP ++ [102, 110, 32] ++ TN ++ angT ps ++ [40]) = Z5 at *
          generalize str (TP ++ [102, 110, 32] ++ TN ++ angT ps) = Z4 at *
          generalize str (TP ++ [102, 110, 32] ++ TN) = Z3 at *
          generalize str (TP ++ [102, 110, 32]) = Z2 at *
          generalize str TP = Z1 at *
          generalize str (angT ps) = ZA at *
          generalize str TF = ZF at *
          generalize str TR = ZR at *
          go_wp2_with fail
          rw [← hW]
          clear hW
          go_region_held3 (fun z => z.cell? ⟨w.heap.size, 0, none⟩ = some (.bool pb) ∧ z.cell? ⟨w.heap.size, 1, none⟩ = some (.string XN) ∧ z.cell? ⟨w.heap.size, 3, none⟩ = some (.slice a3 L3 n3) ∧ z.cell? ⟨w.heap.size, 4, none⟩ = some (.int .i64 kd) ∧ z.cell? ⟨w.heap.size, 5, none⟩ = some (.string XR) ∧ z.cell? ⟨w.heap.size, 6, none⟩ = some (.slice r2 k2 m2) ∧ z.cell? ⟨w.heap.size, 7, none⟩ = some (.slice r3 k3 m3)) (exact HS.out _ (by assumption)) (first | (go_at_call 28; refine (DP.out _).mono ?_; rintro _ _ ⟨rfl, rfl⟩) | (go_at_call 29; refine (DF2.out _ (by assumption)).mono ?_; rintro _ w1 ⟨rfl, q1⟩))
          all_goals
            obtain ⟨_, _, _, y4, y5, y6, y7⟩ := HS.out _ (by assumption)
            go_wp2_with fail
            refine (DT.out _ (by assumption)).mono ?_
            rintro ev w9 ⟨rfl, q9⟩
            go_wp2_with fail
            go_ret
            exact ⟨by rw [HE.out]; rfl, q9⟩
end Go.Proofs.YtlbhaaldndjigaaGreatDoor
