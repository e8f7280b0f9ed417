/-
  The texts Yfn, Ymy, joined.
-/
import Derived.Test.YtjenmmkamhplkaaGreatJqmaYst3
import Derived.Test.YtjenmmkamhplkaaGreatJqmaStm2
namespace Go.Proofs.YtjenmmkamhplkaaGreat
open Go.RowKit
def Fst (w : World) (cs : List Value) (W : World) : Prop := Below w.heap.size w W /\ Row W w.heap.size 40 cs
theorem Fst.call {w W W' : World} {cs : List Value} (h : Fst w cs W) (hb : Below W.heap.size W W') : Fst w cs W' :=
 ⟨h.1.trans (below_le hb h.1.size), h.2.below hb h.2.lt⟩
theorem Fst.start (w : World) (cs : List Value) : Fst w cs (w.alloc (.cells cs.toArray 40)) := ⟨alloc_one _ _, Row.new w 40 cs⟩
set_option maxHeartbeats 8000000 in
set_option maxRecDepth 20000 in
theorem xfncMay_any {n : Nat} {K : Ctx} {w : World} (he : Env K w) {x : Fnc} {cs : List Value} (hx : FncAt n K w cs x) (hcn : cnt n x.body <= 4611686018427387904) (B : Bool) (hB : B = true ↔ MayFnc n x) :
  Calls Tryz.prog 29 #[.agg cs.toArray] w (Rb B w) := by
 obtain ⟨v2, v3, ts, v8, rfl, hnl, hli, hpa, hre, hbo⟩ := hx
 obtain ⟨t0, t1, t2, t3, rfl⟩ := list4 hre.len
 obtain ⟨lp, lc, rfl, hlc, hlb, hLA⟩ := id hli.shape
 obtain ⟨pp, pc, rfl⟩ := hpa.form
 obtain ⟨bp, bc, rfl⟩ := hbo.form
 have hl9 : x.lives.length <= 9223372036854775807 := by omega
 have hK : ∀ W, Below w.heap.size w W -> Below K.C w W := fun W hW => below_le hW he.C
 have CN : Hid (∀ W, Calls Tryz.prog 26 #[.string (str x.name)] W (Rb (nameB x.name) W)) := fun W => xname_any x.name (Nat.le_trans hnl (Nat.le_trans he.B (by omega))) W
 obtain ⟨bpa, hbpa⟩ := pbool (x.params.length <= 64 /\ ∀ p ∈ x.params, fldB true p)
 have CP : Hid (∀ W, Below w.heap.size w W -> Calls Tryz.prog 28 #[.slice pp x.params.length pc, .bool true] W (Rb bpa W)) := fun W hW => xparts_any (he.below (hK W hW)) (hpa.mono (hK W hW) fun _ _ _ h => h.below (hK W hW)) true bpa hbpa
 obtain ⟨bu, hbu⟩ := pbool (x.result = Ty.zero)
 have CU : Hid (∀ W, Below w.heap.size w W -> Calls Tryz.prog 16 #[.agg #[t0, t1, t2, t3], .agg #[.int .i64 0, .string ⟨#[]⟩, .slice none 0 0, .slice none 0 0]] W (Rb bu W)) := fun W hW => xsameType_any (cs' := tyCells 0) (Nat.le_trans he.C hW.size) (y := Ty.zero) (hre.below (hK W hW)) ⟨1, _, _, rfl, by simp [Ty.zero], nil_ar, nil_ar⟩ bu hbu
 obtain ⟨bt, hbt⟩ := pbool (MayTy 64 x.result)
 have CT : Hid (∀ W, Below w.heap.size w W -> Calls Tryz.prog 58 #[.agg #[t0, t1, t2, t3], .int .i64 1] W (Rb bt W)) := fun W hW => by
  obtain ⟨Nt, kt'⟩ := hre.below (hK W hW)
  exact xty_any 64 (he.below (hK W hW)) (d := 1) rfl kt' bt hbt
 obtain ⟨bb, hbb⟩ := pbool (MayBlk 64 x.body)
 have CB : Hid (∀ W, Below w.heap.size w W -> Calls Tryz.prog 59 #[.slice bp x.body.length bc, .int .i64 1] W (Rb bb W)) := fun W hW => xst_any 64 (he.below (hK W hW)) (d := 1) rfl (hbo.mono (hK W hW) fun _ _ _ h => h.below (hK W hW)) bb hbb
 have CC : Hid (∀ W, Below w.heap.size w W -> Calls Tryz.prog 17 #[.slice bp x.body.length bc] W fun ev w' => ev = .returned (.int .i64 (cnt n x.body : Int)) /\ Below W.heap.size W w') := fun W hW => by
  rw [← cw_small n x.body hcn]
  refine (xcount_any n (hbo.mono (hK W hW) fun _ _ _ h => h.below (hK W hW))).mono ?_
  rintro _ _ ⟨rfl, m, rfl⟩
  exact ⟨rfl, Below.drewN _ _ _⟩
 have CL : Hid (∀ i (h : i < x.lives.length), ∃ (b o : Nat) (S : ByteArray) (v : Value), lp = some ⟨b, o, none⟩ /\ (∀ W, Below w.heap.size w W -> W.cell? ⟨b, o + i * 2, none⟩ = some (.string S) /\ W.cell? ⟨b, o + i * 2 + 1, none⟩ = some v) /\
   (∀ W, Calls Tryz.prog 56 #[.string S] W fun ev w' => ev = .returned (.bool (lifeB x.lives[i].name)) /\ w' = W) /\ (∀ W, Below w.heap.size w W -> Calls Tryz.prog 27 #[v] W fun ev w' => ev = .returned (.bool (livesB x.lives[i].over)) /\ w' = W)) := by
  intro i h
  obtain ⟨b, o, e, hbC, cs, hl, hcs, v1, rfl, hn1, h1⟩ := hLA i h
  refine ⟨b, o, str x.lives[i].name, v1, e, fun W hw => ?_, fun W => xlife_any _ (Nat.le_trans hn1 (Nat.le_trans he.B (by omega))) W, fun W hw => xlives_any he.B (h1.below (hK W hw))⟩
  have f : ∀ j, j < 2 -> W.cell? ⟨b, o + i * 2 + j, none⟩ = [.string (str x.lives[i].name), v1][j]? := fun j hj => ((hK W hw).cell (p := ⟨b, o + i * 2 + j, none⟩) hbC).trans (hcs j hj)
  exact ⟨f 0 (by decide), f 1 (by decide)⟩
 have HB : Hid (B = true ↔ MayFnc n x) := hB
 have HPA := hid hbpa
 have hp64 : (x.params.length <= 64 /\ ∀ p ∈ x.params, fldB true p) ↔ (x.params.length <= 64 /\ ∀ p ∈ x.params, MayPar p) := by
  unfold fldB
  simp
 have HP4 := hid hp64
 have F0 := hid (Fst.start w [.bool x.pub, .string (str x.name), .slice lp x.lives.length lc, .slice pp x.params.length pc, t0, t1, t2, t3, .slice bp x.body.length bc, .int .i64 x.pos])
 have HCE : Hid (∀ W, Fst w [.bool x.pub, .string (str x.name), .slice lp x.lives.length lc, .slice pp x.params.length pc, t0, t1, t2, t3, .slice bp x.body.length bc, .int .i64 x.pos] W -> W.cell? ⟨w.heap.size, 1, none⟩ = some (.string (str x.name)) /\ W.cell? ⟨w.heap.size, 2, none⟩ = some (.slice lp x.lives.length lc) /\ W.cell? ⟨w.heap.size, 3, none⟩ = some (.slice pp x.params.length pc) /\ W.cell? ⟨w.heap.size, 4, none⟩ = some t0 /\ W.cell? ⟨w.heap.size, 4 + 1, none⟩ = some t1 /\ W.cell? ⟨w.heap.size, 4 + 2, none⟩ = some t2 /\ W.cell? ⟨w.heap.size, 4 + 3, none⟩ = some t3 /\ W.cell? ⟨w.heap.size, 8, none⟩ = some (.slice bp x.body.length bc)) := fun W h =>
  ⟨h.2.cell 1, h.2.cell 2, h.2.cell 3, h.2.cell 4, h.2.cell 5, h.2.cell 6, h.2.cell 7, h.2.cell 8⟩
 have ONE : Hid ([.bool x.pub, .string (str x.name), .slice lp x.lives.length lc, .slice pp x.params.length pc, t0, t1, t2, t3, .slice bp x.body.length bc, .int .i64 x.pos].toArray.all (·.oneCell') = true) := all_one (by
  have ht := hre.one
  refine ones_cons rfl (ones_cons rfl (ones_cons rfl (ones_cons rfl ?_)))
  exact ones_app (a := [t0, t1, t2, t3]) ht (ones_cons rfl (ones_cons rfl ones_nil)))
 clear hB hbpa hp64 hnl hli hpa hbo hlc hlb hLA hre hcn he
 obtain ⟨FS, hFS⟩ : ∃ F : World -> Prop, F = Fst w [.bool x.pub, .string (str x.name), .slice lp x.lives.length lc, .slice pp x.params.length pc, t0, t1, t2, t3, .slice bp x.body.length bc, .int .i64 x.pos] := ⟨_, rfl⟩
 have FC : Hid (∀ W W', FS W -> Below W.heap.size W W' -> FS W') := by rw [hFS]; exact fun W W' h hb => h.call hb
 have FB : Hid (∀ W, FS W -> Below w.heap.size w W) := by rw [hFS]; exact fun W h => h.1
 rw [← hFS] at HCE
 have F0' : Hid (FS (w.alloc (.cells #[.bool x.pub, .string (str x.name), .slice lp x.lives.length lc, .slice pp x.params.length pc, t0, t1, t2, t3, .slice bp x.body.length bc, .int .i64 x.pos] 40))) := by rw [hFS]; exact F0.out
 clear F0 hFS
 have e0 := HCE.out _ F0'.out
 obtain ⟨e1, -⟩ := e0
 have NX : Hid (nameB x.name = false -> B = false) := fun h => bool_false HB.out fun h' => by rw [h'.1] at h; cases h
 have LX : Hid (¬ x.lives.length <= 64 -> B = false) := fun h => bool_false HB.out fun h' => h h'.2.1.1
 have PX : Hid (bpa = false -> B = false) := fun h => bool_false HB.out fun h' => by
  have := HPA.out.2 (HP4.out.2 h'.2.2.1)
  rw [h] at this
  cases this
 have EX : Hid (∀ i (h : i < x.lives.length), ¬ (lifeB x.lives[i].name = true /\ livesB x.lives[i].over = true) -> B = false) := fun i h hn => bool_false HB.out fun h' => hn (h'.2.1.2 _ (List.getElem_mem h))
 have UX : Hid (bu = false -> bt = false -> B = false) := fun h1 h2 => bool_false HB.out fun h' => by
  rcases h'.2.2.2.1 with h | h
  ·have := hbu.2 h
   rw [h1] at this
   cases this
  ·have := hbt.2 h
   rw [h2] at this
   cases this
 have BX : Hid (bb = false -> B = false) := fun h => bool_false HB.out fun h' => by
  have := hbb.2 h'.2.2.2.2.1
  rw [h] at this
  cases this
 have CX : Hid (¬ cnt n x.body <= 2000 -> B = false) := fun h => bool_false HB.out fun h' => h h'.2.2.2.2.2
 have OK : Hid (nameB x.name = true -> x.lives.length <= 64 -> bpa = true -> (∀ i (h : i < x.lives.length), lifeB x.lives[i].name = true /\ livesB x.lives[i].over = true) -> (bu = true ∨ bt = true) -> bb = true -> cnt n x.body <= 2000 -> B = true) := by
  intro h1 h2 h3 h4 h5 h6 h7
  refine HB.out.2 ⟨h1, ⟨h2, fun l hl => ?_⟩, HP4.out.1 (HPA.out.1 h3), ?_, hbb.1 h6, h7⟩
  ·obtain ⟨i, hi, rfl⟩ := List.getElem_of_mem hl
   exact h4 i hi
  ·rcases h5 with h | h
   ·exact .inl (hbu.1 h)
   ·exact .inr (hbt.1 h)
 clear HB HPA HP4 hbu hbt hbb
 generalize nameB x.name = bn, str x.name = nm, x.pub = pb, x.pos = ps, x.params.length = np, x.body.length = nb, cnt n x.body = cb, x.lives = LL at *
 go_enter Tryz.func29, Tryz.ntmps29
 go_wp2_with fail
 refine (CN.out _).mono ?_
 rintro _ w1 ⟨rfl, b1⟩
 have F1 := hid (FC.out _ _ F0'.out b1)
 clear b1 F0' e1 CN
 obtain ⟨-, d2, d3, -⟩ := HCE.out _ F1.out
 cases bn with
 | false =>
  have HF := hid (NX.out rfl)
  clear HCE CP CU CT CB CC CL
  go_wp2_with fail
  go_ret
  exact ⟨by rw [HF.out]; rfl, FB.out _ F1.out⟩
 | true =>
 by_cases h64 : LL.length <= 64
 rotate_left
 ·have HF := hid (LX.out h64)
  have i64 : (64 : Int) < (LL.length : Int) := by omega
  clear HCE CP CU CT CB CC CL h64
  go_wp2_with fail
  go_ret
  exact ⟨by rw [HF.out]; rfl, FB.out _ F1.out⟩
 have i64 : ¬ (64 : Int) < (LL.length : Int) := by omega
 go_wp2_with fail
 refine (CP.out _ (FB.out _ F1.out)).mono ?_
 rintro _ w2 ⟨rfl, b2⟩
 have F2 := hid (FC.out _ _ F1.out b2)
 clear b2 F1 d2 d3 CP
 cases bpa with
 | false =>
  have HF := hid (PX.out rfl)
  clear HCE CU CT CB CC CL
  go_wp2_with fail
  go_ret
  exact ⟨by rw [HF.out]; rfl, FB.out _ F2.out⟩
 | true =>
 go_wp2_with fail
 go_loopw [3] (fun i wr => ∃ k : Nat, k <= LL.length /\ i = .int .i64 k /\ (∀ j (h : j < LL.length), j < k -> lifeB LL[j].name = true /\ livesB LL[j].over = true) /\ FS wr) (fun i _ => LL.length - (intOf i).toNat)
 case atStart => exact ⟨0, by omega, rfl, fun j _ h => by omega, F2.out⟩
 case round =>
  obtain ⟨k, hk, rfl, hj, hf⟩ := hrel
  have HJ := hid hj
  have FW := hid hf
  clear hj hf F2
  obtain ⟨-, d2, d3, f0, f1, f2, f3, f8⟩ := HCE.out _ FW.out
  by_cases h3 : k < LL.length
  ·have i1 : (k : Int) < (LL.length : Int) := by omega
   obtain ⟨b, o, SS, v, rfl, hcell, hc1, hc2⟩ := CL.out k h3
   obtain ⟨m0, m1⟩ := hcell wr (FB.out _ FW.out)
   have C1 := hid (hc1 wr)
   have C2 := hid (hc2 wr (FB.out _ FW.out))
   have HJ' : Hid (lifeB LL[k].name = true /\ livesB LL[k].over = true -> ∀ j (h : j < LL.length), j < k + 1 -> lifeB LL[j].name = true /\ livesB LL[j].over = true) := by
    intro e j h hjk
    rcases Nat.lt_or_ge j k with h' | h'
    ·exact HJ.out j h h'
    ·obtain rfl : j = k := by omega
     exact e
   have HFX : Hid (¬ (lifeB LL[k].name = true /\ livesB LL[k].over = true) -> B = false) := EX.out k h3
   clear hcell hc1 hc2
   generalize lifeB LL[k].name = g1, livesB LL[k].over = g2 at *
   cases g1 with
   | false =>
    have HF := hid (HFX.out fun h => by cases h.1)
    clear HCE CU CT CB CC CL OK
    go_wp2_with fail
    refine C1.out.mono ?_
    rintro _ _ ⟨rfl, rfl⟩
    go_wp2_with fail
    go_ret
    exact ⟨by rw [HF.out]; rfl, FB.out _ FW.out⟩
   | true =>
   go_wp2_with fail
   refine C1.out.mono ?_
   rintro _ w3 ⟨rfl, hw3⟩
   replace hw3 := hw3.symm
   subst hw3
   go_wp2_with fail
   refine C2.out.mono ?_
   rintro _ w3 ⟨rfl, hw3⟩
   replace hw3 := hw3.symm
   subst hw3
   cases g2 with
   | false =>
    have HF := hid (HFX.out fun h => by cases h.2)
    clear HCE CU CT CB CC CL OK
    go_wp2_with fail
    go_ret
    exact ⟨by rw [HF.out]; rfl, FB.out _ FW.out⟩
   | true =>
    have HJ2 := hid (HJ'.out ⟨by first | rfl | trivial, by first | rfl | trivial⟩)
    go_wp2_with fail
    go_roundw
    case rel => exact ⟨k + 1, by omega, by go_num, HJ2.out, FW.out⟩
    case measure => simp [intOf]; omega
  ·have i1 : ¬ (k : Int) < (LL.length : Int) := by omega
   have OK2 : Hid ((bu = true ∨ bt = true) -> bb = true -> cb <= 2000 -> B = true) := OK.out (by first | rfl | trivial) h64 (by first | rfl | trivial) fun i h => HJ.out i h (by omega)
   clear OK CL EX HJ
   go_wp2_with fail
   refine (CU.out _ (FB.out _ FW.out)).mono ?_
   rintro _ w3 ⟨rfl, b3⟩
   have F3 := hid (FC.out _ _ FW.out b3)
   clear b3 FW d2 d3 f0 f1 f2 f3 f8 CU
   obtain ⟨-, -, -, f0, f1, f2, f3, f8⟩ := HCE.out _ F3.out
   cases bu with
   | true =>
    go_wp2_with fail
    refine (CB.out _ (FB.out _ F3.out)).mono ?_
    rintro _ w5 ⟨rfl, b5⟩
    have F5 := hid (FC.out _ _ F3.out b5)
    clear b5 F3 f8 CB
    cases bb with
    | false =>
     have HF := hid (BX.out rfl)
     clear HCE CC
     go_wp2_with fail
     go_ret
     exact ⟨by rw [HF.out]; rfl, FB.out _ F5.out⟩
    | true =>
     obtain ⟨-, -, -, -, -, -, -, f8⟩ := HCE.out _ F5.out
     clear HCE
     go_wp2_with fail
     refine (CC.out _ (FB.out _ F5.out)).mono ?_
     rintro _ w6 ⟨rfl, b6⟩
     have F6 := hid (FC.out _ _ F5.out b6)
     clear b6 F5 f8 CC
     by_cases hc : cb <= 2000
     ·have i2 : (cb : Int) <= 2000 := by omega
      have HF := hid (OK2.out (.inl (by first | rfl | trivial)) (by first | rfl | trivial) hc)
      go_wp2_with fail
      go_ret
      exact ⟨by rw [HF.out]; first | rfl | (show Ending.returned (.bool (decide ((cb : Int) <= 2000))) = _; rw [decide_eq_true (by omega)]), FB.out _ F6.out⟩
     ·have i2 : ¬ (cb : Int) <= 2000 := by omega
      have HF := hid (CX.out hc)
      go_wp2_with fail
      go_ret
      exact ⟨by rw [HF.out]; first | rfl | (show Ending.returned (.bool (decide ((cb : Int) <= 2000))) = _; rw [decide_eq_false (by omega)]), FB.out _ F6.out⟩
   | false =>
    go_wp2_with fail
    refine (CT.out _ (FB.out _ F3.out)).mono ?_
    rintro _ w4 ⟨rfl, b4⟩
    have F4 := hid (FC.out _ _ F3.out b4)
    clear b4 F3 f0 f1 f2 f3 f8 CT
    cases bt with
    | false =>
     have HF := hid (UX.out (by first | rfl | trivial) (by first | rfl | trivial))
     clear HCE CB CC
     go_wp2_with fail
     go_ret
     exact ⟨by rw [HF.out]; rfl, FB.out _ F4.out⟩
    | true =>
     obtain ⟨-, -, -, -, -, -, -, f8⟩ := HCE.out _ F4.out
     go_wp2_with fail
     refine (CB.out _ (FB.out _ F4.out)).mono ?_
     rintro _ w5 ⟨rfl, b5⟩
     have F5 := hid (FC.out _ _ F4.out b5)
     clear b5 F4 f8 CB
     cases bb with
     | false =>
      have HF := hid (BX.out rfl)
      clear HCE CC
      go_wp2_with fail
      go_ret
      exact ⟨by rw [HF.out]; rfl, FB.out _ F5.out⟩
     | true =>
      obtain ⟨-, -, -, -, -, -, -, f8⟩ := HCE.out _ F5.out
      clear HCE
      go_wp2_with fail
      refine (CC.out _ (FB.out _ F5.out)).mono ?_
      rintro _ w6 ⟨rfl, b6⟩
      have F6 := hid (FC.out _ _ F5.out b6)
      clear b6 F5 f8 CC
      by_cases hc : cb <= 2000
      ·have i2 : (cb : Int) <= 2000 := by omega
       have HF := hid (OK2.out (.inr (by first | rfl | trivial)) (by first | rfl | trivial) hc)
       go_wp2_with fail
       go_ret
       exact ⟨by rw [HF.out]; first | rfl | (show Ending.returned (.bool (decide ((cb : Int) <= 2000))) = _; rw [decide_eq_true (by omega)]), FB.out _ F6.out⟩
      ·have i2 : ¬ (cb : Int) <= 2000 := by omega
       have HF := hid (CX.out hc)
       go_wp2_with fail
       go_ret
       exact ⟨by rw [HF.out]; first | rfl | (show Ending.returned (.bool (decide ((cb : Int) <= 2000))) = _; rw [decide_eq_false (by omega)]), FB.out _ F6.out⟩

def Cst (w : World) (cs : List Value) (W : World) : Prop := Below w.heap.size w W /\ Row W w.heap.size 25 cs
theorem Cst.call {w W W' : World} {cs : List Value} (h : Cst w cs W) (hb : Below W.heap.size W W') : Cst w cs W' :=
 ⟨h.1.trans (below_le hb h.1.size), h.2.below hb h.2.lt⟩
theorem Cst.start (w : World) (cs : List Value) : Cst w cs (w.alloc (.cells cs.toArray 25)) := ⟨alloc_one _ _, Row.new w 25 cs⟩
theorem sct_may (s : Sct) : MaySct s ↔ nameB s.name = true /\ livesB s.lives = true /\ (s.fields.length <= 64 /\ ∀ x ∈ s.fields, fldB false x) := by
 unfold MaySct livesB fldB MayFld
 simp
set_option maxHeartbeats 8000000 in
set_option maxRecDepth 20000 in
theorem xmay_any {n : Nat} {K : Ctx} {w : World} (he : Env K w) {c : Crt} {cs : List Value} (hx : CrtAt n K w cs c) (hcn : ∀ f ∈ c.funcs, cnt n f.body <= 4611686018427387904) (B : Bool) (hB : B = true ↔ MayCrt n c) :
  Calls Tryz.prog 10 #[.agg cs.toArray] w (Rb B w) := by
 obtain ⟨v0, v1, rfl, hs, hf⟩ := hx
 obtain ⟨sp, sc, rfl, hsc, hsb, hSA⟩ := id hs.shape
 obtain ⟨fp, fc, rfl, hfc, hfb, hFA⟩ := id hf.shape
 have hs9 : c.structs.length <= 9223372036854775807 := by omega
 have hf9 : c.funcs.length <= 9223372036854775807 := by omega
 have hK : ∀ W, Below w.heap.size w W -> Below K.C w W := fun W hW => below_le hW he.C
 have CS : Hid (∀ i (h : i < c.structs.length), ∃ (b o : Nat) (pb : Bool) (S : ByteArray) (v2 v3 : Value) (ps : Int) (bn bl bf : Bool), sp = some ⟨b, o, none⟩ /\ (v2.oneCell' = true /\ v3.oneCell' = true) /\ (∀ W, Below w.heap.size w W -> W.cell? ⟨b, o + i * 5, none⟩ = some (.bool pb) /\ W.cell? ⟨b, o + i * 5 + 1, none⟩ = some (.string S) /\ W.cell? ⟨b, o + i * 5 + 2, none⟩ = some v2 /\ W.cell? ⟨b, o + i * 5 + 3, none⟩ = some v3 /\ W.cell? ⟨b, o + i * 5 + 4, none⟩ = some (.int .i64 ps)) /\
   (∀ W, Below w.heap.size w W -> Calls Tryz.prog 26 #[.string S] W (Rb bn W)) /\ (∀ W, Below w.heap.size w W -> Calls Tryz.prog 27 #[v2] W (Rb bl W)) /\ (∀ W, Below w.heap.size w W -> Calls Tryz.prog 28 #[v3, .bool false] W (Rb bf W)) /\ (MaySct c.structs[i] ↔ bn = true /\ bl = true /\ bf = true)) := by
  intro i h
  obtain ⟨b, o, e, hbC, cs, hl, hcs, v2, v3, rfl, hn1, h2, h3⟩ := hSA i h
  obtain ⟨bf, hbf⟩ := pbool (c.structs[i].fields.length <= 64 /\ ∀ x ∈ c.structs[i].fields, fldB false x)
  obtain ⟨p2, m2, e2⟩ := h2.form
  obtain ⟨p3, m3, e3⟩ := h3.form
  refine ⟨b, o, c.structs[i].pub, str c.structs[i].name, v2, v3, c.structs[i].pos, nameB c.structs[i].name, livesB c.structs[i].lives, bf, e, ⟨by rw [e2]; rfl, by rw [e3]; rfl⟩, fun W hw => ?_, fun W _ => xname_any _ (Nat.le_trans hn1 (Nat.le_trans he.B (by omega))) W, fun W hw => ?_, fun W hw => xparts_any (he.below (hK W hw)) (h3.mono (hK W hw) fun _ _ _ h => h.below (hK W hw)) false bf hbf, ?_⟩
  ·have f : ∀ j, j < 5 -> W.cell? ⟨b, o + i * 5 + j, none⟩ = [.bool c.structs[i].pub, .string (str c.structs[i].name), v2, v3, .int .i64 c.structs[i].pos][j]? := fun j hj => ((hK W hw).cell (p := ⟨b, o + i * 5 + j, none⟩) hbC).trans (hcs j hj)
   exact ⟨f 0 (by decide), f 1 (by decide), f 2 (by decide), f 3 (by decide), f 4 (by decide)⟩
  ·refine (xlives_any he.B (h2.below (hK W hw))).mono ?_
   rintro _ _ ⟨rfl, rfl⟩
   exact ⟨rfl, Below.refl _ _⟩
  ·rw [sct_may, hbf]
 have CF : Hid (∀ i (h : i < c.funcs.length), ∃ (b o : Nat) (cs : List Value) (bf : Bool), fp = some ⟨b, o, none⟩ /\ cs.length = 10 /\ (∀ W, Below w.heap.size w W -> W.rangeAt b (o + i * 10) cs) /\
   (∀ W, Below w.heap.size w W -> Calls Tryz.prog 29 #[.agg cs.toArray] W (Rb bf W)) /\ (MayFnc n c.funcs[i] ↔ bf = true)) := by
  intro i h
  obtain ⟨b, o, e, hbC, cs, hl, hcs, kx⟩ := hFA i h
  obtain ⟨bf, hbf⟩ := pbool (MayFnc n c.funcs[i])
  refine ⟨b, o, cs, bf, e, hl, fun W hw j u hj => ?_, fun W hw => xfncMay_any (he.below (hK W hw)) (kx.below (hK W hw)) (hcn _ (List.getElem_mem h)) bf hbf, hbf.symm⟩
  have hj' : j < 10 := by rw [← hl]; exact (List.getElem?_eq_some_iff.1 hj).1
  rw [(hK W hw).cell (p := ⟨b, o + i * 10 + j, none⟩) hbC, hcs j hj']
  exact hj
 have HB : Hid (B = true ↔ MayCrt n c) := hB
 have F0 := hid (Cst.start w [.slice sp c.structs.length sc, .slice fp c.funcs.length fc])
 obtain ⟨FS, hFS⟩ : ∃ F : World -> Prop, F = Cst w [.slice sp c.structs.length sc, .slice fp c.funcs.length fc] := ⟨_, rfl⟩
 have FC : Hid (∀ W W', FS W -> Below W.heap.size W W' -> FS W') := by rw [hFS]; exact fun W W' h hb => h.call hb
 have FB : Hid (∀ W, FS W -> Below w.heap.size w W) := by rw [hFS]; exact fun W h => h.1
 have HCE : Hid (∀ W, FS W -> W.cell? ⟨w.heap.size, 0, none⟩ = some (.slice sp c.structs.length sc) /\ W.cell? ⟨w.heap.size, 1, none⟩ = some (.slice fp c.funcs.length fc)) := by
  rw [hFS]
  exact fun W h => ⟨h.2.cell 0, h.2.cell 1⟩
 have F0' : Hid (FS (w.alloc (.cells #[.slice sp c.structs.length sc, .slice fp c.funcs.length fc] 25))) := by rw [hFS]; exact F0.out
 have SX : Hid (256 < c.structs.length -> B = false) := fun h => bool_false HB.out fun h' => by have := h'.1; omega
 have TX : Hid (256 < c.structs.length + c.funcs.length -> B = false) := fun h => bool_false HB.out fun h' => by have := h'.1; omega
 have EX : Hid (∀ i (h : i < c.structs.length), ¬ MaySct c.structs[i] -> B = false) := fun i h hn => bool_false HB.out fun h' => hn (h'.2.1 _ (List.getElem_mem h))
 have UX : Hid (∀ i (h : i < c.funcs.length), ¬ MayFnc n c.funcs[i] -> B = false) := fun i h hn => bool_false HB.out fun h' => hn (h'.2.2 _ (List.getElem_mem h))
 have OK : Hid (c.structs.length + c.funcs.length <= 256 -> (∀ i (h : i < c.structs.length), MaySct c.structs[i]) -> (∀ i (h : i < c.funcs.length), MayFnc n c.funcs[i]) -> B = true) := by
  intro h1 h2 h3
  refine HB.out.2 ⟨h1, fun l hl => ?_, fun l hl => ?_⟩
  ·obtain ⟨i, hi, rfl⟩ := List.getElem_of_mem hl
   exact h2 i hi
  ·obtain ⟨i, hi, rfl⟩ := List.getElem_of_mem hl
   exact h3 i hi
 clear HB hB F0 hFS hs hf hsc hsb hSA hfc hfb hFA he hcn
 generalize c.structs = SS, c.funcs = FF at *
 obtain ⟨g0, g1⟩ := HCE.out _ F0'.out
 by_cases h1 : 256 < SS.length
 ·have i1 : (256 : Int) < (SS.length : Int) := by omega
  have HF := hid (SX.out h1)
  clear CS CF
  go_enter Tryz.func10, Tryz.ntmps10
  go_wp2_with fail
  go_ret
  exact ⟨by rw [HF.out]; rfl, FB.out _ F0'.out⟩
 have i1 : ¬ (256 : Int) < (SS.length : Int) := by omega
 have iw : IntKind.i64.wrap (256 - (SS.length : Int)) = 256 - (SS.length : Int) := wrap_small (by omega) (by omega)
 by_cases h2 : 256 < SS.length + FF.length
 ·have i2 : 256 - (SS.length : Int) < (FF.length : Int) := by omega
  have HF := hid (TX.out h2)
  clear CS CF
  go_enter Tryz.func10, Tryz.ntmps10
  go_wp2_with fail
  go_ret
  exact ⟨by rw [HF.out]; rfl, FB.out _ F0'.out⟩
 have i2 : ¬ 256 - (SS.length : Int) < (FF.length : Int) := by omega
 go_enter Tryz.func10, Tryz.ntmps10
 go_wp2_with fail
 go_loopw [3] (fun i wr => ∃ k : Nat, k <= SS.length /\ i = .int .i64 k /\ (∀ j (h : j < SS.length), j < k -> MaySct SS[j]) /\ FS wr) (fun i _ => SS.length - (intOf i).toNat)
 case atStart => exact ⟨0, by omega, rfl, fun j _ h => by omega, F0'.out⟩
 case round =>
  obtain ⟨k, hk, rfl, hj, hf⟩ := hrel
  have HJ := hid hj
  have FW := hid hf
  clear hj hf F0' g0 g1
  obtain ⟨g0, g1⟩ := HCE.out _ FW.out
  by_cases h3 : k < SS.length
  ·have i3 : (k : Int) < (SS.length : Int) := by omega
   obtain ⟨b, o, pb, S, v2, v3, ps, bn, bl, bf, rfl, ⟨o2, o3⟩, hcell, hc1, hc2, hc3, hm⟩ := CS.out k h3
   obtain ⟨m0, m1, m2, m3, m4⟩ := hcell wr (FB.out _ FW.out)
   have hA := alloc_one wr (.cells #[.bool pb, .string S, v2, v3, .int .i64 ps] 54)
   have rw0 := Row.new wr 54 [.bool pb, .string S, v2, v3, .int .i64 ps]
   have FA := hid (FC.out _ _ FW.out hA)
   have RA := hid rw0
   have ON : Hid ([.bool pb, .string S, v2, v3, .int .i64 ps].toArray.all (·.oneCell') = true) := all_one (ones_cons rfl (ones_cons rfl (ones_cons o2 (ones_cons o3 (ones_cons rfl ones_nil)))))
   have C1 := hid hc1
   have C2 := hid hc2
   have C3 := hid hc3
   have HM := hid hm
   have HF0 : Hid (¬ MaySct SS[k] -> B = false) := EX.out k h3
   have HJ' : Hid (MaySct SS[k] -> ∀ j (h : j < SS.length), j < k + 1 -> MaySct SS[j]) := by
    intro e j h hjk
    rcases Nat.lt_or_ge j k with h' | h'
    ·exact HJ.out j h h'
    ·obtain rfl : j = k := by omega
     exact e
   clear hcell hc1 hc2 hc3 hm hA rw0 CF UX OK o2 o3 CS
   go_wp2_with (refine store_newL rfl 54 (.tmp 4) (.tmp 31) rfl [.bool pb, .string S, v2, v3, .int .i64 ps] _ 54 rfl rfl (by kernel_rfl) rfl ON.out ?_; intro w3 r3 b3; have R3 := hid r3; have F3 := hid (FC.out _ _ FW.out b3); clear r3 b3; have q1 : w3.cell? ⟨wr.heap.size, 1, none⟩ = some (.string S) := R3.out.cell 1; have q2 : w3.cell? ⟨wr.heap.size, 2, none⟩ = some v2 := R3.out.cell 2; have q3 : w3.cell? ⟨wr.heap.size, 3, none⟩ = some v3 := R3.out.cell 3)
   refine (C1.out _ (FB.out _ F3.out)).mono ?_
   rintro _ w4 ⟨rfl, b4⟩
   have F4 := hid (FC.out _ _ F3.out b4)
   have R4 := hid (R3.out.below b4 R3.out.lt)
   clear b4 R3 F3 q1 q2 q3 g0 g1 m0 m1 m2 m3 m4
   cases bn with
   | false =>
    have HF := hid (HF0.out fun h => by cases (HM.out.1 h).1)
    go_wp2_with fail
    go_ret
    exact ⟨by rw [HF.out]; rfl, FB.out _ F4.out⟩
   | true =>
   have q2 : w4.cell? ⟨wr.heap.size, 2, none⟩ = some v2 := R4.out.cell 2
   go_wp2_with fail
   refine (C2.out _ (FB.out _ F4.out)).mono ?_
   rintro _ w5 ⟨rfl, b5⟩
   have F5 := hid (FC.out _ _ F4.out b5)
   have R5 := hid (R4.out.below b5 R4.out.lt)
   clear b5 R4 F4 q2
   cases bl with
   | false =>
    have HF := hid (HF0.out fun h => by cases (HM.out.1 h).2.1)
    go_wp2_with fail
    go_ret
    exact ⟨by rw [HF.out]; rfl, FB.out _ F5.out⟩
   | true =>
   have q3 : w5.cell? ⟨wr.heap.size, 3, none⟩ = some v3 := R5.out.cell 3
   go_wp2_with fail
   refine (C3.out _ (FB.out _ F5.out)).mono ?_
   rintro _ w6 ⟨rfl, b6⟩
   have F6 := hid (FC.out _ _ F5.out b6)
   clear b6 R5 F5 q3
   cases bf with
   | false =>
    have HF := hid (HF0.out fun h => by cases (HM.out.1 h).2.2)
    go_wp2_with fail
    go_ret
    exact ⟨by rw [HF.out]; rfl, FB.out _ F6.out⟩
   | true =>
    have HJ2 := hid (HJ'.out (HM.out.2 ⟨by first | rfl | trivial, by first | rfl | trivial, by first | rfl | trivial⟩))
    clear HJ' HM
    go_wp2_with fail
    go_roundw
    case rel => exact ⟨k + 1, by omega, by go_num, HJ2.out, F6.out⟩
    case measure => simp [intOf]; omega
  ·have i3 : ¬ (k : Int) < (SS.length : Int) := by omega
   have OK2 : Hid ((∀ i (h : i < FF.length), MayFnc n FF[i]) -> B = true) := OK.out (by omega) fun i h => HJ.out i h (by omega)
   clear OK EX HJ CS
   go_wp2_with fail
   rename World => wA
   go_loopw [5] (fun i wr => ∃ q : Nat, q <= FF.length /\ i = .int .i64 q /\ (∀ j (h : j < FF.length), j < q -> MayFnc n FF[j]) /\ FS wr) (fun i _ => FF.length - (intOf i).toNat)
   case atStart => exact ⟨0, by omega, rfl, fun j _ h => by omega, FW.out⟩
   case round =>
    obtain ⟨q, hq, rfl, hj, hf⟩ := hrel
    have HJ := hid hj
    have FV := hid hf
    clear hj hf FW g0 g1
    obtain ⟨-, g1⟩ := HCE.out _ FV.out
    by_cases h5 : q < FF.length
    ·have i5 : (q : Int) < (FF.length : Int) := by omega
     obtain ⟨b, o, cs, bf, rfl, hl, hcell, hc1, hm⟩ := CF.out q h5
     have rg := hid (hcell wr (FB.out _ FV.out))
     have C1 := hid hc1
     have HM := hid hm
     have HF0 : Hid (¬ MayFnc n FF[q] -> B = false) := UX.out q h5
     have HJ' : Hid (MayFnc n FF[q] -> ∀ j (h : j < FF.length), j < q + 1 -> MayFnc n FF[j]) := by
      intro e j h hjk
      rcases Nat.lt_or_ge j q with h' | h'
      ·exact HJ.out j h h'
      ·obtain rfl : j = q := by omega
       exact e
     have hi : (Tryz.prog.info? 40).map (·.size) = some cs.length := by rw [hl]; kernel_rfl
     have HI := hid hi
     clear hi hl hcell hc1 hm CF UX OK2
     go_wp2_with (refine load_midG rfl 40 (.tmp 58) rfl b (o + q * 10) rfl cs _ rg.out Tryz.underlying40 rfl HI.out ?_)
     refine (C1.out _ (FB.out _ FV.out)).mono ?_
     rintro _ w4 ⟨rfl, b4⟩
     have F4 := hid (FC.out _ _ FV.out b4)
     clear b4 rg g1
     cases bf with
     | false =>
      have HF := hid (HF0.out fun h => by cases (HM.out.1 h))
      go_wp2_with fail
      go_ret
      exact ⟨by rw [HF.out]; rfl, FB.out _ F4.out⟩
     | true =>
      have HJ2 := hid (HJ'.out (HM.out.2 (by first | rfl | trivial)))
      clear HJ' HM
      go_wp2_with fail
      go_roundw
      case rel => exact ⟨q + 1, by omega, by go_num, HJ2.out, F4.out⟩
      case measure => simp [intOf]; omega
    ·have i5 : ¬ (q : Int) < (FF.length : Int) := by omega
     have HF := hid (OK2.out fun i h => HJ.out i h (by omega))
     clear CF UX HJ OK2
     go_wp2_with fail
     go_ret
     exact ⟨by rw [HF.out]; rfl, FB.out _ FV.out⟩
end Go.Proofs.YtjenmmkamhplkaaGreat
