/-
  The texts Wrd, To8, joined.
-/
import Derived.Test.YtldbbkheemnnhaaGreatDoorJpWld2
import Derived.Test.YtldbbkheemnnhaaGreatDoorQpXr7
import Derived.Test.YtldbbkheemnnhaaGreatDoorJpAt82
import Derived.Test.YtldbbkheemnnhaaGreatDoorQpSk8
import Derived.Test.YtldbbkheemnnhaaGreatDoorQpEx8
namespace Go.Proofs.YtldbbkheemnnhaaGreatDoor
open Go.RowKit
structure Glo (w : World) : Prop where
 z : 1 < w.heap.size
 ml : ∃ m, w.cell? ⟨1, 0, none⟩ = some (.int .i64 m)
theorem Glo.below {w w' : World} (h : Glo w) (hb : Below w.heap.size w w') : Glo w' := by
 refine ⟨Nat.lt_of_lt_of_le h.z hb.size, ?_⟩
 obtain ⟨m, hm⟩ := h.ml
 exact ⟨m, (hb.cell (p := ⟨1, 0, none⟩) h.z).trans hm⟩
theorem Glo.env {w : World} (h : Glo w) {C B : Nat} (hC : C <= w.heap.size) (h1 : 1 < C) (hB : B <= 1048576) : Env ⟨C, B, by omega⟩ w := ⟨hC, h1, h.ml, hB⟩
abbrev wK (w : World) : Ctx := ⟨w.heap.size, 100, by decide⟩
set_option maxHeartbeats 16000000 in
set_option maxRecDepth 20000 in
theorem world_any {w : World} (hG : Glo w) :
  Calls Tryz.prog 15 #[] w fun ev w' => ∃ g gx b c, ev = .returned (.tuple #[.pointer (some ⟨g, 0, none⟩), .pointer (some ⟨gx, 0, none⟩)]) /\ Below w.heap.size w w' /\ (∃ Q, Scp Q 100 w' g b c wLs) /\ ∃ Q, XSc Q 100 w' gx wLs := by
 obtain ⟨sE, hsE⟩ := witems
 have CR := hidP (crate_any (l := wtext) (by decide) wlex wtokOk wtok0 hsE w)
 have HG := hidP hG
 clear hG hsE
 go_enter Tryz.func15, Tryz.ntmps15
 go_wp2_with fail
 refine Calls.mono (show Calls Tryz.prog 39 #[.string (str wtext)] w _ from CR.out) ?_
 rintro _ w1 ⟨u0, rfl, hb1, q1⟩
 obtain ⟨a0, p0, rfl⟩ := q1.form
 have RN : Hid (Row (w1.alloc (.cells #[.slice none 0 0, .slice none 0 0] 69)) w1.heap.size 69 [.slice none 0 0, .slice none 0 0]) := Row.new w1 69 _
 have HN := hidP (alloc_one w1 (.cells #[.slice none 0 0, .slice none 0 0] 69))
 have Q1 := hidP q1
 have HB1 := hidP hb1
 clear CR q1 hb1
 go_wp2_with (first | (refine stR rfl 69 (.tmp 2) (.tmp 13) rfl (cs := [.slice a0 wLs.length p0, .slice none 0 0]) rfl rfl RN.out Tryz.sz69 rfl (by intro u hu; simp only [List.mem_cons, List.not_mem_nil, or_false] at hu; rcases hu with rfl | rfl <;> rfl) ?_; intro w2 R2 S2; apply shut))
 show wpList _ _ _ _ _ _
 have hz0 := HB1.out.size
 have hz1 := HN.out.size
 have hz2 := S2.size
 have hb12 : Below w1.heap.size w1 w2 := HN.out.trans (S2.below (C := w1.heap.size) HN.out.size (fun q hq => by omega))
 have HB2 := hidP (HB1.out.trans (below_le hb12 HB1.out.size))
 have hg1 := HG.out.z
 have EN : Hid (Env (wK w1) w2) := (HG.out.below HB2.out).env (by omega) (by omega) (by decide)
 have HS : Hid (Ar 5 80 (SctAt (wK w1) w2) (wK w1) w2 (.slice a0 wLs.length p0) wLs) :=
  (ArQ.to (P' := SctAt (wK w1) w1) (K := wK w1) Q1.out (fun b hb => hb.2) (fun _ _ _ h => SctQ.to (K := wK w1) h (fun b hb => hb.2))).mono (P' := SctAt (wK w1) w2) (K := wK w1) hb12 fun _ _ _ h => SctAt.below (K := wK w1) h hb12
 have NW := hidP (new_yes (a1 := none) (p1 := 0) EN.out (s := [113]) (by kernel_rfl) (by decide) HS.out wmay (by decide) wok)
 have R2' := hidP R2
 clear RN HN Q1 HB1 hb12 S2 R2
 generalize wLs.length = nw at *
 go_wp2_with (first | (refine ldR rfl 69 (.tmp 2) rfl rfl R2'.out Tryz.underlying69 rfl Tryz.sz69 ?_; apply shut))
 show wpList _ _ _ _ _ _
 go_wp2_with fail
 refine Calls.mono (show Calls Tryz.prog 40 #[.string (str [113]), .slice none 0 0, .agg #[.slice a0 nw p0, .slice none 0 0]] w2 _ from NW.out) ?_
 rintro _ w3 ⟨g, b, c, rfl, hb3, Qs, hS, hQ, hgg, hbb⟩
 have HB3 := hidP (HB2.out.trans (below_le hb3 HB2.out.size))
 have R3 := hidP (R2'.out.below hb3 R2'.out.lt)
 have hK3 := below_le hb3 EN.out.C
 have XN := hidP (xnew_yes (a1 := none) (p1 := 0) (EN.out.below hK3) (s := [113]) (by kernel_rfl) (by decide) (HS.out.mono hK3 fun _ _ _ h => h.below hK3) wmay (by decide) (by decide) wok wflat)
 have SS := hidP hS
 clear NW hb3 hK3 hS hQ EN HS R2'
 go_wp2_with (first | (refine ldR rfl 69 (.tmp 2) rfl rfl R3.out Tryz.underlying69 rfl Tryz.sz69 ?_; apply shut))
 show wpList _ _ _ _ _ _
 go_wp2_with fail
 refine Calls.mono (show Calls Tryz.prog 41 #[.string (str [113]), .slice none 0 0, .agg #[.slice a0 nw p0, .slice none 0 0]] w3 _ from XN.out) ?_
 rintro _ w4 ⟨gx, rfl, hb4, hX⟩
 have HB4 := hidP (HB3.out.trans (below_le hb4 HB3.out.size))
 have SS4 := hidP (SS.out.past hb4)
 have HX := hidP hX
 clear XN hb4 SS R3 hX HB3
 go_wp2_with fail
 go_ret2
 exact ⟨g, gx, b, c, rfl, HB4.out, ⟨_, SS4.out⟩, ⟨_, HX.out⟩⟩
end Go.Proofs.YtldbbkheemnnhaaGreatDoor

namespace Go.Proofs.YtldbbkheemnnhaaGreatDoor
open Go.RowKit Go.Maps
def tS3 (r : Int) : RTy := ⟨3, [83], [r], []⟩
def tMS (r q : Int) : RTy := ⟨5, [], [r], [tS3 q]⟩
def tRI : RTy := ⟨4, [], [3], [⟨1, [], [], []⟩]⟩
theorem nms_one {K : Ctx} {w : World} {g t c : Nat} {x : Int} (h : Row w g t [.int .i64 x]) (hg : g < K.C) (hc : 1 <= c) : Nms K w (.slice (some ⟨g, 0, none⟩) 1 c) [x] :=
 ⟨some ⟨g, 0, none⟩, c, rfl, hc, by simp, fun i hi => ⟨g, 0, rfl, hg, [.int .i64 x], rfl, fun j hj => by
  have hi0 : i = 0 := by simpa using hi
  subst hi0
  rw [show (0 : Nat) + 0 * 1 + j = j by omega]
  exact h.cell j, by
  have hi0 : i = 0 := by simpa using hi
  subst hi0
  rfl⟩⟩
theorem ar_onem {α : Type} {z bz : Nat} {P : List Value -> α -> Prop} {K : Ctx} {w : World} {g t c : Nat} {cs : List Value} {x : α} (h : Row w g t cs) (hl : cs.length = z) (hp : P cs x) (hg : g < K.C) (hc : 1 <= c) (hb : bz <= 1000) : Ar z bz P K w (.slice (some ⟨g, 0, none⟩) 1 c) [x] :=
 ⟨some ⟨g, 0, none⟩, c, rfl, hc, by simp; omega, fun i hi => ⟨g, 0, rfl, hg, cs, hl, fun j hj => by
  have hi0 : i = 0 := by simpa using hi
  subst hi0
  rw [show (0 : Nat) + 0 * z + j = j by omega]
  exact h.cell j, by
  have hi0 : i = 0 := by simpa using hi
  subst hi0
  exact hp⟩⟩
theorem rt_s3 {K : Ctx} {w : World} {g t c : Nat} {x : Int} (h : Row w g t [.int .i64 x]) (hg : g < K.C) (hc : 1 <= c) (hB : 1 <= K.B) : RtAt 1 K w [.int .i64 3, .string ⟨#[83]⟩, .slice (some ⟨g, 0, none⟩) 1 c, .slice none 0 0] (tS3 x) :=
 ⟨_, _, rfl, hB, nms_one h hg hc, nil_ar⟩
theorem rt_ms {K : Ctx} {w : World} {g g2 t t2 c c2 : Nat} {x q : Int} {cs : List Value} (h : Row w g t [.int .i64 x]) (hg : g < K.C) (hc : 1 <= c) (h2 : Row w g2 t2 cs) (hg2 : g2 < K.C) (hc2 : 1 <= c2) (he : RtAt 1 K w cs (tS3 q)) : RtAt 2 K w [.int .i64 5, .string ⟨#[]⟩, .slice (some ⟨g, 0, none⟩) 1 c, .slice (some ⟨g2, 0, none⟩) 1 c2] (tMS x q) :=
 ⟨_, _, rfl, Nat.zero_le _, nms_one h hg hc, ar_onem h2 he.len he hg2 hc2 (by decide)⟩
theorem prs_cel (l : List (Int × Int)) : Cel 2 PrAt (l.map fun x => [.int .i64 x.1, .int .i64 x.2]) l := by
 refine ⟨List.length_map .., fun i h h' => ?_⟩
 have e : (l.map fun x => [Value.int .i64 x.1, .int .i64 x.2])[i] = [.int .i64 l[i].1, .int .i64 l[i].2] := by simp
 rw [e]
 exact ⟨rfl, rfl, ones_cons rfl (ones_cons rfl ones_nil)⟩
theorem own_prs {K : Ctx} {w : World} {B : Nat} {v : Value} {l : List (Int × Int)} (h : w.ownsRow B 32 2 v l.length (pvs l)) (hK : w.heap.size <= K.C) (hl : l.length <= 50000) : Prs K w v l :=
 ar_own (prs_cel l) (by rw [← List.flatMap_def]; exact h) hK (by omega)
theorem wokL : OkL wLs 2 := by
 refine ⟨?_, ?_, by decide⟩
 ·intro x hx
  simp only [wLs, List.mem_cons, List.not_mem_nil, or_false] at hx
  rcases hx with rfl | rfl | rfl <;> decide
 ·intro x hx f hf
  simp only [wLs, List.mem_cons, List.not_mem_nil, or_false] at hx
  rcases hx with rfl | rfl | rfl
  all_goals
   simp only [wS, wT, wU, List.mem_cons, List.not_mem_nil, or_false] at hf
  ·rcases hf with rfl | rfl <;> simp [Fit70, tInt]
  ·rcases hf with rfl | rfl | rfl <;> simp [Fit70, tInt, tS]
  ·rcases hf with rfl | rfl <;> simp [Fit70, tInt, tBool]
theorem told_at : atR wLs 2 (tMS 1 3) 0 [[42], [102]] = (tRI, 0, 0) := by kernel_rfl
theorem told_sub : subL 2 (tMS 1 3) (tMS 2 4) = [(1, 2), (3, 4), (4, 3)] := by kernel_rfl
theorem told_well : wellL 2 (tMS 1 3) = [(3, 1)] := by kernel_rfl
theorem strs_two {K : Ctx} {w : World} {g t : Nat} {a b : Bs} (h : Row w g t [.string (str a), .string (str b)]) (hg : g < K.C) (ha : a.length <= K.B) (hb : b.length <= K.B) : Strs K w (.slice (some ⟨g, 0, none⟩) 2 2) [a, b] :=
 ⟨some ⟨g, 0, none⟩, 2, rfl, Nat.le_refl _, by simp, fun i hi => by
  have hi2 : i < 2 := by simpa using hi
  match i, hi2 with
  | 0, _ => exact ⟨g, 0, rfl, hg, [.string (str a)], rfl, fun j hj => by
    obtain rfl : j = 0 := by omega
    exact h.cell 0, rfl, ha⟩
  | 1, _ => exact ⟨g, 0, rfl, hg, [.string (str b)], rfl, fun j hj => by
    obtain rfl : j = 0 := by omega
    exact h.cell 1, rfl, hb⟩⟩
theorem prs_row {K : Ctx} {w : World} {g t : Nat} {l : List (Int × Int)} (h : Row w g t (pvs l)) (hg : g < K.C) (hl : l.length <= 50000) : Prs K w (.slice (some ⟨g, 0, none⟩) l.length l.length) l :=
 ⟨some ⟨g, 0, none⟩, l.length, rfl, Nat.le_refl _, by omega, fun i hi => ⟨g, 0, rfl, hg, [.int .i64 l[i].1, .int .i64 l[i].2], rfl, fun j hj => by
  have h1 := flat_get (prs_cel l).all i (by rw [List.length_map]; exact hi) j hj
  rw [Nat.zero_add, h.cell]
  show (pvs l)[i * 2 + j]? = _
  rw [show pvs l = (l.map fun x => [Value.int .i64 x.1, .int .i64 x.2]).flatten from List.flatMap_def ..]
  rw [h1]
  simp, rfl⟩⟩
set_option maxHeartbeats 32000000 in
set_option maxRecDepth 20000 in
theorem told12 {w : World} (hG : Glo w) : Calls Tryz.prog 12 #[] w fun ev w' => ev = .returned (.bool true) /\ Below w.heap.size w w' := by
 have HG := hidP hG
 clear hG
 go_enter Tryz.func12, Tryz.ntmps12
 go_wp2_with (first | (refine bsliceU rfl 22 3 1 8 _ (.int .i64 1) (.const (.int .i64 1)) rfl Tryz.underlying22 Tryz.info3I (by decide) (by decide) rfl [.int .i64 1] rfl rfl rfl ?_; intro a1 hr1 hb1 hz1; apply shut))
 show wpList _ _ _ _ _ _
 have Ba1 := hidP hb1
 have Ra1 := hidP hr1
 have hga0 := hidP hz1
 clear hr1 hb1 hz1
 go_wp2_with (first | (refine bsliceU rfl 22 3 1 8 _ (.int .i64 3) (.const (.int .i64 3)) rfl Tryz.underlying22 Tryz.info3I (by decide) (by decide) rfl [.int .i64 3] rfl rfl rfl ?_; intro a2 hr1 hb1 hz1; apply shut))
 show wpList _ _ _ _ _ _
 have Ba2 := hidP hb1
 have Ra2 := hidP hr1
 have hga1 := hidP hz1
 clear hr1 hb1 hz1
 go_wp2_with (first | (refine bsliceU rfl 23 25 4 72 _ (.agg #[.int .i64 3, .string ⟨#[83]⟩, .slice (some ⟨a1.heap.size, 0, none⟩) 1 1, .slice none 0 0]) (.tmp 9) rfl Tryz.underlying23 Tryz.info25S (by decide) (by decide) rfl [.int .i64 3, .string ⟨#[83]⟩, .slice (some ⟨a1.heap.size, 0, none⟩) 1 1, .slice none 0 0] rfl rfl rfl ?_; intro a3 hr1 hb1 hz1; apply shut))
 show wpList _ _ _ _ _ _
 have Ba3 := hidP hb1
 have Ra3 := hidP hr1
 have hga2 := hidP hz1
 clear hr1 hb1 hz1
 have RN := hidP (Row.new a3 25 z25)
 have BN := hidP (alloc_one a3 (.cells z25.toArray 25))
 unfold z25 at RN BN
 go_wp2_with (first | (refine stR rfl 25 (.tmp 1) (.tmp 11) rfl (cs := [.int .i64 5, .string ⟨#[]⟩, .slice (some ⟨w.heap.size, 0, none⟩) 1 1, .slice (some ⟨a2.heap.size, 0, none⟩) 1 1]) rfl rfl RN.out Tryz.sz25 rfl (ones_cons rfl (ones_cons rfl (ones_cons rfl (ones_cons rfl ones_nil)))) ?_; intro a4 R4 S4; apply shut))
 show wpList _ _ _ _ _ _
 have Ra4 := hidP R4
 have Ba34 := hidP (BN.out.trans (S4.below (C := a3.heap.size) BN.out.size (fun q hq => Nat.le_of_eq hq.symm)))
 have Ba24 := hidP (Ba3.out.trans (below_le Ba34.out Ba3.out.size))
 have Ba14 := hidP (Ba2.out.trans (below_le Ba24.out Ba2.out.size))
 have Ba04 := hidP (Ba1.out.trans (below_le Ba14.out Ba1.out.size))
 have hza := hidP (show w.heap.size < a4.heap.size /\ a1.heap.size < a4.heap.size /\ a2.heap.size < a4.heap.size by have := hga0.out; have := hga1.out; have := hga2.out; have := Ba34.out.size; omega)
 have Ga := hidP (fun (y : World) (hy : Below a4.heap.size a4 y) => show Row y a3.heap.size 25 [.int .i64 5, .string ⟨#[]⟩, .slice (some ⟨w.heap.size, 0, none⟩) 1 1, .slice (some ⟨a2.heap.size, 0, none⟩) 1 1] /\ RtAt 2 (wK a4) y [.int .i64 5, .string ⟨#[]⟩, .slice (some ⟨w.heap.size, 0, none⟩) 1 1, .slice (some ⟨a2.heap.size, 0, none⟩) 1 1] (tMS 1 3) from
  ⟨Ra4.out.below hy Ra4.out.lt, (rt_ms (K := wK a4) (Ra1.out.below Ba14.out hga0.out) hza.out.1 (Nat.le_refl _) (Ra3.out.below Ba34.out hga2.out) hza.out.2.2 (Nat.le_refl _) (rt_s3 (K := wK a4) (Ra2.out.below Ba24.out hga1.out) hza.out.2.1 (Nat.le_refl _) (show 1 <= 100 by decide))).below hy⟩)
 clear RN BN R4 S4 Ra1 Ra2 Ra3 Ra4 Ba1 Ba2 Ba3 Ba34 Ba24 Ba14 hga0 hga1 hga2 hza
 go_wp2_with (first | (refine bsliceU rfl 22 3 1 8 _ (.int .i64 2) (.const (.int .i64 2)) rfl Tryz.underlying22 Tryz.info3I (by decide) (by decide) rfl [.int .i64 2] rfl rfl rfl ?_; intro b1 hr1 hb1 hz1; apply shut))
 show wpList _ _ _ _ _ _
 have Bb1 := hidP hb1
 have Rb1 := hidP hr1
 have hgb0 := hidP hz1
 clear hr1 hb1 hz1
 go_wp2_with (first | (refine bsliceU rfl 22 3 1 8 _ (.int .i64 4) (.const (.int .i64 4)) rfl Tryz.underlying22 Tryz.info3I (by decide) (by decide) rfl [.int .i64 4] rfl rfl rfl ?_; intro b2 hr1 hb1 hz1; apply shut))
 show wpList _ _ _ _ _ _
 have Bb2 := hidP hb1
 have Rb2 := hidP hr1
 have hgb1 := hidP hz1
 clear hr1 hb1 hz1
 go_wp2_with (first | (refine bsliceU rfl 23 25 4 72 _ (.agg #[.int .i64 3, .string ⟨#[83]⟩, .slice (some ⟨b1.heap.size, 0, none⟩) 1 1, .slice none 0 0]) (.tmp 14) rfl Tryz.underlying23 Tryz.info25S (by decide) (by decide) rfl [.int .i64 3, .string ⟨#[83]⟩, .slice (some ⟨b1.heap.size, 0, none⟩) 1 1, .slice none 0 0] rfl rfl rfl ?_; intro b3 hr1 hb1 hz1; apply shut))
 show wpList _ _ _ _ _ _
 have Bb3 := hidP hb1
 have Rb3 := hidP hr1
 have hgb2 := hidP hz1
 clear hr1 hb1 hz1
 have RN := hidP (Row.new b3 25 z25)
 have BN := hidP (alloc_one b3 (.cells z25.toArray 25))
 unfold z25 at RN BN
 go_wp2_with (first | (refine stR rfl 25 (.tmp 2) (.tmp 16) rfl (cs := [.int .i64 5, .string ⟨#[]⟩, .slice (some ⟨a4.heap.size, 0, none⟩) 1 1, .slice (some ⟨b2.heap.size, 0, none⟩) 1 1]) rfl rfl RN.out Tryz.sz25 rfl (ones_cons rfl (ones_cons rfl (ones_cons rfl (ones_cons rfl ones_nil)))) ?_; intro b4 R4 S4; apply shut))
 show wpList _ _ _ _ _ _
 have Rb4 := hidP R4
 have Bb34 := hidP (BN.out.trans (S4.below (C := b3.heap.size) BN.out.size (fun q hq => Nat.le_of_eq hq.symm)))
 have Bb24 := hidP (Bb3.out.trans (below_le Bb34.out Bb3.out.size))
 have Bb14 := hidP (Bb2.out.trans (below_le Bb24.out Bb2.out.size))
 have Bb04 := hidP (Bb1.out.trans (below_le Bb14.out Bb1.out.size))
 have hzb := hidP (show a4.heap.size < b4.heap.size /\ b1.heap.size < b4.heap.size /\ b2.heap.size < b4.heap.size by have := hgb0.out; have := hgb1.out; have := hgb2.out; have := Bb34.out.size; omega)
 have Gb := hidP (fun (y : World) (hy : Below b4.heap.size b4 y) => show Row y b3.heap.size 25 [.int .i64 5, .string ⟨#[]⟩, .slice (some ⟨a4.heap.size, 0, none⟩) 1 1, .slice (some ⟨b2.heap.size, 0, none⟩) 1 1] /\ RtAt 2 (wK b4) y [.int .i64 5, .string ⟨#[]⟩, .slice (some ⟨a4.heap.size, 0, none⟩) 1 1, .slice (some ⟨b2.heap.size, 0, none⟩) 1 1] (tMS 2 4) from
  ⟨Rb4.out.below hy Rb4.out.lt, (rt_ms (K := wK b4) (Rb1.out.below Bb14.out hgb0.out) hzb.out.1 (Nat.le_refl _) (Rb3.out.below Bb34.out hgb2.out) hzb.out.2.2 (Nat.le_refl _) (rt_s3 (K := wK b4) (Rb2.out.below Bb24.out hgb1.out) hzb.out.2.1 (Nat.le_refl _) (show 1 <= 100 by decide))).below hy⟩)
 clear RN BN R4 S4 Rb1 Rb2 Rb3 Rb4 Bb1 Bb2 Bb3 Bb34 Bb24 Bb14 hgb0 hgb1 hgb2 hzb
 have BW := hidP (Ba04.out.trans (below_le Bb04.out Ba04.out.size))
 have GA := hidP (fun (y : World) (hy : Below b4.heap.size b4 y) => Ga.out y (Bb04.out.trans (below_le hy Bb04.out.size)))
 have GB := hidP (fun (y : World) (hy : Below b4.heap.size b4 y) => Gb.out y hy)
 have hab := hidP Bb04.out.size
 have WD := hidP (world_any (HG.out.below BW.out))
 clear Ga Gb Ba04 Bb04 HG
 go_wp2_with fail
 refine WD.out.mono ?_
 rintro _ w9 ⟨g, gx, b, c, rfl, hb9, ⟨Q, hs9⟩, _⟩
 have B9 := hidP hb9
 have S9 := hidP hs9
 have RA9 := hidP (GA.out w9 hb9).1
 clear WD hb9 hs9
 have RP := hidP (Row.new w9 9 [.string (str [42]), .string (str [102])])
 have BP := hidP (alloc_one w9 (.cells #[.string (str [42]), .string (str [102])] 9))
 have BP9 := hidP (B9.out.trans (below_le BP.out B9.out.size))
 have HZP := hidP (size_alloc w9 (.cells #[.string (str [42]), .string (str [102])] 9))
 have AT := hidP (at21 (K := ⟨w9.heap.size + 1, 100, by decide⟩) (B := 100) (D := 2) (n := 2) (t := tMS 1 3) (path := [[42], [102]]) (by decide) (Nat.le_refl _) wokL (Nat.le_refl _) (S9.out.past BP.out) ((GA.out _ BP9.out).2.up (by have := hab.out; have := B9.out.size; show a4.heap.size <= w9.heap.size + 1; omega)) (by simp [Fit, tMS, tS3]) (strs_two (K := ⟨w9.heap.size + 1, 100, by decide⟩) RP.out (Nat.lt_succ_self _) (show 1 <= 100 by decide) (show 1 <= 100 by decide)) (Nat.le_of_eq HZP.out.symm))
 rw [told_at] at AT
 go_wp2_with (first | (refine ldR rfl 25 (.tmp 1) rfl rfl RA9.out Tryz.underlying25 rfl Tryz.sz25 ?_))
 have AT2 : Hid (Calls Tryz.prog 21 #[.pointer (some ⟨g, 0, none⟩), .agg #[.int .i64 5, .string ⟨#[]⟩, .slice (some ⟨w.heap.size, 0, none⟩) 1 1, .slice (some ⟨a2.heap.size, 0, none⟩) 1 1], .slice (some ⟨w9.heap.size, 0, none⟩) 2 2] (w9.alloc (.cells #[.string ⟨#[42]⟩, .string ⟨#[102]⟩] 9)) _) := AT
 refine AT2.out.mono ?_
 rintro _ w10 ⟨d, v, rfl, hb10, hq10, he10⟩
 obtain rfl : v = .nilIface := by
  rcases he10 with ⟨_, h⟩ | ⟨h, _⟩
  ·exact h
  ·exact absurd rfl h
 obtain ⟨d0, d1, d2, d3, rfl⟩ : ∃ e0 e1 e2 e3, d = [e0, e1, e2, e3] := by
  match d, hq10.len with
  | [e0, e1, e2, e3], _ => exact ⟨_, _, _, _, rfl⟩
 have Q10 := hidP hq10
 have B10 := hidP (show Below b4.heap.size b4 w10 from BP9.out.trans (below_le hb10 BP9.out.size))
 have RN := hidP (Row.new w10 25 z25)
 have BN := hidP (alloc_one w10 (.cells z25.toArray 25))
 unfold z25 at RN BN
 clear AT AT2 RP BP BP9 HZP S9 RA9 hb10 hq10 he10 B9
 go_wp2_with (first | (refine stR rfl 25 (.tmp 5) (.tmp 28) rfl (cs := [d0, d1, d2, d3]) rfl rfl RN.out Tryz.sz25 rfl Q10.out.ones ?_; intro w11 R11 S11; apply shut))
 show wpList _ _ _ _ _ _
 have BS := hidP (BN.out.trans (S11.below (C := w10.heap.size) BN.out.size (fun q hq => Nat.le_of_eq hq.symm)))
 have B11 := hidP (B10.out.trans (below_le BS.out B10.out.size))
 have T11 := hidP (fun (y : World) (hy : Below w11.heap.size w11 y) => show Row y w10.heap.size 25 [d0, d1, d2, d3] /\ RtAt 2 (wK w10) y [d0, d1, d2, d3] tRI from ⟨R11.below hy R11.lt, (RtQ.to (K := wK w10) rfl (fun k hk => hk.2) Q10.out).below (BS.out.trans (below_le hy BS.out.size))⟩)
 have GAB := hidP (fun (y : World) (hy : Below w11.heap.size w11 y) => And.intro (GA.out y (B11.out.trans (below_le hy B11.out.size))) (GB.out y (B11.out.trans (below_le hy B11.out.size))))
 have BW11 := hidP (BW.out.trans (below_le B11.out BW.out.size))
 have hz11 := hidP (show b4.heap.size <= w11.heap.size /\ a4.heap.size <= w11.heap.size /\ w10.heap.size <= w11.heap.size by have := hab.out; have := B11.out.size; have := BS.out.size; omega)
 have SB := hidP (sub32 (K := wK w11) (n := 2) (n2 := 2) (t := tMS 1 3) (u := tMS 2 4) ((GAB.out w11 (Below.refl _ _)).1.2.up hz11.out.2.1) ((GAB.out w11 (Below.refl _ _)).2.2.up hz11.out.1) (Nat.le_refl _) (fun _ => by decide))
 rw [told_sub] at SB
 have RA := hidP (GAB.out w11 (Below.refl _ _)).1.1
 have RB := hidP (GAB.out w11 (Below.refl _ _)).2.1
 clear GA GB B10 B11 BS RN BN Q10 R11 S11 BW hab
 go_wp2_with (first | (refine ldR rfl 25 (.tmp 1) rfl rfl RA.out Tryz.underlying25 rfl Tryz.sz25 ?_) | (refine ldR rfl 25 (.tmp 2) rfl rfl RB.out Tryz.underlying25 rfl Tryz.sz25 ?_))
 refine SB.out.mono ?_
 rintro _ w12 ⟨vs, rfl, hb12, ho12⟩
 have B12 := hidP hb12
 have HO := hidP ho12
 have RQ := hidP (Row.new w12 32 (pvs [(1, 2), (3, 4), (4, 3)]))
 have BQ := hidP (alloc_one w12 (.cells (pvs [(1, 2), (3, 4), (4, 3)]).toArray 32))
 have PR := hidP (pairs31 (K := ⟨w12.heap.size + 1, 100, by decide⟩) (l := [(1, 2), (3, 4), (4, 3)]) (own_prs (K := ⟨w12.heap.size + 1, 100, by decide⟩) (own_sameR HO.out (fun q eq => BQ.out.block q (HO.out.lt q eq).2)) (Nat.le_of_eq (size_alloc _ _)) (by decide)) (prs_row (K := ⟨w12.heap.size + 1, 100, by decide⟩) RQ.out (Nat.lt_succ_self _) (by decide)))
 clear SB RA RB hb12 ho12
 go_wp2_with fail
 have PR2 : Hid (Calls Tryz.prog 31 #[vs, .slice (some ⟨w12.heap.size, 0, none⟩) 3 3] (w12.alloc (.cells #[.int .i64 1, .int .i64 2, .int .i64 3, .int .i64 4, .int .i64 4, .int .i64 3] 32)) _) := PR
 refine PR2.out.mono ?_
 rintro _ w13 ⟨rfl, hb13⟩
 have B13 := hidP (show Below w11.heap.size w11 w13 from B12.out.trans (below_le (BQ.out.trans (below_le hb13 BQ.out.size)) B12.out.size))
 have RA := hidP (GAB.out w13 B13.out).1.1
 have WL := hidP (well13 (K := wK w11) (n := 2) (t := tMS 1 3) ((GAB.out w13 B13.out).1.2.up hz11.out.2.1) B13.out.size (by decide) (by decide))
 rw [told_well] at WL
 clear PR PR2 RQ BQ B12 HO hb13
 have y0 := RA.out.cell 0
 have y1 := RA.out.cell 1
 have y2 := RA.out.cell 2
 have y3 := RA.out.cell 3
 simp only [List.getElem?_cons_zero, List.getElem?_cons_succ] at y0 y1 y2 y3
 go_wp2_with fail
 refine WL.out.mono ?_
 rintro _ w14 ⟨vw, rfl, hb14, ho14⟩
 have B14 := hidP (B13.out.trans (below_le hb14 B13.out.size))
 have HO := hidP ho14
 have RQ := hidP (Row.new w14 32 (pvs [(3, 1)]))
 have BQ := hidP (alloc_one w14 (.cells (pvs [(3, 1)]).toArray 32))
 have PR := hidP (pairs31 (K := ⟨w14.heap.size + 1, 100, by decide⟩) (l := [(3, 1)]) (own_prs (K := ⟨w14.heap.size + 1, 100, by decide⟩) (own_sameR HO.out (fun q eq => BQ.out.block q (HO.out.lt q eq).2)) (Nat.le_of_eq (size_alloc _ _)) (by decide)) (prs_row (K := ⟨w14.heap.size + 1, 100, by decide⟩) RQ.out (Nat.lt_succ_self _) (by decide)))
 have PR2 : Hid (Calls Tryz.prog 31 #[vw, .slice (some ⟨w14.heap.size, 0, none⟩) 1 1] (w14.alloc (.cells #[.int .i64 3, .int .i64 1] 32)) _) := PR
 clear WL RA y0 y1 y2 y3 hb14 ho14 B13
 go_wp2_with fail
 refine PR2.out.mono ?_
 rintro _ w15 ⟨rfl, hb15⟩
 have B15 := hidP (show Below w11.heap.size w11 w15 from B14.out.trans (below_le (BQ.out.trans (below_le hb15 BQ.out.size)) B14.out.size))
 have RA := hidP (GAB.out w15 B15.out).1.1
 have y0 := RA.out.cell 0
 have y1 := RA.out.cell 1
 have y2 := RA.out.cell 2
 have y3 := RA.out.cell 3
 simp only [List.getElem?_cons_zero, List.getElem?_cons_succ] at y0 y1 y2 y3
 have CP := hidP (copy29 (n := 1) (GAB.out w15 B15.out).1.2)
 rw [show ((tMS 1 3).kind == 1 || (tMS 1 3).kind == 2 || (tMS 1 3).kind == 4) = false from rfl] at CP
 clear PR PR2 RQ BQ B14 HO hb15
 go_wp2_with fail
 refine CP.out.mono ?_
 rintro _ w16 ⟨rfl, hb16⟩
 have B16 := hidP (B15.out.trans (below_le hb16 B15.out.size))
 have RT := hidP (T11.out w16 B16.out).1
 have z0 := RT.out.cell 0
 have z1 := RT.out.cell 1
 have z2 := RT.out.cell 2
 have z3 := RT.out.cell 3
 simp only [List.getElem?_cons_zero, List.getElem?_cons_succ] at z0 z1 z2 z3
 have R1 := hidP ((Row.new w16 3 [.int .i64 3]).alloc (.cells #[.int .i64 1, .string ⟨#[]⟩, .slice none 0 0, .slice none 0 0] 25))
 have R2 := hidP (Row.new (w16.alloc (.cells #[.int .i64 3] 3)) 25 [.int .i64 1, .string ⟨#[]⟩, .slice none 0 0, .slice none 0 0])
 have BE := hidP (alloc_two w16 (.cells #[.int .i64 3] 3) (.cells #[.int .i64 1, .string ⟨#[]⟩, .slice none 0 0, .slice none 0 0] 25))
 have HZE := hidP (size_two w16 (.cells #[.int .i64 3] 3) (.cells #[.int .i64 1, .string ⟨#[]⟩, .slice none 0 0, .slice none 0 0] 25))
 rw [size_alloc] at R2
 have BE2 := hidP (B16.out.trans (below_le BE.out B16.out.size))
 have EX := hidP (exact19 (K := ⟨w16.heap.size + 2, 100, by decide⟩) 2 (m := 2) (t := tRI) ((T11.out _ BE2.out).2.up (by have := hz11.out.2.2; have := B16.out.size; show w10.heap.size <= w16.heap.size + 2; omega)) (show RtAt 2 ⟨w16.heap.size + 2, 100, by decide⟩ _ [.int .i64 4, .string ⟨#[]⟩, .slice (some ⟨w16.heap.size, 0, none⟩) 1 1, .slice (some ⟨w16.heap.size + 1, 0, none⟩) 1 1] tRI from
  ⟨_, _, rfl, Nat.zero_le _, nms_one R1.out (by show w16.heap.size < w16.heap.size + 2; omega) (Nat.le_refl _), ar_onem R2.out rfl (show RtAt 1 _ _ _ ⟨1, [], [], []⟩ from ⟨_, _, rfl, Nat.zero_le _, nil_ar, nil_ar⟩) (by show w16.heap.size + 1 < w16.heap.size + 2; omega) (Nat.le_refl _) (by decide)⟩) (Nat.le_of_eq HZE.out.symm))
 have BF0 := hidP (BW11.out.trans (below_le BE2.out BW11.out.size))
 clear CP RA y0 y1 y2 y3 hb16 R1 R2 BE HZE B16 BE2
 go_wp2_with fail
 refine EX.out.mono ?_
 rintro _ w17 ⟨rfl, hb17⟩
 have BF := hidP (BF0.out.trans (below_le hb17 BF0.out.size))
 clear EX BF0 z0 z1 z2 z3 RT hb17
 go_wp2_with fail
 go_ret
 exact ⟨rfl, BF.out⟩
end Go.Proofs.YtldbbkheemnnhaaGreatDoor
