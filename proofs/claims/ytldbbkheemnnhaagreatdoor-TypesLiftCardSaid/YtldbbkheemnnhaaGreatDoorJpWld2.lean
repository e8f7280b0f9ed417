/-
  The texts Wld, New8, joined.
-/
import Derived.Test.YtldbbkheemnnhaaGreatDoorJpXr52
import Derived.Test.YtldbbkheemnnhaaGreatDoorJpBar82
import Derived.Test.YtldbbkheemnnhaaGreatDoorJpAlf3
import Derived.Test.YtldbbkheemnnhaaGreatDoorJpMfd2
namespace Go.Proofs.YtldbbkheemnnhaaGreatDoor
open Go.RowKit
def wtext : Bs := [115, 116, 114, 117, 99, 116, 32, 83, 60, 39, 97, 62, 32, 123, 32, 102, 58, 32, 38, 39, 97, 32, 105, 110, 116, 44, 32, 103, 58, 32, 105, 110, 116, 32, 125, 32, 115, 116, 114, 117, 99, 116, 32, 84, 60, 39, 97, 44, 32, 39, 98, 62, 32, 123, 32, 102, 58, 32, 83, 60, 39, 97, 62, 44, 32, 103, 58, 32, 38, 39, 98, 32, 83, 60, 39, 98, 62, 44, 32, 104, 58, 32, 38, 39, 97, 32, 109, 117, 116, 32, 105, 110, 116, 32, 125, 32, 115, 116, 114, 117, 99, 116, 32, 85, 32, 123, 32, 102, 58, 32, 105, 110, 116, 44, 32, 103, 58, 32, 98, 111, 111, 108, 32, 125]
def wtoks : List Tok := (lexF wtext).1
theorem wlex : lexF wtext = (wtoks, none) := by kernel_rfl
def checkT (T : List Tok) : Bool := decide (T.length <= 1048577) && (List.range T.length).all fun i => decide ((tk T i).kind = 0 ↔ i + 1 = T.length) && decide ((tk T i).kind <= 5) && decide ((tk T i).text.length <= 40) && decide ((tk T i).place <= 1048576) && (!decide ((tk T i).kind = 4) || isNum (tk T i).text)
theorem tokOk_of {T : List Tok} (h : checkT T = true) : TokOk T := by
 unfold checkT at h
 rw [Bool.and_eq_true, List.all_eq_true] at h
 obtain ⟨h1, h2⟩ := h
 have h3 : ∀ i, T.length <= i -> tk T i = endTok 0 := fun i hi => by unfold tk; rw [List.getD_eq_getElem?_getD, List.getElem?_eq_none hi]; rfl
 have h4 : ∀ i, i < T.length -> _ := fun i hi => h2 i (List.mem_range.2 hi)
 simp only [Bool.and_eq_true, decide_eq_true_eq, Bool.or_eq_true, Bool.not_eq_true', decide_eq_false_iff_not] at h4
 refine ⟨by simpa using h1, fun i hi => (h4 i hi).1.1.1.1, fun i => ?_, fun i => ?_, fun i => ?_, fun i hk => ?_⟩
 ·rcases Nat.lt_or_ge i T.length with hi | hi
  ·exact (h4 i hi).1.1.1.2
  ·rw [h3 i hi]; exact Nat.zero_le _
 ·rcases Nat.lt_or_ge i T.length with hi | hi
  ·exact (h4 i hi).1.1.2
  ·rw [h3 i hi]; exact Nat.zero_le _
 ·rcases Nat.lt_or_ge i T.length with hi | hi
  ·exact (h4 i hi).1.2
  ·rw [h3 i hi]; exact Nat.zero_le _
 ·rcases Nat.lt_or_ge i T.length with hi | hi
  ·rcases (h4 i hi).2 with h | h
   ·exact absurd hk h
   ·exact h
  ·rw [h3 i hi] at hk; cases hk
theorem wtokOk : TokOk wtoks := tokOk_of (by kernel_rfl)
theorem wtok0 : 0 < wtoks.length := by
 have : decide (0 < wtoks.length) = true := by kernel_rfl
 exact of_decide_eq_true this
def tInt : Ty := ⟨1, [], [], []⟩
def tBool : Ty := ⟨2, [], [], []⟩
def tS (a : Bs) : Ty := ⟨3, [83], [a], []⟩
def wS : Sct := ⟨false, [83], [[97]], [⟨false, [102], ⟨4, [], [[97]], [tInt]⟩⟩, ⟨false, [103], tInt⟩], 0⟩
def wT : Sct := ⟨false, [84], [[97], [98]], [⟨false, [102], tS [97]⟩, ⟨false, [103], ⟨4, [], [[98]], [tS [98]]⟩⟩, ⟨false, [104], ⟨5, [], [[97]], [tInt]⟩⟩], 36⟩
def wU : Sct := ⟨false, [85], [], [⟨false, [102], tInt⟩, ⟨false, [103], tBool⟩], 96⟩
def wLs : List Sct := [wS, wT, wU]
theorem witems0 : (itemsL wtoks 300 [] ⟨0, 0, 0, -1, 0⟩).map (·.1) = some wLs := by kernel_rfl
theorem witems : ∃ sE, itemsL wtoks 300 [] ⟨0, 0, 0, -1, 0⟩ = some (wLs, sE) := by
 have h := witems0
 cases hi : itemsL wtoks 300 [] ⟨0, 0, 0, -1, 0⟩ with
 | none => rw [hi] at h; cases h
 | some r =>
  rw [hi] at h
  obtain ⟨l, sE⟩ := r
  have e : l = wLs := by simpa using h
  exact ⟨sE, by rw [e]⟩
theorem okInt {L : List Sct} {l : List Bs} {d : Nat} : okT L l (d + 1) tInt := .inl (.inl rfl)
theorem okBool {L : List Sct} {l : List Bs} {d : Nat} : okT L l (d + 1) tBool := .inl (.inr rfl)
theorem okS1 {L : List Sct} {l : List Bs} {d : Nat} {a : Bs} (h : wS ∈ L) (ha : a ∈ l) : okT L l (d + 1) (tS a) := .inr (.inl ⟨rfl, wS, h, rfl, rfl, fun z hz => by simp [tS] at hz; rw [hz]; exact ha⟩)
theorem okRef {L : List Sct} {l : List Bs} {d : Nat} {k : Int} {a : Bs} {e : Ty} (hk : k = 4 ∨ k = 5) (ha : a ∈ l) (he : ∀ z ∈ e.lives, z = a) (h : okT L l d e) : okT L l (d + 1) ⟨k, [], [a], [e]⟩ := .inr (.inr ⟨hk, a, e, rfl, rfl, ha, he, h⟩)
theorem wokS : okS [] 2 wS := ⟨rfl, by simp, by decide, by decide, ⟨by decide, by
 intro f hf
 simp only [wS, List.mem_cons, List.not_mem_nil, or_false] at hf
 rcases hf with rfl | rfl
 ·exact okRef (.inl rfl) (by decide) (by simp [tInt]) okInt
 ·exact okInt⟩, by decide⟩
theorem wokT : okS [wS] 2 wT := ⟨rfl, by decide, by decide, by decide, ⟨by decide, by
 intro f hf
 simp only [wT, List.mem_cons, List.not_mem_nil, or_false] at hf
 rcases hf with rfl | rfl | rfl
 ·exact okS1 (by simp) (by decide)
 ·exact okRef (.inl rfl) (by decide) (by simp [tS]) (okS1 (by simp) (by decide))
 ·exact okRef (.inr rfl) (by decide) (by simp [tInt]) okInt⟩, by decide⟩
theorem wokU : okS [wS, wT] 2 wU := ⟨rfl, by decide, by decide, by decide, ⟨by decide, by
 intro f hf
 simp only [wU, List.mem_cons, List.not_mem_nil, or_false] at hf
 rcases hf with rfl | rfl
 ·exact okInt
 ·exact okBool⟩, by decide⟩
theorem wok : okL 2 wLs := by
 intro i h
 match i, h with
 | 0, _ => exact wokS
 | 1, _ => exact wokT
 | 2, _ => exact wokU
theorem mInt {n : Nat} : MayTy (n + 1) tInt := .inl ⟨.inl rfl, rfl, rfl, rfl⟩
theorem mBool {n : Nat} : MayTy (n + 1) tBool := .inl ⟨.inr rfl, rfl, rfl, rfl⟩
theorem mS {n : Nat} {a : Bs} (ha : lifeB a = true) : MayTy (n + 1) (tS a) := .inr (.inl ⟨rfl, by kernel_rfl, by simp [tS], by simp [tS, ha], rfl⟩)
theorem mRef {n : Nat} {k : Int} {a : Bs} {e : Ty} (hk : k = 4 ∨ k = 5) (ha : lifeB a = true) (h : MayTy n e) : MayTy (n + 1) ⟨k, [], [a], [e]⟩ := .inr (.inr ⟨hk, rfl, by simp, by simp [ha], e, rfl, h⟩)
theorem wmay : ∀ x ∈ wLs, MaySct x := by
 intro x hx
 simp only [wLs, List.mem_cons, List.not_mem_nil, or_false] at hx
 rcases hx with rfl | rfl | rfl
 ·refine ⟨by kernel_rfl, by kernel_rfl, by decide, fun f hf => ?_⟩
  simp only [wS, List.mem_cons, List.not_mem_nil, or_false] at hf
  rcases hf with rfl | rfl
  ·exact ⟨rfl, by kernel_rfl, mRef (.inl rfl) (by kernel_rfl) mInt⟩
  ·exact ⟨rfl, by kernel_rfl, mInt⟩
 ·refine ⟨by kernel_rfl, by kernel_rfl, by decide, fun f hf => ?_⟩
  simp only [wT, List.mem_cons, List.not_mem_nil, or_false] at hf
  rcases hf with rfl | rfl | rfl
  ·exact ⟨rfl, by kernel_rfl, mS (by kernel_rfl)⟩
  ·exact ⟨rfl, by kernel_rfl, mRef (.inl rfl) (by kernel_rfl) (mS (by kernel_rfl))⟩
  ·exact ⟨rfl, by kernel_rfl, mRef (.inr rfl) (by kernel_rfl) mInt⟩
 ·refine ⟨by kernel_rfl, by kernel_rfl, by decide, fun f hf => ?_⟩
  simp only [wU, List.mem_cons, List.not_mem_nil, or_false] at hf
  rcases hf with rfl | rfl
  ·exact ⟨rfl, by kernel_rfl, mInt⟩
  ·exact ⟨rfl, by kernel_rfl, mBool⟩
theorem wflat : ∀ x ∈ wLs, ∀ f ∈ x.fields, flT 2 f.ty := by
 intro x hx f hf
 simp only [wLs, List.mem_cons, List.not_mem_nil, or_false] at hx
 rcases hx with rfl | rfl | rfl
 ·simp only [wS, List.mem_cons, List.not_mem_nil, or_false] at hf
  rcases hf with rfl | rfl
  ·exact ⟨by simp, .inr ⟨.inl rfl, tInt, rfl, by simp [tInt], .inl rfl⟩⟩
  ·exact ⟨by simp [tInt], .inl rfl⟩
 ·simp only [wT, List.mem_cons, List.not_mem_nil, or_false] at hf
  rcases hf with rfl | rfl | rfl
  ·exact ⟨by simp [tS], .inl rfl⟩
  ·exact ⟨by simp, .inr ⟨.inl rfl, tS [98], rfl, by simp [tS], .inl rfl⟩⟩
  ·exact ⟨by simp, .inr ⟨.inr rfl, tInt, rfl, by simp [tInt], .inl rfl⟩⟩
 ·simp only [wU, List.mem_cons, List.not_mem_nil, or_false] at hf
  rcases hf with rfl | rfl
  ·exact ⟨by simp [tInt], .inl rfl⟩
  ·exact ⟨by simp [tBool], .inl rfl⟩
end Go.Proofs.YtldbbkheemnnhaaGreatDoor

namespace Go.Proofs.YtldbbkheemnnhaaGreatDoor
open Go.RowKit Go.Maps
set_option maxHeartbeats 2000000 in
theorem all128_nil (a : Option Addr) (c : Nat) (f : Value) (w : World) : Calls Tryz.prog 128 #[.slice a 0 c, f] w fun ev w' => ev = .returned (.bool true) /\ w' = w := by
 go_enter Tryz.func128, Tryz.ntmps128
 go_wp2_with fail
 refine wp_loop_rounds 1 ?_
 rw [rounds_succ]
 go_wp2_with fail
 go_ret
 exact ⟨rfl, rfl⟩
set_option maxHeartbeats 4000000 in
theorem may_yes {K : Ctx} {w : World} (he : Env K w) {Ls : List Sct} {v0 : Value} {a1 : Option Addr} {p1 : Nat} (hs : Ar 5 80 (SctAt K w) K w v0 Ls) (hall : ∀ x ∈ Ls, MaySct x) (hn : Ls.length <= 256) :
  Calls Tryz.prog 98 #[.agg #[v0, .slice a1 0 p1]] w fun ev w' => ev = .returned (.bool true) /\ Below w.heap.size w w' := by
 obtain ⟨a0, p0, rfl⟩ := hs.form
 have hA := alloc_one w (.cells #[.slice a0 Ls.length p0, .slice a1 0 p1] 69)
 have hK := below_le hA he.C
 have HA := hidP hA
 have T1 := hidP ((allStructs (P := MaySct) (he.below hK) (fun _ _ _ he hx B hB => mayStruct_any he hx B hB) (hs.mono hK fun _ _ _ q => q.below hK) true ⟨fun _ => hall, fun _ => rfl⟩))
 have T2 := hidP (fun f w => all128_nil a1 p1 f w)
 have R0 : Hid (Row (w.alloc (.cells #[.slice a0 Ls.length p0, .slice a1 0 p1] 69)) w.heap.size 69 [.slice a0 Ls.length p0, .slice a1 0 p1]) := Row.new w 69 _
 have hsz : Hid ((w.alloc (.cells #[.slice a0 Ls.length p0, .slice a1 0 p1] 69)).heap.size = w.heap.size + 1) := size_alloc _ _
 have b0 : decide (Ls.length <= 256) = true := by simpa using hn
 have b1 : (Ls.length : Int) <= 256 := by omega
 clear he hs hall hA hK
 generalize Ls.length = n at *
 have y0 := R0.out.cell 0
 have y1 := R0.out.cell 1
 simp only [List.getElem?_cons_zero, List.getElem?_cons_succ] at y0 y1
 go_enter Tryz.func98, Tryz.ntmps98
 go_wp2_with fail
 refine T1.out.mono ?_
 rintro _ w2 ⟨rfl, hb⟩
 have R2 := R0.out.below hb R0.out.lt
 have z1 := R2.cell 1
 simp only [List.getElem?_cons_zero, List.getElem?_cons_succ] at z1
 have HB := hidP (HA.out.trans (below_le hb (by rw [hsz.out]; omega)))
 clear T1 R0 R2 hb HA y0 y1
 go_wp2_with fail
 refine (T2.out _ _).mono ?_
 rintro _ _ ⟨rfl, rfl⟩
 go_wp2_with fail
 go_ret
 exact ⟨rfl, HB.out⟩
set_option maxHeartbeats 8000000 in
set_option maxRecDepth 20000 in
theorem scopeMay_yes {K : Ctx} {w : World} (he : Env K w) {s : Bs} (hnm : nameB s = true) (hs9 : s.length <= 1000) {Ls : List Sct} {v0 : Value} {a1 : Option Addr} {p1 : Nat} (hs : Ar 5 80 (SctAt K w) K w v0 Ls) (hall : ∀ x ∈ Ls, MaySct x) (hn : Ls.length <= 256) :
  Calls Tryz.prog 61 #[.string (str s), .slice none 0 0, .agg #[v0, .slice a1 0 p1]] w fun ev w' => ev = .returned (.bool true) /\ Below w.heap.size w w' := by
 obtain ⟨a0, p0, rfl⟩ := hs.form
 have hmm := @run_makeMap Tryz.prog
 obtain ⟨W0, hW0⟩ : ∃ W0, W0 = (w.alloc (.cells #[.slice a0 Ls.length p0, .slice a1 0 p1] 69)).alloc (.map #[] 0) := ⟨_, rfl⟩
 have HA : Hid (Below w.heap.size w W0) := by rw [hW0]; exact alloc_two w _ _
 have R0 : Hid (Row W0 w.heap.size 69 [.slice a0 Ls.length p0, .slice a1 0 p1]) := by rw [hW0]; exact (Row.new w 69 [.slice a0 Ls.length p0, .slice a1 0 p1]).alloc _
 have HM : Hid (Mp W0 (w.heap.size + 1) (un [])) := by
  have := Mp.made (w.alloc (.cells #[.slice a0 Ls.length p0, .slice a1 0 p1] 69))
  rw [size_alloc] at this; rw [hW0]; exact this
 have hsz : Hid (W0.heap.size = w.heap.size + 2) := by rw [hW0]; exact size_two w _ _
 have NM : Hid (∀ y, Calls Tryz.prog 95 #[.string (str s)] y fun ev w' => ev = .returned (.bool true) /\ w' = y) := fun y => by
  have := name_any s (by omega) y
  rwa [hnm] at this
 have AD := hidP (add_any HM.out s (by omega) (by simp [un]) (by simp [un]))
 have MY : Hid (∀ y, Below w.heap.size w y -> Calls Tryz.prog 98 #[.agg #[.slice a0 Ls.length p0, .slice a1 0 p1]] y fun ev w' => ev = .returned (.bool true) /\ Below y.heap.size y w') := fun y hy => may_yes (he.below (below_le hy he.C)) (hs.mono (below_le hy he.C) fun _ _ _ q => q.below (below_le hy he.C)) hall hn
 have HW0 := hidP hW0
 clear he hs hall hW0 hnm
 generalize Ls.length = n at *
 generalize str s = SN at *
 go_enter Tryz.func61, Tryz.ntmps61
 go_wp2_with fail
 rw [← HW0.out]
 clear HW0
 refine (NM.out _).mono ?_
 rintro _ _ ⟨rfl, rfl⟩
 go_wp2_with fail
 refine AD.out.mono ?_
 rintro _ w2 ⟨rfl, hM2, S2⟩
 have hz := hsz.out
 have R2 := hidP (S2.row R0.out (by omega))
 have HB2 := hidP (HA.out.trans (S2.below (C := w.heap.size) HA.out.size (fun q hq => by omega)))
 clear AD hM2 S2 R0 HA HM NM
 go_wp2_with fail
 refine wp_loop_rounds 1 ?_
 rw [rounds_succ]
 go_wp2_with (first | (refine ldR rfl 69 (.tmp 5) rfl rfl R2.out Tryz.underlying69 rfl Tryz.sz69 ?_; apply shut))
 show wpList _ _ _ _ _ _
 go_wp2_with fail
 refine (MY.out _ HB2.out).mono ?_
 rintro _ w3 ⟨rfl, hb3⟩
 have HB3 := hidP (HB2.out.trans (below_le hb3 HB2.out.size))
 clear MY R2 HB2 hb3
 go_wp2_with fail
 go_ret
 exact ⟨rfl, HB3.out⟩
set_option maxHeartbeats 16000000 in
set_option maxRecDepth 20000 in
theorem new_yes {K : Ctx} {w : World} (he : Env K w) {s : Bs} (hnm : nameB s = true) (hs9 : s.length <= 1000) {Ls : List Sct} {v0 : Value} {a1 : Option Addr} {p1 : Nat} (hs : Ar 5 80 (SctAt K w) K w v0 Ls) (hall : ∀ x ∈ Ls, MaySct x) (hn : Ls.length <= 256) {d : Nat} (hok : okL d Ls) :
  Calls Tryz.prog 40 #[.string (str s), .slice none 0 0, .agg #[v0, .slice a1 0 p1]] w fun ev w' => ∃ g b c, ev = .returned (.tuple #[.pointer (some ⟨g, 0, none⟩), .nilIface]) /\ Below w.heap.size w w' /\ ∃ Q, Scp Q K.B w' g b c Ls /\ (∀ k, Q k -> w.heap.size <= k) /\ w.heap.size <= g /\ w.heap.size <= b := by
 have hsm := K.small
 obtain ⟨a0, p0, rfl⟩ := hs.form
 have hmm := @run_makeMap Tryz.prog
 have hA := alloc_one w (.cells #[.slice a0 Ls.length p0, .slice a1 0 p1] 69)
 have hK := below_le hA he.C
 have R0 : Hid (Row (w.alloc (.cells #[.slice a0 Ls.length p0, .slice a1 0 p1] 69)) w.heap.size 69 [.slice a0 Ls.length p0, .slice a1 0 p1]) := Row.new w 69 _
 have hsz : Hid ((w.alloc (.cells #[.slice a0 Ls.length p0, .slice a1 0 p1] 69)).heap.size = w.heap.size + 1) := size_alloc _ _
 have HA := hidP hA
 have SM := hidP (scopeMay_yes (a1 := a1) (p1 := p1) (he.below hK) hnm hs9 (hs.mono hK fun _ _ _ q => q.below hK) hall hn)
 have CP : Hid (∀ y, Below w.heap.size w y -> Calls Tryz.prog 64 #[.agg #[.slice a0 Ls.length p0, .slice a1 0 p1]] y fun ev w' => ∃ u0, ev = .returned (.agg #[u0, .slice none 0 0]) /\ Below y.heap.size y w' /\ ArR K.B y w' u0 Ls) := fun y hy => copyOf_any (Nat.le_trans he.C hy.size) (hs.mono (below_le hy he.C) fun _ _ _ q => q.below (below_le hy he.C))
 have HOK := hidP hok
 have hl1 : Ls.length <= 1000 := by omega
 clear he hs hall hA hK hok hnm
 generalize hnn : Ls.length = n at *
 have HNN := hidP hnn
 clear hnn
 generalize str s = SN at *
 go_enter Tryz.func40, Tryz.ntmps40
 go_wp2_with fail
 refine SM.out.mono ?_
 rintro _ w1 ⟨rfl, hb1⟩
 have R1 := hidP (R0.out.below hb1 R0.out.lt)
 have HB1 := hidP (HA.out.trans (below_le hb1 (by rw [hsz.out]; omega)))
 obtain ⟨W1, hW1⟩ : ∃ W1, W1 = ((w1.alloc (.map #[] 0)).alloc (.map #[] 0)).alloc (.cells #[.map (some w1.heap.size), .map (some (w1.heap.size + 1))] 121) := ⟨_, rfl⟩
 have hbW : Below w1.heap.size w1 W1 := by rw [hW1]; exact (alloc_two w1 _ _).alloc (by rw [size_two]; omega) _
 have szW : W1.heap.size = w1.heap.size + 3 := by rw [hW1, size_alloc, size_two]
 have HM : Mp W1 w1.heap.size [] := by
  rw [hW1]
  exact ((Mp.made w1).below (alloc_one _ _)).below (alloc_one _ _)
 have RG : Row W1 (w1.heap.size + 2) 121 [.map (some w1.heap.size), .map (some (w1.heap.size + 1))] := by
  have := Row.new ((w1.alloc (.map #[] 0)).alloc (.map #[] 0)) 121 [.map (some w1.heap.size), .map (some (w1.heap.size + 1))]
  rw [size_two] at this; rw [hW1]; exact this
 have R2 := hidP (R1.out.below hbW R1.out.lt)
 have HB2 := hidP (HB1.out.trans (below_le hbW HB1.out.size))
 have HW1 := hidP hW1
 have HSM : Hid (ScM (fun _ => False) K.B W1 w1.heap.size []) := ⟨[], HM, rfl, fun n => by simp, fun x h => by cases h⟩
 replace RG := hidP RG
 replace szW := hidP szW
 clear SM R0 R1 hb1 HA hbW hW1 HM hsz
 go_wp2_with fail
 rw [← HW1.out]
 refine wp_loop_rounds 1 ?_
 rw [rounds_succ]
 go_wp2_with (first | (refine ldR rfl 69 (.tmp 5) rfl rfl R2.out Tryz.underlying69 rfl Tryz.sz69 ?_; apply shut))
 show wpList _ _ _ _ _ _
 clear HW1
 go_wp2_with fail
 refine (CP.out W1 HB2.out).mono ?_
 rintro _ w3 ⟨u0, rfl, hb3, q3⟩
 have hz := szW.out
 have hz1 := HB1.out.size
 have hz3 := hb3.size
 have HB3 := hidP (HB2.out.trans (below_le hb3 HB2.out.size))
 have HS : Hid (Scp (Fr W1 w3) K.B w3 (w1.heap.size + 2) w1.heap.size (w1.heap.size + 1) []) := by
  refine ⟨RG.out.below hb3 RG.out.lt, ?_, fun k hk => hk.2⟩
  obtain ⟨m, hm, h1, h2, h3⟩ := HSM.out.raw
  exact ⟨m, hm.below hb3, h1, h2, fun x h => by cases h⟩
 have AC := hidP (addCrate_yes (a1 := none) (p1 := 0) HS.out hsm (by omega) (fun k hk => ⟨by have := hk.1; omega, by have := hk.1; omega⟩) q3.arQ HOK.out (by rw [HNN.out]; exact hl1))
 obtain ⟨b0, m0, rfl⟩ := q3.form
 clear CP R2 HB2 hb3 q3 HSM RG HS
 go_wp2_with fail
 refine AC.out.mono ?_
 rintro _ w4 ⟨rfl, hS4, s4⟩
 have HS4 := hidP hS4
 have HB4 := hidP (HB3.out.trans (s4.below (C := w.heap.size) HB3.out.size (fun q hq => by omega)))
 have HQ : Hid (∀ k, Fr W1 w3 k -> w.heap.size <= k) := fun k hk => by have := hk.1; omega
 have hg1 : Hid (w.heap.size <= w1.heap.size) := hz1
 clear AC hS4 s4 HB3
 go_wp2_with fail
 go_ret2
 exact ⟨_, _, _, rfl, HB4.out, _, HS4.out, HQ.out, Nat.le_trans hg1.out (by omega), hg1.out⟩
end Go.Proofs.YtldbbkheemnnhaaGreatDoor
