/-
  What the document tells of a few.
-/
import Derived.Test.YtjnogpcpekheoaaTak
import Derived.Test.YtjnogpcpekheoaaXsm
import Derived.Lib.SlBytesConst
import Derived.Deep.RegionHeld3
namespace Go.Proofs.Ytjnogpcpekheoaa
open Go.RowKit Go.Maps

/-- One byte of a constant text. -/
theorem sl_const (y : World) (x : UInt8) : Sl (y.alloc (.cells #[.int .u8 (x.toNat : Int)] 5 (1, 2))) (.slice (some ⟨y.heap.size, 0, none⟩) 1 1) [x] := by
  refine ⟨.inr ⟨_, 0, 1, rfl, by simp, fun i hi => ?_⟩⟩
  rw [Nat.zero_add, World.cell?_alloc_mark y #[.int .u8 (x.toNat : Int)] 5 (1, 2) i]
  obtain rfl : i = 0 := by simpa using hi
  rfl
set_option maxRecDepth 100000 in
theorem known_y : sumF [121] ≠ List.replicate 32 0 := by
  intro h
  have := congrArg (fun l : List UInt8 => l.getD 0 0) h
  have e : (sumF [121]).getD 0 0 = 161 := by kernel_rfl
  simp only [e] at this
  cases this

theorem put_const {O : Nat → Prop} {w : World} {v : Value} {bm room : Nat} {c : List (Bys × Bys)} (x : UInt8) (H : Sto O w v bm room c) (hr : room ≤ 4096) :
    Calls Try.prog 10 #[v, .slice (some ⟨w.heap.size, 0, none⟩) 1 1] (w.alloc (.cells #[.int .u8 (x.toNat : Int)] 5 (1, 2))) fun ev w' => ∃ e, ev = .returned (.tuple #[hv (sumOr (putC room c [x]).1 (sumF [x])), e]) ∧ Tell w' e (putC room c [x]).1 ∧ Sto (fun k => O k ∨ w.heap.size ≤ k) w' v bm room (putC room c [x]).2 ∧ w.grownBy w' (some bm) := by
  have hA : Below w.heap.size w (w.alloc (.cells #[.int .u8 (x.toNat : Int)] 5 (1, 2))) := (Below.refl _ _).alloc (Nat.le_refl _) _
  refine (put_any (H.below hA) hr (sl_const w x) (by simp)).mono ?_
  rintro ev w' ⟨e, he, hT, hS, hg⟩
  exact ⟨e, he, hT, hS.wide (fun k hk => hk.imp id (fun h => Nat.le_trans hA.size h)), (grown_below hA _).trans hg⟩
theorem putC_first (b : Bys) : putC 2 [] b = (0, [(sumF b, b)]) := by simp [putC]
theorem putC_again (b : Bys) : putC 2 [(sumF b, b)] b = (0, [(sumF b, b)]) := by simp [putC]

/-- What stands when told is about to answer. -/
structure TolRel (w : World) (sb bm gA gB : Nat) (e1 e2 : Value) (L : List Value) (w7 : World) : Prop where
  st : Sto (fun k => w.heap.size ≤ k) w7 (.pointer (some ⟨sb, 0, none⟩)) bm 2 [(sumF [120], [120])]
  a : w7.heap[gA]? = some (.cells L.toArray 35 (0, 0))
  b : w7.heap[gB]? = some (.cells L.toArray 35 (0, 0))
  er1 : Er w7 e1 2 0
  er2 : Er w7 e2 2 0
  below : Below w.heap.size w w7

set_option maxHeartbeats 8000000 in
set_option maxRecDepth 20000 in
theorem told_any (w : World) : Calls Try.prog 9 #[] w fun ev w' => ev = .returned (.bool true) ∧ Below w.heap.size w w' := by
  have C1 := new_ok w 2 (by omega) (by omega)
  have kc := fun (w : World) (C : Array Value) (n c : Nat) => Lib.run_convert_bytes_const (P := Try.prog) w 33 5 C n c Try.underlying33 Try.underlying5
  have P1 : Hid (∀ y sb bm, Sto (fun k => w.heap.size ≤ k) y (.pointer (some ⟨sb, 0, none⟩)) bm 2 [] → Below w.heap.size w y → Calls Try.prog 10 #[.pointer (some ⟨sb, 0, none⟩), .slice (some ⟨y.heap.size, 0, none⟩) 1 1] (y.alloc (.cells #[.int .u8 120] 5 (1, 2))) fun ev w' => ev = .returned (.tuple #[.agg (bys (sumF [120])).toArray, .nilIface]) ∧ Sto (fun k => w.heap.size ≤ k) w' (.pointer (some ⟨sb, 0, none⟩)) bm 2 [(sumF [120], [120])] ∧ y.grownBy w' (some bm)) := by
    intro y sb bm hS hb
    refine (put_const 120 hS (by omega)).mono ?_
    rw [putC_first]
    rintro ev w' ⟨e, rfl, hT, hS', hg⟩
    rw [hT.nil]
    exact ⟨rfl, hS'.wide (fun k hk => hk.elim id (fun h => Nat.le_trans hb.size h)), hg⟩
  have P2 : Hid (∀ y sb bm, Sto (fun k => w.heap.size ≤ k) y (.pointer (some ⟨sb, 0, none⟩)) bm 2 [(sumF [120], [120])] → Below w.heap.size w y → Calls Try.prog 10 #[.pointer (some ⟨sb, 0, none⟩), .slice (some ⟨y.heap.size, 0, none⟩) 1 1] (y.alloc (.cells #[.int .u8 120] 5 (1, 2))) fun ev w' => ev = .returned (.tuple #[.agg (bys (sumF [120])).toArray, .nilIface]) ∧ Sto (fun k => w.heap.size ≤ k) w' (.pointer (some ⟨sb, 0, none⟩)) bm 2 [(sumF [120], [120])] ∧ y.grownBy w' (some bm)) := by
    intro y sb bm hS hb
    refine (put_const 120 hS (by omega)).mono ?_
    rw [putC_again]
    rintro ev w' ⟨e, rfl, hT, hS', hg⟩
    rw [hT.nil]
    exact ⟨rfl, hS'.wide (fun k hk => hk.elim id (fun h => Nat.le_trans hb.size h)), hg⟩
  have N1 : Hid (∀ y, Calls Try.prog 8 #[.int .i64 0] y fun ev w' => ∃ e, ev = .returned (.tuple #[.pointer none, e]) ∧ Er w' e 2 0 ∧ Below y.heap.size y w') := fun y => new_bad y 0 (by omega)
  have N2 : Hid (∀ y, Calls Try.prog 8 #[.int .i64 4097] y fun ev w' => ∃ e, ev = .returned (.tuple #[.pointer none, e]) ∧ Er w' e 2 0 ∧ Below y.heap.size y w') := fun y => new_bad y 4097 (by omega)
  have hY := size35 (sumF [120]) (sumF_len [120])
  have hYo : (bys (sumF [120])).toArray.all (·.oneCell') = true := all_one (bys_one _)
  have hYz : z25.toArray.size = (bys (sumF [120])).toArray.size := by simp [z25, bys_len, sumF_len]
  have hL := info35L (sumF [120]) (sumF_len [120])
  have h32 := bys32 (sumF [120]) (sumF_len [120])
  have C14 : Hid (∀ y : World, Calls Try.prog 14 #[.slice (some ⟨y.heap.size, 0, none⟩) 1 1] (y.alloc (.cells #[.int .u8 120] 5 (1, 2))) fun ev w' => ev = .returned (.agg (bys (sumF [120])).toArray) ∧ Below y.heap.size y w') := fun y => by
    have hA : Below y.heap.size y (y.alloc (.cells #[.int .u8 120] 5 (1, 2))) := (Below.refl _ _).alloc (Nat.le_refl _) _
    refine (xsum_any _ _ _ (sl_const y 120) (by simp)).mono ?_
    rintro ev w' ⟨rfl, hb⟩
    exact ⟨rfl, hA.trans (hb.mono hA.size)⟩
  have he : ∀ y : World, (Op.equalIn 10000 35 (.agg (bys (sumF [120])).toArray) (.agg (bys (sumF [120])).toArray)).run Try.prog y = .ok true y := fun y => by rw [equ25 y _ _ (sumF_len [120]) (sumF_len [120])]; simp
  generalize hLL : bys (sumF [120]) = L at *
  clear hLL
  go_enter Try.func9, Try.ntmps9
  go_wp2_with (first | (go_at_call 8; refine C1.mono ?_; rintro ev w1 ⟨v, bm, rfl, hS, hb1⟩; obtain ⟨sb, rfl, -⟩ := hS.shape; have HS : Hid _ := hS; clear hS C1))
  refine (P1.out w1 sb bm HS.out hb1).mono ?_
  rintro ev w2 ⟨rfl, hS2, hg2⟩
  have hbm : w.heap.size ≤ bm := hS2.omap
  have hb2 : Below w.heap.size w w2 := hb1.grown hg2 hb1.size (fun k e => by cases e; exact hbm)
  have HS2 : Hid _ := hS2
  have hgA := heap_alloc_new w2 (.cells z25.toArray 35)
  have hbA : Below w2.heap.size w2 (w2.alloc (.cells z25.toArray 35)) := (Below.refl _ _).alloc (Nat.le_refl _) _
  clear hS2 hg2 P1 HS hb1
  go_wp2_with (first | (refine store_box rfl 35 _ _ rfl w2.heap.size L.toArray rfl rfl 35 z25.toArray hgA hY hYz hYo w2 hbA ?_; intro w3 rA hb3; have hS3 := HS2.out.below hb3; have hb3 := hb2.trans (hb3.mono hb2.size)))
  refine (P2.out w3 sb bm hS3 hb3).mono ?_
  rintro ev w4 ⟨rfl, hS4, hg4⟩
  have hb4 : Below w.heap.size w w4 := hb3.grown hg4 hb3.size (fun k e => by cases e; exact hbm)
  have hneA : w2.heap.size ≠ bm := fun e => by have := HS2.out.bmlt; omega
  have rA4 : w4.heap[w2.heap.size]? = some (.cells L.toArray 35 (0, 0)) := (hg4.block _ (Array.getElem?_eq_some_iff.1 rA).1 (fun e => hneA (Option.some.inj e))).trans rA
  have HS4 : Hid _ := hS4
  have hgB := heap_alloc_new w4 (.cells z25.toArray 35)
  have hbB : Below w4.heap.size w4 (w4.alloc (.cells z25.toArray 35)) := (Below.refl _ _).alloc (Nat.le_refl _) _
  have HR4 : Hid (w4.heap[w2.heap.size]? = some (.cells L.toArray 35 (0, 0))) := rA4
  clear hS4 hg4 P2 HS2 hS3 hb3 hb2 hgA hbA rA rA4 hneA
  go_wp2_with (first | (refine store_box rfl 35 _ _ rfl w4.heap.size L.toArray rfl rfl 35 z25.toArray hgB hY hYz hYo w4 hbB ?_; intro w5 rB hb5) | (go_at_call 8; refine (N1.out w5).mono ?_; rintro ev w6 ⟨e1, rfl, he1, hb6⟩; clear N1) | (go_at_call 8; refine (N2.out w6).mono ?_; rintro ev w7 ⟨e2, rfl, he2, hb7⟩; clear N2))
  have R7 : TolRel w sb bm w2.heap.size w4.heap.size e1 e2 L w7 := by
    have rA5 := (hb5.block _ (Array.getElem?_eq_some_iff.1 HR4.out).1).trans HR4.out
    have h57 := hb6.trans (hb7.mono hb6.size)
    have h47 := hb5.trans (h57.mono hb5.size)
    exact ⟨HS4.out.below h47, (h57.block _ (Array.getElem?_eq_some_iff.1 rA5).1).trans rA5, (h57.block _ (Array.getElem?_eq_some_iff.1 rB).1).trans rB, he1.below hb7, he2, hb4.trans (h47.mono hb4.size)⟩
  have HR7 : Hid _ := R7
  clear R7 HS4 HR4 hgB hbB rB hb5 he1 he2 hb6 hb7 hb4 hbm
  generalize w2.heap.size = gA at *
  generalize w4.heap.size = gB at *
  clear hb3
  have HS : Hid (∀ y, Below w7.heap.size w7 y → (Below w7.heap.size w7 y ∧ y.rangeAt gA 0 L ∧ y.rangeAt gB 0 L)) := fun y hy =>
    ⟨hy, range_of ((hy.block _ (Array.getElem?_eq_some_iff.1 HR7.out.a).1).trans HR7.out.a), range_of ((hy.block _ (Array.getElem?_eq_some_iff.1 HR7.out.b).1).trans HR7.out.b)⟩
  have HA : Hid (∀ y o, (Below w7.heap.size w7 y ∧ y.rangeAt gA 0 L ∧ y.rangeAt gB 0 L) → (Below w7.heap.size w7 (y.alloc o) ∧ (y.alloc o).rangeAt gA 0 L ∧ (y.alloc o).rangeAt gB 0 L)) := fun y o h => HS.out _ (h.1.alloc h.1.size _)
  have J14 : Hid (∀ y : World, (Below w7.heap.size w7 y ∧ y.rangeAt gA 0 L ∧ y.rangeAt gB 0 L) → Calls Try.prog 14 #[.slice (some ⟨y.heap.size, 0, none⟩) 1 1] (y.alloc (.cells #[.int .u8 120] 5 (1, 2))) fun ev w' => ev = .returned (.agg L.toArray) ∧ (Below w7.heap.size w7 w' ∧ w'.rangeAt gA 0 L ∧ w'.rangeAt gB 0 L)) := fun y h => by
    refine (C14.out y).mono ?_
    rintro ev w' ⟨rfl, hb⟩
    exact ⟨rfl, HS.out _ (h.1.trans (hb.mono h.1.size))⟩
  have J21 : Hid (∀ y : World, (Below w7.heap.size w7 y ∧ y.rangeAt gA 0 L ∧ y.rangeAt gB 0 L) → Calls Try.prog 21 #[.pointer (some ⟨sb, 0, none⟩)] y fun ev w' => ev = .returned (.int .i64 1) ∧ (Below w7.heap.size w7 w' ∧ w'.rangeAt gA 0 L ∧ w'.rangeAt gB 0 L)) := fun y h => by
    refine (count_any (HR7.out.st.below h.1)).mono ?_
    rintro ev w' ⟨rfl, rfl⟩
    exact ⟨rfl, h⟩
  have J13 : Hid (∀ y : World, (Below w7.heap.size w7 y ∧ y.rangeAt gA 0 L ∧ y.rangeAt gB 0 L) → Calls Try.prog 13 #[.pointer (some ⟨sb, 0, none⟩), .agg z25.toArray, .slice (some ⟨y.heap.size, 0, none⟩) 1 1] (y.alloc (.cells #[.int .u8 121] 5 (1, 2))) fun ev w' => ∃ e, ev = .returned e ∧ Tell w' e 11 ∧ (Below w7.heap.size w7 w' ∧ w'.rangeAt gA 0 L ∧ w'.rangeAt gB 0 L)) := fun y h => by
    have hA : Below y.heap.size y (y.alloc (.cells #[.int .u8 121] 5 (1, 2))) := (Below.refl _ _).alloc (Nat.le_refl _) _
    have h2 := h.1.trans (hA.mono h.1.size)
    refine (take_bad (h := List.replicate 32 0) (HR7.out.st.below h2) (sl_const y 121) (by simp) rfl known_y).mono ?_
    rintro ev w' ⟨e, rfl, hT, _, hb⟩
    exact ⟨e, rfl, hT, HS.out _ (h2.trans (hb.mono h2.size))⟩
  have J12 : Hid (∀ y e, Tell y e 11 → (Below w7.heap.size w7 y ∧ y.rangeAt gA 0 L ∧ y.rangeAt gB 0 L) → Calls Try.prog 12 #[e, .int .i64 11, .int .i64 0] y fun ev w' => ev = .returned (.bool true) ∧ (Below w7.heap.size w7 w' ∧ w'.rangeAt gA 0 L ∧ w'.rangeAt gB 0 L)) := fun y e hT h => by
    refine (is_any y e 11 0 11 0 hT.is rfl rfl).mono ?_
    rintro ev w' ⟨rfl, hb⟩
    exact ⟨rfl, HS.out _ (h.1.trans (hb.mono h.1.size))⟩
  have J1 : Hid (∀ y, (Below w7.heap.size w7 y ∧ y.rangeAt gA 0 L ∧ y.rangeAt gB 0 L) → Calls Try.prog 12 #[e1, .int .i64 2, .int .i64 0] y fun ev w' => ev = .returned (.bool true) ∧ (Below w7.heap.size w7 w' ∧ w'.rangeAt gA 0 L ∧ w'.rangeAt gB 0 L)) := fun y h => by
    refine (is_any y e1 2 0 2 0 (.inr (HR7.out.er1.below h.1)) rfl rfl).mono ?_
    rintro ev w' ⟨rfl, hb⟩
    exact ⟨rfl, HS.out _ (h.1.trans (hb.mono h.1.size))⟩
  have J2 : Hid (∀ y, (Below w7.heap.size w7 y ∧ y.rangeAt gA 0 L ∧ y.rangeAt gB 0 L) → Calls Try.prog 12 #[e2, .int .i64 2, .int .i64 0] y fun ev w' => ev = .returned (.bool true) ∧ (Below w7.heap.size w7 w' ∧ w'.rangeAt gA 0 L ∧ w'.rangeAt gB 0 L)) := fun y h => by
    refine (is_any y e2 2 0 2 0 (.inr (HR7.out.er2.below h.1)) rfl rfl).mono ?_
    rintro ev w' ⟨rfl, hb⟩
    exact ⟨rfl, HS.out _ (h.1.trans (hb.mono h.1.size))⟩
  have q7 := HS.out w7.drew (Below.refl _ _).drew
  have HW : Hid (Below w.heap.size w w7) := HR7.out.below
  have hu := Try.underlying35
  clear C14 HR7 hY hYo hYz HS
  refine wp_region_held_drew (S := fun y => Below w7.heap.size w7 y ∧ y.rangeAt gA 0 L ∧ y.rangeAt gB 0 L) (by kernel_rfl) q7 (fun hHeld => ?_)
  generalize w7.drew = wd at *
  refine take_in 0 (v := ?vto0) rfl (some 43) rfl (by kernel_rfl) (by kernel_rfl) (by kernel_rfl) (fun _ _ _ h => h) (Or.inl ⟨by rfl, ?hto0⟩) (by assumption) ?rto0
  case hto0 => (intro y hy; go_simp; with_reducible rfl)
  simp only [Act.put, List.setIfInBounds_toArray, List.set_cons_zero, List.set_cons_succ]
  refine take_in 1 (v := ?vto1) rfl (some 44) rfl (by kernel_rfl) (by kernel_rfl) (by kernel_rfl) (fun _ _ _ h => h) (Or.inl ⟨by rfl, ?hto1⟩) (by assumption) ?rto1
  case hto1 => (intro y hy; go_simp; with_reducible rfl)
  simp only [Act.put, List.setIfInBounds_toArray, List.set_cons_zero, List.set_cons_succ]
  refine take_in 2 (v := ?vto2) rfl (some 45) rfl (by kernel_rfl) (by kernel_rfl) (by kernel_rfl) (fun _ _ _ h => h) (Or.inl ⟨by rfl, ?hto2⟩) (by assumption) ?rto2
  case hto2 => (intro y hy; go_simp; with_reducible rfl)
  simp only [Act.put, List.setIfInBounds_toArray, List.set_cons_zero, List.set_cons_succ]
  refine take_in 3 (v := ?vto3) rfl (some 46) rfl (by kernel_rfl) (by kernel_rfl) (by kernel_rfl) (fun _ _ _ h => h) (Or.inl ⟨by rfl, ?hto3⟩) (by assumption) ?rto3
  case hto3 => (intro y hy; go_simp; with_reducible rfl)
  simp only [Act.put, List.setIfInBounds_toArray, List.set_cons_zero, List.set_cons_succ]
  refine take_in 4 (v := ?vto4) rfl (some 47) rfl (by kernel_rfl) (by kernel_rfl) (by kernel_rfl) (fun _ _ _ h => h) (Or.inl ⟨by rfl, ?hto4⟩) (by assumption) ?rto4
  case hto4 => (intro y hy; go_simp; with_reducible rfl)
  simp only [Act.put, List.setIfInBounds_toArray, List.set_cons_zero, List.set_cons_succ]
  refine take_in 5 (v := ?vto5) rfl (some 48) rfl (by kernel_rfl) (by kernel_rfl) (by kernel_rfl) (fun _ _ _ h => h) (Or.inl ⟨by rfl, ?hto5⟩) (by assumption) ?rto5
  case hto5 => (intro y hy; go_simp; with_reducible rfl)
  simp only [Act.put, List.setIfInBounds_toArray, List.set_cons_zero, List.set_cons_succ]
  refine take_in 6 (v := ?vto6) rfl (some 49) rfl (by kernel_rfl) (by kernel_rfl) (by kernel_rfl) (fun _ _ _ h => h) (Or.inl ⟨by rfl, ?hto6⟩) (by assumption) ?rto6
  case hto6 => (intro y hy; go_simp; with_reducible rfl)
  simp only [Act.put, List.setIfInBounds_toArray, List.set_cons_zero, List.set_cons_succ]
  refine take_in 7 (v := .agg L.toArray) rfl (some 50) rfl (by kernel_rfl) (by kernel_rfl) (by kernel_rfl) (fun _ _ _ h => h) (yieldsIf_load_mid (by rfl) 35 _ rfl gA 0 rfl L _ (fun y hy => hy.2.1) Try.underlying35 rfl hL) (by assumption) ?_
  simp only [Act.put, List.setIfInBounds_toArray, List.set_cons_zero, List.set_cons_succ]
  refine take_in 8 (v := .agg L.toArray) rfl (some 51) rfl (by kernel_rfl) (by kernel_rfl) (by kernel_rfl) (fun _ _ _ h => h) (yieldsIf_load_mid (by rfl) 35 _ rfl gB 0 rfl L _ (fun y hy => hy.2.2) Try.underlying35 rfl hL) (by assumption) ?_
  simp only [Act.put, List.setIfInBounds_toArray, List.set_cons_zero, List.set_cons_succ]
  refine take_in 9 (v := ?vto9) rfl (some 52) rfl (by kernel_rfl) (by kernel_rfl) (by kernel_rfl) (fun _ _ _ h => h) (Or.inl ⟨by rfl, ?hto9⟩) (by assumption) ?rto9
  case hto9 => (intro y hy; go_simp; with_reducible rfl)
  simp only [Act.put, List.setIfInBounds_toArray, List.set_cons_zero, List.set_cons_succ]
  refine take_in 10 (v := ?vto10) rfl (some 53) rfl (by kernel_rfl) (by kernel_rfl) (by kernel_rfl) (fun _ _ _ h => h) (Or.inl ⟨by rfl, ?hto10⟩) (by assumption) ?rto10
  case hto10 => (intro y hy; go_simp; with_reducible rfl)
  simp only [Act.put, List.setIfInBounds_toArray, List.set_cons_zero, List.set_cons_succ]
  refine take_in 11 (v := ?vto11) rfl (some 54) rfl (by kernel_rfl) (by kernel_rfl) (by kernel_rfl) (fun _ _ _ h => h) (Or.inl ⟨by rfl, ?hto11⟩) (by assumption) ?rto11
  case hto11 => (intro y hy; go_simp; with_reducible rfl)
  simp only [Act.put, List.setIfInBounds_toArray, List.set_cons_zero, List.set_cons_succ]
  refine take_in 12 (v := .agg L.toArray) rfl (some 55) rfl (by kernel_rfl) (by kernel_rfl) (by kernel_rfl) (fun _ _ _ h => h) (yieldsIf_load_mid (by rfl) 35 _ rfl gA 0 rfl L _ (fun y hy => hy.2.1) Try.underlying35 rfl hL) (by assumption) ?_
  simp only [Act.put, List.setIfInBounds_toArray, List.set_cons_zero, List.set_cons_succ]
  refine wpAnyH_ready (rs := [13]) (by kernel_rfl) (by simp) ?_
  refine AllReadyH.cons rfl (fun K hK => ?_) AllReadyH.nil
  go_simp
  refine hK.out _ _ (HA.out _ _ (by assumption)) (fun hHx => ?_)
  clear hK K
  refine wpAnyH_ready (rs := [14]) (by kernel_rfl) (by simp) ?_
  refine AllReadyH.cons rfl (fun K hK => ?_) AllReadyH.nil
  go_simp
  refine hK.out _ _ (HA.out _ _ (by assumption)) (fun hHx => ?_)
  clear hK K
  refine wpAnyH_ready (rs := [15]) (by kernel_rfl) (by simp) ?_
  refine AllReadyH.cons rfl (fun K hK => ?_) AllReadyH.nil
  go_simp
  go_wp2_with (first | (go_at_call 14; refine (J14.out _ (by assumption)).mono ?_; rintro ev w8 ⟨rfl, hS8⟩; clear J14))
  refine hK.out _ _ (by assumption) (fun _ => ?_)
  clear hK K
  refine take_in 16 (v := ?vto16) rfl (some 59) rfl (by kernel_rfl) (by kernel_rfl) (by kernel_rfl) (fun _ _ _ h => h) (Or.inl ⟨by rfl, ?hto16⟩) (by assumption) ?rto16
  case hto16 => (intro y hy; go_simp; with_reducible rfl)
  simp only [Act.put, List.setIfInBounds_toArray, List.set_cons_zero, List.set_cons_succ]
  refine take_in 17 (v := ?vto17) rfl (some 60) rfl (by kernel_rfl) (by kernel_rfl) (by kernel_rfl) (fun _ _ _ h => h) (Or.inl ⟨by rfl, ?hto17⟩) (by assumption) ?rto17
  case hto17 => (intro y hy; go_simp; with_reducible rfl)
  simp only [Act.put, List.setIfInBounds_toArray, List.set_cons_zero, List.set_cons_succ]
  refine take_in 18 (v := ?vto18) rfl (some 61) rfl (by kernel_rfl) (by kernel_rfl) (by kernel_rfl) (fun _ _ _ h => h) (Or.inl ⟨by rfl, ?hto18⟩) (by assumption) ?rto18
  case hto18 => (intro y hy; go_simp; with_reducible rfl)
  simp only [Act.put, List.setIfInBounds_toArray, List.set_cons_zero, List.set_cons_succ]
  refine take_in 19 (v := ?vto19) rfl (some 62) rfl (by kernel_rfl) (by kernel_rfl) (by kernel_rfl) (fun _ _ _ h => h) (Or.inl ⟨by rfl, ?hto19⟩) (by assumption) ?rto19
  case hto19 => (intro y hy; go_simp; with_reducible rfl)
  simp only [Act.put, List.setIfInBounds_toArray, List.set_cons_zero, List.set_cons_succ]
  refine wpAnyH_ready (rs := [20]) (by kernel_rfl) (by simp) ?_
  refine AllReadyH.cons rfl (fun K hK => ?_) AllReadyH.nil
  go_simp
  go_wp2_with (first | (go_at_call 21; refine (J21.out _ (by assumption)).mono ?_; rintro ev w9 ⟨rfl, hS9⟩; clear J21))
  refine hK.out _ _ (by assumption) (fun _ => ?_)
  clear hK K
  refine take_in 21 (v := ?vto21) rfl (some 64) rfl (by kernel_rfl) (by kernel_rfl) (by kernel_rfl) (fun _ _ _ h => h) (Or.inl ⟨by rfl, ?hto21⟩) (by assumption) ?rto21
  case hto21 => (intro y hy; go_simp; with_reducible rfl)
  simp only [Act.put, List.setIfInBounds_toArray, List.set_cons_zero, List.set_cons_succ]
  refine take_in 22 (v := ?vto22) rfl (some 65) rfl (by kernel_rfl) (by kernel_rfl) (by kernel_rfl) (fun _ _ _ h => h) (Or.inl ⟨by rfl, ?hto22⟩) (by assumption) ?rto22
  case hto22 => (intro y hy; go_simp; with_reducible rfl)
  simp only [Act.put, List.setIfInBounds_toArray, List.set_cons_zero, List.set_cons_succ]
  refine take_in 23 (v := ?vto23) rfl (some 66) rfl (by kernel_rfl) (by kernel_rfl) (by kernel_rfl) (fun _ _ _ h => h) (Or.inl ⟨by rfl, ?hto23⟩) (by assumption) ?rto23
  case hto23 => (intro y hy; go_simp; with_reducible rfl)
  simp only [Act.put, List.setIfInBounds_toArray, List.set_cons_zero, List.set_cons_succ]
  refine take_in 24 (v := ?vto24) rfl (some 67) rfl (by kernel_rfl) (by kernel_rfl) (by kernel_rfl) (fun _ _ _ h => h) (Or.inl ⟨by rfl, ?hto24⟩) (by assumption) ?rto24
  case hto24 => (intro y hy; go_simp; with_reducible rfl)
  simp only [Act.put, List.setIfInBounds_toArray, List.set_cons_zero, List.set_cons_succ]
  refine take_in 25 (v := ?vto25) rfl (some 68) rfl (by kernel_rfl) (by kernel_rfl) (by kernel_rfl) (fun _ _ _ h => h) (Or.inl ⟨by rfl, ?hto25⟩) (by assumption) ?rto25
  case hto25 => (intro y hy; go_simp; with_reducible rfl)
  simp only [Act.put, List.setIfInBounds_toArray, List.set_cons_zero, List.set_cons_succ]
  refine wpAnyH_ready (rs := [26]) (by kernel_rfl) (by simp) ?_
  refine AllReadyH.cons rfl (fun K hK => ?_) AllReadyH.nil
  go_simp
  refine hK.out _ _ (HA.out _ _ (by assumption)) (fun hHx => ?_)
  clear hK K
  refine wpAnyH_ready (rs := [27]) (by kernel_rfl) (by simp) ?_
  refine AllReadyH.cons rfl (fun K hK => ?_) AllReadyH.nil
  go_simp
  refine hK.out _ _ (HA.out _ _ (by assumption)) (fun hHx => ?_)
  clear hK K
  refine wpAnyH_ready (rs := [28]) (by kernel_rfl) (by simp) ?_
  refine AllReadyH.cons rfl (fun K hK => ?_) AllReadyH.nil
  go_simp
  go_wp2_with (first | (go_at_call 13; refine (J13.out _ (by assumption)).mono ?_; rintro ev wA ⟨e, rfl, hT, hSA⟩; clear J13))
  refine hK.out _ _ (by assumption) (fun _ => ?_)
  clear hK K
  refine wpAnyH_ready (rs := [29]) (by kernel_rfl) (by simp) ?_
  refine AllReadyH.cons rfl (fun K hK => ?_) AllReadyH.nil
  go_simp
  go_wp2_with (first | (go_at_call 12; refine (J12.out _ _ (by assumption) (by assumption)).mono ?_; rintro ev wB ⟨rfl, hSB⟩; clear hT J12))
  refine hK.out _ _ (by assumption) (fun _ => ?_)
  clear hK K
  refine take_in 30 (v := ?vto30) rfl (some 73) rfl (by kernel_rfl) (by kernel_rfl) (by kernel_rfl) (fun _ _ _ h => h) (Or.inl ⟨by rfl, ?hto30⟩) (by assumption) ?rto30
  case hto30 => (intro y hy; go_simp; with_reducible rfl)
  simp only [Act.put, List.setIfInBounds_toArray, List.set_cons_zero, List.set_cons_succ]
  refine take_in 31 (v := ?vto31) rfl (some 74) rfl (by kernel_rfl) (by kernel_rfl) (by kernel_rfl) (fun _ _ _ h => h) (Or.inl ⟨by rfl, ?hto31⟩) (by assumption) ?rto31
  case hto31 => (intro y hy; go_simp; with_reducible rfl)
  simp only [Act.put, List.setIfInBounds_toArray, List.set_cons_zero, List.set_cons_succ]
  refine take_in 32 (v := ?vto32) rfl (some 75) rfl (by kernel_rfl) (by kernel_rfl) (by kernel_rfl) (fun _ _ _ h => h) (Or.inl ⟨by rfl, ?hto32⟩) (by assumption) ?rto32
  case hto32 => (intro y hy; go_simp; with_reducible rfl)
  simp only [Act.put, List.setIfInBounds_toArray, List.set_cons_zero, List.set_cons_succ]
  refine wpAnyH_ready (rs := [33]) (by kernel_rfl) (by simp) ?_
  refine AllReadyH.cons rfl (fun K hK => ?_) AllReadyH.nil
  go_simp
  go_wp2_with (first | (go_at_call 12; refine (J1.out _ (by assumption)).mono ?_; rintro ev wC ⟨rfl, hSC⟩; clear J1))
  refine hK.out _ _ (by assumption) (fun _ => ?_)
  clear hK K
  refine take_in 34 (v := ?vto34) rfl (some 77) rfl (by kernel_rfl) (by kernel_rfl) (by kernel_rfl) (fun _ _ _ h => h) (Or.inl ⟨by rfl, ?hto34⟩) (by assumption) ?rto34
  case hto34 => (intro y hy; go_simp; with_reducible rfl)
  simp only [Act.put, List.setIfInBounds_toArray, List.set_cons_zero, List.set_cons_succ]
  refine take_in 35 (v := ?vto35) rfl (some 78) rfl (by kernel_rfl) (by kernel_rfl) (by kernel_rfl) (fun _ _ _ h => h) (Or.inl ⟨by rfl, ?hto35⟩) (by assumption) ?rto35
  case hto35 => (intro y hy; go_simp; with_reducible rfl)
  simp only [Act.put, List.setIfInBounds_toArray, List.set_cons_zero, List.set_cons_succ]
  refine take_in 36 (v := ?vto36) rfl (some 79) rfl (by kernel_rfl) (by kernel_rfl) (by kernel_rfl) (fun _ _ _ h => h) (Or.inl ⟨by rfl, ?hto36⟩) (by assumption) ?rto36
  case hto36 => (intro y hy; go_simp; with_reducible rfl)
  simp only [Act.put, List.setIfInBounds_toArray, List.set_cons_zero, List.set_cons_succ]
  refine wpAnyH_ready (rs := [37]) (by kernel_rfl) (by simp) ?_
  refine AllReadyH.cons rfl (fun K hK => ?_) AllReadyH.nil
  go_simp
  go_wp2_with (first | (go_at_call 12; refine (J2.out _ (by assumption)).mono ?_; rintro ev wD ⟨rfl, hSD⟩; clear J2))
  refine hK.out _ _ (by assumption) (fun _ => ?_)
  clear hK K
  refine take_in 38 (v := ?vto38) rfl (some 81) rfl (by kernel_rfl) (by kernel_rfl) (by kernel_rfl) (fun _ _ _ h => h) (Or.inl ⟨by rfl, ?hto38⟩) (by assumption) ?rto38
  case hto38 => (intro y hy; go_simp; with_reducible rfl)
  simp only [Act.put, List.setIfInBounds_toArray, List.set_cons_zero, List.set_cons_succ]
  refine take_in 39 (v := ?vto39) rfl (some 0) rfl (by kernel_rfl) (by kernel_rfl) (by kernel_rfl) (fun _ _ _ h => h) (Or.inl ⟨by rfl, ?hto39⟩) (by assumption) ?rto39
  case hto39 => (intro y hy; go_simp; with_reducible rfl)
  simp only [Act.put, List.setIfInBounds_toArray, List.set_cons_zero]
  refine wpAnyH_done (by kernel_rfl) ?_ _
  go_wp2_with fail
  go_ret
  exact ⟨rfl, HW.out.trans (hSD.1.mono HW.out.size)⟩
end Go.Proofs.Ytjnogpcpekheoaa
