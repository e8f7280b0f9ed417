/-
  ShaBack's walk.
-/
import Derived.Test.YtnfiecafkapgmaaTol
import Derived.Test.YtnfiecafkapgmaaDig
import Derived.Stop.BytesEq
namespace Go.Proofs.Ytnfiecafkapgmaa
open Go.RowKit

theorem size5 (w : World) : (sizeOf 5).run Try.prog w = .ok 1 w := by
  obtain ⟨i0, hi, hz0, hz1, hz2⟩ := info_parts Try.info5
  simp [sizeOf, typeInfo, hi, hz1]
theorem eql25 (w : World) (a b : List UInt8) (ha : a.length = 32) (hb : b.length = 32) : (binOp .eql 25 (.agg (bys a).toArray) (.agg (bys b).toArray)).run Try.prog w = .ok (.bool (a == b)) w :=
  run_eql_bytes (P := Try.prog) w 25 5 32 Try.underlying25 Try.underlying5 size5 a b ha hb
theorem equ25 (w : World) (a b : List UInt8) (ha : a.length = 32) (hb : b.length = 32) : (Op.equalIn 10000 25 (.agg (bys a).toArray) (.agg (bys b).toArray)).run Try.prog w = .ok (a == b) w :=
  run_equalIn_bytes (P := Try.prog) w 9998 25 5 32 Try.underlying25 Try.underlying5 size5 a b ha hb
theorem neq25 (w : World) (a b : List UInt8) (ha : a.length = 32) (hb : b.length = 32) : (binOp .neq 25 (.agg (bys a).toArray) (.agg (bys b).toArray)).run Try.prog w = .ok (.bool (!(a == b))) w := by
  rw [run_neq_struct, equ25 w a b ha hb]; rfl
/-- What stays while ShaBack asks. -/
structure BRel (w4 : World) (n gx : Nat) (A B : List UInt8) : Prop where
  a : Row w4 n 25 (bys A)
  b : Row w4 (n + 1) 25 (bys B)
  x : Row w4 gx 25 (bys A)
theorem BRel.range {w4 y : World} {n gx : Nat} {A B : List UInt8} (h : BRel w4 n gx A B) (hb : Below w4.heap.size w4 y) : y.rangeAt n 0 (bys A) ∧ y.rangeAt (n + 1) 0 (bys B) ∧ y.rangeAt gx 0 (bys A) :=
  ⟨(h.a.below hb h.a.lt).range, (h.b.below hb h.b.lt).range, (h.x.below hb h.x.lt).range⟩

theorem three {A B : List UInt8} (o1 : (less A B || less B A) = decide (A ≠ B)) (o2 : (less A B && less B A) = false) :
    (less A B = true ∧ less B A = false ∧ (A == B) = false) ∨ (less A B = false ∧ less B A = true ∧ (A == B) = false) ∨ (less A B = false ∧ less B A = false ∧ (A == B) = true) := by
  by_cases e : A = B
  · subst e
    cases h : less A A <;> simp_all
  · have e' : (A == B) = false := by simpa using e
    cases h : less A B <;> cases g : less B A <;> simp_all

theorem load_guard {P : Program} {ops : Array Oper} {rest : List Oper} {o : Oper} {a : Act} {w : World} {Q : Exit → Act → World → Prop} (hw : Region.wanted o (yielded ops a.tmps) = true) (ty : TypeId) (x : Operand) (ho : o.op = .load ty x)
    (g : Nat) (hx : a.eval x = .pointer (some ⟨g, 0, none⟩)) (t : TypeId) (cs : Array Value) (fr : Nat × Nat) (d : TypeDesc) (hg : w.heap[g]? = some (.cells cs t fr))
    (hu : P.underlying ty = some d) (hd : (match d with | .struct _ | .array _ _ => true | _ => false) = true) (hi : (P.info? ty).map (·.size) = some cs.size)
    (h : wpList P ops Q rest (a.put o.dst (.agg cs)) w) : wpList P ops Q (o :: rest) a w :=
  BigFrame.wpList_want hw fun _ hK => wp_load_row ty x ho g hx t cs fr d hg hu hd hi (hK _ _ h)
theorem take_at {P : Program} {ops : Array Oper} {Q : Exit → Act → World → Prop} {md : Region.Mode} {S : World → Prop} (i : Nat) {oi : Oper} {v : Value} {fuel : Nat} {listed : Array Bool} {a : Act} {w : World} (hi : ops[i]? = some oi) (d : Option Tmp) (hd : oi.dst = d)
    (hs : Region.noSelect ops = true) (hf : Region.free md ops listed i = true) (hr : (Region.ready md ops listed).contains i = true)
    (hQ : ∀ c a w, Q (.panic c) (a.put d v) w → Q (.panic c) a w) (hy : YieldsIf P ops S oi v a) (hS : S w)
    (h : wpAnyH P md ops Q S fuel (listed.setIfInBounds i true) (a.put d v) w) : wpAnyH P md ops Q S (fuel + 1) listed a w := by
  subst hd
  exact wpAnyH_take hi hs hf hr hQ hy hS h

attribute [local go_sem ↓] Go.wp_at_zero Go.wp_at_succ
set_option maxHeartbeats 8000000 in
set_option maxRecDepth 20000 in
theorem back_walk (w : World) (A B l : List UInt8) (hA : A.length = 32) (hB : B.length = 32) (hl : l.length ≤ 9223372036854775807) :
    Calls Try.prog 5 #[.agg (bys A).toArray, .agg (bys B).toArray, .string (str l)] w fun ev w' => ev = .returned (.bool true) ∧ Below w.heap.size w w' := by
  obtain ⟨W, hW⟩ : ∃ W, W = (w.alloc (.cells (bys A).toArray 25)).alloc (.cells (bys B).toArray 25) := ⟨_, rfl⟩
  have r1 : Row W w.heap.size 25 (bys A) := by rw [hW]; exact (Row.new w 25 (bys A)).below ((Below.refl _ _).alloc (Nat.le_refl _) _) (by simp)
  have r2 : Row W (w.heap.size + 1) 25 (bys B) := by
    have := Row.new (w.alloc (.cells (bys A).toArray 25)) 25 (bys B)
    rw [hW]; simpa using this
  have hBW : Below w.heap.size w W := by rw [hW]; exact ((Below.refl w.heap.size w).alloc (Nat.le_refl _) _).alloc (by simp) _
  have C1 := hex_any W A hA
  have hp := parse_hex A hA
  have C2 : Hid (∀ y, Calls Try.prog 11 #[.string (str (hexF A))] y fun ev w' => ev = .returned (.tuple #[.agg (bys A).toArray, .nilIface]) ∧ Below y.heap.size y w') := by
    intro y
    refine (parse_any y (hexF A) (by rw [hexF_len, hA]; omega)).mono ?_
    rintro ev w' ⟨e, rfl, hE, hb⟩
    rw [hp] at hE ⊢
    rcases hE with ⟨_, _, rfl⟩ | hE
    · exact ⟨rfl, hb⟩
    · exact absurd rfl hE.1
  have HL1 : Hid (∀ (w4 : World) (gx : Nat), BRel w4 w.heap.size gx A B → ∀ y, (Below w4.heap.size w4 y ∧ y.rangeAt w.heap.size 0 (bys A) ∧ y.rangeAt (w.heap.size + 1) 0 (bys B) ∧ y.rangeAt gx 0 (bys A)) → Calls Try.prog 15 #[.agg (bys A).toArray, .agg (bys B).toArray] y fun ev y' => ev = .returned (.bool (less A B)) ∧ (Below w4.heap.size w4 y' ∧ y'.rangeAt w.heap.size 0 (bys A) ∧ y'.rangeAt (w.heap.size + 1) 0 (bys B) ∧ y'.rangeAt gx 0 (bys A))) := by
    intro w4 gx hR y hy
    refine (less_any y A B hA hB).mono ?_
    rintro ev y' ⟨rfl, hb⟩
    have hb' := hy.1.trans (hb.mono hy.1.size)
    exact ⟨rfl, hb', hR.range hb'⟩
  have HL2 : Hid (∀ (w4 : World) (gx : Nat), BRel w4 w.heap.size gx A B → ∀ y, (Below w4.heap.size w4 y ∧ y.rangeAt w.heap.size 0 (bys A) ∧ y.rangeAt (w.heap.size + 1) 0 (bys B) ∧ y.rangeAt gx 0 (bys A)) → Calls Try.prog 15 #[.agg (bys B).toArray, .agg (bys A).toArray] y fun ev y' => ev = .returned (.bool (less B A)) ∧ (Below w4.heap.size w4 y' ∧ y'.rangeAt w.heap.size 0 (bys A) ∧ y'.rangeAt (w.heap.size + 1) 0 (bys B) ∧ y'.rangeAt gx 0 (bys A))) := by
    intro w4 gx hR y hy
    refine (less_any y B A hB hA).mono ?_
    rintro ev y' ⟨rfl, hb⟩
    have hb' := hy.1.trans (hb.mono hy.1.size)
    exact ⟨rfl, hb', hR.range hb'⟩
  have HH1 : Hid (∀ (w4 : World) (gx : Nat), BRel w4 w.heap.size gx A B → ∀ y, (Below w4.heap.size w4 y ∧ y.rangeAt w.heap.size 0 (bys A) ∧ y.rangeAt (w.heap.size + 1) 0 (bys B) ∧ y.rangeAt gx 0 (bys A)) → Calls Try.prog 14 #[.agg (bys A).toArray] y fun ev y' => ev = .returned (.string (str (hexF A))) ∧ (Below w4.heap.size w4 y' ∧ y'.rangeAt w.heap.size 0 (bys A) ∧ y'.rangeAt (w.heap.size + 1) 0 (bys B) ∧ y'.rangeAt gx 0 (bys A))) := by
    intro w4 gx hR y hy
    refine (hex_any y A hA).mono ?_
    rintro ev y' ⟨rfl, hb⟩
    have hb' := hy.1.trans (hb.mono hy.1.size)
    exact ⟨rfl, hb', hR.range hb'⟩
  have HH2 : Hid (∀ (w4 : World) (gx : Nat), BRel w4 w.heap.size gx A B → ∀ y, (Below w4.heap.size w4 y ∧ y.rangeAt w.heap.size 0 (bys A) ∧ y.rangeAt (w.heap.size + 1) 0 (bys B) ∧ y.rangeAt gx 0 (bys A)) → Calls Try.prog 14 #[.agg (bys B).toArray] y fun ev y' => ev = .returned (.string (str (hexF B))) ∧ (Below w4.heap.size w4 y' ∧ y'.rangeAt w.heap.size 0 (bys A) ∧ y'.rangeAt (w.heap.size + 1) 0 (bys B) ∧ y'.rangeAt gx 0 (bys A))) := by
    intro w4 gx hR y hy
    refine (hex_any y B hB).mono ?_
    rintro ev y' ⟨rfl, hb⟩
    have hb' := hy.1.trans (hb.mono hy.1.size)
    exact ⟨rfl, hb', hR.range hb'⟩
  have HB4 : Hid (∀ w3 w4 : World, Below W.heap.size W w3 → w4.heap[w3.heap.size]? = some (.cells (bys A).toArray 25 (0, 0)) → Below w3.heap.size w3 w4 → BRel w4 w.heap.size w3.heap.size A B ∧ Below w.heap.size w w4) := by
    intro w3 w4 h3 h4 hb4
    have hb := h3.trans (hb4.mono h3.size)
    exact ⟨⟨r1.below hb r1.lt, r2.below hb r2.lt, ⟨h4⟩⟩, hBW.trans (hb.mono hBW.size)⟩
  have hrow1 := r1.heap
  have hiA : (Try.prog.info? 25).map (·.size) = some (bys A).toArray.size := by rw [List.size_toArray, bys_len, hA]; exact Try.info25
  have hlA : (Try.prog.info? 25).map (·.size) = some (bys A).length := by rw [bys_len, hA]; exact Try.info25
  have hlB : (Try.prog.info? 25).map (·.size) = some (bys B).length := by rw [bys_len, hB]; exact Try.info25
  have h32A : (bys A).length = 32 := by rw [bys_len, hA]
  have h32B : (bys B).length = 32 := by rw [bys_len, hB]
  have hzA : (bys A).toArray.size = 32 := by rw [List.size_toArray, bys_len, hA]
  have honeA := all_one (bys_one A)
  have hu25 := Try.underlying25
  have HR0 : Hid (∀ (w4 : World) gx, BRel w4 w.heap.size gx A B → w4.drew.rangeAt w.heap.size 0 (bys A) ∧ w4.drew.rangeAt (w.heap.size + 1) 0 (bys B) ∧ w4.drew.rangeAt gx 0 (bys A)) := fun w4 gx h => h.range (Below.refl _ _).drew
  have k1 : ∀ w : World, (binOp .neq 25 (.agg (bys A).toArray) (.agg (bys A).toArray)).run Try.prog w = .ok (.bool false) w := fun w => by rw [neq25 w A A hA hA, beq_self_eq_true]; rfl
  have k2 := fun w => neq25 w A B hA hB
  have k3 : ∀ w : World, (Op.equalIn 10000 25 (.agg (bys A).toArray) (.agg (bys A).toArray)).run Try.prog w = .ok true w := fun w => by rw [equ25 w A A hA hA, beq_self_eq_true]
  have k4 := fun w => equ25 w A B hA hB
  have k5 : Op.bytesLess (str (hexF A)).toList (str (hexF B)).toList = less A B := by rw [ByteArray.toList_eq, ByteArray.toList_eq]; exact less_hex A B (by omega)
  have o1 := less_one A B (by omega)
  have o2 := less_both A B
  have HLA : Hid (A.length = 32) := hA
  have HLB : Hid (B.length = 32) := hB
  have AW : Aside (W = (w.alloc (.cells (bys A).toArray 25)).alloc (.cells (bys B).toArray 25)) := hW
  have HBW : Hid (Below w.heap.size w W) := hBW
  clear hW r1 r2 hBW hA hB hp
  generalize hSA : str (hexF A) = SA at *
  generalize hSB : str (hexF B) = SB at *
  have C5 : Hid (∀ y, Calls Try.prog 11 #[.string (str l)] y fun ev w' => ∃ e, ev = .returned (.tuple #[.agg (bys (parseF l).1).toArray, e]) ∧ ErO w' e (parseF l).2.1 (parseF l).2.2 ∧ Below y.heap.size y w') := fun y => parse_any y l hl
  have hP32 := parseF_len l
  have C6 : Hid (∀ y, Calls Try.prog 14 #[.agg (bys (parseF l).1).toArray] y fun ev w' => ev = .returned (.string (str (hexF (parseF l).1))) ∧ Below y.heap.size y w') := fun y => hex_any y _ hP32
  have hiP : (Try.prog.info? 25).map (·.size) = some (bys (parseF l).1).toArray.size := by rw [List.size_toArray, bys_len, hP32]; exact Try.info25
  have hzP : (bys (parseF l).1).toArray.size = 32 := by rw [List.size_toArray, bys_len, hP32]
  have honeP := all_one (bys_one (parseF l).1)
  have HC0 : Hid ((parseF l).2.1 = 0 → str (hexF (parseF l).1) = str l) := fun h => by rw [hex_parse l h]
  have HC1 : Hid ((parseF l).2.1 ≠ 0 → ∀ w : World, (Op.equalIn 10000 25 (.agg (bys (parseF l).1).toArray) (.agg #[.int .u8 0, .int .u8 0, .int .u8 0, .int .u8 0, .int .u8 0, .int .u8 0, .int .u8 0, .int .u8 0, .int .u8 0, .int .u8 0, .int .u8 0, .int .u8 0, .int .u8 0, .int .u8 0, .int .u8 0, .int .u8 0, .int .u8 0, .int .u8 0, .int .u8 0, .int .u8 0, .int .u8 0, .int .u8 0, .int .u8 0, .int .u8 0, .int .u8 0, .int .u8 0, .int .u8 0, .int .u8 0, .int .u8 0, .int .u8 0, .int .u8 0, .int .u8 0])).run Try.prog w = .ok true w) := fun h w => by
    have := equ25 w (parseF l).1 zs hP32 rfl
    rw [parse_bad l h, beq_self_eq_true] at this
    rw [parse_bad l h]
    exact this
  clear hP32
  generalize hSl : str l = SL at *
  generalize bys (parseF l).1 = YP at *
  generalize str (hexF (parseF l).1) = SP at *
  generalize (parseF l).2.1 = c at *
  generalize (parseF l).2.2 = pl at *
  generalize bys A = YA at *
  generalize bys B = YB at *
  go_enter Try.func5, Try.ntmps5
  go_wp2_with (rw [← AW.out]; refine wpList_load_row rfl 25 _ rfl w.heap.size rfl 25 YA.toArray (0, 0) _ hrow1 Try.underlying25 rfl hiA ?_)
  refine C1.mono ?_
  rintro ev w2 ⟨rfl, hb2⟩
  go_wp2_with fail
  refine (C2.out _).mono ?_
  rintro ev w3 ⟨rfl, hb3⟩
  have hb23 := hb2.trans (hb3.mono hb2.size)
  clear C1 C2 hrow1 hb2 hb3
  clear AW
  go_wp2_with (refine store_box rfl 25 _ _ rfl w3.heap.size YA.toArray rfl rfl 25 _ (heap_alloc_new w3 _) hiA (by rw [hzA]; rfl) honeA w3 ((Below.refl _ w3).alloc (Nat.le_refl _) _) ?_; intro w4 G4 hb4)
  obtain ⟨hR4, hBw4⟩ := HB4.out w3 w4 hb23 G4 hb4
  have L1 := HL1.out w4 _ hR4
  have L2 := HL2.out w4 _ hR4
  have M1 := HH1.out w4 _ hR4
  have M2 := HH2.out w4 _ hR4
  have hS0 : Below w4.heap.size w4 w4.drew ∧ w4.drew.rangeAt w.heap.size 0 YA ∧ w4.drew.rangeAt (w.heap.size + 1) 0 YB ∧ w4.drew.rangeAt w3.heap.size 0 YA := ⟨(Below.refl _ _).drew, HR0.out w4 _ hR4⟩
  have HBw4 : Hid (Below w.heap.size w w4) := hBw4
  clear HL1 HL2 HH1 HH2 HB4 G4 hb4 hR4 hBw4 hb23 HR0 HBW
  generalize w3.heap.size = gx at *
  have J1 : Hid _ := L1
  have J2 : Hid _ := L2
  have J3 : Hid _ := M1
  have J4 : Hid _ := M2
  clear L1 L2 M1 M2
  rcases three o1 o2 with ⟨h1, h2, h3⟩ | ⟨h1, h2, h3⟩ | ⟨h1, h2, h3⟩
  · rw [h1] at J1 k5
    rw [h2] at J2
    rw [h3] at k2 k4
    clear h1 h2 h3 o1 o2
    go_wp2_with fail
    refine wp_region_held_drew (S := fun y => Below w4.heap.size w4 y ∧ y.rangeAt w.heap.size 0 YA ∧ y.rangeAt (w.heap.size + 1) 0 YB ∧ y.rangeAt gx 0 YA) (by kernel_rfl) hS0 (fun hHeld => ?_)
    clear hS0
    refine take_at 0 (v := .nilIface) rfl (some 17) rfl (by kernel_rfl) (by kernel_rfl) (by kernel_rfl) (fun _ _ _ h => h) (Or.inl ⟨by rfl, fun y hy => ?_⟩) (by assumption) ?_
    · go_simp
    simp only [Act.put, List.setIfInBounds_toArray, List.set_cons_zero, List.set_cons_succ]
    refine take_at 1 (v := .bool false) rfl (some 18) rfl (by kernel_rfl) (by kernel_rfl) (by kernel_rfl) (fun _ _ _ h => h) (Or.inl ⟨by rfl, fun y hy => ?_⟩) (by assumption) ?_
    · go_simp
    simp only [Act.put, List.setIfInBounds_toArray, List.set_cons_zero, List.set_cons_succ]
    refine take_at 2 (v := .bool false) rfl (some 19) rfl (by kernel_rfl) (by kernel_rfl) (by kernel_rfl) (fun _ _ _ h => h) (Or.inl ⟨by rfl, fun y hy => ?_⟩) (by assumption) ?_
    · go_simp
    simp only [Act.put, List.setIfInBounds_toArray, List.set_cons_zero, List.set_cons_succ]
    refine take_at 3 (v := .agg YA.toArray) rfl (some 20) rfl (by kernel_rfl) (by kernel_rfl) (by kernel_rfl) (fun _ _ _ h => h) (yieldsIf_load_mid (by rfl) 25 _ rfl gx 0 rfl YA _ (fun y hy => hy.2.2.2) Try.underlying25 rfl hlA) (by assumption) ?_
    simp only [Act.put, List.setIfInBounds_toArray, List.set_cons_zero, List.set_cons_succ]
    refine take_at 4 (v := .agg YA.toArray) rfl (some 21) rfl (by kernel_rfl) (by kernel_rfl) (by kernel_rfl) (fun _ _ _ h => h) (yieldsIf_load_mid (by rfl) 25 _ rfl w.heap.size 0 rfl YA _ (fun y hy => hy.2.1) Try.underlying25 rfl hlA) (by assumption) ?_
    simp only [Act.put, List.setIfInBounds_toArray, List.set_cons_zero, List.set_cons_succ]
    refine take_at 5 (v := .bool false) rfl (some 22) rfl (by kernel_rfl) (by kernel_rfl) (by kernel_rfl) (fun _ _ _ h => h) (Or.inl ⟨by rfl, fun y hy => ?_⟩) (by assumption) ?_
    · go_simp
    simp only [Act.put, List.setIfInBounds_toArray, List.set_cons_zero, List.set_cons_succ]
    refine take_at 6 (v := .bool false) rfl (some 23) rfl (by kernel_rfl) (by kernel_rfl) (by kernel_rfl) (fun _ _ _ h => h) (Or.inl ⟨by rfl, fun y hy => ?_⟩) (by assumption) ?_
    · go_simp
    simp only [Act.put, List.setIfInBounds_toArray, List.set_cons_zero, List.set_cons_succ]
    refine take_at 7 (v := .bool false) rfl (some 24) rfl (by kernel_rfl) (by kernel_rfl) (by kernel_rfl) (fun _ _ _ h => h) (Or.inl ⟨by rfl, fun y hy => ?_⟩) (by assumption) ?_
    · go_simp
    simp only [Act.put, List.setIfInBounds_toArray, List.set_cons_zero, List.set_cons_succ]
    refine take_at 8 (v := .agg YA.toArray) rfl (some 25) rfl (by kernel_rfl) (by kernel_rfl) (by kernel_rfl) (fun _ _ _ h => h) (yieldsIf_load_mid (by rfl) 25 _ rfl w.heap.size 0 rfl YA _ (fun y hy => hy.2.1) Try.underlying25 rfl hlA) (by assumption) ?_
    simp only [Act.put, List.setIfInBounds_toArray, List.set_cons_zero, List.set_cons_succ]
    refine take_at 9 (v := .agg YB.toArray) rfl (some 26) rfl (by kernel_rfl) (by kernel_rfl) (by kernel_rfl) (fun _ _ _ h => h) (yieldsIf_load_mid (by rfl) 25 _ rfl (w.heap.size + 1) 0 rfl YB _ (fun y hy => hy.2.2.1) Try.underlying25 rfl hlB) (by assumption) ?_
    simp only [Act.put, List.setIfInBounds_toArray, List.set_cons_zero, List.set_cons_succ]
    refine take_at 16 (v := .agg YA.toArray) rfl (some 33) rfl (by kernel_rfl) (by kernel_rfl) (by kernel_rfl) (fun _ _ _ h => h) (yieldsIf_load_mid (by rfl) 25 _ rfl w.heap.size 0 rfl YA _ (fun y hy => hy.2.1) Try.underlying25 rfl hlA) (by assumption) ?_
    simp only [Act.put, List.setIfInBounds_toArray, List.set_cons_zero, List.set_cons_succ]
    refine take_at 17 (v := .agg YB.toArray) rfl (some 34) rfl (by kernel_rfl) (by kernel_rfl) (by kernel_rfl) (fun _ _ _ h => h) (yieldsIf_load_mid (by rfl) 25 _ rfl (w.heap.size + 1) 0 rfl YB _ (fun y hy => hy.2.2.1) Try.underlying25 rfl hlB) (by assumption) ?_
    simp only [Act.put, List.setIfInBounds_toArray, List.set_cons_zero, List.set_cons_succ]
    refine take_at 18 (v := .bool true) rfl (some 35) rfl (by kernel_rfl) (by kernel_rfl) (by kernel_rfl) (fun _ _ _ h => h) (Or.inl ⟨by rfl, fun y hy => ?_⟩) (by assumption) ?_
    · go_simp
    simp only [Act.put, List.setIfInBounds_toArray, List.set_cons_zero, List.set_cons_succ]
    refine wpAnyH_ready (rs := [10]) (by kernel_rfl) (by simp) ?_
    refine AllReadyH.cons rfl (fun K hK => ?_) AllReadyH.nil
    go_simp
    go_wp2_with (go_at_call 15; refine (J1.out _ (by assumption)).mono ?_; clear hHeld; rintro ev w10 ⟨rfl, hHeld⟩)
    refine hK.out _ _ (by assumption) (fun _ => ?_)
    clear hK K
    refine take_at 11 (v := .bool true) rfl (some 28) rfl (by kernel_rfl) (by kernel_rfl) (by kernel_rfl) (fun _ _ _ h => h) (Or.inl ⟨by rfl, fun y hy => ?_⟩) (by assumption) ?_
    · go_simp
    simp only [Act.put, List.setIfInBounds_toArray, List.set_cons_zero, List.set_cons_succ]
    refine take_at 12 (v := undef) rfl (some 29) rfl (by kernel_rfl) (by kernel_rfl) (by kernel_rfl) (fun _ _ _ h => h) (Or.inr ⟨by rfl, rfl⟩) (by assumption) ?_
    simp only [Act.put, List.setIfInBounds_toArray, List.set_cons_zero, List.set_cons_succ]
    refine take_at 13 (v := undef) rfl (some 30) rfl (by kernel_rfl) (by kernel_rfl) (by kernel_rfl) (fun _ _ _ h => h) (Or.inr ⟨by rfl, rfl⟩) (by assumption) ?_
    simp only [Act.put, List.setIfInBounds_toArray, List.set_cons_zero, List.set_cons_succ]
    refine take_at 14 (v := undef) rfl (some 31) rfl (by kernel_rfl) (by kernel_rfl) (by kernel_rfl) (fun _ _ _ h => h) (Or.inr ⟨by rfl, rfl⟩) (by assumption) ?_
    simp only [Act.put, List.setIfInBounds_toArray, List.set_cons_zero, List.set_cons_succ]
    refine take_at 15 (v := .bool true) rfl (some 32) rfl (by kernel_rfl) (by kernel_rfl) (by kernel_rfl) (fun _ _ _ h => h) (Or.inl ⟨by rfl, fun y hy => ?_⟩) (by assumption) ?_
    · go_simp
    simp only [Act.put, List.setIfInBounds_toArray, List.set_cons_zero, List.set_cons_succ]
    refine take_at 19 (v := .bool false) rfl (some 36) rfl (by kernel_rfl) (by kernel_rfl) (by kernel_rfl) (fun _ _ _ h => h) (Or.inl ⟨by rfl, fun y hy => ?_⟩) (by assumption) ?_
    · go_simp
    simp only [Act.put, List.setIfInBounds_toArray, List.set_cons_zero, List.set_cons_succ]
    refine take_at 20 (v := .bool false) rfl (some 37) rfl (by kernel_rfl) (by kernel_rfl) (by kernel_rfl) (fun _ _ _ h => h) (Or.inl ⟨by rfl, fun y hy => ?_⟩) (by assumption) ?_
    · go_simp
    simp only [Act.put, List.setIfInBounds_toArray, List.set_cons_zero, List.set_cons_succ]
    refine take_at 21 (v := .bool false) rfl (some 38) rfl (by kernel_rfl) (by kernel_rfl) (by kernel_rfl) (fun _ _ _ h => h) (Or.inl ⟨by rfl, fun y hy => ?_⟩) (by assumption) ?_
    · go_simp
    simp only [Act.put, List.setIfInBounds_toArray, List.set_cons_zero, List.set_cons_succ]
    refine take_at 22 (v := .agg YA.toArray) rfl (some 39) rfl (by kernel_rfl) (by kernel_rfl) (by kernel_rfl) (fun _ _ _ h => h) (yieldsIf_load_mid (by rfl) 25 _ rfl w.heap.size 0 rfl YA _ (fun y hy => hy.2.1) Try.underlying25 rfl hlA) (by assumption) ?_
    simp only [Act.put, List.setIfInBounds_toArray, List.set_cons_zero, List.set_cons_succ]
    refine take_at 23 (v := .agg YB.toArray) rfl (some 40) rfl (by kernel_rfl) (by kernel_rfl) (by kernel_rfl) (fun _ _ _ h => h) (yieldsIf_load_mid (by rfl) 25 _ rfl (w.heap.size + 1) 0 rfl YB _ (fun y hy => hy.2.2.1) Try.underlying25 rfl hlB) (by assumption) ?_
    simp only [Act.put, List.setIfInBounds_toArray, List.set_cons_zero, List.set_cons_succ]
    refine wpAnyH_ready (rs := [24]) (by kernel_rfl) (by simp) ?_
    refine AllReadyH.cons rfl (fun K hK => ?_) AllReadyH.nil
    go_simp
    go_wp2_with (go_at_call 15; refine (J1.out _ (by assumption)).mono ?_; clear hHeld; rintro ev w24 ⟨rfl, hHeld⟩)
    refine hK.out _ _ (by assumption) (fun _ => ?_)
    clear hK K
    refine take_at 25 (v := .bool true) rfl (some 42) rfl (by kernel_rfl) (by kernel_rfl) (by kernel_rfl) (fun _ _ _ h => h) (Or.inl ⟨by rfl, fun y hy => ?_⟩) (by assumption) ?_
    · go_simp
    simp only [Act.put, List.setIfInBounds_toArray, List.set_cons_zero, List.set_cons_succ]
    refine take_at 26 (v := .agg YB.toArray) rfl (some 43) rfl (by kernel_rfl) (by kernel_rfl) (by kernel_rfl) (fun _ _ _ h => h) (yieldsIf_load_mid (by rfl) 25 _ rfl (w.heap.size + 1) 0 rfl YB _ (fun y hy => hy.2.2.1) Try.underlying25 rfl hlB) (by assumption) ?_
    simp only [Act.put, List.setIfInBounds_toArray, List.set_cons_zero, List.set_cons_succ]
    refine take_at 27 (v := .agg YA.toArray) rfl (some 44) rfl (by kernel_rfl) (by kernel_rfl) (by kernel_rfl) (fun _ _ _ h => h) (yieldsIf_load_mid (by rfl) 25 _ rfl w.heap.size 0 rfl YA _ (fun y hy => hy.2.1) Try.underlying25 rfl hlA) (by assumption) ?_
    simp only [Act.put, List.setIfInBounds_toArray, List.set_cons_zero, List.set_cons_succ]
    refine wpAnyH_ready (rs := [28]) (by kernel_rfl) (by simp) ?_
    refine AllReadyH.cons rfl (fun K hK => ?_) AllReadyH.nil
    go_simp
    go_wp2_with (go_at_call 15; refine (J2.out _ (by assumption)).mono ?_; clear hHeld; rintro ev w28 ⟨rfl, hHeld⟩)
    refine hK.out _ _ (by assumption) (fun _ => ?_)
    clear hK K
    refine take_at 29 (v := .bool false) rfl (some 46) rfl (by kernel_rfl) (by kernel_rfl) (by kernel_rfl) (fun _ _ _ h => h) (Or.inl ⟨by rfl, fun y hy => ?_⟩) (by assumption) ?_
    · go_simp
    simp only [Act.put, List.setIfInBounds_toArray, List.set_cons_zero, List.set_cons_succ]
    refine take_at 30 (v := .bool false) rfl (some 47) rfl (by kernel_rfl) (by kernel_rfl) (by kernel_rfl) (fun _ _ _ h => h) (Or.inl ⟨by rfl, fun y hy => ?_⟩) (by assumption) ?_
    · go_simp
    simp only [Act.put, List.setIfInBounds_toArray, List.set_cons_zero, List.set_cons_succ]
    refine take_at 31 (v := .bool false) rfl (some 48) rfl (by kernel_rfl) (by kernel_rfl) (by kernel_rfl) (fun _ _ _ h => h) (Or.inl ⟨by rfl, fun y hy => ?_⟩) (by assumption) ?_
    · go_simp
    simp only [Act.put, List.setIfInBounds_toArray, List.set_cons_zero, List.set_cons_succ]
    refine take_at 32 (v := .agg YA.toArray) rfl (some 49) rfl (by kernel_rfl) (by kernel_rfl) (by kernel_rfl) (fun _ _ _ h => h) (yieldsIf_load_mid (by rfl) 25 _ rfl w.heap.size 0 rfl YA _ (fun y hy => hy.2.1) Try.underlying25 rfl hlA) (by assumption) ?_
    simp only [Act.put, List.setIfInBounds_toArray, List.set_cons_zero, List.set_cons_succ]
    refine take_at 33 (v := .agg YB.toArray) rfl (some 50) rfl (by kernel_rfl) (by kernel_rfl) (by kernel_rfl) (fun _ _ _ h => h) (yieldsIf_load_mid (by rfl) 25 _ rfl (w.heap.size + 1) 0 rfl YB _ (fun y hy => hy.2.2.1) Try.underlying25 rfl hlB) (by assumption) ?_
    simp only [Act.put, List.setIfInBounds_toArray, List.set_cons_zero, List.set_cons_succ]
    refine take_at 35 (v := .agg YA.toArray) rfl (some 52) rfl (by kernel_rfl) (by kernel_rfl) (by kernel_rfl) (fun _ _ _ h => h) (yieldsIf_load_mid (by rfl) 25 _ rfl w.heap.size 0 rfl YA _ (fun y hy => hy.2.1) Try.underlying25 rfl hlA) (by assumption) ?_
    simp only [Act.put, List.setIfInBounds_toArray, List.set_cons_zero, List.set_cons_succ]
    refine take_at 37 (v := .agg YB.toArray) rfl (some 54) rfl (by kernel_rfl) (by kernel_rfl) (by kernel_rfl) (fun _ _ _ h => h) (yieldsIf_load_mid (by rfl) 25 _ rfl (w.heap.size + 1) 0 rfl YB _ (fun y hy => hy.2.2.1) Try.underlying25 rfl hlB) (by assumption) ?_
    simp only [Act.put, List.setIfInBounds_toArray, List.set_cons_zero, List.set_cons_succ]
    refine wpAnyH_ready (rs := [34]) (by kernel_rfl) (by simp) ?_
    refine AllReadyH.cons rfl (fun K hK => ?_) AllReadyH.nil
    go_simp
    go_wp2_with (go_at_call 15; refine (J1.out _ (by assumption)).mono ?_; clear hHeld; rintro ev w34 ⟨rfl, hHeld⟩)
    refine hK.out _ _ (by assumption) (fun _ => ?_)
    clear hK K
    refine wpAnyH_ready (rs := [36]) (by kernel_rfl) (by simp) ?_
    refine AllReadyH.cons rfl (fun K hK => ?_) AllReadyH.nil
    go_simp
    go_wp2_with (go_at_call 14; refine (J3.out _ (by assumption)).mono ?_; clear hHeld; rintro ev w36 ⟨rfl, hHeld⟩)
    refine hK.out _ _ (by assumption) (fun _ => ?_)
    clear hK K
    refine wpAnyH_ready (rs := [38]) (by kernel_rfl) (by simp) ?_
    refine AllReadyH.cons rfl (fun K hK => ?_) AllReadyH.nil
    go_simp
    go_wp2_with (go_at_call 14; refine (J4.out _ (by assumption)).mono ?_; clear hHeld; rintro ev w38 ⟨rfl, hHeld⟩)
    refine hK.out _ _ (by assumption) (fun _ => ?_)
    clear hK K
    refine take_at 39 (v := .bool true) rfl (some 56) rfl (by kernel_rfl) (by kernel_rfl) (by kernel_rfl) (fun _ _ _ h => h) (Or.inl ⟨by rfl, fun y hy => ?_⟩) (by assumption) ?_
    · go_simp
    simp only [Act.put, List.setIfInBounds_toArray, List.set_cons_zero, List.set_cons_succ]
    refine take_at 40 (v := .bool false) rfl (some 57) rfl (by kernel_rfl) (by kernel_rfl) (by kernel_rfl) (fun _ _ _ h => h) (Or.inl ⟨by rfl, fun y hy => ?_⟩) (by assumption) ?_
    · go_simp
    simp only [Act.put, List.setIfInBounds_toArray, List.set_cons_zero, List.set_cons_succ]
    refine take_at 41 (v := .bool false) rfl (some 58) rfl (by kernel_rfl) (by kernel_rfl) (by kernel_rfl) (fun _ _ _ h => h) (Or.inl ⟨by rfl, fun y hy => ?_⟩) (by assumption) ?_
    · go_simp
    simp only [Act.put, List.setIfInBounds_toArray, List.set_cons_zero, List.set_cons_succ]
    refine wpAnyH_done (by kernel_rfl) ?_ _
    have hBA := HBw4.out.trans (hHeld.1.mono HBw4.out.size)
    clear J1 J2 J3 J4 hHeld k1 k2 k3 k4 k5 HBw4
    go_wp2_with fail
    refine (C5.out _).mono ?_
    rintro ev wA ⟨e, rfl, hE, hbA⟩
    have hBB := hBA.trans (hbA.mono hBA.size)
    clear hBA hbA C5
    rcases hE with ⟨hc0, _, rfl⟩ | ⟨hc0, hE⟩
    · have hSP := HC0.out hc0
      subst hSP
      clear HC0 HC1
      go_wp2_with (refine store_box rfl 25 _ _ rfl wA.heap.size YP.toArray rfl rfl 25 _ (heap_alloc_new wA _) hiP (by rw [hzP]; rfl) honeP wA ((Below.refl _ wA).alloc (Nat.le_refl _) _) ?_; intro wB GB hbB)
      refine (told_any wB).mono ?_
      rintro ev wC ⟨rfl, hbC⟩
      have GC : wC.heap[wA.heap.size]? = some (.cells YP.toArray 25 (0, 0)) := by rw [hbC.block wA.heap.size (Array.getElem?_eq_some_iff.1 GB).1]; exact GB
      have hBC := (hBB.trans (hbB.mono hBB.size)).trans (hbC.mono (Nat.le_trans hBB.size hbB.size))
      clear hBB hbB hbC GB
      go_wp2_with (refine load_guard (by rfl) 25 _ rfl wA.heap.size rfl 25 YP.toArray (0, 0) _ GC Try.underlying25 rfl hiP ?_)
      refine (C6.out wC).mono ?_
      rintro ev wD ⟨rfl, hbD⟩
      go_wp2_with fail
      go_ret
      exact ⟨by rfl, hBC.trans (hbD.mono hBC.size)⟩
    · have kz := HC1.out hc0
      obtain ⟨be, rfl, -⟩ := hE.shape
      clear HC0 HC1 hE
      go_wp2_with (refine store_box rfl 25 _ _ rfl wA.heap.size YP.toArray rfl rfl 25 _ (heap_alloc_new wA _) hiP (by rw [hzP]; rfl) honeP wA ((Below.refl _ wA).alloc (Nat.le_refl _) _) ?_; intro wB GB hbB)
      refine (told_any wB).mono ?_
      rintro ev wC ⟨rfl, hbC⟩
      have GC : wC.heap[wA.heap.size]? = some (.cells YP.toArray 25 (0, 0)) := by rw [hbC.block wA.heap.size (Array.getElem?_eq_some_iff.1 GB).1]; exact GB
      have hBC := (hBB.trans (hbB.mono hBB.size)).trans (hbC.mono (Nat.le_trans hBB.size hbB.size))
      clear hBB hbB hbC GB
      go_wp2_with (refine load_guard (by rfl) 25 _ rfl wA.heap.size rfl 25 YP.toArray (0, 0) _ GC Try.underlying25 rfl hiP ?_)
      go_ret
      exact ⟨by rfl, hBC⟩
  · rw [h1] at J1 k5
    rw [h2] at J2
    rw [h3] at k2 k4
    clear h1 h2 h3 o1 o2
    go_wp2_with fail
    refine wp_region_held_drew (S := fun y => Below w4.heap.size w4 y ∧ y.rangeAt w.heap.size 0 YA ∧ y.rangeAt (w.heap.size + 1) 0 YB ∧ y.rangeAt gx 0 YA) (by kernel_rfl) hS0 (fun hHeld => ?_)
    clear hS0
    refine take_at 0 (v := .nilIface) rfl (some 17) rfl (by kernel_rfl) (by kernel_rfl) (by kernel_rfl) (fun _ _ _ h => h) (Or.inl ⟨by rfl, fun y hy => ?_⟩) (by assumption) ?_
    · go_simp
    simp only [Act.put, List.setIfInBounds_toArray, List.set_cons_zero, List.set_cons_succ]
    refine take_at 1 (v := .bool false) rfl (some 18) rfl (by kernel_rfl) (by kernel_rfl) (by kernel_rfl) (fun _ _ _ h => h) (Or.inl ⟨by rfl, fun y hy => ?_⟩) (by assumption) ?_
    · go_simp
    simp only [Act.put, List.setIfInBounds_toArray, List.set_cons_zero, List.set_cons_succ]
    refine take_at 2 (v := .bool false) rfl (some 19) rfl (by kernel_rfl) (by kernel_rfl) (by kernel_rfl) (fun _ _ _ h => h) (Or.inl ⟨by rfl, fun y hy => ?_⟩) (by assumption) ?_
    · go_simp
    simp only [Act.put, List.setIfInBounds_toArray, List.set_cons_zero, List.set_cons_succ]
    refine take_at 3 (v := .agg YA.toArray) rfl (some 20) rfl (by kernel_rfl) (by kernel_rfl) (by kernel_rfl) (fun _ _ _ h => h) (yieldsIf_load_mid (by rfl) 25 _ rfl gx 0 rfl YA _ (fun y hy => hy.2.2.2) Try.underlying25 rfl hlA) (by assumption) ?_
    simp only [Act.put, List.setIfInBounds_toArray, List.set_cons_zero, List.set_cons_succ]
    refine take_at 4 (v := .agg YA.toArray) rfl (some 21) rfl (by kernel_rfl) (by kernel_rfl) (by kernel_rfl) (fun _ _ _ h => h) (yieldsIf_load_mid (by rfl) 25 _ rfl w.heap.size 0 rfl YA _ (fun y hy => hy.2.1) Try.underlying25 rfl hlA) (by assumption) ?_
    simp only [Act.put, List.setIfInBounds_toArray, List.set_cons_zero, List.set_cons_succ]
    refine take_at 5 (v := .bool false) rfl (some 22) rfl (by kernel_rfl) (by kernel_rfl) (by kernel_rfl) (fun _ _ _ h => h) (Or.inl ⟨by rfl, fun y hy => ?_⟩) (by assumption) ?_
    · go_simp
    simp only [Act.put, List.setIfInBounds_toArray, List.set_cons_zero, List.set_cons_succ]
    refine take_at 6 (v := .bool false) rfl (some 23) rfl (by kernel_rfl) (by kernel_rfl) (by kernel_rfl) (fun _ _ _ h => h) (Or.inl ⟨by rfl, fun y hy => ?_⟩) (by assumption) ?_
    · go_simp
    simp only [Act.put, List.setIfInBounds_toArray, List.set_cons_zero, List.set_cons_succ]
    refine take_at 7 (v := .bool false) rfl (some 24) rfl (by kernel_rfl) (by kernel_rfl) (by kernel_rfl) (fun _ _ _ h => h) (Or.inl ⟨by rfl, fun y hy => ?_⟩) (by assumption) ?_
    · go_simp
    simp only [Act.put, List.setIfInBounds_toArray, List.set_cons_zero, List.set_cons_succ]
    refine take_at 8 (v := .agg YA.toArray) rfl (some 25) rfl (by kernel_rfl) (by kernel_rfl) (by kernel_rfl) (fun _ _ _ h => h) (yieldsIf_load_mid (by rfl) 25 _ rfl w.heap.size 0 rfl YA _ (fun y hy => hy.2.1) Try.underlying25 rfl hlA) (by assumption) ?_
    simp only [Act.put, List.setIfInBounds_toArray, List.set_cons_zero, List.set_cons_succ]
    refine take_at 9 (v := .agg YB.toArray) rfl (some 26) rfl (by kernel_rfl) (by kernel_rfl) (by kernel_rfl) (fun _ _ _ h => h) (yieldsIf_load_mid (by rfl) 25 _ rfl (w.heap.size + 1) 0 rfl YB _ (fun y hy => hy.2.2.1) Try.underlying25 rfl hlB) (by assumption) ?_
    simp only [Act.put, List.setIfInBounds_toArray, List.set_cons_zero, List.set_cons_succ]
    refine take_at 16 (v := .agg YA.toArray) rfl (some 33) rfl (by kernel_rfl) (by kernel_rfl) (by kernel_rfl) (fun _ _ _ h => h) (yieldsIf_load_mid (by rfl) 25 _ rfl w.heap.size 0 rfl YA _ (fun y hy => hy.2.1) Try.underlying25 rfl hlA) (by assumption) ?_
    simp only [Act.put, List.setIfInBounds_toArray, List.set_cons_zero, List.set_cons_succ]
    refine take_at 17 (v := .agg YB.toArray) rfl (some 34) rfl (by kernel_rfl) (by kernel_rfl) (by kernel_rfl) (fun _ _ _ h => h) (yieldsIf_load_mid (by rfl) 25 _ rfl (w.heap.size + 1) 0 rfl YB _ (fun y hy => hy.2.2.1) Try.underlying25 rfl hlB) (by assumption) ?_
    simp only [Act.put, List.setIfInBounds_toArray, List.set_cons_zero, List.set_cons_succ]
    refine take_at 18 (v := .bool true) rfl (some 35) rfl (by kernel_rfl) (by kernel_rfl) (by kernel_rfl) (fun _ _ _ h => h) (Or.inl ⟨by rfl, fun y hy => ?_⟩) (by assumption) ?_
    · go_simp
    simp only [Act.put, List.setIfInBounds_toArray, List.set_cons_zero, List.set_cons_succ]
    refine wpAnyH_ready (rs := [10]) (by kernel_rfl) (by simp) ?_
    refine AllReadyH.cons rfl (fun K hK => ?_) AllReadyH.nil
    go_simp
    go_wp2_with (go_at_call 15; refine (J1.out _ (by assumption)).mono ?_; clear hHeld; rintro ev w10 ⟨rfl, hHeld⟩)
    refine hK.out _ _ (by assumption) (fun _ => ?_)
    clear hK K
    refine take_at 11 (v := .bool false) rfl (some 28) rfl (by kernel_rfl) (by kernel_rfl) (by kernel_rfl) (fun _ _ _ h => h) (Or.inl ⟨by rfl, fun y hy => ?_⟩) (by assumption) ?_
    · go_simp
    simp only [Act.put, List.setIfInBounds_toArray, List.set_cons_zero, List.set_cons_succ]
    refine take_at 12 (v := .agg YB.toArray) rfl (some 29) rfl (by kernel_rfl) (by kernel_rfl) (by kernel_rfl) (fun _ _ _ h => h) (yieldsIf_load_mid (by rfl) 25 _ rfl (w.heap.size + 1) 0 rfl YB _ (fun y hy => hy.2.2.1) Try.underlying25 rfl hlB) (by assumption) ?_
    simp only [Act.put, List.setIfInBounds_toArray, List.set_cons_zero, List.set_cons_succ]
    refine take_at 13 (v := .agg YA.toArray) rfl (some 30) rfl (by kernel_rfl) (by kernel_rfl) (by kernel_rfl) (fun _ _ _ h => h) (yieldsIf_load_mid (by rfl) 25 _ rfl w.heap.size 0 rfl YA _ (fun y hy => hy.2.1) Try.underlying25 rfl hlA) (by assumption) ?_
    simp only [Act.put, List.setIfInBounds_toArray, List.set_cons_zero, List.set_cons_succ]
    refine wpAnyH_ready (rs := [14]) (by kernel_rfl) (by simp) ?_
    refine AllReadyH.cons rfl (fun K hK => ?_) AllReadyH.nil
    go_simp
    go_wp2_with (go_at_call 15; refine (J2.out _ (by assumption)).mono ?_; clear hHeld; rintro ev w14 ⟨rfl, hHeld⟩)
    refine hK.out _ _ (by assumption) (fun _ => ?_)
    clear hK K
    refine take_at 15 (v := .bool true) rfl (some 32) rfl (by kernel_rfl) (by kernel_rfl) (by kernel_rfl) (fun _ _ _ h => h) (Or.inl ⟨by rfl, fun y hy => ?_⟩) (by assumption) ?_
    · go_simp
    simp only [Act.put, List.setIfInBounds_toArray, List.set_cons_zero, List.set_cons_succ]
    refine take_at 19 (v := .bool false) rfl (some 36) rfl (by kernel_rfl) (by kernel_rfl) (by kernel_rfl) (fun _ _ _ h => h) (Or.inl ⟨by rfl, fun y hy => ?_⟩) (by assumption) ?_
    · go_simp
    simp only [Act.put, List.setIfInBounds_toArray, List.set_cons_zero, List.set_cons_succ]
    refine take_at 20 (v := .bool false) rfl (some 37) rfl (by kernel_rfl) (by kernel_rfl) (by kernel_rfl) (fun _ _ _ h => h) (Or.inl ⟨by rfl, fun y hy => ?_⟩) (by assumption) ?_
    · go_simp
    simp only [Act.put, List.setIfInBounds_toArray, List.set_cons_zero, List.set_cons_succ]
    refine take_at 21 (v := .bool false) rfl (some 38) rfl (by kernel_rfl) (by kernel_rfl) (by kernel_rfl) (fun _ _ _ h => h) (Or.inl ⟨by rfl, fun y hy => ?_⟩) (by assumption) ?_
    · go_simp
    simp only [Act.put, List.setIfInBounds_toArray, List.set_cons_zero, List.set_cons_succ]
    refine take_at 22 (v := .agg YA.toArray) rfl (some 39) rfl (by kernel_rfl) (by kernel_rfl) (by kernel_rfl) (fun _ _ _ h => h) (yieldsIf_load_mid (by rfl) 25 _ rfl w.heap.size 0 rfl YA _ (fun y hy => hy.2.1) Try.underlying25 rfl hlA) (by assumption) ?_
    simp only [Act.put, List.setIfInBounds_toArray, List.set_cons_zero, List.set_cons_succ]
    refine take_at 23 (v := .agg YB.toArray) rfl (some 40) rfl (by kernel_rfl) (by kernel_rfl) (by kernel_rfl) (fun _ _ _ h => h) (yieldsIf_load_mid (by rfl) 25 _ rfl (w.heap.size + 1) 0 rfl YB _ (fun y hy => hy.2.2.1) Try.underlying25 rfl hlB) (by assumption) ?_
    simp only [Act.put, List.setIfInBounds_toArray, List.set_cons_zero, List.set_cons_succ]
    refine wpAnyH_ready (rs := [24]) (by kernel_rfl) (by simp) ?_
    refine AllReadyH.cons rfl (fun K hK => ?_) AllReadyH.nil
    go_simp
    go_wp2_with (go_at_call 15; refine (J1.out _ (by assumption)).mono ?_; clear hHeld; rintro ev w24 ⟨rfl, hHeld⟩)
    refine hK.out _ _ (by assumption) (fun _ => ?_)
    clear hK K
    refine take_at 25 (v := .bool false) rfl (some 42) rfl (by kernel_rfl) (by kernel_rfl) (by kernel_rfl) (fun _ _ _ h => h) (Or.inl ⟨by rfl, fun y hy => ?_⟩) (by assumption) ?_
    · go_simp
    simp only [Act.put, List.setIfInBounds_toArray, List.set_cons_zero, List.set_cons_succ]
    refine take_at 26 (v := undef) rfl (some 43) rfl (by kernel_rfl) (by kernel_rfl) (by kernel_rfl) (fun _ _ _ h => h) (Or.inr ⟨by rfl, rfl⟩) (by assumption) ?_
    simp only [Act.put, List.setIfInBounds_toArray, List.set_cons_zero, List.set_cons_succ]
    refine take_at 27 (v := undef) rfl (some 44) rfl (by kernel_rfl) (by kernel_rfl) (by kernel_rfl) (fun _ _ _ h => h) (Or.inr ⟨by rfl, rfl⟩) (by assumption) ?_
    simp only [Act.put, List.setIfInBounds_toArray, List.set_cons_zero, List.set_cons_succ]
    refine take_at 28 (v := undef) rfl (some 45) rfl (by kernel_rfl) (by kernel_rfl) (by kernel_rfl) (fun _ _ _ h => h) (Or.inr ⟨by rfl, rfl⟩) (by assumption) ?_
    simp only [Act.put, List.setIfInBounds_toArray, List.set_cons_zero, List.set_cons_succ]
    refine take_at 29 (v := .bool false) rfl (some 46) rfl (by kernel_rfl) (by kernel_rfl) (by kernel_rfl) (fun _ _ _ h => h) (Or.inl ⟨by rfl, fun y hy => ?_⟩) (by assumption) ?_
    · go_simp
    simp only [Act.put, List.setIfInBounds_toArray, List.set_cons_zero, List.set_cons_succ]
    refine take_at 30 (v := .bool false) rfl (some 47) rfl (by kernel_rfl) (by kernel_rfl) (by kernel_rfl) (fun _ _ _ h => h) (Or.inl ⟨by rfl, fun y hy => ?_⟩) (by assumption) ?_
    · go_simp
    simp only [Act.put, List.setIfInBounds_toArray, List.set_cons_zero, List.set_cons_succ]
    refine take_at 31 (v := .bool false) rfl (some 48) rfl (by kernel_rfl) (by kernel_rfl) (by kernel_rfl) (fun _ _ _ h => h) (Or.inl ⟨by rfl, fun y hy => ?_⟩) (by assumption) ?_
    · go_simp
    simp only [Act.put, List.setIfInBounds_toArray, List.set_cons_zero, List.set_cons_succ]
    refine take_at 32 (v := .agg YA.toArray) rfl (some 49) rfl (by kernel_rfl) (by kernel_rfl) (by kernel_rfl) (fun _ _ _ h => h) (yieldsIf_load_mid (by rfl) 25 _ rfl w.heap.size 0 rfl YA _ (fun y hy => hy.2.1) Try.underlying25 rfl hlA) (by assumption) ?_
    simp only [Act.put, List.setIfInBounds_toArray, List.set_cons_zero, List.set_cons_succ]
    refine take_at 33 (v := .agg YB.toArray) rfl (some 50) rfl (by kernel_rfl) (by kernel_rfl) (by kernel_rfl) (fun _ _ _ h => h) (yieldsIf_load_mid (by rfl) 25 _ rfl (w.heap.size + 1) 0 rfl YB _ (fun y hy => hy.2.2.1) Try.underlying25 rfl hlB) (by assumption) ?_
    simp only [Act.put, List.setIfInBounds_toArray, List.set_cons_zero, List.set_cons_succ]
    refine take_at 35 (v := .agg YA.toArray) rfl (some 52) rfl (by kernel_rfl) (by kernel_rfl) (by kernel_rfl) (fun _ _ _ h => h) (yieldsIf_load_mid (by rfl) 25 _ rfl w.heap.size 0 rfl YA _ (fun y hy => hy.2.1) Try.underlying25 rfl hlA) (by assumption) ?_
    simp only [Act.put, List.setIfInBounds_toArray, List.set_cons_zero, List.set_cons_succ]
    refine take_at 37 (v := .agg YB.toArray) rfl (some 54) rfl (by kernel_rfl) (by kernel_rfl) (by kernel_rfl) (fun _ _ _ h => h) (yieldsIf_load_mid (by rfl) 25 _ rfl (w.heap.size + 1) 0 rfl YB _ (fun y hy => hy.2.2.1) Try.underlying25 rfl hlB) (by assumption) ?_
    simp only [Act.put, List.setIfInBounds_toArray, List.set_cons_zero, List.set_cons_succ]
    refine wpAnyH_ready (rs := [34]) (by kernel_rfl) (by simp) ?_
    refine AllReadyH.cons rfl (fun K hK => ?_) AllReadyH.nil
    go_simp
    go_wp2_with (go_at_call 15; refine (J1.out _ (by assumption)).mono ?_; clear hHeld; rintro ev w34 ⟨rfl, hHeld⟩)
    refine hK.out _ _ (by assumption) (fun _ => ?_)
    clear hK K
    refine wpAnyH_ready (rs := [36]) (by kernel_rfl) (by simp) ?_
    refine AllReadyH.cons rfl (fun K hK => ?_) AllReadyH.nil
    go_simp
    go_wp2_with (go_at_call 14; refine (J3.out _ (by assumption)).mono ?_; clear hHeld; rintro ev w36 ⟨rfl, hHeld⟩)
    refine hK.out _ _ (by assumption) (fun _ => ?_)
    clear hK K
    refine wpAnyH_ready (rs := [38]) (by kernel_rfl) (by simp) ?_
    refine AllReadyH.cons rfl (fun K hK => ?_) AllReadyH.nil
    go_simp
    go_wp2_with (go_at_call 14; refine (J4.out _ (by assumption)).mono ?_; clear hHeld; rintro ev w38 ⟨rfl, hHeld⟩)
    refine hK.out _ _ (by assumption) (fun _ => ?_)
    clear hK K
    refine take_at 39 (v := .bool false) rfl (some 56) rfl (by kernel_rfl) (by kernel_rfl) (by kernel_rfl) (fun _ _ _ h => h) (Or.inl ⟨by rfl, fun y hy => ?_⟩) (by assumption) ?_
    · go_simp
    simp only [Act.put, List.setIfInBounds_toArray, List.set_cons_zero, List.set_cons_succ]
    refine take_at 40 (v := .bool false) rfl (some 57) rfl (by kernel_rfl) (by kernel_rfl) (by kernel_rfl) (fun _ _ _ h => h) (Or.inl ⟨by rfl, fun y hy => ?_⟩) (by assumption) ?_
    · go_simp
    simp only [Act.put, List.setIfInBounds_toArray, List.set_cons_zero, List.set_cons_succ]
    refine take_at 41 (v := .bool false) rfl (some 58) rfl (by kernel_rfl) (by kernel_rfl) (by kernel_rfl) (fun _ _ _ h => h) (Or.inl ⟨by rfl, fun y hy => ?_⟩) (by assumption) ?_
    · go_simp
    simp only [Act.put, List.setIfInBounds_toArray, List.set_cons_zero, List.set_cons_succ]
    refine wpAnyH_done (by kernel_rfl) ?_ _
    have hBA := HBw4.out.trans (hHeld.1.mono HBw4.out.size)
    clear J1 J2 J3 J4 hHeld k1 k2 k3 k4 k5 HBw4
    go_wp2_with fail
    refine (C5.out _).mono ?_
    rintro ev wA ⟨e, rfl, hE, hbA⟩
    have hBB := hBA.trans (hbA.mono hBA.size)
    clear hBA hbA C5
    rcases hE with ⟨hc0, _, rfl⟩ | ⟨hc0, hE⟩
    · have hSP := HC0.out hc0
      subst hSP
      clear HC0 HC1
      go_wp2_with (refine store_box rfl 25 _ _ rfl wA.heap.size YP.toArray rfl rfl 25 _ (heap_alloc_new wA _) hiP (by rw [hzP]; rfl) honeP wA ((Below.refl _ wA).alloc (Nat.le_refl _) _) ?_; intro wB GB hbB)
      refine (told_any wB).mono ?_
      rintro ev wC ⟨rfl, hbC⟩
      have GC : wC.heap[wA.heap.size]? = some (.cells YP.toArray 25 (0, 0)) := by rw [hbC.block wA.heap.size (Array.getElem?_eq_some_iff.1 GB).1]; exact GB
      have hBC := (hBB.trans (hbB.mono hBB.size)).trans (hbC.mono (Nat.le_trans hBB.size hbB.size))
      clear hBB hbB hbC GB
      go_wp2_with (refine load_guard (by rfl) 25 _ rfl wA.heap.size rfl 25 YP.toArray (0, 0) _ GC Try.underlying25 rfl hiP ?_)
      refine (C6.out wC).mono ?_
      rintro ev wD ⟨rfl, hbD⟩
      go_wp2_with fail
      go_ret
      exact ⟨by rfl, hBC.trans (hbD.mono hBC.size)⟩
    · have kz := HC1.out hc0
      obtain ⟨be, rfl, -⟩ := hE.shape
      clear HC0 HC1 hE
      go_wp2_with (refine store_box rfl 25 _ _ rfl wA.heap.size YP.toArray rfl rfl 25 _ (heap_alloc_new wA _) hiP (by rw [hzP]; rfl) honeP wA ((Below.refl _ wA).alloc (Nat.le_refl _) _) ?_; intro wB GB hbB)
      refine (told_any wB).mono ?_
      rintro ev wC ⟨rfl, hbC⟩
      have GC : wC.heap[wA.heap.size]? = some (.cells YP.toArray 25 (0, 0)) := by rw [hbC.block wA.heap.size (Array.getElem?_eq_some_iff.1 GB).1]; exact GB
      have hBC := (hBB.trans (hbB.mono hBB.size)).trans (hbC.mono (Nat.le_trans hBB.size hbB.size))
      clear hBB hbB hbC GB
      go_wp2_with (refine load_guard (by rfl) 25 _ rfl wA.heap.size rfl 25 YP.toArray (0, 0) _ GC Try.underlying25 rfl hiP ?_)
      go_ret
      exact ⟨by rfl, hBC⟩
  · rw [h1] at J1 k5
    rw [h2] at J2
    rw [h3] at k2 k4
    clear h1 h2 h3 o1 o2
    go_wp2_with fail
    refine wp_region_held_drew (S := fun y => Below w4.heap.size w4 y ∧ y.rangeAt w.heap.size 0 YA ∧ y.rangeAt (w.heap.size + 1) 0 YB ∧ y.rangeAt gx 0 YA) (by kernel_rfl) hS0 (fun hHeld => ?_)
    clear hS0
    refine take_at 0 (v := .nilIface) rfl (some 17) rfl (by kernel_rfl) (by kernel_rfl) (by kernel_rfl) (fun _ _ _ h => h) (Or.inl ⟨by rfl, fun y hy => ?_⟩) (by assumption) ?_
    · go_simp
    simp only [Act.put, List.setIfInBounds_toArray, List.set_cons_zero, List.set_cons_succ]
    refine take_at 1 (v := .bool false) rfl (some 18) rfl (by kernel_rfl) (by kernel_rfl) (by kernel_rfl) (fun _ _ _ h => h) (Or.inl ⟨by rfl, fun y hy => ?_⟩) (by assumption) ?_
    · go_simp
    simp only [Act.put, List.setIfInBounds_toArray, List.set_cons_zero, List.set_cons_succ]
    refine take_at 2 (v := .bool false) rfl (some 19) rfl (by kernel_rfl) (by kernel_rfl) (by kernel_rfl) (fun _ _ _ h => h) (Or.inl ⟨by rfl, fun y hy => ?_⟩) (by assumption) ?_
    · go_simp
    simp only [Act.put, List.setIfInBounds_toArray, List.set_cons_zero, List.set_cons_succ]
    refine take_at 3 (v := .agg YA.toArray) rfl (some 20) rfl (by kernel_rfl) (by kernel_rfl) (by kernel_rfl) (fun _ _ _ h => h) (yieldsIf_load_mid (by rfl) 25 _ rfl gx 0 rfl YA _ (fun y hy => hy.2.2.2) Try.underlying25 rfl hlA) (by assumption) ?_
    simp only [Act.put, List.setIfInBounds_toArray, List.set_cons_zero, List.set_cons_succ]
    refine take_at 4 (v := .agg YA.toArray) rfl (some 21) rfl (by kernel_rfl) (by kernel_rfl) (by kernel_rfl) (fun _ _ _ h => h) (yieldsIf_load_mid (by rfl) 25 _ rfl w.heap.size 0 rfl YA _ (fun y hy => hy.2.1) Try.underlying25 rfl hlA) (by assumption) ?_
    simp only [Act.put, List.setIfInBounds_toArray, List.set_cons_zero, List.set_cons_succ]
    refine take_at 5 (v := .bool false) rfl (some 22) rfl (by kernel_rfl) (by kernel_rfl) (by kernel_rfl) (fun _ _ _ h => h) (Or.inl ⟨by rfl, fun y hy => ?_⟩) (by assumption) ?_
    · go_simp
    simp only [Act.put, List.setIfInBounds_toArray, List.set_cons_zero, List.set_cons_succ]
    refine take_at 6 (v := .bool false) rfl (some 23) rfl (by kernel_rfl) (by kernel_rfl) (by kernel_rfl) (fun _ _ _ h => h) (Or.inl ⟨by rfl, fun y hy => ?_⟩) (by assumption) ?_
    · go_simp
    simp only [Act.put, List.setIfInBounds_toArray, List.set_cons_zero, List.set_cons_succ]
    refine take_at 7 (v := .bool false) rfl (some 24) rfl (by kernel_rfl) (by kernel_rfl) (by kernel_rfl) (fun _ _ _ h => h) (Or.inl ⟨by rfl, fun y hy => ?_⟩) (by assumption) ?_
    · go_simp
    simp only [Act.put, List.setIfInBounds_toArray, List.set_cons_zero, List.set_cons_succ]
    refine take_at 8 (v := .agg YA.toArray) rfl (some 25) rfl (by kernel_rfl) (by kernel_rfl) (by kernel_rfl) (fun _ _ _ h => h) (yieldsIf_load_mid (by rfl) 25 _ rfl w.heap.size 0 rfl YA _ (fun y hy => hy.2.1) Try.underlying25 rfl hlA) (by assumption) ?_
    simp only [Act.put, List.setIfInBounds_toArray, List.set_cons_zero, List.set_cons_succ]
    refine take_at 9 (v := .agg YB.toArray) rfl (some 26) rfl (by kernel_rfl) (by kernel_rfl) (by kernel_rfl) (fun _ _ _ h => h) (yieldsIf_load_mid (by rfl) 25 _ rfl (w.heap.size + 1) 0 rfl YB _ (fun y hy => hy.2.2.1) Try.underlying25 rfl hlB) (by assumption) ?_
    simp only [Act.put, List.setIfInBounds_toArray, List.set_cons_zero, List.set_cons_succ]
    refine take_at 16 (v := .agg YA.toArray) rfl (some 33) rfl (by kernel_rfl) (by kernel_rfl) (by kernel_rfl) (fun _ _ _ h => h) (yieldsIf_load_mid (by rfl) 25 _ rfl w.heap.size 0 rfl YA _ (fun y hy => hy.2.1) Try.underlying25 rfl hlA) (by assumption) ?_
    simp only [Act.put, List.setIfInBounds_toArray, List.set_cons_zero, List.set_cons_succ]
    refine take_at 17 (v := .agg YB.toArray) rfl (some 34) rfl (by kernel_rfl) (by kernel_rfl) (by kernel_rfl) (fun _ _ _ h => h) (yieldsIf_load_mid (by rfl) 25 _ rfl (w.heap.size + 1) 0 rfl YB _ (fun y hy => hy.2.2.1) Try.underlying25 rfl hlB) (by assumption) ?_
    simp only [Act.put, List.setIfInBounds_toArray, List.set_cons_zero, List.set_cons_succ]
    refine take_at 18 (v := .bool false) rfl (some 35) rfl (by kernel_rfl) (by kernel_rfl) (by kernel_rfl) (fun _ _ _ h => h) (Or.inl ⟨by rfl, fun y hy => ?_⟩) (by assumption) ?_
    · go_simp
    simp only [Act.put, List.setIfInBounds_toArray, List.set_cons_zero, List.set_cons_succ]
    refine wpAnyH_ready (rs := [10]) (by kernel_rfl) (by simp) ?_
    refine AllReadyH.cons rfl (fun K hK => ?_) AllReadyH.nil
    go_simp
    go_wp2_with (go_at_call 15; refine (J1.out _ (by assumption)).mono ?_; clear hHeld; rintro ev w10 ⟨rfl, hHeld⟩)
    refine hK.out _ _ (by assumption) (fun _ => ?_)
    clear hK K
    refine take_at 11 (v := .bool false) rfl (some 28) rfl (by kernel_rfl) (by kernel_rfl) (by kernel_rfl) (fun _ _ _ h => h) (Or.inl ⟨by rfl, fun y hy => ?_⟩) (by assumption) ?_
    · go_simp
    simp only [Act.put, List.setIfInBounds_toArray, List.set_cons_zero, List.set_cons_succ]
    refine take_at 12 (v := .agg YB.toArray) rfl (some 29) rfl (by kernel_rfl) (by kernel_rfl) (by kernel_rfl) (fun _ _ _ h => h) (yieldsIf_load_mid (by rfl) 25 _ rfl (w.heap.size + 1) 0 rfl YB _ (fun y hy => hy.2.2.1) Try.underlying25 rfl hlB) (by assumption) ?_
    simp only [Act.put, List.setIfInBounds_toArray, List.set_cons_zero, List.set_cons_succ]
    refine take_at 13 (v := .agg YA.toArray) rfl (some 30) rfl (by kernel_rfl) (by kernel_rfl) (by kernel_rfl) (fun _ _ _ h => h) (yieldsIf_load_mid (by rfl) 25 _ rfl w.heap.size 0 rfl YA _ (fun y hy => hy.2.1) Try.underlying25 rfl hlA) (by assumption) ?_
    simp only [Act.put, List.setIfInBounds_toArray, List.set_cons_zero, List.set_cons_succ]
    refine wpAnyH_ready (rs := [14]) (by kernel_rfl) (by simp) ?_
    refine AllReadyH.cons rfl (fun K hK => ?_) AllReadyH.nil
    go_simp
    go_wp2_with (go_at_call 15; refine (J2.out _ (by assumption)).mono ?_; clear hHeld; rintro ev w14 ⟨rfl, hHeld⟩)
    refine hK.out _ _ (by assumption) (fun _ => ?_)
    clear hK K
    refine take_at 15 (v := .bool false) rfl (some 32) rfl (by kernel_rfl) (by kernel_rfl) (by kernel_rfl) (fun _ _ _ h => h) (Or.inl ⟨by rfl, fun y hy => ?_⟩) (by assumption) ?_
    · go_simp
    simp only [Act.put, List.setIfInBounds_toArray, List.set_cons_zero, List.set_cons_succ]
    refine take_at 19 (v := .bool false) rfl (some 36) rfl (by kernel_rfl) (by kernel_rfl) (by kernel_rfl) (fun _ _ _ h => h) (Or.inl ⟨by rfl, fun y hy => ?_⟩) (by assumption) ?_
    · go_simp
    simp only [Act.put, List.setIfInBounds_toArray, List.set_cons_zero, List.set_cons_succ]
    refine take_at 20 (v := .bool false) rfl (some 37) rfl (by kernel_rfl) (by kernel_rfl) (by kernel_rfl) (fun _ _ _ h => h) (Or.inl ⟨by rfl, fun y hy => ?_⟩) (by assumption) ?_
    · go_simp
    simp only [Act.put, List.setIfInBounds_toArray, List.set_cons_zero, List.set_cons_succ]
    refine take_at 21 (v := .bool false) rfl (some 38) rfl (by kernel_rfl) (by kernel_rfl) (by kernel_rfl) (fun _ _ _ h => h) (Or.inl ⟨by rfl, fun y hy => ?_⟩) (by assumption) ?_
    · go_simp
    simp only [Act.put, List.setIfInBounds_toArray, List.set_cons_zero, List.set_cons_succ]
    refine take_at 22 (v := .agg YA.toArray) rfl (some 39) rfl (by kernel_rfl) (by kernel_rfl) (by kernel_rfl) (fun _ _ _ h => h) (yieldsIf_load_mid (by rfl) 25 _ rfl w.heap.size 0 rfl YA _ (fun y hy => hy.2.1) Try.underlying25 rfl hlA) (by assumption) ?_
    simp only [Act.put, List.setIfInBounds_toArray, List.set_cons_zero, List.set_cons_succ]
    refine take_at 23 (v := .agg YB.toArray) rfl (some 40) rfl (by kernel_rfl) (by kernel_rfl) (by kernel_rfl) (fun _ _ _ h => h) (yieldsIf_load_mid (by rfl) 25 _ rfl (w.heap.size + 1) 0 rfl YB _ (fun y hy => hy.2.2.1) Try.underlying25 rfl hlB) (by assumption) ?_
    simp only [Act.put, List.setIfInBounds_toArray, List.set_cons_zero, List.set_cons_succ]
    refine wpAnyH_ready (rs := [24]) (by kernel_rfl) (by simp) ?_
    refine AllReadyH.cons rfl (fun K hK => ?_) AllReadyH.nil
    go_simp
    go_wp2_with (go_at_call 15; refine (J1.out _ (by assumption)).mono ?_; clear hHeld; rintro ev w24 ⟨rfl, hHeld⟩)
    refine hK.out _ _ (by assumption) (fun _ => ?_)
    clear hK K
    refine take_at 25 (v := .bool false) rfl (some 42) rfl (by kernel_rfl) (by kernel_rfl) (by kernel_rfl) (fun _ _ _ h => h) (Or.inl ⟨by rfl, fun y hy => ?_⟩) (by assumption) ?_
    · go_simp
    simp only [Act.put, List.setIfInBounds_toArray, List.set_cons_zero, List.set_cons_succ]
    refine take_at 26 (v := undef) rfl (some 43) rfl (by kernel_rfl) (by kernel_rfl) (by kernel_rfl) (fun _ _ _ h => h) (Or.inr ⟨by rfl, rfl⟩) (by assumption) ?_
    simp only [Act.put, List.setIfInBounds_toArray, List.set_cons_zero, List.set_cons_succ]
    refine take_at 27 (v := undef) rfl (some 44) rfl (by kernel_rfl) (by kernel_rfl) (by kernel_rfl) (fun _ _ _ h => h) (Or.inr ⟨by rfl, rfl⟩) (by assumption) ?_
    simp only [Act.put, List.setIfInBounds_toArray, List.set_cons_zero, List.set_cons_succ]
    refine take_at 28 (v := undef) rfl (some 45) rfl (by kernel_rfl) (by kernel_rfl) (by kernel_rfl) (fun _ _ _ h => h) (Or.inr ⟨by rfl, rfl⟩) (by assumption) ?_
    simp only [Act.put, List.setIfInBounds_toArray, List.set_cons_zero, List.set_cons_succ]
    refine take_at 29 (v := .bool false) rfl (some 46) rfl (by kernel_rfl) (by kernel_rfl) (by kernel_rfl) (fun _ _ _ h => h) (Or.inl ⟨by rfl, fun y hy => ?_⟩) (by assumption) ?_
    · go_simp
    simp only [Act.put, List.setIfInBounds_toArray, List.set_cons_zero, List.set_cons_succ]
    refine take_at 30 (v := .bool false) rfl (some 47) rfl (by kernel_rfl) (by kernel_rfl) (by kernel_rfl) (fun _ _ _ h => h) (Or.inl ⟨by rfl, fun y hy => ?_⟩) (by assumption) ?_
    · go_simp
    simp only [Act.put, List.setIfInBounds_toArray, List.set_cons_zero, List.set_cons_succ]
    refine take_at 31 (v := .bool false) rfl (some 48) rfl (by kernel_rfl) (by kernel_rfl) (by kernel_rfl) (fun _ _ _ h => h) (Or.inl ⟨by rfl, fun y hy => ?_⟩) (by assumption) ?_
    · go_simp
    simp only [Act.put, List.setIfInBounds_toArray, List.set_cons_zero, List.set_cons_succ]
    refine take_at 32 (v := .agg YA.toArray) rfl (some 49) rfl (by kernel_rfl) (by kernel_rfl) (by kernel_rfl) (fun _ _ _ h => h) (yieldsIf_load_mid (by rfl) 25 _ rfl w.heap.size 0 rfl YA _ (fun y hy => hy.2.1) Try.underlying25 rfl hlA) (by assumption) ?_
    simp only [Act.put, List.setIfInBounds_toArray, List.set_cons_zero, List.set_cons_succ]
    refine take_at 33 (v := .agg YB.toArray) rfl (some 50) rfl (by kernel_rfl) (by kernel_rfl) (by kernel_rfl) (fun _ _ _ h => h) (yieldsIf_load_mid (by rfl) 25 _ rfl (w.heap.size + 1) 0 rfl YB _ (fun y hy => hy.2.2.1) Try.underlying25 rfl hlB) (by assumption) ?_
    simp only [Act.put, List.setIfInBounds_toArray, List.set_cons_zero, List.set_cons_succ]
    refine take_at 35 (v := .agg YA.toArray) rfl (some 52) rfl (by kernel_rfl) (by kernel_rfl) (by kernel_rfl) (fun _ _ _ h => h) (yieldsIf_load_mid (by rfl) 25 _ rfl w.heap.size 0 rfl YA _ (fun y hy => hy.2.1) Try.underlying25 rfl hlA) (by assumption) ?_
    simp only [Act.put, List.setIfInBounds_toArray, List.set_cons_zero, List.set_cons_succ]
    refine take_at 37 (v := .agg YB.toArray) rfl (some 54) rfl (by kernel_rfl) (by kernel_rfl) (by kernel_rfl) (fun _ _ _ h => h) (yieldsIf_load_mid (by rfl) 25 _ rfl (w.heap.size + 1) 0 rfl YB _ (fun y hy => hy.2.2.1) Try.underlying25 rfl hlB) (by assumption) ?_
    simp only [Act.put, List.setIfInBounds_toArray, List.set_cons_zero, List.set_cons_succ]
    refine wpAnyH_ready (rs := [34]) (by kernel_rfl) (by simp) ?_
    refine AllReadyH.cons rfl (fun K hK => ?_) AllReadyH.nil
    go_simp
    go_wp2_with (go_at_call 15; refine (J1.out _ (by assumption)).mono ?_; clear hHeld; rintro ev w34 ⟨rfl, hHeld⟩)
    refine hK.out _ _ (by assumption) (fun _ => ?_)
    clear hK K
    refine wpAnyH_ready (rs := [36]) (by kernel_rfl) (by simp) ?_
    refine AllReadyH.cons rfl (fun K hK => ?_) AllReadyH.nil
    go_simp
    go_wp2_with (go_at_call 14; refine (J3.out _ (by assumption)).mono ?_; clear hHeld; rintro ev w36 ⟨rfl, hHeld⟩)
    refine hK.out _ _ (by assumption) (fun _ => ?_)
    clear hK K
    refine wpAnyH_ready (rs := [38]) (by kernel_rfl) (by simp) ?_
    refine AllReadyH.cons rfl (fun K hK => ?_) AllReadyH.nil
    go_simp
    go_wp2_with (go_at_call 14; refine (J4.out _ (by assumption)).mono ?_; clear hHeld; rintro ev w38 ⟨rfl, hHeld⟩)
    refine hK.out _ _ (by assumption) (fun _ => ?_)
    clear hK K
    refine take_at 39 (v := .bool false) rfl (some 56) rfl (by kernel_rfl) (by kernel_rfl) (by kernel_rfl) (fun _ _ _ h => h) (Or.inl ⟨by rfl, fun y hy => ?_⟩) (by assumption) ?_
    · go_simp
    simp only [Act.put, List.setIfInBounds_toArray, List.set_cons_zero, List.set_cons_succ]
    refine take_at 40 (v := .bool false) rfl (some 57) rfl (by kernel_rfl) (by kernel_rfl) (by kernel_rfl) (fun _ _ _ h => h) (Or.inl ⟨by rfl, fun y hy => ?_⟩) (by assumption) ?_
    · go_simp
    simp only [Act.put, List.setIfInBounds_toArray, List.set_cons_zero, List.set_cons_succ]
    refine take_at 41 (v := .bool false) rfl (some 58) rfl (by kernel_rfl) (by kernel_rfl) (by kernel_rfl) (fun _ _ _ h => h) (Or.inl ⟨by rfl, fun y hy => ?_⟩) (by assumption) ?_
    · go_simp
    simp only [Act.put, List.setIfInBounds_toArray, List.set_cons_zero, List.set_cons_succ]
    refine wpAnyH_done (by kernel_rfl) ?_ _
    have hBA := HBw4.out.trans (hHeld.1.mono HBw4.out.size)
    clear J1 J2 J3 J4 hHeld k1 k2 k3 k4 k5 HBw4
    go_wp2_with fail
    refine (C5.out _).mono ?_
    rintro ev wA ⟨e, rfl, hE, hbA⟩
    have hBB := hBA.trans (hbA.mono hBA.size)
    clear hBA hbA C5
    rcases hE with ⟨hc0, _, rfl⟩ | ⟨hc0, hE⟩
    · have hSP := HC0.out hc0
      subst hSP
      clear HC0 HC1
      go_wp2_with (refine store_box rfl 25 _ _ rfl wA.heap.size YP.toArray rfl rfl 25 _ (heap_alloc_new wA _) hiP (by rw [hzP]; rfl) honeP wA ((Below.refl _ wA).alloc (Nat.le_refl _) _) ?_; intro wB GB hbB)
      refine (told_any wB).mono ?_
      rintro ev wC ⟨rfl, hbC⟩
      have GC : wC.heap[wA.heap.size]? = some (.cells YP.toArray 25 (0, 0)) := by rw [hbC.block wA.heap.size (Array.getElem?_eq_some_iff.1 GB).1]; exact GB
      have hBC := (hBB.trans (hbB.mono hBB.size)).trans (hbC.mono (Nat.le_trans hBB.size hbB.size))
      clear hBB hbB hbC GB
      go_wp2_with (refine load_guard (by rfl) 25 _ rfl wA.heap.size rfl 25 YP.toArray (0, 0) _ GC Try.underlying25 rfl hiP ?_)
      refine (C6.out wC).mono ?_
      rintro ev wD ⟨rfl, hbD⟩
      go_wp2_with fail
      go_ret
      exact ⟨by rfl, hBC.trans (hbD.mono hBC.size)⟩
    · have kz := HC1.out hc0
      obtain ⟨be, rfl, -⟩ := hE.shape
      clear HC0 HC1 hE
      go_wp2_with (refine store_box rfl 25 _ _ rfl wA.heap.size YP.toArray rfl rfl 25 _ (heap_alloc_new wA _) hiP (by rw [hzP]; rfl) honeP wA ((Below.refl _ wA).alloc (Nat.le_refl _) _) ?_; intro wB GB hbB)
      refine (told_any wB).mono ?_
      rintro ev wC ⟨rfl, hbC⟩
      have GC : wC.heap[wA.heap.size]? = some (.cells YP.toArray 25 (0, 0)) := by rw [hbC.block wA.heap.size (Array.getElem?_eq_some_iff.1 GB).1]; exact GB
      have hBC := (hBB.trans (hbB.mono hBB.size)).trans (hbC.mono (Nat.le_trans hBB.size hbB.size))
      clear hBB hbB hbC GB
      go_wp2_with (refine load_guard (by rfl) 25 _ rfl wA.heap.size rfl 25 YP.toArray (0, 0) _ GC Try.underlying25 rfl hiP ?_)
      go_ret
      exact ⟨by rfl, hBC⟩
end Go.Proofs.Ytnfiecafkapgmaa
