/-
  CasRooms' walk.
-/
import Derived.Test.YtjnogpcpekheoaaTol
namespace Go.Proofs.Ytjnogpcpekheoaa
open Go.RowKit Go.Maps

theorem load_guard {P : Program} {ops : Array Oper} {rest : List Oper} {o : Oper} {a : Act} {w : World} {Q : Exit → Act → World → Prop} (hw : Region.wanted o (yielded ops a.tmps) = true) (ty : TypeId) (x : Operand) (ho : o.op = .load ty x)
    (g : Nat) (hx : a.eval x = .pointer (some ⟨g, 0, none⟩)) (t : TypeId) (cs : Array Value) (fr : Nat × Nat) (d : TypeDesc) (hg : w.heap[g]? = some (.cells cs t fr))
    (hu : P.underlying ty = some d) (hd : (match d with | .struct _ | .array _ _ => true | _ => false) = true) (hi : (P.info? ty).map (·.size) = some cs.size)
    (h : wpList P ops Q rest (a.put o.dst (.agg cs)) w) : wpList P ops Q (o :: rest) a w :=
  BigFrame.wpList_want hw fun _ hK => wp_load_row ty x ho g hx t cs fr d hg hu hd hi (hK _ _ h)

/-- A Put into a store of the call's own. -/
theorem put_in {w y : World} {v vb : Value} {bm room : Nat} {c : List (Bys × Bys)} {b : Bys} (hy : Below w.heap.size w y) (H : Sto (fun k => w.heap.size ≤ k) y v bm room c) (hr : room ≤ 4096) (hb : Sl y vb b) (hl : b.length ≤ 4194304) :
    Calls Try.prog 10 #[v, vb] y fun ev w' => ∃ e, ev = .returned (.tuple #[hv (sumOr (putC room c b).1 (sumF b)), e]) ∧ Tell w' e (putC room c b).1 ∧ Sto (fun k => w.heap.size ≤ k) w' v bm room (putC room c b).2 ∧ Below w.heap.size w w' ∧ y.grownBy w' (some bm) := by
  refine (put_any H hr hb hl).mono ?_
  rintro ev w' ⟨e, he, hT, hS, hg⟩
  exact ⟨e, he, hT, hS.wide (fun k hk => hk.elim id (fun h => Nat.le_trans hy.size h)), hy.grown hg hy.size (fun k e => by cases e; exact H.omap), hg⟩
/-- One byte in a new slice. -/
theorem sl_one (y : World) (x : UInt8) : Sl (y.alloc (.cells #[.int .u8 (x.toNat : Int)] 5)) (.slice (some ⟨y.heap.size, 0, none⟩) 1 1) [x] := by
  refine ⟨.inr ⟨_, 0, 1, rfl, by simp, fun i hi => ?_⟩⟩
  obtain rfl : i = 0 := by simpa using hi
  simp

/-- The numbers that were put. -/
def cR : Nat → List (Bys × Bys)
  | 0 => []
  | i + 1 => (sumF [UInt8.ofNat i], [UInt8.ofNat i]) :: cR i
theorem cR_len (i : Nat) : (cR i).length = i := by
  induction i with
  | zero => rfl
  | succ i ih => rw [cR, List.length_cons, ih]
theorem cR_out {x : Bys} : ∀ {i : Nat}, (∀ j, j < i → x ≠ sumF [UInt8.ofNat j]) → x ∉ (cR i).map (·.1)
  | 0, _ => by simp [cR]
  | i + 1, h => by
    rw [cR, List.map_cons, List.mem_cons]
    rintro (e | e)
    · exact h i (by omega) e
    · exact cR_out (fun j hj => h j (by omega)) e
theorem cR_in {j : Nat} : ∀ {i : Nat}, j < i → sumF [UInt8.ofNat j] ∈ (cR i).map (·.1)
  | 0, h => by omega
  | i + 1, h => by
    rw [cR, List.map_cons, List.mem_cons]
    by_cases e : j = i
    · left; rw [e]
    · right; exact cR_in (by omega)
theorem and63 (n : Int) : ∃ k : Nat, k ≤ 63 ∧ bits .and .i64 n 63 = (k : Int) := by
  have hb : bits .and .i64 n 63 = IntKind.i64.wrap (((BitVec.ofInt 64 n) &&& (BitVec.ofInt 64 63)).toNat : Int) := rfl
  have h1 : (BitVec.ofInt 64 63).toNat = 63 := rfl
  rw [hb, BitVec.toNat_and, h1]
  generalize (BitVec.ofInt 64 n).toNat = A
  have hA : A &&& 63 ≤ 63 := Nat.and_le_right
  generalize A &&& 63 = k at *
  refine ⟨k, hA, ?_⟩
  simp [IntKind.wrap, IntKind.bits, IntKind.signed]; omega

/-- All that the walk knows of sums and of the store. -/
structure RmEnv (w : World) (n sb : Nat) (F : Nat → Bys) (T : Nat → World → Prop) : Prop where
  len : ∀ j, (F j).length = 32
  keep : ∀ m y y', T m y → Below y.heap.size y y' → T m y'
  sum : ∀ y v j, Sl y v [UInt8.ofNat j] → Calls Try.prog 14 #[v] y fun ev w' => ev = .returned (.agg (bys (F j)).toArray) ∧ Below y.heap.size y w'
  told : ∀ y, Calls Try.prog 9 #[] y fun ev w' => ev = .returned (.bool true) ∧ Below y.heap.size y w'
  putNew : ∀ y v m, Below w.heap.size w y → T m y → m < n → (∀ j, j < m → F m ≠ F j) → Sl y v [UInt8.ofNat m] → Calls Try.prog 10 #[.pointer (some ⟨sb, 0, none⟩), v] y fun ev w' => ev = .returned (.tuple #[.agg (bys (F m)).toArray, .nilIface]) ∧ T (m + 1) w' ∧ Below w.heap.size w w'
  putFull : ∀ y v, Below w.heap.size w y → T n y → (∀ j, j < n → F n ≠ F j) → Sl y v [UInt8.ofNat n] → Calls Try.prog 10 #[.pointer (some ⟨sb, 0, none⟩), v] y fun ev w' => ∃ e, ev = .returned (.tuple #[.agg z25.toArray, e]) ∧ Tell w' e 12 ∧ T n w' ∧ Below w.heap.size w w'
  putZero : ∀ y v m, Below w.heap.size w y → T (m + 1) y → Sl y v [UInt8.ofNat 0] → Calls Try.prog 10 #[.pointer (some ⟨sb, 0, none⟩), v] y fun ev w' => ev = .returned (.tuple #[.agg (bys (F 0)).toArray, .nilIface]) ∧ T (m + 1) w' ∧ Below w.heap.size w w'
  has : ∀ y m, T (m + 1) y → Calls Try.prog 18 #[.pointer (some ⟨sb, 0, none⟩), .agg (bys (F m)).toArray] y fun ev w' => ev = .returned (.bool true) ∧ Below y.heap.size y w'
  count : ∀ y, T n y → Calls Try.prog 21 #[.pointer (some ⟨sb, 0, none⟩)] y fun ev w' => ev = .returned (.int .i64 (n : Int)) ∧ w' = y
  eq : ∀ (y : World) i j, (Op.equalIn 10000 35 (.agg (bys (F i)).toArray) (.agg (bys (F j)).toArray)).run Try.prog y = .ok (F i == F j) y
  box : ∀ j, (Try.prog.info? 35).map (·.size) = some (bys (F j)).toArray.size ∧ (bys (F j)).toArray.all (·.oneCell') = true ∧ z25.toArray.size = (bys (F j)).toArray.size

theorem env_any (w : World) (n sb bm : Nat) (hn : n ≤ 64) : RmEnv w n sb (fun j => sumF [UInt8.ofNat j]) (fun m y => Sto (fun k => w.heap.size ≤ k) y (.pointer (some ⟨sb, 0, none⟩)) bm n (cR m)) where
  len j := sumF_len _
  keep m y y' h hb := h.below hb
  sum y v j h := xsum_any y v _ h (by simp)
  told y := told_any y
  putNew y v m hy hT hm hne hsl := by
    have hc : putC n (cR m) [UInt8.ofNat m] = (0, cR (m + 1)) := by
      unfold putC
      rw [if_neg (cR_out hne), if_pos (by rw [cR_len]; exact hm)]; rfl
    refine (put_in hy hT (by omega) hsl (by simp)).mono ?_
    rw [hc]
    rintro ev w' ⟨e, rfl, hTe, hS, hB, _⟩
    rw [hTe.nil]
    exact ⟨rfl, hS, hB⟩
  putFull y v hy hT hne hsl := by
    have hc : putC n (cR n) [UInt8.ofNat n] = (12, cR n) := by
      unfold putC
      rw [if_neg (cR_out hne), if_neg (by rw [cR_len]; omega)]
    refine (put_in hy hT (by omega) hsl (by simp)).mono ?_
    rw [hc]
    rintro ev w' ⟨e, rfl, hTe, hS, hB, _⟩
    exact ⟨e, rfl, hTe, hS, hB⟩
  putZero y v m hy hT hsl := by
    have hc : putC n (cR (m + 1)) [UInt8.ofNat 0] = (0, cR (m + 1)) := by
      unfold putC
      rw [if_pos (cR_in (j := 0) (by omega))]
    refine (put_in hy hT (by omega) hsl (by simp)).mono ?_
    rw [hc]
    rintro ev w' ⟨e, rfl, hTe, hS, hB, _⟩
    rw [hTe.nil]
    exact ⟨rfl, hS, hB⟩
  has y m hT := by
    refine (has_any hT (sumF [UInt8.ofNat m]) (sumF_len _)).mono ?_
    rintro ev w' ⟨rfl, hb⟩
    rw [decide_eq_true (cR_in (by omega))]
    exact ⟨rfl, hb⟩
  count y hT := by
    refine (count_any hT).mono ?_
    rintro ev w' ⟨rfl, rfl⟩
    rw [cR_len]
    exact ⟨rfl, rfl⟩
  eq y i j := equ25 y _ _ (sumF_len _) (sumF_len _)
  box j := ⟨size35 _ (sumF_len _), all_one (bys_one _), by simp [z25, bys_len, sumF_len]⟩

attribute [local go_sem ↓] Go.wp_at_zero Go.wp_at_succ
set_option maxHeartbeats 8000000 in
set_option maxRecDepth 20000 in
theorem rooms_walk (w : World) (r : Int) : Calls Try.prog 7 #[.int .i64 r] w fun ev w' => ev = .returned (.bool true) ∧ Below w.heap.size w w' := by
  obtain ⟨k, hk, hbits⟩ := and63 r
  obtain ⟨n, hn⟩ : ∃ n : Nat, n = k + 1 := ⟨_, rfl⟩
  have hadd : IntKind.i64.wrap (1 + (k : Int)) = (n : Int) := by rw [IntKind.wrap_i64]; omega
  have C8 : Calls Try.prog 8 #[.int .i64 (n : Int)] w fun ev w' => ∃ sb F T, ev = .returned (.tuple #[.pointer (some ⟨sb, 0, none⟩), .nilIface]) ∧ RmEnv w n sb F T ∧ T 0 w' ∧ Below w.heap.size w w' := by
    refine (new_ok w n (by omega) (by omega)).mono ?_
    rintro ev w' ⟨v, bm, rfl, hS, hb⟩
    obtain ⟨sb, rfl, -⟩ := hS.shape
    exact ⟨sb, _, _, rfl, env_any w n sb bm (by omega), hS, hb⟩
  have hn64 : n ≤ 64 := by omega
  have hn1 : 1 ≤ n := by omega
  clear hn hk
  go_enter Try.func7, Try.ntmps7
  go_wp2_with (first | (go_at_call 8; refine C8.mono ?_; rintro ev w1 ⟨sb, F, T, rfl, hE, hT0, hb1⟩; have E : Hid _ := hE; clear hE C8))
  go_loopw [6] (fun i wr => ∃ m : Nat, m ≤ n + 1 ∧ i = .int .i64 m ∧ T (min m n) wr ∧ Below w.heap.size w wr) (fun i _ => n + 1 - (intOf i).toNat)
  case atStart => exact ⟨0, by omega, rfl, by rw [Nat.zero_min]; exact hT0, hb1⟩
  case round =>
    obtain ⟨m, hm, rfl, hS, hB⟩ := hrel
    clear hT0 hb1
    by_cases hmn : m ≤ n
    · have hlt : (m : Int) ≤ (n : Int) := by omega
      have hu8 : IntKind.u8.wrap (m : Int) = (m : Int) := by
        have : IntKind.u8.wrap (m : Int) = (m : Int) % 256 := by simp [IntKind.wrap, IntKind.bits, IntKind.signed]
        rw [this]; omega
      have hmv : ((UInt8.ofNat m).toNat : Int) = (m : Int) := by simp; omega
      have hsl := sl_one wr (UInt8.ofNat m)
      rw [hmv] at hsl
      have hA : Below wr.heap.size wr (wr.alloc (.cells #[.int .u8 (m : Int)] 5)) := (Below.refl _ _).alloc (Nat.le_refl _) _
      have HSA : Hid (T (min m n) (wr.alloc (.cells #[.int .u8 (m : Int)] 5))) := E.out.keep _ _ _ hS hA
      have HBA : Hid (Below w.heap.size w (wr.alloc (.cells #[.int .u8 (m : Int)] 5))) := hB.trans (hA.mono hB.size)
      have HSL : Hid (Sl (wr.alloc (.cells #[.int .u8 (m : Int)] 5)) (.slice (some ⟨wr.heap.size, 0, none⟩) 1 1) [UInt8.ofNat m]) := hsl
      clear hS hB hA hsl hmv
      go_wp2_with fail
      generalize wr.alloc (.cells #[.int .u8 (m : Int)] 5) = WA at *
      generalize wr.heap.size = G at *
      clear hu8
      have HI : Hid (Below WA.heap.size WA WA) := Below.refl _ _
      go_loopw [8] (fun i wi => ∃ j : Nat, j ≤ m ∧ i = .int .i64 j ∧ Below WA.heap.size WA wi ∧ ∀ j', j' < j → F m ≠ F j') (fun i _ => m - (intOf i).toNat)
      case atStart => exact ⟨0, by omega, rfl, HI.out, fun j' h => by omega⟩
      case round =>
        obtain ⟨j, hj, rfl, hbi, hne⟩ := hrel
        clear HI
        by_cases hjm : j < m
        · have hlt2 : (j : Int) < (m : Int) := by omega
          have hu8 : IntKind.u8.wrap (j : Int) = (j : Int) := by
            have : IntKind.u8.wrap (j : Int) = (j : Int) % 256 := by simp [IntKind.wrap, IntKind.bits, IntKind.signed]
            rw [this]; omega
          have hjv : ((UInt8.ofNat j).toNat : Int) = (j : Int) := by simp; omega
          have C1 := E.out.sum _ _ m (HSL.out.below hbi)
          have C2 : Hid (∀ y : World, Calls Try.prog 14 #[.slice (some ⟨y.heap.size, 0, none⟩) 1 1] (y.alloc (.cells #[.int .u8 (j : Int)] 5)) fun ev w' => ev = .returned (.agg (bys (F j)).toArray) ∧ Below y.heap.size y w') := fun y => by
            have hsl := sl_one y (UInt8.ofNat j)
            rw [hjv] at hsl
            have hA : Below y.heap.size y (y.alloc (.cells #[.int .u8 (j : Int)] 5)) := (Below.refl _ _).alloc (Nat.le_refl _) _
            refine (E.out.sum _ _ j hsl).mono ?_
            rintro ev w' ⟨rfl, hb⟩
            exact ⟨rfl, hA.trans (hb.mono hA.size)⟩
          have he := fun y => E.out.eq y m j
          clear hjv
          by_cases hq : F m = F j
          · rw [show (F m == F j) = true by rw [hq]; simp] at he
            clear hne hq
            generalize (bys (F m)).toArray = Y1 at *
            generalize (bys (F j)).toArray = Y2 at *
            go_wp2_with (first | (go_at_call 14; first | (refine C1.mono ?_; rintro ev w3 ⟨rfl, hb3⟩; clear C1) | (refine (C2.out _).mono ?_; rintro ev w4 ⟨rfl, hb4⟩)) | (go_at_call 9; refine (E.out.told _).mono ?_; rintro ev w5 ⟨rfl, hb5⟩))
            go_ret
            have h3 := hbi.trans (hb3.mono hbi.size)
            have h4 := h3.trans (hb4.mono h3.size)
            have h5 := h4.trans (hb5.mono h4.size)
            exact ⟨rfl, HBA.out.trans (h5.mono HBA.out.size)⟩
          · rw [show (F m == F j) = false by simpa using hq] at he
            have HQ : Hid (∀ j', j' < j + 1 → F m ≠ F j') := fun j' h => by
              by_cases e : j' = j
              · rw [e]; exact hq
              · exact hne j' (by omega)
            clear hne hq
            generalize (bys (F m)).toArray = Y1 at *
            generalize (bys (F j)).toArray = Y2 at *
            go_wp2_with (first | (go_at_call 14; first | (refine C1.mono ?_; rintro ev w3 ⟨rfl, hb3⟩; clear C1) | (refine (C2.out _).mono ?_; rintro ev w4 ⟨rfl, hb4⟩)))
            go_roundw
            case rel =>
              have h3 := hbi.trans (hb3.mono hbi.size)
              exact ⟨j + 1, by omega, by go_num, h3.trans (hb4.mono h3.size), HQ.out⟩
            case measure => simp [intOf]; omega
        · have hlt2 : ¬ (j : Int) < (m : Int) := by omega
          obtain rfl : j = m := by omega
          clear hj hjm
          have hB := HBA.out.trans (hbi.mono HBA.out.size)
          have hT := E.out.keep _ _ _ HSA.out hbi
          have hsl := HSL.out.below hbi
          obtain ⟨hi0, ho0, hz0⟩ := E.out.box 0
          have CZ : Hid (∀ y m, Below w.heap.size w y → T (m + 1) y → Calls Try.prog 10 #[.pointer (some ⟨sb, 0, none⟩), .slice (some ⟨y.heap.size, 0, none⟩) 1 1] (y.alloc (.cells #[.int .u8 0] 5)) fun ev w' => ev = .returned (.tuple #[.agg (bys (F 0)).toArray, .nilIface]) ∧ T (m + 1) w' ∧ Below w.heap.size w w') := fun y m hy hT => by
            have hA : Below y.heap.size y (y.alloc (.cells #[.int .u8 0] 5)) := (Below.refl _ _).alloc (Nat.le_refl _) _
            exact E.out.putZero _ _ m (hy.trans (hA.mono hy.size)) (E.out.keep _ _ _ hT hA) (sl_one y 0)
          clear HSA HSL HBA hbi
          by_cases hjn : j < n
          · rw [show min j n = j by omega] at hT
            have C10 := E.out.putNew wr _ j hB hT hjn hne hsl
            obtain ⟨hi1, ho1, hz1⟩ := E.out.box j
            have CH : Hid (∀ y, T (j + 1) y → Calls Try.prog 18 #[.pointer (some ⟨sb, 0, none⟩), .agg (bys (F j)).toArray] y fun ev w' => ev = .returned (.bool true) ∧ Below y.heap.size y w') := fun y => E.out.has y j
            have hlt3 : (j : Int) < (n : Int) := by omega
            have hne3 : ¬ (j : Int) = (n : Int) := by omega
            clear hT hsl hne hB
            generalize (bys (F j)).toArray = Y1 at *
            generalize (bys (F 0)).toArray = Y0 at *
            go_wp2_with (first | (go_at_call 10; refine C10.mono ?_; rintro ev w3 ⟨rfl, hT3, hB3⟩; have hgA := heap_alloc_new w3 (.cells z25.toArray 35); have hbA : Below w3.heap.size w3 (w3.alloc (.cells z25.toArray 35)) := (Below.refl _ _).alloc (Nat.le_refl _) _; clear C10) | (refine store_box rfl 35 _ _ rfl w3.heap.size Y1 rfl rfl 35 z25.toArray hgA hi1 hz1 ho1 w3 hbA ?_; intro w4 rH hb4; have hT4 := E.out.keep _ _ _ hT3 hb4; have CH4 := CH.out w4 hT4) | (refine load_guard (by rfl) 35 _ rfl w3.heap.size rfl 35 Y1 (0, 0) _ rH Try.underlying35 rfl hi1 ?_) | (go_at_call 18; refine CH4.mono ?_; rintro ev w5 ⟨rfl, hb5⟩))
            have hT5 := E.out.keep _ _ _ hT4 hb5
            have hB4 := hB3.trans (hb4.mono hB3.size)
            have hB5 := hB4.trans (hb5.mono hB4.size)
            refine (CZ.out w5 j hB5 hT5).mono ?_
            rintro ev w6 ⟨rfl, hT6, hB6⟩
            have hgC := heap_alloc_new w6 (.cells z25.toArray 35)
            have hbC : Below w6.heap.size w6 (w6.alloc (.cells z25.toArray 35)) := (Below.refl _ _).alloc (Nat.le_refl _) _
            clear hT3 hB3 hgA hbA hb4 hT4 CH4 hb5 hT5 hB4 hB5 CZ rH CH
            go_wp2_with (first | (refine store_box rfl 35 _ _ rfl w6.heap.size Y0 rfl rfl 35 z25.toArray hgC hi0 hz0 ho0 w6 hbC ?_; intro w7 r7 hb7))
            go_roundw
            case rel => exact ⟨j + 1, by omega, by go_num, by rw [show min (j + 1) n = j + 1 by omega]; exact E.out.keep _ _ _ hT6 hb7, hB6.trans (hb7.mono hB6.size)⟩
            case measure => simp [intOf]; omega
          · obtain rfl : j = n := by omega
            rw [Nat.min_self] at hT
            have C10 := E.out.putFull wr _ hB hT hne hsl
            have hZo : z25.toArray.all (·.oneCell') = true := all_one (bys_one _)
            have hz := z25_size
            have CI : Hid (∀ y e, Tell y e 12 → Calls Try.prog 12 #[e, .int .i64 12, .int .i64 0] y fun ev w' => ev = .returned (.bool true) ∧ Below y.heap.size y w') := fun y e h => is_any y e 12 0 12 0 h.is rfl rfl
            obtain ⟨p, hp⟩ : ∃ p, j = p + 1 := ⟨j - 1, by omega⟩
            have HP : Hid (j = p + 1) := hp
            clear hT hsl hne hB hp hjn
            generalize (bys (F 0)).toArray = Y0 at *
            go_wp2_with (first | (go_at_call 10; refine C10.mono ?_; rintro ev w3 ⟨e, rfl, hTe, hT3, hB3⟩; obtain ⟨eb, rfl⟩ := hTe.er; have HTe : Hid _ := hTe; have hgA := heap_alloc_new w3 (.cells z25.toArray 35); have hbA : Below w3.heap.size w3 (w3.alloc (.cells z25.toArray 35)) := (Below.refl _ _).alloc (Nat.le_refl _) _; clear C10 hTe) | (refine store_box rfl 35 _ _ rfl w3.heap.size z25.toArray rfl rfl 35 z25.toArray hgA hz rfl hZo w3 hbA ?_; intro w4 rH hb4; have hT4 := E.out.keep _ _ _ hT3 hb4; have CI4 := CI.out w4 _ (Tell.below (n := 12) HTe.out hb4)) | (go_at_call 12; refine CI4.mono ?_; rintro ev w5 ⟨rfl, hb5⟩))
            have hT5 := E.out.keep _ _ _ hT4 hb5
            have hB4 := hB3.trans (hb4.mono hB3.size)
            have hB5 := hB4.trans (hb5.mono hB4.size)
            refine (CZ.out w5 p hB5 (by rw [← HP.out]; exact hT5)).mono ?_
            rintro ev w6 ⟨rfl, hT6, hB6⟩
            rw [← HP.out] at hT6
            have hgC := heap_alloc_new w6 (.cells z25.toArray 35)
            have hbC : Below w6.heap.size w6 (w6.alloc (.cells z25.toArray 35)) := (Below.refl _ _).alloc (Nat.le_refl _) _
            clear hT3 hB3 hgA hbA hb4 hT4 CI4 hb5 hT5 hB4 hB5 CZ rH CI HTe
            go_wp2_with (first | (refine store_box rfl 35 _ _ rfl w6.heap.size Y0 rfl rfl 35 z25.toArray hgC hi0 hz0 ho0 w6 hbC ?_; intro w7 r7 hb7))
            go_roundw
            case rel => exact ⟨j + 1, by omega, by go_num, by rw [show min (j + 1) j = j by omega]; exact E.out.keep _ _ _ hT6 hb7, hB6.trans (hb7.mono hB6.size)⟩
            case measure => simp [intOf]
    · obtain rfl : m = n + 1 := by omega
      rw [show min (n + 1) n = n by omega] at hS
      have hlt : ¬ ((n + 1 : Nat) : Int) ≤ (n : Int) := by omega
      have C9 := E.out.told wr
      have HC : Hid (∀ y, Below wr.heap.size wr y → Calls Try.prog 21 #[.pointer (some ⟨sb, 0, none⟩)] y fun ev w' => ev = .returned (.int .i64 (n : Int)) ∧ w' = y) := fun y hy => E.out.count y (E.out.keep _ _ _ hS hy)
      clear hS
      go_wp2_with (first | (go_at_call 9; refine C9.mono ?_; rintro ev w2 ⟨rfl, hb2⟩; have CC := HC.out w2 hb2; clear C9) | (go_at_call 21; refine CC.mono ?_; rintro ev w3 ⟨rfl, rfl⟩))
      go_ret
      exact ⟨by simp, hB.trans (hb2.mono hB.size)⟩
end Go.Proofs.Ytjnogpcpekheoaa
