/-
  The texts Mop, Opw, joined.
-/
import Derived.Test.YtlbhaaldndjigaaGreatDoorJMfd2
import Derived.Test.YtlbhaaldndjigaaGreatDoorSmv
import Derived.Test.YtlbhaaldndjigaaGreatDoorJHd33
import Derived.Lib.ItoaLen
namespace Go.Proofs.YtlbhaaldndjigaaGreatDoor
open Go.RowKit

def MayOpr (x : Opr) : Prop := (x.kind = 1 ∧ 0 ≤ x.n ∧ x.n ≤ 2147483647 ∧ x.place = Pl.zero) ∨ (x.kind = 2 ∧ (x.n = 0 ∨ x.n = 1) ∧ x.place = Pl.zero) ∨ (x.kind = 3 ∧ x.n = 0 ∧ MayPl x.place)
theorem opr_int {x : Opr} (h : x.kind = 1) : MayOpr x ↔ 0 ≤ x.n ∧ x.n ≤ 2147483647 ∧ x.place = Pl.zero := by
  constructor
  · rintro (⟨_, h'⟩ | ⟨h', _⟩ | ⟨h', _⟩)
    · exact h'
    · omega
    · omega
  · exact fun h' => .inl ⟨h, h'⟩
theorem opr_bool {x : Opr} (h : x.kind = 2) : MayOpr x ↔ (x.n = 0 ∨ x.n = 1) ∧ x.place = Pl.zero := by
  constructor
  · rintro (⟨h', _⟩ | ⟨_, h'⟩ | ⟨h', _⟩)
    · omega
    · exact h'
    · omega
  · exact fun h' => .inr (.inl ⟨h, h'⟩)
theorem opr_place {x : Opr} (h : x.kind = 3) : MayOpr x ↔ x.n = 0 ∧ MayPl x.place := by
  constructor
  · rintro (⟨h', _⟩ | ⟨h', _⟩ | ⟨_, h'⟩)
    · omega
    · omega
    · exact h'
  · exact fun h' => .inr (.inr ⟨h, h'⟩)
theorem opr_none {x : Opr} (h : ¬ (x.kind = 1 ∨ x.kind = 2 ∨ x.kind = 3)) : ¬ MayOpr x := by
  rintro (⟨h', _⟩ | ⟨h', _⟩ | ⟨h', _⟩) <;> omega

theorem mayOp_any (k : Int) (w : World) (B : Bool) (hB : B = true ↔ 1 ≤ k ∧ k ≤ 4) : Calls Tryz.prog 140 #[.int .i64 k] w fun ev w' => ev = .returned (.bool B) ∧ w' = w := by
  by_cases h1 : 1 ≤ k
  · by_cases h2 : k ≤ 4
    · obtain rfl := bool_true hB ⟨h1, h2⟩
      have b1 : decide ((1 : Int) ≤ k) = true := by simpa using h1
      have b2 : decide (k ≤ (4 : Int)) = true := by simpa using h2
      clear hB
      go_enter Tryz.func140, Tryz.ntmps140
      go_wp2_with fail
      go_ret
      exact ⟨rfl, rfl⟩
    · obtain rfl := bool_false hB (fun h => h2 h.2)
      have b1 : decide ((1 : Int) ≤ k) = true := by simpa using h1
      have b2 : decide (k ≤ (4 : Int)) = false := by simpa using h2
      clear hB
      go_enter Tryz.func140, Tryz.ntmps140
      go_wp2_with fail
      go_ret
      exact ⟨rfl, rfl⟩
  · obtain rfl := bool_false hB (fun h => h1 h.1)
    have b1 : decide ((1 : Int) ≤ k) = false := by simpa using h1
    clear hB
    go_enter Tryz.func140, Tryz.ntmps140
    go_wp2_with fail
    go_ret
    exact ⟨rfl, rfl⟩

set_option maxHeartbeats 4000000 in
theorem mayOper_any {K : Ctx} {w : World} (he : Env K w) {x : Opr} {cs : List Value} (hx : OprAt K w cs x) (B : Bool) (hB : B = true ↔ MayOpr x) :
    Calls Tryz.prog 125 #[.agg cs.toArray] w fun ev w' => ev = .returned (.bool B) ∧ Below w.heap.size w w' := by
  obtain ⟨ps, rfl, hp⟩ := hx
  have hpl := hp
  obtain ⟨v1, rfl, hl, hs⟩ := hp
  obtain ⟨ao, cap, rfl⟩ := hs.form
  have hA0 := alloc_one w (.cells #[.int .i64 x.kind, .int .i64 x.n, .string (str x.place.name), .slice ao x.place.path.length cap] 81)
  have hA1 := alloc_two w (.cells #[.int .i64 x.kind, .int .i64 x.n, .string (str x.place.name), .slice ao x.place.path.length cap] 81) (.cells #[.string ⟨#[]⟩, .slice none 0 0] 79)
  have hK0 := below_le hA0 he.C
  have hK1 := below_le hA1 he.C
  have HA0 : Hid (Below w.heap.size w (w.alloc (.cells #[.int .i64 x.kind, .int .i64 x.n, .string (str x.place.name), .slice ao x.place.path.length cap] 81))) := hA0
  have S : Hid (∀ B, (B = true ↔ x.place = Pl.zero) → Calls Tryz.prog 144 #[.pointer (some ⟨w.heap.size, 2, none⟩), .pointer (some ⟨w.heap.size + 1, 0, none⟩)] ((w.alloc (.cells #[.int .i64 x.kind, .int .i64 x.n, .string (str x.place.name), .slice ao x.place.path.length cap] 81)).alloc (.cells #[.string ⟨#[]⟩, .slice none 0 0] 79)) fun ev w' => ev = .returned (.bool B) ∧ Below w.heap.size w w') := by
    intro B hB
    have r0 := (Row.new w 81 [.int .i64 x.kind, .int .i64 x.n, .string (str x.place.name), .slice ao x.place.path.length cap]).alloc (.cells #[.string ⟨#[]⟩, .slice none 0 0] 79)
    have r1 := Row.new (w.alloc (.cells #[.int .i64 x.kind, .int .i64 x.n, .string (str x.place.name), .slice ao x.place.path.length cap] 81)) 79 plCells
    rw [size_alloc] at r1
    refine (samePlace_any (part_at (r0.cells 4) [.int .i64 x.kind, .int .i64 x.n] [.string (str x.place.name), .slice ao x.place.path.length cap] [] (k := 2) (n := 2) rfl rfl (by decide) rfl) (r1.cells 2) (hpl.below hK1) (pl_zero K _) B hB).mono ?_
    rintro _ _ ⟨rfl, m, rfl⟩
    exact ⟨rfl, hA1.trans (Below.drewN _ _ _)⟩
  have T0 : Hid (∀ B, (B = true ↔ MayPl x.place) → Calls Tryz.prog 120 #[.agg #[.string (str x.place.name), .slice ao x.place.path.length cap]] (w.alloc (.cells #[.int .i64 x.kind, .int .i64 x.n, .string (str x.place.name), .slice ao x.place.path.length cap] 81)) fun ev w' => ev = .returned (.bool B) ∧ Below w.heap.size w w') := by
    intro B hB
    refine (mayPlace_any (he.below hK0) (hpl.below hK0) B hB).mono ?_
    rintro _ _ ⟨rfl, hb⟩
    exact ⟨rfl, hA0.trans (below_le hb hA0.size)⟩
  clear hA0 hA1 hK0 hK1 hpl hs he
  by_cases k1 : x.kind = 1
  · have b1 : (x.kind == 1) = true := by rw [k1]; rfl
    have HB : Hid (B = true ↔ 0 ≤ x.n ∧ x.n ≤ 2147483647 ∧ x.place = Pl.zero) := by show _ ↔ _; rw [hB, opr_int k1]
    clear hB T0 k1
    by_cases n1 : 0 ≤ x.n
    · have d1 : decide ((0 : Int) ≤ x.n) = true := by simpa using n1
      by_cases n2 : x.n ≤ 2147483647
      · have d2 : decide (x.n ≤ (2147483647 : Int)) = true := by simpa using n2
        have D := S.out B (by rw [HB.out]; exact ⟨fun h => h.2.2, fun h => ⟨n1, n2, h⟩⟩)
        clear HB S HA0
        generalize x.kind = kd at *
        generalize x.n = nn at *
        generalize str x.place.name = SS at *
        generalize x.place.path.length = len at *
        go_enter Tryz.func125, Tryz.ntmps125
        go_wp2_with (go_at_call 144; refine D.mono ?_; rintro ev w2 ⟨rfl, hb2⟩)
        go_ret
        exact ⟨rfl, hb2⟩
      · have d2 : decide (x.n ≤ (2147483647 : Int)) = false := by simpa using n2
        obtain rfl := bool_false HB.out (fun h => n2 h.2.1)
        clear HB S
        generalize x.kind = kd at *
        generalize x.n = nn at *
        generalize str x.place.name = SS at *
        generalize x.place.path.length = len at *
        go_enter Tryz.func125, Tryz.ntmps125
        go_wp2_with (fail)
        go_ret
        exact ⟨rfl, HA0.out⟩
    · have d1 : decide ((0 : Int) ≤ x.n) = false := by simpa using n1
      obtain rfl := bool_false HB.out (fun h => n1 h.1)
      clear HB S
      generalize x.kind = kd at *
      generalize x.n = nn at *
      generalize str x.place.name = SS at *
      generalize x.place.path.length = len at *
      go_enter Tryz.func125, Tryz.ntmps125
      go_wp2_with (fail)
      go_ret
      exact ⟨rfl, HA0.out⟩
  have b1 : (x.kind == 1) = false := by simpa using k1
  by_cases k2 : x.kind = 2
  · have b2 : (x.kind == 2) = true := by rw [k2]; rfl
    have HB : Hid (B = true ↔ (x.n = 0 ∨ x.n = 1) ∧ x.place = Pl.zero) := by show _ ↔ _; rw [hB, opr_bool k2]
    clear hB T0 k1 k2
    by_cases n1 : x.n = 0
    · have d1 : (x.n == 0) = true := by rw [n1]; rfl
      have D := S.out B (by rw [HB.out]; exact ⟨fun h => h.2, fun h => ⟨.inl n1, h⟩⟩)
      clear n1
      clear HB S HA0
      generalize x.kind = kd at *
      generalize x.n = nn at *
      generalize str x.place.name = SS at *
      generalize x.place.path.length = len at *
      go_enter Tryz.func125, Tryz.ntmps125
      go_wp2_with (go_at_call 144; refine D.mono ?_; rintro ev w2 ⟨rfl, hb2⟩)
      go_ret
      exact ⟨rfl, hb2⟩
    · have d1 : (x.n == 0) = false := by simpa using n1
      by_cases n2 : x.n = 1
      · have d2 : (x.n == 1) = true := by rw [n2]; rfl
        have D := S.out B (by rw [HB.out]; exact ⟨fun h => h.2, fun h => ⟨.inr n2, h⟩⟩)
        clear n1 n2
        clear HB S HA0
        generalize x.kind = kd at *
        generalize x.n = nn at *
        generalize str x.place.name = SS at *
        generalize x.place.path.length = len at *
        go_enter Tryz.func125, Tryz.ntmps125
        go_wp2_with (go_at_call 144; refine D.mono ?_; rintro ev w2 ⟨rfl, hb2⟩)
        go_ret
        exact ⟨rfl, hb2⟩
      · have d2 : (x.n == 1) = false := by simpa using n2
        obtain rfl := bool_false HB.out (fun h => h.1.elim n1 n2)
        clear n1 n2
        clear HB S
        generalize x.kind = kd at *
        generalize x.n = nn at *
        generalize str x.place.name = SS at *
        generalize x.place.path.length = len at *
        go_enter Tryz.func125, Tryz.ntmps125
        go_wp2_with (fail)
        go_ret
        exact ⟨rfl, HA0.out⟩
  have b2 : (x.kind == 2) = false := by simpa using k2
  by_cases k3 : x.kind = 3
  · have b3 : (x.kind == 3) = true := by rw [k3]; rfl
    have HB : Hid (B = true ↔ x.n = 0 ∧ MayPl x.place) := by show _ ↔ _; rw [hB, opr_place k3]
    clear hB S k1 k2 k3
    by_cases n1 : x.n = 0
    · have d1 : (x.n == 0) = true := by rw [n1]; rfl
      have D := T0.out B (by rw [HB.out]; exact ⟨fun h => h.2, fun h => ⟨n1, h⟩⟩)
      clear n1
      clear HB T0 HA0
      generalize x.kind = kd at *
      generalize x.n = nn at *
      generalize str x.place.name = SS at *
      generalize x.place.path.length = len at *
      go_enter Tryz.func125, Tryz.ntmps125
      go_wp2_with (go_at_call 120; refine D.mono ?_; rintro ev w2 ⟨rfl, hb2⟩)
      go_ret
      exact ⟨rfl, hb2⟩
    · have d1 : (x.n == 0) = false := by simpa using n1
      obtain rfl := bool_false HB.out (fun h => n1 h.1)
      clear n1
      clear HB T0
      generalize x.kind = kd at *
      generalize x.n = nn at *
      generalize str x.place.name = SS at *
      generalize x.place.path.length = len at *
      go_enter Tryz.func125, Tryz.ntmps125
      go_wp2_with (fail)
      go_ret
      exact ⟨rfl, HA0.out⟩
  have b3 : (x.kind == 3) = false := by simpa using k3
  obtain rfl := bool_false hB (opr_none (by omega))
  clear hB S T0 k1 k2 k3
  generalize x.kind = kd at *
  generalize x.n = nn at *
  generalize str x.place.name = SS at *
  generalize x.place.path.length = len at *
  go_enter Tryz.func125, Tryz.ntmps125
  go_wp2_with (fail)
  go_ret
  exact ⟨rfl, HA0.out⟩
end Go.Proofs.YtlbhaaldndjigaaGreatDoor

namespace Go.Proofs.YtlbhaaldndjigaaGreatDoor
open Go.RowKit

/-- The library's table of powers of ten. -/
def Tb (w : World) : Prop := Lib.TabIs Tryz.prog w tabName .u64 Lib.pow10Tab
theorem Tryz.gTab : Tryz.prog.globalNamed tabName = some 1 := by kernel_rfl
theorem Tb.below {w w' : World} {C : Nat} (h : Tb w) (hb : Below C w w') (hC : 1 < C) : Tb w' := by
  unfold Tb Lib.TabIs World.var? at h ⊢
  rw [Tryz.gTab] at h ⊢
  simp only [Option.bind_some] at h ⊢
  rw [hb.block 1 hC]
  exact h

set_option maxHeartbeats 4000000 in
theorem place_any {K : Ctx} {b bx ox : Nat} {S : Bs} {n : Int} {w : World} {cs : List Value} {x : Pl} (hx : PlAt K w cs x) (hl : Lies K w 2 bx ox cs) (h : Wtr K.C b S n w) (hlen : S.length + (placeT x).length ≤ 140737488355328) :
    Calls Tryz.prog 129 #[.pointer (some ⟨b, 0, none⟩), .pointer (some ⟨bx, ox, none⟩)] w fun e w' => e = .returned (.tuple #[]) ∧ Wtr K.C b (S ++ placeT x) n w' ∧ Fr K.C w w' := by
  obtain ⟨v1, rfl, hn, hs⟩ := hx
  obtain ⟨ao, cap, rfl, hc, hb, hA⟩ := hs.at
  have c0 : w.cell? ⟨bx, ox, none⟩ = some (.string (str x.name)) := hl.2 0 (by decide)
  have c1 : w.cell? ⟨bx, ox + 1, none⟩ = some (.slice ao x.path.length cap) := hl.2 1 (by decide)
  unfold placeT at hlen ⊢
  rw [List.length_append] at hlen
  have HL := hid0 hlen
  have HA := hid0 hA
  have D1 : Hid (Calls Tryz.prog 47 #[.pointer (some ⟨b, 0, none⟩), .slice (some ⟨w.heap.size, 0, none⟩) 1 1] (w.alloc (.cells #[.string (str x.name)] 9)) fun e w' => e = .returned (.tuple #[]) ∧ Wtr K.C b (S ++ x.name) n w' ∧ Fr K.C w w') := put1 h x.name (by omega)
  have HX : Hid (∀ y, Fr K.C w y → y.cell? ⟨bx, ox + 1, none⟩ = some (.slice ao x.path.length cap)) := fun y hy => (hy.below.cell (p := ⟨bx, ox + 1, none⟩) hl.1).trans c1
  have i2 : x.path.length ≤ 9223372036854775807 := by omega
  clear h hlen hl hs hA c1 hc hb hn
  generalize str x.name = X at *
  go_enter Tryz.func129, Tryz.ntmps129
  go_wp2_with fail
  refine D1.out.mono ?_
  rintro ev w1 ⟨rfl, p1, q1⟩
  have x1 := HX.out _ q1
  have HP := hid0 p1
  have HQ := hid0 q1
  clear p1 q1 D1
  go_wp2_with fail
  go_loopw [18] (fun i wr => ∃ k : Nat, k ≤ x.path.length ∧ i = .int .i64 k ∧ Wtr K.C b (S ++ x.name ++ stepsT (x.path.take k)) n wr ∧ Fr K.C w wr) (fun i _ => x.path.length - (intOf i).toNat)
  case atStart => exact ⟨0, by omega, rfl, by simpa [stepsT] using HP.out, HQ.out⟩
  case round =>
    obtain ⟨k, hk, rfl, hw, hf⟩ := hrel
    have HW := hid0 hw
    have HF := hid0 hf
    clear hw hf HX HP HQ
    by_cases h3 : k < x.path.length
    · have i1 : (k : Int) < (x.path.length : Int) := by omega
      obtain ⟨bb, o, rfl, hbC, hcell⟩ := HA.out k h3
      have cc := hcell wr HF.out.below
      have e1 := stepsT_take x.path k h3
      have e2 : (stepsT (x.path.take (k + 1))).length ≤ (stepsT x.path).length := by
        conv => rhs; rw [← List.take_append_drop (k + 1) x.path]
        unfold stepsT
        rw [List.flatMap_append, List.length_append]; omega
      have D2 : Hid (Calls Tryz.prog 47 #[.pointer (some ⟨b, 0, none⟩), .slice (some ⟨wr.heap.size, 0, none⟩) 2 2] (wr.alloc (.cells #[.string (str [46]), .string (str x.path[k])] 9)) fun e w' => e = .returned (.tuple #[]) ∧ Wtr K.C b (S ++ x.name ++ stepsT (x.path.take (k + 1))) n w' ∧ Fr K.C wr w') := by
        have hl := HL.out
        rw [e1] at e2 ⊢
        simp only [List.length_append] at e2
        refine (put2 HW.out [46] x.path[k] (by simp only [List.length_append]; omega)).mono ?_
        rintro _ _ ⟨rfl, p1, p2⟩
        exact ⟨rfl, by simpa [List.append_assoc] using p1, p2⟩
      clear HW HA HL e1 e2 hcell
      generalize str x.path[k] = Y at *
      go_wp2_with fail
      refine D2.out.mono ?_
      rintro ev w2 ⟨rfl, p1, p2⟩
      go_wp2_with fail
      go_roundw
      case rel => exact ⟨k + 1, by omega, by go_num, p1, HF.out.trans p2⟩
      case measure => simp [intOf]; omega
    · have i1 : ¬ (k : Int) < (x.path.length : Int) := by omega
      have HX : Hid (Wtr K.C b (S ++ (x.name ++ stepsT x.path)) n wr) := by
        show Wtr K.C b (S ++ (x.name ++ stepsT x.path)) n wr
        have := HW.out
        rw [List.take_of_length_le (by omega), List.append_assoc] at this
        exact this
      clear HW
      go_wp2_with fail
      go_end0
      exact ⟨rfl, HX.out, HF.out⟩

set_option maxHeartbeats 2000000 in
theorem sign_any (op : Int) (w : World) : Calls Tryz.prog 148 #[.int .i64 op] w fun e w' => e = .returned (.string (str (signT op))) ∧ w' = w := by
  by_cases h1 : op = 1
  · subst h1
    go_enter Tryz.func148, Tryz.ntmps148
    go_wp2_with fail
    go_ret
    exact ⟨rfl, rfl⟩
  have b1 : (op == 1) = false := by simpa using h1
  by_cases h2 : op = 2
  · subst h2
    go_enter Tryz.func148, Tryz.ntmps148
    go_wp2_with fail
    go_ret
    exact ⟨rfl, rfl⟩
  have b2 : (op == 2) = false := by simpa using h2
  by_cases h3 : op = 3
  · subst h3
    go_enter Tryz.func148, Tryz.ntmps148
    go_wp2_with fail
    go_ret
    exact ⟨rfl, rfl⟩
  have b3 : (op == 3) = false := by simpa using h3
  have HE : Hid (signT op = [61, 61]) := by show signT op = [61, 61]; unfold signT; rw [if_neg h1, if_neg h2, if_neg h3]
  clear h1 h2 h3
  go_enter Tryz.func148, Tryz.ntmps148
  go_wp2_with fail
  go_ret
  exact ⟨by rw [HE.out]; rfl, rfl⟩

theorem formatBool_in (B : Bool) (w : World) : Calls Tryz.prog 158 #[.bool B] w fun e w' => e = .returned (.string (str (if B then [116, 114, 117, 101] else [102, 97, 108, 115, 101]))) ∧ w' = w := by
  cases B
  · go_enter Tryz.func158, Tryz.ntmps158
    go_wp2_with fail
    go_ret
    exact ⟨rfl, rfl⟩
  · go_enter Tryz.func158, Tryz.ntmps158
    go_wp2_with fail
    go_ret
    exact ⟨rfl, rfl⟩
theorem formatBool_any (B : Bool) (w : World) : Calls Tryz.prog 155 #[.bool B] w fun e w' => e = .returned (.string (str (if B then [116, 114, 117, 101] else [102, 97, 108, 115, 101]))) ∧ w' = w := by
  have D := hid0 (formatBool_in B w)
  generalize str (if B then [116, 114, 117, 101] else [102, 97, 108, 115, 101]) = X at *
  go_enter Tryz.func155, Tryz.ntmps155
  go_wp2_with fail
  refine D.out.mono ?_
  rintro ev w1 ⟨rfl, rfl⟩
  go_wp2_with fail
  go_ret
  exact ⟨rfl, rfl⟩
open Go.Sort in
theorem below_grown_w (w : World) (k : Nat) (os : Array Obj) : Below w.heap.size w (grow (w.drewN k) os) := by
  refine ⟨rfl, rfl, rfl, ?_, fun j hj => ?_⟩
  · show w.heap.size ≤ (w.heap ++ os).size
    rw [Array.size_append]; omega
  · show (w.heap ++ os)[j]? = w.heap[j]?
    exact Array.getElem?_append_left hj
theorem itoa_any {w : World} (ht : Tb w) (n : Int) (h0 : -9223372036854775808 ≤ n) (h1 : n ≤ 9223372036854775807) : Calls Tryz.prog 133 #[.int .i64 n] w fun e w' => e = .returned (.string (str (Lib.itoa n))) ∧ Below w.heap.size w w' := by
  refine (Tryz.strconv_Itoa n h0 h1 w ht).mono ?_
  rintro _ _ ⟨rfl, k, os, rfl⟩
  exact ⟨rfl, below_grown_w w k os⟩
theorem itoa_len {n : Int} (h0 : 0 ≤ n) (h1 : n ≤ 2147483647) : (Lib.itoa n).length ≤ 20 := by
  obtain ⟨u, rfl⟩ : ∃ u : Nat, n = u := ⟨n.toNat, by omega⟩
  rw [Lib.itoa_nonneg, Lib.decDigits_length]
  exact Lib.nDigits_le20 u (by omega)

set_option maxHeartbeats 4000000 in
theorem oper_any {K : Ctx} {b bx ox : Nat} {S : Bs} {n : Int} {w : World} (tb : Tb w) {cs : List Value} {x : Opr} (hm : MayOpr x) (hx : OprAt K w cs x) (hl : Lies K w 4 bx ox cs) (h : Wtr K.C b S n w) (hlen : S.length + (operT Lib.itoa x).length ≤ 140737488355328) :
    Calls Tryz.prog 147 #[.pointer (some ⟨b, 0, none⟩), .pointer (some ⟨bx, ox, none⟩)] w fun e w' => e = .returned (.tuple #[]) ∧ Wtr K.C b (S ++ operT Lib.itoa x) n w' ∧ Fr K.C w w' := by
  obtain ⟨ps, rfl, hp⟩ := hx
  have hl2 : ps.length = 2 := by obtain ⟨_, rfl, _⟩ := hp; rfl
  have c0 : w.cell? ⟨bx, ox, none⟩ = some (.int .i64 x.kind) := hl.2 0 (by decide)
  have c1 : w.cell? ⟨bx, ox + 1, none⟩ = some (.int .i64 x.n) := hl.2 1 (by decide)
  have hpl : Lies K w 2 bx (ox + 2) ps := by
    have := hl.part [.int .i64 x.kind, .int .i64 x.n] [] ps (by simp) 2 rfl (by omega)
    rwa [hl2] at this
  unfold operT at hlen ⊢
  rcases hm with ⟨hk, h1, h2, -⟩ | ⟨hk, h1, -⟩ | ⟨hk, -, -⟩
  · rw [if_pos hk] at hlen ⊢
    have b1 : (x.kind == 1) = true := by rw [hk]; rfl
    have D1 := hid0 (itoa_any tb x.n (by omega) (by omega))
    have D2 : Hid (∀ y, Below w.heap.size w y → Calls Tryz.prog 47 #[.pointer (some ⟨b, 0, none⟩), .slice (some ⟨y.heap.size, 0, none⟩) 1 1] (y.alloc (.cells #[.string (str (Lib.itoa x.n))] 9)) fun e w' => e = .returned (.tuple #[]) ∧ Wtr K.C b (S ++ Lib.itoa x.n) n w' ∧ Fr K.C w w') := by
      intro y hy
      refine (put1 (h.below hy) _ hlen).mono ?_
      rintro _ _ ⟨rfl, p1, p2⟩
      exact ⟨rfl, p1, (Fr.of_below h.Cw hy).trans p2⟩
    clear h hlen hl hpl hp tb hk h1 h2
    generalize str (Lib.itoa x.n) = X at *
    generalize x.n = m at *
    go_enter Tryz.func147, Tryz.ntmps147
    go_wp2_with fail
    refine D1.out.mono ?_
    rintro ev w1 ⟨rfl, q1⟩
    go_wp2_with fail
    refine (D2.out _ q1).mono ?_
    rintro ev w2 ⟨rfl, p2, q2⟩
    go_wp2_with fail
    go_end0
    exact ⟨rfl, p2, q2⟩
  · rw [if_neg (by omega), if_pos hk] at hlen ⊢
    have b1 : (x.kind == 1) = false := by rw [hk]; rfl
    have b2 : (x.kind == 2) = true := by rw [hk]; rfl
    have eB : (if (x.n == 1) = true then ([116, 114, 117, 101] : Bs) else [102, 97, 108, 115, 101]) = boolT x.n := by unfold boolT; simp
    have D1 : Hid (Calls Tryz.prog 155 #[.bool (x.n == 1)] w fun e w' => e = .returned (.string (str (boolT x.n))) ∧ w' = w) := by
      have := formatBool_any (x.n == 1) w
      rw [eB] at this
      exact this
    have D2 : Hid (Calls Tryz.prog 47 #[.pointer (some ⟨b, 0, none⟩), .slice (some ⟨w.heap.size, 0, none⟩) 1 1] (w.alloc (.cells #[.string (str (boolT x.n))] 9)) fun e w' => e = .returned (.tuple #[]) ∧ Wtr K.C b (S ++ boolT x.n) n w' ∧ Fr K.C w w') := put1 h _ hlen
    clear h hlen hl hpl hp tb hk h1 eB
    generalize str (boolT x.n) = X at *
    go_enter Tryz.func147, Tryz.ntmps147
    go_wp2_with fail
    refine D1.out.mono ?_
    rintro ev w1 ⟨rfl, rfl⟩
    go_wp2_with fail
    refine D2.out.mono ?_
    rintro ev w2 ⟨rfl, p2, q2⟩
    go_wp2_with fail
    go_end0
    exact ⟨rfl, p2, q2⟩
  · rw [if_neg (by omega), if_neg (by omega)] at hlen ⊢
    have b1 : (x.kind == 1) = false := by rw [hk]; rfl
    have b2 : (x.kind == 2) = false := by rw [hk]; rfl
    have b3 : (x.kind == 3) = true := by rw [hk]; rfl
    have D := hid0 (place_any hp hpl h hlen)
    clear h hlen hl hpl hp tb hk
    go_enter Tryz.func147, Tryz.ntmps147
    go_wp2_with fail
    refine D.out.mono ?_
    rintro ev w2 ⟨rfl, p2, q2⟩
    go_wp2_with fail
    go_end0
    exact ⟨rfl, p2, q2⟩
end Go.Proofs.YtlbhaaldndjigaaGreatDoor
