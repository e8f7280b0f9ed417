/-
  Operands: may one be? The program says it.
-/
import Derived.Test.YtjenmmkamhplkaaMfd
import Derived.Test.YtjenmmkamhplkaaSmv
namespace Go.Proofs.Ytjenmmkamhplkaa
open Go.RowKit

def MayOpr (x : Opr) : Prop := (x.kind = 1 ∧ 0 ≤ x.n ∧ x.n ≤ 2147483647 ∧ x.place = Pl.zero) ∨ (x.kind = 2 ∧ (x.n = 0 ∨ x.n = 1) ∧ x.place = Pl.zero) ∨ (x.kind = 3 ∧ x.n = 0 ∧ MayPl x.place)
theorem opr_int {x : Opr} (h : x.kind = 1) : MayOpr x ↔ 0 ≤ x.n ∧ x.n ≤ 2147483647 ∧ x.place = Pl.zero := by
  constructor
  · rintro (⟨_, h'⟩ | ⟨h', _⟩ | ⟨h', _⟩)
    · exact h'
    · omega
    · omega
  · exact fun h' => .inl ⟨h, h'⟩
theorem opr_bool {x : Opr} (h : x.kind = 2) : MayOpr x ↔ (x.n = 0 ∨ x.n = 1) ∧ x.place = Pl.zero := by
  constructor
  · rintro (⟨h', _⟩ | ⟨_, h'⟩ | ⟨h', _⟩)
    · omega
    · exact h'
    · omega
  · exact fun h' => .inr (.inl ⟨h, h'⟩)
theorem opr_place {x : Opr} (h : x.kind = 3) : MayOpr x ↔ x.n = 0 ∧ MayPl x.place := by
  constructor
  · rintro (⟨h', _⟩ | ⟨h', _⟩ | ⟨_, h'⟩)
    · omega
    · omega
    · exact h'
  · exact fun h' => .inr (.inr ⟨h, h'⟩)
theorem opr_none {x : Opr} (h : ¬ (x.kind = 1 ∨ x.kind = 2 ∨ x.kind = 3)) : ¬ MayOpr x := by
  rintro (⟨h', _⟩ | ⟨h', _⟩ | ⟨h', _⟩) <;> omega

theorem mayOp_any (k : Int) (w : World) (B : Bool) (hB : B = true ↔ 1 ≤ k ∧ k ≤ 4) : Calls Try.prog 80 #[.int .i64 k] w fun ev w' => ev = .returned (.bool B) ∧ w' = w := by
  by_cases h1 : 1 ≤ k
  · by_cases h2 : k ≤ 4
    · obtain rfl := bool_true hB ⟨h1, h2⟩
      have b1 : decide ((1 : Int) ≤ k) = true := by simpa using h1
      have b2 : decide (k ≤ (4 : Int)) = true := by simpa using h2
      clear hB
      go_enter Try.func80, Try.ntmps80
      go_wp2_with fail
      go_ret
      exact ⟨rfl, rfl⟩
    · obtain rfl := bool_false hB (fun h => h2 h.2)
      have b1 : decide ((1 : Int) ≤ k) = true := by simpa using h1
      have b2 : decide (k ≤ (4 : Int)) = false := by simpa using h2
      clear hB
      go_enter Try.func80, Try.ntmps80
      go_wp2_with fail
      go_ret
      exact ⟨rfl, rfl⟩
  · obtain rfl := bool_false hB (fun h => h1 h.1)
    have b1 : decide ((1 : Int) ≤ k) = false := by simpa using h1
    clear hB
    go_enter Try.func80, Try.ntmps80
    go_wp2_with fail
    go_ret
    exact ⟨rfl, rfl⟩

set_option maxHeartbeats 4000000 in
theorem mayOper_any {K : Ctx} {w : World} (he : Env K w) {x : Opr} {cs : List Value} (hx : OprAt K w cs x) (B : Bool) (hB : B = true ↔ MayOpr x) :
    Calls Try.prog 74 #[.agg cs.toArray] w fun ev w' => ev = .returned (.bool B) ∧ Below w.heap.size w w' := by
  obtain ⟨ps, rfl, hp⟩ := hx
  have hpl := hp
  obtain ⟨v1, rfl, hl, hs⟩ := hp
  obtain ⟨ao, cap, rfl⟩ := hs.form
  have hA0 := alloc_one w (.cells #[.int .i64 x.kind, .int .i64 x.n, .string (str x.place.name), .slice ao x.place.path.length cap] 45)
  have hA1 := alloc_two w (.cells #[.int .i64 x.kind, .int .i64 x.n, .string (str x.place.name), .slice ao x.place.path.length cap] 45) (.cells #[.string ⟨#[]⟩, .slice none 0 0] 43)
  have hK0 := below_le hA0 he.C
  have hK1 := below_le hA1 he.C
  have HA0 : Hid (Below w.heap.size w (w.alloc (.cells #[.int .i64 x.kind, .int .i64 x.n, .string (str x.place.name), .slice ao x.place.path.length cap] 45))) := hA0
  have S : Hid (∀ B, (B = true ↔ x.place = Pl.zero) → Calls Try.prog 57 #[.pointer (some ⟨w.heap.size, 2, none⟩), .pointer (some ⟨w.heap.size + 1, 0, none⟩)] ((w.alloc (.cells #[.int .i64 x.kind, .int .i64 x.n, .string (str x.place.name), .slice ao x.place.path.length cap] 45)).alloc (.cells #[.string ⟨#[]⟩, .slice none 0 0] 43)) fun ev w' => ev = .returned (.bool B) ∧ Below w.heap.size w w') := by
    intro B hB
    have r0 := (Row.new w 45 [.int .i64 x.kind, .int .i64 x.n, .string (str x.place.name), .slice ao x.place.path.length cap]).alloc (.cells #[.string ⟨#[]⟩, .slice none 0 0] 43)
    have r1 := Row.new (w.alloc (.cells #[.int .i64 x.kind, .int .i64 x.n, .string (str x.place.name), .slice ao x.place.path.length cap] 45)) 43 plCells
    rw [size_alloc] at r1
    refine (samePlace_any (part_at (r0.cells 4) [.int .i64 x.kind, .int .i64 x.n] [.string (str x.place.name), .slice ao x.place.path.length cap] [] (k := 2) (n := 2) rfl rfl (by decide) rfl) (r1.cells 2) (hpl.below hK1) (pl_zero K _) B hB).mono ?_
    rintro _ _ ⟨rfl, m, rfl⟩
    exact ⟨rfl, hA1.trans (Below.drewN _ _ _)⟩
  have T0 : Hid (∀ B, (B = true ↔ MayPl x.place) → Calls Try.prog 69 #[.agg #[.string (str x.place.name), .slice ao x.place.path.length cap]] (w.alloc (.cells #[.int .i64 x.kind, .int .i64 x.n, .string (str x.place.name), .slice ao x.place.path.length cap] 45)) fun ev w' => ev = .returned (.bool B) ∧ Below w.heap.size w w') := by
    intro B hB
    refine (mayPlace_any (he.below hK0) (hpl.below hK0) B hB).mono ?_
    rintro _ _ ⟨rfl, hb⟩
    exact ⟨rfl, hA0.trans (below_le hb hA0.size)⟩
  clear hA0 hA1 hK0 hK1 hpl hs he
  by_cases k1 : x.kind = 1
  · have b1 : (x.kind == 1) = true := by rw [k1]; rfl
    have HB : Hid (B = true ↔ 0 ≤ x.n ∧ x.n ≤ 2147483647 ∧ x.place = Pl.zero) := by show _ ↔ _; rw [hB, opr_int k1]
    clear hB T0 k1
    by_cases n1 : 0 ≤ x.n
    · have d1 : decide ((0 : Int) ≤ x.n) = true := by simpa using n1
      by_cases n2 : x.n ≤ 2147483647
      · have d2 : decide (x.n ≤ (2147483647 : Int)) = true := by simpa using n2
        have D := S.out B (by rw [HB.out]; exact ⟨fun h => h.2.2, fun h => ⟨n1, n2, h⟩⟩)
        clear HB S HA0
        generalize x.kind = kd at *
        generalize x.n = nn at *
        generalize str x.place.name = SS at *
        generalize x.place.path.length = len at *
        go_enter Try.func74, Try.ntmps74
        go_wp2_with (go_at_call 57; refine D.mono ?_; rintro ev w2 ⟨rfl, hb2⟩)
        go_ret
        exact ⟨rfl, hb2⟩
      · have d2 : decide (x.n ≤ (2147483647 : Int)) = false := by simpa using n2
        obtain rfl := bool_false HB.out (fun h => n2 h.2.1)
        clear HB S
        generalize x.kind = kd at *
        generalize x.n = nn at *
        generalize str x.place.name = SS at *
        generalize x.place.path.length = len at *
        go_enter Try.func74, Try.ntmps74
        go_wp2_with (fail)
        go_ret
        exact ⟨rfl, HA0.out⟩
    · have d1 : decide ((0 : Int) ≤ x.n) = false := by simpa using n1
      obtain rfl := bool_false HB.out (fun h => n1 h.1)
      clear HB S
      generalize x.kind = kd at *
      generalize x.n = nn at *
      generalize str x.place.name = SS at *
      generalize x.place.path.length = len at *
      go_enter Try.func74, Try.ntmps74
      go_wp2_with (fail)
      go_ret
      exact ⟨rfl, HA0.out⟩
  have b1 : (x.kind == 1) = false := by simpa using k1
  by_cases k2 : x.kind = 2
  · have b2 : (x.kind == 2) = true := by rw [k2]; rfl
    have HB : Hid (B = true ↔ (x.n = 0 ∨ x.n = 1) ∧ x.place = Pl.zero) := by show _ ↔ _; rw [hB, opr_bool k2]
    clear hB T0 k1 k2
    by_cases n1 : x.n = 0
    · have d1 : (x.n == 0) = true := by rw [n1]; rfl
      have D := S.out B (by rw [HB.out]; exact ⟨fun h => h.2, fun h => ⟨.inl n1, h⟩⟩)
      clear n1
      clear HB S HA0
      generalize x.kind = kd at *
      generalize x.n = nn at *
      generalize str x.place.name = SS at *
      generalize x.place.path.length = len at *
      go_enter Try.func74, Try.ntmps74
      go_wp2_with (go_at_call 57; refine D.mono ?_; rintro ev w2 ⟨rfl, hb2⟩)
      go_ret
      exact ⟨rfl, hb2⟩
    · have d1 : (x.n == 0) = false := by simpa using n1
      by_cases n2 : x.n = 1
      · have d2 : (x.n == 1) = true := by rw [n2]; rfl
        have D := S.out B (by rw [HB.out]; exact ⟨fun h => h.2, fun h => ⟨.inr n2, h⟩⟩)
        clear n1 n2
        clear HB S HA0
        generalize x.kind = kd at *
        generalize x.n = nn at *
        generalize str x.place.name = SS at *
        generalize x.place.path.length = len at *
        go_enter Try.func74, Try.ntmps74
        go_wp2_with (go_at_call 57; refine D.mono ?_; rintro ev w2 ⟨rfl, hb2⟩)
        go_ret
        exact ⟨rfl, hb2⟩
      · have d2 : (x.n == 1) = false := by simpa using n2
        obtain rfl := bool_false HB.out (fun h => h.1.elim n1 n2)
        clear n1 n2
        clear HB S
        generalize x.kind = kd at *
        generalize x.n = nn at *
        generalize str x.place.name = SS at *
        generalize x.place.path.length = len at *
        go_enter Try.func74, Try.ntmps74
        go_wp2_with (fail)
        go_ret
        exact ⟨rfl, HA0.out⟩
  have b2 : (x.kind == 2) = false := by simpa using k2
  by_cases k3 : x.kind = 3
  · have b3 : (x.kind == 3) = true := by rw [k3]; rfl
    have HB : Hid (B = true ↔ x.n = 0 ∧ MayPl x.place) := by show _ ↔ _; rw [hB, opr_place k3]
    clear hB S k1 k2 k3
    by_cases n1 : x.n = 0
    · have d1 : (x.n == 0) = true := by rw [n1]; rfl
      have D := T0.out B (by rw [HB.out]; exact ⟨fun h => h.2, fun h => ⟨n1, h⟩⟩)
      clear n1
      clear HB T0 HA0
      generalize x.kind = kd at *
      generalize x.n = nn at *
      generalize str x.place.name = SS at *
      generalize x.place.path.length = len at *
      go_enter Try.func74, Try.ntmps74
      go_wp2_with (go_at_call 69; refine D.mono ?_; rintro ev w2 ⟨rfl, hb2⟩)
      go_ret
      exact ⟨rfl, hb2⟩
    · have d1 : (x.n == 0) = false := by simpa using n1
      obtain rfl := bool_false HB.out (fun h => n1 h.1)
      clear n1
      clear HB T0
      generalize x.kind = kd at *
      generalize x.n = nn at *
      generalize str x.place.name = SS at *
      generalize x.place.path.length = len at *
      go_enter Try.func74, Try.ntmps74
      go_wp2_with (fail)
      go_ret
      exact ⟨rfl, HA0.out⟩
  have b3 : (x.kind == 3) = false := by simpa using k3
  obtain rfl := bool_false hB (opr_none (by omega))
  clear hB S T0 k1 k2 k3
  generalize x.kind = kd at *
  generalize x.n = nn at *
  generalize str x.place.name = SS at *
  generalize x.place.path.length = len at *
  go_enter Try.func74, Try.ntmps74
  go_wp2_with (fail)
  go_ret
  exact ⟨rfl, HA0.out⟩
end Go.Proofs.Ytjenmmkamhplkaa
