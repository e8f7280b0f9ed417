/-
  Lists of fields, lifetimes, structs and functions are written.
-/
import Derived.Test.YtmopffaocamieaaGreatJapPty2
import Derived.Test.YtmopffaocamieaaGreatJapSub4
namespace Go.Proofs.YtmopffaocamieaaGreat
open Go.RowKit

set_option maxHeartbeats 8000000 in
set_option maxRecDepth 20000 in
theorem putL116_117 {α : Type} (g : α → Bs) (B wb : Nat) {w : World} {u : Value} {l : List α} (hn : l.length ≤ 1000000)
    (hm : ∃ ao cap, u = .slice ao l.length cap ∧ ∀ i (h : i < l.length), ∃ b o, ao = some ⟨b, o, none⟩ ∧ ∃ cs : List Value, cs.length = 6 ∧ (∀ u ∈ cs, u.oneCell' = true) ∧ ∀ y, Below B w y → y.rangeAt b (o + i * 6) cs ∧ Wc B wb 117 cs y (g l[i]))
    (v : Value) (a : Bs) (h : Wr B w wb v a) (hl : a.length + (lsB g l).length ≤ 700000000) :
    Calls Tryz.prog 116 #[.agg #[.pointer (some ⟨wb, 0, none⟩)], u, .func (.func 117) #[.agg #[.pointer (some ⟨wb, 0, none⟩)]] #[]] w fun ev w' => ev = .returned (.tuple #[]) ∧ ∃ v', Wr B w' wb v' (a ++ lsB g l) ∧ Mv w w' wb v v' := by
  obtain ⟨ao, cap, rfl, hA⟩ := hm
  have hL : (lsB g l).length = (enc l.length).length + ((l.map g).flatten).length := by unfold lsB; rw [List.length_append]
  have HA := hidS hA
  have hW := alloc_one w (.cells #[.pointer (some ⟨wb, 0, none⟩)] 75)
  have C : Hid (Calls Tryz.prog 113 #[.pointer (some ⟨wb, 0, none⟩), .int .u64 (l.length : Int)] (w.alloc (.cells #[.pointer (some ⟨wb, 0, none⟩)] 75)) fun ev w' => ev = .returned (.tuple #[]) ∧ ∃ v', Wr B w' wb v' (a ++ enc l.length) ∧ Mv w w' wb v v') := by
    refine (wUint_any B wb l.length v a _ (h.past hW) (by omega) (by omega)).mono ?_
    rintro _ w1 ⟨rfl, v', h1, h2⟩
    exact ⟨rfl, v', h1, (Mv.past hW _ _).trans h2⟩
  have HW : Hid (Wr B w wb v a) := h
  have kc : IntKind.u64.wrap (l.length : Int) = (l.length : Int) := by rw [IntKind.wrap_u64]; omega
  clear hA h hW
  go_enter Tryz.func116, Tryz.ntmps116
  go_wp2_with fail
  refine C.out.mono ?_
  rintro _ w1 ⟨rfl, v1, h1, m1⟩
  have H1 := hidS h1
  have M1 := hidS m1
  clear C h1 m1
  go_wp2_with fail
  go_loopw [16] (fun i wr => ∃ (k : Nat) (v2 : Value), k ≤ l.length ∧ i = .int .i64 k ∧ Wr B wr wb v2 (a ++ enc l.length ++ ((l.take k).map g).flatten) ∧ Mv w wr wb v v2) (fun i _ => l.length - (intOf i).toNat)
  case atStart => exact ⟨0, v1, by omega, rfl, by simpa using H1.out, M1.out⟩
  case round =>
    obtain ⟨k, v2, hk, rfl, h2, m2⟩ := hrel
    by_cases h3 : k < l.length
    · obtain ⟨b, o, e, cs, hcl, hone, hy⟩ := HA.out k h3
      subst e
      have hB := m2.below HW.out
      have hr := (hy wr hB).1
      have i1 : (k : Int) < (l.length : Int) := by omega
      have D : Hid (Calls Tryz.prog 117 #[.agg #[.pointer (some ⟨wb, 0, none⟩)], .agg cs.toArray] (wr.alloc (.cells cs.toArray 82)) fun ev w' => ev = .returned (.tuple #[]) ∧ ∃ v', Wr B w' wb v' ((a ++ enc l.length ++ ((l.take k).map g).flatten) ++ g l[k]) ∧ Mv wr w' wb v2 v') := hidS (by
        have hW2 := alloc_one wr (.cells cs.toArray 82)
        have hB2 : Below B w (wr.alloc (.cells cs.toArray 82)) := hB.trans (hW2.mono h2.lo)
        refine ((hy _ hB2).2 v2 _ (h2.past hW2) (by
          have := flat_at_le g l k h3
          simp only [List.length_append]; omega)).mono ?_
        rintro _ w3 ⟨rfl, v', q1, q2⟩
        exact ⟨rfl, v', q1, (Mv.past hW2 _ _).trans q2⟩)
      have HL := hidS (flat_snoc g l k h3)
      have M2 := hidS m2
      have hall : Hid (cs.toArray.all (·.oneCell') = true) := all_one hone
      have hi : Hid ((Tryz.prog.info? 82).map (·.size) = some cs.length) := hidS (by rw [hcl]; kernel_rfl)
      have hi' : Hid ((Tryz.prog.info? 82).map (·.size) = some cs.toArray.size) := hidS (by rw [List.size_toArray, hcl]; kernel_rfl)
      have hl' : Hid (6 = cs.toArray.size) := hidS (by rw [List.size_toArray, hcl])
      have hR := hidS hr
      clear HA H1 M1 h2 m2 hy hB hone hr hcl
      go_wp2_with (first | (refine wpList_load_mid rfl 82 (.tmp 18) rfl b (o + k * 6) rfl cs _ hR.out Tryz.underlying82 rfl hi.out ?_) | (refine store_new rfl 82 (.tmp 7) (.tmp 19) rfl cs.toArray _ 82 rfl rfl hi'.out hl'.out hall.out ?_) | (refine load_new rfl 82 (.tmp 7) rfl cs 82 _ rfl Tryz.underlying82 rfl hi.out ?_))
      refine D.out.mono ?_
      rintro _ w3 ⟨rfl, v3, h4, m4⟩
      go_wp2_with fail
      go_roundw
      case rel => exact ⟨k + 1, v3, by omega, by go_num, by rw [HL.out, ← List.append_assoc]; exact h4, M2.out.trans m4⟩
      case measure => simp [intOf]; omega
    · have i1 : ¬ (k : Int) < (l.length : Int) := by omega
      obtain rfl : k = l.length := by omega
      rw [List.take_length] at h2
      clear HA H1 M1
      have H2 := hidS h2
      have M2 := hidS m2
      clear h2 m2
      go_wp2_with fail
      go_end0
      exact ⟨rfl, v2, by unfold lsB; rw [← List.append_assoc]; exact H2.out, M2.out⟩

set_option maxHeartbeats 8000000 in
set_option maxRecDepth 20000 in
theorem putL116_120 {α : Type} (g : α → Bs) (B wb : Nat) {w : World} {u : Value} {l : List α} (hn : l.length ≤ 1000000)
    (hm : ∃ ao cap, u = .slice ao l.length cap ∧ ∀ i (h : i < l.length), ∃ b o, ao = some ⟨b, o, none⟩ ∧ ∃ cs : List Value, cs.length = 6 ∧ (∀ u ∈ cs, u.oneCell' = true) ∧ ∀ y, Below B w y → y.rangeAt b (o + i * 6) cs ∧ Wc B wb 120 cs y (g l[i]))
    (v : Value) (a : Bs) (h : Wr B w wb v a) (hl : a.length + (lsB g l).length ≤ 700000000) :
    Calls Tryz.prog 116 #[.agg #[.pointer (some ⟨wb, 0, none⟩)], u, .func (.func 120) #[.agg #[.pointer (some ⟨wb, 0, none⟩)]] #[]] w fun ev w' => ev = .returned (.tuple #[]) ∧ ∃ v', Wr B w' wb v' (a ++ lsB g l) ∧ Mv w w' wb v v' := by
  obtain ⟨ao, cap, rfl, hA⟩ := hm
  have hL : (lsB g l).length = (enc l.length).length + ((l.map g).flatten).length := by unfold lsB; rw [List.length_append]
  have HA := hidS hA
  have hW := alloc_one w (.cells #[.pointer (some ⟨wb, 0, none⟩)] 75)
  have C : Hid (Calls Tryz.prog 113 #[.pointer (some ⟨wb, 0, none⟩), .int .u64 (l.length : Int)] (w.alloc (.cells #[.pointer (some ⟨wb, 0, none⟩)] 75)) fun ev w' => ev = .returned (.tuple #[]) ∧ ∃ v', Wr B w' wb v' (a ++ enc l.length) ∧ Mv w w' wb v v') := by
    refine (wUint_any B wb l.length v a _ (h.past hW) (by omega) (by omega)).mono ?_
    rintro _ w1 ⟨rfl, v', h1, h2⟩
    exact ⟨rfl, v', h1, (Mv.past hW _ _).trans h2⟩
  have HW : Hid (Wr B w wb v a) := h
  have kc : IntKind.u64.wrap (l.length : Int) = (l.length : Int) := by rw [IntKind.wrap_u64]; omega
  clear hA h hW
  go_enter Tryz.func116, Tryz.ntmps116
  go_wp2_with fail
  refine C.out.mono ?_
  rintro _ w1 ⟨rfl, v1, h1, m1⟩
  have H1 := hidS h1
  have M1 := hidS m1
  clear C h1 m1
  go_wp2_with fail
  go_loopw [16] (fun i wr => ∃ (k : Nat) (v2 : Value), k ≤ l.length ∧ i = .int .i64 k ∧ Wr B wr wb v2 (a ++ enc l.length ++ ((l.take k).map g).flatten) ∧ Mv w wr wb v v2) (fun i _ => l.length - (intOf i).toNat)
  case atStart => exact ⟨0, v1, by omega, rfl, by simpa using H1.out, M1.out⟩
  case round =>
    obtain ⟨k, v2, hk, rfl, h2, m2⟩ := hrel
    by_cases h3 : k < l.length
    · obtain ⟨b, o, e, cs, hcl, hone, hy⟩ := HA.out k h3
      subst e
      have hB := m2.below HW.out
      have hr := (hy wr hB).1
      have i1 : (k : Int) < (l.length : Int) := by omega
      have D : Hid (Calls Tryz.prog 120 #[.agg #[.pointer (some ⟨wb, 0, none⟩)], .agg cs.toArray] (wr.alloc (.cells cs.toArray 82)) fun ev w' => ev = .returned (.tuple #[]) ∧ ∃ v', Wr B w' wb v' ((a ++ enc l.length ++ ((l.take k).map g).flatten) ++ g l[k]) ∧ Mv wr w' wb v2 v') := hidS (by
        have hW2 := alloc_one wr (.cells cs.toArray 82)
        have hB2 : Below B w (wr.alloc (.cells cs.toArray 82)) := hB.trans (hW2.mono h2.lo)
        refine ((hy _ hB2).2 v2 _ (h2.past hW2) (by
          have := flat_at_le g l k h3
          simp only [List.length_append]; omega)).mono ?_
        rintro _ w3 ⟨rfl, v', q1, q2⟩
        exact ⟨rfl, v', q1, (Mv.past hW2 _ _).trans q2⟩)
      have HL := hidS (flat_snoc g l k h3)
      have M2 := hidS m2
      have hall : Hid (cs.toArray.all (·.oneCell') = true) := all_one hone
      have hi : Hid ((Tryz.prog.info? 82).map (·.size) = some cs.length) := hidS (by rw [hcl]; kernel_rfl)
      have hi' : Hid ((Tryz.prog.info? 82).map (·.size) = some cs.toArray.size) := hidS (by rw [List.size_toArray, hcl]; kernel_rfl)
      have hl' : Hid (6 = cs.toArray.size) := hidS (by rw [List.size_toArray, hcl])
      have hR := hidS hr
      clear HA H1 M1 h2 m2 hy hB hone hr hcl
      go_wp2_with (first | (refine wpList_load_mid rfl 82 (.tmp 18) rfl b (o + k * 6) rfl cs _ hR.out Tryz.underlying82 rfl hi.out ?_) | (refine store_new rfl 82 (.tmp 7) (.tmp 19) rfl cs.toArray _ 82 rfl rfl hi'.out hl'.out hall.out ?_) | (refine load_new rfl 82 (.tmp 7) rfl cs 82 _ rfl Tryz.underlying82 rfl hi.out ?_))
      refine D.out.mono ?_
      rintro _ w3 ⟨rfl, v3, h4, m4⟩
      go_wp2_with fail
      go_roundw
      case rel => exact ⟨k + 1, v3, by omega, by go_num, by rw [HL.out, ← List.append_assoc]; exact h4, M2.out.trans m4⟩
      case measure => simp [intOf]; omega
    · have i1 : ¬ (k : Int) < (l.length : Int) := by omega
      obtain rfl : k = l.length := by omega
      rw [List.take_length] at h2
      clear HA H1 M1
      have H2 := hidS h2
      have M2 := hidS m2
      clear h2 m2
      go_wp2_with fail
      go_end0
      exact ⟨rfl, v2, by unfold lsB; rw [← List.append_assoc]; exact H2.out, M2.out⟩

set_option maxHeartbeats 8000000 in
set_option maxRecDepth 20000 in
theorem putL118_119 {α : Type} (g : α → Bs) (B wb : Nat) {w : World} {u : Value} {l : List α} (hn : l.length ≤ 1000000)
    (hm : ∃ ao cap, u = .slice ao l.length cap ∧ ∀ i (h : i < l.length), ∃ b o, ao = some ⟨b, o, none⟩ ∧ ∃ cs : List Value, cs.length = 2 ∧ (∀ u ∈ cs, u.oneCell' = true) ∧ ∀ y, Below B w y → y.rangeAt b (o + i * 2) cs ∧ Wc B wb 119 cs y (g l[i]))
    (v : Value) (a : Bs) (h : Wr B w wb v a) (hl : a.length + (lsB g l).length ≤ 700000000) :
    Calls Tryz.prog 118 #[.agg #[.pointer (some ⟨wb, 0, none⟩)], u, .func (.func 119) #[.agg #[.pointer (some ⟨wb, 0, none⟩)]] #[]] w fun ev w' => ev = .returned (.tuple #[]) ∧ ∃ v', Wr B w' wb v' (a ++ lsB g l) ∧ Mv w w' wb v v' := by
  obtain ⟨ao, cap, rfl, hA⟩ := hm
  have hL : (lsB g l).length = (enc l.length).length + ((l.map g).flatten).length := by unfold lsB; rw [List.length_append]
  have HA := hidS hA
  have hW := alloc_one w (.cells #[.pointer (some ⟨wb, 0, none⟩)] 75)
  have C : Hid (Calls Tryz.prog 113 #[.pointer (some ⟨wb, 0, none⟩), .int .u64 (l.length : Int)] (w.alloc (.cells #[.pointer (some ⟨wb, 0, none⟩)] 75)) fun ev w' => ev = .returned (.tuple #[]) ∧ ∃ v', Wr B w' wb v' (a ++ enc l.length) ∧ Mv w w' wb v v') := by
    refine (wUint_any B wb l.length v a _ (h.past hW) (by omega) (by omega)).mono ?_
    rintro _ w1 ⟨rfl, v', h1, h2⟩
    exact ⟨rfl, v', h1, (Mv.past hW _ _).trans h2⟩
  have HW : Hid (Wr B w wb v a) := h
  have kc : IntKind.u64.wrap (l.length : Int) = (l.length : Int) := by rw [IntKind.wrap_u64]; omega
  clear hA h hW
  go_enter Tryz.func118, Tryz.ntmps118
  go_wp2_with fail
  refine C.out.mono ?_
  rintro _ w1 ⟨rfl, v1, h1, m1⟩
  have H1 := hidS h1
  have M1 := hidS m1
  clear C h1 m1
  go_wp2_with fail
  go_loopw [16] (fun i wr => ∃ (k : Nat) (v2 : Value), k ≤ l.length ∧ i = .int .i64 k ∧ Wr B wr wb v2 (a ++ enc l.length ++ ((l.take k).map g).flatten) ∧ Mv w wr wb v v2) (fun i _ => l.length - (intOf i).toNat)
  case atStart => exact ⟨0, v1, by omega, rfl, by simpa using H1.out, M1.out⟩
  case round =>
    obtain ⟨k, v2, hk, rfl, h2, m2⟩ := hrel
    by_cases h3 : k < l.length
    · obtain ⟨b, o, e, cs, hcl, hone, hy⟩ := HA.out k h3
      subst e
      have hB := m2.below HW.out
      have hr := (hy wr hB).1
      have i1 : (k : Int) < (l.length : Int) := by omega
      have D : Hid (Calls Tryz.prog 119 #[.agg #[.pointer (some ⟨wb, 0, none⟩)], .agg cs.toArray] (wr.alloc (.cells cs.toArray 85)) fun ev w' => ev = .returned (.tuple #[]) ∧ ∃ v', Wr B w' wb v' ((a ++ enc l.length ++ ((l.take k).map g).flatten) ++ g l[k]) ∧ Mv wr w' wb v2 v') := hidS (by
        have hW2 := alloc_one wr (.cells cs.toArray 85)
        have hB2 : Below B w (wr.alloc (.cells cs.toArray 85)) := hB.trans (hW2.mono h2.lo)
        refine ((hy _ hB2).2 v2 _ (h2.past hW2) (by
          have := flat_at_le g l k h3
          simp only [List.length_append]; omega)).mono ?_
        rintro _ w3 ⟨rfl, v', q1, q2⟩
        exact ⟨rfl, v', q1, (Mv.past hW2 _ _).trans q2⟩)
      have HL := hidS (flat_snoc g l k h3)
      have M2 := hidS m2
      have hall : Hid (cs.toArray.all (·.oneCell') = true) := all_one hone
      have hi : Hid ((Tryz.prog.info? 85).map (·.size) = some cs.length) := hidS (by rw [hcl]; kernel_rfl)
      have hi' : Hid ((Tryz.prog.info? 85).map (·.size) = some cs.toArray.size) := hidS (by rw [List.size_toArray, hcl]; kernel_rfl)
      have hl' : Hid (2 = cs.toArray.size) := hidS (by rw [List.size_toArray, hcl])
      have hR := hidS hr
      clear HA H1 M1 h2 m2 hy hB hone hr hcl
      go_wp2_with (first | (refine wpList_load_mid rfl 85 (.tmp 18) rfl b (o + k * 2) rfl cs _ hR.out Tryz.underlying85 rfl hi.out ?_) | (refine store_new rfl 85 (.tmp 7) (.tmp 19) rfl cs.toArray _ 85 rfl rfl hi'.out hl'.out hall.out ?_) | (refine load_new rfl 85 (.tmp 7) rfl cs 85 _ rfl Tryz.underlying85 rfl hi.out ?_))
      refine D.out.mono ?_
      rintro _ w3 ⟨rfl, v3, h4, m4⟩
      go_wp2_with fail
      go_roundw
      case rel => exact ⟨k + 1, v3, by omega, by go_num, by rw [HL.out, ← List.append_assoc]; exact h4, M2.out.trans m4⟩
      case measure => simp [intOf]; omega
    · have i1 : ¬ (k : Int) < (l.length : Int) := by omega
      obtain rfl : k = l.length := by omega
      rw [List.take_length] at h2
      clear HA H1 M1
      have H2 := hidS h2
      have M2 := hidS m2
      clear h2 m2
      go_wp2_with fail
      go_end0
      exact ⟨rfl, v2, by unfold lsB; rw [← List.append_assoc]; exact H2.out, M2.out⟩

set_option maxHeartbeats 8000000 in
set_option maxRecDepth 20000 in
theorem putL67_68 {α : Type} (g : α → Bs) (B wb : Nat) {w : World} {u : Value} {l : List α} (hn : l.length ≤ 1000000)
    (hm : ∃ ao cap, u = .slice ao l.length cap ∧ ∀ i (h : i < l.length), ∃ b o, ao = some ⟨b, o, none⟩ ∧ ∃ cs : List Value, cs.length = 5 ∧ (∀ u ∈ cs, u.oneCell' = true) ∧ ∀ y, Below B w y → y.rangeAt b (o + i * 5) cs ∧ Wc B wb 68 cs y (g l[i]))
    (v : Value) (a : Bs) (h : Wr B w wb v a) (hl : a.length + (lsB g l).length ≤ 700000000) :
    Calls Tryz.prog 67 #[.agg #[.pointer (some ⟨wb, 0, none⟩)], u, .func (.func 68) #[.agg #[.pointer (some ⟨wb, 0, none⟩)]] #[]] w fun ev w' => ev = .returned (.tuple #[]) ∧ ∃ v', Wr B w' wb v' (a ++ lsB g l) ∧ Mv w w' wb v v' := by
  obtain ⟨ao, cap, rfl, hA⟩ := hm
  have hL : (lsB g l).length = (enc l.length).length + ((l.map g).flatten).length := by unfold lsB; rw [List.length_append]
  have HA := hidS hA
  have hW := alloc_one w (.cells #[.pointer (some ⟨wb, 0, none⟩)] 75)
  have C : Hid (Calls Tryz.prog 113 #[.pointer (some ⟨wb, 0, none⟩), .int .u64 (l.length : Int)] (w.alloc (.cells #[.pointer (some ⟨wb, 0, none⟩)] 75)) fun ev w' => ev = .returned (.tuple #[]) ∧ ∃ v', Wr B w' wb v' (a ++ enc l.length) ∧ Mv w w' wb v v') := by
    refine (wUint_any B wb l.length v a _ (h.past hW) (by omega) (by omega)).mono ?_
    rintro _ w1 ⟨rfl, v', h1, h2⟩
    exact ⟨rfl, v', h1, (Mv.past hW _ _).trans h2⟩
  have HW : Hid (Wr B w wb v a) := h
  have kc : IntKind.u64.wrap (l.length : Int) = (l.length : Int) := by rw [IntKind.wrap_u64]; omega
  clear hA h hW
  go_enter Tryz.func67, Tryz.ntmps67
  go_wp2_with fail
  refine C.out.mono ?_
  rintro _ w1 ⟨rfl, v1, h1, m1⟩
  have H1 := hidS h1
  have M1 := hidS m1
  clear C h1 m1
  go_wp2_with fail
  go_loopw [16] (fun i wr => ∃ (k : Nat) (v2 : Value), k ≤ l.length ∧ i = .int .i64 k ∧ Wr B wr wb v2 (a ++ enc l.length ++ ((l.take k).map g).flatten) ∧ Mv w wr wb v v2) (fun i _ => l.length - (intOf i).toNat)
  case atStart => exact ⟨0, v1, by omega, rfl, by simpa using H1.out, M1.out⟩
  case round =>
    obtain ⟨k, v2, hk, rfl, h2, m2⟩ := hrel
    by_cases h3 : k < l.length
    · obtain ⟨b, o, e, cs, hcl, hone, hy⟩ := HA.out k h3
      subst e
      have hB := m2.below HW.out
      have hr := (hy wr hB).1
      have i1 : (k : Int) < (l.length : Int) := by omega
      have D : Hid (Calls Tryz.prog 68 #[.agg #[.pointer (some ⟨wb, 0, none⟩)], .agg cs.toArray] (wr.alloc (.cells cs.toArray 58)) fun ev w' => ev = .returned (.tuple #[]) ∧ ∃ v', Wr B w' wb v' ((a ++ enc l.length ++ ((l.take k).map g).flatten) ++ g l[k]) ∧ Mv wr w' wb v2 v') := hidS (by
        have hW2 := alloc_one wr (.cells cs.toArray 58)
        have hB2 : Below B w (wr.alloc (.cells cs.toArray 58)) := hB.trans (hW2.mono h2.lo)
        refine ((hy _ hB2).2 v2 _ (h2.past hW2) (by
          have := flat_at_le g l k h3
          simp only [List.length_append]; omega)).mono ?_
        rintro _ w3 ⟨rfl, v', q1, q2⟩
        exact ⟨rfl, v', q1, (Mv.past hW2 _ _).trans q2⟩)
      have HL := hidS (flat_snoc g l k h3)
      have M2 := hidS m2
      have hall : Hid (cs.toArray.all (·.oneCell') = true) := all_one hone
      have hi : Hid ((Tryz.prog.info? 58).map (·.size) = some cs.length) := hidS (by rw [hcl]; kernel_rfl)
      have hi' : Hid ((Tryz.prog.info? 58).map (·.size) = some cs.toArray.size) := hidS (by rw [List.size_toArray, hcl]; kernel_rfl)
      have hl' : Hid (5 = cs.toArray.size) := hidS (by rw [List.size_toArray, hcl])
      have hR := hidS hr
      clear HA H1 M1 h2 m2 hy hB hone hr hcl
      go_wp2_with (first | (refine wpList_load_mid rfl 58 (.tmp 18) rfl b (o + k * 5) rfl cs _ hR.out Tryz.underlying58 rfl hi.out ?_) | (refine store_new rfl 58 (.tmp 7) (.tmp 19) rfl cs.toArray _ 58 rfl rfl hi'.out hl'.out hall.out ?_) | (refine load_new rfl 58 (.tmp 7) rfl cs 58 _ rfl Tryz.underlying58 rfl hi.out ?_))
      refine D.out.mono ?_
      rintro _ w3 ⟨rfl, v3, h4, m4⟩
      go_wp2_with fail
      go_roundw
      case rel => exact ⟨k + 1, v3, by omega, by go_num, by rw [HL.out, ← List.append_assoc]; exact h4, M2.out.trans m4⟩
      case measure => simp [intOf]; omega
    · have i1 : ¬ (k : Int) < (l.length : Int) := by omega
      obtain rfl : k = l.length := by omega
      rw [List.take_length] at h2
      clear HA H1 M1
      have H2 := hidS h2
      have M2 := hidS m2
      clear h2 m2
      go_wp2_with fail
      go_end0
      exact ⟨rfl, v2, by unfold lsB; rw [← List.append_assoc]; exact H2.out, M2.out⟩

set_option maxHeartbeats 8000000 in
set_option maxRecDepth 20000 in
theorem putL69_70 {α : Type} (g : α → Bs) (B wb : Nat) {w : World} {u : Value} {l : List α} (hn : l.length ≤ 1000000)
    (hm : ∃ ao cap, u = .slice ao l.length cap ∧ ∀ i (h : i < l.length), ∃ b o, ao = some ⟨b, o, none⟩ ∧ ∃ cs : List Value, cs.length = 10 ∧ (∀ u ∈ cs, u.oneCell' = true) ∧ ∀ y, Below B w y → y.rangeAt b (o + i * 10) cs ∧ Wc B wb 70 cs y (g l[i]))
    (v : Value) (a : Bs) (h : Wr B w wb v a) (hl : a.length + (lsB g l).length ≤ 700000000) :
    Calls Tryz.prog 69 #[.agg #[.pointer (some ⟨wb, 0, none⟩)], u, .func (.func 70) #[.agg #[.pointer (some ⟨wb, 0, none⟩)]] #[]] w fun ev w' => ev = .returned (.tuple #[]) ∧ ∃ v', Wr B w' wb v' (a ++ lsB g l) ∧ Mv w w' wb v v' := by
  obtain ⟨ao, cap, rfl, hA⟩ := hm
  have hL : (lsB g l).length = (enc l.length).length + ((l.map g).flatten).length := by unfold lsB; rw [List.length_append]
  have HA := hidS hA
  have hW := alloc_one w (.cells #[.pointer (some ⟨wb, 0, none⟩)] 75)
  have C : Hid (Calls Tryz.prog 113 #[.pointer (some ⟨wb, 0, none⟩), .int .u64 (l.length : Int)] (w.alloc (.cells #[.pointer (some ⟨wb, 0, none⟩)] 75)) fun ev w' => ev = .returned (.tuple #[]) ∧ ∃ v', Wr B w' wb v' (a ++ enc l.length) ∧ Mv w w' wb v v') := by
    refine (wUint_any B wb l.length v a _ (h.past hW) (by omega) (by omega)).mono ?_
    rintro _ w1 ⟨rfl, v', h1, h2⟩
    exact ⟨rfl, v', h1, (Mv.past hW _ _).trans h2⟩
  have HW : Hid (Wr B w wb v a) := h
  have kc : IntKind.u64.wrap (l.length : Int) = (l.length : Int) := by rw [IntKind.wrap_u64]; omega
  clear hA h hW
  go_enter Tryz.func69, Tryz.ntmps69
  go_wp2_with fail
  refine C.out.mono ?_
  rintro _ w1 ⟨rfl, v1, h1, m1⟩
  have H1 := hidS h1
  have M1 := hidS m1
  clear C h1 m1
  go_wp2_with fail
  go_loopw [16] (fun i wr => ∃ (k : Nat) (v2 : Value), k ≤ l.length ∧ i = .int .i64 k ∧ Wr B wr wb v2 (a ++ enc l.length ++ ((l.take k).map g).flatten) ∧ Mv w wr wb v v2) (fun i _ => l.length - (intOf i).toNat)
  case atStart => exact ⟨0, v1, by omega, rfl, by simpa using H1.out, M1.out⟩
  case round =>
    obtain ⟨k, v2, hk, rfl, h2, m2⟩ := hrel
    by_cases h3 : k < l.length
    · obtain ⟨b, o, e, cs, hcl, hone, hy⟩ := HA.out k h3
      subst e
      have hB := m2.below HW.out
      have hr := (hy wr hB).1
      have i1 : (k : Int) < (l.length : Int) := by omega
      have D : Hid (Calls Tryz.prog 70 #[.agg #[.pointer (some ⟨wb, 0, none⟩)], .agg cs.toArray] (wr.alloc (.cells cs.toArray 65)) fun ev w' => ev = .returned (.tuple #[]) ∧ ∃ v', Wr B w' wb v' ((a ++ enc l.length ++ ((l.take k).map g).flatten) ++ g l[k]) ∧ Mv wr w' wb v2 v') := hidS (by
        have hW2 := alloc_one wr (.cells cs.toArray 65)
        have hB2 : Below B w (wr.alloc (.cells cs.toArray 65)) := hB.trans (hW2.mono h2.lo)
        refine ((hy _ hB2).2 v2 _ (h2.past hW2) (by
          have := flat_at_le g l k h3
          simp only [List.length_append]; omega)).mono ?_
        rintro _ w3 ⟨rfl, v', q1, q2⟩
        exact ⟨rfl, v', q1, (Mv.past hW2 _ _).trans q2⟩)
      have HL := hidS (flat_snoc g l k h3)
      have M2 := hidS m2
      have hall : Hid (cs.toArray.all (·.oneCell') = true) := all_one hone
      have hi : Hid ((Tryz.prog.info? 65).map (·.size) = some cs.length) := hidS (by rw [hcl]; kernel_rfl)
      have hi' : Hid ((Tryz.prog.info? 65).map (·.size) = some cs.toArray.size) := hidS (by rw [List.size_toArray, hcl]; kernel_rfl)
      have hl' : Hid (10 = cs.toArray.size) := hidS (by rw [List.size_toArray, hcl])
      have hR := hidS hr
      clear HA H1 M1 h2 m2 hy hB hone hr hcl
      go_wp2_with (first | (refine wpList_load_mid rfl 65 (.tmp 18) rfl b (o + k * 10) rfl cs _ hR.out Tryz.underlying65 rfl hi.out ?_) | (refine store_new rfl 65 (.tmp 7) (.tmp 19) rfl cs.toArray _ 65 rfl rfl hi'.out hl'.out hall.out ?_) | (refine load_new rfl 65 (.tmp 7) rfl cs 65 _ rfl Tryz.underlying65 rfl hi.out ?_))
      refine D.out.mono ?_
      rintro _ w3 ⟨rfl, v3, h4, m4⟩
      go_wp2_with fail
      go_roundw
      case rel => exact ⟨k + 1, v3, by omega, by go_num, by rw [HL.out, ← List.append_assoc]; exact h4, M2.out.trans m4⟩
      case measure => simp [intOf]; omega
    · have i1 : ¬ (k : Int) < (l.length : Int) := by omega
      obtain rfl : k = l.length := by omega
      rw [List.take_length] at h2
      clear HA H1 M1
      have H2 := hidS h2
      have M2 := hidS m2
      clear h2 m2
      go_wp2_with fail
      go_end0
      exact ⟨rfl, v2, by unfold lsB; rw [← List.append_assoc]; exact H2.out, M2.out⟩
end Go.Proofs.YtmopffaocamieaaGreat
