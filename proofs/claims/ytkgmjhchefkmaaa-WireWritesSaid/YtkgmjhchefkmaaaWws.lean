/-
  WireWrites answers true, whatever the things.
-/
import Derived.Test.YtkgmjhchefkmaaaLst
namespace Go.Proofs.Ytkgmjhchefkmaaa
open Go.RowKit

theorem own_pos {w : World} {B n : Nat} {v : Value} {xs : List Value} (h : w.ownsRow B 5 1 v n xs) (hn : 0 < n) : ∃ g cap, v = .slice (some ⟨g, 0, none⟩) n cap ∧ B ≤ g ∧ n ≤ cap ∧ cap ≤ maxLen := by
  rcases h.2 with ⟨_, h0⟩ | ⟨g, cap, cur, rfl, hb, _, hnc, hcm, _⟩
  · omega
  · exact ⟨g, cap, rfl, hb, hnc, hcm⟩

set_option maxHeartbeats 4000000 in
set_option maxRecDepth 20000 in
theorem writes_walk (v0 : Value) (n : Nat) (f : Nat → Opv) (w : World) (h : Ops w v0 n f) :
    Calls Try.prog 3 #[v0] w fun ev w' => ev = .returned (.bool true) ∧ Below w.heap.size w w' := by
  obtain ⟨ao, cap, rfl⟩ : ∃ ao cap, v0 = .slice ao n cap := by
    rcases h.shape with ⟨ao, cap, rfl, _⟩ | ⟨b, off, cap, rfl, _⟩
    · exact ⟨_, _, rfl⟩
    · exact ⟨_, _, rfl⟩
  have hmax := h.max
  have HO : Hid (∀ wr, Below w.heap.size w wr → ∀ k, k < n → ∃ b off, ao = some ⟨b, off, none⟩ ∧ wr.rangeAt b (off + k * 38) (f k).cells) := by
    intro wr hb k hk
    rcases (h.below hb).shape with ⟨_, c, _, h0⟩ | ⟨b, off, c, hv, hc⟩
    · omega
    · cases hv
      exact ⟨b, off, rfl, hc k hk⟩
  have HK : Hid (∀ i, i < n → (f i).ok ∧ (f i).s.size ≤ 9223372036854775807) := h.ok
  clear h
  obtain ⟨i0, hi0, hz0, hz1, hz2⟩ := info_parts Try.info5
  go_enter Try.func3, Try.ntmps3
  go_wp2_with fail
  refine (newWriter_any w).mono ?_
  rintro ev w1 ⟨rfl, hW1, hb1⟩
  go_wp2_with fail
  go_loopw [4, 5] (fun x i wr => ∃ k : Nat, k ≤ n ∧ k ≤ 30 ∧ i = .int .i64 k ∧ x = .string (str (msgs f k)) ∧ WRel w w.heap.size w.heap.size f k wr) (fun _ i _ => n - (intOf i).toNat)
  case atStart => exact ⟨0, by omega, by omega, rfl, rfl, ⟨fun i hi => by omega, ⟨_, hW1⟩, hb1⟩⟩
  case round =>
    obtain ⟨k, hk, hk30, rfl, rfl, hR⟩ := hrel
    clear hW1 hb1
    have A : Aside (WRel w w.heap.size w.heap.size f k wr) := hR
    clear hR
    by_cases hlt : k < n ∧ k < 30
    · obtain ⟨hkn, hk3⟩ := hlt
      obtain ⟨b, off, rfl, hrow⟩ := HO.out wr A.out.below k hkn
      have q5 := at_field wr b _ (f k) hrow 5 (.string (f k).s) rfl
      have hs63 := (HK.out k hkn).2
      have HRow : Hid (wr.rangeAt b (off + k * 38) (f k).cells) := hrow
      have hi := Try.sz29' (f k) (HK.out k hkn).1
      clear hrow
      by_cases hbig : 500 < (f k).s.size
      · go_wp2_with fail
        refine (tell_any wr).mono ?_
        rintro ev w2 ⟨rfl, hb2⟩
        have hB := A.out.below.trans (hb2.mono A.out.below.size)
        go_wp2_with fail
        go_ret
        exact ⟨rfl, hB⟩
      · have hml : (msgs f k).length ≤ k * 542 := msgs_le f k (fun i hi => ⟨(HK.out i (by omega)).1, A.out.few i hi⟩)
        have hm1 := (f k).msg_le (HK.out k hkn).1 (by omega)
        have hz : (str (msgs f k)).size ≤ 20000 := by rw [str_size]; omega
        have hz2 : (str (f k).msg).size ≤ 1000 := by rw [str_size]; omega
        have C1 : Calls Try.prog 12 #[.pointer (some ⟨w.heap.size, 0, none⟩), .agg (f k).cells.toArray] wr fun ev w' => ev = .returned (.string (str (f k).msg)) ∧ WRel w w.heap.size w.heap.size f (k + 1) w' := by
          obtain ⟨v1, hW⟩ := A.out.has
          refine (write_any w.heap.size w.heap.size (f k) v1 (msgs f k) wr (HK.out k hkn).1 (by omega) hW (by omega)).mono ?_
          rintro ev w' ⟨rfl, v', hW', hm⟩
          refine ⟨rfl, fun i hi => ?_, ⟨v', hW'⟩, A.out.below.trans (hm.below hW)⟩
          rcases Nat.lt_or_ge i k with h | h
          · exact A.out.few i h
          · obtain rfl : i = k := by omega
            omega
        have HS : Hid (str (msgs f (k + 1)) = str (msgs f k) ++ str (f k).msg) := by show _ = _; rw [str_app]; rfl
        clear A
        generalize hCC : (f k).cells = CC at *
        generalize str (f k).msg = S2 at *
        generalize hS1 : str (msgs f k) = S1 at *
        have hz3 : ¬ 9223372036854775807 < S1.size + S2.size := by omega
        go_wp2_with (refine wpList_load_mid rfl 29 _ rfl b (off + k * 38) rfl CC _ HRow.out Try.underlying29 rfl hi ?_)
        refine C1.mono ?_
        rintro ev w2 ⟨rfl, hR2⟩
        clear C1
        go_wp2_with fail
        go_roundw
        case rel => exact ⟨k + 1, by omega, by omega, by go_num, by rw [HS.out], hR2⟩
        case measure => simp [intOf]; omega
    · have hml : (msgs f k).length ≤ k * 542 := msgs_le f k (fun i hi => ⟨(HK.out i (by omega)).1, A.out.few i hi⟩)
      have hB1 := A.out.below
      obtain ⟨v1, hW⟩ := A.out.has
      have AW : Aside (Wr w.heap.size wr w.heap.size v1 (msgs f k)) := hW
      have C1 := wBytes_any _ _ _ _ _ hW (by omega)
      clear A hW
      generalize hL : msgs f k = L at *
      by_cases hkn : k < n
      · have hk3 : ¬ k < 30 := fun h => hlt ⟨hkn, h⟩
        clear hlt
        go_wp2_with fail
        refine C1.mono ?_
        rintro ev w2 ⟨v6, rfl, hown6, hb2⟩
        obtain ⟨ao6, cap6, rfl⟩ := own_shape hown6
        have kc := conv_sl w2 _ L (Sl.ofOwn hown6)
        have AW2 : Aside (Wr w.heap.size w2 w.heap.size v1 L) := AW.out.past hb2
        have hB2 := hB1.trans (hb2.mono hB1.size)
        have hs2 := hb2.size
        have hlo := AW.out.lo
        have hwlt : Hid (w.heap.size < wr.heap.size ∧ ∀ j, v1.ownBlock = some j → j < wr.heap.size) := ⟨AW.out.lt, fun j e => (AW.out.own.lt j e).2⟩
        clear C1 AW hB1
        go_wp2_with (at_builtin; refine wpList_append_own_at _ rfl _ _ 32 rfl wr.heap.size 5 i0 (.int .u8 0) 1 1 Try.underlying32 hi0 hz0 hz1 hz2 rfl (by decide) _ _ _ rfl (hown6.alloc _) ⟨w2.heap.size, 0, none⟩ 1 1 [.int .u8 7] rfl rfl (cell_one_new _ _ _) (by intro u hu; simp at hu; subst hu; rfl) (by unfold maxLen; omega) (by omega) (by simp; omega) ?_)
        intro v7 w3 hown7 hgrow _ _
        obtain ⟨g, cap7, rfl, hg, hcap⟩ := own_pos hown7 (by omega)
        have hb3 : Below wr.heap.size w2 w3 := ((Below.refl _ w2).alloc hs2 _).grown hgrow (by simp; omega) (fun j e => (hown6.lt j e).1)
        have AW3 : Aside (Wr w.heap.size w3 w.heap.size v1 L) := AW2.out.below hwlt.out.1 hwlt.out.2 hb3
        have hB3 := hB2.trans (hb3.mono hlo)
        have hcap' : L.length ≤ cap7 := by omega
        unfold maxLen at hcap
        have AO : Aside (w3.ownsRow wr.heap.size 5 1 (.slice (some ⟨g, 0, none⟩) (L.length + 1) cap7) (L.length + 1) (bys L ++ [.int .u8 7])) := hown7
        clear hown7 hgrow hown6 AW2 hB2 kc hb2 hb3
        generalize wr.heap.size = D at *
        go_wp2_with fail
        go_loopw [7] (fun i ws => ∃ j : Nat, j ≤ L.length ∧ i = .int .i64 j ∧ (∃ xs, ws.ownsRow D 5 1 (.slice (some ⟨g, 0, none⟩) (L.length + 1) cap7) (L.length + 1) xs) ∧ Below D w3 ws) (fun i _ => L.length - (intOf i).toNat)
        case atStart => exact ⟨0, by omega, rfl, ⟨_, AO.out⟩, Below.refl _ _⟩
        case round =>
          obtain ⟨j, hj, rfl, ⟨xs, hown⟩, hbj⟩ := hrel
          by_cases hjl : j < L.length
          · have hxl : xs.length = L.length + 1 := by have := hown.1; omega
            have q1 := hown.cellAt j (by omega)
            rw [List.getElem?_eq_getElem (by omega)] at q1
            have q2 := hown.frozenAt j
            have R := hown.stored j (.int .u8 99)
            have R2 : Below D w3 (wr.setCell ⟨g, j, none⟩ (.int .u8 99)) := hbj.setCell (p := ⟨g, j, none⟩) hg _
            have AR : Aside ((∃ xs, (wr.setCell ⟨g, j, none⟩ (.int .u8 99)).ownsRow D 5 1 (.slice (some ⟨g, 0, none⟩) (L.length + 1) cap7) (L.length + 1) xs) ∧ Below D w3 (wr.setCell ⟨g, j, none⟩ (.int .u8 99))) := ⟨⟨_, R.1⟩, R2⟩
            clear hown hbj R R2
            generalize xs[j] = y at q1
            go_wp2_with fail
            go_roundw
            case rel => exact ⟨j + 1, by omega, by go_num, AR.out.1, AR.out.2⟩
            case measure => simp [intOf]; omega
          · clear hown
            have AW4 : Aside (Wr w.heap.size wr w.heap.size v1 L) := AW3.out.below hwlt.out.1 hwlt.out.2 hbj
            have hB4 := hB3.trans (hbj.mono hlo)
            clear AW3 hB3 AO hbj
            go_wp2_with fail
            refine (tell_any wr).mono ?_
            rintro ev w5 ⟨rfl, hb5⟩
            have C6 := wBytes_any _ _ _ _ _ (AW4.out.past hb5) (by omega)
            have hB5 := hB4.trans (hb5.mono hB4.size)
            clear AW4 hB4 hb5
            go_wp2_with fail
            refine C6.mono ?_
            rintro ev w6 ⟨v8, rfl, hown8, hb6⟩
            obtain ⟨ao8, cap8, rfl⟩ := own_shape hown8
            have kc := conv_sl w6 _ L (Sl.ofOwn hown8)
            have hB6 := hB5.trans (hb6.mono hB5.size)
            clear hown8 hb6 hB5 C6
            go_wp2_with fail
            go_ret
            exact ⟨rfl, hB6⟩
      · clear hlt
        go_wp2_with fail
        refine C1.mono ?_
        rintro ev w2 ⟨v6, rfl, hown6, hb2⟩
        obtain ⟨ao6, cap6, rfl⟩ := own_shape hown6
        have kc := conv_sl w2 _ L (Sl.ofOwn hown6)
        have AW2 : Aside (Wr w.heap.size w2 w.heap.size v1 L) := AW.out.past hb2
        have hB2 := hB1.trans (hb2.mono hB1.size)
        have hs2 := hb2.size
        have hlo := AW.out.lo
        have hwlt : Hid (w.heap.size < wr.heap.size ∧ ∀ j, v1.ownBlock = some j → j < wr.heap.size) := ⟨AW.out.lt, fun j e => (AW.out.own.lt j e).2⟩
        clear C1 AW hB1
        go_wp2_with (at_builtin; refine wpList_append_own_at _ rfl _ _ 32 rfl wr.heap.size 5 i0 (.int .u8 0) 1 1 Try.underlying32 hi0 hz0 hz1 hz2 rfl (by decide) _ _ _ rfl (hown6.alloc _) ⟨w2.heap.size, 0, none⟩ 1 1 [.int .u8 7] rfl rfl (cell_one_new _ _ _) (by intro u hu; simp at hu; subst hu; rfl) (by unfold maxLen; omega) (by omega) (by simp; omega) ?_)
        intro v7 w3 hown7 hgrow _ _
        obtain ⟨g, cap7, rfl, hg, hcap⟩ := own_pos hown7 (by omega)
        have hb3 : Below wr.heap.size w2 w3 := ((Below.refl _ w2).alloc hs2 _).grown hgrow (by simp; omega) (fun j e => (hown6.lt j e).1)
        have AW3 : Aside (Wr w.heap.size w3 w.heap.size v1 L) := AW2.out.below hwlt.out.1 hwlt.out.2 hb3
        have hB3 := hB2.trans (hb3.mono hlo)
        have hcap' : L.length ≤ cap7 := by omega
        unfold maxLen at hcap
        have AO : Aside (w3.ownsRow wr.heap.size 5 1 (.slice (some ⟨g, 0, none⟩) (L.length + 1) cap7) (L.length + 1) (bys L ++ [.int .u8 7])) := hown7
        clear hown7 hgrow hown6 AW2 hB2 kc hb2 hb3
        generalize wr.heap.size = D at *
        go_wp2_with fail
        go_loopw [7] (fun i ws => ∃ j : Nat, j ≤ L.length ∧ i = .int .i64 j ∧ (∃ xs, ws.ownsRow D 5 1 (.slice (some ⟨g, 0, none⟩) (L.length + 1) cap7) (L.length + 1) xs) ∧ Below D w3 ws) (fun i _ => L.length - (intOf i).toNat)
        case atStart => exact ⟨0, by omega, rfl, ⟨_, AO.out⟩, Below.refl _ _⟩
        case round =>
          obtain ⟨j, hj, rfl, ⟨xs, hown⟩, hbj⟩ := hrel
          by_cases hjl : j < L.length
          · have hxl : xs.length = L.length + 1 := by have := hown.1; omega
            have q1 := hown.cellAt j (by omega)
            rw [List.getElem?_eq_getElem (by omega)] at q1
            have q2 := hown.frozenAt j
            have R := hown.stored j (.int .u8 99)
            have R2 : Below D w3 (wr.setCell ⟨g, j, none⟩ (.int .u8 99)) := hbj.setCell (p := ⟨g, j, none⟩) hg _
            have AR : Aside ((∃ xs, (wr.setCell ⟨g, j, none⟩ (.int .u8 99)).ownsRow D 5 1 (.slice (some ⟨g, 0, none⟩) (L.length + 1) cap7) (L.length + 1) xs) ∧ Below D w3 (wr.setCell ⟨g, j, none⟩ (.int .u8 99))) := ⟨⟨_, R.1⟩, R2⟩
            clear hown hbj R R2
            generalize xs[j] = y at q1
            go_wp2_with fail
            go_roundw
            case rel => exact ⟨j + 1, by omega, by go_num, AR.out.1, AR.out.2⟩
            case measure => simp [intOf]; omega
          · clear hown
            have AW4 : Aside (Wr w.heap.size wr w.heap.size v1 L) := AW3.out.below hwlt.out.1 hwlt.out.2 hbj
            have hB4 := hB3.trans (hbj.mono hlo)
            clear AW3 hB3 AO hbj
            go_wp2_with fail
            refine (tell_any wr).mono ?_
            rintro ev w5 ⟨rfl, hb5⟩
            have C6 := wBytes_any _ _ _ _ _ (AW4.out.past hb5) (by omega)
            have hB5 := hB4.trans (hb5.mono hB4.size)
            clear AW4 hB4 hb5
            go_wp2_with fail
            refine C6.mono ?_
            rintro ev w6 ⟨v8, rfl, hown8, hb6⟩
            obtain ⟨ao8, cap8, rfl⟩ := own_shape hown8
            have kc := conv_sl w6 _ L (Sl.ofOwn hown8)
            have hB6 := hB5.trans (hb6.mono hB5.size)
            clear hown8 hb6 hB5 C6
            go_wp2_with fail
            go_ret
            exact ⟨rfl, hB6⟩
end Go.Proofs.Ytkgmjhchefkmaaa
