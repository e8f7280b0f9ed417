/-
  WireOnce answers true, whatever the bytes and the readings.
-/
import Derived.Test.YtkgmjhchefkmaaaFns
import Derived.Deep.RegionHeld
import Derived.Deep.DrawnRows
namespace Go.Proofs.Ytkgmjhchefkmaaa
open Go.RowKit

set_option maxHeartbeats 1000000 in
theorem clone_empty (w : World) (a : Addr) (cap : Nat) :
    Calls Try.prog 36 #[.slice (some a) 0 cap] w fun ev w' => ∃ v, ev = .returned v ∧ w'.ownsRow w.heap.size 5 1 v ([] : List UInt8).length (bys []) ∧ Below w.heap.size w w' := by
  obtain ⟨i0, hi, hz0, hz1, hz2⟩ := info_parts Try.info5
  have hA : Below w.heap.size w (w.alloc (.cells #[] 5)) := (Below.refl _ _).alloc (Nat.le_refl _) _
  have hm : (w.alloc (.cells #[] 5)).ownsRow w.heap.size 5 1 (.slice (some ⟨w.heap.size, 0, none⟩) 0 0) 0 [] := World.ownsRow_made w #[] 0 (Nat.le_refl _) (by decide) rfl
  have kq := Try.eqNil32
  go_enter Try.func36, Try.ntmps36
  go_wp2_with (at_builtin; refine wpList_append_own_at _ rfl _ _ 32 rfl w.heap.size 5 i0 (.int .u8 0) 1 1 Try.underlying32 hi hz0 hz1 hz2 rfl (by decide) _ _ _ rfl hm a 0 cap [] rfl rfl (by intro j u hj; simp at hj) (by intro u hu; cases hu) (by unfold maxLen; omega) (by omega) (by simp) ?_)
  intro v' w1 hown' hgrow _ _
  obtain ⟨ao', cap', rfl⟩ := own_shape hown'
  have R : Below w.heap.size w w1 := hA.grown hgrow (by simp) (fun k e => by simp [Value.ownBlock] at e; omega)
  clear hgrow hm hA
  go_wp2
  go_ret
  exact ⟨_, rfl, hown', R⟩

theorem clone_by (w : World) (v : Value) (l : List UInt8) (h : By w v l) (hl : l.length ≤ 1099511627776) :
    Calls Try.prog 36 #[v] w fun ev w' => ∃ v', ev = .returned v' ∧ w'.ownsRow w.heap.size 5 1 v' l.length (bys l) ∧ Below w.heap.size w w' := by
  rcases h.shape with ⟨ao, cap, rfl, rfl, h0⟩ | ⟨b, o, cap, rfl, _, _, hc⟩
  · cases ao with
    | none =>
      obtain rfl := h0 rfl
      refine (sl_nil_clone w).mono ?_
      rintro ev w' ⟨rfl, rfl⟩
      exact ⟨_, rfl, World.ownsRow_nil _ _ _ _, Below.refl _ _⟩
    | some a => exact clone_empty w a cap
  · exact sl_clone w b o cap l hc hl

set_option maxHeartbeats 1000000 in
theorem newReader_by (w : World) (v : Value) (l : List UInt8) (h : By w v l) (hl : l.length ≤ 1099511627776) :
    Calls Try.prog 14 #[v] w fun ev w' => ∃ rb v', ev = .returned (.pointer (some ⟨rb, 0, none⟩)) ∧ Rd w' rb v' l 0 ∧ w.heap.size ≤ rb ∧ (∀ k, v'.ownBlock = some k → w.heap.size ≤ k) ∧ Below w.heap.size w w' := by
  have C := clone_by w v l h hl
  obtain ⟨ao, n, cap, rfl⟩ : ∃ ao n cap, v = .slice ao n cap := by
    rcases h.shape with ⟨ao, cap, rfl, _⟩ | ⟨b, o, cap, rfl, _⟩
    · exact ⟨_, _, _, rfl⟩
    · exact ⟨_, _, _, rfl⟩
  clear h
  go_enter Try.func14, Try.ntmps14
  go_wp2_with fail
  refine C.mono ?_
  rintro ev w1 ⟨v', rfl, hown, hb⟩
  clear C
  obtain ⟨ao', cap', rfl⟩ := own_shape hown
  have hs := hb.size
  have hk := fun k e => (hown.lt k e)
  have A : Aside (w1.ownsRow w.heap.size 5 1 (.slice ao' l.length cap') l.length (bys l)) := hown
  clear hown
  go_wp2_with fail
  go_ret
  refine ⟨w1.heap.size, .slice ao' l.length cap', rfl, ⟨?_, ?_, ?_, own_lower (A.out.alloc _) (Nat.zero_le _), ?_, Nat.zero_le _, hl⟩, hs, fun k e => (hk k e).1, hb.alloc hs _⟩
  · simp
  · simp
  · simp
  · intro e; have := (hk _ e).2; omega

/-- A Writer is not touched by a reading. -/
theorem Wr.grown {B : Nat} {w w' : World} {wb rb : Nat} {v : Value} {l : List UInt8} (h : Wr B w wb v l) (hg : w.grownBy w' (some rb)) (hr : rb < B) : Wr B w' wb v l :=
  h.same (hg.block wb h.lt (by intro e; cases e; have := h.base; omega)) (fun k e => hg.block k (h.own.lt k e).2 (by intro e'; cases e'; have := (h.own.lt _ e).1; omega))

/-- Where the loop stands. -/
structure ORel (w : World) (rb : Nat) (v5 : Value) (l : List UInt8) (p : Nat) (ws : World) : Prop where
  rd : Rd ws rb v5 l p
  lo : w.heap.size ≤ rb
  below : Below w.heap.size w ws
theorem ORel.past {w ws ws' : World} {rb p : Nat} {v5 : Value} {l : List UInt8} (h : ORel w rb v5 l p ws) (hb : Below ws.heap.size ws ws') : ORel w rb v5 l p ws' := ⟨h.rd.past hb, h.lo, h.below.trans (hb.mono h.below.size)⟩
theorem ORel.under {w ws1 ws' : World} {rb p : Nat} {v5 : Value} {l : List UInt8} {B : Nat} (h : ORel w rb v5 l p ws1) (hb : Below B ws1 ws') (h1 : rb < B) (h2 : ∀ k, v5.ownBlock = some k → k < B) (h3 : w.heap.size ≤ B) : ORel w rb v5 l p ws' := ⟨h.rd.below h1 h2 hb, h.lo, h.below.trans (hb.mono h3)⟩
theorem ORel.read {w ws ws' : World} {rb p q c : Nat} {v5 e : Value} {l : List UInt8} (h : ORel w rb v5 l p ws) (hO : Out ws ws' rb v5 l p q c e) : ORel w rb v5 l q ws' :=
  ⟨hO.rd, h.lo, h.below.trans (below_grown hO.grown h.below.size (fun k e => by cases e; exact h.lo))⟩

/-- The Writer's bytes, and those of the slice that came in, as one string. -/
theorem bytes_both {w w5 : World} {B wb p q bb bof bcap : Nat} {v : Value} {l m : List UInt8} (hW : Wr B w5 wb v m) (hm : m = (l.drop p).take (q - p)) (hpq : p < q) (hql : q ≤ l.length) (hml : m.length ≤ 100000)
    (hB : Below w.heap.size w w5) (hc : ∀ i, i < l.length → w.cell? ⟨bb, bof + i, none⟩ = some (.int .u8 ((l.getD i 0).toNat : Int))) :
    ∀ x, Below w5.heap.size w5 x → Calls Try.prog 13 #[.pointer (some ⟨wb, 0, none⟩)] x fun ev w' => ∃ ao7 cap7, ev = .returned (.slice ao7 (q - p) cap7) ∧ (convert 32 9 (.slice ao7 (q - p) cap7)).run Try.prog w' = .ok (.string (str m)) w' ∧ (convert 32 9 (.slice (some ⟨bb, bof + p, none⟩) (q - p) (bcap - p))).run Try.prog w' = .ok (.string (str m)) w' ∧ Below w5.heap.size w5 w' := by
  intro x hx
  have hlen : m.length = q - p := by rw [hm]; simp; omega
  refine (wBytes_any B wb v m x (hW.past hx) (by omega)).mono ?_
  rintro ev w' ⟨v', rfl, hown, hb⟩
  obtain ⟨ao, cap, rfl⟩ := own_shape hown
  have hx' := hx.trans (hb.mono hx.size)
  have hBw := hB.trans (hx'.mono hB.size)
  refine ⟨ao, cap, by rw [hlen], ?_, ?_, hx'⟩
  · have := conv_sl w' _ m (Sl.ofOwn hown)
    rwa [hlen] at this
  · refine conv_sl w' _ m ⟨.inr ⟨bb, bof + p, bcap - p, by rw [hlen], fun i hi => ?_⟩⟩
    have h1 := hc (p + i) (by omega)
    rw [Nat.add_assoc, hBw.cell (p := ⟨bb, bof + (p + i), none⟩) (World.block_lt_of_cell? w _ h1), h1, hm]
    have hiq : i < q - p := by omega
    simp [List.getD, List.getElem?_drop, hiq]

attribute [local go_sem ↓] Go.wp_at_zero Go.wp_at_succ
set_option maxHeartbeats 8000000 in
set_option maxRecDepth 20000 in
theorem once_walk (vb v0 : Value) (l : List UInt8) (n : Nat) (f : Nat → Opv) (w : World) (hb : By w vb l) (h : Ops w v0 n f) (hl63 : l.length ≤ 9223372036854775807) :
    Calls Try.prog 6 #[vb, v0] w fun ev w' => ev = .returned (.bool true) ∧ Below w.heap.size w w' := by
  obtain ⟨ao, cap, rfl⟩ : ∃ ao cap, v0 = .slice ao n cap := by
    rcases h.shape with ⟨ao, cap, rfl, _⟩ | ⟨b, off, cap, rfl, _⟩
    · exact ⟨_, _, rfl⟩
    · exact ⟨_, _, rfl⟩
  have hmax := h.max
  have HO : Hid (∀ wr, Below w.heap.size w wr → ∀ k, k < n → ∃ b off, ao = some ⟨b, off, none⟩ ∧ wr.rangeAt b (off + k * 38) (f k).cells) := by
    intro wr hb k hk
    rcases (h.below hb).shape with ⟨_, c, _, h0⟩ | ⟨b, off, c, hv, hc⟩
    · omega
    · cases hv
      exact ⟨b, off, rfl, hc k hk⟩
  have HK : Hid (∀ i, i < n → (f i).ok ∧ (f i).s.size ≤ 9223372036854775807) := h.ok
  clear h
  obtain ⟨bo, bcap, rfl, hbc⟩ : ∃ bo bcap, vb = .slice bo l.length bcap ∧ (0 < l.length → ∃ bb bof, bo = some ⟨bb, bof, none⟩ ∧ l.length ≤ bcap ∧ bcap ≤ 9223372036854775807 ∧ ∀ i, i < l.length → w.cell? ⟨bb, bof + i, none⟩ = some (.int .u8 ((l.getD i 0).toNat : Int))) := by
    rcases hb.shape with ⟨bo, cap, rfl, rfl, _⟩ | ⟨b, o, cap, rfl, h1, h2, hc⟩
    · exact ⟨bo, cap, rfl, fun h => absurd h (by simp)⟩
    · exact ⟨_, cap, rfl, fun _ => ⟨b, o, rfl, h1, h2, hc⟩⟩
  have HBC : Hid (0 < l.length → ∃ bb bof, bo = some ⟨bb, bof, none⟩ ∧ l.length ≤ bcap ∧ bcap ≤ 9223372036854775807 ∧ ∀ i, i < l.length → w.cell? ⟨bb, bof + i, none⟩ = some (.int .u8 ((l.getD i 0).toNat : Int))) := hbc
  clear hbc
  by_cases hbig : 2000 < l.length
  · clear hb HBC HO HK
    go_enter Try.func6, Try.ntmps6
    go_wp2_with fail
    refine (tell_any w).mono ?_
    rintro ev w2 ⟨rfl, hb2⟩
    go_wp2_with fail
    go_ret
    exact ⟨rfl, hb2⟩
  · have C1 := newReader_by w _ l hb (by omega)
    clear hb
    go_enter Try.func6, Try.ntmps6
    go_wp2_with fail
    refine C1.mono ?_
    rintro ev w1 ⟨rb, v5, rfl, hR1, hrb, -, hb1⟩
    have AB : Aside (ORel w rb v5 l 0 w1) := ⟨hR1, hrb, hb1⟩
    clear C1 hR1 hb1 hrb
    go_wp2_with fail
    go_loopw [6] (fun i wr => ∃ k p : Nat, k ≤ n ∧ i = .int .i64 k ∧ ORel w rb v5 l p wr) (fun i _ => n - (intOf i).toNat)
    case atStart => exact ⟨0, 0, by omega, rfl, AB.out⟩
    case round =>
      obtain ⟨k, p, hk, rfl, hOR⟩ := hrel
      clear AB
      by_cases hlt : k < n ∧ k < 30
      · obtain ⟨hkn, hk3⟩ := hlt
        obtain ⟨b, off, rfl, hrow⟩ := HO.out wr hOR.below k hkn
        have q0 := at_field wr b _ (f k) hrow 0 (.int .i64 (f k).kind) rfl
        have HA : Hid (∀ w', Below wr.heap.size wr w' → w'.cell? ⟨b, off + k * 38 + 0, none⟩ = some (.int .i64 (f k).kind)) := fun w' hb' => by
          rw [hb'.cell (p := ⟨b, off + k * 38 + 0, none⟩) (World.block_lt_of_cell? wr _ q0)]; exact q0
        clear q0
        simp only [Nat.add_zero] at HA
        have C2 := at_any wr rb v5 l p hOR.rd
        have hp := hOR.rd.le
        have hrl := hOR.rd.lt
        have hol := fun j e => (hOR.rd.own.lt j e).2
        have hwl := hOR.below.size
        have AO : Aside (ORel w rb v5 l p wr) := hOR
        obtain ⟨t, e1, e2, e3, e4⟩ := (f k).rem
        have hsl := (f k).sort_lt
        have HJ : Hid (((f k).sort = 0 ∨ (f k).sort = 2) ∨ (f k).sort = 1 ∨ (f k).sort = 3 ∨ (f k).sort = 4 ∨ (f k).sort = 5) := by show _ ∨ _; omega
        clear hOR hrow
        go_wp2_with fail
        refine C2.mono ?_
        rintro ev w2 ⟨rfl, rfl⟩
        clear C2
        go_wp2_with fail
        refine (newWriter_any w2).mono ?_
        rintro ev w3 ⟨rfl, hW3, hb3⟩
        have c0 := HA.out w3 hb3
        have AO3 : Aside (ORel w rb v5 l p w3) := AO.out.past hb3
        have AW3 : Aside (Wr w2.heap.size w3 w2.heap.size (.slice none 0 0) []) := hW3
        clear AO hW3
        rcases HJ.out with hs0 | hs0 | hs0 | hs0 | hs0
        · have hF := fin_uint l p hp
          have C3 := rUint_any w3 rb v5 l p AO3.out.rd
          have hV : (scan 0 0 (l.drop p)).1 < 18446744073709551616 := (scan_lt (l := l.drop p) rfl).1
          obtain ⟨q, hq⟩ : ∃ q, q = p + (scan 0 0 (l.drop p)).2.1 := ⟨_, rfl⟩
          obtain ⟨c, hcc⟩ : ∃ c, c = (scan 0 0 (l.drop p)).2.2 := ⟨_, rfl⟩
          rw [← hq, ← hcc] at hF C3
          clear hq hcc
          generalize (scan 0 0 (l.drop p)).1 = V at *
          obtain ⟨M, hM⟩ : ∃ M, M = enc V := ⟨_, rfl⟩
          have HM : Hid (enc V = M) := hM.symm
          rw [← hM] at hF
          clear hM
          have HC4 : Hid (∀ w4 e, Out w3 w4 rb v5 l p q c e → ∀ w4', Below w4.heap.size w4 w4' → Calls Try.prog 25 #[.pointer (some ⟨w2.heap.size, 0, none⟩), .int .u64 (V : Int)] w4' fun ev w5 => ev = .returned (.tuple #[]) ∧ (∃ v', Wr w2.heap.size w5 w2.heap.size v' M) ∧ ORel w rb v5 l q w5) := by
            intro w4 e hOut w4' hb4
            have hW4 := (AW3.out.grown hOut.grown hrl).past hb4
            have C := wUint_any _ _ V _ [] w4' hW4 hV (by simp)
            rw [List.nil_append] at C
            refine C.mono ?_
            rintro ev w5 ⟨rfl, v', hW5, hm⟩
            exact ⟨rfl, ⟨v', HM.out ▸ hW5⟩, ((AO3.out.read hOut).past hb4).under (hm.below hW4) hrl hol hwl⟩
          have k5 : (t + 6) % 6 = 0 ∨ (t + 6) % 6 = 2 := by omega
          clear hs0 hV HM
          rcases k5 with k5 | k5
          all_goals
            go_wp2_with fail
            refine C3.mono ?_
            rintro ev w4 ⟨e, rfl, hOut⟩
            have C4 := HC4.out w4 e hOut
            rcases hOut.err with ⟨hc, rfl⟩ | ⟨hc, hE⟩
            · have hT := hF.took hc
              have hF3 := hF.short
              clear hF hOut C3 HC4
              go_wp2_with fail
              refine (C4 w4 (Below.refl _ _)).mono ?_
              rintro ev w5 ⟨rfl, ⟨v', hW5⟩, hO5⟩
              obtain ⟨hpq, hql, hmm⟩ := hT
              obtain ⟨bb, bof, rfl, hbcap, hbc63, hbcell⟩ := HBC.out (by omega)
              have HAT : Hid (∀ x, Below w5.heap.size w5 x → Calls Try.prog 24 #[.pointer (some ⟨rb, 0, none⟩)] x fun ev w' => ev = .returned (.int .i64 (q : Int)) ∧ w' = x) := fun x hx => at_any x rb v5 l q (hO5.past hx).rd
              have HBY : Hid (∀ x, Below w5.heap.size w5 x → Calls Try.prog 13 #[.pointer (some ⟨w2.heap.size, 0, none⟩)] x fun ev w' => ∃ ao7 cap7, ev = .returned (.slice ao7 (q - p) cap7) ∧ (convert 32 9 (.slice ao7 (q - p) cap7)).run Try.prog w' = .ok (.string (str M)) w' ∧ (convert 32 9 (.slice (some ⟨bb, bof + p, none⟩) (q - p) (bcap - p))).run Try.prog w' = .ok (.string (str M)) w' ∧ Below w5.heap.size w5 w') := bytes_both hW5 hmm hpq hql hF3 hO5.below hbcell
              have hbp : ¬ bcap = p := by omega
              have hn1 : ¬ q < p := by omega
              have hn2 : ¬ l.length < q := by omega
              have hn3 : decide (q < p) = false := by simp; omega
              have hn4 : decide (l.length < q) = false := by simp; omega
              clear hW5 hmm hbcell C4 hF3
              go_wp2_with fail
              go_region_held (fun x => Below w5.heap.size w5 x) (first
                | assumption
                | exact (Below.refl _ _).drew)
                (first
                | (go_at_call 24; refine (HAT.out _ (by assumption)).mono ?_; rintro ev w6 ⟨rfl, rfl⟩)
                | (go_at_call 13; refine (HBY.out _ (by assumption)).mono ?_; rintro ev w6 ⟨ao7, cap7, rfl, kc7, kd7, hB7⟩))
              all_goals
                have hO6 := hO5.past hB7
                clear hB7 hO5 kc7 kd7 HAT HBY
                go_wp2_with fail
                go_roundw
                case rel => exact ⟨k + 1, q, by omega, by go_num, hO6⟩
                case measure => simp [intOf]; omega
            · obtain ⟨b0, rfl, -⟩ := hE.shape
              clear hE hOut C3 HC4
              go_wp2_with fail
              refine (C4 w4 (Below.refl _ _)).mono ?_
              rintro ev w5 ⟨rfl, ⟨v', hW5⟩, hO5⟩
              obtain rfl := hF.left hc
              have C6 := at_any w5 rb v5 l _ hO5.rd
              clear hF C4 hW5
              go_wp2_with fail
              refine C6.mono ?_
              rintro ev w6 ⟨rfl, rfl⟩
              clear C6
              go_wp2_with fail
              go_roundw
              case rel => exact ⟨k + 1, _, by omega, by go_num, hO5⟩
              case measure => simp [intOf]; omega
        · have hF := fin_int l p hp
          have C3 := rInt_any w3 rb v5 l p AO3.out.rd
          have hV := zag_in (scan_lt (l := l.drop p) rfl).1
          obtain ⟨q, hq⟩ : ∃ q, q = p + (scan 0 0 (l.drop p)).2.1 := ⟨_, rfl⟩
          obtain ⟨c, hcc⟩ : ∃ c, c = (scan 0 0 (l.drop p)).2.2 := ⟨_, rfl⟩
          rw [← hq, ← hcc] at hF C3
          clear hq hcc
          generalize zag (scan 0 0 (l.drop p)).1 = V at *
          obtain ⟨M, hM⟩ : ∃ M, M = enc (zig V) := ⟨_, rfl⟩
          have HM : Hid (enc (zig V) = M) := hM.symm
          rw [← hM] at hF
          clear hM
          have HC4 : Hid (∀ w4 e, Out w3 w4 rb v5 l p q c e → ∀ w4', Below w4.heap.size w4 w4' → Calls Try.prog 26 #[.pointer (some ⟨w2.heap.size, 0, none⟩), .int .i64 V] w4' fun ev w5 => ev = .returned (.tuple #[]) ∧ (∃ v', Wr w2.heap.size w5 w2.heap.size v' M) ∧ ORel w rb v5 l q w5) := by
            intro w4 e hOut w4' hb4
            have hW4 := (AW3.out.grown hOut.grown hrl).past hb4
            have C := wInt_any _ _ V _ [] w4' hW4 hV.1 hV.2 (by simp)
            rw [List.nil_append] at C
            refine C.mono ?_
            rintro ev w5 ⟨rfl, v', hW5, hm⟩
            exact ⟨rfl, ⟨v', HM.out ▸ hW5⟩, ((AO3.out.read hOut).past hb4).under (hm.below hW4) hrl hol hwl⟩
          have k5 : (t + 6) % 6 = 1 := by omega
          clear hs0 hV HM
          go_wp2_with fail
          refine C3.mono ?_
          rintro ev w4 ⟨e, rfl, hOut⟩
          have C4 := HC4.out w4 e hOut
          rcases hOut.err with ⟨hc, rfl⟩ | ⟨hc, hE⟩
          · have hT := hF.took hc
            have hF3 := hF.short
            clear hF hOut C3 HC4
            go_wp2_with fail
            refine (C4 w4 (Below.refl _ _)).mono ?_
            rintro ev w5 ⟨rfl, ⟨v', hW5⟩, hO5⟩
            obtain ⟨hpq, hql, hmm⟩ := hT
            obtain ⟨bb, bof, rfl, hbcap, hbc63, hbcell⟩ := HBC.out (by omega)
            have HAT : Hid (∀ x, Below w5.heap.size w5 x → Calls Try.prog 24 #[.pointer (some ⟨rb, 0, none⟩)] x fun ev w' => ev = .returned (.int .i64 (q : Int)) ∧ w' = x) := fun x hx => at_any x rb v5 l q (hO5.past hx).rd
            have HBY : Hid (∀ x, Below w5.heap.size w5 x → Calls Try.prog 13 #[.pointer (some ⟨w2.heap.size, 0, none⟩)] x fun ev w' => ∃ ao7 cap7, ev = .returned (.slice ao7 (q - p) cap7) ∧ (convert 32 9 (.slice ao7 (q - p) cap7)).run Try.prog w' = .ok (.string (str M)) w' ∧ (convert 32 9 (.slice (some ⟨bb, bof + p, none⟩) (q - p) (bcap - p))).run Try.prog w' = .ok (.string (str M)) w' ∧ Below w5.heap.size w5 w') := bytes_both hW5 hmm hpq hql hF3 hO5.below hbcell
            have hbp : ¬ bcap = p := by omega
            have hn1 : ¬ q < p := by omega
            have hn2 : ¬ l.length < q := by omega
            have hn3 : decide (q < p) = false := by simp; omega
            have hn4 : decide (l.length < q) = false := by simp; omega
            clear hW5 hmm hbcell C4 hF3
            go_wp2_with fail
            go_region_held (fun x => Below w5.heap.size w5 x) (first
              | assumption
              | exact (Below.refl _ _).drew)
              (first
              | (go_at_call 24; refine (HAT.out _ (by assumption)).mono ?_; rintro ev w6 ⟨rfl, rfl⟩)
              | (go_at_call 13; refine (HBY.out _ (by assumption)).mono ?_; rintro ev w6 ⟨ao7, cap7, rfl, kc7, kd7, hB7⟩))
            all_goals
              have hO6 := hO5.past hB7
              clear hB7 hO5 kc7 kd7 HAT HBY
              go_wp2_with fail
              go_roundw
              case rel => exact ⟨k + 1, q, by omega, by go_num, hO6⟩
              case measure => simp [intOf]; omega
          · obtain ⟨b0, rfl, -⟩ := hE.shape
            clear hE hOut C3 HC4
            go_wp2_with fail
            refine (C4 w4 (Below.refl _ _)).mono ?_
            rintro ev w5 ⟨rfl, ⟨v', hW5⟩, hO5⟩
            obtain rfl := hF.left hc
            have C6 := at_any w5 rb v5 l _ hO5.rd
            clear hF C4 hW5
            go_wp2_with fail
            refine C6.mono ?_
            rintro ev w6 ⟨rfl, rfl⟩
            clear C6
            go_wp2_with fail
            go_roundw
            case rel => exact ⟨k + 1, _, by omega, by go_num, hO5⟩
            case measure => simp [intOf]; omega
        · have hF := fin_bool l p
          have C3 := rBool_any w3 rb v5 l p AO3.out.rd
          obtain ⟨q, hq⟩ : ∃ q, q = (rbool l p).2.1 := ⟨_, rfl⟩
          obtain ⟨c, hcc⟩ : ∃ c, c = (rbool l p).2.2 := ⟨_, rfl⟩
          rw [← hq, ← hcc] at hF C3
          clear hq hcc
          generalize (rbool l p).1 = V at *
          obtain ⟨M, hM⟩ : ∃ M, M = ([if V then 1 else 0] : List UInt8) := ⟨_, rfl⟩
          have HM : Hid (([if V then 1 else 0] : List UInt8) = M) := hM.symm
          rw [← hM] at hF
          clear hM
          have HC4 : Hid (∀ w4 e, Out w3 w4 rb v5 l p q c e → ∀ w4', Below w4.heap.size w4 w4' → Calls Try.prog 27 #[.pointer (some ⟨w2.heap.size, 0, none⟩), .bool V] w4' fun ev w5 => ev = .returned (.tuple #[]) ∧ (∃ v', Wr w2.heap.size w5 w2.heap.size v' M) ∧ ORel w rb v5 l q w5) := by
            intro w4 e hOut w4' hb4
            have hW4 := (AW3.out.grown hOut.grown hrl).past hb4
            have C := wBool_any _ _ V _ [] w4' hW4 (by simp)
            rw [List.nil_append] at C
            refine C.mono ?_
            rintro ev w5 ⟨rfl, v', hW5, hm⟩
            exact ⟨rfl, ⟨v', HM.out ▸ hW5⟩, ((AO3.out.read hOut).past hb4).under (hm.below hW4) hrl hol hwl⟩
          have k5 : (t + 6) % 6 = 3 := by omega
          clear hs0 HM
          go_wp2_with fail
          refine C3.mono ?_
          rintro ev w4 ⟨e, rfl, hOut⟩
          have C4 := HC4.out w4 e hOut
          rcases hOut.err with ⟨hc, rfl⟩ | ⟨hc, hE⟩
          · have hT := hF.took hc
            have hF3 := hF.short
            clear hF hOut C3 HC4
            go_wp2_with fail
            refine (C4 w4 (Below.refl _ _)).mono ?_
            rintro ev w5 ⟨rfl, ⟨v', hW5⟩, hO5⟩
            obtain ⟨hpq, hql, hmm⟩ := hT
            obtain ⟨bb, bof, rfl, hbcap, hbc63, hbcell⟩ := HBC.out (by omega)
            have HAT : Hid (∀ x, Below w5.heap.size w5 x → Calls Try.prog 24 #[.pointer (some ⟨rb, 0, none⟩)] x fun ev w' => ev = .returned (.int .i64 (q : Int)) ∧ w' = x) := fun x hx => at_any x rb v5 l q (hO5.past hx).rd
            have HBY : Hid (∀ x, Below w5.heap.size w5 x → Calls Try.prog 13 #[.pointer (some ⟨w2.heap.size, 0, none⟩)] x fun ev w' => ∃ ao7 cap7, ev = .returned (.slice ao7 (q - p) cap7) ∧ (convert 32 9 (.slice ao7 (q - p) cap7)).run Try.prog w' = .ok (.string (str M)) w' ∧ (convert 32 9 (.slice (some ⟨bb, bof + p, none⟩) (q - p) (bcap - p))).run Try.prog w' = .ok (.string (str M)) w' ∧ Below w5.heap.size w5 w') := bytes_both hW5 hmm hpq hql hF3 hO5.below hbcell
            have hbp : ¬ bcap = p := by omega
            have hn1 : ¬ q < p := by omega
            have hn2 : ¬ l.length < q := by omega
            have hn3 : decide (q < p) = false := by simp; omega
            have hn4 : decide (l.length < q) = false := by simp; omega
            clear hW5 hmm hbcell C4 hF3
            go_wp2_with fail
            go_region_held (fun x => Below w5.heap.size w5 x) (first
              | assumption
              | exact (Below.refl _ _).drew)
              (first
              | (go_at_call 24; refine (HAT.out _ (by assumption)).mono ?_; rintro ev w6 ⟨rfl, rfl⟩)
              | (go_at_call 13; refine (HBY.out _ (by assumption)).mono ?_; rintro ev w6 ⟨ao7, cap7, rfl, kc7, kd7, hB7⟩))
            all_goals
              have hO6 := hO5.past hB7
              clear hB7 hO5 kc7 kd7 HAT HBY
              go_wp2_with fail
              go_roundw
              case rel => exact ⟨k + 1, q, by omega, by go_num, hO6⟩
              case measure => simp [intOf]; omega
          · obtain ⟨b0, rfl, -⟩ := hE.shape
            clear hE hOut C3 HC4
            go_wp2_with fail
            refine (C4 w4 (Below.refl _ _)).mono ?_
            rintro ev w5 ⟨rfl, ⟨v', hW5⟩, hO5⟩
            obtain rfl := hF.left hc
            have C6 := at_any w5 rb v5 l _ hO5.rd
            clear hF C4 hW5
            go_wp2_with fail
            refine C6.mono ?_
            rintro ev w6 ⟨rfl, rfl⟩
            clear C6
            go_wp2_with fail
            go_roundw
            case rel => exact ⟨k + 1, _, by omega, by go_num, hO5⟩
            case measure => simp [intOf]; omega
        · have hFT := fin_text l p 2000 hp (by omega)
          have hF := hFT.1
          have hT2 := hFT.2
          have C3 := rText_any w3 rb v5 l p 2000 AO3.out.rd (by omega) (by omega)
          clear hFT
          obtain ⟨q, hq⟩ : ∃ q, q = (rtext l p 2000).2.1 := ⟨_, rfl⟩
          obtain ⟨c, hcc⟩ : ∃ c, c = (rtext l p 2000).2.2 := ⟨_, rfl⟩
          rw [← hq, ← hcc] at hF C3
          clear hq hcc
          generalize (rtext l p 2000).1 = V at *
          obtain ⟨M, hM⟩ : ∃ M, M = enc V.length ++ V := ⟨_, rfl⟩
          have HM : Hid (enc (str V).size ++ (str V).data.toList = M) := by show _ = _; rw [str_size, str_list]; exact hM.symm
          rw [← hM] at hF
          clear hM
          have HC4 : Hid (∀ w4 e, Out w3 w4 rb v5 l p q c e → ∀ w4', Below w4.heap.size w4 w4' → Calls Try.prog 28 #[.pointer (some ⟨w2.heap.size, 0, none⟩), .string (str V)] w4' fun ev w5 => ev = .returned (.tuple #[]) ∧ (∃ v', Wr w2.heap.size w5 w2.heap.size v' M) ∧ ORel w rb v5 l q w5) := by
            intro w4 e hOut w4' hb4
            have hW4 := (AW3.out.grown hOut.grown hrl).past hb4
            have C := wText_any _ _ (str V) _ [] w4' hW4 (by rw [str_size]; omega) (by simp)
            rw [List.nil_append] at C
            refine C.mono ?_
            rintro ev w5 ⟨rfl, v', hW5, hm⟩
            exact ⟨rfl, ⟨v', HM.out ▸ hW5⟩, ((AO3.out.read hOut).past hb4).under (hm.below hW4) hrl hol hwl⟩
          have k5 : (t + 6) % 6 = 4 := by omega
          clear hs0 HM hT2
          generalize str V = SV at *
          go_wp2_with fail
          refine C3.mono ?_
          rintro ev w4 ⟨e, rfl, hOut⟩
          have C4 := HC4.out w4 e hOut
          rcases hOut.err with ⟨hc, rfl⟩ | ⟨hc, hE⟩
          · have hT := hF.took hc
            have hF3 := hF.short
            clear hF hOut C3 HC4
            go_wp2_with fail
            refine (C4 w4 (Below.refl _ _)).mono ?_
            rintro ev w5 ⟨rfl, ⟨v', hW5⟩, hO5⟩
            obtain ⟨hpq, hql, hmm⟩ := hT
            obtain ⟨bb, bof, rfl, hbcap, hbc63, hbcell⟩ := HBC.out (by omega)
            have HAT : Hid (∀ x, Below w5.heap.size w5 x → Calls Try.prog 24 #[.pointer (some ⟨rb, 0, none⟩)] x fun ev w' => ev = .returned (.int .i64 (q : Int)) ∧ w' = x) := fun x hx => at_any x rb v5 l q (hO5.past hx).rd
            have HBY : Hid (∀ x, Below w5.heap.size w5 x → Calls Try.prog 13 #[.pointer (some ⟨w2.heap.size, 0, none⟩)] x fun ev w' => ∃ ao7 cap7, ev = .returned (.slice ao7 (q - p) cap7) ∧ (convert 32 9 (.slice ao7 (q - p) cap7)).run Try.prog w' = .ok (.string (str M)) w' ∧ (convert 32 9 (.slice (some ⟨bb, bof + p, none⟩) (q - p) (bcap - p))).run Try.prog w' = .ok (.string (str M)) w' ∧ Below w5.heap.size w5 w') := bytes_both hW5 hmm hpq hql hF3 hO5.below hbcell
            have hbp : ¬ bcap = p := by omega
            have hn1 : ¬ q < p := by omega
            have hn2 : ¬ l.length < q := by omega
            have hn3 : decide (q < p) = false := by simp; omega
            have hn4 : decide (l.length < q) = false := by simp; omega
            clear hW5 hmm hbcell C4 hF3
            go_wp2_with fail
            go_region_held (fun x => Below w5.heap.size w5 x) (first
              | assumption
              | exact (Below.refl _ _).drew)
              (first
              | (go_at_call 24; refine (HAT.out _ (by assumption)).mono ?_; rintro ev w6 ⟨rfl, rfl⟩)
              | (go_at_call 13; refine (HBY.out _ (by assumption)).mono ?_; rintro ev w6 ⟨ao7, cap7, rfl, kc7, kd7, hB7⟩))
            all_goals
              have hO6 := hO5.past hB7
              clear hB7 hO5 kc7 kd7 HAT HBY
              go_wp2_with fail
              go_roundw
              case rel => exact ⟨k + 1, q, by omega, by go_num, hO6⟩
              case measure => simp [intOf]; omega
          · obtain ⟨b0, rfl, -⟩ := hE.shape
            clear hE hOut C3 HC4
            go_wp2_with fail
            refine (C4 w4 (Below.refl _ _)).mono ?_
            rintro ev w5 ⟨rfl, ⟨v', hW5⟩, hO5⟩
            obtain rfl := hF.left hc
            have C6 := at_any w5 rb v5 l _ hO5.rd
            clear hF C4 hW5
            go_wp2_with fail
            refine C6.mono ?_
            rintro ev w6 ⟨rfl, rfl⟩
            clear C6
            go_wp2_with fail
            go_roundw
            case rel => exact ⟨k + 1, _, by omega, by go_num, hO5⟩
            case measure => simp [intOf]; omega
        · have hFT := fin_hash l p
          have hF := hFT.1
          have h32 := hFT.2
          have C3 := rHash_any w3 rb v5 l p AO3.out.rd
          clear hFT
          obtain ⟨q, hq⟩ : ∃ q, q = (rhash l p).2.1 := ⟨_, rfl⟩
          obtain ⟨c, hcc⟩ : ∃ c, c = (rhash l p).2.2 := ⟨_, rfl⟩
          rw [← hq, ← hcc] at hF C3
          clear hq hcc
          generalize (rhash l p).1 = M at *
          have HM : Hid (M = M) := rfl
          have HC4 : Hid (∀ w4 e, Out w3 w4 rb v5 l p q c e → ∀ w4', Below w4.heap.size w4 w4' → Calls Try.prog 29 #[.pointer (some ⟨w2.heap.size, 0, none⟩), .agg (bys M).toArray] w4' fun ev w5 => ev = .returned (.tuple #[]) ∧ (∃ v', Wr w2.heap.size w5 w2.heap.size v' M) ∧ ORel w rb v5 l q w5) := by
            intro w4 e hOut w4' hb4
            have hW4 := (AW3.out.grown hOut.grown hrl).past hb4
            have C := wHash_any _ _ M _ [] w4' hW4 h32 (by simp)
            rw [List.nil_append] at C
            refine C.mono ?_
            rintro ev w5 ⟨rfl, v', hW5, hm⟩
            exact ⟨rfl, ⟨v', hW5⟩, ((AO3.out.read hOut).past hb4).under (hm.below hW4) hrl hol hwl⟩
          have k5 : (t + 6) % 6 = 5 := by omega
          have hi27 : (Try.prog.info? 27).map (·.size) = some (bys M).toArray.size := by rw [List.size_toArray, bys_len, h32]; kernel_rfl
          have hz32 : (bys M).toArray.size = 32 := by rw [List.size_toArray, bys_len, h32]
          have hone27 : (bys M).toArray.all (·.oneCell') = true := all_oneCell_toArray (bys_one _)
          clear hs0 HM h32
          generalize hY : (bys M).toArray = Y at *
          clear hY
          go_wp2_with fail
          refine C3.mono ?_
          rintro ev w4 ⟨e, rfl, hOut⟩
          have C4 := HC4.out w4 e hOut
          rcases hOut.err with ⟨hc, rfl⟩ | ⟨hc, hE⟩
          · have hT := hF.took hc
            have hF3 := hF.short
            clear hF hOut C3 HC4
            go_wp2_with (first | (refine wpList_load_row rfl 27 (.tmp 18) rfl w4.heap.size rfl 27 Y (0, 0) _ G6 Try.underlying27 rfl hi27 ?_) | (refine store_box rfl 27 _ _ rfl w4.heap.size Y rfl rfl 27 _ (heap_alloc_new w4 _) hi27 (by rw [hz32]; rfl) hone27 w4 ((Below.refl _ w4).alloc (Nat.le_refl _) _) ?_; intro w4' G6 hb6))
            refine (C4 w4' hb6).mono ?_
            rintro ev w5 ⟨rfl, ⟨v', hW5⟩, hO5⟩
            obtain ⟨hpq, hql, hmm⟩ := hT
            obtain ⟨bb, bof, rfl, hbcap, hbc63, hbcell⟩ := HBC.out (by omega)
            have HAT : Hid (∀ x, Below w5.heap.size w5 x → Calls Try.prog 24 #[.pointer (some ⟨rb, 0, none⟩)] x fun ev w' => ev = .returned (.int .i64 (q : Int)) ∧ w' = x) := fun x hx => at_any x rb v5 l q (hO5.past hx).rd
            have HBY : Hid (∀ x, Below w5.heap.size w5 x → Calls Try.prog 13 #[.pointer (some ⟨w2.heap.size, 0, none⟩)] x fun ev w' => ∃ ao7 cap7, ev = .returned (.slice ao7 (q - p) cap7) ∧ (convert 32 9 (.slice ao7 (q - p) cap7)).run Try.prog w' = .ok (.string (str M)) w' ∧ (convert 32 9 (.slice (some ⟨bb, bof + p, none⟩) (q - p) (bcap - p))).run Try.prog w' = .ok (.string (str M)) w' ∧ Below w5.heap.size w5 w') := bytes_both hW5 hmm hpq hql hF3 hO5.below hbcell
            have hbp : ¬ bcap = p := by omega
            have hn1 : ¬ q < p := by omega
            have hn2 : ¬ l.length < q := by omega
            have hn3 : decide (q < p) = false := by simp; omega
            have hn4 : decide (l.length < q) = false := by simp; omega
            clear hW5 hmm hbcell C4 hF3
            go_wp2_with fail
            go_region_held (fun x => Below w5.heap.size w5 x) (first
              | assumption
              | exact (Below.refl _ _).drew)
              (first
              | (go_at_call 24; refine (HAT.out _ (by assumption)).mono ?_; rintro ev w6 ⟨rfl, rfl⟩)
              | (go_at_call 13; refine (HBY.out _ (by assumption)).mono ?_; rintro ev w6 ⟨ao7, cap7, rfl, kc7, kd7, hB7⟩))
            all_goals
              have hO6 := hO5.past hB7
              clear hB7 hO5 kc7 kd7 HAT HBY
              go_wp2_with fail
              go_roundw
              case rel => exact ⟨k + 1, q, by omega, by go_num, hO6⟩
              case measure => simp [intOf]; omega
          · obtain ⟨b0, rfl, -⟩ := hE.shape
            clear hE hOut C3 HC4
            go_wp2_with (first | (refine wpList_load_row rfl 27 (.tmp 18) rfl w4.heap.size rfl 27 Y (0, 0) _ G6 Try.underlying27 rfl hi27 ?_) | (refine store_box rfl 27 _ _ rfl w4.heap.size Y rfl rfl 27 _ (heap_alloc_new w4 _) hi27 (by rw [hz32]; rfl) hone27 w4 ((Below.refl _ w4).alloc (Nat.le_refl _) _) ?_; intro w4' G6 hb6))
            refine (C4 w4' hb6).mono ?_
            rintro ev w5 ⟨rfl, ⟨v', hW5⟩, hO5⟩
            obtain rfl := hF.left hc
            have C6 := at_any w5 rb v5 l _ hO5.rd
            clear hF C4 hW5
            go_wp2_with fail
            refine C6.mono ?_
            rintro ev w6 ⟨rfl, rfl⟩
            clear C6
            go_wp2_with fail
            go_roundw
            case rel => exact ⟨k + 1, _, by omega, by go_num, hO5⟩
            case measure => simp [intOf]; omega
      · have AO : Aside (ORel w rb v5 l p wr) := hOR
        clear hOR HO HK HBC
        by_cases hkn : k < n
        · have hk3 : ¬ k < 30 := fun h => hlt ⟨hkn, h⟩
          clear hlt
          go_wp2_with fail
          refine (tell_any wr).mono ?_
          rintro ev w2 ⟨rfl, hb2⟩
          have hB := (AO.out.past hb2).below
          go_wp2_with fail
          go_ret
          exact ⟨rfl, hB⟩
        · clear hlt
          go_wp2_with fail
          refine (tell_any wr).mono ?_
          rintro ev w2 ⟨rfl, hb2⟩
          have hB := (AO.out.past hb2).below
          go_wp2_with fail
          go_ret
          exact ⟨rfl, hB⟩
end Go.Proofs.Ytkgmjhchefkmaaa
