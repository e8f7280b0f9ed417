/-
  The document's own Less and Parse.
-/
import Derived.Test.YtnfiecafkapgmaaPrs
import Derived.Test.YtnfiecafkapgmaaLes
namespace Go.Proofs.Ytnfiecafkapgmaa
open Go.RowKit

theorem less_same (x : UInt8) (a b : List UInt8) : less (x :: a) (x :: b) = less a b := by
  have h : ¬ x < x := UInt8.lt_irrefl x
  simp [less, Lib.compareBytes, h]
theorem less_other (x y : UInt8) (a b : List UInt8) (h : x.toNat ≠ y.toNat) : less (x :: a) (y :: b) = decide (x.toNat < y.toNat) := by
  by_cases g : x.toNat < y.toNat
  · have g' : x < y := UInt8.lt_iff_toNat_lt.2 g
    simp [less, Lib.compareBytes, g, g']
  · have g' : ¬ x < y := fun e => g (UInt8.lt_iff_toNat_lt.1 e)
    have g2 : y < x := UInt8.lt_iff_toNat_lt.2 (by omega)
    simp [less, Lib.compareBytes, g, g', g2]
theorem drop_at (a : List UInt8) (k : Nat) (h : k < a.length) : a.drop k = a.getD k 0 :: a.drop (k + 1) := by
  rw [List.drop_eq_getElem_cons h]
  simp [List.getD, List.getElem?_eq_getElem h]

/-- Where the document's Less stands. -/
structure LRel (w : World) (a b : List UInt8) (k : Nat) (wr : World) : Prop where
  ra : Row wr w.heap.size 25 (bys a)
  rb : Row wr (w.heap.size + 1) 25 (bys b)
  same : less a b = less (a.drop k) (b.drop k)
  below : Below w.heap.size w wr
theorem LRel.drewN {w wr : World} {a b : List UInt8} {k : Nat} (h : LRel w a b k wr) (n : Nat) : LRel w a b k (wr.drewN n) := ⟨h.ra.drewN, h.rb.drewN, h.same, ⟨h.below.os, h.below.tape, h.below.output, h.below.size, h.below.block⟩⟩

attribute [local go_sem ↓] Go.wp_at_zero Go.wp_at_succ
set_option maxHeartbeats 4000000 in
set_option maxRecDepth 20000 in
theorem xless_any (w : World) (a b : List UInt8) (ha : a.length = 32) (hb : b.length = 32) :
    Calls Try.prog 16 #[.agg (bys a).toArray, .agg (bys b).toArray] w fun ev w' => ev = .returned (.bool (less a b)) ∧ Below w.heap.size w w' := by
  have HI : Hid (LRel w a b 0 ((w.alloc (.cells (bys a).toArray 25)).alloc (.cells (bys b).toArray 25))) := by
    refine ⟨(Row.new w 25 (bys a)).below ((Below.refl _ _).alloc (Nat.le_refl _) _) (by simp), ?_, rfl, ((Below.refl w.heap.size w).alloc (Nat.le_refl _) _).alloc (by simp) _⟩
    have := Row.new (w.alloc (.cells (bys a).toArray 25)) 25 (bys b)
    simpa using this
  generalize (bys a).toArray = Y1 at *
  generalize (bys b).toArray = Y2 at *
  go_enter Try.func16, Try.ntmps16
  go_wp2_with fail
  go_loopw [5] (fun i wr => ∃ k : Nat, k ≤ 32 ∧ i = .int .i64 k ∧ LRel w a b k wr) (fun i _ => 32 - (intOf i).toNat)
  case atStart => exact ⟨0, by omega, rfl, HI.out⟩
  case round =>
    obtain ⟨k, hk, rfl, hX⟩ := hrel
    clear HI
    by_cases hk3 : k < 32
    · have q0 : wr.cell? ⟨w.heap.size, k, none⟩ = some (.int .u8 ((a.getD k 0).toNat : Int)) := by rw [hX.ra.cell k, bys_get a k (by omega)]
      have q1 : wr.cell? ⟨w.heap.size + 1, k, none⟩ = some (.int .u8 ((b.getD k 0).toNat : Int)) := by rw [hX.rb.cell k, bys_get b k (by omega)]
      have e1 := drop_at a k (by omega)
      have e2 := drop_at b k (by omega)
      have l1 : (k : Int) < 32 := by omega
      by_cases hd : (a.getD k 0).toNat = (b.getD k 0).toNat
      · have HN : Hid (∀ n, LRel w a b (k + 1) (wr.drewN n)) := fun n => by
          have h := hX.drewN n
          refine ⟨h.ra, h.rb, ?_, h.below⟩
          have hs := hX.same
          rw [e1, e2, UInt8.toNat_inj.1 hd, less_same] at hs
          exact hs
        rw [hd] at q0
        clear hX e1 e2 hd
        generalize (b.getD k 0).toNat = y at *
        go_wp2_with fail
        go_quiet (fail)
        go_wp2_with fail
        go_roundw
        case rel => exact ⟨k + 1, by omega, by go_num, HN.out _⟩
        case measure => simp [intOf]; omega
      · have HL : Hid (less a b = decide ((a.getD k 0).toNat < (b.getD k 0).toNat)) := by
          show _ = _
          rw [hX.same, e1, e2, less_other _ _ _ _ hd]
        have HB : Hid (Below w.heap.size w wr) := hX.below
        clear hX e1 e2
        generalize (b.getD k 0).toNat = y at *
        generalize (a.getD k 0).toNat = x at *
        have hd' : (x : Int) ≠ (y : Int) := by omega
        go_wp2_with fail
        go_quiet (fail)
        go_wp2_with fail
        go_quiet (fail)
        go_wp2_with fail
        go_ret
        refine ⟨?_, ?_⟩
        · rw [HL.out]; simp
        · have := HB.out
          exact ⟨this.os, this.tape, this.output, this.size, this.block⟩
    · have HL : Hid (less a b = false) := by
        obtain rfl : k = 32 := by omega
        show _ = _
        rw [hX.same, ← ha, List.drop_length, ha, ← hb, List.drop_length]; rfl
      have HB : Hid (Below w.heap.size w wr) := hX.below
      clear hX
      go_wp2_with fail
      go_ret
      exact ⟨by rw [HL.out]; rfl, HB.out⟩

theorem isDig_of (c : UInt8) (h : (48 ≤ c.toNat ∧ c.toNat ≤ 57) ∨ (97 ≤ c.toNat ∧ c.toNat ≤ 102)) : isDig c = true := by unfold isDig; simp; exact h
theorem isDig_not (c : UInt8) (h1 : ¬ (48 ≤ c.toNat ∧ c.toNat ≤ 57)) (h2 : ¬ (97 ≤ c.toNat ∧ c.toNat ≤ 102)) : isDig c = false := by unfold isDig; simp; omega
theorem results12_row (tmps : Array Value) (w : World) (g : Nat) (cs : Array Value) (e f : Value) (hs : cs.size = 32) (hp : tmps.getD 2 undef = .pointer (some ⟨g, 0, none⟩)) (he : tmps.getD 3 undef = e) (hf : tmps.getD 4 undef = f) (hg : w.heap[g]? = some (.cells cs 25 (0, 0))) :
    (results Try.f12 tmps).run Try.prog w = .ok (.tuple #[.agg cs, e, f]) w := by
  have hp' : tmps[2]?.getD undef = .pointer (some ⟨g, 0, none⟩) := by simpa using hp
  have he' : tmps[3]?.getD undef = e := by simpa using he
  have hf' : tmps[4]?.getD undef = f := by simpa using hf
  have hi : (Try.prog.info? 25).map (·.size) = some cs.size := by rw [hs]; exact Try.info25
  simp [results, Try.results12, hp', he', hf', asAddr, run_loadVar_row w g 25 25 cs (0, 0) _ hg Try.underlying25 rfl hi]

theorem QRel.zero {w wr : World} {l : List UInt8} {k : Nat} (h : QRel w l k wr) :
    wr.heap[w.heap.size]? = some (.cells z25'.toArray 25 (0, 0)) ∧ (wr.setRow w.heap.size z25'.toArray).heap[w.heap.size]? = some (.cells z25'.toArray 25 (0, 0)) ∧ Below w.heap.size w (wr.setRow w.heap.size z25'.toArray) :=
  ⟨h.res.heap, (h.res.setRow z25').heap, below_setRow h.below (Nat.le_refl _) _⟩

set_option maxHeartbeats 4000000 in
set_option maxRecDepth 20000 in
theorem xparse_any (w : World) (l : List UInt8) (hl : l.length ≤ 1000000000) :
    Calls Try.prog 12 #[.string (str l)] w fun ev w' => ev = .returned (.tuple #[.agg (bys (parseF l).1).toArray, .int .i64 ((parseF l).2.1 : Int), .int .i64 ((parseF l).2.2 : Int)]) ∧ Below w.heap.size w w' := by
  have HI : Hid (QRel w l 0 ((w.alloc (.cells z25'.toArray 25)).alloc (.cells z25'.toArray 25))) := by
    refine ⟨by omega, (Row.new w 25 z25').below ((Below.refl _ _).alloc (Nat.le_refl _) _) (by simp), ?_, ((Below.refl w.heap.size w).alloc (Nat.le_refl _) _).alloc (by simp) _⟩
    have := Row.new (w.alloc (.cells z25'.toArray 25)) 25 z25'
    have e : bys (nib l 0) = z25' := rfl
    rw [e]
    simpa using this
  obtain ⟨S, hS⟩ : ∃ S, S = str l := ⟨_, rfl⟩
  have hSs : S.size = l.length := by rw [hS, str_size]
  have HX : Hid (∀ k (h : k < S.size), (S[k]'h).toNat = (l.getD k 0).toNat) := by
    intro k h
    subst hS
    have hk : k < l.length := by rw [str_size] at h; exact h
    simp [List.getD, List.getElem?_eq_getElem hk]; rfl
  rw [← hS]
  clear hS
  have hi : (Try.prog.info? 25).map (·.size) = some z25'.toArray.size := Try.info25
  go_enter Try.func12, Try.ntmps12
  go_wp2_with fail
  go_loopw [6] (fun i wr => ∃ k : Nat, k ≤ 64 ∧ k ≤ l.length ∧ i = .int .i64 k ∧ QRel w l k wr) (fun i _ => 64 - (intOf i).toNat)
  case atStart => exact ⟨0, by omega, by omega, rfl, HI.out⟩
  case round =>
    obtain ⟨k, hk, hkl, rfl, hQ⟩ := hrel
    clear HI
    by_cases hk3 : k < 64 ∧ k < l.length
    · obtain ⟨hk3, hle⟩ := hk3
      have hkS : k < S.size := by omega
      have hx := HX.out k hkS
      have hcn := (l.getD k 0).toNat_lt
      have q0 : wr.cell? ⟨w.heap.size + 1, k / 2, none⟩ = some (.int .u8 (((nib l k).getD (k / 2) 0).toNat : Int)) := by rw [hQ.h.cell, bys_get _ _ (by rw [nib_len]; omega)]
      have q1 := hQ.h.fz (k / 2)
      by_cases h1 : 48 ≤ (l.getD k 0).toNat ∧ (l.getD k 0).toNat ≤ 57
      · have HN : Hid _ := hQ.next hk3 hle (isDig_of _ (.inl h1))
        have hdv : dv (l.getD k 0) = (l.getD k 0).toNat - 48 := by unfold dv; rw [if_pos h1]
        rw [hdv] at HN
        obtain ⟨h1a, h1b⟩ := h1
        have hc : ((l.getD k 0).toNat : Int) - 48 = (((l.getD k 0).toNat - 48 : Nat) : Int) := by omega
        rw [← hc] at HN
        clear hQ HX hc hdv
        generalize ((nib l k).getD (k / 2) 0).toNat = z at *
        generalize (l.getD k 0).toNat = x at *
        go_wp2_with fail
        go_roundw
        case rel => exact ⟨k + 1, by omega, by omega, by go_num, HN.out⟩
        case measure => simp [intOf]; omega
      · by_cases h2 : 97 ≤ (l.getD k 0).toNat ∧ (l.getD k 0).toNat ≤ 102
        · have HN : Hid _ := hQ.next hk3 hle (isDig_of _ (.inr h2))
          have hdv : dv (l.getD k 0) = (l.getD k 0).toNat - 87 := by unfold dv; rw [if_neg h1, if_pos h2]
          rw [hdv] at HN
          obtain ⟨h2a, h2b⟩ := h2
          have hc : ((l.getD k 0).toNat : Int) - 97 + 10 = (((l.getD k 0).toNat - 87 : Nat) : Int) := by omega
          rw [← hc] at HN
          have h3 : ¬ (l.getD k 0).toNat ≤ 57 := by omega
          have h4 : 48 ≤ (l.getD k 0).toNat := by omega
          clear hQ HX hc hdv h1
          generalize ((nib l k).getD (k / 2) 0).toNat = z at *
          generalize (l.getD k 0).toNat = x at *
          go_wp2_with fail
          go_roundw
          case rel => exact ⟨k + 1, by omega, by omega, by go_num, HN.out⟩
          case measure => simp [intOf]; omega
        · have HP : Hid (parseF l = (zs, 4, k)) := by
            have hd : isDig (l.getD k 0) = false := isDig_not _ h1 h2
            have := good_stop 64 l k hQ.le hk3 (.inr hd)
            show _ = _
            rw [parseF, if_pos (by omega), this]
          obtain ⟨G1, G2, G4⟩ := hQ.zero
          have A4 : Aside _ := G4
          clear hQ HX q0 q1 G4
          generalize (l.getD k 0).toNat = x at *
          by_cases h5 : 48 ≤ x
          · have h6 : ¬ x ≤ 57 := fun h => h1 ⟨h5, h⟩
            by_cases h7 : 97 ≤ x
            · have h8 : ¬ x ≤ 102 := fun h => h2 ⟨h7, h⟩
              clear h1 h2
              go_wp2_with (refine wpList_store_row rfl 25 _ _ rfl w.heap.size z25'.toArray rfl rfl 25 z25'.toArray G1 hi rfl (all_one (bys_one zs)) ?_)
              refine bodyPost_ret (v := .tuple #[.agg z25'.toArray, .int .i64 4, .int .i64 (k : Int)]) (results12_row _ _ w.heap.size z25'.toArray _ _ rfl rfl rfl rfl G2) rfl ⟨?_, A4.out⟩
              rw [HP.out]; rfl
            · clear h1 h2
              go_wp2_with (refine wpList_store_row rfl 25 _ _ rfl w.heap.size z25'.toArray rfl rfl 25 z25'.toArray G1 hi rfl (all_one (bys_one zs)) ?_)
              refine bodyPost_ret (v := .tuple #[.agg z25'.toArray, .int .i64 4, .int .i64 (k : Int)]) (results12_row _ _ w.heap.size z25'.toArray _ _ rfl rfl rfl rfl G2) rfl ⟨?_, A4.out⟩
              rw [HP.out]; rfl
          · have h7 : ¬ 97 ≤ x := by omega
            clear h1 h2
            go_wp2_with (refine wpList_store_row rfl 25 _ _ rfl w.heap.size z25'.toArray rfl rfl 25 z25'.toArray G1 hi rfl (all_one (bys_one zs)) ?_)
            refine bodyPost_ret (v := .tuple #[.agg z25'.toArray, .int .i64 4, .int .i64 (k : Int)]) (results12_row _ _ w.heap.size z25'.toArray _ _ rfl rfl rfl rfl G2) rfl ⟨?_, A4.out⟩
            rw [HP.out]; rfl
    · by_cases hlt : l.length < 64
      · obtain rfl : k = l.length := by omega
        have HP : Hid (parseF l = (zs, 4, l.length)) := by
          have := good_stop 64 l l.length hQ.le hlt (.inl rfl)
          show _ = _
          rw [parseF, if_pos (by omega), this]
        obtain ⟨G1, G2, G4⟩ := hQ.zero
        have A4 : Aside _ := G4
        have n1 : (l.length : Int) ≠ 64 := by omega
        have n2 : min (l.length : Int) 64 = (l.length : Int) := by omega
        clear hQ HX G4
        go_wp2_with (refine wpList_store_row rfl 25 _ _ rfl w.heap.size z25'.toArray rfl rfl 25 z25'.toArray G1 hi rfl (all_one (bys_one zs)) ?_)
        refine bodyPost_ret (v := .tuple #[.agg z25'.toArray, .int .i64 4, .int .i64 (l.length : Int)]) (results12_row _ _ w.heap.size z25'.toArray _ _ rfl rfl rfl rfl G2) rfl ⟨?_, A4.out⟩
        rw [HP.out]; rfl
      · obtain rfl : k = 64 := by omega
        have hg : good 64 l = 64 := by have := (good_le 64 l).1; have := hQ.le; omega
        by_cases hgt : 64 < l.length
        · have HP : Hid (parseF l = (zs, 4, 64)) := by
            show _ = _
            rw [parseF, if_neg (by omega), if_pos hgt]
          obtain ⟨G1, G2, G4⟩ := hQ.zero
          have A4 : Aside _ := G4
          have n1 : (l.length : Int) ≠ 64 := by omega
          have n2 : min (l.length : Int) 64 = 64 := by omega
          have n3 : (64 : Int) < (l.length : Int) := by omega
          clear hQ HX G4 hg
          go_wp2_with (refine wpList_store_row rfl 25 _ _ rfl w.heap.size z25'.toArray rfl rfl 25 z25'.toArray G1 hi rfl (all_one (bys_one zs)) ?_)
          refine bodyPost_ret (v := .tuple #[.agg z25'.toArray, .int .i64 4, .int .i64 64]) (results12_row _ _ w.heap.size z25'.toArray _ _ rfl rfl rfl rfl G2) rfl ⟨?_, A4.out⟩
          rw [HP.out]; rfl
        · have HP : Hid (parseF l = (nib l 64, 0, 0)) := by
            show _ = _
            rw [parseF, if_neg (by omega), if_neg hgt]
          have n1 : (l.length : Int) = 64 := by omega
          have HF : Hid (Below w.heap.size w (wr.setRow w.heap.size (bys (nib l 64)).toArray)) := below_setRow hQ.below (Nat.le_refl _) _
          have hres := hQ.res.heap
          have hrow := hQ.h.heap
          have hres2 := (hQ.res.setRow (bys (nib l 64))).heap
          have hs32 : (bys (nib l 64)).toArray.size = 32 := by rw [List.size_toArray, bys_len, nib_len]
          have hi2 : (Try.prog.info? 25).map (·.size) = some (bys (nib l 64)).toArray.size := by rw [hs32]; exact Try.info25
          have hz : z25'.toArray.size = (bys (nib l 64)).toArray.size := by rw [hs32]; rfl
          have hone := all_one (bys_one (nib l 64))
          obtain ⟨Y2, hY2⟩ : ∃ Y2, Y2 = (bys (nib l 64)).toArray := ⟨_, rfl⟩
          rw [← hY2] at HF hrow hres2 hi2 hz hone hs32
          have HY : Hid (Y2 = (bys (nib l 64)).toArray) := hY2
          clear hQ hY2 HX hg
          go_wp2_with (first | (refine wpList_load_row rfl 25 _ rfl (w.heap.size + 1) rfl 25 Y2 (0, 0) _ hrow Try.underlying25 rfl hi2 ?_) | (refine wpList_store_row rfl 25 _ _ rfl w.heap.size Y2 rfl rfl 25 z25'.toArray hres hi2 hz hone ?_))
          refine bodyPost_ret (v := .tuple #[.agg Y2, .int .i64 0, .int .i64 0]) (results12_row _ _ w.heap.size Y2 _ _ hs32 rfl rfl rfl hres2) rfl ⟨?_, HF.out⟩
          rw [HP.out, HY.out]
          generalize nib l 64 = N
          rfl
end Go.Proofs.Ytnfiecafkapgmaa
