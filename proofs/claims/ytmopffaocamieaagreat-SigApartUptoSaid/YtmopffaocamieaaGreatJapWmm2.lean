/-
  The texts Wmm, Wpu, joined.
-/
import Derived.Test.YtmopffaocamieaaGreatJapMat4
namespace Go.Proofs.YtmopffaocamieaaGreat
open Go.RowKit

/-- The slice v holds the bytes l. -/
structure Sw (w : World) (v : Value) (l : List UInt8) : Prop where
  shape : (∃ cap, v = .slice none 0 cap ∧ l = []) ∨ ∃ b o cap, v = .slice (some ⟨b, o, none⟩) l.length cap ∧ ∀ i, i < l.length → w.cell? ⟨b, o + i, none⟩ = some (.int .u8 ((l.getD i 0).toNat : Int))

theorem Sw.below {w w' : World} {v : Value} {l : List UInt8} (h : Sw w v l) (hb : Below w.heap.size w w') : Sw w' v l := by
  refine ⟨?_⟩
  rcases h.shape with h | ⟨b, o, cap, rfl, hc⟩
  · exact .inl h
  · refine .inr ⟨b, o, cap, rfl, fun i hi => ?_⟩
    rw [hb.cell (p := ⟨b, o + i, none⟩) (World.block_lt_of_cell? w _ (hc i hi))]
    exact hc i hi

theorem Sw.ofOwn {w : World} {B : Nat} {v : Value} {l : List UInt8} (h : w.ownsRow B 5 1 v l.length (bys l)) : Sw w v l := by
  refine ⟨?_⟩
  rcases h.2 with ⟨rfl, h0⟩ | ⟨g, cap, cur, rfl, _⟩
  · exact .inl ⟨0, rfl, List.eq_nil_of_length_eq_zero h0⟩
  · refine .inr ⟨g, 0, cap, rfl, fun i hi => ?_⟩
    rw [Nat.zero_add, h.cellAt i (by omega), bys_get l i hi]

/-- A Writer at block wb, all of whose memory lies from block B on; v: its slice. -/
structure Wr (B : Nat) (w : World) (wb : Nat) (v : Value) (l : List UInt8) : Prop where
  base : B ≤ wb
  cell : w.cell? ⟨wb, 0, none⟩ = some v
  fz : w.frozen? ⟨wb, 0, none⟩ = false
  own : w.ownsRow B 5 1 v l.length (bys l)
  ne : v.ownBlock ≠ some wb

/-- What is owned hangs on its own block alone. -/
theorem own_same {w w' : World} {B t n : Nat} {v : Value} {xs : List Value} (h : w.ownsRow B t 1 v n xs) (hs : ∀ k, v.ownBlock = some k → w'.heap[k]? = w.heap[k]?) : w'.ownsRow B t 1 v n xs := by
  refine ⟨h.1, ?_⟩
  rcases h.2 with hn | ⟨g, cap, cur, rfl, hb, hgg, rest⟩
  · exact .inl hn
  · exact .inr ⟨g, cap, cur, rfl, hb, by rw [hs g rfl]; exact hgg, rest⟩
theorem own_lower {w : World} {B B' t n : Nat} {v : Value} {xs : List Value} (h : w.ownsRow B t 1 v n xs) (hB : B' ≤ B) : w.ownsRow B' t 1 v n xs := by
  refine ⟨h.1, ?_⟩
  rcases h.2 with hn | ⟨g, cap, cur, rfl, hb, rest⟩
  · exact .inl hn
  · exact .inr ⟨g, cap, cur, rfl, by omega, rest⟩
theorem own_shape {w : World} {B t n : Nat} {v : Value} {xs : List Value} (h : w.ownsRow B t 1 v n xs) : ∃ ao cap, v = .slice ao n cap := by
  rcases h.2 with ⟨rfl, rfl⟩ | ⟨g, cap, cur, rfl, _⟩
  · exact ⟨none, 0, rfl⟩
  · exact ⟨_, cap, rfl⟩

theorem Wr.lt {B : Nat} {w : World} {wb : Nat} {v : Value} {l : List UInt8} (h : Wr B w wb v l) : wb < w.heap.size := World.block_lt_of_cell? w _ h.cell
theorem Wr.lo {B : Nat} {w : World} {wb : Nat} {v : Value} {l : List UInt8} (h : Wr B w wb v l) : B ≤ w.heap.size := Nat.le_of_lt (Nat.lt_of_le_of_lt h.base h.lt)
theorem Wr.same {B : Nat} {w w' : World} {wb : Nat} {v : Value} {l : List UInt8} (h : Wr B w wb v l) (h1 : w'.heap[wb]? = w.heap[wb]?) (h2 : ∀ k, v.ownBlock = some k → w'.heap[k]? = w.heap[k]?) : Wr B w' wb v l :=
  ⟨h.base, (World.cell?_of_block (a := ⟨wb, 0, none⟩) h1).trans h.cell, (World.frozen?_of_block (a := ⟨wb, 0, none⟩) h1).trans h.fz, own_same h.own h2, h.ne⟩
/-- All of it lies below block C. -/
def Wr.under (w : World) (wb : Nat) (v : Value) (C : Nat) : Prop := wb < C ∧ (∀ k, v.ownBlock = some k → k < C) ∧ C ≤ w.heap.size
theorem Wr.below {B C : Nat} {w w' : World} {wb : Nat} {v : Value} {l : List UInt8} (h : Wr B w wb v l) (hC : wb < C) (hk : ∀ k, v.ownBlock = some k → k < C) (hb : Below C w w') : Wr B w' wb v l :=
  h.same (hb.block wb hC) (fun k e => hb.block k (hk k e))
theorem Wr.past {B : Nat} {w w' : World} {wb : Nat} {v : Value} {l : List UInt8} (h : Wr B w wb v l) (hb : Below w.heap.size w w') : Wr B w' wb v l :=
  h.below h.lt (fun k e => (h.own.lt k e).2) hb
theorem Wr.lower {B B' : Nat} {w : World} {wb : Nat} {v : Value} {l : List UInt8} (h : Wr B w wb v l) (hB : B' ≤ B) : Wr B' w wb v l :=
  ⟨Nat.le_trans hB h.base, h.cell, h.fz, own_lower h.own hB, h.ne⟩

theorem grown_below {w w' : World} (h : Below w.heap.size w w') (row : Option Nat) : w.grownBy w' row := ⟨h.os, h.tape, h.output, h.size, fun k hk _ => h.block k hk⟩
theorem below_grown {B : Nat} {w w' : World} {row : Option Nat} (h : w.grownBy w' row) (hB : B ≤ w.heap.size) (hr : ∀ k, row = some k → B ≤ k) : Below B w w' :=
  (Below.refl B w).grown h hB hr

/-- What a step of a Writer leaves: of what was there only the Writer and its own row have turned. -/
structure Mv (w w' : World) (wb : Nat) (v v' : Value) : Prop where
  os : w'.os = w.os
  tape : w'.tape = w.tape
  output : w'.output = w.output
  size : w.heap.size ≤ w'.heap.size
  block : ∀ k, k < w.heap.size → k ≠ wb → v.ownBlock ≠ some k → w'.heap[k]? = w.heap[k]?
  own : v'.ownBlock = v.ownBlock ∨ ∃ k, w.heap.size ≤ k ∧ v'.ownBlock = some k
theorem Mv.past {w w' : World} (h : Below w.heap.size w w') (wb : Nat) (v : Value) : Mv w w' wb v v := ⟨h.os, h.tape, h.output, h.size, fun k hk _ _ => h.block k hk, .inl rfl⟩
theorem Mv.trans {w w1 w2 : World} {wb : Nat} {v v1 v2 : Value} (h : Mv w w1 wb v v1) (g : Mv w1 w2 wb v1 v2) : Mv w w2 wb v v2 := by
  refine ⟨g.os.trans h.os, g.tape.trans h.tape, g.output.trans h.output, Nat.le_trans h.size g.size, fun k hk h1 h2 => ?_, ?_⟩
  · refine (g.block k (Nat.lt_of_lt_of_le hk h.size) h1 ?_).trans (h.block k hk h1 h2)
    rcases h.own with e | ⟨j, hj, e⟩
    · rw [e]; exact h2
    · rw [e]; intro e'; have := Option.some.inj e'; omega
  · rcases g.own with e | ⟨j, hj, e⟩
    · rcases h.own with e' | ⟨i, hi, e'⟩
      · exact .inl (e.trans e')
      · exact .inr ⟨i, hi, e.trans e'⟩
    · exact .inr ⟨j, Nat.le_trans h.size hj, e⟩
theorem Mv.below {B : Nat} {w w' : World} {wb : Nat} {v v' : Value} {l : List UInt8} (h : Mv w w' wb v v') (hW : Wr B w wb v l) : Below B w w' :=
  ⟨h.os, h.tape, h.output, h.size, fun k hk => h.block k (Nat.lt_of_lt_of_le hk hW.lo) (by have := hW.base; omega) (fun e => by have := (hW.own.lt k e).1; omega)⟩
/-- A block that is neither the Writer nor its row. -/
theorem Mv.keep {w w' : World} {wb k : Nat} {v v' : Value} (h : Mv w w' wb v v') (hk : k < w.heap.size) (h1 : k ≠ wb) (h2 : v.ownBlock ≠ some k) : w'.heap[k]? = w.heap[k]? := h.block k hk h1 h2
theorem Mv.off {w w' : World} {wb k : Nat} {v v' : Value} (h : Mv w w' wb v v') (hk : k < w.heap.size) (h2 : v.ownBlock ≠ some k) : v'.ownBlock ≠ some k := by
  rcases h.own with e | ⟨j, hj, e⟩
  · rw [e]; exact h2
  · rw [e]; intro e'; have := Option.some.inj e'; omega

/-- One append, stored. -/
theorem Wr.put {B : Nat} {w w1 : World} {wb : Nat} {v v' : Value} {l nw : List UInt8} (h : Wr B w wb v l) (hown : w1.ownsRow B 5 1 v' (l.length + nw.length) (bys l ++ bys nw)) (hgrow : w.grownBy w1 v.ownBlock)
    (hat : v'.ownBlock = v.ownBlock ∨ v'.ownBlock = some w.heap.size) : Wr B (w1.setCell ⟨wb, 0, none⟩ v') wb v' (l ++ nw) ∧ Mv w (w1.setCell ⟨wb, 0, none⟩ v') wb v v' := by
  have hlt := h.lt
  have hb1 : w1.heap[wb]? = w.heap[wb]? := hgrow.block wb hlt (fun e => h.ne e.symm)
  have hc1 : w1.cell? ⟨wb, 0, none⟩ = some v := (World.cell?_of_block (a := ⟨wb, 0, none⟩) hb1).trans h.cell
  have hf1 : w1.frozen? ⟨wb, 0, none⟩ = false := (World.frozen?_of_block (a := ⟨wb, 0, none⟩) hb1).trans h.fz
  have hne : v'.ownBlock ≠ some wb := by
    rcases hat with e | e
    · rw [e]; exact h.ne
    · rw [e]; intro he; have := Option.some.inj he; omega
  have hs : w1.heap.size ≤ (w1.setCell ⟨wb, 0, none⟩ v').heap.size := ((Below.refl wb w1).setCell (p := ⟨wb, 0, none⟩) (Nat.le_refl _) v').size
  refine ⟨⟨h.base, ?_, ?_, ?_, hne⟩, ⟨hgrow.os, hgrow.tape, hgrow.output, Nat.le_trans hgrow.size hs, fun k hk h1 h2 => ?_, ?_⟩⟩
  · exact World.cell?_setCell_same w1 _ _ hc1
  · simpa using hf1
  · have : (w1.setCell ⟨wb, 0, none⟩ v').ownsRow B 5 1 v' (l.length + nw.length) (bys l ++ bys nw) := own_same hown (fun k e => Below.heap_setCell _ _ _ _ (fun e' => hne (by rw [e, e'])))
    simpa [bys_app] using this
  · exact (Below.heap_setCell w1 ⟨wb, 0, none⟩ v' k h1).trans (hgrow.block k hk (fun e => h2 e.symm))
  · rcases hat with e | e
    · exact .inl e
    · exact .inr ⟨_, Nat.le_refl _, e⟩
end Go.Proofs.YtmopffaocamieaaGreat

namespace Go.Proofs.YtmopffaocamieaaGreat
open Go.RowKit

set_option maxHeartbeats 1000000 in
theorem newWriter_any (w : World) : Calls Tryz.prog 65 #[] w fun ev w' => ev = .returned (.pointer (some ⟨w.heap.size, 0, none⟩)) ∧ Wr w.heap.size w' w.heap.size (.slice none 0 0) [] ∧ Below w.heap.size w w' := by
  go_enter Tryz.func65, Tryz.ntmps65
  go_wp2
  go_ret
  refine ⟨rfl, ⟨Nat.le_refl _, ?_, ?_, World.ownsRow_nil _ _ _ _, by simp [Value.ownBlock]⟩, (Below.refl _ _).alloc (Nat.le_refl _) _⟩
  · simp
  · simp

set_option maxHeartbeats 1000000 in
theorem put_any (B wb m c : Nat) (v : Value) (l nw : List UInt8) (a : Addr) (w : World) (h : Wr B w wb v l) (hm : nw.length = m) (hn : ∀ j u, (bys nw)[j]? = some u → w.cell? (a.add j) = some u) (hl : l.length + m ≤ 1099511627776) :
    Calls Tryz.prog 114 #[.pointer (some ⟨wb, 0, none⟩), .slice (some a) m c] w fun ev w' => ev = .returned (.tuple #[]) ∧ ∃ v', Wr B w' wb v' (l ++ nw) ∧ Mv w w' wb v v' := by
  obtain ⟨i0, hi, hz0, hz1, hz2⟩ := info_parts Tryz.info5
  have hcell := h.cell
  have hfz := h.fz
  have hown := h.own
  have hlo := h.lo
  have A : Aside (Wr B w wb v l) := h
  have HB : Hid (∀ w1, w.grownBy w1 v.ownBlock → w1.cell? ⟨wb, 0, none⟩ = some v ∧ w1.frozen? ⟨wb, 0, none⟩ = false) := fun w1 hg => by
    have hb1 : w1.heap[wb]? = w.heap[wb]? := hg.block wb h.lt (fun e => h.ne e.symm)
    exact ⟨(World.cell?_of_block (a := ⟨wb, 0, none⟩) hb1).trans h.cell, (World.frozen?_of_block (a := ⟨wb, 0, none⟩) hb1).trans h.fz⟩
  have HN : Hid (∀ j u, (bys nw)[j]? = some u → w.cell? (a.add j) = some u) := hn
  clear h hn
  subst hm
  obtain ⟨ao, cap, rfl⟩ := own_shape hown
  go_enter Tryz.func114, Tryz.ntmps114
  go_wp2_with (at_builtin; refine wpList_append_own_at _ rfl _ _ 33 rfl B 5 i0 (.int .u8 0) 1 1 Tryz.underlying33 hi hz0 hz1 hz2 rfl (by decide) _ _ _ rfl hown a nw.length c (bys nw) rfl (by simp [bys_len]) HN.out (bys_one nw) (by unfold maxLen; omega) (by omega) hlo ?_)
  intro v' w1 hown' hgrow _ hat
  obtain ⟨q1, q2⟩ := HB.out w1 hgrow
  have R := A.out.put hown' hgrow hat
  obtain ⟨ao', cap', rfl⟩ := own_shape hown'
  clear hown' hgrow hat hown hcell hfz A
  go_wp2
  go_end0
  exact ⟨rfl, _, R.1, R.2⟩

theorem cell_new (w : World) (b : UInt8) : ∀ j u, (bys [b])[j]? = some u → (w.alloc (.cells #[.int .u8 (b.toNat : Int)] 5)).cell? ((⟨w.heap.size, 0, none⟩ : Addr).add j) = some u :=
  cell_one_new w (.int .u8 (b.toNat : Int)) 5

/-- One byte that was laid in a block of its own. -/
theorem put_one (B wb : Nat) (v : Value) (l : List UInt8) (b : UInt8) (y : Int) (hy : y = (b.toNat : Int)) (w : World) (h : Wr B w wb v l) (hl : l.length + 1 ≤ 1099511627776) :
    Calls Tryz.prog 114 #[.pointer (some ⟨wb, 0, none⟩), .slice (some ⟨w.heap.size, 0, none⟩) 1 1] (w.alloc (.cells #[.int .u8 y] 5)) fun ev w' => ev = .returned (.tuple #[]) ∧ ∃ v', Wr B w' wb v' (l ++ [b]) ∧ Mv w w' wb v v' := by
  subst hy
  have hA : Below w.heap.size w (w.alloc (.cells #[.int .u8 (b.toNat : Int)] 5)) := (Below.refl _ _).alloc (Nat.le_refl _) _
  refine (put_any B wb 1 1 v l [b] ⟨w.heap.size, 0, none⟩ _ (h.past hA) rfl (cell_new w b) hl).mono ?_
  rintro ev w' ⟨rfl, v', hv, hb⟩
  exact ⟨rfl, v', hv, (Mv.past hA _ _).trans hb⟩

theorem low_byte {n : Nat} (h : n < 128) : (n : Int) = ((UInt8.ofNat n).toNat : Int) := by
  have e : (UInt8.ofNat n).toNat = n := by simp; omega
  rw [e]
theorem more_byte (n : Nat) : bits .or .u8 ((n : Int) % 256) 128 = (((UInt8.ofNat (n % 128 + 128)).toNat : Nat) : Int) := by
  have e : (UInt8.ofNat (n % 128 + 128)).toNat = n % 128 + 128 := by simp; omega
  have h := u8_or_nat (n % 256) 128 (by omega) (by omega)
  rw [e]
  refine Eq.trans ?_ (h.trans ?_)
  · simp
  congr 1
  rcases Nat.lt_or_ge (n % 256) 128 with hlt | hge
  · have : n % 256 ||| 128 = 128 + n % 256 := by
      rw [Nat.or_comm]
      exact (Nat.two_pow_add_eq_or_of_lt (i := 7) hlt 1).symm
    omega
  · obtain ⟨k, hk⟩ : ∃ k, n % 256 = 2 ^ 7 * 1 + k := ⟨n % 256 - 128, by omega⟩
    have hk2 : k < 2 ^ 7 := by omega
    have : n % 256 ||| 128 = n % 256 := by
      rw [hk, Nat.two_pow_add_eq_or_of_lt hk2, Nat.mul_one, Nat.or_assoc, Nat.or_comm k, ← Nat.or_assoc, Nat.or_self]
    omega

set_option maxHeartbeats 2000000 in
set_option maxRecDepth 20000 in
theorem wUint_any (B wb x : Nat) (v : Value) (l : List UInt8) (w : World) (h : Wr B w wb v l) (hx : x < 18446744073709551616) (hl : l.length ≤ 1000000000000) :
    Calls Tryz.prog 113 #[.pointer (some ⟨wb, 0, none⟩), .int .u64 (x : Int)] w fun ev w' => ev = .returned (.tuple #[]) ∧ ∃ v', Wr B w' wb v' (l ++ enc x) ∧ Mv w w' wb v v' := by
  go_enter Tryz.func113, Tryz.ntmps113
  go_wp2_with fail
  go_loopw [1] (fun y wr => ∃ (n : Nat) (v1 : Value) (pre : List UInt8), y = .int .u64 (n : Int) ∧ n ≤ x ∧ pre ++ enc n = enc x ∧ Wr B wr wb v1 (l ++ pre) ∧ Mv w wr wb v v1) (fun y _ => (intOf y).toNat)
  case atStart => exact ⟨x, v, [], rfl, Nat.le_refl _, rfl, by simpa using h, Mv.past (Below.refl _ _) _ _⟩
  case round =>
    obtain ⟨n, v1, pre, rfl, hn, hp, hW, hb⟩ := hrel
    have hlen : (pre ++ enc n).length ≤ 10 := by rw [hp]; exact enc_len_10 hx
    have hpos := enc_pos n
    rw [List.length_append] at hlen
    have HP : Hid (pre ++ enc n = enc x) := hp
    have HB : Hid (Mv w wr wb v v1) := hb
    clear hp hb
    by_cases hlt : 128 ≤ n
    · have H1 := put_one B wb v1 (l ++ pre) (UInt8.ofNat (n % 128 + 128)) _ (more_byte n) wr hW (by simp; omega)
      clear hW h
      go_wp2_with fail
      refine H1.mono ?_
      rintro ev w1 ⟨rfl, v2, hW2, hb2⟩
      clear H1
      go_wp2_with fail
      go_roundw
      case rel =>
        refine ⟨n / 128, v2, pre ++ [UInt8.ofNat (n % 128 + 128)], by go_num, by omega, ?_, by simpa using hW2, HB.out.trans hb2⟩
        rw [← HP.out, enc_ge (show ¬ n < 128 by omega)]; simp
      case measure => simp [intOf]; omega
    · have H2 := put_one B wb v1 (l ++ pre) (UInt8.ofNat n) (n : Int) (low_byte (by omega)) wr hW (by simp; omega)
      clear hW h
      go_wp2_with fail
      refine H2.mono ?_
      rintro ev w1 ⟨rfl, v2, hW2, hb2⟩
      go_wp2_with fail
      go_end0
      refine ⟨rfl, v2, ?_, HB.out.trans hb2⟩
      rw [← HP.out, enc_lt (show n < 128 by omega)]
      simpa using hW2
end Go.Proofs.YtmopffaocamieaaGreat
