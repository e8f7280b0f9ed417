/-
  The texts Eql, Sls, Sub, Shf, joined.
-/
import Derived.Test.YtldbbkheemnnhaaGreatDoorJpMat4
import Derived.Test.YtldbbkheemnnhaaGreatDoorJpByt5
import Derived.Shelf.LaysM
import Derived.Shelf.Strconv.Clone
import Derived.Shelf.Strings.Search1
import Derived.Shelf.Strings.Search2
import Derived.Shelf.Strings.Cut
import Derived.Shelf.Strings.Shaped
namespace Go.Proofs.YtldbbkheemnnhaaGreatDoor
open Go.RowKit
theorem eq_upto {α : Type} {a b : List α} (h : a.length = b.length) (he : ∀ j (ha : j < a.length) (hb : j < b.length), a[j] = b[j]) : a = b := List.ext_getElem h he
theorem not_at {α : Type} {a b : List α} {k : Nat} (ha : k < a.length) (hb : k < b.length) (h : a[k] ≠ b[k]) : a ≠ b := by rintro rfl; exact h rfl
set_option maxHeartbeats 4000000 in
theorem equal_any {K : Ctx} {w : World} {va vb : Value} {la lb : List Bs} (ha : Strs K w va la) (hb : Strs K w vb lb) (B : Bool) (hB : B = true ↔ la = lb) :
  Calls Tryz.prog 239 #[va, vb] w fun ev w' => ev = .returned (.bool B) /\ ∃ m, w' = w.drewN m := by
 obtain ⟨aoA, capA, rfl, hcA, hbA, hA⟩ := ha.shape
 obtain ⟨aoB, capB, rfl, hcB, hbB, hBB⟩ := hb.shape
 have hl9 : la.length <= 9223372036854775807 := by omega
 by_cases hlen : la.length = lb.length
 ·have b1 : ((la.length : Int) != (lb.length : Int)) = false := by simp; omega
  have HA : Hid (∀ i (h : i < la.length), ∃ b o, aoA = some ⟨b, o, none⟩ /\ w.cell? ⟨b, o + i, none⟩ = some (.string (str la[i]))) := by
   intro i h
   obtain ⟨b, o, e, _, cs, hl, hc, hx⟩ := hA i h
   have := hc 0 (by omega)
   rw [hx.1] at this
   exact ⟨b, o, e, by simpa using this⟩
  have HBB : Hid (∀ i (h : i < lb.length), ∃ b o, aoB = some ⟨b, o, none⟩ /\ w.cell? ⟨b, o + i, none⟩ = some (.string (str lb[i]))) := by
   intro i h
   obtain ⟨b, o, e, _, cs, hl, hc, hx⟩ := hBB i h
   have := hc 0 (by omega)
   rw [hx.1] at this
   exact ⟨b, o, e, by simpa using this⟩
  have HB : Hid (B = true ↔ la = lb) := hB
  have HL : Hid (la.length = lb.length) := hlen
  clear hA hBB hB ha hb hbA hbB hlen
  go_enter Tryz.func239, Tryz.ntmps239
  go_wp2_with fail
  go_loopw [13] (fun i wr => ∃ k : Nat, k <= la.length /\ i = .int .i64 k /\ (∀ j (ha : j < la.length) (hb : j < lb.length), j < k -> la[j] = lb[j]) /\ ∃ m, wr = w.drewN m) (fun i _ => la.length - (intOf i).toNat)
  case atStart => exact ⟨0, by omega, rfl, fun j _ _ h => by omega, 0, rfl⟩
  case round =>
   obtain ⟨k, hk, rfl, hj, m, rfl⟩ := hrel
   have HJ : Hid (∀ j (ha : j < la.length) (hb : j < lb.length), j < k -> la[j] = lb[j]) := hj
   clear hj
   by_cases h3 : k < la.length
   ·have h4 : k < lb.length := by rw [← HL.out]; exact h3
    obtain ⟨b, o, e, c1⟩ := HA.out k h3
    obtain ⟨b', o', e', c2⟩ := HBB.out k h4
    subst e e'
    have q := str_beq la[k] lb[k]
    have i1 : (k : Int) < (la.length : Int) := by omega
    have i2 : (k : Int) < (lb.length : Int) := by omega
    by_cases he : la[k] = lb[k]
    ·rw [decide_eq_true he] at q
     have q' : ((str la[k]).toList != (str lb[k]).toList) = false := by rw [bne, q]; rfl
     have HJ' : Hid (∀ j (ha : j < la.length) (hb : j < lb.length), j < k + 1 -> la[j] = lb[j]) := by
      intro j ha hb hjk
      rcases Nat.lt_or_ge j k with h | h
      ·exact HJ.out j ha hb h
      ·obtain rfl : j = k := by omega
       exact he
     clear he
     generalize str la[k] = SA at *
     generalize str lb[k] = SB at *
     go_wp2_with fail
     go_quiet (fail)
     go_wp2_with fail
     go_roundw
     case rel => exact ⟨k + 1, by omega, by go_num, HJ'.out, _, rfl⟩
     case measure => simp [intOf]; omega
    ·rw [decide_eq_false he] at q
     have q' : ((str la[k]).toList != (str lb[k]).toList) = true := by rw [bne, q]; rfl
     have HF : Hid (B = false) := by
      show B = false
      cases hB : B
      ·rfl
      ·exact absurd (HB.out.1 hB) (not_at h3 h4 he)
     clear he
     generalize str la[k] = SA at *
     generalize str lb[k] = SB at *
     go_wp2_with fail
     go_quiet (fail)
     go_wp2_with fail
     go_ret
     exact ⟨by rw [HF.out]; rfl, _, by first | rfl | exact World.drewN_drewN ..⟩
   ·have HF : Hid (B = true) := HB.out.2 (eq_upto HL.out fun j ha hb => HJ.out j ha hb (by omega))
    have i1 : ¬ (k : Int) < (la.length : Int) := by omega
    go_wp2_with fail
    go_ret
    exact ⟨by rw [HF.out]; rfl, _, by first | rfl | exact World.drewN_drewN ..⟩
 ·have b1 : ((la.length : Int) != (lb.length : Int)) = true := by simp; omega
  have HF : Hid (B = false) := by
   show B = false
   cases hB' : B
   ·rfl
   ·exact absurd (congrArg List.length (hB.1 hB')) hlen
  clear hA hBB hB ha hb hbA hbB
  go_enter Tryz.func239, Tryz.ntmps239
  go_wp2_with fail
  go_ret
  exact ⟨by rw [HF.out]; rfl, 0, rfl⟩
end Go.Proofs.YtldbbkheemnnhaaGreatDoor

namespace Go.Proofs.YtldbbkheemnnhaaGreatDoor
open Go.RowKit
set_option maxHeartbeats 4000000 in
theorem sameTypes_of {K : Ctx} {w : World} {n : Nat}
  (ih : ∀ (x y : Ty) (b o b' o' : Nat) (cs cs' : List Value) (m : Nat) (B : Bool), (∀ j, j < 4 -> w.cell? ⟨b, o + j, none⟩ = cs[j]?) -> (∀ j, j < 4 -> w.cell? ⟨b', o' + j, none⟩ = cs'[j]?) -> TyAt n K w cs x -> TyAt n K w cs' y -> (B = true ↔ x = y) ->
   Calls Tryz.prog 216 #[.pointer (some ⟨b, o, none⟩), .pointer (some ⟨b', o', none⟩)] (w.drewN m) fun ev w' => ev = .returned (.bool B) /\ ∃ m', w' = (w.drewN m).drewN m')
  {va vb : Value} {la lb : List Ty} (ha : Ar 4 72 (TyAt n K w) K w va la) (hb : Ar 4 72 (TyAt n K w) K w vb lb) (B : Bool) (hB : B = true ↔ la = lb) :
  Calls Tryz.prog 240 #[va, vb, .func (.func 216) #[] #[]] w fun ev w' => ev = .returned (.bool B) /\ ∃ m, w' = w.drewN m := by
 obtain ⟨aoA, capA, rfl, hcA, hbA, hA⟩ := ha.shape
 obtain ⟨aoB, capB, rfl, hcB, hbB, hBB⟩ := hb.shape
 have hl9 : la.length <= 9223372036854775807 := by omega
 by_cases hlen : la.length = lb.length
 ·have b1 : ((la.length : Int) != (lb.length : Int)) = false := by simp; omega
  have HC : Hid (∀ i (h : i < la.length) (h' : i < lb.length), ∃ b o b' o', aoA = some ⟨b, o, none⟩ /\ aoB = some ⟨b', o', none⟩ /\ ∀ (m : Nat) (B : Bool), (B = true ↔ la[i] = lb[i]) ->
    Calls Tryz.prog 216 #[.pointer (some ⟨b, o + i * 4, none⟩), .pointer (some ⟨b', o' + i * 4, none⟩)] (w.drewN m) fun ev w' => ev = .returned (.bool B) /\ ∃ m', w' = (w.drewN m).drewN m') := by
   intro i h h'
   obtain ⟨b, o, e, _, cs, hl, hc, hx⟩ := hA i h
   obtain ⟨b', o', e', _, cs', hl', hc', hx'⟩ := hBB i h'
   exact ⟨b, o, b', o', e, e', fun m B hB => ih _ _ _ _ _ _ cs cs' m B hc hc' hx hx' hB⟩
  have HB : Hid (B = true ↔ la = lb) := hB
  have HL : Hid (la.length = lb.length) := hlen
  clear hA hBB hB ha hb hbA hbB hlen ih
  go_enter Tryz.func240, Tryz.ntmps240
  go_wp2_with fail
  go_loopw [15] (fun i wr => ∃ k : Nat, k <= la.length /\ i = .int .i64 k /\ (∀ j (ha : j < la.length) (hb : j < lb.length), j < k -> la[j] = lb[j]) /\ ∃ m, wr = w.drewN m) (fun i _ => la.length - (intOf i).toNat)
  case atStart => exact ⟨0, by omega, rfl, fun j _ _ h => by omega, 0, rfl⟩
  case round =>
   obtain ⟨k, hk, rfl, hj, m, hx⟩ := hrel
   have HX : Hid (wr = w.drewN m) := hx
   clear hx
   have HJ : Hid (∀ j (ha : j < la.length) (hb : j < lb.length), j < k -> la[j] = lb[j]) := hj
   clear hj
   by_cases h3 : k < la.length
   ·have h4 : k < lb.length := by rw [← HL.out]; exact h3
    obtain ⟨b, o, b', o', e, e', hcall⟩ := HC.out k h3 h4
    subst e e'
    have i1 : (k : Int) < (la.length : Int) := by omega
    have i2 : (k : Int) < (lb.length : Int) := by omega
    by_cases he : la[k] = lb[k]
    ·have HJ' : Hid (∀ j (ha : j < la.length) (hb : j < lb.length), j < k + 1 -> la[j] = lb[j]) := by
      intro j ha hb hjk
      rcases Nat.lt_or_ge j k with h | h
      ·exact HJ.out j ha hb h
      ·obtain rfl : j = k := by omega
       exact he
     have hc : Hid (∀ n, Calls Tryz.prog 216 #[.pointer (some ⟨b, o + k * 4, none⟩), .pointer (some ⟨b', o' + k * 4, none⟩)] (wr.drewN n) fun ev w' => ev = .returned (.bool true) /\ ∃ m', w' = (wr.drewN n).drewN m') := fun n => by
      rw [HX.out, World.drewN_drewN]; exact hcall (m + n) true ⟨fun _ => he, fun _ => rfl⟩
     clear he hcall HC
     go_wp2_with fail
     go_quiet (exact Calls.quiet_of (hc.out _))
     go_wp2_with fail
     go_roundw
     case rel => exact ⟨k + 1, by omega, by go_num, HJ'.out, _, by rw [HX.out, World.drewN_drewN]⟩
     case measure => simp [intOf]; omega
    ·have HF : Hid (B = false) := by
      show B = false
      cases hB : B
      ·rfl
      ·exact absurd (HB.out.1 hB) (not_at h3 h4 he)
     have hc : Hid (∀ n, Calls Tryz.prog 216 #[.pointer (some ⟨b, o + k * 4, none⟩), .pointer (some ⟨b', o' + k * 4, none⟩)] (wr.drewN n) fun ev w' => ev = .returned (.bool false) /\ ∃ m', w' = (wr.drewN n).drewN m') := fun n => by
      rw [HX.out, World.drewN_drewN]; exact hcall (m + n) false ⟨fun h => (by cases h), fun h => absurd h he⟩
     clear he hcall HC
     go_wp2_with fail
     go_quiet (exact Calls.quiet_of (hc.out _))
     go_wp2_with fail
     go_ret
     exact ⟨by rw [HF.out]; rfl, by first | exact ⟨m, HX.out⟩ | exact ⟨_, by rw [HX.out, World.drewN_drewN]⟩⟩
   ·have HF : Hid (B = true) := HB.out.2 (eq_upto HL.out fun j ha hb => HJ.out j ha hb (by omega))
    have i1 : ¬ (k : Int) < (la.length : Int) := by omega
    go_wp2_with fail
    go_ret
    exact ⟨by rw [HF.out]; rfl, by first | exact ⟨m, HX.out⟩ | exact ⟨_, by rw [HX.out, World.drewN_drewN]⟩⟩
 ·have b1 : ((la.length : Int) != (lb.length : Int)) = true := by simp; omega
  have HF : Hid (B = false) := by
   show B = false
   cases hB' : B
   ·rfl
   ·exact absurd (congrArg List.length (hB.1 hB')) hlen
  clear hA hBB hB ha hb hbA hbB ih
  go_enter Tryz.func240, Tryz.ntmps240
  go_wp2_with fail
  go_ret
  exact ⟨by rw [HF.out]; rfl, 0, rfl⟩
end Go.Proofs.YtldbbkheemnnhaaGreatDoor

namespace Go.Proofs.YtldbbkheemnnhaaGreatDoor
open Go.RowKit
theorem Below.drewN (C : Nat) (w : World) (n : Nat) : Below C w (w.drewN n) := ⟨rfl, rfl, rfl, Nat.le_refl _, fun _ _ => rfl⟩
theorem TyAt.len : ∀ {n : Nat} {K : Ctx} {w : World} {cs : List Value} {t : Ty}, TyAt n K w cs t -> cs.length = 4
 | 0, _, _, _, _, h => h.elim
 | _ + 1, _, _, _, _, h => by obtain ⟨v2, v3, rfl, _⟩ := h; rfl
theorem IsTy.len {K : Ctx} {w : World} {cs : List Value} {t : Ty} (h : IsTy K w cs t) : cs.length = 4 := by obtain ⟨n, h⟩ := h; exact h.len
theorem PlAt.len {K : Ctx} {w : World} {cs : List Value} {t : Pl} (h : PlAt K w cs t) : cs.length = 2 := by obtain ⟨v, rfl, _⟩ := h; rfl
theorem OprAt.len {K : Ctx} {w : World} {cs : List Value} {t : Opr} (h : OprAt K w cs t) : cs.length = 4 := by obtain ⟨ps, rfl, h⟩ := h; simp [h.len]
theorem VaAt.len {K : Ctx} {w : World} {cs : List Value} {t : Va} (h : VaAt K w cs t) : cs.length = 15 := by
 obtain ⟨xa, xb, ps, vn, va, rfl, h1, h2, h3, _⟩ := h; simp [h1.len, h2.len, h3.len]
theorem StAt.len : ∀ {n : Nat} {K : Ctx} {w : World} {cs : List Value} {t : St}, StAt n K w cs t -> cs.length = 32
 | 0, _, _, _, _, h => h.elim
 | _ + 1, _, _, _, _, h => by obtain ⟨ts, ps, vs, os, vt, ve, rfl, _, h1, h2, h3, h4, _⟩ := h; simp [h1.len, h2.len, h3.len, h4.len]
theorem LfeAt.len {K : Ctx} {w : World} {cs : List Value} {t : Lfe} (h : LfeAt K w cs t) : cs.length = 2 := by obtain ⟨v, rfl, _⟩ := h; rfl
theorem FldAt.len {K : Ctx} {w : World} {cs : List Value} {t : Fld} (h : FldAt K w cs t) : cs.length = 6 := by obtain ⟨v, rfl, _, h⟩ := h; simp [h.len]
theorem SctAt.len {K : Ctx} {w : World} {cs : List Value} {t : Sct} (h : SctAt K w cs t) : cs.length = 5 := by obtain ⟨v, v', rfl, _⟩ := h; rfl
theorem FncAt.len {n : Nat} {K : Ctx} {w : World} {cs : List Value} {t : Fnc} (h : FncAt n K w cs t) : cs.length = 10 := by
 obtain ⟨v2, v3, ts, v8, rfl, _, _, _, h, _⟩ := h; simp [h.len]
end Go.Proofs.YtldbbkheemnnhaaGreatDoor

namespace Go.Proofs.YtldbbkheemnnhaaGreatDoor
open Go.Shelf
def Tryz.laysM316_ren : Go.Shelf.Ren := ⟨fun | 316 => 77 | n => n, fun | 9 => 9 | 3 => 3 | 4 => 4 | 37 => 177 | 0 => 0 | 127 => 178 | 5 => 5 | n => n, fun | n => n⟩
theorem Tryz.laysM316 : Go.Proofs.LaysM.n316 Tryz.prog Tryz.laysM316_ren := {
  mixed := by kernel_rfl
  f316 := Tryz.func77.trans (congrArg some (by kernel_rfl))
  t0 := Tryz.underlying0
  a0 := Tryz.isAgg0
  z0 := Tryz.sizeOf0
  v0 := Tryz.zeroValue0
  t3 := Tryz.underlying3
  a3 := Tryz.isAgg3
  z3 := Tryz.sizeOf3
  v3 := Tryz.zeroValue3
  t4 := Tryz.underlying4
  a4 := Tryz.isAgg4
  z4 := Tryz.sizeOf4
  v4 := Tryz.zeroValue4
  t9 := Tryz.underlying9
  a9 := Tryz.isAgg9
  z9 := Tryz.sizeOf9
  v9 := Tryz.zeroValue9
  t37 := Tryz.underlying177
  a37 := Tryz.isAgg177
  z37 := Tryz.sizeOf177
  v37 := Tryz.zeroValue177
  t127 := Tryz.underlying178
  a127 := Tryz.isAgg178
  z127 := Tryz.sizeOf178
  v127 := Tryz.zeroValue178
  t5 := Tryz.underlying5
  a5 := Tryz.isAgg5
  z5 := Tryz.sizeOf5
  v5 := Tryz.zeroValue5
  i0 := by kernel_rfl
  i3 := by kernel_rfl
  i4 := by kernel_rfl
  i5 := by kernel_rfl
  i9 := by kernel_rfl
  i37 := by kernel_rfl
  i127 := by kernel_rfl }
open Go.RowKit in
theorem Tryz.stringslite_Clone (s : ByteArray) (w : World) (hlim : s.size ≤ 281474976710656) :
    Calls Tryz.prog 77 #[.string s] w fun e w' => e = .returned (.string s) ∧ Below w.heap.size w w' := Any.stringslite_Clone Tryz.laysM316 s w hlim
def Tryz.lays145_ren : Go.Shelf.Ren := ⟨fun | 145 => 238 | 220 => 253 | 219 => 252 | 217 => 256 | 225 => 257 | 224 => 258 | 267 => 259 | 266 => 260 | 314 => 261 | n => n, fun | 9 => 9 | 4 => 4 | 59 => 313 | 3 => 3 | 5 => 5 | 46 => 340 | 146 => 342 | 51 => 341 | n => n, fun | n => n⟩
theorem Tryz.lays145 : Go.Proofs.Lays.n145 Tryz.prog Tryz.lays145_ren := {
  mixed := by kernel_rfl
  f145 := Tryz.func238.trans (congrArg some (by kernel_rfl))
  f217 := Tryz.func256.trans (congrArg some (by kernel_rfl))
  f219 := Tryz.func252.trans (congrArg some (by kernel_rfl))
  f220 := Tryz.func253.trans (congrArg some (by kernel_rfl))
  f224 := Tryz.func258.trans (congrArg some (by kernel_rfl))
  f225 := Tryz.func257.trans (congrArg some (by kernel_rfl))
  f266 := Tryz.func260.trans (congrArg some (by kernel_rfl))
  f267 := Tryz.func259.trans (congrArg some (by kernel_rfl))
  f314 := Tryz.func261.trans (congrArg some (by kernel_rfl))
  t3 := Tryz.underlying3
  a3 := Tryz.isAgg3
  z3 := Tryz.sizeOf3
  v3 := Tryz.zeroValue3
  t4 := Tryz.underlying4
  a4 := Tryz.isAgg4
  z4 := Tryz.sizeOf4
  v4 := Tryz.zeroValue4
  t5 := Tryz.underlying5
  a5 := Tryz.isAgg5
  z5 := Tryz.sizeOf5
  v5 := Tryz.zeroValue5
  t9 := Tryz.underlying9
  a9 := Tryz.isAgg9
  z9 := Tryz.sizeOf9
  v9 := Tryz.zeroValue9
  t46 := Tryz.underlying340
  a46 := Tryz.isAgg340
  z46 := Tryz.sizeOf340
  v46 := Tryz.zeroValue340
  t51 := Tryz.underlying341
  a51 := Tryz.isAgg341
  z51 := Tryz.sizeOf341
  v51 := Tryz.zeroValue341
  t59 := Tryz.underlying313
  a59 := Tryz.isAgg313
  z59 := Tryz.sizeOf313
  v59 := Tryz.zeroValue313
  t146 := Tryz.underlying342
  a146 := Tryz.isAgg342
  z146 := Tryz.sizeOf342
  v146 := Tryz.zeroValue342
  g1 := by kernel_rfl }
open Go.RowKit Go.Lib in
theorem Tryz.strings_Cut (s sep : ByteArray) (m : Int) (w : World) (hs : s.size < 4294967281) (hm : w.cell? ⟨1, 0, none⟩ = some (.int .i64 m)) :
    Calls Tryz.prog 238 #[.string s, .string sep] w fun e w' => e = .returned (.tuple #[.string ⟨(Lib.cut s.data.toList sep.data.toList).1.toArray⟩, .string ⟨(Lib.cut s.data.toList sep.data.toList).2.1.toArray⟩, .bool (Lib.cut s.data.toList sep.data.toList).2.2]) ∧ ∃ n, w' = w.drewN n := Any.strings_Cut Tryz.lays145 s sep m w hs hm
def Tryz.laysM145_ren : Go.Shelf.Ren := ⟨fun | 145 => 238 | 220 => 253 | 219 => 252 | 217 => 256 | 225 => 257 | 224 => 258 | 267 => 259 | 266 => 260 | 314 => 261 | n => n, fun | 9 => 9 | 4 => 4 | 59 => 313 | 3 => 3 | 5 => 5 | 46 => 340 | 146 => 342 | 51 => 341 | n => n, fun | n => n⟩
end Go.Proofs.YtldbbkheemnnhaaGreatDoor
