/-
  A thing of the statements' lists, as it is read out of an argument.
-/
import Derived.Test.YtkgmjhchefkmaaaOpn
import Derived.Test.YtkgmjhchefkmaaaWrt
namespace Go.Proofs.Ytkgmjhchefkmaaa
open Go.ChangeShapes Go.WideShapes Go.ChangeAt Go.RowKit

section
variable {H : Type} {enc : TypeId × Value → H} {w : World} {base : Nat} {spare : Nat → Bool} {held : Bool} {fuel : Nat} {x : DataW H × List MemPlace}

theorem u8_in {a : Int} (h : (Lit.int .u8 a).wf = true) : 0 ≤ a ∧ a < 256 := by
  have e1 : IntKind.u8.min = 0 := by decide
  have e2 : IntKind.u8.max = 255 := by decide
  simp [Lit.wf, e1, e2] at h; omega

theorem Try.cells27 : Try.prog.cellsOf 27 = 32 := by kernel_rfl
theorem Try.cells29 : Try.prog.cellsOf 29 = 38 := by kernel_rfl
theorem Try.cells3 : Try.prog.cellsOf 3 = 1 := by kernel_rfl
theorem Try.cells25 : Try.prog.cellsOf 25 = 1 := by kernel_rfl
theorem Try.cells4 : Try.prog.cellsOf 4 = 1 := by kernel_rfl
theorem Try.cells9 : Try.prog.cellsOf 9 = 1 := by kernel_rfl
theorem Try.cells5 : Try.prog.cellsOf 5 = 1 := by kernel_rfl

/-- One cell at its place. -/
theorem one_at {cs : List Value} {j : Nat} {v : Value} (h : (cs.drop j).take 1 = [v]) : cs[j]? = some v := by
  have := congrArg (fun l => l[0]?) h
  simpa [List.getElem?_take, List.getElem?_drop] using this

/-- A row of bytes. -/
theorem hash_of_trod {cs : List Value} (h : DataW.trod enc Try.prog w base spare held fuel 27 cs = some x) : ∃ l : List UInt8, l.length = 32 ∧ cs = bys l := by
  obtain ⟨xs, m, _, _, hl, hlen, hf⟩ := DataW.trod_array Try.underlying27 h
  rw [Try.cells27] at hl
  have key : ∀ i, i < 32 → ∃ b : UInt8, cs[i]? = some (.int .u8 (b.toNat : Int)) := by
    intro i hi
    have hi' := hf i hi
    rw [Try.cells5, Nat.mul_one, List.getElem?_eq_getElem (by omega)] at hi'
    obtain ⟨n, hn, _, hw⟩ := DataW.trod_int Try.underlying5 hi'
    obtain ⟨h0, h1⟩ := u8_in hw
    refine ⟨UInt8.ofNat n.toNat, ?_⟩
    rw [one_at hn]
    have : ((UInt8.ofNat n.toNat).toNat : Int) = n := by simp; omega
    rw [this]
  refine ⟨cs.map (fun | .int _ n => UInt8.ofNat n.toNat | _ => 0), by simp [hl], ?_⟩
  apply List.ext_getElem?
  intro i
  rcases Nat.lt_or_ge i 32 with hi | hi
  · obtain ⟨b, hb⟩ := key i hi
    simp [bys, hb]
  · rw [List.getElem?_eq_none (by omega), List.getElem?_eq_none (by simp [bys]; omega)]

theorem op_of_trod {cs : List Value} (h : DataW.trod enc Try.prog w base spare held fuel 29 cs = some x) : ∃ o : Opv, o.ok ∧ o.s.size ≤ 9223372036854775807 ∧ cs = o.cells := by
  obtain ⟨xs, n, _, _, hl, hlen, hf⟩ := DataW.trod_struct Try.underlying29 h
  have hlen7 : xs.length = 7 := hlen
  rw [Try.cells29] at hl
  have f0 : DataW.trod enc Try.prog w base spare held n 3 ((cs.drop 0).take (Try.prog.cellsOf 3)) = xs[0]? := hf 0 _ rfl
  have f1 : DataW.trod enc Try.prog w base spare held n 3 ((cs.drop 1).take (Try.prog.cellsOf 3)) = xs[1]? := hf 1 _ rfl
  have f2 : DataW.trod enc Try.prog w base spare held n 3 ((cs.drop 2).take (Try.prog.cellsOf 3)) = xs[2]? := hf 2 _ rfl
  have f3 : DataW.trod enc Try.prog w base spare held n 25 ((cs.drop 3).take (Try.prog.cellsOf 25)) = xs[3]? := hf 3 _ rfl
  have f4 : DataW.trod enc Try.prog w base spare held n 4 ((cs.drop 4).take (Try.prog.cellsOf 4)) = xs[4]? := hf 4 _ rfl
  have f5 : DataW.trod enc Try.prog w base spare held n 9 ((cs.drop 5).take (Try.prog.cellsOf 9)) = xs[5]? := hf 5 _ rfl
  have f6 : DataW.trod enc Try.prog w base spare held n 27 ((cs.drop 6).take (Try.prog.cellsOf 27)) = xs[6]? := hf 6 _ rfl
  simp only [Try.cells3, Try.cells25, Try.cells4, Try.cells9, Try.cells27] at f0 f1 f2 f3 f4 f5 f6
  rw [List.getElem?_eq_getElem (by omega)] at f0
  rw [List.getElem?_eq_getElem (by omega)] at f1
  rw [List.getElem?_eq_getElem (by omega)] at f2
  rw [List.getElem?_eq_getElem (by omega)] at f3
  rw [List.getElem?_eq_getElem (by omega)] at f4
  rw [List.getElem?_eq_getElem (by omega)] at f5
  rw [List.getElem?_eq_getElem (by omega)] at f6
  obtain ⟨a0, g0, _, w0⟩ := DataW.trod_int Try.underlying3 f0
  obtain ⟨a1, g1, _, w1⟩ := DataW.trod_int Try.underlying3 f1
  obtain ⟨a2, g2, _, w2⟩ := DataW.trod_int Try.underlying3 f2
  obtain ⟨a3, g3, _, w3⟩ := DataW.trod_int Try.underlying25 f3
  obtain ⟨a4, g4, _⟩ := DataW.trod_bool Try.underlying4 f4
  obtain ⟨a5, g5, _, w5⟩ := DataW.trod_string Try.underlying9 f5
  obtain ⟨a6, h6, g6⟩ := hash_of_trod f6
  obtain ⟨b0, b0'⟩ := i64_in w0
  obtain ⟨b1, b1'⟩ := i64_in w1
  obtain ⟨b2, b2'⟩ := i64_in w2
  obtain ⟨b3, b3'⟩ := u64_in w3
  obtain ⟨m3, rfl⟩ := Int.eq_ofNat_of_zero_le b3
  refine ⟨⟨a0, a1, a2, m3, a4, a5, a6⟩, ⟨b0, b0', b1, b1', b2, b2', by show m3 < _; omega, h6⟩, w5, ?_⟩
  have hcs : cs = cs.take 6 ++ cs.drop 6 := (List.take_append_drop 6 cs).symm
  have ht : (cs.drop 6).take 32 = cs.drop 6 := List.take_of_length_le (by simp; omega)
  rw [ht] at g6
  rw [hcs, g6]
  unfold Opv.cells
  congr 1
  have e0 := one_at g0
  have e1 := one_at g1
  have e2 := one_at g2
  have e3 := one_at g3
  have e4 := one_at g4
  have e5 := one_at g5
  match cs, hl with
  | c0 :: c1 :: c2 :: c3 :: c4 :: c5 :: r, _ =>
    simp at e0 e1 e2 e3 e4 e5
    simp [e0, e1, e2, e3, e4, e5]
end
end Go.Proofs.Ytkgmjhchefkmaaa
