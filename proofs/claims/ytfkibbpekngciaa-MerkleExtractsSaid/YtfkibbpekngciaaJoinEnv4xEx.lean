/-
  The texts Env, Opn, Opl, Opf, joined.
-/
import Derived.Test.YtfkibbpekngciaaJoinChk2xEx
import Derived.Test.YtfkibbpekngciaaQExXsm
import Derived.Test.YtfkibbpekngciaaJoinNum2xEx
import Derived.WalkKit
import Derived.ProofKit
import Derived.OpenShut
import Derived.ChangeMaps5
import Derived.Test.YtfkibbpekngciaaJoinLsm3xEx
import Derived.ChangeSlices
import Derived.Test.YtfkibbpekngciaaQExSme
/- SHA-256 is such a sum. -/
namespace Go.Proofs.Ytfkibbpekngciaa
open Go.RowKit

theorem sumF_len (l : Bys) : (sumF l).length = 32 := rfl
theorem root3 (F : Bys → Bys) : root F L3 = F (rootT 3 (F (1 :: (F (1 :: (F [0, 1] ++ F [0, 2])) ++ F [0, 3])))) := by
  rw [root_some F L3 (by decide), tree_two F L3 (by decide)]
  have e : half L3.length = 2 := half3
  rw [e]
  have e1 : L3.take 2 = [[1], [2]] := rfl
  have e2 : L3.drop 2 = [[3]] := rfl
  rw [e1, e2, tree_two F [[1], [2]] (by decide), tree_one F [[3]] (by decide)]
  have e3 : half ([[1], [2]] : List Bys).length = 1 := half2
  rw [e3]
  have e4 : ([[1], [2]] : List Bys).take 1 = [[1]] := rfl
  have e5 : ([[1], [2]] : List Bys).drop 1 = [[2]] := rfl
  rw [e4, e5, tree_one F [[1]] (by decide), tree_one F [[2]] (by decide)]
  rfl
theorem texts30 (F : Bys → Bys) : lastT (texts F [2] 0 3 (path F L3 0)) = rootT 3 (F (1 :: (F (1 :: (F [0, 2] ++ F [0, 2])) ++ F [0, 3]))) := by
  have hp : path F L3 0 = [F [0, 2], F [0, 3]] := by
    unfold path
    have e : L3.length = 3 := rfl
    rw [e, downs30]
    show [tree F [[2]], tree F [[3]]] = _
    rw [tree_one F [[2]] (by decide), tree_one F [[3]] (by decide)]
    rfl
  have hl : lefts 0 3 = [false, false] := by
    unfold lefts
    rw [downs30]; rfl
  rw [texts_last, hp, hl]
  rfl
set_option maxRecDepth 100000 in
theorem apart_fact : (sumF (rootT 3 (sumF (1 :: (sumF (1 :: (sumF [0, 2] ++ sumF [0, 2])) ++ sumF [0, 3])))) == sumF (rootT 3 (sumF (1 :: (sumF (1 :: (sumF [0, 1] ++ sumF [0, 2])) ++ sumF [0, 3]))))) = false := by kernel_rfl
theorem env2 : Env2 sumF := by
  refine ⟨⟨sumF_len, fun w v l h hl => sum_any w v l h (by omega)⟩, fun w v l h hl => xsum_any w v l h hl, ?_⟩
  rw [texts30, root3]
  have := apart_fact
  simpa using this
end Go.Proofs.Ytfkibbpekngciaa

/- How the statements' arguments are read: integers, hashes, texts. -/
namespace Go.Proofs.Ytfkibbpekngciaa
open Go.ChangeShapes Go.WideShapes Go.ChangeAt Go.RowKit

theorem Try.own : ownKnob Try.prog.godebug = none := by kernel_rfl
theorem Try.laidOut : laidOutB Try.prog = true := by kernel_rfl
theorem u8_in {a : Int} (h : (Lit.int .u8 a).wf = true) : 0 ≤ a ∧ a < 256 := by
  have e1 : IntKind.u8.min = 0 := by decide
  have e2 : IntKind.u8.max = 255 := by decide
  simp [Lit.wf, e1, e2] at h; omega
theorem i64_in {a : Int} (h : (Lit.int .i64 a).wf = true) : -9223372036854775808 ≤ a ∧ a ≤ 9223372036854775807 := by
  have e1 : IntKind.i64.min = -9223372036854775808 := by decide
  have e2 : IntKind.i64.max = 9223372036854775807 := by decide
  simp [Lit.wf, e1, e2] at h; omega
theorem Try.cells26 : Try.prog.cellsOf 26 = 32 := by kernel_rfl
theorem Try.cells5 : Try.prog.cellsOf 5 = 1 := by kernel_rfl
theorem one_at {cs : List Value} {j : Nat} {v : Value} (h : (cs.drop j).take 1 = [v]) : cs[j]? = some v := by
  have := congrArg (fun l => l[0]?) h
  simpa [List.getElem?_take, List.getElem?_drop] using this

section
variable {H : Type} {enc : TypeId × Value → H} {w : World} {base : Nat} {spare : Nat → Bool} {held : Bool} {fuel : Nat} {x : DataW H × List MemPlace}
/-- A row of bytes. -/
theorem hash_of_trod {cs : List Value} (h : DataW.trod enc Try.prog w base spare held fuel 26 cs = some x) : ∃ l : List UInt8, l.length = 32 ∧ cs = bys l := by
  obtain ⟨xs, m, _, _, hl, hlen, hf⟩ := DataW.trod_array Try.underlying26 h
  rw [Try.cells26] at hl
  have key : ∀ i, i < 32 → ∃ b : UInt8, cs[i]? = some (.int .u8 (b.toNat : Int)) := by
    intro i hi
    have hi' := hf i hi
    rw [Try.cells5, Nat.mul_one, List.getElem?_eq_getElem (by omega)] at hi'
    obtain ⟨n, hn, _, hw⟩ := DataW.trod_int Try.underlying5 hi'
    obtain ⟨h0, h1⟩ := u8_in hw
    refine ⟨UInt8.ofNat n.toNat, ?_⟩
    rw [one_at hn]
    have : ((UInt8.ofNat n.toNat).toNat : Int) = n := by simp; omega
    rw [this]
  refine ⟨cs.map (fun | .int _ n => UInt8.ofNat n.toNat | _ => 0), by simp [hl], ?_⟩
  apply List.ext_getElem?
  intro i
  rcases Nat.lt_or_ge i 32 with hi | hi
  · obtain ⟨b, hb⟩ := key i hi
    simp [bys, hb]
  · rw [List.getElem?_eq_none (by omega), List.getElem?_eq_none (by simp [bys]; omega)]
end

set_option maxRecDepth 100000 in
theorem open_hash {H : Type} {enc : TypeId × Value → H} {W : World} {base : Nat} {v : Value} {d : DataW H} {p : List MemPlace} (hv : Value.okWide Try.prog W .any base 26 v) (h : DataW.Trod enc Try.prog W 0 (fun _ => true) true 26 v d p) :
    ∃ l : List UInt8, l.length = 32 ∧ v = .agg (bys l).toArray := by
  obtain ⟨cs, rfl⟩ : ∃ cs, v = .agg cs := by
    simp only [Value.okWide, Try.underlying26] at hv
    cases v <;> simp_all
  obtain ⟨fuel, hf⟩ := h
  obtain ⟨l, hl, hcs⟩ := hash_of_trod hf
  refine ⟨l, hl, ?_⟩
  rw [← hcs]; simp [Value.cells]
end Go.Proofs.Ytfkibbpekngciaa

/- A list of bytes, as it comes in. -/
namespace Go.Proofs.Ytfkibbpekngciaa
open Go.ChangeShapes Go.WideShapes Go.ChangeAt Go.RowKit

theorem Try.cells39 : Try.prog.cellsOf 39 = 1 := by kernel_rfl
/-- The slice v holds n slices, which hold f 0, f 1 and so on. -/
structure Lf (w : World) (v : Value) (n : Nat) (f : Nat → List UInt8) (fv : Nat → Value) : Prop where
  max : n ≤ 9223372036854775807
  shape : (∃ ao cap, v = .slice ao n cap ∧ n = 0) ∨ ∃ b off cap, v = .slice (some ⟨b, off, none⟩) n cap ∧ n ≤ cap ∧ ∀ i, i < n → w.cell? ⟨b, off + i, none⟩ = some (fv i)
  each : ∀ i, i < n → Sl w (fv i) (f i) ∧ (f i).length ≤ 9223372036854775807
theorem Lf.below {w w' : World} {v : Value} {n : Nat} {f : Nat → List UInt8} {fv : Nat → Value} (h : Lf w v n f fv) (hb : Below w.heap.size w w') : Lf w' v n f fv := by
  refine ⟨h.max, ?_, fun i hi => ⟨(h.each i hi).1.below hb, (h.each i hi).2⟩⟩
  rcases h.shape with h | ⟨b, off, cap, rfl, hcap, hc⟩
  · exact .inl h
  · refine .inr ⟨b, off, cap, rfl, hcap, fun i hi => ?_⟩
    rw [hb.cell (p := ⟨b, off + i, none⟩) (World.block_lt_of_cell? w _ (hc i hi))]
    exact hc i hi
section
variable {H : Type} {enc : TypeId × Value → H} {W : World} {fuel : Nat} {x : DataW H × List MemPlace}
theorem sl_of_trod {cs : List Value} (h : DataW.trod enc Try.prog W 0 (fun _ => true) true fuel 39 cs = some x) : ∃ v l, cs = [v] ∧ Sl W v l ∧ l.length ≤ 9223372036854775807 := by
  rcases open_ints Try.underlying39 Try.underlying5 Try.cells5 h with ⟨hcs, hx⟩ | ⟨a, len, cap, zs, hcs, _, hl, hm, hz, hx, hcell, hwz⟩
  · exact ⟨_, [], hcs, ⟨.inl ⟨none, rfl, rfl⟩⟩, by simp⟩
  · simp only [if_true] at hz
    unfold maxLen at hm
    have hlen : ((zs.take len).map fun n => UInt8.ofNat n.toNat).length = len := by rw [List.length_map, List.length_take]; omega
    refine ⟨_, (zs.take len).map fun n => UInt8.ofNat n.toNat, hcs, ⟨?_⟩, by omega⟩
    rcases Nat.eq_zero_or_pos cap with h0 | h0
    · obtain rfl : len = 0 := by omega
      subst h0
      exact .inl ⟨some a, rfl, by simp⟩
    · obtain ⟨b, off, spot⟩ := a
      have hspot : spot = none := by
        have := hcell 0 (by omega)
        simpa [Addr.add] using World.cell?_spot this
      subst hspot
      refine .inr ⟨b, off, cap, by rw [hlen], by omega, fun i hi => ?_⟩
      have hi' : i < len := by omega
      have hc := hcell i (by omega)
      rw [addr_add] at hc
      rw [hc]
      have hiz : i < zs.length := by omega
      have hw := u8_in (hwz (zs[i]) (List.getElem_mem hiz))
      have e : ((zs.take len).map fun n => UInt8.ofNat n.toNat).getD i 0 = UInt8.ofNat (zs[i]).toNat := by
        simp [List.getD, hi', List.getElem?_eq_getElem hiz]
      have e2 : ((UInt8.ofNat (zs[i]).toNat).toNat : Int) = zs[i] := by simp; omega
      rw [e, e2]
      simp [List.getD, List.getElem?_eq_getElem hiz]
end

set_option maxRecDepth 100000 in
theorem open_lf {H : Type} {enc : TypeId × Value → H} {W : World} {base : Nat} {v : Value} {d : DataW H} {p : List MemPlace} (hv : Value.okWide Try.prog W .any base 22 v) (h : DataW.Trod enc Try.prog W 0 (fun _ => true) true 22 v d p) :
    ∃ n f fv, Lf W v n f fv := by
  obtain ⟨a0, len, cap, rfl⟩ := okWide_slice Try.underlying22 hv
  obtain ⟨fuel, hf⟩ := h
  rcases DataW.trod_slice Try.underlying22 hf with ⟨hcs, _⟩ | ⟨a, len', cap', elems, rest, m, _, hcs, _, _, hlc, hcm, hel, hcell, _⟩
  · simp [Value.cells] at hcs
    obtain ⟨rfl, rfl, rfl⟩ := hcs
    exact ⟨0, fun _ => [], fun _ => undef, ⟨by omega, .inl ⟨none, 0, rfl, rfl⟩, fun i hi => by omega⟩⟩
  · simp [Value.cells] at hcs
    obtain ⟨rfl, rfl, rfl⟩ := hcs
    rw [Try.cells39] at hcell
    have key : ∀ i, i < len → ∃ q : Value × List UInt8, Sl W q.1 q.2 ∧ q.2.length ≤ 9223372036854775807 ∧ W.cell? (a.add i) = some q.1 := by
      intro i hi
      have hc := hcell i hi
      rw [List.getElem?_eq_getElem (by omega)] at hc
      obtain ⟨cs, h1, h2⟩ := Option.bind_eq_some_iff.1 hc
      obtain ⟨u, l, rfl, hs, hl⟩ := sl_of_trod h2
      refine ⟨(u, l), hs, hl, ?_⟩
      obtain ⟨_, _, he⟩ := World.cells?_some h1
      have := he 0 (by omega)
      rw [Nat.mul_one] at this
      simpa [Addr.add] using this
    obtain ⟨q, hq⟩ : ∃ q : Nat → Value × List UInt8, ∀ i, i < len → Sl W (q i).1 (q i).2 ∧ (q i).2.length ≤ 9223372036854775807 ∧ W.cell? (a.add i) = some (q i).1 := by
      refine ⟨fun i => if h : i < len then (key i h).choose else (undef, []), fun i hi => ?_⟩
      simp only [dif_pos hi]
      exact (key i hi).choose_spec
    unfold maxLen at hcm
    refine ⟨len, fun i => (q i).2, fun i => (q i).1, ⟨by omega, ?_, fun i hi => ⟨(hq i hi).1, (hq i hi).2.1⟩⟩⟩
    rcases Nat.eq_zero_or_pos len with h0 | h0
    · exact .inl ⟨_, cap, rfl, h0⟩
    · obtain ⟨b, off, spot⟩ := a
      have hspot : spot = none := by
        have := (hq 0 h0).2.2
        simpa [Addr.add] using World.cell?_spot this
      subst hspot
      refine .inr ⟨b, off, cap, rfl, hlc, fun i hi => ?_⟩
      have := (hq i hi).2.2
      rwa [addr_add] at this
set_option maxRecDepth 100000 in
theorem open_ls {H : Type} {enc : TypeId × Value → H} {W : World} {base : Nat} {v : Value} {d : DataW H} {p : List MemPlace} (hv : Value.okWide Try.prog W .any base 22 v) (h : DataW.Trod enc Try.prog W 0 (fun _ => true) true 22 v d p) :
    ∃ L, Ls W v L ∧ L.length ≤ 9223372036854775807 ∧ ∀ b ∈ L, b.length ≤ 9223372036854775807 := by
  obtain ⟨n, f, fv, hL⟩ := open_lf hv h
  have hg : ∀ i, i < n → ((List.range n).map f).getD i [] = f i := fun i hi => by simp [List.getD, hi]
  refine ⟨(List.range n).map f, ⟨?_⟩, by simpa using hL.max, fun b hb => ?_⟩
  · rcases hL.shape with ⟨ao, cap, rfl, rfl⟩ | ⟨b, off, cap, rfl, hcap, hc⟩
    · exact .inl ⟨ao, cap, rfl, rfl⟩
    · refine .inr ⟨b, off, cap, fv, by simp, by simpa using hcap, fun i hi => ?_⟩
      have hi' : i < n := by simpa using hi
      rw [hg i hi']
      exact ⟨hc i hi', (hL.each i hi').1⟩
  · obtain ⟨i, hi, rfl⟩ := List.mem_map.1 hb
    exact (hL.each i (by simpa using hi)).2
end Go.Proofs.Ytfkibbpekngciaa

/- A proof, as it comes in. -/
namespace Go.Proofs.Ytfkibbpekngciaa
open Go.ChangeShapes Go.WideShapes Go.ChangeAt Go.RowKit

theorem Try.cells30 : Try.prog.cellsOf 30 = 3 := by kernel_rfl
theorem Try.cells3 : Try.prog.cellsOf 3 = 1 := by kernel_rfl
theorem Try.cells28 : Try.prog.cellsOf 28 = 1 := by kernel_rfl
section
variable {H : Type} {enc : TypeId × Value → H} {W : World} {fuel : Nat} {x : DataW H × List MemPlace}
theorem hs_of_trod {cs : List Value} (h : DataW.trod enc Try.prog W 0 (fun _ => true) true fuel 28 cs = some x) : ∃ v P, cs = [v] ∧ Hs W v P ∧ P.length ≤ 9223372036854775807 := by
  rcases DataW.trod_slice Try.underlying28 h with ⟨hcs, _⟩ | ⟨a, len, cap, elems, rest, m, _, hcs, _, _, hlc, hcm, hel, hcell, _⟩
  · exact ⟨_, [], hcs, ⟨fun p hp => by simp at hp, .inl ⟨none, 0, rfl, rfl⟩⟩, by simp⟩
  · rw [Try.cells26] at hcell
    have key : ∀ i, i < len → ∃ q : List UInt8, q.length = 32 ∧ ∀ j u, (bys q)[j]? = some u → W.cell? ((a.add (i * 32)).add j) = some u := by
      intro i hi
      have hc := hcell i hi
      rw [List.getElem?_eq_getElem (by omega)] at hc
      obtain ⟨cs', h1, h2⟩ := Option.bind_eq_some_iff.1 hc
      obtain ⟨q, h32, rfl⟩ := hash_of_trod h2
      refine ⟨q, h32, fun j u hj => ?_⟩
      obtain ⟨_, hl, he⟩ := World.cells?_some h1
      have hj' : j < 32 := by
        have := (List.getElem?_eq_some_iff.1 hj).1
        rw [bys_len, h32] at this; exact this
      rw [he j hj', hj]
    obtain ⟨q, hq⟩ : ∃ q : Nat → List UInt8, ∀ i, i < len → (q i).length = 32 ∧ ∀ j u, (bys (q i))[j]? = some u → W.cell? ((a.add (i * 32)).add j) = some u := by
      refine ⟨fun i => if h : i < len then (key i h).choose else [], fun i hi => ?_⟩
      simp only [dif_pos hi]
      exact (key i hi).choose_spec
    unfold maxLen at hcm
    have hlenP : ((List.range len).map q).length = len := by simp
    have h32 : ∀ p ∈ (List.range len).map q, p.length = 32 := fun p hp => by
      obtain ⟨i, hi, rfl⟩ := List.mem_map.1 hp
      exact (hq i (by simpa using hi)).1
    refine ⟨_, (List.range len).map q, hcs, ⟨h32, ?_⟩, by omega⟩
    rcases Nat.eq_zero_or_pos len with h0 | h0
    · exact .inl ⟨some a, cap, by rw [h0], by simp [h0]⟩
    · obtain ⟨b, off, spot⟩ := a
      have hspot : spot = none := by
        have h32' := (hq 0 h0).1
        have hb0 : (bys (q 0))[0]? = some ((bys (q 0))[0]'(by rw [bys_len]; omega)) := List.getElem?_eq_getElem _
        have := (hq 0 h0).2 0 _ hb0
        simpa [Addr.add] using World.cell?_spot this
      subst hspot
      refine .inr ⟨b, off, cap, by rw [hlenP], by omega, fun j u hj => ?_⟩
      have hj1 : j < len * 32 := by
        have := (List.getElem?_eq_some_iff.1 hj).1
        rw [rows26_len _ h32, hlenP] at this; exact this
      have hd : j / 32 < len := by omega
      have e := flat_get _ h32 (j / 32) (j % 32) (by rw [hlenP]; exact hd) (by omega)
      rw [show j / 32 * 32 + j % 32 = j by omega, hj] at e
      have eg : ((List.range len).map q).getD (j / 32) [] = q (j / 32) := by simp [List.getD, hd]
      rw [eg] at e
      have := (hq (j / 32) hd).2 (j % 32) u e.symm
      rw [addr_add, addr_add] at this
      rw [show off + j = off + j / 32 * 32 + j % 32 by omega]
      exact this
theorem proof_of_trod {cs : List Value} (h : DataW.trod enc Try.prog W 0 (fun _ => true) true fuel 30 cs = some x) : ∃ (i n : Int) (v : Value) (P : List Bys), cs = [.int .i64 i, .int .i64 n, v] ∧ Hs W v P ∧ P.length ≤ 9223372036854775807 ∧ (-9223372036854775808 ≤ i ∧ i ≤ 9223372036854775807) ∧ (-9223372036854775808 ≤ n ∧ n ≤ 9223372036854775807) := by
  obtain ⟨xs, n, _, _, hl, hlen, hf⟩ := DataW.trod_struct Try.underlying30 h
  have hlen3 : xs.length = 3 := hlen
  rw [Try.cells30] at hl
  have f0 : DataW.trod enc Try.prog W 0 (fun _ => true) true n 3 ((cs.drop 0).take (Try.prog.cellsOf 3)) = xs[0]? := hf 0 _ rfl
  have f1 : DataW.trod enc Try.prog W 0 (fun _ => true) true n 3 ((cs.drop 1).take (Try.prog.cellsOf 3)) = xs[1]? := hf 1 _ rfl
  have f2 : DataW.trod enc Try.prog W 0 (fun _ => true) true n 28 ((cs.drop 2).take (Try.prog.cellsOf 28)) = xs[2]? := hf 2 _ rfl
  simp only [Try.cells3, Try.cells28] at f0 f1 f2
  rw [List.getElem?_eq_getElem (by omega)] at f0
  rw [List.getElem?_eq_getElem (by omega)] at f1
  rw [List.getElem?_eq_getElem (by omega)] at f2
  obtain ⟨i, g0, _, w0⟩ := DataW.trod_int Try.underlying3 f0
  obtain ⟨m, g1, _, w1⟩ := DataW.trod_int Try.underlying3 f1
  obtain ⟨v, P, g2, hs, hP⟩ := hs_of_trod f2
  refine ⟨i, m, v, P, ?_, hs, hP, i64_in w0, i64_in w1⟩
  have e0 := one_at g0
  have e1 := one_at g1
  have e2 := one_at g2
  clear hf f0 f1 f2 h g0 g1 g2
  rcases cs with _ | ⟨c0, _ | ⟨c1, _ | ⟨c2, _ | ⟨c3, r⟩⟩⟩⟩
  · simp at hl
  · simp at hl
  · simp at hl
  · simp at e0 e1 e2
    simp [e0, e1, e2]
  · simp at hl
end
set_option maxRecDepth 100000 in
theorem open_proof {H : Type} {enc : TypeId × Value → H} {W : World} {base : Nat} {v : Value} {d : DataW H} {p : List MemPlace} (hv : Value.okWide Try.prog W .any base 30 v) (h : DataW.Trod enc Try.prog W 0 (fun _ => true) true 30 v d p) :
    ∃ (i n : Int) (pv : Value) (P : List Bys), v = .agg #[.int .i64 i, .int .i64 n, pv] ∧ Hs W pv P ∧ P.length ≤ 9223372036854775807 ∧ (-9223372036854775808 ≤ i ∧ i ≤ 9223372036854775807) ∧ (-9223372036854775808 ≤ n ∧ n ≤ 9223372036854775807) := by
  obtain ⟨cs, rfl⟩ : ∃ cs, v = .agg cs := by
    simp only [Value.okWide, Try.underlying30] at hv
    cases v <;> simp_all
  obtain ⟨fuel, hf⟩ := h
  obtain ⟨i, n, pv, P, hcs, hrest⟩ := proof_of_trod hf
  refine ⟨i, n, pv, P, ?_, hrest⟩
  have : cs.toList = [.int .i64 i, .int .i64 n, pv] := by simpa [Value.cells] using hcs
  rw [← this]
/-- Bytes, as they come in. -/
theorem open_sl {H : Type} {enc : TypeId × Value → H} {W : World} {base : Nat} {v : Value} {d : DataW H} {p : List MemPlace} (hv : Value.okWide Try.prog W .any base 39 v) (h : DataW.Trod enc Try.prog W 0 (fun _ => true) true 39 v d p) :
    ∃ l, Sl W v l ∧ l.length ≤ 9223372036854775807 := by
  obtain ⟨a0, len, cap, rfl⟩ := okWide_slice Try.underlying39 hv
  obtain ⟨fuel, hf⟩ := h
  obtain ⟨u, l, hcs, hs, hl⟩ := sl_of_trod hf
  simp [Value.cells] at hcs
  subst hcs
  exact ⟨l, hs, hl⟩
end Go.Proofs.Ytfkibbpekngciaa
