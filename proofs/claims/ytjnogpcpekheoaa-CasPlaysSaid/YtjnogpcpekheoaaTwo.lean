/-
  Two stores side by side: all that a walk knows of them.
-/
import Derived.Test.YtjnogpcpekheoaaOrm
namespace Go.Proofs.Ytjnogpcpekheoaa
open Go.RowKit Go.Maps

/-- What Get gives: the bytes, and their text at any world drawn from there. -/
def GotRet (b : Bys) (y : World) (ev : Ending) (w' : World) : Prop := ∃ ao cp, ev = .returned (.tuple #[.slice ao b.length cp, .nilIface]) ∧ Sl w' (.slice ao b.length cp) b ∧ Below y.heap.size y w'
structure TEnv (w : World) (F : Bys → Bys) (sa sb : Nat) (R : List Bys → List Bys → World → Prop) : Prop where
  keep : ∀ A B y y', R A B y → Below y.heap.size y y' → R A B y'
  below : ∀ A B y, R A B y → Below w.heap.size w y
  put : ∀ y v A B b, R A B y → Sl y v b → b.length ≤ 200 → (∀ a ∈ A, b ≠ a → F b ≠ F a) → A.length < 16 → Calls Try.prog 10 #[.pointer (some ⟨sa, 0, none⟩), v] y fun ev w' => ∃ Yh A', ev = .returned (.tuple #[.agg Yh, .nilIface]) ∧ R A' B w' ∧ (∀ z, z ∈ A' ↔ z ∈ A ∨ z = b) ∧ A'.length ≤ A.length + 1 ∧ (Try.prog.info? 35).map (·.size) = some Yh.size ∧ Yh.all (·.oneCell') = true ∧ z25.toArray.size = Yh.size
  take : ∀ y v A B b, R A B y → Sl y v b → b.length ≤ 200 → (∀ a ∈ B, b ≠ a → F b ≠ F a) → B.length < 16 → Calls Try.prog 13 #[.pointer (some ⟨sb, 0, none⟩), .agg (bys (F b)).toArray, v] y fun ev w' => ∃ B', ev = .returned .nilIface ∧ R A B' w' ∧ (∀ z, z ∈ B' ↔ z ∈ B ∨ z = b) ∧ B'.length ≤ B.length + 1
  listA : ∀ A B y, R A B y → Calls Try.prog 20 #[.pointer (some ⟨sa, 0, none⟩)] y fun ev w' => ListRet (A.map F).reverse y.heap.size ev w' ∧ Below y.heap.size y w'
  listB : ∀ A B y, R A B y → Calls Try.prog 20 #[.pointer (some ⟨sb, 0, none⟩)] y fun ev w' => ListRet (B.map F).reverse y.heap.size ev w' ∧ Below y.heap.size y w'
  countA : ∀ A B y, R A B y → Calls Try.prog 21 #[.pointer (some ⟨sa, 0, none⟩)] y fun ev w' => ev = .returned (.int .i64 (A.length : Int)) ∧ w' = y
  countB : ∀ A B y, R A B y → Calls Try.prog 21 #[.pointer (some ⟨sb, 0, none⟩)] y fun ev w' => ev = .returned (.int .i64 (B.length : Int)) ∧ w' = y
  getA : ∀ A B y b, R A B y → b ∈ A → Calls Try.prog 16 #[.pointer (some ⟨sa, 0, none⟩), .agg (bys (F b)).toArray] y fun ev w' => GotRet b y ev w'
  getB : ∀ A B y b, R A B y → b ∈ B → Calls Try.prog 16 #[.pointer (some ⟨sb, 0, none⟩), .agg (bys (F b)).toArray] y fun ev w' => GotRet b y ev w'

theorem got_of {b : Bys} {y : World} {P : Nat} {p h : Value} (hc : Calls Try.prog P #[p, h] y fun ev w' => ∃ vr, ev = .returned (.tuple #[vr, .nilIface]) ∧ w'.ownsRow y.heap.size 5 1 vr b.length (bys b) ∧ Below y.heap.size y w') : Calls Try.prog P #[p, h] y fun ev w' => GotRet b y ev w' := by
  refine hc.mono ?_
  rintro ev w' ⟨vr, rfl, ho, hb⟩
  have hsl := Sl.ofOwn ho
  obtain ⟨aog, cpg, rfl⟩ := sl_slice hsl
  exact ⟨aog, cpg, rfl, hsl, hb⟩

theorem tenv_of {w : World} {F : Bys → Bys} {sa ba sb bb : Nat} {TA TB : (Nat → Prop) → List Bys → World → Prop} (EA : SEnv w 16 sa ba F TA) (EB : SEnv w 16 sb bb F TB) (LA : SList sa F TA) (LB : SList sb F TB) (hne : ba ≠ bb) :
    TEnv w F sa sb (fun A B y => TA (fun _ => False) A y ∧ TB (fun _ => False) B y ∧ Below w.heap.size w y) where
  keep A B y y' h hb := ⟨EA.keep _ _ _ _ h.1 hb, EB.keep _ _ _ _ h.2.1 hb, h.2.2.trans (hb.mono h.2.2.size)⟩
  below A B y h := h.2.2
  put y v A B b h hsl hl hf hn := by
    refine (EA.put _ y v A b h.2.2 h.1 (fun k hk => hk.elim) hf (by omega) hsl hl).mono ?_
    rintro ev w' ⟨Yh, e, ins', rfl, hP, hT, hB, hg, hbx⟩
    have hT2 := EB.other _ _ _ _ _ h.2.1 hg hne (EA.isMap _ _ _ h.1)
    rcases hP with ⟨hin, rfl, rfl, rfl⟩ | ⟨hnot, hroom, rfl, rfl, rfl⟩ | ⟨hnot, hroom, hTe, rfl, rfl⟩
    · exact ⟨_, A, rfl, ⟨hT, hT2, hB⟩, fun z => ⟨.inl, fun hz => hz.elim id (fun e => e ▸ hin)⟩, by omega, hbx⟩
    · exact ⟨_, A ++ [b], rfl, ⟨hT, hT2, hB⟩, fun z => by simp, by simp, hbx⟩
    · omega
  take y v A B b h hsl hl hf hn := by
    by_cases hin : b ∈ B
    · refine (EB.takeIn _ y v B b h.2.2 h.2.1 (fun k hk => hk.elim) hin hsl hl).mono ?_
      rintro ev w' ⟨rfl, hT, hB, hg⟩
      exact ⟨B, rfl, ⟨EA.other _ _ _ _ _ h.1 hg (Ne.symm hne) (EB.isMap _ _ _ h.2.1), hT, hB⟩, fun z => ⟨.inl, fun hz => hz.elim id (fun e => e ▸ hin)⟩, by omega⟩
    · refine (EB.takeNew _ y v B b h.2.2 h.2.1 (fun k hk => hk.elim) (fun a ha => hf a ha (fun e => hin (e ▸ ha))) hn hsl hl).mono ?_
      rintro ev w' ⟨rfl, hT, hB, hg⟩
      exact ⟨B ++ [b], rfl, ⟨EA.other _ _ _ _ _ h.1 hg (Ne.symm hne) (EB.isMap _ _ _ h.2.1), hT, hB⟩, fun z => by simp, by simp⟩
  listA A B y h := LA.list _ _ _ h.1
  listB A B y h := LB.list _ _ _ h.2.1
  countA A B y h := EA.count _ _ _ h.1
  countB A B y h := EB.count _ _ _ h.2.1
  getA A B y b h hb := got_of (EA.get _ _ _ _ h.1 hb)
  getB A B y b h hb := got_of (EB.get _ _ _ _ h.2.1 hb)

/-- Two lists of stores that hold the same are one. -/
theorem lists_one {F : Bys → Bys} {A B hs hs' : List Bys} (hm : ∀ z, z ∈ A ↔ z ∈ B) (h1 : hs.Perm (A.map F).reverse) (h2 : hs'.Perm (B.map F).reverse) (s1 : hs.Pairwise (fun a b => less a b = true)) (s2 : hs'.Pairwise (fun a b => less a b = true)) : hs' = hs ∧ B.length = A.length := by
  have he : hs' = hs := sorted_eq _ _ s2 s1 (fun z => by
    rw [h1.mem_iff, h2.mem_iff]
    simp only [List.mem_reverse, List.mem_map]
    exact ⟨fun ⟨a, ha, e⟩ => ⟨a, (hm a).2 ha, e⟩, fun ⟨a, ha, e⟩ => ⟨a, (hm a).1 ha, e⟩⟩)
  refine ⟨he, ?_⟩
  have e1 := h1.length_eq
  have e2 := h2.length_eq
  simp at e1 e2
  rw [he] at e2
  omega

theorem lies_below {w w' : World} {g : Nat} {hs : List Bys} (h : Lies w g hs) (hb : Below w.heap.size w w') : Lies w' g hs := fun q hq => ⟨range_below (h q hq).1 hb, there_below (h q hq).2 hb⟩

theorem perm_len {F : Bys → Bys} {A hs : List Bys} (h : hs.Perm (A.map F).reverse) : hs.length = A.length := by have := h.length_eq; simpa using this
theorem perm_mem {F : Bys → Bys} {A hs : List Bys} (h : hs.Perm (A.map F).reverse) {q : Nat} (hq : q < hs.length) : ∃ b, b ∈ A ∧ hs.getD q [] = F b := by
  have hm : hs.getD q [] ∈ hs := by simp [List.getD, List.getElem?_eq_getElem hq]
  have := h.mem_iff.1 hm
  simp only [List.mem_reverse, List.mem_map] at this
  obtain ⟨b, hb, e⟩ := this
  exact ⟨b, hb, e.symm⟩
theorem rising_at {hs : List Bys} (h : hs.Pairwise (fun a b => less a b = true)) {p : Nat} (hp : p + 1 < hs.length) : less (hs.getD p []) (hs.getD (p + 1) []) = true := by
  have := List.pairwise_iff_getElem.1 h p (p + 1) (by omega) hp (by omega)
  simpa [List.getD, List.getElem?_eq_getElem hp, List.getElem?_eq_getElem (show p < hs.length by omega)] using this

/-- Where CasOrder stands while it fills its stores. -/
def OrRel (N : Nat) (f : Nat → Bys) (R : List Bys → List Bys → World → Prop) (m : Nat) (wr : World) : Prop :=
  ∃ A B, R A B wr ∧ A.length ≤ m ∧ B.length ≤ m ∧ (∀ z, z ∈ A ↔ ∃ q, q < m ∧ z = f q) ∧ (∀ z, z ∈ B ↔ ∃ q, q < N ∧ N ≤ q + m ∧ z = f q)
theorem or_zero {w : World} {N : Nat} {f : Nat → Bys} {R : List Bys → List Bys → World → Prop} (h : R [] [] w) : OrRel N f R 0 w :=
  ⟨[], [], h, by simp, by simp, fun z => ⟨fun hz => by simp at hz, fun ⟨q, hq, _⟩ => by omega⟩, fun z => ⟨fun hz => by simp at hz, fun ⟨q, hq, hq2, _⟩ => by omega⟩⟩
/-- One round of both. -/
theorem or_step {w' : World} {N m : Nat} {f : Nat → Bys} {R : List Bys → List Bys → World → Prop} {A B A' B' : List Bys} (hmN : m < N) (hA : A.length ≤ m) (hB : B.length ≤ m) (mA : ∀ z, z ∈ A ↔ ∃ q, q < m ∧ z = f q) (mB : ∀ z, z ∈ B ↔ ∃ q, q < N ∧ N ≤ q + m ∧ z = f q)
    (mA' : ∀ z, z ∈ A' ↔ z ∈ A ∨ z = f m) (mB' : ∀ z, z ∈ B' ↔ z ∈ B ∨ z = f (N - 1 - m)) (hA' : A'.length ≤ A.length + 1) (hB' : B'.length ≤ B.length + 1) (h : R A' B' w') : OrRel N f R (m + 1) w' := by
  refine ⟨A', B', h, by omega, by omega, fun z => ?_, fun z => ?_⟩
  · rw [mA', mA]
    constructor
    · rintro (⟨q, hq, rfl⟩ | rfl)
      · exact ⟨q, by omega, rfl⟩
      · exact ⟨m, by omega, rfl⟩
    · rintro ⟨q, hq, rfl⟩
      by_cases e : q = m
      · exact .inr (by rw [e])
      · exact .inl ⟨q, by omega, rfl⟩
  · rw [mB', mB]
    constructor
    · rintro (⟨q, hq, hq2, rfl⟩ | rfl)
      · exact ⟨q, hq, by omega, rfl⟩
      · exact ⟨N - 1 - m, by omega, by omega, rfl⟩
    · rintro ⟨q, hq, hq2, rfl⟩
      by_cases e : q = N - 1 - m
      · exact .inr (by rw [e])
      · exact .inl ⟨q, hq, by omega, rfl⟩
/-- At the end both hold the same. -/
theorem or_end {w : World} {N : Nat} {f : Nat → Bys} {R : List Bys → List Bys → World → Prop} (h : OrRel N f R N w) : ∃ A B, R A B w ∧ A.length ≤ N ∧ ∀ z, z ∈ A ↔ z ∈ B := by
  obtain ⟨A, B, hR, hl, _, mA, mB⟩ := h
  refine ⟨A, B, hR, hl, fun z => ?_⟩
  rw [mA, mB]
  exact ⟨fun ⟨q, hq, e⟩ => ⟨q, hq, by omega, e⟩, fun ⟨q, hq, _, e⟩ => ⟨q, hq, e⟩⟩
end Go.Proofs.Ytjnogpcpekheoaa
