/-
  The program's store beside the document's: all that CasPlays' walk knows of both.
-/
import Derived.Test.YtjnogpcpekheoaaRtw
import Derived.Test.YtjnogpcpekheoaaRtk
namespace Go.Proofs.Ytjnogpcpekheoaa
open Go.RowKit Go.Maps

/-- Which bytes a sum stands for, and the code that tells it. -/
def Gots (r : List (Bys × Bys)) (h b : Bys) (code : Nat) : Prop := (h ∉ ks r ∧ b = [] ∧ code = 10) ∨ ((h, b) ∈ r ∧ code = 0)
def orZ (code : Nat) (h : Bys) : Bys := if code = 0 then h else List.replicate 32 0
def Tups (w' : World) (code : Nat) (Y : Array Value) (ev : Ending) : Prop := ∃ e, ev = .returned (.tuple #[.agg Y, e]) ∧ Tell w' e code

/-- Rows of cells stay, but for block xb. -/
structure Fr (xb : Nat) (y y' : World) : Prop where
  size : y.heap.size ≤ y'.heap.size
  row : ∀ k cs t f, k ≠ xb → y.heap[k]? = some (.cells cs t f) → y'.heap[k]? = some (.cells cs t f)
theorem Fr.trans {xb : Nat} {a b c : World} (h : Fr xb a b) (h' : Fr xb b c) : Fr xb a c := ⟨Nat.le_trans h.size h'.size, fun k cs t f hk e => h'.row k cs t f hk (h.row k cs t f hk e)⟩
theorem Fr.of_below {xb : Nat} {a b : World} (h : Below a.heap.size a b) : Fr xb a b := ⟨h.size, fun k _ _ _ _ e => (h.block k (Array.getElem?_eq_some_iff.1 e).1).trans e⟩
theorem Fr.of_map {xb bm : Nat} {a b : World} (h : a.grownBy b (some bm)) (hm : ∃ es c, a.heap[bm]? = some (.map es c)) : Fr xb a b := ⟨h.size, fun k cs t f _ e => (h.block k (Array.getElem?_eq_some_iff.1 e).1 (fun e' => by
  obtain ⟨es, c, hm⟩ := hm
  rw [← Option.some.inj e', e] at hm
  cases hm)).trans e⟩
theorem Fr.of_xb {xb : Nat} {a b : World} (h : a.grownBy b (some xb)) : Fr xb a b := ⟨h.size, fun k _ _ _ hk e => (h.block k (Array.getElem?_eq_some_iff.1 e).1 (fun e' => hk (Option.some.inj e'))).trans e⟩
theorem Fr.cell {xb k o : Nat} {a b : World} {u : Value} (h : Fr xb a b) (hk : k ≠ xb) (hc : a.cell? ⟨k, o, none⟩ = some u) : b.cell? ⟨k, o, none⟩ = some u := by
  unfold World.cell? at *
  cases e : a.heap[k]? with
  | none => simp [e] at hc
  | some ob =>
    cases ob with
    | cells cs t f =>
      simp only [e] at hc
      simp only [h.row k cs t f hk e]
      exact hc
    | _ => simp [e] at hc
theorem Fr.own {xb B e n : Nat} {a b : World} {v : Value} {xs : List Value} (h : Fr xb a b) (hk : v.ownBlock ≠ some xb) (ho : a.ownsRow B e 1 v n xs) : b.ownsRow B e 1 v n xs := by
  refine ⟨ho.1, ?_⟩
  rcases ho.2 with h' | ⟨g, cap, cur, rfl, hB, hg, rest⟩
  · exact .inl h'
  · exact .inr ⟨g, cap, cur, rfl, hB, h.row g _ _ _ (fun e => hk (by rw [← e]; rfl)) hg, rest⟩

structure PEnv (w : World) (sb xb : Nat) (F : Bys → Bys) (R : (Nat → Prop) → List (Bys × Bys) → World → Prop) (R1 : (Nat → Prop) → List (Bys × Bys) → Bys → Nat → World → Prop) : Prop where
  len : ∀ b, (F b).length = 32
  klen : ∀ X r y, R X r y → ∀ a ∈ ks r, a.length = 32
  few : ∀ X r y, R X r y → r.length ≤ 4096
  below : ∀ X r y, R X r y → Below w.heap.size w y
  below1 : ∀ X r b c y, R1 X r b c y → Below w.heap.size w y
  lt : ∀ X r y, R X r y → xb < y.heap.size
  eq : ∀ (y : World) (h : Bys), h.length = 32 → (Op.equalIn 10000 35 (.agg (bys h).toArray) (.agg (bys h).toArray)).run Try.prog y = .ok true y
  keep : ∀ X r y y', R X r y → Below y.heap.size y y' → R X r y'
  keep1 : ∀ X r b c y y', R1 X r b c y → Below y.heap.size y y' → R1 X r b c y'
  turn : ∀ X r y y', R X r y → (∀ k, ¬ X k → k < y.heap.size → y'.heap[k]? = y.heap[k]?) → Below w.heap.size w y' → R X r y'
  fresh : ∀ X r y, R X r y → R (fun k => X k ∨ y.heap.size ≤ k) r y
  narrow : ∀ (X X' : Nat → Prop) r y, R X r y → (∀ k, X' k → X k) → R X' r y
  sum : ∀ y v b, Sl y v b → b.length ≤ 200 → Calls Try.prog 14 #[v] y fun ev w' => ev = .returned (.agg (bys (F b)).toArray) ∧ Below y.heap.size y w'
  told : ∀ y, Calls Try.prog 9 #[] y fun ev w' => ev = .returned (.bool true) ∧ Below y.heap.size y w'
  put : ∀ X r y v b, R X r y → (∀ k, X k → k < y.heap.size) → Sl y v b → b.length ≤ 200 → Calls Try.prog 10 #[.pointer (some ⟨sb, 0, none⟩), v] y fun ev w' => ∃ code, Tups w' code (bys (orZ code (F b))).toArray ev ∧ R1 X r b code w' ∧ Fr xb y w'
  rput : ∀ X r y v b code, R1 X r b code y → (∀ k, X k → k < y.heap.size) → Sl w v b → b.length ≤ 200 → Calls Try.prog 11 #[.pointer (some ⟨xb, 0, none⟩), v] y fun ev w' => ev = .returned (.tuple #[.agg (bys (orZ code (F b))).toArray, .int .i64 (code : Int)]) ∧ (∃ r', R X r' w') ∧ (∀ e, Tell y e code → Tell w' e code) ∧ Fr xb y w'
  take : ∀ X r y v b, R X r y → (∀ k, X k → k < y.heap.size) → Sl y v b → b.length ≤ 200 → Calls Try.prog 13 #[.pointer (some ⟨sb, 0, none⟩), .agg (bys (F b)).toArray, v] y fun ev w' => ∃ e code, ev = .returned e ∧ Tell w' e code ∧ R1 X r b code w' ∧ Fr xb y w'
  rtake : ∀ X r y v b code, R1 X r b code y → (∀ k, X k → k < y.heap.size) → Sl w v b → b.length ≤ 200 → Calls Try.prog 15 #[.pointer (some ⟨xb, 0, none⟩), .agg (bys (F b)).toArray, v] y fun ev w' => ev = .returned (.int .i64 (code : Int)) ∧ (∃ r', R X r' w') ∧ (∀ e, Tell y e code → Tell w' e code) ∧ Fr xb y w'
  takeBad : ∀ X r y v b h, R X r y → (∀ k, X k → k < y.heap.size) → Sl y v b → b.length ≤ 200 → h.length = 32 → F b ≠ h → Calls Try.prog 13 #[.pointer (some ⟨sb, 0, none⟩), .agg (bys h).toArray, v] y fun ev w' => ∃ e, ev = .returned e ∧ Tell w' e 11 ∧ R X r w' ∧ Below y.heap.size y w'
  rtakeBad : ∀ X r y v b h, R X r y → Sl w v b → b.length ≤ 200 → h.length = 32 → F b ≠ h → Calls Try.prog 15 #[.pointer (some ⟨xb, 0, none⟩), .agg (bys h).toArray, v] y fun ev w' => ev = .returned (.int .i64 11) ∧ R X r w' ∧ Below y.heap.size y w'
  got : ∀ (r : List (Bys × Bys)) (h : Bys), ∃ b code, Gots r h b code
  gotlen : ∀ X r y h b code, R X r y → Gots r h b code → b.length ≤ 4194304
  get : ∀ X r y h b code, R X r y → h.length = 32 → Gots r h b code → Calls Try.prog 16 #[.pointer (some ⟨sb, 0, none⟩), .agg (bys h).toArray] y fun ev w' => ∃ vr e, ev = .returned (.tuple #[vr, e]) ∧ w'.ownsRow y.heap.size 5 1 vr b.length (bys b) ∧ Tell w' e code ∧ Below y.heap.size y w'
  rget : ∀ X r y h b code, R X r y → h.length = 32 → Gots r h b code → Calls Try.prog 17 #[.pointer (some ⟨xb, 0, none⟩), .agg (bys h).toArray] y fun ev w' => ev = .returned (.tuple #[.string (str b), .int .i64 (code : Int)]) ∧ Below y.heap.size y w'
  has : ∀ X r y h, R X r y → h.length = 32 → Calls Try.prog 18 #[.pointer (some ⟨sb, 0, none⟩), .agg (bys h).toArray] y fun ev w' => ev = .returned (.bool (decide (h ∈ ks r))) ∧ Below y.heap.size y w'
  rhas : ∀ X r y h, R X r y → h.length = 32 → Calls Try.prog 19 #[.pointer (some ⟨xb, 0, none⟩), .agg (bys h).toArray] y fun ev w' => ev = .returned (.bool (decide (h ∈ ks r))) ∧ Below y.heap.size y w'
  list : ∀ X r y, R X r y → Calls Try.prog 20 #[.pointer (some ⟨sb, 0, none⟩)] y fun ev w' => ∃ g cap, ev = .returned (.slice (some ⟨g, 0, none⟩) r.length cap) ∧ r.length ≤ cap ∧ y.heap.size ≤ g ∧ Lies w' g (ks r) ∧ Below y.heap.size y w'
  count : ∀ X r y, R X r y → Calls Try.prog 21 #[.pointer (some ⟨sb, 0, none⟩)] y fun ev w' => ev = .returned (.int .i64 (r.length : Int)) ∧ w' = y
  sums : ∀ X r y, R X r y → ∃ ao cap, r.length ≤ cap ∧ y.cell? ⟨xb, 1, none⟩ = some (.slice ao r.length cap) ∧ ∀ q, q < r.length → ∃ g, ao = some ⟨g, 0, none⟩ ∧ y.rangeAt g (q * 32) (bys ((ks r).getD q []))

/-- Off X and off the document's own block. -/
def Xx (X : Nat → Prop) (xb k : Nat) : Prop := X k ∨ k = xb
def RR (w : World) (room sb bm xb : Nat) (X : Nat → Prop) (r : List (Bys × Bys)) (y : World) : Prop :=
  ∃ c, r.Perm c ∧ Sto (Off w (Xx X xb)) y (.pointer (some ⟨sb, 0, none⟩)) bm room c ∧ Ref (Off w X) y xb room r ∧ Below w.heap.size w y
def RR1 (w : World) (room sb bm xb : Nat) (X : Nat → Prop) (r : List (Bys × Bys)) (b : Bys) (code : Nat) (y : World) : Prop :=
  ∃ c c', r.Perm c ∧ putC room c b = (code, c') ∧ Sto (Off w (Xx X xb)) y (.pointer (some ⟨sb, 0, none⟩)) bm room c' ∧ Ref (Off w X) y xb room r ∧ Below w.heap.size w y

theorem perm_ks {r c : List (Bys × Bys)} (h : r.Perm c) (a : Bys) : a ∈ c.map (·.1) ↔ a ∈ ks r := by
  have := (h.map (·.1)).mem_iff (a := a)
  exact this.symm
theorem Tell.grown {w w' : World} {e : Value} {n g : Nat} (h : Tell w e n) (hg : w.grownBy w' (some g)) (hc : ∃ ao m cap, w.cell? ⟨g, 1, none⟩ = some (.slice ao m cap)) : Tell w' e n := by
  rcases h with h | ⟨h0, hE⟩
  · exact .inl h
  · obtain ⟨b, he, q0, q1, q2⟩ := hE.shape
    have hne : b ≠ g := fun e => by
      subst e
      obtain ⟨ao, m, cap, hc⟩ := hc
      rw [q1] at hc; cases hc
    exact .inr ⟨h0, ⟨b, he, cell_grown q0 hg hne, cell_grown q1 hg hne, cell_grown q2 hg hne⟩⟩
theorem Ref.slot {O : Nat → Prop} {w : World} {xb room : Nat} {r : List (Bys × Bys)} (h : Ref O w xb room r) : ∃ ao m cap, w.cell? ⟨xb, 1, none⟩ = some (.slice ao m cap) := by
  obtain ⟨vs, vb, c1, _, o1, _⟩ := h.rows
  obtain ⟨ao, cap, rfl, _⟩ := own_shape32 o1
  exact ⟨_, _, _, c1⟩
/-- A store of the program's is another block's affair than the document's. -/
theorem sto_xb {w y y' : World} {X : Nat → Prop} {v : Value} {bm room xb : Nat} {c : List (Bys × Bys)} (h : Sto (Off w (Xx X xb)) y v bm room c) (hg : y.grownBy y' (some xb)) : Sto (Off w (Xx X xb)) y' v bm room c :=
  (h.tight.same (fun k hk => hg.block k hk.2 (fun e => hk.1.2 (.inr (Option.some.inj e))))).wide (fun _ hk => hk.1)
theorem sl_base {w y : World} {v : Value} {b : Bys} (h : Sl w v b) (hy : Below w.heap.size w y) : Sl y v b := h.below hy
theorem off_grown {w y y' : World} {xb : Nat} (hy : Below w.heap.size w y) (hx : w.heap.size ≤ xb) (hg : y.grownBy y' (some xb)) : Below w.heap.size w y' := hy.grown hg hy.size (fun _ e => by rw [← Option.some.inj e]; exact hx)
/-- What the document's Put leaves beside what the program's Put left. -/
theorem rr_after {w y w2 : World} {room sb bm xb code' : Nat} {X : Nat → Prop} {r r' : List (Bys × Bys)} {b : Bys} {code : Nat} (h : RR1 w room sb bm xb X r b code y) (hX : ∀ k, X k → k < y.heap.size) (hT : RTk (Off w X) y xb room r (sumF b) b w2 code' r') : code' = code ∧ RR w room sb bm xb X r' w2 := by
  obtain ⟨c, c', hp, hput, hS, hR, hB⟩ := h
  have hl : c.length = r.length := hp.length_eq.symm
  unfold putC at hput
  rcases hT with ⟨h1, h2, rfl, rfl⟩ | ⟨h1, h2, h3, rfl, rfl⟩ | ⟨i, h1, h2, h3, h4, h5, rfl, rfl⟩
  · skip
    rw [if_pos ((perm_ks hp _).2 h1)] at hput
    cases hput
    exact ⟨rfl, c, hp, hS.below h2, hR.below h2, hB.trans (h2.mono hB.size)⟩
  · skip
    rw [if_neg (fun h => h1 ((perm_ks hp _).1 h)), if_neg (by omega)] at hput
    cases hput
    exact ⟨rfl, c, hp, hS.below h3, hR.below h3, hB.trans (h3.mono hB.size)⟩
  · skip
    rw [if_neg (fun h => h1 ((perm_ks hp _).1 h)), if_pos (by omega)] at hput
    cases hput
    have hx : w.heap.size ≤ xb := hR.own.1
    refine ⟨rfl, (sumF b, b) :: c, ?_, sto_xb hS h4, h5.wide (fun k hk ho => ?_), off_grown hB hx h4⟩
    · unfold ins
      have h6 : (List.take i r ++ (sumF b, b) :: List.drop i r).Perm ((sumF b, b) :: (List.take i r ++ List.drop i r)) := List.perm_middle
      rw [List.take_append_drop] at h6
      exact h6.trans (hp.cons _)
    · rcases ho with ho | ho
      · exact ho
      · exact ⟨Nat.le_trans hB.size ho, fun hx => absurd (hX k hx) (by omega)⟩

theorem penv_any (w : World) (room sb bm xb : Nat) (hr : room ≤ 1000) : PEnv w sb xb sumF (RR w room sb bm xb) (RR1 w room sb bm xb) where
  len b := sumF_len b
  klen X r y h := by obtain ⟨c, _, _, hR, _⟩ := h; exact hR.klen
  few X r y h := by obtain ⟨c, hp, hS, _, _⟩ := h; rw [hp.length_eq]; exact hS.small
  below X r y h := by obtain ⟨c, _, _, _, hB⟩ := h; exact hB
  below1 X r b c y h := by obtain ⟨c, c', _, _, _, _, hB⟩ := h; exact hB
  lt X r y h := by obtain ⟨c, _, _, hR, _⟩ := h; exact hR.lt
  eq y h hh := by have := equ25 y h h hh hh; rw [show (h == h) = true by simp] at this; exact this
  keep X r y y' h hb := by obtain ⟨c, hp, hS, hR, hB⟩ := h; exact ⟨c, hp, hS.below hb, hR.below hb, hB.trans (hb.mono hB.size)⟩
  keep1 X r b c y y' h hb := by obtain ⟨c, c', hp, hc, hS, hR, hB⟩ := h; exact ⟨c, c', hp, hc, hS.below hb, hR.below hb, hB.trans (hb.mono hB.size)⟩
  turn X r y y' h hs hy := by
    obtain ⟨c, hp, hS, hR, hB⟩ := h
    exact ⟨c, hp, (hS.tight.same (fun k hk => hs k (fun hx => hk.1.2 (.inl hx)) hk.2)).wide (fun k hk => hk.1), hR.same (fun k hk hlt => hs k hk.2 hlt), hy⟩
  fresh X r y h := by
    obtain ⟨c, hp, hS, hR, hB⟩ := h
    refine ⟨c, hp, hS.tight.wide (fun k hk => ⟨hk.1.1, fun hx => ?_⟩), hR.wide (fun k hk ho => ⟨ho.1, fun hx => hx.elim ho.2 (fun h' => absurd hk (by omega))⟩), hB⟩
    rcases hx with (hx | hx) | hx
    · exact hk.1.2 (.inl hx)
    · exact absurd hk.2 (by omega)
    · exact hk.1.2 (.inr hx)
  narrow X X' r y h hx := by
    obtain ⟨c, hp, hS, hR, hB⟩ := h
    exact ⟨c, hp, hS.wide (fun k hk => ⟨hk.1, fun h' => hk.2 (h'.imp (hx k) id)⟩), hR.wide (fun k _ ho => ⟨ho.1, fun h' => ho.2 (hx k h')⟩), hB⟩
  sum y v b h hl := xsum_any y v _ h (by omega)
  told y := told_any y
  put X r y v b h hX hsl hl := by
    obtain ⟨c, hp, hS, hR, hB⟩ := h
    refine (put_off hB hS (fun k hk => hk.elim (hX k) (fun e => e ▸ hR.lt)) (by omega) hsl (by omega)).mono ?_
    rintro ev w' ⟨e, rfl, hT, hS', hB', hg⟩
    exact ⟨_, ⟨e, rfl, hT⟩, ⟨c, _, hp, rfl, hS', hR.map hg hS.mapAt, hB'⟩, .of_map hg hS.mapAt⟩
  rput X r y v b code h hX hsl hl := by
    have h' := h
    obtain ⟨c, c', hp, hc, hS, hR, hB⟩ := h'
    have hx : w.heap.size ≤ xb := hR.own.1
    refine (rput_any (sumF b) b v (sumF_len b) (fun y' hy' => xsum_any y' v _ (hsl.below (off_grown hB hx hy')) (by omega)) hR (fun y' hy' => hsl.below (off_grown hB hx hy')) hl hr).mono ?_
    rintro ev w1 hq
    obtain ⟨Y, code', r', rfl, hY, hT⟩ := hq.told (Below.refl _ _)
    have hT1 := hT w1 (Below.refl _ _)
    obtain ⟨rfl, hRR⟩ := rr_after h hX hT1
    refine ⟨by rw [hY]; rfl, ⟨r', hRR⟩, ?_⟩
    rcases hT1 with ⟨h1, h2, -, -⟩ | ⟨h1, h2, h3, -, -⟩ | ⟨i, h1, h2, h3, h4, h5, -, -⟩
    · exact ⟨fun e he => he.below h2, .of_below h2⟩
    · exact ⟨fun e he => he.below h3, .of_below h3⟩
    · exact ⟨fun e he => he.grown h4 hR.slot, .of_xb h4⟩
  take X r y v b h hX hsl hl := by
    obtain ⟨c, hp, hS, hR, hB⟩ := h
    refine (take_off hB hS (fun k hk => hk.elim (hX k) (fun e => e ▸ hR.lt)) (by omega) hsl (by omega)).mono ?_
    rintro ev w' ⟨e, rfl, hT, hS', hB', hg⟩
    exact ⟨e, _, rfl, hT, ⟨c, _, hp, rfl, hS', hR.map hg hS.mapAt, hB'⟩, .of_map hg hS.mapAt⟩
  rtake X r y v b code h hX hsl hl := by
    have h' := h
    obtain ⟨c, c', hp, hc, hS, hR, hB⟩ := h'
    have hx : w.heap.size ≤ xb := hR.own.1
    refine (rtake_ok (sumF b) b v (sumF_len b) (fun y' hy' => xsum_any y' v _ (hsl.below (off_grown hB hx hy')) (by omega)) hR (fun y' hy' => hsl.below (off_grown hB hx hy')) hl hr).mono ?_
    rintro ev w1 ⟨code', r', rfl, hT1⟩
    obtain ⟨rfl, hRR⟩ := rr_after h hX hT1
    refine ⟨rfl, ⟨r', hRR⟩, ?_⟩
    rcases hT1 with ⟨h1, h2, -, -⟩ | ⟨h1, h2, h3, -, -⟩ | ⟨i, h1, h2, h3, h4, h5, -, -⟩
    · exact ⟨fun e he => he.below h2, .of_below h2⟩
    · exact ⟨fun e he => he.below h3, .of_below h3⟩
    · exact ⟨fun e he => he.grown h4 hR.slot, .of_xb h4⟩
  takeBad X r y v b h hRR hX hsl hl h32 hne := by
    obtain ⟨c, hp, hS, hR, hB⟩ := hRR
    refine (take_bad hS hsl (by omega) h32 hne).mono ?_
    rintro ev w' ⟨e, rfl, hT, hS', hb⟩
    exact ⟨e, rfl, hT, ⟨c, hp, hS', hR.below hb, hB.trans (hb.mono hB.size)⟩, hb⟩
  rtakeBad X r y v b h hRR hsl hl h32 hne := by
    obtain ⟨c, hp, hS, hR, hB⟩ := hRR
    have hx : w.heap.size ≤ xb := hR.own.1
    refine (rtake_bad (xb := xb) h (sumF b) b v (sumF_len b) h32 hne (fun y' hy' => xsum_any y' v _ (hsl.below (off_grown hB hx hy')) (by omega)) (hsl.below hB) hl).mono ?_
    rintro ev w' ⟨rfl, hb⟩
    exact ⟨rfl, ⟨c, hp, hS.below hb, hR.below hb, hB.trans (hb.mono hB.size)⟩, hb⟩
  got r h := by
    by_cases hm : h ∈ ks r
    · obtain ⟨p, hp, rfl⟩ := List.mem_map.1 hm
      exact ⟨p.2, 0, .inr ⟨hp, rfl⟩⟩
    · exact ⟨[], 10, .inl ⟨hm, rfl, rfl⟩⟩
  gotlen X r y h b code hRR hg := by
    obtain ⟨c, hp, hS, hR, hB⟩ := hRR
    rcases hg with ⟨_, rfl, _⟩ | ⟨hm, _⟩
    · simp
    · exact hS.lens _ (hp.mem_iff.1 hm)
  get X r y h b code hRR h32 hg := by
    obtain ⟨c, hp, hS, hR, hB⟩ := hRR
    rcases hg with ⟨hn, rfl, rfl⟩ | ⟨hm, rfl⟩
    · refine (get_none hS h32 (fun h' => hn ((perm_ks hp _).1 h'))).mono ?_
      rintro ev w' ⟨e, rfl, hT, hb⟩
      exact ⟨_, e, rfl, World.ownsRow_nil _ _ _ _, hT, hb⟩
    · have hk : h ∈ c.map (·.1) := (perm_ks hp _).2 (List.mem_map.2 ⟨_, hm, rfl⟩)
      obtain ⟨b', hb', C⟩ := get_ok hS hk
      have e : b' = b := by
        have h1 := hp.mem_iff.2 hb'
        have hnd : (ks r).Nodup := hR.up.imp (fun {a b} h e => by subst e; rw [less_irrefl] at h; cases h)
        obtain ⟨i, hi, ei⟩ := List.getElem_of_mem h1
        obtain ⟨j, hj, ej⟩ := List.getElem_of_mem hm
        have hij : i = j := by
          refine (List.getElem_inj (xs := ks r) (h₀ := by rw [ks_len]; exact hi) (h₁ := by rw [ks_len]; exact hj) hnd).1 ?_
          simp [ks, ei, ej]
        subst hij
        rw [ei] at ej
        exact congrArg Prod.snd ej
      subst e
      refine C.mono ?_
      rintro ev w' ⟨vr, rfl, ho, hb⟩
      exact ⟨vr, _, rfl, ho, .inl ⟨rfl, rfl⟩, hb⟩
  rget X r y h b code hRR h32 hg := by
    obtain ⟨c, hp, hS, hR, hB⟩ := hRR
    refine (rget_any h h32 hR).mono ?_
    rintro ev w' ⟨h1, hb⟩
    rcases hg with ⟨hn, rfl, rfl⟩ | ⟨hm, rfl⟩
    · rcases h1 with ⟨_, rfl⟩ | ⟨b', hb', _⟩
      · exact ⟨rfl, hb⟩
      · exact absurd (List.mem_map.2 ⟨_, hb', rfl⟩) hn
    · rcases h1 with ⟨hn, _⟩ | ⟨b', hb', rfl⟩
      · exact absurd (List.mem_map.2 ⟨_, hm, rfl⟩) hn
      · have e : b' = b := by
          have hnd : (ks r).Nodup := hR.up.imp (fun {a b} h e => by subst e; rw [less_irrefl] at h; cases h)
          obtain ⟨i, hi, ei⟩ := List.getElem_of_mem hb'
          obtain ⟨j, hj, ej⟩ := List.getElem_of_mem hm
          have hij : i = j := by
            refine (List.getElem_inj (xs := ks r) (h₀ := by rw [ks_len]; exact hi) (h₁ := by rw [ks_len]; exact hj) hnd).1 ?_
            simp [ks, ei, ej]
          subst hij
          rw [ei] at ej
          exact congrArg Prod.snd ej
        subst e
        exact ⟨rfl, hb⟩
  has X r y h hRR h32 := by
    obtain ⟨c, hp, hS, hR, hB⟩ := hRR
    refine (has_any hS h h32).mono ?_
    rintro ev w' ⟨rfl, hb⟩
    rw [show decide (h ∈ c.map (·.1)) = decide (h ∈ ks r) from decide_eq_decide.2 (perm_ks hp h)]
    exact ⟨rfl, hb⟩
  rhas X r y h hRR h32 := by
    obtain ⟨c, hp, hS, hR, hB⟩ := hRR
    exact rhas_any h h32 hR
  list X r y hRR := by
    obtain ⟨c, hp, hS, hR, hB⟩ := hRR
    refine (list_any hS).mono ?_
    rintro ev w' ⟨⟨g, cap, hs, rfl, hper, hsrt, hcp, hg, hly⟩, hb⟩
    have e : hs = ks r := sorted_eq _ _ hsrt hR.up (fun z => by rw [hper.mem_iff]; exact perm_ks hp z)
    subst e
    exact ⟨g, cap, by rw [ks_len], by rw [ks_len] at hcp; exact hcp, hg, hly, hb⟩
  count X r y hRR := by
    obtain ⟨c, hp, hS, hR, hB⟩ := hRR
    refine (count_any hS).mono ?_
    rintro ev w' ⟨rfl, rfl⟩
    rw [hp.length_eq]
    exact ⟨rfl, rfl⟩
  sums X r y hRR := by
    obtain ⟨c, hp, hS, hR, hB⟩ := hRR
    obtain ⟨vs, vb, c1, _, o1, _⟩ := hR.rows
    obtain ⟨ao, cap, rfl, hcap⟩ := own_shape32 o1
    refine ⟨ao, cap, hcap, c1, fun q hq => ?_⟩
    obtain ⟨g, cap', e, hc⟩ := own_at32 o1 (by omega)
    cases e
    exact ⟨g, rfl, (lies_own o1 hR.klen (ks_len r).symm q (by rw [ks_len]; exact hq)).1⟩
end Go.Proofs.Ytjnogpcpekheoaa
