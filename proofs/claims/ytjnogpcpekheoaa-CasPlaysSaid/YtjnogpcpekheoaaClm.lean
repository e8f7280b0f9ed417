/-
  Clash: the mathematics of the first two that are unlike and have one sum; bytes.Equal.
-/
import Derived.Test.YtjnogpcpekheoaaCom
import Derived.Deep.OwnRows
namespace Go.Proofs.Ytjnogpcpekheoaa
open Go.RowKit Go.Maps

/-- Members i and k are unlike and have one sum. -/
def Cl (F : Bys → Bys) (f : Nat → Bys) (i k : Nat) : Prop := i < k ∧ f i ≠ f k ∧ F (f i) = F (f k)
/-- Of the first n members: the first such pair, or none. -/
structure Best (F : Bys → Bys) (f : Nat → Bys) (n a b : Nat) (is : Bool) : Prop where
  none_ : is = false → a = 0 ∧ b = 0 ∧ ∀ i k, k < n → ¬ Cl F f i k
  some_ : is = true → b < n ∧ Cl F f a b ∧ ∀ i k, k < n → Cl F f i k → a < i ∨ (a = i ∧ b ≤ k)
theorem Best.zero (F : Bys → Bys) (f : Nat → Bys) : Best F f 0 0 0 false := ⟨fun _ => ⟨rfl, rfl, fun i k h => by omega⟩, fun h => by cases h⟩
/-- i is the first member with member k's sum. -/
def Fst (F : Bys → Bys) (f : Nat → Bys) (i k : Nat) : Prop := i < k ∧ F (f i) = F (f k) ∧ ∀ j, j < i → F (f j) ≠ F (f k)
theorem Best.unseen {F : Bys → Bys} {f : Nat → Bys} {n a b : Nat} {is : Bool} (h : Best F f n a b is) (hu : ∀ i, i < n → F (f i) ≠ F (f n)) : Best F f (n + 1) a b is := by
  have hn : ∀ i, ¬ Cl F f i n := fun i hi => hu i hi.1 hi.2.2
  refine ⟨fun e => ?_, fun e => ?_⟩
  · obtain ⟨h1, h2, h3⟩ := h.none_ e
    refine ⟨h1, h2, fun i k hk hc => ?_⟩
    rcases Nat.lt_or_ge k n with hk' | hk'
    · exact h3 i k hk' hc
    · obtain rfl : k = n := by omega
      exact hn i hc
  · obtain ⟨h1, h2, h3⟩ := h.some_ e
    refine ⟨by omega, h2, fun i k hk hc => ?_⟩
    rcases Nat.lt_or_ge k n with hk' | hk'
    · exact h3 i k hk' hc
    · obtain rfl : k = n := by omega
      exact absurd hc (hn i)
theorem Best.alike {F : Bys → Bys} {f : Nat → Bys} {n a b i : Nat} {is : Bool} (h : Best F f n a b is) (hf : Fst F f i n) (he : f i = f n) : Best F f (n + 1) a b is := by
  have key : ∀ i', Cl F f i' n → Cl F f i i' ∧ i' < n := fun i' hc => by
    have h1 : i < i' := by
      rcases Nat.lt_trichotomy i i' with h | h | h
      · exact h
      · subst h; exact absurd he hc.2.1
      · exact absurd hc.2.2 (hf.2.2 i' h)
    exact ⟨⟨h1, fun e => hc.2.1 (e.symm.trans he), hf.2.1.trans hc.2.2.symm⟩, hc.1⟩
  refine ⟨fun e => ?_, fun e => ?_⟩
  · obtain ⟨h1, h2, h3⟩ := h.none_ e
    refine ⟨h1, h2, fun i' k hk hc => ?_⟩
    rcases Nat.lt_or_ge k n with hk' | hk'
    · exact h3 i' k hk' hc
    · obtain rfl : k = n := by omega
      obtain ⟨hc', hi'⟩ := key i' hc
      exact h3 i i' hi' hc'
  · obtain ⟨h1, h2, h3⟩ := h.some_ e
    refine ⟨by omega, h2, fun i' k hk hc => ?_⟩
    rcases Nat.lt_or_ge k n with hk' | hk'
    · exact h3 i' k hk' hc
    · obtain rfl : k = n := by omega
      obtain ⟨hc', hi'⟩ := key i' hc
      have := hc'.1
      rcases h3 i i' hi' hc' with h | ⟨h, _⟩ <;> left <;> omega
theorem Best.later {F : Bys → Bys} {f : Nat → Bys} {n a b i : Nat} (h : Best F f n a b true) (hf : Fst F f i n) (hi : ¬ i < a) : Best F f (n + 1) a b true := by
  refine ⟨fun e => (by cases e), fun e => ?_⟩
  obtain ⟨h1, h2, h3⟩ := h.some_ e
  refine ⟨by omega, h2, fun i' k hk hc => ?_⟩
  rcases Nat.lt_or_ge k n with hk' | hk'
  · exact h3 i' k hk' hc
  · obtain rfl : k = n := by omega
    have : ¬ i' < i := fun h => hf.2.2 i' h hc.2.2
    omega
theorem Best.better {F : Bys → Bys} {f : Nat → Bys} {n a b i : Nat} {is : Bool} (h : Best F f n a b is) (hf : Fst F f i n) (hne : f i ≠ f n) (hi : is = true → i < a) : Best F f (n + 1) i n true := by
  refine ⟨fun e => (by cases e), fun _ => ⟨by omega, ⟨hf.1, hne, hf.2.1⟩, fun i' k hk hc => ?_⟩⟩
  rcases Nat.lt_or_ge k n with hk' | hk'
  · cases is with
    | false => exact absurd hc ((h.none_ rfl).2.2 i' k hk')
    | true =>
      have := hi rfl
      rcases (h.some_ rfl).2.2 i' k hk' hc with h | ⟨h, _⟩ <;> left <;> omega
  · obtain rfl : k = n := by omega
    have : ¬ i' < i := fun h => hf.2.2 i' h hc.2.2
    omega

/-- What the map of first places holds. -/
def fsts (F : Bys → Bys) (f : Nat → Bys) : Nat → List (Bys × Value)
  | 0 => []
  | k + 1 => if F (f k) ∈ (fsts F f k).map (·.1) then fsts F f k else (F (f k), .int .i64 (k : Int)) :: fsts F f k
theorem fsts_mem {F : Bys → Bys} {f : Nat → Bys} {h : Bys} : ∀ {k : Nat}, h ∈ (fsts F f k).map (·.1) ↔ ∃ i, i < k ∧ F (f i) = h
  | 0 => by simp [fsts]
  | k + 1 => by
    have ih := fsts_mem (F := F) (f := f) (h := h) (k := k)
    unfold fsts
    by_cases hm : F (f k) ∈ (fsts F f k).map (·.1)
    · rw [if_pos hm, ih]
      constructor
      · rintro ⟨i, hi, e⟩; exact ⟨i, by omega, e⟩
      · rintro ⟨i, hi, e⟩
        rcases Nat.lt_or_ge i k with h' | h'
        · exact ⟨i, h', e⟩
        · obtain rfl : i = k := by omega
          obtain ⟨q, hq, eq⟩ := (fsts_mem (F := F) (f := f) (h := F (f i)) (k := i)).1 hm
          exact ⟨q, hq, eq.trans e⟩
    · rw [if_neg hm, List.map_cons, List.mem_cons, ih]
      constructor
      · rintro (e | ⟨i, hi, e⟩)
        · exact ⟨k, by omega, e.symm⟩
        · exact ⟨i, by omega, e⟩
      · rintro ⟨i, hi, e⟩
        rcases Nat.lt_or_ge i k with h' | h'
        · exact .inr ⟨i, h', e⟩
        · obtain rfl : i = k := by omega
          exact .inl e.symm
theorem fsts_val {F : Bys → Bys} {f : Nat → Bys} {h : Bys} {v : Value} : ∀ {k : Nat}, (h, v) ∈ fsts F f k → ∃ i, i < k ∧ v = .int .i64 (i : Int) ∧ F (f i) = h ∧ ∀ j, j < i → F (f j) ≠ h
  | 0, hm => by simp [fsts] at hm
  | k + 1, hm => by
    unfold fsts at hm
    by_cases hk : F (f k) ∈ (fsts F f k).map (·.1)
    · rw [if_pos hk] at hm
      obtain ⟨i, hi, r⟩ := fsts_val hm
      exact ⟨i, by omega, r⟩
    · rw [if_neg hk] at hm
      rcases List.mem_cons.1 hm with e | hm
      · cases e
        refine ⟨k, by omega, rfl, rfl, fun j hj e => hk (fsts_mem.2 ⟨j, hj, e⟩)⟩
      · obtain ⟨i, hi, r⟩ := fsts_val hm
        exact ⟨i, by omega, r⟩
theorem fsts_few (F : Bys → Bys) (f : Nat → Bys) : ∀ k, (fsts F f k).length ≤ k
  | 0 => by simp [fsts]
  | k + 1 => by
    have := fsts_few F f k
    unfold fsts
    split
    · omega
    · simp; omega
theorem fsts_seen {F : Bys → Bys} {f : Nat → Bys} {k : Nat} (h : F (f k) ∈ (fsts F f k).map (·.1)) (z : Value) : ∃ i : Nat, findV (fsts F f k) (F (f k)) z = .int .i64 (i : Int) ∧ Fst F f i k := by
  obtain ⟨v, hin, hf⟩ := findV_in h
  obtain ⟨i, hi, rfl, e1, e2⟩ := fsts_val hin
  exact ⟨i, hf z, hi, e1, e2⟩

set_option maxHeartbeats 1000000 in
theorem equal_any (w : World) (va vb : Value) (a b : Bys) (ha : Sl w va a) (hb : Sl w vb b) : Calls Try.prog 42 #[va, vb] w fun ev w' => ev = .returned (.bool (a == b)) ∧ w' = w := by
  have c1 := conv_sl w _ _ ha
  have c2 := conv_sl w _ _ hb
  have he : ((str a).toList == (str b).toList) = (a == b) := by rw [str_list, str_list]
  clear ha hb
  generalize str a = Sa at *
  generalize str b = Sb at *
  generalize (a == b) = r at *
  go_enter Try.func42, Try.ntmps42
  go_wp2_with fail
  go_ret
  exact ⟨rfl, rfl⟩
theorem wpList_mapUpdate {ops : Array Oper} {rest : List Oper} {o : Oper} {a : Act} {w : World} {Q : Exit → Act → World → Prop} (hgd : o.guard = none) (t : TypeId) (m x v : Operand) (ho : o.op = .mapUpdate t m x v) (mv kv vv : Value) (hm : a.eval m = mv) (hx : a.eval x = kv) (hv : a.eval v = vv)
    (w' : World) (hr : (Instr.mapUpdate t mv kv vv).run Try.prog w = .ok () w') (h : wpList Try.prog ops Q rest (a.put o.dst undef) w') : wpList Try.prog ops Q (o :: rest) a w :=
  wpList_plain hgd fun _ hK => wp_mapUpdate t m x v ho mv kv vv hm hx hv w' hr (hK _ _ h)
theorem wpList_look {ops : Array Oper} {rest : List Oper} {o : Oper} {a : Act} {w : World} {Q : Exit → Act → World → Prop} (hgd : o.guard = none) (t : TypeId) (m x : Operand) (c : Bool) (ho : o.op = .lookup t m x c) (mv kv v : Value) (hm : a.eval m = mv) (hx : a.eval x = kv)
    (hr : (Instr.lookup t mv kv c).run Try.prog w = .ok v w) (h : wpList Try.prog ops Q rest (a.put o.dst v) w) : wpList Try.prog ops Q (o :: rest) a w := by
  refine wpList_plain hgd fun _ hK => ?_
  unfold Oper.wp execOp
  simp only [ho, hm, hx, Sem.run_bind, Sem.run_pure, Result.andThen_ok, hr]
  exact hK _ _ h
theorem zero3 (w : World) : (zeroValue 3).run Try.prog w = .ok (.int .i64 0) w := by kernel_rfl
theorem below_setCells {B b : Nat} (hb : B ≤ b) : ∀ (vs : List Value) (o : Nat) {w w' : World}, Below B w w' → Below B w (w'.setCells b o vs)
  | [], _, _, _, h => h
  | v :: r, o, _, _, h => below_setCells hb r (o + 1) (h.setCell (p := ⟨b, o, none⟩) hb v)
end Go.Proofs.Ytjnogpcpekheoaa
