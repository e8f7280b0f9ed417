/-
  The mathematics of heads: a text's words by single blanks, what a head tells, its one form.
-/
import Derived.Test.YtmfdmpfeoppnfaaDoorSiz
import Derived.Lib.Split
namespace Go.Proofs.YtmfdmpfeoppnfaaDoor
open Go

abbrev Bs := List UInt8
/-- A crate of a workspace. -/
structure Src where
  name : Bs
  deps : List Bs
  text : Bs
/-- Two crates the same; two lists of crates. -/
def eqS (a b : Src) : Bool := decide (a.name = b.name) && (decide (a.deps = b.deps) && decide (a.text = b.text))
theorem eqS_iff (a b : Src) : eqS a b = true ↔ a = b := by
  cases a; cases b
  simp [eqS]
theorem eqS_true {a b : Src} (h : a = b) : eqS a b = true := (eqS_iff a b).2 h
theorem eqS_false {a b : Src} (h : a ≠ b) : eqS a b = false := by
  cases e : eqS a b
  · rfl
  · exact absurd ((eqS_iff a b).1 e) h
def eqL : List Src → List Src → Bool
  | [], [] => true
  | a :: A, b :: B => eqS a b && eqL A B
  | _, _ => false
theorem eqL_iff : ∀ A B : List Src, eqL A B = true ↔ A = B
  | [], [] => by simp [eqL]
  | [], b :: B => by simp [eqL]
  | a :: A, [] => by simp [eqL]
  | a :: A, b :: B => by
    rw [eqL, Bool.and_eq_true, eqS_iff, eqL_iff A B, List.cons.injEq]
theorem eqL_true {A B : List Src} (h : A = B) : eqL A B = true := (eqL_iff A B).2 h
theorem eqL_false {A B : List Src} (h : A ≠ B) : eqL A B = false := by
  cases e : eqL A B
  · rfl
  · exact absurd ((eqL_iff A B).1 e) h

/-- By single blanks. -/
def spl : Bs → List Bs
  | [] => [[]]
  | c :: t => if c = 32 then [] :: spl t else match spl t with
    | [] => [[c]]
    | x :: r => (c :: x) :: r

theorem spl_ne (l : Bs) : spl l ≠ [] := by
  cases l with
  | nil => simp [spl]
  | cons c t => unfold spl; split <;> (try split) <;> simp

/-- Two words at least: the first one and a blank, the others. -/
theorem spl_two : ∀ (l a : Bs) (r : List Bs), spl l = a :: r → r ≠ [] → 32 ∉ a ∧ ∃ u, l = a ++ 32 :: u ∧ spl u = r
  | [], a, r, h, hr => by simp [spl] at h; exact absurd h.2 hr
  | c :: t, a, r, h, hr => by
    unfold spl at h
    by_cases hc : c = 32
    · rw [if_pos hc] at h
      cases h
      exact ⟨by simp, t, by simp [hc], rfl⟩
    · rw [if_neg hc] at h
      cases hs : spl t with
      | nil => exact absurd hs (spl_ne t)
      | cons x q =>
        rw [hs] at h
        cases h
        obtain ⟨h1, u, h2, h3⟩ := spl_two t x r hs hr
        refine ⟨?_, u, by simp [h2], h3⟩
        simp only [List.mem_cons, not_or]
        exact ⟨fun e => hc e.symm, h1⟩
theorem spl_at : ∀ (a u : Bs), 32 ∉ a → spl (a ++ 32 :: u) = a :: spl u
  | [], u, _ => by simp [spl]
  | c :: t, u, h => by
    simp only [List.mem_cons, not_or] at h
    show spl (c :: (t ++ 32 :: u)) = _
    rw [spl, if_neg (fun e => h.1 e.symm), spl_at t u h.2]
theorem spl_one : ∀ (a : Bs), 32 ∉ a → spl a = [a]
  | [], _ => rfl
  | c :: t, h => by
    simp only [List.mem_cons, not_or] at h
    unfold spl
    rw [if_neg (fun e => h.1 e.symm), spl_one t h.2]
theorem spl_single : ∀ (l a : Bs), spl l = [a] → a = l ∧ 32 ∉ l
  | [], a, h => by simp [spl] at h; exact ⟨h, by simp⟩
  | c :: t, a, h => by
    unfold spl at h
    by_cases hc : c = 32
    · rw [if_pos hc] at h; simp at h; exact absurd h.2 (spl_ne t)
    · rw [if_neg hc] at h
      cases hs : spl t with
      | nil => exact absurd hs (spl_ne t)
      | cons x q =>
        rw [hs] at h
        simp at h
        obtain ⟨h1, h2⟩ := h
        subst h2
        obtain ⟨e1, e2⟩ := spl_single t x hs
        subst e1
        refine ⟨h1.symm, ?_⟩
        simp only [List.mem_cons, not_or]
        exact ⟨fun e => hc e.symm, e2⟩

/-- What a head tells: its name and its dependencies; nothing of another form. -/
def headW : List Bs → Option (Bs × List Bs)
  | e :: n :: r => if e = [61, 61] ∧ nameB n = true then match r with
      | [] => some (n, [])
      | [_] => none
      | c :: ds => if c = [58] ∧ ds.all nameB = true then some (n, ds) else none
    else none
  | _ => none
theorem headW2 (e n : Bs) : headW [e, n] = if e = [61, 61] ∧ nameB n = true then some (n, []) else none := rfl
theorem headW3 (e n c : Bs) : headW [e, n, c] = none := by
  show (if e = [61, 61] ∧ nameB n = true then none else none) = none
  split <;> rfl
theorem headW4 (e n c d : Bs) (ds : List Bs) : headW (e :: n :: c :: d :: ds) = if e = [61, 61] ∧ nameB n = true then (if c = [58] ∧ (d :: ds).all nameB = true then some (n, d :: ds) else none) else none := rfl
def headF (l : Bs) : Option (Bs × List Bs) := headW (spl l)

theorem runL_no : ∀ (l : Bs), runL l = l.length → 32 ∉ l ∧ 10 ∉ l
  | [], _ => by simp
  | c :: t, h => by
    have hc : isNm c = true := by
      cases hh : isNm c
      · simp [runL, hh] at h
      · rfl
    have ht : runL t = t.length := by simpa [runL, hc] using h
    obtain ⟨h1, h2⟩ := runL_no t ht
    have e1 : c ≠ 32 := fun e => by rw [e] at hc; exact absurd hc (by decide)
    have e2 : c ≠ 10 := fun e => by rw [e] at hc; exact absurd hc (by decide)
    simp only [List.mem_cons, not_or]
    exact ⟨⟨fun e => e1 e.symm, h1⟩, fun e => e2 e.symm, h2⟩
theorem name_no {l : Bs} (h : nameB l = true) : 32 ∉ l ∧ 10 ∉ l := by
  unfold nameB at h
  simp only [Bool.and_eq_true, decide_eq_true_eq] at h
  obtain ⟨⟨h1, h2⟩, -⟩ := h
  unfold nameF at h2
  split at h2
  · exact absurd (List.eq_nil_of_length_eq_zero h2.symm) h1
  · exact runL_no l h2
theorem name_nil : nameB [] = false := rfl

/-- Where the first ' : ' is. -/
def cut3 : Bs → Option (Bs × Bs)
  | [] => none
  | c :: t => if ([32, 58, 32] : Bs).isPrefixOf (c :: t) then some ([], t.drop 2) else (cut3 t).map fun x => (c :: x.1, x.2)
theorem cut3_lib : ∀ N : Bs, Lib.cut N [32, 58, 32] = match cut3 N with
    | none => (N, [], false)
    | some x => (x.1, x.2, true)
  | [] => rfl
  | c :: t => by
    have ih := cut3_lib t
    unfold Lib.cut at ih ⊢
    unfold cut3 Lib.index
    by_cases hp : ([32, 58, 32] : Bs).isPrefixOf (c :: t) = true
    · rw [if_pos hp, if_pos hp]
      simp
    · rw [if_neg hp, if_neg hp]
      by_cases h1 : Lib.index t [32, 58, 32] = -1
      · rw [h1] at ih ⊢
        simp at ih ⊢
        cases hc : cut3 t with
        | none => simp
        | some x => rw [hc] at ih; simp at ih
      · have h2 : (Lib.index t [32, 58, 32] == -1) = false := by simpa using h1
        have h3 := Lib.index_ge t [32, 58, 32]
        have h4 : 0 ≤ Lib.index t [32, 58, 32] := by omega
        rw [if_pos h4] at ih
        rw [h2]
        simp only [Bool.false_eq_true, if_false]
        rw [if_pos (by omega)]
        cases hc : cut3 t with
        | none => rw [hc] at ih; simp at ih
        | some x =>
          rw [hc] at ih
          simp only [Prod.mk.injEq] at ih
          obtain ⟨k, hk⟩ : ∃ k : Nat, Lib.index t [32, 58, 32] = k := ⟨_, (Int.toNat_of_nonneg h4).symm⟩
          rw [hk] at ih ⊢
          have e1 : ((k : Int) + 1).toNat = k + 1 := by omega
          have e2 : ((k : Int)).toNat = k := by omega
          rw [e2] at ih
          rw [e1]
          simp only [Option.map_some, List.take_succ_cons, ih.1, Prod.mk.injEq, true_and, and_true]
          rw [← ih.2.1]
          show (c :: t).drop (k + 1 + 3) = _
          rw [show k + 1 + 3 = (k + 3) + 1 by omega, List.drop_succ_cons]
          rfl

/-- The words of what stands behind a head's mark, by where its ' : ' is. -/
theorem cut3_spl : ∀ N : Bs, match cut3 N with
    | none => (32 ∈ N → ¬ ∃ x r, spl N = x :: [58] :: r ∧ r ≠ [])
    | some y => (32 ∉ y.1 → spl N = y.1 :: [58] :: spl y.2) ∧ (32 ∈ y.1 → ¬ ∃ x r, spl N = x :: [58] :: r ∧ r ≠ [])
  | [] => by simp [cut3]
  | c :: t => by
    have ih := cut3_spl t
    unfold cut3
    by_cases hp : ([32, 58, 32] : Bs).isPrefixOf (c :: t) = true
    · rw [if_pos hp]
      obtain ⟨u, hu⟩ := List.isPrefixOf_iff_prefix.1 hp
      simp only [List.cons_append, List.nil_append] at hu
      cases hu
      simp [spl]
    · rw [if_neg hp]
      by_cases hc : c = 32
      · subst hc
        have key : ¬ ∃ x r, spl (32 :: t) = x :: [58] :: r ∧ r ≠ [] := by
          rintro ⟨x, r, h, hr⟩
          have h' : spl t = [58] :: r := by
            have : spl (32 :: t) = [] :: spl t := by simp [spl]
            rw [this] at h
            exact (List.cons.inj h).2
          obtain ⟨-, u, hu, -⟩ := spl_two t [58] r h' hr
          apply hp
          rw [hu]
          rfl
        cases hq : cut3 t with
        | none => simp only [Option.map_none]; intro _; exact key
        | some y => simp only [Option.map_some]; exact ⟨fun h => absurd (List.mem_cons_self) h, fun _ => key⟩
      · have hs : ∀ x r, spl t = x :: r → spl (c :: t) = (c :: x) :: r := by
          intro x r h
          rw [spl, if_neg hc, h]
        have hs' : (¬ ∃ x r, spl t = x :: [58] :: r ∧ r ≠ []) → ¬ ∃ x r, spl (c :: t) = x :: [58] :: r ∧ r ≠ [] := by
          rintro h ⟨x, r, h1, h2⟩
          cases he : spl t with
          | nil => exact spl_ne t he
          | cons x' q =>
            rw [hs x' q he] at h1
            cases h1
            exact h ⟨x', r, he, h2⟩
        cases hq : cut3 t with
        | none =>
          rw [hq] at ih
          simp only [Option.map_none]
          intro hm
          refine hs' (ih ?_)
          rcases List.mem_cons.1 hm with e | e
          · exact absurd e.symm hc
          · exact e
        | some y =>
          rw [hq] at ih
          simp only [Option.map_some]
          refine ⟨fun hn => hs _ _ (ih.1 fun e => hn (List.mem_cons_of_mem _ e)), fun hm => hs' (ih.2 ?_)⟩
          rcases List.mem_cons.1 hm with e | e
          · exact absurd e.symm hc
          · exact e

/-- What the program does with a head's line, and what it tells. -/
def cutN (l : Bs) : Bs := if ([61, 61, 32] : Bs).isPrefixOf l then l.drop 3 else l
def cutName (l : Bs) : Bs := (Lib.cut (cutN l) [32, 58, 32]).1
def cutDeps (l : Bs) : List Bs := if (Lib.cut (cutN l) [32, 58, 32]).2.2 then spl (Lib.cut (cutN l) [32, 58, 32]).2.1 else []
def cutIs (l : Bs) : Bool := ([61, 61, 32] : Bs).isPrefixOf l && (cutDeps l).all nameB && nameB (cutName l)
theorem headW_not {x : Bs} {r : List Bs} (h : ¬ ∃ y q, (x :: r) = y :: [58] :: q ∧ q ≠ []) (hr : r ≠ []) : headW ([61, 61] :: x :: r) = none := by
  match r, hr with
  | [c], _ => exact headW3 _ _ _
  | c :: d :: ds, _ =>
    have hc : c ≠ [58] := fun e => h ⟨x, d :: ds, by rw [e], by simp⟩
    rw [headW4, if_neg (c := c = [58] ∧ _) (fun e => hc e.1)]
    split <;> rfl
theorem cut_head (l : Bs) : (if cutIs l = true then some (cutName l, cutDeps l) else none) = headF l := by
  unfold headF
  by_cases hp : ([61, 61, 32] : Bs).isPrefixOf l = true
  · obtain ⟨N, rfl⟩ := List.isPrefixOf_iff_prefix.1 hp
    have e1 : cutN ([61, 61, 32] ++ N) = N := by unfold cutN; rw [if_pos hp]; rfl
    have e2 : spl ([61, 61, 32] ++ N) = [61, 61] :: spl N := spl_at [61, 61] N (by decide)
    have C := cut3_lib N
    have K := cut3_spl N
    unfold cutIs cutName cutDeps
    rw [e1, e2, hp, C]
    cases hq : cut3 N with
    | none =>
      rw [hq] at K
      simp only [Bool.false_eq_true, if_false, List.all_nil, Bool.and_true, Bool.true_and]
      by_cases hb : (32 : UInt8) ∈ N
      · have hn : nameB N = false := by
          cases h : nameB N
          · rfl
          · exact absurd hb (name_no h).1
        rw [hn]
        cases hs : spl N with
        | nil => exact absurd hs (spl_ne N)
        | cons x r =>
          rw [hs] at K
          have hr : r ≠ [] := fun e => by subst e; exact (spl_single N x hs).2 hb
          rw [headW_not (K hb) hr]; rfl
      · rw [spl_one N hb]
        unfold headW
        by_cases h : nameB N = true <;> simp [h]
    | some y =>
      rw [hq] at K
      simp only [Bool.true_and, if_true]
      by_cases hb : (32 : UInt8) ∈ y.1
      · have hn : nameB y.1 = false := by
          cases h : nameB y.1
          · rfl
          · exact absurd hb (name_no h).1
        rw [hn]
        have K2 := K.2 hb
        cases hs : spl N with
        | nil => exact absurd hs (spl_ne N)
        | cons x r =>
          rw [hs] at K2
          have hr : r ≠ [] := fun e => by
            subst e
            have h1 := (spl_single N x hs).2
            have C2 := Lib.index_spec N [32, 58, 32]
            unfold Lib.cut at C
            rw [hq] at C
            split at C
            · simp only [Prod.mk.injEq] at C
              exact h1 (List.mem_of_mem_take (C.1 ▸ hb))
            · simp at C
          rw [headW_not K2 hr]; simp
      · rw [K.1 hb]
        cases hd : spl y.2 with
        | nil => exact absurd hd (spl_ne _)
        | cons d ds =>
          unfold headW
          by_cases h : nameB y.1 = true
          · simp only [h, and_self, if_true, Bool.and_true, true_and]
          · simp [h]
  · have h0 : cutIs l = false := by unfold cutIs; simp [hp]
    rw [h0]
    simp only [Bool.false_eq_true, if_false]
    cases hs : spl l with
    | nil => rfl
    | cons e r =>
      cases r with
      | nil => rfl
      | cons n r =>
        by_cases he : e = [61, 61]
        · exfalso
          obtain ⟨-, u, hu, -⟩ := spl_two l e (n :: r) hs (by simp)
          apply hp
          rw [hu, he]; rfl
        · unfold headW; simp [he]

/-- A head's one form. -/
def headT (n : Bs) (ds : List Bs) : Bs := [61, 61, 32] ++ n ++ (if ds = [] then [] else [32, 58]) ++ ds.flatMap fun d => 32 :: d
theorem spl_join : ∀ (r : List Bs) (l x : Bs), spl l = x :: r → l = x ++ r.flatMap fun d => 32 :: d
  | [], l, x, h => by simp [(spl_single l x h).1]
  | y :: r, l, x, h => by
    obtain ⟨-, u, h1, h2⟩ := spl_two l x (y :: r) h (by simp)
    rw [h1, spl_join r u y h2]; simp
theorem head_form {l n : Bs} {ds : List Bs} (h : headF l = some (n, ds)) : l = headT n ds := by
  unfold headF at h
  cases hs : spl l with
  | nil => exact absurd hs (spl_ne l)
  | cons e r =>
    have hj := spl_join r l e hs
    rw [hs] at h
    match r with
    | [] => simp [headW] at h
    | [m] =>
      rw [headW2] at h
      split at h
      · rename_i h1
        simp at h
        obtain ⟨rfl, rfl⟩ := h
        rw [hj, h1.1]; simp [headT]
      · cases h
    | [m, c] => rw [headW3] at h; cases h
    | m :: c :: d :: ds' =>
      rw [headW4] at h
      split at h
      · rename_i h1
        split at h
        · rename_i h2
          simp only [Option.some.injEq, Prod.mk.injEq] at h
          obtain ⟨rfl, rfl⟩ := h
          rw [hj, h1.1, h2.1]; simp [headT]
        · cases h
      · cases h
theorem head_names {l n : Bs} {ds : List Bs} (h : headF l = some (n, ds)) : nameB n = true := by
  rw [← cut_head] at h
  split at h
  · rename_i h1
    simp at h
    unfold cutIs at h1
    simp only [Bool.and_eq_true] at h1
    rw [← h.1]; exact h1.2
  · cases h

/-- The library's words are these. -/
theorem split_spl : ∀ (m : Nat) (s : Bs), s.length ≤ m → Lib.splitK [32] 0 (Lib.count s [32]) s = spl s := by
  intro m
  induction m with
  | zero =>
    intro s hs
    obtain rfl : s = [] := List.eq_nil_of_length_eq_zero (by omega)
    rfl
  | succ m ih =>
    intro s hs
    rcases Lib.index_spec s [32] with ⟨h1, h2⟩ | ⟨i, h1, h2, h3, h4⟩
    · rw [Lib.count_miss h1]
      show [s] = _
      rw [spl_one]
      intro hm
      obtain ⟨j, hj, e⟩ := List.getElem_of_mem hm
      have := h2 j (by omega)
      rw [Lib.occAt, List.drop_eq_getElem_cons hj, e] at this
      simp at this
    · rw [Lib.count_hit (by simp) h1, Nat.add_comm, Lib.splitK]
      have hi : i < s.length := by
        rcases Lib.occAt_room h3 with h | h
        · simp at h; omega
        · simp at h
      have e1 : (Lib.index s [32] == -1) = false := by rw [h1, beq_eq_false_iff_ne]; omega
      rw [e1, h1]
      simp only [Bool.false_eq_true, if_false, Int.toNat_natCast, Nat.add_zero, List.length_singleton]
      have e3 : s[i] = 32 := by
        have := Lib.occAt_head rfl h3
        rw [List.getElem?_eq_getElem hi] at this
        simpa using this
      have hs' : s = s.take i ++ 32 :: s.drop (i + 1) := by
        have := List.take_append_drop i s
        rw [List.drop_eq_getElem_cons hi, e3] at this
        exact this.symm
      have hno : (32 : UInt8) ∉ s.take i := by
        intro hm
        obtain ⟨j, hj, e⟩ := List.getElem_of_mem hm
        have hj' : j < i := by simp at hj; omega
        have := h4 j hj'
        rw [Lib.occAt, List.drop_eq_getElem_cons (by omega)] at this
        rw [List.getElem_take] at e
        rw [e] at this
        simp at this
      rw [ih _ (by simp; omega)]
      conv => rhs; rw [hs', spl_at _ _ hno]
end Go.Proofs.YtmfdmpfeoppnfaaDoor
