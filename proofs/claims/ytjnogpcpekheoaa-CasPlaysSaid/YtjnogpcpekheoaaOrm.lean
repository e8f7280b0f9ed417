/-
  Two stores: what is known of both; sorted lists of the same sums are one.
-/
import Derived.Test.YtjnogpcpekheoaaLst2
import Derived.Test.YtjnogpcpekheoaaXls
namespace Go.Proofs.Ytjnogpcpekheoaa
open Go.RowKit Go.Maps

/-- A store, with what List tells of it. -/
structure SList (sb : Nat) (F : Bys → Bys) (T : (Nat → Prop) → List Bys → World → Prop) : Prop where
  list : ∀ X y ins, T X ins y → Calls Try.prog 20 #[.pointer (some ⟨sb, 0, none⟩)] y fun ev w' => ListRet (ins.map F).reverse y.heap.size ev w' ∧ Below y.heap.size y w'
  apart : ∀ X y ins, T X ins y → (ins.map F).Nodup
theorem cK_keys (ins : List Bys) : (cK ins).map (·.1) = (ins.map sumF).reverse := by simp [cK, List.map_reverse, Function.comp_def]

/-- All that a walk knows of sums and of new stores. -/
structure FEnv (F : Bys → Bys) : Prop where
  len : ∀ b, (F b).length = 32
  sum : ∀ y v b, Sl y v b → b.length ≤ 200 → Calls Try.prog 14 #[v] y fun ev w' => ev = .returned (.agg (bys (F b)).toArray) ∧ Below y.heap.size y w'
  told : ∀ y, Calls Try.prog 9 #[] y fun ev w' => ev = .returned (.bool true) ∧ Below y.heap.size y w'
  eq : ∀ (y : World) a b, (Op.equalIn 10000 35 (.agg (bys (F a)).toArray) (.agg (bys (F b)).toArray)).run Try.prog y = .ok (F a == F b) y
  new : ∀ (w y : World) (r : Nat), Below w.heap.size w y → 1 ≤ r → r ≤ 4096 → Calls Try.prog 8 #[.int .i64 (r : Int)] y fun ev w' => ∃ sb bm T, ev = .returned (.tuple #[.pointer (some ⟨sb, 0, none⟩), .nilIface]) ∧ SEnv w r sb bm F T ∧ SList sb F T ∧ T (fun _ => False) [] w' ∧ y.heap.size ≤ bm ∧ Below y.heap.size y w'
theorem fenv_any : FEnv sumF where
  len b := sumF_len _
  sum y v b h hl := xsum_any y v _ h (by omega)
  told y := told_any y
  eq y a b := equ25 y _ _ (sumF_len _) (sumF_len _)
  new w y r hy h1 h2 := by
    refine (new_ok y r h1 h2).mono ?_
    rintro ev w' ⟨v, bm, rfl, hS, hb⟩
    obtain ⟨sb, rfl, -⟩ := hS.shape
    refine ⟨sb, bm, _, rfl, senv_any w r sb bm h2 (Nat.le_trans hy.size hS.omap), ⟨fun X y ins hT => ?_, fun X y ins hT => ?_⟩, hS.wide (fun k hk => ⟨Nat.le_trans hy.size hk, id⟩), hS.omap, hb⟩
    · have := list_any hT
      rwa [cK_keys] at this
    · have := hT.apart
      rw [cK_keys] at this
      exact (List.reverse_perm (ins.map sumF)).nodup_iff.1 this

theorem sorted_head {x : Bys} {l : List Bys} (h : (x :: l).Pairwise (fun a b => less a b = true)) : ∀ y ∈ l, less x y = true := (List.pairwise_cons.1 h).1
/-- Two rising lists of the same sums are one. -/
theorem sorted_eq : ∀ (a b : List Bys), a.Pairwise (fun x y => less x y = true) → b.Pairwise (fun x y => less x y = true) → (∀ z, z ∈ a ↔ z ∈ b) → a = b
  | [], [], _, _, _ => rfl
  | [], y :: b, _, _, h => by have := (h y).2 (by simp); simp at this
  | x :: a, [], _, _, h => by have := (h x).1 (by simp); simp at this
  | x :: a, y :: b, ha, hb, h => by
    have hxy : x = y := by
      rcases List.mem_cons.1 ((h x).1 (by simp)) with e | e
      · exact e
      · rcases List.mem_cons.1 ((h y).2 (by simp)) with e' | e'
        · exact e'.symm
        · have h1 := sorted_head hb x e
          have h2 := sorted_head ha y e'
          have := less_trans _ _ _ h1 h2
          rw [less_irrefl] at this
          cases this
    subst hxy
    rw [sorted_eq a b (List.pairwise_cons.1 ha).2 (List.pairwise_cons.1 hb).2 (fun z => ?_)]
    constructor
    · intro hz
      rcases List.mem_cons.1 ((h z).1 (by simp [hz])) with e | e
      · subst e
        have := sorted_head ha _ hz
        rw [less_irrefl] at this
        cases this
      · exact e
    · intro hz
      rcases List.mem_cons.1 ((h z).2 (by simp [hz])) with e | e
      · subst e
        have := sorted_head hb _ hz
        rw [less_irrefl] at this
        cases this
      · exact e

section
variable {ops : Array Oper} {rest : List Oper} {o : Oper} {a : Act} {C : World → Prop} {Q : Act → Prop}
theorem quiet_load2 (hgd : o.guard = none) (ty : TypeId) (x : Operand) (ho : o.op = .load ty x) (g of : Nat) (hx : a.eval x = .pointer (some ⟨g, of, none⟩)) (v : Value)
    (hr : ∀ w, C w → (loadVar ty ⟨g, of, none⟩).run Try.prog w = .ok v w) (k : wpQuiet Try.prog ops C Q rest (a.put o.dst v)) : wpQuiet Try.prog ops C Q (o :: rest) a := by
  refine quiet_value hgd _ (fun w hw => ?_) k
  unfold execOp
  simp only [ho, hx, Instr.loadAt, Instr.sureAddr, Sem.run_bind, Sem.run_pure, Result.andThen_ok, hr w hw]
end
theorem load35m (w : World) (g of : Nat) (L : List Value) (hr : w.rangeAt g of L) (hi : (Try.prog.info? 35).map (·.size) = some L.length) : (loadVar 35 ⟨g, of, none⟩).run Try.prog w = .ok (.agg L.toArray) w :=
  run_loadVar_mid w g of 35 L _ hr Try.underlying35 rfl hi
end Go.Proofs.Ytjnogpcpekheoaa
