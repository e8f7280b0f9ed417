/-
  What a statement has if it says so: a value.
-/
import Derived.Test.YtjenmmkamhplkaaTk2
namespace Go.Proofs.Ytjenmmkamhplkaa
open Go.RowKit

theorem below_set {K : Ctx} {w : World} {g : Nat} (hg : K.C ≤ g) (j : Nat) (v : Value) (hC : K.C ≤ w.heap.size) : Below K.C w (w.setCell ⟨g, j, none⟩ v) :=
  ((Stay.refl (fun k => k = g) w).set (fun _ => rfl) j v).below hC (fun k hk => by omega)
theorem have_rows {w : World} {g t : Nat} {h : Bool} {A M cs R : List Value} (hr : Row w g t (A ++ ([.bool h] ++ (M ++ (cs ++ R))))) (hA : A.length = 8) (v : Bool) :
    Row (w.setCell ⟨g, 8, none⟩ (.bool v)) g t (A ++ ([.bool v] ++ (M ++ (cs ++ R)))) := by
  have := Row.setCells [.bool v] [.bool h] A (M ++ (cs ++ R)) w 8 hr hA rfl
  exact this

set_option maxHeartbeats 4000000 in
theorem haveValue_any {K : Ctx} {w : World} (he : Env K w) {x : Va} {h : Bool} {A M cs R : List Value} {g t : Nat} (hr : Row w g t (A ++ ([.bool h] ++ (M ++ (cs ++ R))))) (hA : A.length = 8) (hM : M.length = 2) (hg : K.C ≤ g)
    (hx : VaAt K w cs x) (B : Bool) (hB : B = true ↔ (h = true → MayVa x)) :
    Calls Try.prog 66 #[.pointer (some ⟨g, 0, none⟩), .pointer (some ⟨g, 11, none⟩), .func (.func 67) #[] #[]] w fun ev w' => ev = .returned (.bool B) ∧ Row w' g t (A ++ ([.bool false] ++ (M ++ ((if h then vaCells 0 else cs) ++ R)))) ∧ Stay (fun k => k = g) w w' := by
  have c8 : w.cell? ⟨g, 8, none⟩ = some (.bool h) := by
    rw [hr.cell 8]
    exact sub_of A [.bool h] (M ++ (cs ++ R)) hA 0 (by simp)
  have z8 := hr.fz 8
  have hr2 := have_rows hr hA false
  have hS := (Stay.refl (fun k => k = g) w).set (fun _ => rfl) 8 (.bool false)
  have hb := below_set hg 8 (.bool false) he.C
  cases h
  · obtain rfl := bool_true hB (fun h => by cases h)
    have HR : Hid (Row (w.setCell ⟨g, 8, none⟩ (.bool false)) g t (A ++ ([.bool false] ++ (M ++ (cs ++ R))))) := hr2
    have HS : Hid (Stay (fun k => k = g) w (w.setCell ⟨g, 8, none⟩ (.bool false))) := hS
    clear hr hr2 hS hb hB he hx
    go_enter Try.func66, Try.ntmps66
    go_wp2_with fail
    go_ret
    exact ⟨rfl, HR.out, HS.out⟩
  · have hr3 : Row (w.setCell ⟨g, 8, none⟩ (.bool false)) g t ((A ++ ([.bool false] ++ M)) ++ (cs ++ R)) := by
      have := hr2
      simp only [List.append_assoc] at this ⊢
      exact this
    have D : Hid (Calls Try.prog 70 #[.pointer (some ⟨g, 11, none⟩), .func (.func 67) #[] #[]] (w.setCell ⟨g, 8, none⟩ (.bool false)) fun ev w' => ev = .returned (.bool B) ∧ Row w' g t (A ++ ([.bool false] ++ (M ++ (vaCells 0 ++ R)))) ∧ Stay (fun k => k = g) w w') := by
      refine (takeValue_any (he.below hb) hr3 (by simp [hA, hM]) (hx.below hb) B (by rw [hB]; exact ⟨fun h => h rfl, fun h _ => h⟩)).mono ?_
      rintro _ _ ⟨rfl, hr4, hs4⟩
      refine ⟨rfl, ?_, hS.trans hs4⟩
      simp only [List.append_assoc] at hr4
      exact hr4
    clear hr hr2 hr3 hS hb hB he hx
    go_enter Try.func66, Try.ntmps66
    go_wp2_with (go_at_call 70; refine D.out.mono ?_; rintro ev w2 ⟨rfl, h2, h3⟩)
    go_ret
    exact ⟨rfl, h2, h3⟩
end Go.Proofs.Ytjenmmkamhplkaa
