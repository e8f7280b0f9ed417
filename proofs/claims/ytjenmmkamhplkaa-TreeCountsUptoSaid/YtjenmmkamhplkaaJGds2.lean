/-
  The texts Gds, Lxb, joined.
-/
import Derived.Test.YtjenmmkamhplkaaOpe
import Derived.HandedShaped
import Derived.Test.YtjenmmkamhplkaaJSub2
namespace Go.Proofs.Ytjenmmkamhplkaa
open Go.ChangeShapes Go.WideShapes Go.ChangeAt Go.RowKit

theorem weightsAll_mem {H : Type} {P : Program} {e : TypeId} : ∀ {l : List (DataW H)} {d : DataW H}, d ∈ l → ∀ n ∈ d.weights P e, n ∈ DataW.weightsAll P e l
  | [], _, h, _, _ => by cases h
  | x :: l, d, h, n, hn => by
    unfold DataW.weightsAll
    rcases List.mem_cons.1 h with rfl | h
    · exact List.mem_append_left _ hn
    · exact List.mem_append_right _ (weightsAll_mem h n hn)
/-- All that lies within is at most of the form's reach. -/
def Rch {H : Type} (t : TypeId) (d : DataW H) : Prop := ∀ n ∈ d.weights Try.prog t, n ≤ reachBytes
theorem rch_text {H : Type} {s : List UInt8} {t : TypeId} (h : Rch (H := H) t (.lit (.string s))) : s.length ≤ reachBytes := h _ (by simp [DataW.weights])
theorem rch_row {H : Type} {t e : TypeId} {els sp : List (DataW H)} (h : Rch t (.slice els sp)) (hu : Try.prog.underlying t = some (.slice e)) : els.length * Try.prog.bytesOf e ≤ 140737488355328 ∧ ∀ d ∈ els, Rch e d := by
  unfold Rch at h ⊢
  unfold DataW.weights at h
  simp only [hu] at h
  refine ⟨?_, fun d hd n hn => h n (List.mem_cons_of_mem _ (List.mem_append_left _ (weightsAll_mem hd n hn)))⟩
  have h1 := h _ (List.mem_cons_self)
  have h2 : els.length * Try.prog.bytesOf e ≤ (els.length + sp.length) * Try.prog.bytesOf e := Nat.mul_le_mul_right _ (by omega)
  have h3 : reachBytes ≤ 140737488355328 := by decide
  omega
theorem rch_part {H : Type} {t : TypeId} {fs : Array Field} {ps : List (DataW H)} (h : Rch t (.agg ps)) (hu : Try.prog.underlying t = some (.struct fs)) (i : Nat) (f : Field) (d : DataW H) (hf : fs[i]? = some f) (hd : ps[i]? = some d) : Rch f.type d := by
  unfold Rch at h ⊢
  unfold DataW.weights at h
  simp only [hu] at h
  intro n hn
  refine h n (DataW.weights_mem_each (j := i) (t := f.type) ?_ hd n hn)
  simp [hf]
theorem gd_rch {H : Type} : Gd (H := H) Rch reachBytes := ⟨rch_text, rch_row, rch_part⟩
def reachK (C : Nat) : Ctx := ⟨C, reachBytes, by decide⟩
section
variable {H : Type} {enc : TypeId × Value → H} {W : World} {base : Nat} {v : Value} {d : DataW H} {p : List MemPlace}
set_option maxRecDepth 100000 in
theorem open_crt {Good : TypeId → DataW H → Prop} {K : Ctx} (G : Gd Good K.B) (hK : W.heap.size ≤ K.C) (hv : Value.okWide Try.prog W .any base 35 v) (h : DataW.Trod enc Try.prog W 0 (fun _ => true) true 35 v d p) (g : Good 35 d) : ∃ n cs c, v = .agg cs.toArray ∧ CrtAt n K W cs c := by
  obtain ⟨cs, rfl⟩ : ∃ cs, v = .agg cs := by
    simp only [Value.okWide, Try.underlying35] at hv
    cases v <;> simp_all
  obtain ⟨fuel, hf⟩ := h
  have hf' : Td enc W fuel 35 cs.toList (d, p) := by simpa [Value.cells] using hf
  obtain ⟨c, hc⟩ := crt_of G hK hf' g
  exact ⟨fuel, cs.toList, c, by simp, hc⟩
set_option maxRecDepth 100000 in
theorem open_ty {Good : TypeId → DataW H → Prop} {K : Ctx} (G : Gd Good K.B) (hK : W.heap.size ≤ K.C) (hv : Value.okWide Try.prog W .any base 27 v) (h : DataW.Trod enc Try.prog W 0 (fun _ => true) true 27 v d p) (g : Good 27 d) : ∃ cs t, v = .agg cs.toArray ∧ IsTy K W cs t := by
  obtain ⟨cs, rfl⟩ : ∃ cs, v = .agg cs := by
    simp only [Value.okWide, Try.underlying27] at hv
    cases v <;> simp_all
  obtain ⟨fuel, hf⟩ := h
  have hf' : Td enc W fuel 27 cs.toList (d, p) := by simpa [Value.cells] using hf
  obtain ⟨c, hc⟩ := ty_of G hK fuel hf' g
  exact ⟨cs.toList, c, by simp, fuel, hc⟩
end
theorem maxLen_cell {W : World} (h : W.ShapedOpen Try.prog) : ∃ m, W.cell? ⟨0, 0, none⟩ = some (.int .i64 m) :=
  Go.Proofs.cell_of_shapedOpen_int (g := 0) (zero := #[.int .i64 0]) (t := 3) h (of_decide_eq_true (by kernel_rfl)) (by kernel_rfl) rfl (by kernel_rfl) (by kernel_rfl) Try.underlying3
theorem Try.laidAll : laidOutB Try.prog = true := by kernel_rfl
theorem Try.ownKn : ownKnob Try.prog.godebug = none := by kernel_rfl
end Go.Proofs.Ytjenmmkamhplkaa

namespace Go.Proofs.Ytjenmmkamhplkaa
open Go.RowKit
def ops1 (f : Func) : List Oper := match f.body with
  | some (.seq _ (.seq (.region _ ops _) _)) => ops.toList
  | _ => []
/-- The first so many steps of the check. -/
def lexTo (md : Region.Mode) (ops : Array Oper) : Nat → Nat → Array Bool → Bool
  | 0, _, _ => true
  | s + 1, k, listed => (Region.ready md ops listed).contains k && Region.free md ops listed k && lexTo md ops s (k + 1) (listed.setIfInBounds k true)
/-- What is listed behind them. -/
def listedTo : Nat → Nat → Array Bool → Array Bool
  | 0, _, listed => listed
  | s + 1, k, listed => listedTo s (k + 1) (listed.setIfInBounds k true)
theorem lex_split (md : Region.Mode) (ops : Array Oper) : ∀ (s f k : Nat) (listed : Array Bool), lexTo md ops s k listed = true → Region.lexFrom md ops f (k + s) (listedTo s k listed) = true → Region.lexFrom md ops (f + s) k listed = true
  | 0, f, k, listed, _, h => h
  | s + 1, f, k, listed, h1, h2 => by
    simp only [lexTo, Bool.and_eq_true] at h1
    simp only [listedTo] at h2
    have h3 := lex_split md ops s f (k + 1) _ h1.2 (by rw [Nat.add_right_comm, Nat.add_assoc]; exact h2)
    show Region.lexFrom md ops (f + s + 1) k listed = true
    simp only [Region.lexFrom, Bool.and_eq_true]
    exact ⟨h1.1, h3⟩
theorem listed_split : ∀ (s r k : Nat) (listed : Array Bool), listedTo r (k + s) (listedTo s k listed) = listedTo (s + r) k listed
  | 0, r, k, listed => by simp [listedTo]
  | s + 1, r, k, listed => by
    have := listed_split s r (k + 1) (listed.setIfInBounds k true)
    rw [show s + 1 + r = (s + r) + 1 by omega]
    simp only [listedTo]
    rw [← this, Nat.add_right_comm, Nat.add_assoc]
theorem lex75_0 : lexTo .any (ops1 Try.f45).toArray 8 0 (listedTo 0 0 (Array.replicate 112 false)) = true := by kernel_rfl
theorem lex75_8 : lexTo .any (ops1 Try.f45).toArray 8 8 (listedTo 8 0 (Array.replicate 112 false)) = true := by kernel_rfl
theorem lex75_16 : lexTo .any (ops1 Try.f45).toArray 8 16 (listedTo 16 0 (Array.replicate 112 false)) = true := by kernel_rfl
theorem lex75_24 : lexTo .any (ops1 Try.f45).toArray 8 24 (listedTo 24 0 (Array.replicate 112 false)) = true := by kernel_rfl
theorem lex75_32 : lexTo .any (ops1 Try.f45).toArray 8 32 (listedTo 32 0 (Array.replicate 112 false)) = true := by kernel_rfl
theorem lex75_40 : lexTo .any (ops1 Try.f45).toArray 8 40 (listedTo 40 0 (Array.replicate 112 false)) = true := by kernel_rfl
theorem lex75_48 : lexTo .any (ops1 Try.f45).toArray 8 48 (listedTo 48 0 (Array.replicate 112 false)) = true := by kernel_rfl
theorem lex75_56 : lexTo .any (ops1 Try.f45).toArray 8 56 (listedTo 56 0 (Array.replicate 112 false)) = true := by kernel_rfl
theorem lex75_64 : lexTo .any (ops1 Try.f45).toArray 8 64 (listedTo 64 0 (Array.replicate 112 false)) = true := by kernel_rfl
theorem lex75_72 : lexTo .any (ops1 Try.f45).toArray 8 72 (listedTo 72 0 (Array.replicate 112 false)) = true := by kernel_rfl
theorem lex75_80 : lexTo .any (ops1 Try.f45).toArray 8 80 (listedTo 80 0 (Array.replicate 112 false)) = true := by kernel_rfl
theorem lex75_88 : lexTo .any (ops1 Try.f45).toArray 8 88 (listedTo 88 0 (Array.replicate 112 false)) = true := by kernel_rfl
theorem lex75_96 : lexTo .any (ops1 Try.f45).toArray 8 96 (listedTo 96 0 (Array.replicate 112 false)) = true := by kernel_rfl
theorem lex75_104 : lexTo .any (ops1 Try.f45).toArray 8 104 (listedTo 104 0 (Array.replicate 112 false)) = true := by kernel_rfl
theorem lex75_end : Region.lexFrom .any (ops1 Try.f45).toArray 0 112 (listedTo 112 0 (Array.replicate 112 false)) = true := by kernel_rfl
theorem lex75_from104 : Region.lexFrom .any (ops1 Try.f45).toArray 8 104 (listedTo 104 0 (Array.replicate 112 false)) = true :=
  lex_split .any (ops1 Try.f45).toArray 8 0 104 (listedTo 104 0 (Array.replicate 112 false)) lex75_104 (by have h := listed_split 104 8 0 (Array.replicate 112 false); rw [Nat.zero_add] at h; rw [h]; exact lex75_end)
theorem lex75_from96 : Region.lexFrom .any (ops1 Try.f45).toArray 16 96 (listedTo 96 0 (Array.replicate 112 false)) = true :=
  lex_split .any (ops1 Try.f45).toArray 8 8 96 (listedTo 96 0 (Array.replicate 112 false)) lex75_96 (by have h := listed_split 96 8 0 (Array.replicate 112 false); rw [Nat.zero_add] at h; rw [h]; exact lex75_from104)
theorem lex75_from88 : Region.lexFrom .any (ops1 Try.f45).toArray 24 88 (listedTo 88 0 (Array.replicate 112 false)) = true :=
  lex_split .any (ops1 Try.f45).toArray 8 16 88 (listedTo 88 0 (Array.replicate 112 false)) lex75_88 (by have h := listed_split 88 8 0 (Array.replicate 112 false); rw [Nat.zero_add] at h; rw [h]; exact lex75_from96)
theorem lex75_from80 : Region.lexFrom .any (ops1 Try.f45).toArray 32 80 (listedTo 80 0 (Array.replicate 112 false)) = true :=
  lex_split .any (ops1 Try.f45).toArray 8 24 80 (listedTo 80 0 (Array.replicate 112 false)) lex75_80 (by have h := listed_split 80 8 0 (Array.replicate 112 false); rw [Nat.zero_add] at h; rw [h]; exact lex75_from88)
theorem lex75_from72 : Region.lexFrom .any (ops1 Try.f45).toArray 40 72 (listedTo 72 0 (Array.replicate 112 false)) = true :=
  lex_split .any (ops1 Try.f45).toArray 8 32 72 (listedTo 72 0 (Array.replicate 112 false)) lex75_72 (by have h := listed_split 72 8 0 (Array.replicate 112 false); rw [Nat.zero_add] at h; rw [h]; exact lex75_from80)
theorem lex75_from64 : Region.lexFrom .any (ops1 Try.f45).toArray 48 64 (listedTo 64 0 (Array.replicate 112 false)) = true :=
  lex_split .any (ops1 Try.f45).toArray 8 40 64 (listedTo 64 0 (Array.replicate 112 false)) lex75_64 (by have h := listed_split 64 8 0 (Array.replicate 112 false); rw [Nat.zero_add] at h; rw [h]; exact lex75_from72)
theorem lex75_from56 : Region.lexFrom .any (ops1 Try.f45).toArray 56 56 (listedTo 56 0 (Array.replicate 112 false)) = true :=
  lex_split .any (ops1 Try.f45).toArray 8 48 56 (listedTo 56 0 (Array.replicate 112 false)) lex75_56 (by have h := listed_split 56 8 0 (Array.replicate 112 false); rw [Nat.zero_add] at h; rw [h]; exact lex75_from64)
theorem lex75_from48 : Region.lexFrom .any (ops1 Try.f45).toArray 64 48 (listedTo 48 0 (Array.replicate 112 false)) = true :=
  lex_split .any (ops1 Try.f45).toArray 8 56 48 (listedTo 48 0 (Array.replicate 112 false)) lex75_48 (by have h := listed_split 48 8 0 (Array.replicate 112 false); rw [Nat.zero_add] at h; rw [h]; exact lex75_from56)
theorem lex75_from40 : Region.lexFrom .any (ops1 Try.f45).toArray 72 40 (listedTo 40 0 (Array.replicate 112 false)) = true :=
  lex_split .any (ops1 Try.f45).toArray 8 64 40 (listedTo 40 0 (Array.replicate 112 false)) lex75_40 (by have h := listed_split 40 8 0 (Array.replicate 112 false); rw [Nat.zero_add] at h; rw [h]; exact lex75_from48)
theorem lex75_from32 : Region.lexFrom .any (ops1 Try.f45).toArray 80 32 (listedTo 32 0 (Array.replicate 112 false)) = true :=
  lex_split .any (ops1 Try.f45).toArray 8 72 32 (listedTo 32 0 (Array.replicate 112 false)) lex75_32 (by have h := listed_split 32 8 0 (Array.replicate 112 false); rw [Nat.zero_add] at h; rw [h]; exact lex75_from40)
theorem lex75_from24 : Region.lexFrom .any (ops1 Try.f45).toArray 88 24 (listedTo 24 0 (Array.replicate 112 false)) = true :=
  lex_split .any (ops1 Try.f45).toArray 8 80 24 (listedTo 24 0 (Array.replicate 112 false)) lex75_24 (by have h := listed_split 24 8 0 (Array.replicate 112 false); rw [Nat.zero_add] at h; rw [h]; exact lex75_from32)
theorem lex75_from16 : Region.lexFrom .any (ops1 Try.f45).toArray 96 16 (listedTo 16 0 (Array.replicate 112 false)) = true :=
  lex_split .any (ops1 Try.f45).toArray 8 88 16 (listedTo 16 0 (Array.replicate 112 false)) lex75_16 (by have h := listed_split 16 8 0 (Array.replicate 112 false); rw [Nat.zero_add] at h; rw [h]; exact lex75_from24)
theorem lex75_from8 : Region.lexFrom .any (ops1 Try.f45).toArray 104 8 (listedTo 8 0 (Array.replicate 112 false)) = true :=
  lex_split .any (ops1 Try.f45).toArray 8 96 8 (listedTo 8 0 (Array.replicate 112 false)) lex75_8 (by have h := listed_split 8 8 0 (Array.replicate 112 false); rw [Nat.zero_add] at h; rw [h]; exact lex75_from16)
theorem lex75_from0 : Region.lexFrom .any (ops1 Try.f45).toArray 112 0 (listedTo 0 0 (Array.replicate 112 false)) = true :=
  lex_split .any (ops1 Try.f45).toArray 8 104 0 (listedTo 0 0 (Array.replicate 112 false)) lex75_0 (by have h := listed_split 0 8 0 (Array.replicate 112 false); rw [Nat.zero_add] at h; rw [h]; exact lex75_from8)
theorem lex75_size : (ops1 Try.f45).toArray.size = 112 := by kernel_rfl
theorem lex75_sel : Region.noSelect (ops1 Try.f45).toArray = true := by kernel_rfl
theorem lex75 : Region.lexB .any (ops1 Try.f45).toArray = true := by
  unfold Region.lexB
  rw [lex75_sel, lex75_size, Bool.true_and]
  exact lex75_from0
theorem lex100 : Region.lexB .any (ops1 Try.f58).toArray = true := by kernel_rfl
theorem lex37 : Region.lexB .any (ops1 Try.f26).toArray = true := by kernel_rfl
end Go.Proofs.Ytjenmmkamhplkaa
