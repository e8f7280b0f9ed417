/-
  Less: the program's.
-/
import Derived.Test.YtjnogpcpekheoaaEnd
import Derived.Lib.Bytealg
import Derived.Deep.RegionWith
namespace Go.Proofs.Ytjnogpcpekheoaa
open Go.RowKit

theorem run_loadBytes (w : World) (b : Nat) : ∀ (l : List UInt8) (o : Nat) (acc : ByteArray), (∀ i, i < l.length → w.cell? ⟨b, o + i, none⟩ = some (.int .u8 ((l.getD i 0).toNat : Int))) →
    (Extern.Bytes.loadBytes ⟨b, o, none⟩ l.length acc).run Try.prog w = .ok ⟨acc.data ++ l.toArray⟩ w
  | [], o, acc, _ => by simp [Extern.Bytes.loadBytes]
  | x :: t, o, acc, h => by
    have h0 := h 0 (by simp)
    simp only [Nat.add_zero, List.getD_cons_zero] at h0
    have ih := run_loadBytes w b t (o + 1) (acc.push x) (fun i hi => by
      have := h (i + 1) (by simpa using hi)
      rw [List.getD_cons_succ] at this
      rw [← this]
      congr 2
      omega)
    have ha : (⟨b, o, none⟩ : Addr).add 1 = ⟨b, o + 1, none⟩ := addr_add b o 1
    rw [List.length_cons, Extern.Bytes.loadBytes]
    simp [go_sem, h0]
    rw [ih]
    congr 2
    simp

def less (a b : List UInt8) : Bool := decide (Lib.compareBytes a b < 0)

theorem run_compare (w : World) (b1 o1 c1 b2 o2 c2 : Nat) (l m : List UInt8) (h1 : ∀ i, i < l.length → w.cell? ⟨b1, o1 + i, none⟩ = some (.int .u8 ((l.getD i 0).toNat : Int))) (h2 : ∀ i, i < m.length → w.cell? ⟨b2, o2 + i, none⟩ = some (.int .u8 ((m.getD i 0).toNat : Int))) :
    (Extern.BytealgCompare.compare #[.slice (some ⟨b1, o1, none⟩) l.length c1, .slice (some ⟨b2, o2, none⟩) m.length c2]).run Try.prog w = .ok (.int .i64 (Lib.compareBytes l m)) w := by
  change Sem.run Try.prog (do pure (goInt (Extern.BytealgCompare.cmp (← Extern.Bytes.bytesOf (.slice (some ⟨b1, o1, none⟩) l.length c1)) (← Extern.Bytes.bytesOf (.slice (some ⟨b2, o2, none⟩) m.length c2))))) w = _
  simp only [Extern.Bytes.bytesOf, Sem.run_bind, Sem.run_pure, Result.andThen, run_loadBytes w b1 l o1 .empty h1, run_loadBytes w b2 m o2 .empty h2]
  rw [Lib.cmp_eq]
  simp [goInt]

set_option maxHeartbeats 1000000 in
theorem compare_any (w : World) (b1 o1 c1 b2 o2 c2 : Nat) (l m : List UInt8) (h1 : ∀ i, i < l.length → w.cell? ⟨b1, o1 + i, none⟩ = some (.int .u8 ((l.getD i 0).toNat : Int))) (h2 : ∀ i, i < m.length → w.cell? ⟨b2, o2 + i, none⟩ = some (.int .u8 ((m.getD i 0).toNat : Int))) :
    Calls Try.prog 55 #[.slice (some ⟨b1, o1, none⟩) l.length c1, .slice (some ⟨b2, o2, none⟩) m.length c2] w fun ev w' => ev = .returned (.int .i64 (Lib.compareBytes l m)) ∧ w' = w := by
  have hr := run_compare w b1 o1 c1 b2 o2 c2 l m h1 h2
  clear h1 h2
  go_enter Try.func55, Try.ntmps55
  go_wp2_with fail
  rw [run_callFunc_extern Try.func62 (by kernel_rfl) (by kernel_rfl) (by kernel_rfl) (e := Extern.BytealgCompare.compare) (by kernel_rfl), hr]
  simp only [Result.andThen]
  rw [Oper.upon_value]
  go_wp2
  go_ret
  exact ⟨rfl, rfl⟩

theorem wp_at {P : Program} {c : Code} {Q : Exit → Act → World → Prop} {a : Act} {w w' : World} (e : w = w') (h : Code.wp P c Q a w) : Code.wp P c Q a w' := e ▸ h

attribute [local go_sem ↓] Go.wp_at_zero Go.wp_at_succ
set_option maxHeartbeats 1000000 in
theorem less_any (w : World) (a b : List UInt8) (ha : a.length = 32) (hb : b.length = 32) :
    Calls Try.prog 41 #[.agg (bys a).toArray, .agg (bys b).toArray] w fun ev w' => ev = .returned (.bool (less a b)) ∧ Below w.heap.size w w' := by
  obtain ⟨W, hW⟩ : ∃ W, W = (w.alloc (.cells (bys a).toArray 35)).alloc (.cells (bys b).toArray 35) := ⟨_, rfl⟩
  have r1 : Row W w.heap.size 35 (bys a) := by rw [hW]; exact (Row.new w 35 (bys a)).below ((Below.refl _ _).alloc (Nat.le_refl _) _) (by simp)
  have r2 : Row W (w.heap.size + 1) 35 (bys b) := by
    have := Row.new (w.alloc (.cells (bys a).toArray 35)) 35 (bys b)
    rw [hW]; simpa using this
  have HB : Hid (Below w.heap.size w W) := by rw [hW]; exact ((Below.refl w.heap.size w).alloc (Nat.le_refl _) _).alloc (by simp) _
  have C := compare_any W.drew w.heap.size 0 32 (w.heap.size + 1) 0 32 a b (fun i hi => by rw [Nat.zero_add]; exact (r1.drew.cell i).trans (bys_get a i hi)) (fun i hi => by rw [Nat.zero_add]; exact (r2.drew.cell i).trans (bys_get b i hi))
  rw [ha, hb] at C
  have AW : Aside (W = (w.alloc (.cells (bys a).toArray 35)).alloc (.cells (bys b).toArray 35)) := hW
  have HL : Hid (less a b = decide (Lib.compareBytes a b < 0)) := rfl
  clear hW r1 r2
  generalize Lib.compareBytes a b = cc at *
  generalize (bys a).toArray = Y1 at *
  generalize (bys b).toArray = Y2 at *
  go_enter Try.func41, Try.ntmps41
  go_wp2_with fail
  refine wp_at AW.out ?_
  clear AW
  go_region_with (go_at_call 55; refine C.mono ?_; rintro ev w7 ⟨rfl, rfl⟩)
  all_goals
    go_wp2_with fail
    go_ret
    refine ⟨?_, HB.out.drew⟩
    rw [HL.out]; rfl
end Go.Proofs.Ytjnogpcpekheoaa
