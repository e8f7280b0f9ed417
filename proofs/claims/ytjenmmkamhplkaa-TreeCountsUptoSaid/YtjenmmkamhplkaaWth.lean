/-
  Blocks within a statement: asked by a closure, blanked; what a statement has if it says so: a block.
-/
import Derived.Test.YtjenmmkamhplkaaBlk
namespace Go.Proofs.Ytjenmmkamhplkaa
open Go.RowKit

theorem Stay.wide {X Y : Nat → Prop} {w w' : World} (h : Stay X w w') (hy : ∀ k, X k → Y k) : Stay Y w w' := ⟨h.os, h.tape, h.output, h.size, fun k hk hn => h.block k hk (fun hx => hn (hy k hx))⟩
set_option maxHeartbeats 4000000 in
theorem within_of {n m : Nat} (hm : m ≤ 64) (ih : BlkC n m) {K : Ctx} {y : World} {gb L g3 g5 : Nat} {v : Value} {l : List St} (hb : Bod K gb L y) (r3 : Row y g3 94 [.pointer (some ⟨gb, 0, none⟩)]) (r5 : Row y g5 3 [.int .i64 (64 - (m : Int))])
    (ha : Ar 32 496 (StAt n K y) K y v l) (B : Bool) (hB : B = true ↔ MayBlk m l ∧ cnt n l ≤ L) :
    Calls Try.prog 63 #[v, .pointer (some ⟨g3, 0, none⟩), .pointer (some ⟨g5, 0, none⟩)] y fun ev y' => ev = .returned (.bool B) ∧ Stay (fun k => k = gb) y y' ∧ Spent gb B L (cnt n l) y' := by
  have D : Hid (Calls Try.prog 37 #[.pointer (some ⟨gb, 0, none⟩), v, .int .i64 (65 - (m : Int))] y fun ev y' => ev = .returned (.bool B) ∧ Stay (fun k => k = gb) y y' ∧ Spent gb B L (cnt n l) y') := ih hb ha B hB
  have c3 : y.cell? ⟨g3, 0, none⟩ = some (.pointer (some ⟨gb, 0, none⟩)) := r3.cell 0
  obtain ⟨dd, hd⟩ : ∃ dd : Int, dd = 64 - (m : Int) := ⟨_, rfl⟩
  have c5 : y.cell? ⟨g5, 0, none⟩ = some (.int .i64 dd) := by rw [hd]; exact r5.cell 0
  have w1 : IntKind.i64.wrap (dd + 1) = dd + 1 := wrap_small (by omega) (by omega)
  have i1 : -9223372036854775808 ≤ dd := by omega
  have i2 : dd < 100 := by omega
  have e1 : 65 - (m : Int) = dd + 1 := by omega
  rw [e1] at D
  obtain ⟨ao, cap, rfl⟩ := ha.form
  clear ha hb r3 r5 hB ih hd e1
  go_enter Try.func63, Try.ntmps63
  go_wp2_with (go_at_call 37; refine D.out.mono ?_; rintro ev w2 ⟨rfl, h2, h3⟩)
  go_ret
  exact ⟨rfl, h2, h3⟩

set_option maxHeartbeats 4000000 in
theorem takeBlock_of {n m : Nat} (hm : m ≤ 64) (ih : BlkC n m) {K : Ctx} {y : World} {gb L g3 g5 gs t o : Nat} {v : Value} {l : List St} {A R : List Value} (hb : Bod K gb L y) (r3 : Row y g3 94 [.pointer (some ⟨gb, 0, none⟩)]) (r5 : Row y g5 3 [.int .i64 (64 - (m : Int))])
    (hr : Row y gs t (A ++ ([v] ++ R))) (ho : A.length = o) (hne : gs ≠ gb) (ha : Ar 32 496 (StAt n K y) K y v l) (B : Bool) (hB : B = true ↔ MayBlk m l ∧ cnt n l ≤ L) :
    Calls Try.prog 75 #[.pointer (some ⟨gs, o, none⟩), .func (.func 63) #[] #[.pointer (some ⟨g3, 0, none⟩), .pointer (some ⟨g5, 0, none⟩)]] y fun ev y' => ev = .returned (.bool B) ∧ Row y' gs t (A ++ ([.slice none 0 0] ++ R)) ∧ Stay (fun k => k = gs ∨ k = gb) y y' ∧ Spent gb B L (cnt n l) y' := by
  have D := within_of hm ih hb r3 r5 ha B hB
  obtain ⟨ao, cap, rfl⟩ := ha.form
  have c0 : y.cell? ⟨gs, o, none⟩ = some (.slice ao l.length cap) := by
    rw [hr.cell o, ← Nat.add_zero o, sub_of A [.slice ao l.length cap] R ho 0 (by simp)]; rfl
  have HR : Hid (∀ w2, Stay (fun k => k = gb) y w2 → Spent gb B L (cnt n l) w2 → w2.cell? ⟨gs, o, none⟩ = some (.slice ao l.length cap) ∧ w2.frozen? ⟨gs, o, none⟩ = false ∧ Row (w2.setCell ⟨gs, o, none⟩ (.slice none 0 0)) gs t (A ++ ([.slice none 0 0] ++ R)) ∧ Stay (fun k => k = gs ∨ k = gb) y (w2.setCell ⟨gs, o, none⟩ (.slice none 0 0)) ∧ Spent gb B L (cnt n l) (w2.setCell ⟨gs, o, none⟩ (.slice none 0 0))) := by
    intro w2 hs hsp
    have hr2 := hs.row hr hne
    have h3 := Row.setCells [.slice none 0 0] [.slice ao l.length cap] A R w2 o hr2 ho rfl
    have hS : Stay (fun k => k = gs ∨ k = gb) w2 (w2.setCell ⟨gs, o, none⟩ (.slice none 0 0)) := (Stay.refl (fun k => k = gs ∨ k = gb) w2).set (fun _ => .inl rfl) _ _
    obtain ⟨L', q1, q2, q3⟩ := hsp
    refine ⟨?_, hr2.fz o, h3, ?_, L', q1.other (fun h => hne h.symm) _, q2, q3⟩
    · rw [hr2.cell o, ← Nat.add_zero o, sub_of A [.slice ao l.length cap] R ho 0 (by simp)]; rfl
    · exact (hs.wide (Y := fun k => k = gs ∨ k = gb) fun _ h => .inr h).trans hS
  have HD : Hid (Calls Try.prog 63 #[.slice ao l.length cap, .pointer (some ⟨g3, 0, none⟩), .pointer (some ⟨g5, 0, none⟩)] y fun ev y' => ev = .returned (.bool B) ∧ Stay (fun k => k = gb) y y' ∧ Spent gb B L (cnt n l) y') := D
  clear D ha hb r3 r5 hB ih hr
  go_enter Try.func75, Try.ntmps75
  go_wp2_with (go_at_call 63; refine HD.out.mono ?_; rintro ev w2 ⟨rfl, h2, h3⟩; obtain ⟨k1, k2, k3, k4, k5⟩ := HR.out w2 h2 h3; clear h2 h3 HR HD)
  go_ret
  exact ⟨rfl, k3, k4, k5⟩

set_option maxHeartbeats 4000000 in
theorem haveBlock_of {n m : Nat} (hm : m ≤ 64) (ih : BlkC n m) {K : Ctx} {y : World} {gb L g3 g5 gs t : Nat} {v : Value} {l : List St} {h : Bool} {A M : List Value} (hb : Bod K gb L y) (r3 : Row y g3 94 [.pointer (some ⟨gb, 0, none⟩)]) (r5 : Row y g5 3 [.int .i64 (64 - (m : Int))])
    (hr : Row y gs t (A ++ ([.bool h] ++ (M ++ ([v] ++ []))))) (hA : A.length = 8) (hM : M.length = 22) (hne : gs ≠ gb) (h3 : gs ≠ g3) (h5 : gs ≠ g5) (hg : K.C ≤ gs) (ha : Ar 32 496 (StAt n K y) K y v l) (B : Bool) (hB : B = true ↔ (h = true → MayBlk m l ∧ cnt n l ≤ L)) :
    Calls Try.prog 72 #[.pointer (some ⟨gs, 0, none⟩), .pointer (some ⟨gs, 31, none⟩), .func (.func 63) #[] #[.pointer (some ⟨g3, 0, none⟩), .pointer (some ⟨g5, 0, none⟩)]] y fun ev y' => ev = .returned (.bool B) ∧ Row y' gs t (A ++ ([.bool false] ++ (M ++ ([if h then .slice none 0 0 else v] ++ [])))) ∧ Stay (fun k => k = gs ∨ k = gb) y y' ∧ Spent gb B L (if h then cnt n l else 0) y' := by
  have c8 : y.cell? ⟨gs, 8, none⟩ = some (.bool h) := by
    rw [hr.cell 8]
    exact sub_of A [.bool h] (M ++ ([v] ++ [])) hA 0 (by simp)
  have z8 := hr.fz 8
  have hr2 := have_rows hr hA false
  have hS : Stay (fun k => k = gs ∨ k = gb) y (y.setCell ⟨gs, 8, none⟩ (.bool false)) := (Stay.refl (fun k => k = gs ∨ k = gb) y).set (fun _ => .inl rfl) 8 (.bool false)
  have hbl := below_set hg 8 (.bool false) hb.env.C
  have hrb : Row (y.setCell ⟨gs, 8, none⟩ (.bool false)) gb 73 [.int .i64 (L : Int)] := hb.row.other (fun h => hne h.symm) _
  cases h
  · obtain rfl := bool_true hB (fun h => by cases h)
    have HR : Hid (Row (y.setCell ⟨gs, 8, none⟩ (.bool false)) gs t (A ++ ([.bool false] ++ (M ++ ([v] ++ []))))) := hr2
    have HS : Hid (Stay (fun k => k = gs ∨ k = gb) y (y.setCell ⟨gs, 8, none⟩ (.bool false))) := hS
    have HP : Hid (Spent gb true L 0 (y.setCell ⟨gs, 8, none⟩ (.bool false))) := ⟨L, hrb, hb.most, fun _ => rfl⟩
    clear hr hr2 hS hbl hB hb ha r3 r5 hrb ih
    go_enter Try.func72, Try.ntmps72
    go_wp2_with fail
    go_ret
    exact ⟨rfl, HR.out, HS.out, HP.out⟩
  · have hr3 : Row (y.setCell ⟨gs, 8, none⟩ (.bool false)) gs t ((A ++ ([.bool false] ++ M)) ++ ([v] ++ [])) := by
      have := hr2
      simp only [List.append_assoc] at this ⊢
      exact this
    have D : Hid (Calls Try.prog 75 #[.pointer (some ⟨gs, 31, none⟩), .func (.func 63) #[] #[.pointer (some ⟨g3, 0, none⟩), .pointer (some ⟨g5, 0, none⟩)]] (y.setCell ⟨gs, 8, none⟩ (.bool false)) fun ev w' => ev = .returned (.bool B) ∧ Row w' gs t (A ++ ([.bool false] ++ (M ++ ([.slice none 0 0] ++ [])))) ∧ Stay (fun k => k = gs ∨ k = gb) y w' ∧ Spent gb B L (cnt n l) w') := by
      refine (takeBlock_of hm ih (K := K) ⟨hb.env.below hbl, hrb, hb.hi, hb.most⟩ (r3.other (fun h => h3 h.symm) _) (r5.other (fun h => h5 h.symm) _) hr3 (by simp [hA, hM]) hne (ha.mono hbl fun _ _ _ h => h.below hbl) B (by rw [hB]; exact ⟨fun h => h rfl, fun h _ => h⟩)).mono ?_
      rintro _ _ ⟨rfl, hr4, hs4, hp4⟩
      refine ⟨rfl, ?_, hS.trans hs4, hp4⟩
      simp only [List.append_assoc] at hr4
      exact hr4
    clear hr hr2 hr3 hS hbl hB hb ha r3 r5 hrb ih
    go_enter Try.func72, Try.ntmps72
    go_wp2_with (go_at_call 75; refine D.out.mono ?_; rintro ev w2 ⟨rfl, h2, h3, h4⟩)
    go_ret
    exact ⟨rfl, h2, h3, h4⟩
end Go.Proofs.Ytjenmmkamhplkaa
