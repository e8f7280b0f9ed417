/-
  The texts Ows, Owp, Owv, Owt, joined.
-/
import Derived.Test.YtldbbkheemnnhaaGreatDoorQpOwl
namespace Go.Proofs.YtldbbkheemnnhaaGreatDoor
open Go.RowKit
theorem hidO {p : Prop} (h : p) : Hid p := h
theorem cloneO (l : List UInt8) (hl : l.length <= 140737488355328) (w : World) : Calls Tryz.prog 50 #[.string (str l)] w fun ev w' => ev = .returned (.string (str l)) /\ Below w.heap.size w w' := by
 have C := Tryz.stringslite_Clone (str l) w (by rw [str_size]; omega)
 generalize str l = S at *
 go_enter Tryz.func50, Tryz.ntmps50
 go_wp2_with fail
 refine C.mono ?_
 rintro ev w2 ⟨rfl, hb⟩
 clear C
 go_wp2_with fail
 go_ret
 exact ⟨rfl, hb⟩
theorem kinTx : Kin (α := Bs) 1 (fun K _ cs s => TxAt K cs s) (fun _ B _ cs s => TxQ B cs s) := ⟨fun h u hu => by rw [h.1] at hu; simp at hu; subst hu; rfl, fun h _ => h, fun h _ => h⟩
set_option maxHeartbeats 4000000 in
theorem ownText_any : OwnC 168 1 (α := Bs) (fun K _ cs s => TxAt K cs s) (fun _ B _ cs s => TxQ B cs s) (fun s => s) := by
 intro K w g t A cs R s o hr hA hx hg
 obtain ⟨rfl, hs⟩ := hx
 have hsm := K.small
 have cv : w.cell? ⟨g, o, none⟩ = some (.string (str s)) := by rw [hr.cell o, ← hA]; simp
 have HC : Hid (Calls Tryz.prog 50 #[.string (str s)] w fun ev w' => ev = .returned (.string (str s)) /\ Below w.heap.size w w') := cloneO s (by omega) w
 have HR : Hid (∀ w1, Below w.heap.size w w1 -> w1.cell? ⟨g, o, none⟩ = some (.string (str s)) /\ w1.frozen? ⟨g, o, none⟩ = false /\ Stay (fun k => k = g) w (w1.setCell ⟨g, o, none⟩ (.string (str s))) /\ Row (w1.setCell ⟨g, o, none⟩ (.string (str s))) g t (A ++ ([.string (str s)] ++ R))) := by
  intro w1 hb
  have hr1 := hr.below hb hr.lt
  have h1 := hr1.set o (.string (str s))
  have e1 : (A ++ ([Value.string (str s)] ++ R)).set o (.string (str s)) = A ++ ([Value.string (str s)] ++ R) := by rw [← hA]; simp
  rw [e1] at h1
  exact ⟨by rw [hr1.cell o, ← hA]; simp, hr1.fz o, Stay.set (X := fun k => k = g) (Stay.of_below hb) (fun _ => rfl) _ _, h1⟩
 have HS : Hid (s.length <= K.B) := hs
 clear hr hg hsm hs
 have HE : Hid (TxQ K.B [.string (str s)] s) := ⟨rfl, HS.out⟩
 go_enter Tryz.func168, Tryz.ntmps168
 go_wp2_with fail
 refine HC.out.mono ?_
 rintro _ w1 ⟨rfl, hb1⟩
 obtain ⟨c1, z1, s1, r1⟩ := HR.out w1 hb1
 have HZ : Hid (OutC 1 (fun _ B _ cs s => TxQ B cs s) s K.B w g t A R (w1.setCell ⟨g, o, none⟩ (.string (str s)))) := ⟨[.string (str s)], rfl, s1, r1, HE.out⟩
 clear s1 r1
 clear HC HR hb1 cv
 go_wp2_with fail
 go_end0
 exact ⟨rfl, HZ.out⟩
set_option maxHeartbeats 8000000 in
theorem ownStrs_of (E : OwnC 168 1 (α := Bs) (fun K _ cs s => TxAt K cs s) (fun _ B _ cs s => TxQ B cs s) (fun s => s)) : OwnL 169 168 1 16 (α := Bs) (fun K _ cs s => TxAt K cs s) (fun _ B _ cs s => TxQ B cs s) (fun s => s) := by
 intro K w g t A R v l o hr hA ha hg
 generalize hM : l.map (fun s => s) = M
 have hlt := hr.lt
 have hbz : l.length * 16 <= 140737488355328 := by obtain ⟨_, _, _, _, h, _⟩ := ha.shape; exact h
 obtain ⟨ao, cap, css, rfl, c1, c2, c3, c4, c5⟩ := ha.rows (fun _ _ h => (kinTx).one (w := w) h)
 have cv : w.cell? ⟨g, o, none⟩ = some (.slice ao l.length cap) := by rw [hr.cell o, ← hA]; simp
 have zv : w.frozen? ⟨g, o, none⟩ = false := hr.fz o
 have HST : Hid (∀ (w1 : World) (u : Value), Stay (fun k => k = g) w w1 -> Row w1 g t (A ++ (.slice ao l.length cap :: R)) -> Row (w1.setCell ⟨g, o, none⟩ u) g t (A ++ (u :: R)) /\ Stay (fun k => k = g) w (w1.setCell ⟨g, o, none⟩ u) /\ (w1.setCell ⟨g, o, none⟩ u).cell? ⟨g, o, none⟩ = some u /\ (w1.setCell ⟨g, o, none⟩ u).heap.size = w1.heap.size) := by
  intro w1 u hs hr1
  have h1 := hr1.set o u
  have e1 : (A ++ (Value.slice ao l.length cap :: R)).set o u = A ++ (u :: R) := by rw [← hA]; simp
  rw [e1] at h1
  refine ⟨h1, Stay.set (X := fun k => k = g) hs (fun _ => rfl) _ _, by rw [h1.cell o, ← hA]; simp, by simp [World.setCell]⟩
 rcases Nat.eq_zero_or_pos l.length with h0 | h0
 ·have hl0 : l = [] := List.length_eq_zero_iff.1 h0
  subst hl0
  obtain ⟨k1, k2, k3, _⟩ := HST.out w (.slice none 0 0) (Stay.refl _ _) hr
  have K1 : Hid (OutL 1 16 (fun _ B _ cs s => TxQ B cs s) M K.B w g t A R (w.setCell ⟨g, o, none⟩ (.slice none 0 0))) := by rw [← hM]; exact ⟨_, k2, k1, nil_arQ⟩
  clear HST hr ha E c1 c2 c3 c4 c5 hg hlt k1 k2 hbz h0
  clear hM
  simp only [List.length_nil] at cv
  go_enter Tryz.func169, Tryz.ntmps169
  go_wp2_with (at_builtin; refine app_zero rfl (.const (.slice none 0 0)) (.tmp 8) 33 9 1 16 (.string ⟨#[]⟩) rfl rfl Tryz.underlying33 (by kernel_rfl) rfl (by decide) ao cap rfl ?_)
  go_loopw [15] (fun i wr => i = .int .i64 0 /\ wr = w.setCell ⟨g, o, none⟩ (.slice none 0 0)) (fun _ _ => 0)
  case atStart => exact ⟨rfl, rfl⟩
  case round =>
   obtain ⟨rfl, rfl⟩ := hrel
   go_wp2_with fail
   go_end0
   exact ⟨rfl, K1.out⟩
 ·have HH : Hid (0 < l.length /\ css.length = l.length /\ (∀ c ∈ css, c.length = 1) /\ (∀ u ∈ css.flatten, u.oneCell' = true) /\ (l.length = 0 ∨ ∃ b o, ao = some ⟨b, o, none⟩ /\ ∀ j u, css.flatten[j]? = some u -> w.cell? ⟨b, o + j, none⟩ = some u) /\ l.length <= 4611686018427387904 /\ l.length * 16 <= 140737488355328) := by
   refine ⟨h0, c1, c2, c4, ?_, by omega, hbz⟩
   rcases c5 with h | h
   ·subst h; cases h0
   ·exact .inr h
  have hl9 : l.length <= 9223372036854775807 := by omega
  have AFT : Hid (∀ (w1 : World) (g1 cp : Nat) (sp : List Value), l.length <= cp -> w.heap.size <= g1 -> Row w1 g1 9 (css.flatten ++ sp) -> Below w.heap.size w w1 -> w1.cell? ⟨g, o, none⟩ = some (.slice ao l.length cap) /\ w1.frozen? ⟨g, o, none⟩ = false /\ (w1.setCell ⟨g, o, none⟩ (.slice (some ⟨g1, 0, none⟩) l.length cp)).cell? ⟨g, o, none⟩ = some (.slice (some ⟨g1, 0, none⟩) l.length cp) /\
    Inv (fun _ B _ cs s => TxQ B cs s) (fun s => s) K.B 1 l css sp A R (.slice (some ⟨g1, 0, none⟩) l.length cp) w w1 g g1 t 9 0 (w1.setCell ⟨g, o, none⟩ (.slice (some ⟨g1, 0, none⟩) l.length cp)) /\
    (∀ k wr, Inv (fun _ B _ cs s => TxQ B cs s) (fun s => s) K.B 1 l css sp A R (.slice (some ⟨g1, 0, none⟩) l.length cp) w w1 g g1 t 9 k wr -> k < l.length -> ∀ off, off = k * 1 -> Calls Tryz.prog 168 #[.pointer (some ⟨g1, off, none⟩)] wr fun ev w2 => ev = .returned (.tuple #[]) /\ Inv (fun _ B _ cs s => TxQ B cs s) (fun s => s) K.B 1 l css sp A R (.slice (some ⟨g1, 0, none⟩) l.length cp) w w1 g g1 t 9 (k + 1) w2) /\
    (∀ k wr, Inv (fun _ B _ cs s => TxQ B cs s) (fun s => s) K.B 1 l css sp A R (.slice (some ⟨g1, 0, none⟩) l.length cp) w w1 g g1 t 9 k wr -> wr.cell? ⟨g, o, none⟩ = some (.slice (some ⟨g1, 0, none⟩) l.length cp)) /\
    (∀ wr, Inv (fun _ B _ cs s => TxQ B cs s) (fun s => s) K.B 1 l css sp A R (.slice (some ⟨g1, 0, none⟩) l.length cp) w w1 g g1 t 9 l.length wr -> OutL 1 16 (fun _ B _ cs s => TxQ B cs s) M K.B w g t A R wr)) := by
   intro w1 g1 cp sp hcp hg1 hR1 hB
   have hr1 := hr.below hB hlt
   have hsz1 := hB.size
   have hg1' := hR1.lt
   obtain ⟨k1, k2, k3, k4⟩ := HST.out w1 (.slice (some ⟨g1, 0, none⟩) l.length cp) (Stay.of_below hB) hr1
   refine ⟨by rw [hr1.cell o, ← hA]; simp, hr1.fz o, k3, ⟨[], rfl, fun c h => absurd h (by simp), k1, ?_, k2, by omega, fun j h => absurd h (by simp)⟩, ?_, ?_, ?_⟩
   ·simpa using hR1.other (g' := g) (j := o) (by omega) (.slice (some ⟨g1, 0, none⟩) l.length cp)
   ·intro k wr hi hk off ho
    exact Inv.call (P := (fun K _ cs s => TxAt K cs s)) (PQ := (fun _ B _ cs s => TxQ B cs s)) (F := (fun s => s)) E (kinTx) hi hg hlt hg1 hg1' c1 c3 hk off ho
   ·intro k wr hi
    obtain ⟨_, _, _, d3, _⟩ := hi.ex
    rw [d3.cell o, ← hA]; simp
   ·intro wr hi
    rw [← hM]
    exact hi.done (kinTx) hg1 hg1' hsz1 hcp hbz
  clear HST hr ha E c1 c2 c3 c4 c5 hg hlt hbz h0 hM
  go_enter Tryz.func169, Tryz.ntmps169
  go_wp2_with (at_builtin; refine app_some rfl (.const (.slice none 0 0)) (.tmp 8) 33 9 1 16 (.string ⟨#[]⟩) rfl rfl Tryz.underlying33 (by kernel_rfl) rfl (by decide) ao l.length cap css rfl HH.out ?_; intro g1 cp sp w1 hcp hg1 hR1 hB1; obtain ⟨q1, q2, q3, I0, CL, CE, DN⟩ := AFT.out w1 g1 cp sp hcp hg1 hR1 hB1; replace I0 := hidO I0; replace CL := hidO CL; replace CE := hidO CE; replace DN := hidO DN; clear hR1 hB1 hg1 hcp)
  go_loopw [15] (fun i wr => ∃ k : Nat, k <= l.length /\ i = .int .i64 k /\ Inv (fun _ B _ cs s => TxQ B cs s) (fun s => s) K.B 1 l css sp A R (.slice (some ⟨g1, 0, none⟩) l.length cp) w w1 g g1 t 9 k wr) (fun i _ => l.length - (intOf i).toNat)
  case atStart => exact ⟨0, by omega, rfl, I0.out⟩
  case round =>
   obtain ⟨k, hk, rfl, hi⟩ := hrel
   have ce := CE.out k wr hi
   by_cases h3 : k < l.length
   ·have i1 : (k : Int) < (l.length : Int) := by omega
    have D := hidO (fun off ho => CL.out k wr hi h3 off ho)
    clear hi I0 CL CE DN q1 q2 q3 cv zv AFT HH
    go_wp2_with fail
    refine (D.out _ (by omega)).mono ?_
    rintro _ w2 ⟨rfl, i2⟩
    replace i2 := hidO i2
    clear ce D
    go_wp2_with fail
    go_roundw
    case rel => exact ⟨k + 1, by omega, by go_num, i2.out⟩
    case measure => simp [intOf]; omega
   ·have i1 : ¬ (k : Int) < (l.length : Int) := by omega
    obtain rfl : k = l.length := by omega
    have D := hidO (DN.out wr hi)
    clear hi I0 CL CE DN q1 q2 q3 cv zv AFT HH
    go_wp2_with fail
    go_end0
    exact ⟨rfl, D.out⟩
theorem ownStrs_any : OwnL 169 168 1 16 (α := Bs) (fun K _ cs s => TxAt K cs s) (fun _ B _ cs s => TxQ B cs s) (fun s => s) := ownStrs_of ownText_any
end Go.Proofs.YtldbbkheemnnhaaGreatDoor

namespace Go.Proofs.YtldbbkheemnnhaaGreatDoor
open Go.RowKit
end Go.Proofs.YtldbbkheemnnhaaGreatDoor

namespace Go.Proofs.YtldbbkheemnnhaaGreatDoor
open Go.RowKit
end Go.Proofs.YtldbbkheemnnhaaGreatDoor

namespace Go.Proofs.YtldbbkheemnnhaaGreatDoor
open Go.RowKit
theorem kinTy (n : Nat) : Kin (α := Ty) 4 (TyAt n) (TyQ n) := ⟨fun h => h.one, fun h hb => h.below hb, fun h hk => h.mono hk⟩
set_option maxHeartbeats 8000000 in
theorem ownTys_of {n : Nat} (E : OwnC 174 4 (α := Ty) (TyAt n) (TyQ n) (fun x => x)) : OwnL 203 174 4 72 (α := Ty) (TyAt n) (TyQ n) (fun x => x) := by
 intro K w g t A R v l o hr hA ha hg
 generalize hM : l.map (fun x => x) = M
 have hlt := hr.lt
 have hbz : l.length * 72 <= 140737488355328 := by obtain ⟨_, _, _, _, h, _⟩ := ha.shape; exact h
 obtain ⟨ao, cap, css, rfl, c1, c2, c3, c4, c5⟩ := ha.rows (fun _ _ h => (kinTy n).one (w := w) h)
 have cv : w.cell? ⟨g, o, none⟩ = some (.slice ao l.length cap) := by rw [hr.cell o, ← hA]; simp
 have zv : w.frozen? ⟨g, o, none⟩ = false := hr.fz o
 have HST : Hid (∀ (w1 : World) (u : Value), Stay (fun k => k = g) w w1 -> Row w1 g t (A ++ (.slice ao l.length cap :: R)) -> Row (w1.setCell ⟨g, o, none⟩ u) g t (A ++ (u :: R)) /\ Stay (fun k => k = g) w (w1.setCell ⟨g, o, none⟩ u) /\ (w1.setCell ⟨g, o, none⟩ u).cell? ⟨g, o, none⟩ = some u /\ (w1.setCell ⟨g, o, none⟩ u).heap.size = w1.heap.size) := by
  intro w1 u hs hr1
  have h1 := hr1.set o u
  have e1 : (A ++ (Value.slice ao l.length cap :: R)).set o u = A ++ (u :: R) := by rw [← hA]; simp
  rw [e1] at h1
  refine ⟨h1, Stay.set (X := fun k => k = g) hs (fun _ => rfl) _ _, by rw [h1.cell o, ← hA]; simp, by simp [World.setCell]⟩
 rcases Nat.eq_zero_or_pos l.length with h0 | h0
 ·have hl0 : l = [] := List.length_eq_zero_iff.1 h0
  subst hl0
  obtain ⟨k1, k2, k3, _⟩ := HST.out w (.slice none 0 0) (Stay.refl _ _) hr
  have K1 : Hid (OutL 4 72 (TyQ n) M K.B w g t A R (w.setCell ⟨g, o, none⟩ (.slice none 0 0))) := by rw [← hM]; exact ⟨_, k2, k1, nil_arQ⟩
  clear HST hr ha E c1 c2 c3 c4 c5 hg hlt k1 k2 hbz h0
  clear hM
  simp only [List.length_nil] at cv
  go_enter Tryz.func203, Tryz.ntmps203
  go_wp2_with (at_builtin; refine app_zero rfl (.const (.slice none 0 0)) (.tmp 8) 34 36 4 72 (.agg (tyCells 0).toArray) rfl rfl Tryz.underlying34 (by kernel_rfl) rfl (by decide) ao cap rfl ?_)
  go_loopw [15] (fun i wr => i = .int .i64 0 /\ wr = w.setCell ⟨g, o, none⟩ (.slice none 0 0)) (fun _ _ => 0)
  case atStart => exact ⟨rfl, rfl⟩
  case round =>
   obtain ⟨rfl, rfl⟩ := hrel
   go_wp2_with fail
   go_end0
   exact ⟨rfl, K1.out⟩
 ·have HH : Hid (0 < l.length /\ css.length = l.length /\ (∀ c ∈ css, c.length = 4) /\ (∀ u ∈ css.flatten, u.oneCell' = true) /\ (l.length = 0 ∨ ∃ b o, ao = some ⟨b, o, none⟩ /\ ∀ j u, css.flatten[j]? = some u -> w.cell? ⟨b, o + j, none⟩ = some u) /\ l.length <= 4611686018427387904 /\ l.length * 72 <= 140737488355328) := by
   refine ⟨h0, c1, c2, c4, ?_, by omega, hbz⟩
   rcases c5 with h | h
   ·subst h; cases h0
   ·exact .inr h
  have hl9 : l.length <= 9223372036854775807 := by omega
  have AFT : Hid (∀ (w1 : World) (g1 cp : Nat) (sp : List Value), l.length <= cp -> w.heap.size <= g1 -> Row w1 g1 36 (css.flatten ++ sp) -> Below w.heap.size w w1 -> w1.cell? ⟨g, o, none⟩ = some (.slice ao l.length cap) /\ w1.frozen? ⟨g, o, none⟩ = false /\ (w1.setCell ⟨g, o, none⟩ (.slice (some ⟨g1, 0, none⟩) l.length cp)).cell? ⟨g, o, none⟩ = some (.slice (some ⟨g1, 0, none⟩) l.length cp) /\
    Inv (TyQ n) (fun x => x) K.B 4 l css sp A R (.slice (some ⟨g1, 0, none⟩) l.length cp) w w1 g g1 t 36 0 (w1.setCell ⟨g, o, none⟩ (.slice (some ⟨g1, 0, none⟩) l.length cp)) /\
    (∀ k wr, Inv (TyQ n) (fun x => x) K.B 4 l css sp A R (.slice (some ⟨g1, 0, none⟩) l.length cp) w w1 g g1 t 36 k wr -> k < l.length -> ∀ off, off = k * 4 -> Calls Tryz.prog 174 #[.pointer (some ⟨g1, off, none⟩)] wr fun ev w2 => ev = .returned (.tuple #[]) /\ Inv (TyQ n) (fun x => x) K.B 4 l css sp A R (.slice (some ⟨g1, 0, none⟩) l.length cp) w w1 g g1 t 36 (k + 1) w2) /\
    (∀ k wr, Inv (TyQ n) (fun x => x) K.B 4 l css sp A R (.slice (some ⟨g1, 0, none⟩) l.length cp) w w1 g g1 t 36 k wr -> wr.cell? ⟨g, o, none⟩ = some (.slice (some ⟨g1, 0, none⟩) l.length cp)) /\
    (∀ wr, Inv (TyQ n) (fun x => x) K.B 4 l css sp A R (.slice (some ⟨g1, 0, none⟩) l.length cp) w w1 g g1 t 36 l.length wr -> OutL 4 72 (TyQ n) M K.B w g t A R wr)) := by
   intro w1 g1 cp sp hcp hg1 hR1 hB
   have hr1 := hr.below hB hlt
   have hsz1 := hB.size
   have hg1' := hR1.lt
   obtain ⟨k1, k2, k3, k4⟩ := HST.out w1 (.slice (some ⟨g1, 0, none⟩) l.length cp) (Stay.of_below hB) hr1
   refine ⟨by rw [hr1.cell o, ← hA]; simp, hr1.fz o, k3, ⟨[], rfl, fun c h => absurd h (by simp), k1, ?_, k2, by omega, fun j h => absurd h (by simp)⟩, ?_, ?_, ?_⟩
   ·simpa using hR1.other (g' := g) (j := o) (by omega) (.slice (some ⟨g1, 0, none⟩) l.length cp)
   ·intro k wr hi hk off ho
    exact Inv.call (P := (TyAt n)) (PQ := (TyQ n)) (F := (fun x => x)) E (kinTy n) hi hg hlt hg1 hg1' c1 c3 hk off ho
   ·intro k wr hi
    obtain ⟨_, _, _, d3, _⟩ := hi.ex
    rw [d3.cell o, ← hA]; simp
   ·intro wr hi
    rw [← hM]
    exact hi.done (kinTy n) hg1 hg1' hsz1 hcp hbz
  clear HST hr ha E c1 c2 c3 c4 c5 hg hlt hbz h0 hM
  go_enter Tryz.func203, Tryz.ntmps203
  go_wp2_with (at_builtin; refine app_some rfl (.const (.slice none 0 0)) (.tmp 8) 34 36 4 72 (.agg (tyCells 0).toArray) rfl rfl Tryz.underlying34 (by kernel_rfl) rfl (by decide) ao l.length cap css rfl HH.out ?_; intro g1 cp sp w1 hcp hg1 hR1 hB1; obtain ⟨q1, q2, q3, I0, CL, CE, DN⟩ := AFT.out w1 g1 cp sp hcp hg1 hR1 hB1; replace I0 := hidO I0; replace CL := hidO CL; replace CE := hidO CE; replace DN := hidO DN; clear hR1 hB1 hg1 hcp)
  go_loopw [15] (fun i wr => ∃ k : Nat, k <= l.length /\ i = .int .i64 k /\ Inv (TyQ n) (fun x => x) K.B 4 l css sp A R (.slice (some ⟨g1, 0, none⟩) l.length cp) w w1 g g1 t 36 k wr) (fun i _ => l.length - (intOf i).toNat)
  case atStart => exact ⟨0, by omega, rfl, I0.out⟩
  case round =>
   obtain ⟨k, hk, rfl, hi⟩ := hrel
   have ce := CE.out k wr hi
   by_cases h3 : k < l.length
   ·have i1 : (k : Int) < (l.length : Int) := by omega
    have D := hidO (fun off ho => CL.out k wr hi h3 off ho)
    clear hi I0 CL CE DN q1 q2 q3 cv zv AFT HH
    go_wp2_with fail
    refine (D.out _ (by omega)).mono ?_
    rintro _ w2 ⟨rfl, i2⟩
    replace i2 := hidO i2
    clear ce D
    go_wp2_with fail
    go_roundw
    case rel => exact ⟨k + 1, by omega, by go_num, i2.out⟩
    case measure => simp [intOf]; omega
   ·have i1 : ¬ (k : Int) < (l.length : Int) := by omega
    obtain rfl : k = l.length := by omega
    have D := hidO (DN.out wr hi)
    clear hi I0 CL CE DN q1 q2 q3 cv zv AFT HH
    go_wp2_with fail
    go_end0
    exact ⟨rfl, D.out⟩
set_option maxHeartbeats 8000000 in
theorem ownType_of {n : Nat} (E : OwnC 174 4 (α := Ty) (TyAt n) (TyQ n) (fun x => x)) : OwnC 174 4 (α := Ty) (TyAt (n + 1)) (TyQ (n + 1)) (fun x => x) := by
 intro K w g t A cs R x o hr hA hx hg
 have hlt := hr.lt
 obtain ⟨v, v', rfl, hn, h2, h3⟩ := hx
 have S0 : Hid (Stay (fun k => k = g) w w /\ Row w g t (A ++ ((Value.int .i64 x.kind :: (Value.string (str x.name) :: (v :: [v']))) ++ R))) := ⟨Stay.refl _ _, hr⟩
 have T0 : Hid (∀ y, (Stay (fun k => k = g) w y /\ Row y g t (A ++ ((Value.int .i64 x.kind :: (Value.string (str x.name) :: (v :: [v']))) ++ R))) -> Calls Tryz.prog 168 #[.pointer (some ⟨g, o + 1, none⟩)] y fun ev w' => ev = .returned (.tuple #[]) /\ (Stay (fun k => k = g) w w' /\ Row w' g t (A ++ ((Value.int .i64 x.kind :: (Value.string (str x.name) :: (v :: [v']))) ++ R)))) := by
  rintro y ⟨hs, hrow⟩
  have hrw : Row y g t ((A ++ [Value.int .i64 x.kind]) ++ ([Value.string (str x.name)] ++ ((v :: [v']) ++ R))) := by simpa only [List.append_assoc, List.cons_append, List.nil_append] using hrow
  have hb : Below K.C w y := hs.below (by omega) (fun q hq => by omega)
  have hsy := hs.size
  refine (ownText_any (K := K) hrw (by simp <;> omega) (x := x.name) ⟨rfl, hn⟩ (by omega)).mono ?_
  rintro _ w' ⟨rfl, c, hc, s1, r1, q1⟩
  obtain rfl := q1.1
  exact ⟨rfl, hs.trans s1, by simpa only [List.append_assoc, List.cons_append, List.nil_append] using r1⟩
 have T1 : Hid (∀ y, (Stay (fun k => k = g) w y /\ Row y g t (A ++ ((Value.int .i64 x.kind :: (Value.string (str x.name) :: (v :: [v']))) ++ R))) -> Calls Tryz.prog 169 #[.pointer (some ⟨g, o + 2, none⟩), .func (.func 168) #[] #[]] y fun ev w' => ev = .returned (.tuple #[]) /\ (∃ (v1 : Value), Stay (fun k => k = g) w w' /\ Row w' g t (A ++ ((Value.int .i64 x.kind :: (Value.string (str x.name) :: (v1 :: [v']))) ++ R)) /\ StrQ (Fr w w') K.B w' v1 x.lives)) := by
  rintro y ⟨hs, hrow⟩
  have hrw : Row y g t ((A ++ (Value.int .i64 x.kind :: [Value.string (str x.name)])) ++ (v :: ([v'] ++ R))) := by simpa only [List.append_assoc, List.cons_append, List.nil_append] using hrow
  have hb : Below K.C w y := hs.below (by omega) (fun q hq => by omega)
  have hsy := hs.size
  refine (ownStrs_any (K := K) hrw (by simp <;> omega) (h2.below hb) (by omega)).mono ?_
  rintro _ w' ⟨rfl, v1, s1, r1, q1⟩
  have hk2 : Kp (Fr y w') (Fr w w') w' w' := Kp.fr' hsy
  exact ⟨rfl, v1, hs.trans s1, by simpa only [List.append_assoc, List.cons_append, List.nil_append] using r1, (by have h2 := StrQ.mono (l := _) (by rw [List.map_id'] at q1; exact q1) hk2; exact h2)⟩
 have T2 : Hid (∀ y, (∃ (v1 : Value), Stay (fun k => k = g) w y /\ Row y g t (A ++ ((Value.int .i64 x.kind :: (Value.string (str x.name) :: (v1 :: [v']))) ++ R)) /\ StrQ (Fr w y) K.B y v1 x.lives) -> Calls Tryz.prog 203 #[.pointer (some ⟨g, o + 3, none⟩), .func (.func 174) #[] #[]] y fun ev w' => ev = .returned (.tuple #[]) /\ (∃ (v1 : Value) (v2 : Value), Stay (fun k => k = g) w w' /\ Row w' g t (A ++ ((Value.int .i64 x.kind :: (Value.string (str x.name) :: (v1 :: [v2]))) ++ R)) /\ StrQ (Fr w w') K.B w' v1 x.lives /\ ArQ 4 72 (TyQ n (Fr w w') K.B w') (Fr w w') w' v2 x.elem)) := by
  rintro y ⟨v1, hs, hrow, f0⟩
  have hrw : Row y g t ((A ++ (Value.int .i64 x.kind :: (Value.string (str x.name) :: [v1]))) ++ (v' :: ([] ++ R))) := by simpa only [List.append_assoc, List.cons_append, List.nil_append] using hrow
  have hb : Below K.C w y := hs.below (by omega) (fun q hq => by omega)
  have hsy := hs.size
  refine (ownTys_of E (K := K) hrw (by simp <;> omega) (h3.mono hb fun _ _ _ h => h.below hb) (by omega)).mono ?_
  rintro _ w' ⟨rfl, v2, s1, r1, q1⟩
  have hk : Kp (Fr w y) (Fr w w') y w' := Kp.fr s1 hlt (Nat.le_refl _)
  have hk2 : Kp (Fr y w') (Fr w w') w' w' := Kp.fr' hsy
  exact ⟨rfl, v1, v2, hs.trans s1, by simpa only [List.append_assoc, List.cons_append, List.nil_append] using r1, StrQ.mono f0 hk, ArQ.mono (P := (TyQ n (Fr y w') K.B w')) (by rw [List.map_id'] at q1; exact q1) hk2 (fun _ _ _ h => h.mono hk2)⟩
 have TF : Hid (∀ y, (∃ (v1 : Value) (v2 : Value), Stay (fun k => k = g) w y /\ Row y g t (A ++ ((Value.int .i64 x.kind :: (Value.string (str x.name) :: (v1 :: [v2]))) ++ R)) /\ StrQ (Fr w y) K.B y v1 x.lives /\ ArQ 4 72 (TyQ n (Fr w y) K.B y) (Fr w y) y v2 x.elem) -> OutC 4 (TyQ (n + 1)) ((fun x => x) x) K.B w g t A R y) := by
  rintro y ⟨v1, v2, hs, hrow, f0, f1⟩
  exact ⟨(Value.int .i64 x.kind :: (Value.string (str x.name) :: (v1 :: [v2]))), by simp <;> omega, hs, hrow, ⟨v1, v2, rfl, hn, f0, f1⟩⟩
 simp only at TF ⊢
 clear hr hlt h2 h3 hn hg E
 go_enter Tryz.func174, Tryz.ntmps174
 go_wp2_with fail
 refine (T0.out _ S0.out).mono ?_
 rintro _ w1 ⟨rfl, h1⟩
 replace h1 := hidO h1
 clear T0 S0
 go_wp2_with fail
 refine (T1.out _ h1.out).mono ?_
 rintro _ w2 ⟨rfl, h2⟩
 replace h2 := hidO h2
 clear T1 h1
 go_wp2_with fail
 refine (T2.out _ h2.out).mono ?_
 rintro _ w3 ⟨rfl, h3⟩
 replace h3 := hidO h3
 clear T2 h2
 go_wp2_with fail
 go_end0
 exact ⟨rfl, TF.out _ h3.out⟩
theorem ownType_at : ∀ n : Nat, OwnC 174 4 (α := Ty) (TyAt n) (TyQ n) (fun x => x)
 | 0 => fun _ _ hx _ => hx.elim
 | n + 1 => ownType_of (ownType_at n)
theorem ownType_any : OwnC 174 4 (α := Ty) IsTy IsTyQ (fun x => x) := by
 intro K w g t A cs R x o hr hA hx hg
 obtain ⟨n, hx⟩ := hx
 refine (ownType_at n hr hA hx hg).mono ?_
 rintro _ w' ⟨rfl, c, h1, h2, h3, h4⟩
 exact ⟨rfl, c, h1, h2, h3, n, h4⟩
end Go.Proofs.YtldbbkheemnnhaaGreatDoor
