/-
  The texts Owb, Owf, Owi, joined.
-/
import Derived.Test.YtldbbkheemnnhaaGreatDoorJpOws4
namespace Go.Proofs.YtldbbkheemnnhaaGreatDoor
open Go.RowKit
def bareS : Nat -> St -> St
 | 0, s => s
 | n + 1, s => { s with pos := 0, thn := s.thn.map (bareS n), els := s.els.map (bareS n) }
end Go.Proofs.YtldbbkheemnnhaaGreatDoor

namespace Go.Proofs.YtldbbkheemnnhaaGreatDoor
open Go.RowKit
set_option maxHeartbeats 8000000 in
theorem ownField_any : OwnC 171 6 (α := Fld) FldAt FldQ (fun x => x) := by
 intro K w g t A cs R x o hr hA hx hg
 have hlt := hr.lt
 obtain ⟨ts, rfl, hn, h1⟩ := hx
 have l1 := h1.len
 have S0 : Hid (Stay (fun k => k = g) w w /\ Row w g t (A ++ ((Value.bool x.mu :: (Value.string (str x.name) :: ts)) ++ R))) := ⟨Stay.refl _ _, hr⟩
 have T0 : Hid (∀ y, (Stay (fun k => k = g) w y /\ Row y g t (A ++ ((Value.bool x.mu :: (Value.string (str x.name) :: ts)) ++ R))) -> Calls Tryz.prog 168 #[.pointer (some ⟨g, o + 1, none⟩)] y fun ev w' => ev = .returned (.tuple #[]) /\ (Stay (fun k => k = g) w w' /\ Row w' g t (A ++ ((Value.bool x.mu :: (Value.string (str x.name) :: ts)) ++ R)))) := by
  rintro y ⟨hs, hrow⟩
  have hrw : Row y g t ((A ++ [Value.bool x.mu]) ++ ([Value.string (str x.name)] ++ (ts ++ R))) := by simpa only [List.append_assoc, List.cons_append, List.nil_append] using hrow
  have hb : Below K.C w y := hs.below (by omega) (fun q hq => by omega)
  have hsy := hs.size
  refine (ownText_any (K := K) hrw (by simp <;> omega) (x := x.name) ⟨rfl, hn⟩ (by omega)).mono ?_
  rintro _ w' ⟨rfl, c, hc, s1, r1, q1⟩
  obtain rfl := q1.1
  exact ⟨rfl, hs.trans s1, by simpa only [List.append_assoc, List.cons_append, List.nil_append] using r1⟩
 have T1 : Hid (∀ y, (Stay (fun k => k = g) w y /\ Row y g t (A ++ ((Value.bool x.mu :: (Value.string (str x.name) :: ts)) ++ R))) -> Calls Tryz.prog 174 #[.pointer (some ⟨g, o + 2, none⟩)] y fun ev w' => ev = .returned (.tuple #[]) /\ (∃ (c1 : List Value), Stay (fun k => k = g) w w' /\ Row w' g t (A ++ ((Value.bool x.mu :: (Value.string (str x.name) :: c1)) ++ R)) /\ c1.length = 4 /\ IsTyQ (Fr w w') K.B w' c1 x.ty)) := by
  rintro y ⟨hs, hrow⟩
  have hrw : Row y g t ((A ++ (Value.bool x.mu :: [Value.string (str x.name)])) ++ (ts ++ ([] ++ R))) := by simpa only [List.append_assoc, List.cons_append, List.nil_append] using hrow
  have hb : Below K.C w y := hs.below (by omega) (fun q hq => by omega)
  have hsy := hs.size
  refine (ownType_any (K := K) hrw (by simp <;> omega) (h1.below hb) (by omega)).mono ?_
  rintro _ w' ⟨rfl, c1, hc, s1, r1, q1⟩
  have hk2 : Kp (Fr y w') (Fr w w') w' w' := Kp.fr' hsy
  exact ⟨rfl, c1, hs.trans s1, by simpa only [List.append_assoc, List.cons_append, List.nil_append] using r1, hc, IsTyQ.mono q1 hk2⟩
 have TF : Hid (∀ y, (∃ (c1 : List Value), Stay (fun k => k = g) w y /\ Row y g t (A ++ ((Value.bool x.mu :: (Value.string (str x.name) :: c1)) ++ R)) /\ c1.length = 4 /\ IsTyQ (Fr w y) K.B y c1 x.ty) -> OutC 6 FldQ ((fun x => x) x) K.B w g t A R y) := by
  rintro y ⟨c1, hs, hrow, f0, f1⟩
  exact ⟨(Value.bool x.mu :: (Value.string (str x.name) :: c1)), by simp <;> omega, hs, hrow, ⟨c1, rfl, hn, f1⟩⟩
 simp only at TF ⊢
 clear hr hlt h1 hn hg l1
 go_enter Tryz.func171, Tryz.ntmps171
 go_wp2_with fail
 refine (T0.out _ S0.out).mono ?_
 rintro _ w1 ⟨rfl, h1⟩
 replace h1 := hidO h1
 clear T0 S0
 go_wp2_with fail
 refine (T1.out _ h1.out).mono ?_
 rintro _ w2 ⟨rfl, h2⟩
 replace h2 := hidO h2
 clear T1 h1
 go_wp2_with fail
 go_end0
 exact ⟨rfl, TF.out _ h2.out⟩
theorem kinFld : Kin (α := Fld) 6 FldAt FldQ := ⟨fun h => h.one, fun h hb => h.below hb, fun h hk => h.mono hk⟩
set_option maxHeartbeats 8000000 in
theorem ownFlds_of (E : OwnC 171 6 (α := Fld) FldAt FldQ (fun x => x)) : OwnL 170 171 6 96 (α := Fld) FldAt FldQ (fun x => x) := by
 intro K w g t A R v l o hr hA ha hg
 generalize hM : l.map (fun x => x) = M
 have hlt := hr.lt
 have hbz : l.length * 96 <= 140737488355328 := by obtain ⟨_, _, _, _, h, _⟩ := ha.shape; exact h
 obtain ⟨ao, cap, css, rfl, c1, c2, c3, c4, c5⟩ := ha.rows (fun _ _ h => (kinFld).one (w := w) h)
 have cv : w.cell? ⟨g, o, none⟩ = some (.slice ao l.length cap) := by rw [hr.cell o, ← hA]; simp
 have zv : w.frozen? ⟨g, o, none⟩ = false := hr.fz o
 have HST : Hid (∀ (w1 : World) (u : Value), Stay (fun k => k = g) w w1 -> Row w1 g t (A ++ (.slice ao l.length cap :: R)) -> Row (w1.setCell ⟨g, o, none⟩ u) g t (A ++ (u :: R)) /\ Stay (fun k => k = g) w (w1.setCell ⟨g, o, none⟩ u) /\ (w1.setCell ⟨g, o, none⟩ u).cell? ⟨g, o, none⟩ = some u /\ (w1.setCell ⟨g, o, none⟩ u).heap.size = w1.heap.size) := by
  intro w1 u hs hr1
  have h1 := hr1.set o u
  have e1 : (A ++ (Value.slice ao l.length cap :: R)).set o u = A ++ (u :: R) := by rw [← hA]; simp
  rw [e1] at h1
  refine ⟨h1, Stay.set (X := fun k => k = g) hs (fun _ => rfl) _ _, by rw [h1.cell o, ← hA]; simp, by simp [World.setCell]⟩
 rcases Nat.eq_zero_or_pos l.length with h0 | h0
 ·have hl0 : l = [] := List.length_eq_zero_iff.1 h0
  subst hl0
  obtain ⟨k1, k2, k3, _⟩ := HST.out w (.slice none 0 0) (Stay.refl _ _) hr
  have K1 : Hid (OutL 6 96 FldQ M K.B w g t A R (w.setCell ⟨g, o, none⟩ (.slice none 0 0))) := by rw [← hM]; exact ⟨_, k2, k1, nil_arQ⟩
  clear HST hr ha E c1 c2 c3 c4 c5 hg hlt k1 k2 hbz h0
  clear hM
  simp only [List.length_nil] at cv
  go_enter Tryz.func170, Tryz.ntmps170
  go_wp2_with (at_builtin; refine app_zero rfl (.const (.slice none 0 0)) (.tmp 8) 82 145 6 96 (.agg (Value.bool false :: .string (str []) :: tyCells 0).toArray) rfl rfl Tryz.underlying82 (by kernel_rfl) rfl (by decide) ao cap rfl ?_)
  go_loopw [15] (fun i wr => i = .int .i64 0 /\ wr = w.setCell ⟨g, o, none⟩ (.slice none 0 0)) (fun _ _ => 0)
  case atStart => exact ⟨rfl, rfl⟩
  case round =>
   obtain ⟨rfl, rfl⟩ := hrel
   go_wp2_with fail
   go_end0
   exact ⟨rfl, K1.out⟩
 ·have HH : Hid (0 < l.length /\ css.length = l.length /\ (∀ c ∈ css, c.length = 6) /\ (∀ u ∈ css.flatten, u.oneCell' = true) /\ (l.length = 0 ∨ ∃ b o, ao = some ⟨b, o, none⟩ /\ ∀ j u, css.flatten[j]? = some u -> w.cell? ⟨b, o + j, none⟩ = some u) /\ l.length <= 4611686018427387904 /\ l.length * 96 <= 140737488355328) := by
   refine ⟨h0, c1, c2, c4, ?_, by omega, hbz⟩
   rcases c5 with h | h
   ·subst h; cases h0
   ·exact .inr h
  have hl9 : l.length <= 9223372036854775807 := by omega
  have AFT : Hid (∀ (w1 : World) (g1 cp : Nat) (sp : List Value), l.length <= cp -> w.heap.size <= g1 -> Row w1 g1 145 (css.flatten ++ sp) -> Below w.heap.size w w1 -> w1.cell? ⟨g, o, none⟩ = some (.slice ao l.length cap) /\ w1.frozen? ⟨g, o, none⟩ = false /\ (w1.setCell ⟨g, o, none⟩ (.slice (some ⟨g1, 0, none⟩) l.length cp)).cell? ⟨g, o, none⟩ = some (.slice (some ⟨g1, 0, none⟩) l.length cp) /\
    Inv FldQ (fun x => x) K.B 6 l css sp A R (.slice (some ⟨g1, 0, none⟩) l.length cp) w w1 g g1 t 145 0 (w1.setCell ⟨g, o, none⟩ (.slice (some ⟨g1, 0, none⟩) l.length cp)) /\
    (∀ k wr, Inv FldQ (fun x => x) K.B 6 l css sp A R (.slice (some ⟨g1, 0, none⟩) l.length cp) w w1 g g1 t 145 k wr -> k < l.length -> ∀ off, off = k * 6 -> Calls Tryz.prog 171 #[.pointer (some ⟨g1, off, none⟩)] wr fun ev w2 => ev = .returned (.tuple #[]) /\ Inv FldQ (fun x => x) K.B 6 l css sp A R (.slice (some ⟨g1, 0, none⟩) l.length cp) w w1 g g1 t 145 (k + 1) w2) /\
    (∀ k wr, Inv FldQ (fun x => x) K.B 6 l css sp A R (.slice (some ⟨g1, 0, none⟩) l.length cp) w w1 g g1 t 145 k wr -> wr.cell? ⟨g, o, none⟩ = some (.slice (some ⟨g1, 0, none⟩) l.length cp)) /\
    (∀ wr, Inv FldQ (fun x => x) K.B 6 l css sp A R (.slice (some ⟨g1, 0, none⟩) l.length cp) w w1 g g1 t 145 l.length wr -> OutL 6 96 FldQ M K.B w g t A R wr)) := by
   intro w1 g1 cp sp hcp hg1 hR1 hB
   have hr1 := hr.below hB hlt
   have hsz1 := hB.size
   have hg1' := hR1.lt
   obtain ⟨k1, k2, k3, k4⟩ := HST.out w1 (.slice (some ⟨g1, 0, none⟩) l.length cp) (Stay.of_below hB) hr1
   refine ⟨by rw [hr1.cell o, ← hA]; simp, hr1.fz o, k3, ⟨[], rfl, fun c h => absurd h (by simp), k1, ?_, k2, by omega, fun j h => absurd h (by simp)⟩, ?_, ?_, ?_⟩
   ·simpa using hR1.other (g' := g) (j := o) (by omega) (.slice (some ⟨g1, 0, none⟩) l.length cp)
   ·intro k wr hi hk off ho
    exact Inv.call (P := FldAt) (PQ := FldQ) (F := (fun x => x)) E (kinFld) hi hg hlt hg1 hg1' c1 c3 hk off ho
   ·intro k wr hi
    obtain ⟨_, _, _, d3, _⟩ := hi.ex
    rw [d3.cell o, ← hA]; simp
   ·intro wr hi
    rw [← hM]
    exact hi.done (kinFld) hg1 hg1' hsz1 hcp hbz
  clear HST hr ha E c1 c2 c3 c4 c5 hg hlt hbz h0 hM
  go_enter Tryz.func170, Tryz.ntmps170
  go_wp2_with (at_builtin; refine app_some rfl (.const (.slice none 0 0)) (.tmp 8) 82 145 6 96 (.agg (Value.bool false :: .string (str []) :: tyCells 0).toArray) rfl rfl Tryz.underlying82 (by kernel_rfl) rfl (by decide) ao l.length cap css rfl HH.out ?_; intro g1 cp sp w1 hcp hg1 hR1 hB1; obtain ⟨q1, q2, q3, I0, CL, CE, DN⟩ := AFT.out w1 g1 cp sp hcp hg1 hR1 hB1; replace I0 := hidO I0; replace CL := hidO CL; replace CE := hidO CE; replace DN := hidO DN; clear hR1 hB1 hg1 hcp)
  go_loopw [15] (fun i wr => ∃ k : Nat, k <= l.length /\ i = .int .i64 k /\ Inv FldQ (fun x => x) K.B 6 l css sp A R (.slice (some ⟨g1, 0, none⟩) l.length cp) w w1 g g1 t 145 k wr) (fun i _ => l.length - (intOf i).toNat)
  case atStart => exact ⟨0, by omega, rfl, I0.out⟩
  case round =>
   obtain ⟨k, hk, rfl, hi⟩ := hrel
   have ce := CE.out k wr hi
   by_cases h3 : k < l.length
   ·have i1 : (k : Int) < (l.length : Int) := by omega
    have D := hidO (fun off ho => CL.out k wr hi h3 off ho)
    clear hi I0 CL CE DN q1 q2 q3 cv zv AFT HH
    go_wp2_with fail
    refine (D.out _ (by omega)).mono ?_
    rintro _ w2 ⟨rfl, i2⟩
    replace i2 := hidO i2
    clear ce D
    go_wp2_with fail
    go_roundw
    case rel => exact ⟨k + 1, by omega, by go_num, i2.out⟩
    case measure => simp [intOf]; omega
   ·have i1 : ¬ (k : Int) < (l.length : Int) := by omega
    obtain rfl : k = l.length := by omega
    have D := hidO (DN.out wr hi)
    clear hi I0 CL CE DN q1 q2 q3 cv zv AFT HH
    go_wp2_with fail
    go_end0
    exact ⟨rfl, D.out⟩
theorem ownFlds_any : OwnL 170 171 6 96 (α := Fld) FldAt FldQ (fun x => x) := ownFlds_of ownField_any
end Go.Proofs.YtldbbkheemnnhaaGreatDoor

namespace Go.Proofs.YtldbbkheemnnhaaGreatDoor
open Go.RowKit
def bareSc (x : Sct) : Sct := { x with pos := 0 }
def bareFn (n : Nat) (x : Fnc) : Fnc := { x with pos := 0, body := x.body.map (bareS n) }
def bareC (n : Nat) (c : Crt) : Crt := ⟨c.structs.map bareSc, c.funcs.map (bareFn n)⟩
set_option maxHeartbeats 8000000 in
theorem bareStruct_any : OwnC 131 5 (α := Sct) SctAt SctQ bareSc := by
 intro K w g t A cs R x o hr hA hx hg
 have hlt := hr.lt
 obtain ⟨v2, v3, rfl, hn, h2, h3⟩ := hx
 have hr0 : Row (w.setCell ⟨g, o + 4, none⟩ (.int .i64 0)) g t (A ++ ((Value.bool x.pub :: (Value.string (str x.name) :: (v2 :: (v3 :: [Value.int .i64 0])))) ++ R)) := by
  have h1 : Row w g t ((A ++ (Value.bool x.pub :: (Value.string (str x.name) :: (v2 :: [v3])))) ++ ([Value.int .i64 x.pos] ++ ([] ++ R))) := by simpa only [List.append_assoc, List.cons_append, List.nil_append] using hr
  have h2 := h1.set (o + 4) (.int .i64 0)
  have e : ((A ++ (Value.bool x.pub :: (Value.string (str x.name) :: (v2 :: [v3])))) ++ ([Value.int .i64 x.pos] ++ ([] ++ R))).set (o + 4) (.int .i64 0) = (A ++ (Value.bool x.pub :: (Value.string (str x.name) :: (v2 :: [v3])))) ++ ([.int .i64 0] ++ ([] ++ R)) := by
   rw [← hA, List.set_append_right _ _ (by simp <;> omega), show A.length + 4 - (A ++ (Value.bool x.pub :: (Value.string (str x.name) :: (v2 :: [v3])))).length = 0 by simp <;> omega]; rfl
  rw [e] at h2
  simpa only [List.append_assoc, List.cons_append, List.nil_append] using h2
 have cp : w.cell? ⟨g, o + 4, none⟩ = some (Value.int .i64 x.pos) := by
  have h1 : Row w g t ((A ++ (Value.bool x.pub :: (Value.string (str x.name) :: (v2 :: [v3])))) ++ ([Value.int .i64 x.pos] ++ ([] ++ R))) := by simpa only [List.append_assoc, List.cons_append, List.nil_append] using hr
  rw [h1.cell (o + 4), ← hA, List.getElem?_append_right (by simp <;> omega), show A.length + 4 - (A ++ (Value.bool x.pub :: (Value.string (str x.name) :: (v2 :: [v3])))).length = 0 by simp <;> omega]; rfl
 have zp : w.frozen? ⟨g, o + 4, none⟩ = false := hr.fz _
 have S0 : Hid (Stay (fun k => k = g) w (w.setCell ⟨g, o + 4, none⟩ (.int .i64 0)) /\ Row (w.setCell ⟨g, o + 4, none⟩ (.int .i64 0)) g t (A ++ ((Value.bool x.pub :: (Value.string (str x.name) :: (v2 :: (v3 :: [Value.int .i64 0])))) ++ R))) := ⟨Stay.set (X := fun k => k = g) (Stay.refl _ _) (fun _ => rfl) _ _, hr0⟩
 have T0 : Hid (∀ y, (Stay (fun k => k = g) w y /\ Row y g t (A ++ ((Value.bool x.pub :: (Value.string (str x.name) :: (v2 :: (v3 :: [Value.int .i64 0])))) ++ R))) -> Calls Tryz.prog 168 #[.pointer (some ⟨g, o + 1, none⟩)] y fun ev w' => ev = .returned (.tuple #[]) /\ (Stay (fun k => k = g) w w' /\ Row w' g t (A ++ ((Value.bool x.pub :: (Value.string (str x.name) :: (v2 :: (v3 :: [Value.int .i64 0])))) ++ R)))) := by
  rintro y ⟨hs, hrow⟩
  have hrw : Row y g t ((A ++ [Value.bool x.pub]) ++ ([Value.string (str x.name)] ++ ((v2 :: (v3 :: [Value.int .i64 0])) ++ R))) := by simpa only [List.append_assoc, List.cons_append, List.nil_append] using hrow
  have hb : Below K.C w y := hs.below (by omega) (fun q hq => by omega)
  have hsy := hs.size
  refine (ownText_any (K := K) hrw (by simp <;> omega) (x := x.name) ⟨rfl, hn⟩ (by omega)).mono ?_
  rintro _ w' ⟨rfl, c, hc, s1, r1, q1⟩
  obtain rfl := q1.1
  exact ⟨rfl, hs.trans s1, by simpa only [List.append_assoc, List.cons_append, List.nil_append] using r1⟩
 have T1 : Hid (∀ y, (Stay (fun k => k = g) w y /\ Row y g t (A ++ ((Value.bool x.pub :: (Value.string (str x.name) :: (v2 :: (v3 :: [Value.int .i64 0])))) ++ R))) -> Calls Tryz.prog 169 #[.pointer (some ⟨g, o + 2, none⟩), .func (.func 168) #[] #[]] y fun ev w' => ev = .returned (.tuple #[]) /\ (∃ (v1 : Value), Stay (fun k => k = g) w w' /\ Row w' g t (A ++ ((Value.bool x.pub :: (Value.string (str x.name) :: (v1 :: (v3 :: [Value.int .i64 0])))) ++ R)) /\ StrQ (Fr w w') K.B w' v1 x.lives)) := by
  rintro y ⟨hs, hrow⟩
  have hrw : Row y g t ((A ++ (Value.bool x.pub :: [Value.string (str x.name)])) ++ (v2 :: ((v3 :: [Value.int .i64 0]) ++ R))) := by simpa only [List.append_assoc, List.cons_append, List.nil_append] using hrow
  have hb : Below K.C w y := hs.below (by omega) (fun q hq => by omega)
  have hsy := hs.size
  refine (ownStrs_any (K := K) hrw (by simp <;> omega) (h2.below hb) (by omega)).mono ?_
  rintro _ w' ⟨rfl, v1, s1, r1, q1⟩
  have hk2 : Kp (Fr y w') (Fr w w') w' w' := Kp.fr' hsy
  exact ⟨rfl, v1, hs.trans s1, by simpa only [List.append_assoc, List.cons_append, List.nil_append] using r1, (by have h2 := StrQ.mono (l := _) (by rw [List.map_id'] at q1; exact q1) hk2; exact h2)⟩
 have T2 : Hid (∀ y, (∃ (v1 : Value), Stay (fun k => k = g) w y /\ Row y g t (A ++ ((Value.bool x.pub :: (Value.string (str x.name) :: (v1 :: (v3 :: [Value.int .i64 0])))) ++ R)) /\ StrQ (Fr w y) K.B y v1 x.lives) -> Calls Tryz.prog 170 #[.pointer (some ⟨g, o + 3, none⟩), .func (.func 171) #[] #[]] y fun ev w' => ev = .returned (.tuple #[]) /\ (∃ (v1 : Value) (v2 : Value), Stay (fun k => k = g) w w' /\ Row w' g t (A ++ ((Value.bool x.pub :: (Value.string (str x.name) :: (v1 :: (v2 :: [Value.int .i64 0])))) ++ R)) /\ StrQ (Fr w w') K.B w' v1 x.lives /\ ArQ 6 96 (FldQ (Fr w w') K.B w') (Fr w w') w' v2 x.fields)) := by
  rintro y ⟨v1, hs, hrow, f0⟩
  have hrw : Row y g t ((A ++ (Value.bool x.pub :: (Value.string (str x.name) :: [v1]))) ++ (v3 :: ([Value.int .i64 0] ++ R))) := by simpa only [List.append_assoc, List.cons_append, List.nil_append] using hrow
  have hb : Below K.C w y := hs.below (by omega) (fun q hq => by omega)
  have hsy := hs.size
  refine (ownFlds_any (K := K) hrw (by simp <;> omega) (h3.mono hb fun _ _ _ h => h.below hb) (by omega)).mono ?_
  rintro _ w' ⟨rfl, v2, s1, r1, q1⟩
  have hk : Kp (Fr w y) (Fr w w') y w' := Kp.fr s1 hlt (Nat.le_refl _)
  have hk2 : Kp (Fr y w') (Fr w w') w' w' := Kp.fr' hsy
  exact ⟨rfl, v1, v2, hs.trans s1, by simpa only [List.append_assoc, List.cons_append, List.nil_append] using r1, StrQ.mono f0 hk, ArQ.mono (P := (FldQ (Fr y w') K.B w')) (by rw [List.map_id'] at q1; exact q1) hk2 (fun _ _ _ h => h.mono hk2)⟩
 have TF : Hid (∀ y, (∃ (v1 : Value) (v2 : Value), Stay (fun k => k = g) w y /\ Row y g t (A ++ ((Value.bool x.pub :: (Value.string (str x.name) :: (v1 :: (v2 :: [Value.int .i64 0])))) ++ R)) /\ StrQ (Fr w y) K.B y v1 x.lives /\ ArQ 6 96 (FldQ (Fr w y) K.B y) (Fr w y) y v2 x.fields) -> OutC 5 SctQ (bareSc x) K.B w g t A R y) := by
  rintro y ⟨v1, v2, hs, hrow, f0, f1⟩
  exact ⟨(Value.bool x.pub :: (Value.string (str x.name) :: (v1 :: (v2 :: [Value.int .i64 0])))), by simp <;> omega, hs, hrow, ⟨v1, v2, rfl, hn, f0, f1⟩⟩
 generalize bareSc x = X at TF ⊢
 clear hr hr0 hlt h2 h3 hn hg
 go_enter Tryz.func131, Tryz.ntmps131
 go_wp2_with fail
 refine (T0.out _ S0.out).mono ?_
 rintro _ w1 ⟨rfl, h1⟩
 replace h1 := hidO h1
 clear T0 S0
 go_wp2_with fail
 refine (T1.out _ h1.out).mono ?_
 rintro _ w2 ⟨rfl, h2⟩
 replace h2 := hidO h2
 clear T1 h1
 go_wp2_with fail
 refine (T2.out _ h2.out).mono ?_
 rintro _ w3 ⟨rfl, h3⟩
 replace h3 := hidO h3
 clear T2 h2
 go_wp2_with fail
 go_end0
 exact ⟨rfl, TF.out _ h3.out⟩
theorem kinSct : Kin (α := Sct) 5 SctAt SctQ := ⟨fun h => h.one, fun h hb => h.below hb, fun h hk => h.mono hk⟩
end Go.Proofs.YtldbbkheemnnhaaGreatDoor
