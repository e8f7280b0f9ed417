/-
  The texts Owb, Owf, Owi, Bar, Rws, Grw, Las, Wpo, joined.
-/
import Derived.Test.YtldbbkheemnnhaaGreatDoorJpOws4
import Derived.Test.YtldbbkheemnnhaaGreatDoorJpMfd2
import Derived.Test.YtldbbkheemnnhaaGreatDoorJpSpa3
import Derived.Test.YtldbbkheemnnhaaGreatDoorJpEql4
namespace Go.Proofs.YtldbbkheemnnhaaGreatDoor
open Go.RowKit
def bareS : Nat -> St -> St
 | 0, s => s
 | n + 1, s => { s with pos := 0, thn := s.thn.map (bareS n), els := s.els.map (bareS n) }
end Go.Proofs.YtldbbkheemnnhaaGreatDoor

namespace Go.Proofs.YtldbbkheemnnhaaGreatDoor
open Go.RowKit
set_option maxHeartbeats 8000000 in
theorem ownField_any : OwnC 171 6 (α := Fld) FldAt FldQ (fun x => x) := by
 intro K w g t A cs R x o hr hA hx hg
 have hlt := hr.lt
 obtain ⟨ts, rfl, hn, h1⟩ := hx
 have l1 := h1.len
 have S0 : Hid (Stay (fun k => k = g) w w /\ Row w g t (A ++ ((Value.bool x.mu :: (Value.string (str x.name) :: ts)) ++ R))) := ⟨Stay.refl _ _, hr⟩
 have T0 : Hid (∀ y, (Stay (fun k => k = g) w y /\ Row y g t (A ++ ((Value.bool x.mu :: (Value.string (str x.name) :: ts)) ++ R))) -> Calls Tryz.prog 168 #[.pointer (some ⟨g, o + 1, none⟩)] y fun ev w' => ev = .returned (.tuple #[]) /\ (Stay (fun k => k = g) w w' /\ Row w' g t (A ++ ((Value.bool x.mu :: (Value.string (str x.name) :: ts)) ++ R)))) := by
  rintro y ⟨hs, hrow⟩
  have hrw : Row y g t ((A ++ [Value.bool x.mu]) ++ ([Value.string (str x.name)] ++ (ts ++ R))) := by simpa only [List.append_assoc, List.cons_append, List.nil_append] using hrow
  have hb : Below K.C w y := hs.below (by omega) (fun q hq => by omega)
  have hsy := hs.size
  refine (ownText_any (K := K) hrw (by simp <;> omega) (x := x.name) ⟨rfl, hn⟩ (by omega)).mono ?_
  rintro _ w' ⟨rfl, c, hc, s1, r1, q1⟩
  obtain rfl := q1.1
  exact ⟨rfl, hs.trans s1, by simpa only [List.append_assoc, List.cons_append, List.nil_append] using r1⟩
 have T1 : Hid (∀ y, (Stay (fun k => k = g) w y /\ Row y g t (A ++ ((Value.bool x.mu :: (Value.string (str x.name) :: ts)) ++ R))) -> Calls Tryz.prog 174 #[.pointer (some ⟨g, o + 2, none⟩)] y fun ev w' => ev = .returned (.tuple #[]) /\ (∃ (c1 : List Value), Stay (fun k => k = g) w w' /\ Row w' g t (A ++ ((Value.bool x.mu :: (Value.string (str x.name) :: c1)) ++ R)) /\ c1.length = 4 /\ IsTyQ (Fr w w') K.B w' c1 x.ty)) := by
  rintro y ⟨hs, hrow⟩
  have hrw : Row y g t ((A ++ (Value.bool x.mu :: [Value.string (str x.name)])) ++ (ts ++ ([] ++ R))) := by simpa only [List.append_assoc, List.cons_append, List.nil_append] using hrow
  have hb : Below K.C w y := hs.below (by omega) (fun q hq => by omega)
  have hsy := hs.size
  refine (ownType_any (K := K) hrw (by simp <;> omega) (h1.below hb) (by omega)).mono ?_
  rintro _ w' ⟨rfl, c1, hc, s1, r1, q1⟩
  have hk2 : Kp (Fr y w') (Fr w w') w' w' := Kp.fr' hsy
  exact ⟨rfl, c1, hs.trans s1, by simpa only [List.append_assoc, List.cons_append, List.nil_append] using r1, hc, IsTyQ.mono q1 hk2⟩
 have TF : Hid (∀ y, (∃ (c1 : List Value), Stay (fun k => k = g) w y /\ Row y g t (A ++ ((Value.bool x.mu :: (Value.string (str x.name) :: c1)) ++ R)) /\ c1.length = 4 /\ IsTyQ (Fr w y) K.B y c1 x.ty) -> OutC 6 FldQ ((fun x => x) x) K.B w g t A R y) := by
  rintro y ⟨c1, hs, hrow, f0, f1⟩
  exact ⟨(Value.bool x.mu :: (Value.string (str x.name) :: c1)), by simp <;> omega, hs, hrow, ⟨c1, rfl, hn, f1⟩⟩
 simp only at TF ⊢
 clear hr hlt h1 hn hg l1
 go_enter Tryz.func171, Tryz.ntmps171
 go_wp2_with fail
 refine (T0.out _ S0.out).mono ?_
 rintro _ w1 ⟨rfl, h1⟩
 replace h1 := hidO h1
 clear T0 S0
 go_wp2_with fail
 refine (T1.out _ h1.out).mono ?_
 rintro _ w2 ⟨rfl, h2⟩
 replace h2 := hidO h2
 clear T1 h1
 go_wp2_with fail
 go_end0
 exact ⟨rfl, TF.out _ h2.out⟩
theorem kinFld : Kin (α := Fld) 6 FldAt FldQ := ⟨fun h => h.one, fun h hb => h.below hb, fun h hk => h.mono hk⟩
set_option maxHeartbeats 8000000 in
theorem ownFlds_of (E : OwnC 171 6 (α := Fld) FldAt FldQ (fun x => x)) : OwnL 170 171 6 96 (α := Fld) FldAt FldQ (fun x => x) := by
 intro K w g t A R v l o hr hA ha hg
 generalize hM : l.map (fun x => x) = M
 have hlt := hr.lt
 have hbz : l.length * 96 <= 140737488355328 := by obtain ⟨_, _, _, _, h, _⟩ := ha.shape; exact h
 obtain ⟨ao, cap, css, rfl, c1, c2, c3, c4, c5⟩ := ha.rows (fun _ _ h => (kinFld).one (w := w) h)
 have cv : w.cell? ⟨g, o, none⟩ = some (.slice ao l.length cap) := by rw [hr.cell o, ← hA]; simp
 have zv : w.frozen? ⟨g, o, none⟩ = false := hr.fz o
 have HST : Hid (∀ (w1 : World) (u : Value), Stay (fun k => k = g) w w1 -> Row w1 g t (A ++ (.slice ao l.length cap :: R)) -> Row (w1.setCell ⟨g, o, none⟩ u) g t (A ++ (u :: R)) /\ Stay (fun k => k = g) w (w1.setCell ⟨g, o, none⟩ u) /\ (w1.setCell ⟨g, o, none⟩ u).cell? ⟨g, o, none⟩ = some u /\ (w1.setCell ⟨g, o, none⟩ u).heap.size = w1.heap.size) := by
  intro w1 u hs hr1
  have h1 := hr1.set o u
  have e1 : (A ++ (Value.slice ao l.length cap :: R)).set o u = A ++ (u :: R) := by rw [← hA]; simp
  rw [e1] at h1
  refine ⟨h1, Stay.set (X := fun k => k = g) hs (fun _ => rfl) _ _, by rw [h1.cell o, ← hA]; simp, by simp [World.setCell]⟩
 rcases Nat.eq_zero_or_pos l.length with h0 | h0
 ·have hl0 : l = [] := List.length_eq_zero_iff.1 h0
  subst hl0
  obtain ⟨k1, k2, k3, _⟩ := HST.out w (.slice none 0 0) (Stay.refl _ _) hr
  have K1 : Hid (OutL 6 96 FldQ M K.B w g t A R (w.setCell ⟨g, o, none⟩ (.slice none 0 0))) := by rw [← hM]; exact ⟨_, k2, k1, nil_arQ⟩
  clear HST hr ha E c1 c2 c3 c4 c5 hg hlt k1 k2 hbz h0
  clear hM
  simp only [List.length_nil] at cv
  go_enter Tryz.func170, Tryz.ntmps170
  go_wp2_with (at_builtin; refine app_zero rfl (.const (.slice none 0 0)) (.tmp 8) 82 145 6 96 (.agg (Value.bool false :: .string (str []) :: tyCells 0).toArray) rfl rfl Tryz.underlying82 (by kernel_rfl) rfl (by decide) ao cap rfl ?_)
  go_loopw [15] (fun i wr => i = .int .i64 0 /\ wr = w.setCell ⟨g, o, none⟩ (.slice none 0 0)) (fun _ _ => 0)
  case atStart => exact ⟨rfl, rfl⟩
  case round =>
   obtain ⟨rfl, rfl⟩ := hrel
   go_wp2_with fail
   go_end0
   exact ⟨rfl, K1.out⟩
 ·have HH : Hid (0 < l.length /\ css.length = l.length /\ (∀ c ∈ css, c.length = 6) /\ (∀ u ∈ css.flatten, u.oneCell' = true) /\ (l.length = 0 ∨ ∃ b o, ao = some ⟨b, o, none⟩ /\ ∀ j u, css.flatten[j]? = some u -> w.cell? ⟨b, o + j, none⟩ = some u) /\ l.length <= 4611686018427387904 /\ l.length * 96 <= 140737488355328) := by
   refine ⟨h0, c1, c2, c4, ?_, by omega, hbz⟩
   rcases c5 with h | h
   ·subst h; cases h0
   ·exact .inr h
  have hl9 : l.length <= 9223372036854775807 := by omega
  have AFT : Hid (∀ (w1 : World) (g1 cp : Nat) (sp : List Value), l.length <= cp -> w.heap.size <= g1 -> Row w1 g1 145 (css.flatten ++ sp) -> Below w.heap.size w w1 -> w1.cell? ⟨g, o, none⟩ = some (.slice ao l.length cap) /\ w1.frozen? ⟨g, o, none⟩ = false /\ (w1.setCell ⟨g, o, none⟩ (.slice (some ⟨g1, 0, none⟩) l.length cp)).cell? ⟨g, o, none⟩ = some (.slice (some ⟨g1, 0, none⟩) l.length cp) /\
    Inv FldQ (fun x => x) K.B 6 l css sp A R (.slice (some ⟨g1, 0, none⟩) l.length cp) w w1 g g1 t 145 0 (w1.setCell ⟨g, o, none⟩ (.slice (some ⟨g1, 0, none⟩) l.length cp)) /\
    (∀ k wr, Inv FldQ (fun x => x) K.B 6 l css sp A R (.slice (some ⟨g1, 0, none⟩) l.length cp) w w1 g g1 t 145 k wr -> k < l.length -> ∀ off, off = k * 6 -> Calls Tryz.prog 171 #[.pointer (some ⟨g1, off, none⟩)] wr fun ev w2 => ev = .returned (.tuple #[]) /\ Inv FldQ (fun x => x) K.B 6 l css sp A R (.slice (some ⟨g1, 0, none⟩) l.length cp) w w1 g g1 t 145 (k + 1) w2) /\
    (∀ k wr, Inv FldQ (fun x => x) K.B 6 l css sp A R (.slice (some ⟨g1, 0, none⟩) l.length cp) w w1 g g1 t 145 k wr -> wr.cell? ⟨g, o, none⟩ = some (.slice (some ⟨g1, 0, none⟩) l.length cp)) /\
    (∀ wr, Inv FldQ (fun x => x) K.B 6 l css sp A R (.slice (some ⟨g1, 0, none⟩) l.length cp) w w1 g g1 t 145 l.length wr -> OutL 6 96 FldQ M K.B w g t A R wr)) := by
   intro w1 g1 cp sp hcp hg1 hR1 hB
   have hr1 := hr.below hB hlt
   have hsz1 := hB.size
   have hg1' := hR1.lt
   obtain ⟨k1, k2, k3, k4⟩ := HST.out w1 (.slice (some ⟨g1, 0, none⟩) l.length cp) (Stay.of_below hB) hr1
   refine ⟨by rw [hr1.cell o, ← hA]; simp, hr1.fz o, k3, ⟨[], rfl, fun c h => absurd h (by simp), k1, ?_, k2, by omega, fun j h => absurd h (by simp)⟩, ?_, ?_, ?_⟩
   ·simpa using hR1.other (g' := g) (j := o) (by omega) (.slice (some ⟨g1, 0, none⟩) l.length cp)
   ·intro k wr hi hk off ho
    exact Inv.call (P := FldAt) (PQ := FldQ) (F := (fun x => x)) E (kinFld) hi hg hlt hg1 hg1' c1 c3 hk off ho
   ·intro k wr hi
    obtain ⟨_, _, _, d3, _⟩ := hi.ex
    rw [d3.cell o, ← hA]; simp
   ·intro wr hi
    rw [← hM]
    exact hi.done (kinFld) hg1 hg1' hsz1 hcp hbz
  clear HST hr ha E c1 c2 c3 c4 c5 hg hlt hbz h0 hM
  go_enter Tryz.func170, Tryz.ntmps170
  go_wp2_with (at_builtin; refine app_some rfl (.const (.slice none 0 0)) (.tmp 8) 82 145 6 96 (.agg (Value.bool false :: .string (str []) :: tyCells 0).toArray) rfl rfl Tryz.underlying82 (by kernel_rfl) rfl (by decide) ao l.length cap css rfl HH.out ?_; intro g1 cp sp w1 hcp hg1 hR1 hB1; obtain ⟨q1, q2, q3, I0, CL, CE, DN⟩ := AFT.out w1 g1 cp sp hcp hg1 hR1 hB1; replace I0 := hidO I0; replace CL := hidO CL; replace CE := hidO CE; replace DN := hidO DN; clear hR1 hB1 hg1 hcp)
  go_loopw [15] (fun i wr => ∃ k : Nat, k <= l.length /\ i = .int .i64 k /\ Inv FldQ (fun x => x) K.B 6 l css sp A R (.slice (some ⟨g1, 0, none⟩) l.length cp) w w1 g g1 t 145 k wr) (fun i _ => l.length - (intOf i).toNat)
  case atStart => exact ⟨0, by omega, rfl, I0.out⟩
  case round =>
   obtain ⟨k, hk, rfl, hi⟩ := hrel
   have ce := CE.out k wr hi
   by_cases h3 : k < l.length
   ·have i1 : (k : Int) < (l.length : Int) := by omega
    have D := hidO (fun off ho => CL.out k wr hi h3 off ho)
    clear hi I0 CL CE DN q1 q2 q3 cv zv AFT HH
    go_wp2_with fail
    refine (D.out _ (by omega)).mono ?_
    rintro _ w2 ⟨rfl, i2⟩
    replace i2 := hidO i2
    clear ce D
    go_wp2_with fail
    go_roundw
    case rel => exact ⟨k + 1, by omega, by go_num, i2.out⟩
    case measure => simp [intOf]; omega
   ·have i1 : ¬ (k : Int) < (l.length : Int) := by omega
    obtain rfl : k = l.length := by omega
    have D := hidO (DN.out wr hi)
    clear hi I0 CL CE DN q1 q2 q3 cv zv AFT HH
    go_wp2_with fail
    go_end0
    exact ⟨rfl, D.out⟩
theorem ownFlds_any : OwnL 170 171 6 96 (α := Fld) FldAt FldQ (fun x => x) := ownFlds_of ownField_any
end Go.Proofs.YtldbbkheemnnhaaGreatDoor

namespace Go.Proofs.YtldbbkheemnnhaaGreatDoor
open Go.RowKit
def bareSc (x : Sct) : Sct := { x with pos := 0 }
def bareFn (n : Nat) (x : Fnc) : Fnc := { x with pos := 0, body := x.body.map (bareS n) }
def bareC (n : Nat) (c : Crt) : Crt := ⟨c.structs.map bareSc, c.funcs.map (bareFn n)⟩
set_option maxHeartbeats 8000000 in
theorem bareStruct_any : OwnC 131 5 (α := Sct) SctAt SctQ bareSc := by
 intro K w g t A cs R x o hr hA hx hg
 have hlt := hr.lt
 obtain ⟨v2, v3, rfl, hn, h2, h3⟩ := hx
 have hr0 : Row (w.setCell ⟨g, o + 4, none⟩ (.int .i64 0)) g t (A ++ ((Value.bool x.pub :: (Value.string (str x.name) :: (v2 :: (v3 :: [Value.int .i64 0])))) ++ R)) := by
  have h1 : Row w g t ((A ++ (Value.bool x.pub :: (Value.string (str x.name) :: (v2 :: [v3])))) ++ ([Value.int .i64 x.pos] ++ ([] ++ R))) := by simpa only [List.append_assoc, List.cons_append, List.nil_append] using hr
  have h2 := h1.set (o + 4) (.int .i64 0)
  have e : ((A ++ (Value.bool x.pub :: (Value.string (str x.name) :: (v2 :: [v3])))) ++ ([Value.int .i64 x.pos] ++ ([] ++ R))).set (o + 4) (.int .i64 0) = (A ++ (Value.bool x.pub :: (Value.string (str x.name) :: (v2 :: [v3])))) ++ ([.int .i64 0] ++ ([] ++ R)) := by
   rw [← hA, List.set_append_right _ _ (by simp <;> omega), show A.length + 4 - (A ++ (Value.bool x.pub :: (Value.string (str x.name) :: (v2 :: [v3])))).length = 0 by simp <;> omega]; rfl
  rw [e] at h2
  simpa only [List.append_assoc, List.cons_append, List.nil_append] using h2
 have cp : w.cell? ⟨g, o + 4, none⟩ = some (Value.int .i64 x.pos) := by
  have h1 : Row w g t ((A ++ (Value.bool x.pub :: (Value.string (str x.name) :: (v2 :: [v3])))) ++ ([Value.int .i64 x.pos] ++ ([] ++ R))) := by simpa only [List.append_assoc, List.cons_append, List.nil_append] using hr
  rw [h1.cell (o + 4), ← hA, List.getElem?_append_right (by simp <;> omega), show A.length + 4 - (A ++ (Value.bool x.pub :: (Value.string (str x.name) :: (v2 :: [v3])))).length = 0 by simp <;> omega]; rfl
 have zp : w.frozen? ⟨g, o + 4, none⟩ = false := hr.fz _
 have S0 : Hid (Stay (fun k => k = g) w (w.setCell ⟨g, o + 4, none⟩ (.int .i64 0)) /\ Row (w.setCell ⟨g, o + 4, none⟩ (.int .i64 0)) g t (A ++ ((Value.bool x.pub :: (Value.string (str x.name) :: (v2 :: (v3 :: [Value.int .i64 0])))) ++ R))) := ⟨Stay.set (X := fun k => k = g) (Stay.refl _ _) (fun _ => rfl) _ _, hr0⟩
 have T0 : Hid (∀ y, (Stay (fun k => k = g) w y /\ Row y g t (A ++ ((Value.bool x.pub :: (Value.string (str x.name) :: (v2 :: (v3 :: [Value.int .i64 0])))) ++ R))) -> Calls Tryz.prog 168 #[.pointer (some ⟨g, o + 1, none⟩)] y fun ev w' => ev = .returned (.tuple #[]) /\ (Stay (fun k => k = g) w w' /\ Row w' g t (A ++ ((Value.bool x.pub :: (Value.string (str x.name) :: (v2 :: (v3 :: [Value.int .i64 0])))) ++ R)))) := by
  rintro y ⟨hs, hrow⟩
  have hrw : Row y g t ((A ++ [Value.bool x.pub]) ++ ([Value.string (str x.name)] ++ ((v2 :: (v3 :: [Value.int .i64 0])) ++ R))) := by simpa only [List.append_assoc, List.cons_append, List.nil_append] using hrow
  have hb : Below K.C w y := hs.below (by omega) (fun q hq => by omega)
  have hsy := hs.size
  refine (ownText_any (K := K) hrw (by simp <;> omega) (x := x.name) ⟨rfl, hn⟩ (by omega)).mono ?_
  rintro _ w' ⟨rfl, c, hc, s1, r1, q1⟩
  obtain rfl := q1.1
  exact ⟨rfl, hs.trans s1, by simpa only [List.append_assoc, List.cons_append, List.nil_append] using r1⟩
 have T1 : Hid (∀ y, (Stay (fun k => k = g) w y /\ Row y g t (A ++ ((Value.bool x.pub :: (Value.string (str x.name) :: (v2 :: (v3 :: [Value.int .i64 0])))) ++ R))) -> Calls Tryz.prog 169 #[.pointer (some ⟨g, o + 2, none⟩), .func (.func 168) #[] #[]] y fun ev w' => ev = .returned (.tuple #[]) /\ (∃ (v1 : Value), Stay (fun k => k = g) w w' /\ Row w' g t (A ++ ((Value.bool x.pub :: (Value.string (str x.name) :: (v1 :: (v3 :: [Value.int .i64 0])))) ++ R)) /\ StrQ (Fr w w') K.B w' v1 x.lives)) := by
  rintro y ⟨hs, hrow⟩
  have hrw : Row y g t ((A ++ (Value.bool x.pub :: [Value.string (str x.name)])) ++ (v2 :: ((v3 :: [Value.int .i64 0]) ++ R))) := by simpa only [List.append_assoc, List.cons_append, List.nil_append] using hrow
  have hb : Below K.C w y := hs.below (by omega) (fun q hq => by omega)
  have hsy := hs.size
  refine (ownStrs_any (K := K) hrw (by simp <;> omega) (h2.below hb) (by omega)).mono ?_
  rintro _ w' ⟨rfl, v1, s1, r1, q1⟩
  have hk2 : Kp (Fr y w') (Fr w w') w' w' := Kp.fr' hsy
  exact ⟨rfl, v1, hs.trans s1, by simpa only [List.append_assoc, List.cons_append, List.nil_append] using r1, (by have h2 := StrQ.mono (l := _) (by rw [List.map_id'] at q1; exact q1) hk2; exact h2)⟩
 have T2 : Hid (∀ y, (∃ (v1 : Value), Stay (fun k => k = g) w y /\ Row y g t (A ++ ((Value.bool x.pub :: (Value.string (str x.name) :: (v1 :: (v3 :: [Value.int .i64 0])))) ++ R)) /\ StrQ (Fr w y) K.B y v1 x.lives) -> Calls Tryz.prog 170 #[.pointer (some ⟨g, o + 3, none⟩), .func (.func 171) #[] #[]] y fun ev w' => ev = .returned (.tuple #[]) /\ (∃ (v1 : Value) (v2 : Value), Stay (fun k => k = g) w w' /\ Row w' g t (A ++ ((Value.bool x.pub :: (Value.string (str x.name) :: (v1 :: (v2 :: [Value.int .i64 0])))) ++ R)) /\ StrQ (Fr w w') K.B w' v1 x.lives /\ ArQ 6 96 (FldQ (Fr w w') K.B w') (Fr w w') w' v2 x.fields)) := by
  rintro y ⟨v1, hs, hrow, f0⟩
  have hrw : Row y g t ((A ++ (Value.bool x.pub :: (Value.string (str x.name) :: [v1]))) ++ (v3 :: ([Value.int .i64 0] ++ R))) := by simpa only [List.append_assoc, List.cons_append, List.nil_append] using hrow
  have hb : Below K.C w y := hs.below (by omega) (fun q hq => by omega)
  have hsy := hs.size
  refine (ownFlds_any (K := K) hrw (by simp <;> omega) (h3.mono hb fun _ _ _ h => h.below hb) (by omega)).mono ?_
  rintro _ w' ⟨rfl, v2, s1, r1, q1⟩
  have hk : Kp (Fr w y) (Fr w w') y w' := Kp.fr s1 hlt (Nat.le_refl _)
  have hk2 : Kp (Fr y w') (Fr w w') w' w' := Kp.fr' hsy
  exact ⟨rfl, v1, v2, hs.trans s1, by simpa only [List.append_assoc, List.cons_append, List.nil_append] using r1, StrQ.mono f0 hk, ArQ.mono (P := (FldQ (Fr y w') K.B w')) (by rw [List.map_id'] at q1; exact q1) hk2 (fun _ _ _ h => h.mono hk2)⟩
 have TF : Hid (∀ y, (∃ (v1 : Value) (v2 : Value), Stay (fun k => k = g) w y /\ Row y g t (A ++ ((Value.bool x.pub :: (Value.string (str x.name) :: (v1 :: (v2 :: [Value.int .i64 0])))) ++ R)) /\ StrQ (Fr w y) K.B y v1 x.lives /\ ArQ 6 96 (FldQ (Fr w y) K.B y) (Fr w y) y v2 x.fields) -> OutC 5 SctQ (bareSc x) K.B w g t A R y) := by
  rintro y ⟨v1, v2, hs, hrow, f0, f1⟩
  exact ⟨(Value.bool x.pub :: (Value.string (str x.name) :: (v1 :: (v2 :: [Value.int .i64 0])))), by simp <;> omega, hs, hrow, ⟨v1, v2, rfl, hn, f0, f1⟩⟩
 generalize bareSc x = X at TF ⊢
 clear hr hr0 hlt h2 h3 hn hg
 go_enter Tryz.func131, Tryz.ntmps131
 go_wp2_with fail
 refine (T0.out _ S0.out).mono ?_
 rintro _ w1 ⟨rfl, h1⟩
 replace h1 := hidO h1
 clear T0 S0
 go_wp2_with fail
 refine (T1.out _ h1.out).mono ?_
 rintro _ w2 ⟨rfl, h2⟩
 replace h2 := hidO h2
 clear T1 h1
 go_wp2_with fail
 refine (T2.out _ h2.out).mono ?_
 rintro _ w3 ⟨rfl, h3⟩
 replace h3 := hidO h3
 clear T2 h2
 go_wp2_with fail
 go_end0
 exact ⟨rfl, TF.out _ h3.out⟩
theorem kinSct : Kin (α := Sct) 5 SctAt SctQ := ⟨fun h => h.one, fun h hb => h.below hb, fun h hk => h.mono hk⟩
end Go.Proofs.YtldbbkheemnnhaaGreatDoor

namespace Go.Proofs.YtldbbkheemnnhaaGreatDoor
open Go.RowKit
end Go.Proofs.YtldbbkheemnnhaaGreatDoor

namespace Go.Proofs.YtldbbkheemnnhaaGreatDoor
open Go.RowKit
theorem own_sameR {w w' : World} {B t s n : Nat} {v : Value} {xs : List Value} (h : w.ownsRow B t s v n xs) (hs : ∀ k, v.ownBlock = some k -> w'.heap[k]? = w.heap[k]?) : w'.ownsRow B t s v n xs := by
 refine ⟨h.1, ?_⟩
 rcases h.2 with hn | ⟨g, cap, cur, rfl, hb, hgg, rest⟩
 ·exact .inl hn
 ·exact .inr ⟨g, cap, cur, rfl, hb, by rw [hs g rfl]; exact hgg, rest⟩
def Rws {α : Type} (z t : Nat) (P : List Value -> α -> Prop) (B : Nat) (w : World) (v : Value) (l : List α) : Prop := ∃ L, Cel z P L l /\ w.ownsRow B t z v l.length L.flatten
theorem Rws.nil {α : Type} {z t : Nat} {P : List Value -> α -> Prop} {B : Nat} {w : World} : Rws z t P B w (.slice none 0 0) ([] : List α) :=
 ⟨[], ⟨rfl, fun i h => by cases h⟩, World.ownsRow_nil _ _ _ _⟩
theorem Rws.stay {α : Type} {z t : Nat} {P : List Value -> α -> Prop} {B : Nat} {w w' : World} {v : Value} {l : List α} {X : Nat -> Prop} (h : Rws z t P B w v l) (hs : Stay X w w') (hX : ∀ k, X k -> k < B) : Rws z t P B w' v l := by
 obtain ⟨L, hc, ho⟩ := h
 exact ⟨L, hc, own_sameR ho fun k e => hs.block k (ho.lt k e).2 (fun hx => by have := hX k hx; have := (ho.lt k e).1; omega)⟩
theorem Rws.past {α : Type} {z t : Nat} {P : List Value -> α -> Prop} {B : Nat} {w w' : World} {v : Value} {l : List α} (h : Rws z t P B w v l) (hb : Below w.heap.size w w') : Rws z t P B w' v l :=
 h.stay (X := fun _ => False) (Stay.of_below hb) (fun _ h => h.elim)
theorem Rws.form {α : Type} {z t : Nat} {P : List Value -> α -> Prop} {B : Nat} {w : World} {v : Value} {l : List α} (h : Rws z t P B w v l) : ∃ ao cap, v = .slice ao l.length cap := by
 obtain ⟨L, _, ho⟩ := h; exact own_slice ho
theorem SctAt.open {K : Ctx} {w : World} {cs : List Value} {x : Sct} (h : SctAt K w cs x) : ∃ a2 n2 c2 a3 n3 c3, cs = [.bool x.pub, .string (str x.name), .slice a2 n2 c2, .slice a3 n3 c3, .int .i64 x.pos] := by
 obtain ⟨v2, v3, rfl, _, h1, h2⟩ := h
 obtain ⟨a2, c2, rfl⟩ := h1.form
 obtain ⟨a3, c3, rfl⟩ := h2.form
 exact ⟨_, _, _, _, _, _, rfl⟩
theorem FncAt.open {n : Nat} {K : Ctx} {w : World} {cs : List Value} {x : Fnc} (h : FncAt n K w cs x) : ∃ a2 n2 c2 a3 n3 c3 t2 m2 d2 t3 m3 d3 a8 c8, cs = [.bool x.pub, .string (str x.name), .slice a2 n2 c2, .slice a3 n3 c3, .int .i64 x.result.kind, .string (str x.result.name), .slice t2 m2 d2, .slice t3 m3 d3, .slice a8 x.body.length c8, .int .i64 x.pos] := by
 obtain ⟨v2, v3, ts, v8, rfl, _, h1, h2, h3, h4⟩ := h
 obtain ⟨a2, c2, rfl⟩ := h1.form
 obtain ⟨a3, c3, rfl⟩ := h2.form
 obtain ⟨a8, c8, rfl⟩ := h4.form
 obtain ⟨t2, m2, d2, t3, m3, d3, rfl⟩ := h3.open
 exact ⟨_, _, _, _, _, _, _, _, _, _, _, _, _, _, rfl⟩
theorem SctAt.setPub {K : Ctx} {w : World} {cs : List Value} {x : Sct} (h : SctAt K w cs x) (b : Bool) : SctAt K w (cs.set 0 (.bool b)) { x with pub := b } := by
 obtain ⟨v2, v3, rfl, h0, h1, h2⟩ := h
 exact ⟨v2, v3, rfl, h0, h1, h2⟩
theorem FncAt.setPub {n : Nat} {K : Ctx} {w : World} {cs : List Value} {x : Fnc} (h : FncAt n K w cs x) (b : Bool) : FncAt n K w (cs.set 0 (.bool b)) { x with pub := b } := by
 obtain ⟨v2, v3, ts, v8, rfl, h0, h1, h2, h3, h4⟩ := h
 exact ⟨v2, v3, ts, v8, rfl, h0, h1, h2, h3, h4⟩
end Go.Proofs.YtldbbkheemnnhaaGreatDoor

namespace Go.Proofs.YtldbbkheemnnhaaGreatDoor
open Go.RowKit
structure Grw {α : Type} (z t : Nat) (P : List Value -> α -> Prop) (Wb wr : World) (g : Nat) (R : Value -> List Value) (v : Value) (l : List α) : Prop where
 st : Stay (fun k => k = g) Wb wr
 row : Row wr g 69 (R v)
 rw : Rws z t P Wb.heap.size wr v l
 lt : g < Wb.heap.size
theorem Grw.past {α : Type} {z t : Nat} {P : List Value -> α -> Prop} {Wb wr wr' : World} {g : Nat} {R : Value -> List Value} {v : Value} {l : List α} (h : Grw z t P Wb wr g R v l) (hb : Below wr.heap.size wr wr') : Grw z t P Wb wr' g R v l :=
 ⟨h.st.trans (Stay.of_below hb), h.row.below hb h.row.lt, h.rw.past hb, h.lt⟩
theorem Grw.put {α : Type} {z t : Nat} {P : List Value -> α -> Prop} {Wb wr w6 : World} {g : Nat} {R : Value -> List Value} {v v' : Value} {l l' : List α} (h : Grw z t P Wb wr g R v l) (j : Nat) (hR : (R v).set j v' = R v') (hr : Rws z t P Wb.heap.size w6 v' l') (hb : Below Wb.heap.size wr w6) : Grw z t P Wb (w6.setCell ⟨g, j, none⟩ v') g R v' l' := by
 have hs : Stay (fun k => k = g) w6 (w6.setCell ⟨g, j, none⟩ v') := Stay.set (X := fun k => k = g) (Stay.refl _ _) (fun _ => rfl) _ _
 have hlt := h.lt
 refine ⟨⟨hb.os.trans h.st.os, hb.tape.trans h.st.tape, hb.output.trans h.st.output, Nat.le_trans h.st.size (Nat.le_trans hb.size hs.size), fun k hk hn => ?_⟩, ?_, hr.stay hs (fun k e => by omega), h.lt⟩
 ·rw [hs.block k (Nat.lt_of_lt_of_le hk (Nat.le_trans h.st.size hb.size)) hn, hb.block k hk]
  exact h.st.block k hk hn
 ·have := (h.row.below hb h.lt).set j v'
  rw [hR] at this
  exact this
theorem Grw.first {α : Type} {z t : Nat} {P : List Value -> α -> Prop} {Wb : World} {g : Nat} {R : Value -> List Value} (hr : Row Wb g 69 (R (.slice none 0 0))) : Grw z t P Wb Wb g R (.slice none 0 0) ([] : List α) :=
 ⟨Stay.refl _ _, hr, Rws.nil, hr.lt⟩
end Go.Proofs.YtldbbkheemnnhaaGreatDoor

namespace Go.Proofs.YtldbbkheemnnhaaGreatDoor
open Go.RowKit
section
variable {P : Program} {ops : Array Oper} {Q : Exit -> Act -> World -> Prop} {md : Region.Mode} {S : World -> Prop} {n : Nat}
def wpAnyL (P : Program) (md : Region.Mode) (ops : Array Oper) (Q : Exit -> Act -> World -> Prop) (S : World -> Prop) (n : Nat) : Nat -> Array Bool -> Act -> World -> Prop
 | 0, l, a, w => Region.ready md ops l = [] /\ Q .normal a w
 | f + 1, l, a, w => (Region.ready md ops l = [] -> Q .normal a w) /\ ∀ i ∈ Region.ready md ops l, wpOp P ops Q i (fun a' w' => (i ≠ n -> S w') /\ wpAnyL P md ops Q S n f (l.setIfInBounds i true) a' w') a w
theorem wpAny_ofL (f : Nat) : ∀ (l : Array Bool) (a : Act) (w : World), wpAnyL P md ops Q S n f l a w -> wpAny P md ops Q f l a w := by
 induction f with
 | zero => exact fun l a w h => h
 | succ f ih => exact fun l a w h => ⟨h.1, fun i hi => wpOp_mono (fun a' w' h' => ih _ _ _ h'.2) (h.2 i hi)⟩
def waits (md : Region.Mode) (ops : Array Oper) (n i : Nat) : Bool := match ops[n]? with
 | some o => o.after.toList.any fun e => Region.binds md e && e.on == i
 | none => true
theorem not_ready {l : Array Bool} {i : Nat} (hw : waits md ops n i = true) (hi : i ∈ Region.ready md ops l) : n ∉ Region.ready md ops l := by
 intro hn
 obtain ⟨_, o, ho, hall⟩ := mem_ready.1 hn
 unfold waits at hw
 rw [ho] at hw
 obtain ⟨e, he, hb⟩ := List.any_eq_true.1 hw
 rw [Bool.and_eq_true] at hb
 have h1 := hall e (by simpa using he) hb.1
 have h0 := (mem_ready.1 hi).1
 rw [beq_iff_eq.1 hb.2] at h1
 rcases Nat.lt_or_ge i l.size with h | h
 ·simp [h] at h0 h1; rw [h0] at h1; cases h1
 ·simp [Array.getElem?_eq_none h] at h1
theorem firstL {i : Nat} {oi : Oper} {v : Value} (hi : ops[i]? = some oi) (hne : i ≠ n) (hw : waits md ops n i = true) (hsel : ∀ (j : Nat) (o : Oper) cs b, ops[j]? = some o -> o.op ≠ .select cs b)
  (hQ : ∀ c a w, Q (.panic c) (a.put oi.dst v) w -> Q (.panic c) a w) (f : Nat) :
  ∀ (l : Array Bool) (a : Act) (w : World),
   (∀ j oj, ops[j]? = some oj -> j ≠ i -> l.getD j true = false -> (∀ e ∈ oj.after, Region.binds md e = true -> e.on ≠ i) -> oi.apart ops oj = true) ->
   i ∈ Region.ready md ops l -> YieldsIf P ops S oi v a -> S w ->
   wpAnyL P md ops Q S n f (l.setIfInBounds i true) (a.put oi.dst v) w -> wpAnyL P md ops Q S n (f + 1) l a w := by
 induction f with
 | zero =>
  intro l a w _ hr hy hS H
  refine ⟨fun h => (by rw [h] at hr; cases hr), fun j hj => ?_⟩
  by_cases hji : j = i
  ·subst hji
   exact hy.wpOp hi hS ⟨fun _ => hS, H⟩
  ·have h0 := ready_mono hj hji
   rw [H.1] at h0
   cases h0
 | succ f ih =>
  intro l a w hfree hr hy hS H
  refine ⟨fun h => (by rw [h] at hr; cases hr), fun j hj => ?_⟩
  by_cases hji : j = i
  ·subst hji
   exact hy.wpOp hi hS ⟨fun _ => hS, H⟩
  ·have hjn : j ≠ n := fun e => not_ready hw hr (e ▸ hj)
   obtain ⟨hjl, oj, hoj, hall⟩ := mem_ready.1 hj
   have hapart : oi.apart ops oj = true := by
    refine hfree j oj hoj hji hjl (fun e he hb heq => ?_)
    have h1 := hall e he hb
    have h0 := (mem_ready.1 hr).1
    rw [heq] at h1
    rcases Nat.lt_or_ge i l.size with h' | h'
    ·simp [h'] at h0 h1; rw [h0] at h1; cases h1
    ·simp [Array.getElem?_eq_none h'] at h1
   have hput := wpOp_putIf hoj hapart (fun cs b => hsel i oi cs b hi) (fun cs b => hsel j oj cs b hoj) hQ hy (H.2 j (ready_mono hj hji))
   refine wpOp_mono (fun a' w' h3 => ⟨fun _ => h3.2.1 hjn, ih (l.setIfInBounds j true) a' w' (fun k ok hk hki hun hno => hfree k ok hk hki ?_ hno) (ready_mono hr (Ne.symm hji)) h3.1 (h3.2.1 hjn) ?_⟩) hput
   ·by_cases hjk : j = k
    ·subst hjk; exact hjl
    ·rw [getD_set_ne true hjk] at hun; exact hun
   ·rw [Array.setIfInBounds_comm _ _ hji]
    exact h3.2.2
theorem takeL (i : Nat) {oi : Oper} {v : Value} {f : Nat} {l : Array Bool} {a : Act} {w : World} (hi : ops[i]? = some oi) (d : Option Tmp) (hd : oi.dst = d) (hne : i ≠ n) (hw : waits md ops n i = true)
  (hs : Region.noSelect ops = true) (hf : Region.free md ops l i = true) (hr : (Region.ready md ops l).contains i = true)
  (hQ : ∀ c a w, Q (.panic c) (a.put d v) w -> Q (.panic c) a w) (hy : YieldsIf P ops S oi v a) (hS : S w)
  (h : wpAnyL P md ops Q S n f (l.setIfInBounds i true) (a.put d v) w) : wpAnyL P md ops Q S n (f + 1) l a w := by
 subst hd
 exact firstL hi hne hw (Region.noSelect_spec hs) hQ f l a w (Region.free_spec hi hf) (by simpa using hr) hy hS h
def ReadyL (P : Program) (md : Region.Mode) (ops : Array Oper) (Q : Exit -> Act -> World -> Prop) (S : World -> Prop) (n f : Nat) (l : Array Bool) (a : Act) (w : World) (rs : List Nat) : Prop :=
 ∀ i ∈ rs, wpOp P ops Q i (fun a' w' => (i ≠ n -> S w') /\ wpAnyL P md ops Q S n f (l.setIfInBounds i true) a' w') a w
theorem ReadyL.nil {f : Nat} {l : Array Bool} {a : Act} {w : World} : ReadyL P md ops Q S n f l a w [] := fun _ h => by cases h
theorem ReadyL.cons {f : Nat} {l : Array Bool} {a : Act} {w : World} {i : Nat} {o : Oper} {rs : List Nat} (ho : ops[i]? = some o)
  (h : ∀ K' : Act -> World -> Prop, Shut (∀ a w, (i ≠ n -> S w) -> ((i ≠ n -> S w) -> wpAnyL P md ops Q S n f (l.setIfInBounds i true) a w) -> K' a w) -> if Region.wanted o (yielded ops a.tmps) = true then Oper.wp P o a w K' Q else K' (a.put o.dst undef) w)
  (hs : ReadyL P md ops Q S n f l a w rs) : ReadyL P md ops Q S n f l a w (i :: rs) := fun j hj => by
 rcases List.mem_cons.1 hj with rfl | hj
 ·exact wpOp_step ho (fun K' hK => h K' (fun a w hS hW => hK a w ⟨hS, hW hS⟩))
 ·exact hs j hj
theorem readyL {rs : List Nat} {f : Nat} {l : Array Bool} {a : Act} {w : World} (hr : Region.ready md ops l = rs) (hne : rs ≠ []) (h : ReadyL P md ops Q S n f l a w rs) : wpAnyL P md ops Q S n (f + 1) l a w :=
 ⟨fun h0 => absurd (hr ▸ h0) hne, hr ▸ h⟩
theorem doneL {l : Array Bool} {a : Act} {w : World} (hr : Region.ready md ops l = []) (h : Q .normal a w) : ∀ f, wpAnyL P md ops Q S n f l a w
 | 0 => ⟨hr, h⟩
 | _ + 1 => ⟨fun _ => h, by rw [hr]; simp⟩
theorem beginL {id : Nat} {a : Act} {w : World} (S : World -> Prop) (n : Nat) (hm : P.follows .mixedOrders = true) (hS : S w.drew) (h : S w.drew -> wpAnyL P .any ops Q S n ops.size (Array.replicate ops.size false) a w.drew) : (Code.region id ops true).wp P Q a w :=
 wp_region_any hm (wpAny_ofL _ _ _ _ (h hS))
end
end Go.Proofs.YtldbbkheemnnhaaGreatDoor

namespace Go.Proofs.YtldbbkheemnnhaaGreatDoor
open Go.RowKit
theorem wantR {c p q : Prop} [Decidable c] (hc : c) (h : p) : if c then p else q := by rw [if_pos hc]; exact h
end Go.Proofs.YtldbbkheemnnhaaGreatDoor
