/-
  Values that become their own.
-/
import Derived.Test.YtmopffaocamieaaGreatJapOws2
namespace Go.Proofs.YtmopffaocamieaaGreat
open Go.RowKit
theorem kinOpr : Kin (α := Opr) 4 OprAt OprQ := ⟨fun h => h.one, fun h hb => h.below hb, fun h hk => h.mono hk⟩

set_option maxHeartbeats 8000000 in
theorem ownOprs_of (E : OwnC 158 4 (α := Opr) OprAt OprQ (fun x => x)) : OwnL 185 158 4 56 (α := Opr) OprAt OprQ (fun x => x) := by
  intro K w g t A R v l o hr hA ha hg
  generalize hM : l.map (fun x => x) = M
  have hlt := hr.lt
  have hbz : l.length * 56 ≤ 140737488355328 := by obtain ⟨_, _, _, _, h, _⟩ := ha.shape; exact h
  obtain ⟨ao, cap, css, rfl, c1, c2, c3, c4, c5⟩ := ha.rows (fun _ _ h => (kinOpr).one (w := w) h)
  have cv : w.cell? ⟨g, o, none⟩ = some (.slice ao l.length cap) := by rw [hr.cell o, ← hA]; simp
  have zv : w.frozen? ⟨g, o, none⟩ = false := hr.fz o
  have HST : Hid (∀ (w1 : World) (u : Value), Stay (fun k => k = g) w w1 → Row w1 g t (A ++ (.slice ao l.length cap :: R)) → Row (w1.setCell ⟨g, o, none⟩ u) g t (A ++ (u :: R)) ∧ Stay (fun k => k = g) w (w1.setCell ⟨g, o, none⟩ u) ∧ (w1.setCell ⟨g, o, none⟩ u).cell? ⟨g, o, none⟩ = some u ∧ (w1.setCell ⟨g, o, none⟩ u).heap.size = w1.heap.size) := by
    intro w1 u hs hr1
    have h1 := hr1.set o u
    have e1 : (A ++ (Value.slice ao l.length cap :: R)).set o u = A ++ (u :: R) := by rw [← hA]; simp
    rw [e1] at h1
    refine ⟨h1, Stay.set (X := fun k => k = g) hs (fun _ => rfl) _ _, by rw [h1.cell o, ← hA]; simp, by simp [World.setCell]⟩
  rcases Nat.eq_zero_or_pos l.length with h0 | h0
  · have hl0 : l = [] := List.length_eq_zero_iff.1 h0
    subst hl0
    obtain ⟨k1, k2, k3, _⟩ := HST.out w (.slice none 0 0) (Stay.refl _ _) hr
    have K1 : Hid (OutL 4 56 OprQ M K.B w g t A R (w.setCell ⟨g, o, none⟩ (.slice none 0 0))) := by rw [← hM]; exact ⟨_, k2, k1, nil_arQ⟩
    clear HST hr ha E c1 c2 c3 c4 c5 hg hlt k1 k2 hbz h0
    clear hM
    simp only [List.length_nil] at cv
    go_enter Tryz.func185, Tryz.ntmps185
    go_wp2_with (at_builtin; refine app_zero rfl (.const (.slice none 0 0)) (.tmp 8) 110 109 4 56 (.agg oprCells.toArray) rfl rfl Tryz.underlying110 (by kernel_rfl) rfl (by decide) ao cap rfl ?_)
    go_loopw [15] (fun i wr => i = .int .i64 0 ∧ wr = w.setCell ⟨g, o, none⟩ (.slice none 0 0)) (fun _ _ => 0)
    case atStart => exact ⟨rfl, rfl⟩
    case round =>
      obtain ⟨rfl, rfl⟩ := hrel
      go_wp2_with fail
      go_end0
      exact ⟨rfl, K1.out⟩
  · have HH : Hid (0 < l.length ∧ css.length = l.length ∧ (∀ c ∈ css, c.length = 4) ∧ (∀ u ∈ css.flatten, u.oneCell' = true) ∧ (l.length = 0 ∨ ∃ b o, ao = some ⟨b, o, none⟩ ∧ ∀ j u, css.flatten[j]? = some u → w.cell? ⟨b, o + j, none⟩ = some u) ∧ l.length ≤ 4611686018427387904 ∧ l.length * 56 ≤ 140737488355328) := by
      refine ⟨h0, c1, c2, c4, ?_, by omega, hbz⟩
      rcases c5 with h | h
      · subst h; cases h0
      · exact .inr h
    have hl9 : l.length ≤ 9223372036854775807 := by omega
    have AFT : Hid (∀ (w1 : World) (g1 cp : Nat) (sp : List Value), l.length ≤ cp → w.heap.size ≤ g1 → Row w1 g1 109 (css.flatten ++ sp) → Below w.heap.size w w1 → w1.cell? ⟨g, o, none⟩ = some (.slice ao l.length cap) ∧ w1.frozen? ⟨g, o, none⟩ = false ∧ (w1.setCell ⟨g, o, none⟩ (.slice (some ⟨g1, 0, none⟩) l.length cp)).cell? ⟨g, o, none⟩ = some (.slice (some ⟨g1, 0, none⟩) l.length cp) ∧
        Inv OprQ (fun x => x) K.B 4 l css sp A R (.slice (some ⟨g1, 0, none⟩) l.length cp) w w1 g g1 t 109 0 (w1.setCell ⟨g, o, none⟩ (.slice (some ⟨g1, 0, none⟩) l.length cp)) ∧
        (∀ k wr, Inv OprQ (fun x => x) K.B 4 l css sp A R (.slice (some ⟨g1, 0, none⟩) l.length cp) w w1 g g1 t 109 k wr → k < l.length → ∀ off, off = k * 4 → Calls Tryz.prog 158 #[.pointer (some ⟨g1, off, none⟩)] wr fun ev w2 => ev = .returned (.tuple #[]) ∧ Inv OprQ (fun x => x) K.B 4 l css sp A R (.slice (some ⟨g1, 0, none⟩) l.length cp) w w1 g g1 t 109 (k + 1) w2) ∧
        (∀ k wr, Inv OprQ (fun x => x) K.B 4 l css sp A R (.slice (some ⟨g1, 0, none⟩) l.length cp) w w1 g g1 t 109 k wr → wr.cell? ⟨g, o, none⟩ = some (.slice (some ⟨g1, 0, none⟩) l.length cp)) ∧
        (∀ wr, Inv OprQ (fun x => x) K.B 4 l css sp A R (.slice (some ⟨g1, 0, none⟩) l.length cp) w w1 g g1 t 109 l.length wr → OutL 4 56 OprQ M K.B w g t A R wr)) := by
      intro w1 g1 cp sp hcp hg1 hR1 hB
      have hr1 := hr.below hB hlt
      have hsz1 := hB.size
      have hg1' := hR1.lt
      obtain ⟨k1, k2, k3, k4⟩ := HST.out w1 (.slice (some ⟨g1, 0, none⟩) l.length cp) (Stay.of_below hB) hr1
      refine ⟨by rw [hr1.cell o, ← hA]; simp, hr1.fz o, k3, ⟨[], rfl, fun c h => absurd h (by simp), k1, ?_, k2, by omega, fun j h => absurd h (by simp)⟩, ?_, ?_, ?_⟩
      · simpa using hR1.other (g' := g) (j := o) (by omega) (.slice (some ⟨g1, 0, none⟩) l.length cp)
      · intro k wr hi hk off ho
        exact Inv.call (P := OprAt) (PQ := OprQ) (F := (fun x => x)) E (kinOpr) hi hg hlt hg1 hg1' c1 c3 hk off ho
      · intro k wr hi
        obtain ⟨_, _, _, d3, _⟩ := hi.ex
        rw [d3.cell o, ← hA]; simp
      · intro wr hi
        rw [← hM]
        exact hi.done (kinOpr) hg1 hg1' hsz1 hcp hbz
    clear HST hr ha E c1 c2 c3 c4 c5 hg hlt hbz h0 hM
    go_enter Tryz.func185, Tryz.ntmps185
    go_wp2_with (at_builtin; refine app_some rfl (.const (.slice none 0 0)) (.tmp 8) 110 109 4 56 (.agg oprCells.toArray) rfl rfl Tryz.underlying110 (by kernel_rfl) rfl (by decide) ao l.length cap css rfl HH.out ?_; intro g1 cp sp w1 hcp hg1 hR1 hB1; obtain ⟨q1, q2, q3, I0, CL, CE, DN⟩ := AFT.out w1 g1 cp sp hcp hg1 hR1 hB1; replace I0 := hidO I0; replace CL := hidO CL; replace CE := hidO CE; replace DN := hidO DN; clear hR1 hB1 hg1 hcp)
    go_loopw [15] (fun i wr => ∃ k : Nat, k ≤ l.length ∧ i = .int .i64 k ∧ Inv OprQ (fun x => x) K.B 4 l css sp A R (.slice (some ⟨g1, 0, none⟩) l.length cp) w w1 g g1 t 109 k wr) (fun i _ => l.length - (intOf i).toNat)
    case atStart => exact ⟨0, by omega, rfl, I0.out⟩
    case round =>
      obtain ⟨k, hk, rfl, hi⟩ := hrel
      have ce := CE.out k wr hi
      by_cases h3 : k < l.length
      · have i1 : (k : Int) < (l.length : Int) := by omega
        have D := hidO (fun off ho => CL.out k wr hi h3 off ho)
        clear hi I0 CL CE DN q1 q2 q3 cv zv AFT HH
        go_wp2_with fail
        refine (D.out _ (by omega)).mono ?_
        rintro _ w2 ⟨rfl, i2⟩
        replace i2 := hidO i2
        clear ce D
        go_wp2_with fail
        go_roundw
        case rel => exact ⟨k + 1, by omega, by go_num, i2.out⟩
        case measure => simp [intOf]; omega
      · have i1 : ¬ (k : Int) < (l.length : Int) := by omega
        obtain rfl : k = l.length := by omega
        have D := hidO (DN.out wr hi)
        clear hi I0 CL CE DN q1 q2 q3 cv zv AFT HH
        go_wp2_with fail
        go_end0
        exact ⟨rfl, D.out⟩
theorem ownOprs_any : OwnL 185 158 4 56 (α := Opr) OprAt OprQ (fun x => x) := ownOprs_of ownOper_any

set_option maxHeartbeats 8000000 in
theorem ownValue_any : OwnC 157 15 (α := Va) VaAt VaQ (fun x => x) := by
  intro K w g t A cs R x o hr hA hx hg
  have hlt := hr.lt
  obtain ⟨xa, xb, ps, vn, va, rfl, ka, kb, kp, hn, h2, h3⟩ := hx
  have l1 := ka.len
  have l2 := kb.len
  have l3 := kp.len
  have S0 : Hid (Stay (fun k => k = g) w w ∧ Row w g t (A ++ ((Value.int .i64 x.kind :: (xa ++ ((xb ++ ((Value.int .i64 x.op :: (ps ++ ((Value.string (str x.name) :: (vn :: [va])))))))))) ++ R))) := ⟨Stay.refl _ _, hr⟩
  have T0 : Hid (∀ y, (Stay (fun k => k = g) w y ∧ Row y g t (A ++ ((Value.int .i64 x.kind :: (xa ++ ((xb ++ ((Value.int .i64 x.op :: (ps ++ ((Value.string (str x.name) :: (vn :: [va])))))))))) ++ R))) → Calls Tryz.prog 158 #[.pointer (some ⟨g, o + 1, none⟩)] y fun ev w' => ev = .returned (.tuple #[]) ∧ (∃ (c0 : List Value), Stay (fun k => k = g) w w' ∧ Row w' g t (A ++ ((Value.int .i64 x.kind :: (c0 ++ ((xb ++ ((Value.int .i64 x.op :: (ps ++ ((Value.string (str x.name) :: (vn :: [va])))))))))) ++ R)) ∧ c0.length = 4 ∧ OprQ (Fr w w') K.B w' c0 x.a)) := by
    rintro y ⟨hs, hrow⟩
    have hrw : Row y g t ((A ++ [Value.int .i64 x.kind]) ++ (xa ++ ((xb ++ ((Value.int .i64 x.op :: (ps ++ ((Value.string (str x.name) :: (vn :: [va]))))))) ++ R))) := by simpa only [List.append_assoc, List.cons_append, List.nil_append] using hrow
    have hb : Below K.C w y := hs.below (by omega) (fun q hq => by omega)
    have hsy := hs.size
    refine (ownOper_any (K := K) hrw (by simp <;> omega) (ka.below hb) (by omega)).mono ?_
    rintro _ w' ⟨rfl, c0, hc, s1, r1, q1⟩
    have hk2 : Kp (Fr y w') (Fr w w') w' w' := Kp.fr' hsy
    exact ⟨rfl, c0, hs.trans s1, by simpa only [List.append_assoc, List.cons_append, List.nil_append] using r1, hc, OprQ.mono q1 hk2⟩
  have T1 : Hid (∀ y, (∃ (c0 : List Value), Stay (fun k => k = g) w y ∧ Row y g t (A ++ ((Value.int .i64 x.kind :: (c0 ++ ((xb ++ ((Value.int .i64 x.op :: (ps ++ ((Value.string (str x.name) :: (vn :: [va])))))))))) ++ R)) ∧ c0.length = 4 ∧ OprQ (Fr w y) K.B y c0 x.a) → Calls Tryz.prog 158 #[.pointer (some ⟨g, o + 5, none⟩)] y fun ev w' => ev = .returned (.tuple #[]) ∧ (∃ (c0 : List Value) (c1 : List Value), Stay (fun k => k = g) w w' ∧ Row w' g t (A ++ ((Value.int .i64 x.kind :: (c0 ++ ((c1 ++ ((Value.int .i64 x.op :: (ps ++ ((Value.string (str x.name) :: (vn :: [va])))))))))) ++ R)) ∧ c0.length = 4 ∧ OprQ (Fr w w') K.B w' c0 x.a ∧ c1.length = 4 ∧ OprQ (Fr w w') K.B w' c1 x.b)) := by
    rintro y ⟨c0, hs, hrow, f0, f1⟩
    have hrw : Row y g t ((A ++ (Value.int .i64 x.kind :: c0)) ++ (xb ++ ((Value.int .i64 x.op :: (ps ++ ((Value.string (str x.name) :: (vn :: [va]))))) ++ R))) := by simpa only [List.append_assoc, List.cons_append, List.nil_append] using hrow
    have hb : Below K.C w y := hs.below (by omega) (fun q hq => by omega)
    have hsy := hs.size
    refine (ownOper_any (K := K) hrw (by simp <;> omega) (kb.below hb) (by omega)).mono ?_
    rintro _ w' ⟨rfl, c1, hc, s1, r1, q1⟩
    have hk : Kp (Fr w y) (Fr w w') y w' := Kp.fr s1 hlt (Nat.le_refl _)
    have hk2 : Kp (Fr y w') (Fr w w') w' w' := Kp.fr' hsy
    exact ⟨rfl, c0, c1, hs.trans s1, by simpa only [List.append_assoc, List.cons_append, List.nil_append] using r1, f0, OprQ.mono f1 hk, hc, OprQ.mono q1 hk2⟩
  have T2 : Hid (∀ y, (∃ (c0 : List Value) (c1 : List Value), Stay (fun k => k = g) w y ∧ Row y g t (A ++ ((Value.int .i64 x.kind :: (c0 ++ ((c1 ++ ((Value.int .i64 x.op :: (ps ++ ((Value.string (str x.name) :: (vn :: [va])))))))))) ++ R)) ∧ c0.length = 4 ∧ OprQ (Fr w y) K.B y c0 x.a ∧ c1.length = 4 ∧ OprQ (Fr w y) K.B y c1 x.b) → Calls Tryz.prog 156 #[.pointer (some ⟨g, o + 10, none⟩)] y fun ev w' => ev = .returned (.tuple #[]) ∧ (∃ (c0 : List Value) (c1 : List Value) (c2 : List Value), Stay (fun k => k = g) w w' ∧ Row w' g t (A ++ ((Value.int .i64 x.kind :: (c0 ++ ((c1 ++ ((Value.int .i64 x.op :: (c2 ++ ((Value.string (str x.name) :: (vn :: [va])))))))))) ++ R)) ∧ c0.length = 4 ∧ OprQ (Fr w w') K.B w' c0 x.a ∧ c1.length = 4 ∧ OprQ (Fr w w') K.B w' c1 x.b ∧ c2.length = 2 ∧ PlQ (Fr w w') K.B w' c2 x.place)) := by
    rintro y ⟨c0, c1, hs, hrow, f0, f1, f2, f3⟩
    have hrw : Row y g t ((A ++ (Value.int .i64 x.kind :: (c0 ++ ((c1 ++ ([Value.int .i64 x.op])))))) ++ (ps ++ ((Value.string (str x.name) :: (vn :: [va])) ++ R))) := by simpa only [List.append_assoc, List.cons_append, List.nil_append] using hrow
    have hb : Below K.C w y := hs.below (by omega) (fun q hq => by omega)
    have hsy := hs.size
    refine (ownPlace_any (K := K) hrw (by simp <;> omega) (kp.below hb) (by omega)).mono ?_
    rintro _ w' ⟨rfl, c2, hc, s1, r1, q1⟩
    have hk : Kp (Fr w y) (Fr w w') y w' := Kp.fr s1 hlt (Nat.le_refl _)
    have hk2 : Kp (Fr y w') (Fr w w') w' w' := Kp.fr' hsy
    exact ⟨rfl, c0, c1, c2, hs.trans s1, by simpa only [List.append_assoc, List.cons_append, List.nil_append] using r1, f0, OprQ.mono f1 hk, f2, OprQ.mono f3 hk, hc, PlQ.mono q1 hk2⟩
  have T3 : Hid (∀ y, (∃ (c0 : List Value) (c1 : List Value) (c2 : List Value), Stay (fun k => k = g) w y ∧ Row y g t (A ++ ((Value.int .i64 x.kind :: (c0 ++ ((c1 ++ ((Value.int .i64 x.op :: (c2 ++ ((Value.string (str x.name) :: (vn :: [va])))))))))) ++ R)) ∧ c0.length = 4 ∧ OprQ (Fr w y) K.B y c0 x.a ∧ c1.length = 4 ∧ OprQ (Fr w y) K.B y c1 x.b ∧ c2.length = 2 ∧ PlQ (Fr w y) K.B y c2 x.place) → Calls Tryz.prog 101 #[.pointer (some ⟨g, o + 12, none⟩)] y fun ev w' => ev = .returned (.tuple #[]) ∧ (∃ (c0 : List Value) (c1 : List Value) (c2 : List Value), Stay (fun k => k = g) w w' ∧ Row w' g t (A ++ ((Value.int .i64 x.kind :: (c0 ++ ((c1 ++ ((Value.int .i64 x.op :: (c2 ++ ((Value.string (str x.name) :: (vn :: [va])))))))))) ++ R)) ∧ c0.length = 4 ∧ OprQ (Fr w w') K.B w' c0 x.a ∧ c1.length = 4 ∧ OprQ (Fr w w') K.B w' c1 x.b ∧ c2.length = 2 ∧ PlQ (Fr w w') K.B w' c2 x.place)) := by
    rintro y ⟨c0, c1, c2, hs, hrow, f0, f1, f2, f3, f4, f5⟩
    have hrw : Row y g t ((A ++ (Value.int .i64 x.kind :: (c0 ++ ((c1 ++ ((Value.int .i64 x.op :: c2))))))) ++ ([Value.string (str x.name)] ++ ((vn :: [va]) ++ R))) := by simpa only [List.append_assoc, List.cons_append, List.nil_append] using hrow
    have hb : Below K.C w y := hs.below (by omega) (fun q hq => by omega)
    have hsy := hs.size
    refine (ownText_any (K := K) hrw (by simp <;> omega) (x := x.name) ⟨rfl, hn⟩ (by omega)).mono ?_
    rintro _ w' ⟨rfl, c, hc, s1, r1, q1⟩
    obtain rfl := q1.1
    have hk : Kp (Fr w y) (Fr w w') y w' := Kp.fr s1 hlt (Nat.le_refl _)
    exact ⟨rfl, c0, c1, c2, hs.trans s1, by simpa only [List.append_assoc, List.cons_append, List.nil_append] using r1, f0, OprQ.mono f1 hk, f2, OprQ.mono f3 hk, f4, PlQ.mono f5 hk⟩
  have T4 : Hid (∀ y, (∃ (c0 : List Value) (c1 : List Value) (c2 : List Value), Stay (fun k => k = g) w y ∧ Row y g t (A ++ ((Value.int .i64 x.kind :: (c0 ++ ((c1 ++ ((Value.int .i64 x.op :: (c2 ++ ((Value.string (str x.name) :: (vn :: [va])))))))))) ++ R)) ∧ c0.length = 4 ∧ OprQ (Fr w y) K.B y c0 x.a ∧ c1.length = 4 ∧ OprQ (Fr w y) K.B y c1 x.b ∧ c2.length = 2 ∧ PlQ (Fr w y) K.B y c2 x.place) → Calls Tryz.prog 102 #[.pointer (some ⟨g, o + 13, none⟩), .func (.func 101) #[] #[]] y fun ev w' => ev = .returned (.tuple #[]) ∧ (∃ (c0 : List Value) (c1 : List Value) (c2 : List Value) (v4 : Value), Stay (fun k => k = g) w w' ∧ Row w' g t (A ++ ((Value.int .i64 x.kind :: (c0 ++ ((c1 ++ ((Value.int .i64 x.op :: (c2 ++ ((Value.string (str x.name) :: (v4 :: [va])))))))))) ++ R)) ∧ c0.length = 4 ∧ OprQ (Fr w w') K.B w' c0 x.a ∧ c1.length = 4 ∧ OprQ (Fr w w') K.B w' c1 x.b ∧ c2.length = 2 ∧ PlQ (Fr w w') K.B w' c2 x.place ∧ StrQ (Fr w w') K.B w' v4 x.names)) := by
    rintro y ⟨c0, c1, c2, hs, hrow, f0, f1, f2, f3, f4, f5⟩
    have hrw : Row y g t ((A ++ (Value.int .i64 x.kind :: (c0 ++ ((c1 ++ ((Value.int .i64 x.op :: (c2 ++ ([Value.string (str x.name)]))))))))) ++ (vn :: ([va] ++ R))) := by simpa only [List.append_assoc, List.cons_append, List.nil_append] using hrow
    have hb : Below K.C w y := hs.below (by omega) (fun q hq => by omega)
    have hsy := hs.size
    refine (ownStrs_any (K := K) hrw (by simp <;> omega) (h2.below hb) (by omega)).mono ?_
    rintro _ w' ⟨rfl, v4, s1, r1, q1⟩
    have hk : Kp (Fr w y) (Fr w w') y w' := Kp.fr s1 hlt (Nat.le_refl _)
    have hk2 : Kp (Fr y w') (Fr w w') w' w' := Kp.fr' hsy
    exact ⟨rfl, c0, c1, c2, v4, hs.trans s1, by simpa only [List.append_assoc, List.cons_append, List.nil_append] using r1, f0, OprQ.mono f1 hk, f2, OprQ.mono f3 hk, f4, PlQ.mono f5 hk, (by have h2 := StrQ.mono (l := _) (by rw [List.map_id'] at q1; exact q1) hk2; exact h2)⟩
  have T5 : Hid (∀ y, (∃ (c0 : List Value) (c1 : List Value) (c2 : List Value) (v4 : Value), Stay (fun k => k = g) w y ∧ Row y g t (A ++ ((Value.int .i64 x.kind :: (c0 ++ ((c1 ++ ((Value.int .i64 x.op :: (c2 ++ ((Value.string (str x.name) :: (v4 :: [va])))))))))) ++ R)) ∧ c0.length = 4 ∧ OprQ (Fr w y) K.B y c0 x.a ∧ c1.length = 4 ∧ OprQ (Fr w y) K.B y c1 x.b ∧ c2.length = 2 ∧ PlQ (Fr w y) K.B y c2 x.place ∧ StrQ (Fr w y) K.B y v4 x.names) → Calls Tryz.prog 185 #[.pointer (some ⟨g, o + 14, none⟩), .func (.func 158) #[] #[]] y fun ev w' => ev = .returned (.tuple #[]) ∧ (∃ (c0 : List Value) (c1 : List Value) (c2 : List Value) (v4 : Value) (v5 : Value), Stay (fun k => k = g) w w' ∧ Row w' g t (A ++ ((Value.int .i64 x.kind :: (c0 ++ ((c1 ++ ((Value.int .i64 x.op :: (c2 ++ ((Value.string (str x.name) :: (v4 :: [v5])))))))))) ++ R)) ∧ c0.length = 4 ∧ OprQ (Fr w w') K.B w' c0 x.a ∧ c1.length = 4 ∧ OprQ (Fr w w') K.B w' c1 x.b ∧ c2.length = 2 ∧ PlQ (Fr w w') K.B w' c2 x.place ∧ StrQ (Fr w w') K.B w' v4 x.names ∧ ArQ 4 56 (OprQ (Fr w w') K.B w') (Fr w w') w' v5 x.args)) := by
    rintro y ⟨c0, c1, c2, v4, hs, hrow, f0, f1, f2, f3, f4, f5, f6⟩
    have hrw : Row y g t ((A ++ (Value.int .i64 x.kind :: (c0 ++ ((c1 ++ ((Value.int .i64 x.op :: (c2 ++ ((Value.string (str x.name) :: [v4])))))))))) ++ (va :: ([] ++ R))) := by simpa only [List.append_assoc, List.cons_append, List.nil_append] using hrow
    have hb : Below K.C w y := hs.below (by omega) (fun q hq => by omega)
    have hsy := hs.size
    refine (ownOprs_any (K := K) hrw (by simp <;> omega) (h3.mono hb fun _ _ _ h => h.below hb) (by omega)).mono ?_
    rintro _ w' ⟨rfl, v5, s1, r1, q1⟩
    have hk : Kp (Fr w y) (Fr w w') y w' := Kp.fr s1 hlt (Nat.le_refl _)
    have hk2 : Kp (Fr y w') (Fr w w') w' w' := Kp.fr' hsy
    exact ⟨rfl, c0, c1, c2, v4, v5, hs.trans s1, by simpa only [List.append_assoc, List.cons_append, List.nil_append] using r1, f0, OprQ.mono f1 hk, f2, OprQ.mono f3 hk, f4, PlQ.mono f5 hk, StrQ.mono f6 hk, ArQ.mono (P := (OprQ (Fr y w') K.B w')) (by rw [List.map_id'] at q1; exact q1) hk2 (fun _ _ _ h => h.mono hk2)⟩
  have TF : Hid (∀ y, (∃ (c0 : List Value) (c1 : List Value) (c2 : List Value) (v4 : Value) (v5 : Value), Stay (fun k => k = g) w y ∧ Row y g t (A ++ ((Value.int .i64 x.kind :: (c0 ++ ((c1 ++ ((Value.int .i64 x.op :: (c2 ++ ((Value.string (str x.name) :: (v4 :: [v5])))))))))) ++ R)) ∧ c0.length = 4 ∧ OprQ (Fr w y) K.B y c0 x.a ∧ c1.length = 4 ∧ OprQ (Fr w y) K.B y c1 x.b ∧ c2.length = 2 ∧ PlQ (Fr w y) K.B y c2 x.place ∧ StrQ (Fr w y) K.B y v4 x.names ∧ ArQ 4 56 (OprQ (Fr w y) K.B y) (Fr w y) y v5 x.args) → OutC 15 VaQ ((fun x => x) x) K.B w g t A R y) := by
    rintro y ⟨c0, c1, c2, v4, v5, hs, hrow, f0, f1, f2, f3, f4, f5, f6, f7⟩
    exact ⟨(Value.int .i64 x.kind :: (c0 ++ ((c1 ++ ((Value.int .i64 x.op :: (c2 ++ ((Value.string (str x.name) :: (v4 :: [v5])))))))))), by simp <;> omega, hs, hrow, ⟨c0, c1, c2, v4, v5, rfl, f1, f3, f5, hn, f6, f7⟩⟩
  simp only at TF ⊢
  clear hr hlt ka kb kp h2 h3 hn hg l1 l2 l3
  go_enter Tryz.func157, Tryz.ntmps157
  go_wp2_with fail
  refine (T0.out _ S0.out).mono ?_
  rintro _ w1 ⟨rfl, h1⟩
  replace h1 := hidO h1
  clear T0 S0
  go_wp2_with fail
  refine (T1.out _ h1.out).mono ?_
  rintro _ w2 ⟨rfl, h2⟩
  replace h2 := hidO h2
  clear T1 h1
  go_wp2_with fail
  refine (T2.out _ h2.out).mono ?_
  rintro _ w3 ⟨rfl, h3⟩
  replace h3 := hidO h3
  clear T2 h2
  go_wp2_with fail
  refine (T3.out _ h3.out).mono ?_
  rintro _ w4 ⟨rfl, h4⟩
  replace h4 := hidO h4
  clear T3 h3
  go_wp2_with fail
  refine (T4.out _ h4.out).mono ?_
  rintro _ w5 ⟨rfl, h5⟩
  replace h5 := hidO h5
  clear T4 h4
  go_wp2_with fail
  refine (T5.out _ h5.out).mono ?_
  rintro _ w6 ⟨rfl, h6⟩
  replace h6 := hidO h6
  clear T5 h5
  go_wp2_with fail
  go_end0
  exact ⟨rfl, TF.out _ h6.out⟩
end Go.Proofs.YtmopffaocamieaaGreat
