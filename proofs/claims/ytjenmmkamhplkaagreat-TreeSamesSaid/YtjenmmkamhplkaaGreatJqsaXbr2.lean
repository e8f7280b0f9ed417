/-
  The texts Xbr, Xbg, joined.
-/
import Derived.Test.YtjenmmkamhplkaaGreatJqsaSmc6
import Derived.Test.YtjenmmkamhplkaaGreatJqsaMfd3
/- Statements without their places, as the document makes them. -/
namespace Go.Proofs.YtjenmmkamhplkaaGreat
open Go.RowKit
structure Inb (n : Nat) (K : Ctx) (l : List St) (w : World) (k : Nat) (v : Value) (wr : World) : Prop where
  below : Below w.heap.size w wr
  ex : ∃ dn : List (List Value), dn.length = k /\ (∀ c ∈ dn, c.length = 32) /\ wr.ownsRow w.heap.size 49 32 v k dn.flatten /\ ∀ j (h : j < dn.length) (h' : j < l.length), StQ n (Qx K w wr v) K.B wr dn[j] (bareS n l[j])
theorem Inb.form {n : Nat} {K : Ctx} {l : List St} {w : World} {k : Nat} {v : Value} {wr : World} (h : Inb n K l w k v wr) : ∃ ao cap, v = .slice ao k cap := by
  obtain ⟨dn, d1, d2, d3, d4⟩ := h.ex
  rcases d3.2 with ⟨e, rfl⟩ | ⟨g, cap, cur, e, _⟩
  . exact ⟨_, _, e⟩
  . exact ⟨_, _, e⟩
theorem Inb.done {n : Nat} {K : Ctx} {l : List St} {w : World} {v : Value} {wr : World} (h : Inb n K l w l.length v wr) (hb : l.length * 496 <= 140737488355328) : ArQ 32 496 (StQ n (QK K w wr) K.B wr) (QK K w wr) wr v (l.map (bareS n)) := by
  obtain ⟨dn, d1, d2, d3, d4⟩ := h.ex
  have hk : Kp (Qx K w wr v) (QK K w wr) wr wr := ⟨fun b hb => by rcases hb with hb | ⟨h1, h2, _⟩; exact .inl hb; exact .inr ⟨h1, h2⟩, fun _ _ => rfl⟩
  rcases d3.2 with ⟨rfl, h0⟩ | ⟨g, cap, cur, rfl, hg, hh, hcp, _, hsz, htk⟩
  . have : l = [] := List.length_eq_zero_iff.1 h0
    subst this
    exact nil_arQ
  . have hR : Row wr g 49 cur.toList := ⟨by simpa using hh⟩
    refine ⟨some ⟨g, 0, none⟩, cap, by rw [List.length_map], by rw [List.length_map]; exact hcp, by rw [List.length_map]; exact hb, fun i hi => ?_⟩
    rw [List.length_map] at hi
    have hid : i < dn.length := by omega
    have h1 : (i + 1) * 32 <= l.length * 32 := Nat.mul_le_mul_right 32 hi
    refine ⟨g, 0, rfl, .inr ⟨hg, hR.lt⟩, dn[i], d2 _ (List.getElem_mem hid), fun j hj => ?_, ?_⟩
    . rw [Nat.zero_add, hR.cell, ← flat_get d2 i hid j hj, ← htk, List.getElem?_take_of_lt (by omega)]
    . rw [List.getElem_map]
      exact (d4 i hid hi).mono hk
theorem Inb.step {n : Nat} {K : Ctx} {l : List St} {w : World} {k : Nat} {v : Value} {wr W W' : World} (hbel : Below w.heap.size w wr) (dn : List (List Value)) (d1 : dn.length = k) (d2 : ∀ c ∈ dn, c.length = 32) (d3 : wr.ownsRow w.heap.size 49 32 v k dn.flatten)
    (d4 : ∀ j (h : j < dn.length) (h' : j < l.length), StQ n (Qx K w wr v) K.B wr dn[j] (bareS n l[j])) (hC : K.C <= w.heap.size) (hW : Below wr.heap.size wr W) {g' cp : Nat} {cs : List Value} (hc : cs.length = 32) (hk : k < l.length)
    (hq : StQ n (Qx K w W v) K.B W cs (bareS n l[k])) (how : W'.ownsRow w.heap.size 49 32 (.slice (some ⟨g', 0, none⟩) (k + 1) cp) (k + 1) (dn.flatten ++ cs))
    (hg : W.grownBy W' v.ownBlock) (hg' : some g' = v.ownBlock ∨ g' = W.heap.size) : Inb n K l w (k + 1) (.slice (some ⟨g', 0, none⟩) (k + 1) cp) W' := by
  have hz := hbel.size
  have hz2 := hW.size
  have hv : ∀ g, v.ownBlock = some g -> w.heap.size <= g := fun g e => (d3.lt g e).1
  have hv' : (Value.slice (some ⟨g', 0, none⟩) (k + 1) cp).ownBlock = v.ownBlock ∨ (Value.slice (some ⟨g', 0, none⟩) (k + 1) cp).ownBlock = some W.heap.size := by
    rcases hg' with e | e
    . exact .inl e
    . subst e; exact .inr rfl
  have k1 : Kp (Qx K w wr v) (Qx K w W v) wr W := Kp.below hC hz hW
  have k2 : Kp (Qx K w W v) (Qx K w W' (.slice (some ⟨g', 0, none⟩) (k + 1) cp)) W W' := Kp.grown hC (by omega) hg hv hv'
  refine ⟨hbel.trans ((below_le hW hz).trans (below_grownO hg (by omega) hv)), dn ++ [cs], by simp [d1], ?_, ?_, ?_⟩
  . intro c hc'
    rcases List.mem_append.1 hc' with hc' | hc'
    . exact d2 c hc'
    . simp at hc'; subst hc'; exact hc
  . rw [List.flatten_append]
    simpa using how
  . intro j hj hj'
    rcases Nat.lt_or_ge j dn.length with hlt | hge
    . rw [List.getElem_append_left hlt]
      exact ((d4 j hlt hj').mono k1).mono k2
    . obtain rfl : j = k := by simp at hj; omega
      rw [List.getElem_append_right hge]
      simp only [d1, Nat.sub_self, List.getElem_cons_zero]
      exact hq.mono k2
def pre30 (x : St) (p : Int) (ts ps vs os : List Value) : List Value := .int .i64 x.kind :: .int .i64 p :: .bool x.mu :: .string (str x.name) :: (ts ++ (.bool x.has :: (ps ++ (vs ++ os))))
theorem pre30_eq (x : St) (p : Int) (ts ps vs os : List Value) (vt ve : Value) : pre30 x p ts ps vs os ++ [vt, ve] = .int .i64 x.kind :: .int .i64 p :: .bool x.mu :: .string (str x.name) :: (ts ++ (.bool x.has :: (ps ++ (vs ++ (os ++ [vt, ve]))))) := by
  simp [pre30]
theorem row_at30 {w : World} {g t : Nat} {A : List Value} {vt ve : Value} (hr : Row w g t (A ++ [vt, ve])) (hA : A.length = 30) : w.cell? ⟨g, 30, none⟩ = some vt /\ w.cell? ⟨g, 31, none⟩ = some ve := by
  refine ⟨?_, ?_⟩
  . rw [hr.cell, List.getElem?_append_right (by omega), hA]; rfl
  . rw [hr.cell, List.getElem?_append_right (by omega), hA]; rfl
theorem row_set30 {w : World} {g t : Nat} {A : List Value} {vt ve : Value} (hr : Row w g t (A ++ [vt, ve])) (hA : A.length = 30) (u : Value) : Row (w.setCell ⟨g, 30, none⟩ u) g t (A ++ [u, ve]) := by
  have h := hr.set 30 u
  rw [List.set_append_right _ _ (by omega), hA] at h
  exact h
theorem row_set31 {w : World} {g t : Nat} {A : List Value} {vt ve : Value} (hr : Row w g t (A ++ [vt, ve])) (hA : A.length = 30) (u : Value) : Row (w.setCell ⟨g, 31, none⟩ u) g t (A ++ [vt, u]) := by
  have h := hr.set 31 u
  rw [List.set_append_right _ _ (by omega), hA] at h
  exact h
theorem stay_one {w : World} {g j : Nat} {u : Value} : Stay (fun k => k = g) w (w.setCell ⟨g, j, none⟩ u) := Stay.set (X := fun k => k = g) (Stay.refl _ _) (fun _ => rfl) _ _
def OutB (n : Nat) (K : Ctx) (l : List St) (w : World) (ev : Ending) (w' : World) : Prop :=
  ∃ ao cap, ev = .returned (.slice ao l.length cap) /\ Below w.heap.size w w' /\ ArQ 32 496 (StQ n (QK K w w') K.B w') (QK K w w') w' (.slice ao l.length cap) (l.map (bareS n))
def XB (n : Nat) : Prop := ∀ {K : Ctx} {w : World}, K.C <= w.heap.size -> ∀ {v : Value} {l : List St}, Ar 32 496 (StAt n K w) K w v l -> Calls Tryz.prog 40 #[v] w fun ev w' => OutB n K l w ev w'
set_option maxHeartbeats 8000000 in
set_option maxRecDepth 20000 in
theorem xbare_of {n : Nat} (ih : ∀ m, n = m + 1 -> XB m) : XB n := by
  intro K w hC v l ha
  obtain ⟨ao, cap, rfl, hc, hbz, hA⟩ := ha.shape
  have hl9 : l.length <= 9223372036854775807 := by omega
  have HA : Hid (∀ i (h : i < l.length) (y : World), Below K.C w y -> ∃ b o, ao = some ⟨b, o, none⟩ /\ ∃ cs, cs.length = 32 /\ y.rangeAt b (o + i * 32) cs /\ StAt n K y cs l[i]) := by
    intro i h y hy
    obtain ⟨b, o, e, hbC, cs, hl, hcs, hx⟩ := hA i h
    refine ⟨b, o, e, cs, hl, fun j u hj => ?_, hx.below hy⟩
    have hj' : j < 32 := by rw [← hl]; exact (List.getElem?_eq_some_iff.1 hj).1
    rw [hy.cell (p := ⟨b, o + i * 32 + j, none⟩) hbC, hcs j hj']
    exact hj
  have HC : Hid (K.C <= w.heap.size) := hC
  have HBZ : Hid (l.length * 496 <= 140737488355328) := hbz
  have IH : Hid (∀ m, n = m + 1 -> XB m) := ih
  have I0 : Hid (Inb n K l w 0 (.slice none 0 0) w) := ⟨Below.refl _ _, [], rfl, fun c h => absurd h (by simp), World.ownsRow_nil _ _ _ _, fun j h => absurd h (by simp)⟩
  clear hA ha hbz hC ih
  go_enter Tryz.func40, Tryz.ntmps40
  go_wp2_with fail
  go_loopw [3, 4] (fun v i wr => ∃ k : Nat, k <= l.length /\ i = .int .i64 k /\ Inb n K l w k v wr) (fun _ i _ => l.length - (intOf i).toNat)
  case atStart => exact ⟨0, by omega, rfl, I0.out⟩
  case round =>
    obtain ⟨k, hk, rfl, hi⟩ := hrel
    obtain ⟨av, cv, ev⟩ := hi.form
    subst ev
    clear I0
    by_cases h3 : k < l.length
    rotate_left
    . have i1 : ¬ (k : Int) < (l.length : Int) := by omega
      obtain rfl : k = l.length := by omega
      have D : Hid (∀ e, e = Ending.returned (.slice av l.length cv) -> OutB n K l w e wr) := fun e he => ⟨av, cv, he, hi.below, hi.done HBZ.out⟩
      clear hi HA IH
      go_wp2_with fail
      go_ret
      exact D.out _ rfl
    have i1 : (k : Int) < (l.length : Int) := by omega
    have hbel := hi.below
    obtain ⟨dn, d1, d2, d3, d4⟩ := hi.ex
    have hKr : Below K.C w wr := below_le hbel HC.out
    have hzr := hbel.size
    obtain ⟨b, o, e, cs, hl, hr, hx⟩ := HA.out k h3 wr hKr
    subst e
    cases n with
    | zero => exact hx.elim
    | succ m =>
    have h1 : Hid (cs.toArray.all (·.oneCell') = true) := one_mem hx.one
    have hxx := hx
    obtain ⟨ts, ps, vs, os, vt, ve, ecs, hn, kt, kp, kv, ko, h6, h7⟩ := hx
    have hlen : ∀ p : Int, (pre30 l[k] p ts ps vs os).length = 30 := by intro p; simp [pre30, kt.len, kp.len, kv.len, ko.len]
    obtain ⟨a6, c6, e6⟩ := h6.form
    obtain ⟨a7, c7, e7⟩ := h7.form
    have hi49 : Hid ((Tryz.prog.info? 49).map (·.size) = some cs.length) := by show _ = _; rw [hl]; kernel_rfl
    have hi49' : Hid ((Tryz.prog.info? 49).map (·.size) = some cs.toArray.size) := by show _ = _; rw [List.size_toArray]; exact hi49.out
    have hl' : Hid (32 = cs.toArray.size) := by show _ = _; rw [List.size_toArray]; exact hl.symm
    have hR : Hid (wr.rangeAt b (o + k * 32) cs) := hr
    have P1 : Hid (∀ w1, Row w1 wr.heap.size 49 cs -> Below wr.heap.size wr w1 -> w1.cell? ⟨wr.heap.size, 1, none⟩ = some (.int .i64 (l[k]).pos) /\ w1.frozen? ⟨wr.heap.size, 1, none⟩ = false /\ (w1.setCell ⟨wr.heap.size, 1, none⟩ (.int .i64 0)).cell? ⟨wr.heap.size, 30, none⟩ = some (.slice a6 (l[k]).thn.length c6) /\
        Calls Tryz.prog 40 #[.slice a6 (l[k]).thn.length c6] (w1.setCell ⟨wr.heap.size, 1, none⟩ (.int .i64 0)) fun ev w2 => ∃ ao cap, ev = .returned (.slice ao (l[k]).thn.length cap) /\ Row w2 wr.heap.size 49 (pre30 l[k] 0 ts ps vs os ++ [.slice a6 (l[k]).thn.length c6, .slice a7 (l[k]).els.length c7]) /\ Below wr.heap.size wr w2 /\
          ∃ W1 : World, wr.heap.size < W1.heap.size /\ W1.heap.size <= w2.heap.size /\ ArQ 32 496 (StQ m (QK K W1 w2) K.B w2) (QK K W1 w2) w2 (.slice ao (l[k]).thn.length cap) ((l[k]).thn.map (bareS m))) := by
      intro w1 r1 hb1
      have hz1 := r1.lt
      rw [ecs, e6, e7] at r1
      have r1' : Row w1 wr.heap.size 49 (pre30 l[k] (l[k]).pos ts ps vs os ++ [.slice a6 (l[k]).thn.length c6, .slice a7 (l[k]).els.length c7]) := by rw [pre30_eq]; exact r1
      have r2 : Row (w1.setCell ⟨wr.heap.size, 1, none⟩ (.int .i64 0)) wr.heap.size 49 (pre30 l[k] 0 ts ps vs os ++ [.slice a6 (l[k]).thn.length c6, .slice a7 (l[k]).els.length c7]) := by rw [pre30_eq]; exact r1.set 1 (.int .i64 0)
      have s2 : Stay (fun q => q = wr.heap.size) w1 (w1.setCell ⟨wr.heap.size, 1, none⟩ (.int .i64 0)) := stay_one
      have z2 := s2.size
      have hbW : Below wr.heap.size wr (w1.setCell ⟨wr.heap.size, 1, none⟩ (.int .i64 0)) := hb1.trans (s2.below (by omega) (fun q hq => by omega))
      have hKW : Below K.C wr (w1.setCell ⟨wr.heap.size, 1, none⟩ (.int .i64 0)) := below_le hbW (by have := HC.out; omega)
      refine ⟨r1.cell 1, r1.fz 1, (row_at30 r2 (hlen 0)).1, ?_⟩
      rw [e6] at h6
      refine (IH.out m rfl (K := K) (by have := HC.out; omega) (h6.mono hKW fun _ _ _ h => h.below hKW)).mono ?_
      rintro ev w2 ⟨a, c, rfl, hb2, hq⟩
      exact ⟨a, c, rfl, r2.below hb2 r2.lt, hbW.trans (below_le hb2 (by omega)), _, r2.lt, hb2.size, hq⟩
    have P2 : Hid (∀ w2 a c, Row w2 wr.heap.size 49 (pre30 l[k] 0 ts ps vs os ++ [.slice a6 (l[k]).thn.length c6, .slice a7 (l[k]).els.length c7]) -> Below wr.heap.size wr w2 ->
        w2.cell? ⟨wr.heap.size, 30, none⟩ = some (.slice a6 (l[k]).thn.length c6) /\ w2.frozen? ⟨wr.heap.size, 30, none⟩ = false /\ (w2.setCell ⟨wr.heap.size, 30, none⟩ (.slice a (l[k]).thn.length c)).cell? ⟨wr.heap.size, 31, none⟩ = some (.slice a7 (l[k]).els.length c7) /\
        Calls Tryz.prog 40 #[.slice a7 (l[k]).els.length c7] (w2.setCell ⟨wr.heap.size, 30, none⟩ (.slice a (l[k]).thn.length c)) fun ev w3 => ∃ ao cap, ev = .returned (.slice ao (l[k]).els.length cap) /\ Row w3 wr.heap.size 49 (pre30 l[k] 0 ts ps vs os ++ [.slice a (l[k]).thn.length c, .slice a7 (l[k]).els.length c7]) /\ Below wr.heap.size wr w3 /\ Stay (fun q => q = wr.heap.size) w2 w3 /\
          ∃ W2 : World, wr.heap.size < W2.heap.size /\ W2.heap.size <= w3.heap.size /\ ArQ 32 496 (StQ m (QK K W2 w3) K.B w3) (QK K W2 w3) w3 (.slice ao (l[k]).els.length cap) ((l[k]).els.map (bareS m))) := by
      intro w2 a c r2 hb2
      have hz2 := r2.lt
      have r3 := row_set30 r2 (hlen 0) (.slice a (l[k]).thn.length c)
      have s3 : Stay (fun q => q = wr.heap.size) w2 (w2.setCell ⟨wr.heap.size, 30, none⟩ (.slice a (l[k]).thn.length c)) := stay_one
      have z3 := s3.size
      have hbW : Below wr.heap.size wr (w2.setCell ⟨wr.heap.size, 30, none⟩ (.slice a (l[k]).thn.length c)) := hb2.trans (s3.below (by omega) (fun q hq => by omega))
      have hKW : Below K.C wr (w2.setCell ⟨wr.heap.size, 30, none⟩ (.slice a (l[k]).thn.length c)) := below_le hbW (by have := HC.out; omega)
      refine ⟨(row_at30 r2 (hlen 0)).1, r2.fz 30, (row_at30 r3 (hlen 0)).2, ?_⟩
      rw [e7] at h7
      refine (IH.out m rfl (K := K) (by have := HC.out; omega) (h7.mono hKW fun _ _ _ h => h.below hKW)).mono ?_
      rintro ev w3 ⟨a', c', rfl, hb3, hq⟩
      exact ⟨a', c', rfl, r3.below hb3 r3.lt, hbW.trans (below_le hb3 (by omega)), s3.trans (Stay.of_below hb3), _, r3.lt, hb3.size, hq⟩
    have P3 : Hid (∀ (w2 w3 : World) a c a' c', Row w3 wr.heap.size 49 (pre30 l[k] 0 ts ps vs os ++ [.slice a (l[k]).thn.length c, .slice a7 (l[k]).els.length c7]) -> Below wr.heap.size wr w3 -> Stay (fun q => q = wr.heap.size) w2 w3 ->
        (∃ W1 : World, wr.heap.size < W1.heap.size /\ W1.heap.size <= w2.heap.size /\ ArQ 32 496 (StQ m (QK K W1 w2) K.B w2) (QK K W1 w2) w2 (.slice a (l[k]).thn.length c) ((l[k]).thn.map (bareS m))) ->
        (∃ W2 : World, wr.heap.size < W2.heap.size /\ W2.heap.size <= w3.heap.size /\ ArQ 32 496 (StQ m (QK K W2 w3) K.B w3) (QK K W2 w3) w3 (.slice a' (l[k]).els.length c') ((l[k]).els.map (bareS m))) ->
        w3.cell? ⟨wr.heap.size, 31, none⟩ = some (.slice a7 (l[k]).els.length c7) /\ w3.frozen? ⟨wr.heap.size, 31, none⟩ = false /\
        ∃ cs2 : List Value, cs2.length = 32 /\ (w3.setCell ⟨wr.heap.size, 31, none⟩ (.slice a' (l[k]).els.length c')).rangeAt wr.heap.size 0 cs2 /\ (Tryz.prog.info? 49).map (·.size) = some cs2.length /\
          (∀ w5, Row w5 (w3.setCell ⟨wr.heap.size, 31, none⟩ (.slice a' (l[k]).els.length c')).heap.size 49 cs2 -> Below (w3.setCell ⟨wr.heap.size, 31, none⟩ (.slice a' (l[k]).els.length c')).heap.size (w3.setCell ⟨wr.heap.size, 31, none⟩ (.slice a' (l[k]).els.length c')) w5 ->
            (w5.ownsRow w.heap.size 49 32 (.slice av k cv) k dn.flatten /\ w.heap.size <= w5.heap.size /\ Row w5 (w3.setCell ⟨wr.heap.size, 31, none⟩ (.slice a' (l[k]).els.length c')).heap.size 49 cs2 /\ cs2.length = 32 /\ (∀ u ∈ cs2, u.oneCell' = true) /\ k <= 4611686018427387903 /\ (k + 1) * 496 <= 140737488355328) /\
            ∀ g' cp w', w'.ownsRow w.heap.size 49 32 (.slice (some ⟨g', 0, none⟩) (k + 1) cp) (k + 1) (dn.flatten ++ cs2) -> w5.grownBy w' (Value.slice av k cv).ownBlock -> (some g' = (Value.slice av k cv).ownBlock ∨ g' = w5.heap.size) -> Inb (m + 1) K l w (k + 1) (.slice (some ⟨g', 0, none⟩) (k + 1) cp) w')) := by
      intro w2 w3 a c a' c' r3 hb3 s23 ⟨W1, hW1, hW1', q1⟩ ⟨W2, hW2, hW2', q2⟩
      have hz3 := r3.lt
      have hCC := HC.out
      have hBB := HBZ.out
      have r4 := row_set31 r3 (hlen 0) (.slice a' (l[k]).els.length c')
      have s4 : Stay (fun q => q = wr.heap.size) w3 (w3.setCell ⟨wr.heap.size, 31, none⟩ (.slice a' (l[k]).els.length c')) := stay_one
      have z4 := s4.size
      have z23 := s23.size
      have hl2 : (pre30 l[k] 0 ts ps vs os ++ [Value.slice a (l[k]).thn.length c, .slice a' (l[k]).els.length c']).length = 32 := by rw [List.length_append, hlen 0]; rfl
      have hb4 : Below wr.heap.size wr (w3.setCell ⟨wr.heap.size, 31, none⟩ (.slice a' (l[k]).els.length c')) := hb3.trans (s4.below (by omega) (fun q hq => by omega))
      refine ⟨(row_at30 r3 (hlen 0)).2, r3.fz 31, _, hl2, r4.range, by rw [hl2]; kernel_rfl, ?_⟩
      generalize (w3.setCell ⟨wr.heap.size, 31, none⟩ (.slice a' (l[k]).els.length c')) = w4 at *
      intro w5 r5 hb5
      have z5 := r5.lt
      have hb45 : Below wr.heap.size wr w5 := hb4.trans (below_le hb5 (by omega))
      have s35 : Stay (fun q => q = wr.heap.size) w3 w5 := s4.trans (Stay.of_below hb5)
      have s25 : Stay (fun q => q = wr.heap.size) w2 w5 := s23.trans s35
      have hK5 : Below K.C wr w5 := below_le hb45 (by omega)
      have ones : ∀ u ∈ pre30 l[k] 0 ts ps vs os ++ [Value.slice a (l[k]).thn.length c, .slice a' (l[k]).els.length c'], u.oneCell' = true := by
        rw [pre30_eq]
        exact ones_cons rfl (ones_cons rfl (ones_cons rfl (ones_cons rfl (ones_app kt.one (ones_cons rfl (ones_app kp.one (ones_app kv.one (ones_app ko.one (ones_cons rfl (ones_cons rfl ones_nil))))))))))
      refine ⟨⟨own_past' d3 hb45, by omega, r5, hl2, ones, by omega, by omega⟩, ?_⟩
      intro g' cp w' how hg hg'
      have hvb : ∀ g, (Value.slice av k cv).ownBlock = some g -> g < wr.heap.size := fun g e => (d3.lt g e).2
      have kk : ∀ (X Y : World), wr.heap.size < X.heap.size -> Y.heap.size <= w5.heap.size -> Stay (fun q => q = wr.heap.size) Y w5 -> K.C <= Y.heap.size -> Kp (QK K X Y) (Qx K w w5 (.slice av k cv)) Y w5 := by
        intro X Y hX hY hs hKY
        refine ⟨fun q hq => ?_, fun q hq => ?_⟩
        . rcases hq with hq | ⟨hq1, hq2⟩
          . exact .inl hq
          . refine .inr ⟨by omega, by omega, fun e => ?_⟩
            have := hvb q e
            omega
        . rcases hq with hq | ⟨hq1, hq2⟩
          . exact hs.block q (by omega) (by omega)
          . exact hs.block q hq2 (by omega)
      have k1 := kk W1 w2 hW1 (by omega) s25 (by omega)
      have k2 := kk W2 w3 hW2 (by omega) s35 (by omega)
      refine Inb.step hbel dn d1 d2 d3 d4 hCC hb45 hl2 h3 ?_ how hg hg'
      have toQ : ∀ q, q < K.C -> Qx K w w5 (.slice av k cv) q := fun q hq => .inl hq
      refine ⟨ts, ps, vs, os, _, _, pre30_eq _ _ _ _ _ _ _ _, hn, (kt.below hK5).toQ toQ, (kp.below hK5).toQ toQ, (kv.below hK5).toQ toQ, (ko.below hK5).toQ toQ, ?_, ?_⟩
      . have := q1.mono k1 fun _ _ _ h => h.mono k1
        exact this
      . have := q2.mono k2 fun _ _ _ h => h.mono k2
        exact this
    subst e6 e7
    clear hi hbel d1 d2 d3 d4 hKr hzr hl hr hxx ecs hn kt kp kv ko h6 h7 hlen HA IH
    generalize (l[k]).thn.length = n6 at *
    generalize (l[k]).els.length = n7 at *
    go_wp2_with (first | (refine wpList_load_mid rfl 49 (.tmp 14) rfl b (o + k * 32) rfl cs _ hR.out Tryz.underlying49 rfl hi49.out ?_) | (refine store_newL rfl 49 (.tmp 5) (.tmp 15) rfl cs _ 49 rfl rfl hi49'.out hl'.out h1.out ?_; intro w1 r1 hb1; obtain ⟨q1, q2, q3, D1⟩ := P1.out w1 r1 hb1; replace D1 := hidO D1; clear r1 hb1))
    refine D1.out.mono ?_
    rintro _ w2 ⟨a, c, rfl, r2, hb2, hq1⟩
    obtain ⟨t1, t2, t3, D2⟩ := P2.out w2 a c r2 hb2
    replace D2 := hidO D2
    have HQ1 := hidO hq1
    clear r2 hb2 hq1 D1 q1 q2 q3 P2 P1
    go_wp2_with fail
    refine D2.out.mono ?_
    rintro _ w3 ⟨a', c', rfl, r3, hb3, s23, hq2⟩
    obtain ⟨y1, y2, cs2, l2, rg, hif, AF⟩ := P3.out w2 w3 a c a' c' r3 hb3 s23 HQ1.out hq2
    replace rg := hidO rg
    replace hif := hidO hif
    replace AF := hidO AF
    replace l2 := hidO l2
    clear r3 hb3 s23 hq2 HQ1 D2 t1 t2 t3 P3
    go_wp2_with (first | (refine wpList_load_mid rfl 49 (.tmp 5) rfl wr.heap.size 0 rfl cs2 _ rg.out Tryz.underlying49 rfl hif.out ?_) | (refine bsliceL rfl 38 49 32 496 _ (.tmp 26) rfl Tryz.underlying38 Tryz.info49z (by decide) (by decide) cs2 l2.out rfl ?_; intro w5 r5 hb5 hz5; obtain ⟨hh, FIN⟩ := AF.out w5 r5 hb5; replace hh := hidO hh; replace FIN := hidO FIN; clear r5 hb5) | (at_builtin; refine app_one rfl (.tmp 25) (.tmp 27) 38 49 32 496 (.agg (stCells 0 0).toArray) rfl Tryz.underlying38 Tryz.info49z rfl (by decide) (.slice av k cv) rfl _ rfl w.heap.size k _ cs2 hh.out ?_; intro g' cp w6 how hg hg'; have HI := hidO (FIN.out g' cp w6 how hg hg'); clear how hg hg' FIN hh))
    go_roundw
    case rel => exact ⟨k + 1, by omega, by go_num, HI.out⟩
    case measure => simp [intOf]; omega
theorem xbare_any : ∀ n : Nat, XB n
  | 0 => xbare_of (fun m h => by cases h)
  | n + 1 => xbare_of (fun m h => Nat.succ.inj h ▸ xbare_any n)

/- A row that grows by one thing a round, its header in a variable: the bookkeeping. -/
structure InG {α : Type} (z el : Nat) (PQ : (Nat -> Prop) -> Nat -> World -> List Value -> α -> Prop) (F : α -> α) (K : Ctx) (l : List α) (base : World) (g2 k : Nat) (v : Value) (wr : World) : Prop where
  stay : Stay (fun q => q = g2) base wr
  ex : ∃ dn : List (List Value), dn.length = k /\ (∀ c ∈ dn, c.length = z) /\ wr.ownsRow base.heap.size el z v k dn.flatten /\ ∀ j (h : j < dn.length) (h' : j < l.length), PQ (Qx K base wr v) K.B wr dn[j] (F l[j])
section
variable {α : Type} {z el bz : Nat} {P : Ctx -> World -> List Value -> α -> Prop} {PQ : (Nat -> Prop) -> Nat -> World -> List Value -> α -> Prop} {F : α -> α} {K : Ctx} {l : List α} {base wr : World} {g2 k : Nat} {v : Value}
theorem InG.form (h : InG z el PQ F K l base g2 k v wr) : ∃ ao cap, v = .slice ao k cap := by
  obtain ⟨dn, d1, d2, d3, d4⟩ := h.ex
  rcases d3.2 with ⟨e, rfl⟩ | ⟨g, cap, cur, e, _⟩
  . exact ⟨_, _, e⟩
  . exact ⟨_, _, e⟩
theorem InG.start (base : World) (g2 : Nat) : InG z el PQ F K l base g2 0 (.slice none 0 0) base :=
  ⟨Stay.refl _ _, [], rfl, fun c h => absurd h (by simp), World.ownsRow_nil _ _ _ _, fun j h => absurd h (by simp)⟩
theorem InG.done (kin : Kin z P PQ) (h : InG z el PQ F K l base g2 l.length v wr) (hb : l.length * bz <= 140737488355328) : ArQ z bz (PQ (QK K base wr) K.B wr) (QK K base wr) wr v (l.map F) := by
  obtain ⟨dn, d1, d2, d3, d4⟩ := h.ex
  have hk : Kp (Qx K base wr v) (QK K base wr) wr wr := ⟨fun b hb => by rcases hb with hb | ⟨h1, h2, _⟩; exact .inl hb; exact .inr ⟨h1, h2⟩, fun _ _ => rfl⟩
  rcases d3.2 with ⟨rfl, h0⟩ | ⟨g, cap, cur, rfl, hg, hh, hcp, _, hsz, htk⟩
  . have : l = [] := List.length_eq_zero_iff.1 h0
    subst this
    exact nil_arQ
  . have hR : Row wr g el cur.toList := ⟨by simpa using hh⟩
    refine ⟨some ⟨g, 0, none⟩, cap, by rw [List.length_map], by rw [List.length_map]; exact hcp, by rw [List.length_map]; exact hb, fun i hi => ?_⟩
    rw [List.length_map] at hi
    have hid : i < dn.length := by omega
    have h1 : (i + 1) * z <= l.length * z := Nat.mul_le_mul_right z hi
    rw [Nat.succ_mul] at h1
    refine ⟨g, 0, rfl, .inr ⟨hg, hR.lt⟩, dn[i], d2 _ (List.getElem_mem hid), fun j hj => ?_, ?_⟩
    . rw [Nat.zero_add, hR.cell, ← flat_get d2 i hid j hj, ← htk, List.getElem?_take_of_lt (by omega)]
    . rw [List.getElem_map]
      exact kin.mono (d4 i hid hi) hk
theorem InG.step (kin : Kin z P PQ) {W W' W2 : World} (hst : Stay (fun q => q = g2) base wr) (dn : List (List Value)) (d1 : dn.length = k) (d2 : ∀ c ∈ dn, c.length = z) (d3 : wr.ownsRow base.heap.size el z v k dn.flatten)
    (d4 : ∀ j (h : j < dn.length) (h' : j < l.length), PQ (Qx K base wr v) K.B wr dn[j] (F l[j])) (hC : K.C <= g2) (hg2 : g2 < base.heap.size) (hW : Below wr.heap.size wr W) {g' cp : Nat} {cs : List Value} (hc : cs.length = z) (hk : k < l.length)
    (hq : PQ (Qx K base W v) K.B W cs (F l[k])) (how : W'.ownsRow base.heap.size el z (.slice (some ⟨g', 0, none⟩) (k + 1) cp) (k + 1) (dn.flatten ++ cs))
    (hg : W.grownBy W' v.ownBlock) (hg' : some g' = v.ownBlock ∨ g' = W.heap.size) (hs : Stay (fun q => q = g2) W' W2) : InG z el PQ F K l base g2 (k + 1) (.slice (some ⟨g', 0, none⟩) (k + 1) cp) W2 := by
  have hz := hst.size
  have hz2 := hW.size
  have hz3 := hg.size
  have hz4 := hs.size
  have hv : ∀ g, v.ownBlock = some g -> base.heap.size <= g := fun g e => (d3.lt g e).1
  have hv' : (Value.slice (some ⟨g', 0, none⟩) (k + 1) cp).ownBlock = v.ownBlock ∨ (Value.slice (some ⟨g', 0, none⟩) (k + 1) cp).ownBlock = some W.heap.size := by
    rcases hg' with e | e
    . exact .inl e
    . subst e; exact .inr rfl
  have k1 : Kp (Qx K base wr v) (Qx K base W v) wr W := Kp.below (by omega) hz hW
  have k2 : Kp (Qx K base W v) (Qx K base W' (.slice (some ⟨g', 0, none⟩) (k + 1) cp)) W W' := Kp.grown (by omega) (by omega) hg hv hv'
  have k3 : Kp (Qx K base W' (.slice (some ⟨g', 0, none⟩) (k + 1) cp)) (Qx K base W2 (.slice (some ⟨g', 0, none⟩) (k + 1) cp)) W' W2 := by
    refine ⟨fun b hb => ?_, fun b hb => ?_⟩
    . rcases hb with hb | ⟨h1, h2, h3⟩
      . exact .inl hb
      . exact .inr ⟨h1, by omega, h3⟩
    . rcases hb with hb | ⟨h1, h2, h3⟩
      . exact hs.block b (by omega) (by omega)
      . exact hs.block b h2 (by omega)
  have hB : Below base.heap.size W W' := below_grownO hg (by omega) hv
  have hB2 : Below base.heap.size wr W := below_le hW hz
  refine ⟨⟨hs.os.trans (hB.os.trans (hB2.os.trans hst.os)), hs.tape.trans (hB.tape.trans (hB2.tape.trans hst.tape)), hs.output.trans (hB.output.trans (hB2.output.trans hst.output)), by omega, fun b hb hne => ?_⟩, dn ++ [cs], by simp [d1], ?_, ?_, ?_⟩
  . rw [hs.block b (by omega) hne, hB.block b hb, hB2.block b hb, hst.block b hb hne]
  . intro c hc'
    rcases List.mem_append.1 hc' with hc' | hc'
    . exact d2 c hc'
    . simp at hc'; subst hc'; exact hc
  . rw [List.flatten_append]
    have : W2.ownsRow base.heap.size el z (.slice (some ⟨g', 0, none⟩) (k + 1) cp) (k + 1) (dn.flatten ++ cs) := own_same' how (fun q e => hs.block q (how.lt q e).2 (by have := (how.lt q e).1; omega))
    simpa using this
  . intro j hj hj'
    rcases Nat.lt_or_ge j dn.length with hlt | hge
    . rw [List.getElem_append_left hlt]
      exact kin.mono (kin.mono (kin.mono (d4 j hlt hj') k1) k2) k3
    . obtain rfl : j = k := by simp at hj; omega
      rw [List.getElem_append_right hge]
      simp only [d1, Nat.sub_self, List.getElem_cons_zero]
      exact kin.mono (kin.mono hq k2) k3
end
theorem Tryz.info54z : (Tryz.prog.info? 54).map (fun i => (i.zero, i.size, i.bytes)) = some (some (.agg [Value.bool false, .string (str []), .slice none 0 0, .slice none 0 0, .int .i64 0].toArray), 5, 80) := by kernel_rfl
def pre8 (x : Fnc) (v2 v3 : Value) (ts : List Value) : List Value := .bool x.pub :: .string (str x.name) :: v2 :: v3 :: ts
theorem row_at8 {w : World} {g t : Nat} {A : List Value} {v8 p : Value} (hr : Row w g t (A ++ [v8, p])) (hA : A.length = 8) : w.cell? ⟨g, 8, none⟩ = some v8 /\ w.cell? ⟨g, 9, none⟩ = some p := by
  refine ⟨?_, ?_⟩
  . rw [hr.cell, List.getElem?_append_right (by omega), hA]; rfl
  . rw [hr.cell, List.getElem?_append_right (by omega), hA]; rfl
theorem row_set8 {w : World} {g t : Nat} {A : List Value} {v8 p : Value} (hr : Row w g t (A ++ [v8, p])) (hA : A.length = 8) (u : Value) : Row (w.setCell ⟨g, 8, none⟩ u) g t (A ++ [u, p]) := by
  have h := hr.set 8 u
  rw [List.set_append_right _ _ (by omega), hA] at h
  exact h
theorem row_set9 {w : World} {g t : Nat} {A : List Value} {v8 p : Value} (hr : Row w g t (A ++ [v8, p])) (hA : A.length = 8) (u : Value) : Row (w.setCell ⟨g, 9, none⟩ u) g t (A ++ [v8, u]) := by
  have h := hr.set 9 u
  rw [List.set_append_right _ _ (by omega), hA] at h
  exact h
end Go.Proofs.YtjenmmkamhplkaaGreat
