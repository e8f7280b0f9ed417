/-
  The texts Typ, Hd2, joined.
-/
import Derived.Test.YtlbhaaldndjigaaGreatDoorHed
namespace Go.Proofs.YtlbhaaldndjigaaGreatDoor
open Go.RowKit

theorem b_false {B : Bool} {P : Prop} (h : B = true ↔ P) (n : ¬ P) : B = false := by
  cases hb : B
  · rfl
  · exact absurd (h.1 hb) n
theorem liveT_ne : ∀ {l : List Bs} (h : 0 < l.length), liveT l = lifT l[0] ++ [32]
  | [], h => by simp at h
  | a :: l, _ => rfl
theorem liveT_no : ∀ {l : List Bs} (_ : ¬ 0 < l.length), liveT l = []
  | [], _ => rfl
  | a :: l, h => by simp at h
set_option maxHeartbeats 2000000 in
theorem isRef_any {w : World} {bx ox : Nat} {kd : Int} {ao : Option Addr} {m cap : Nat} (c0 : w.cell? ⟨bx, ox, none⟩ = some (.int .i64 kd)) (c3 : w.cell? ⟨bx, ox + 3, none⟩ = some (.slice ao m cap)) (B : Bool) (hB : B = true ↔ (kd = 4 ∨ kd = 5) ∧ 0 < m) :
    Calls Tryz.prog 46 #[.pointer (some ⟨bx, ox, none⟩)] w fun e w' => e = .returned (.bool B) ∧ w' = w := by
  have HB := hid0 hB
  clear hB
  by_cases h4 : kd = 4
  · have b4 : (kd == 4) = true := by rw [h4]; rfl
    by_cases hm : 0 < m
    · have hT : Hid (B = true) := HB.out.2 ⟨.inl h4, hm⟩
      clear HB h4
      have i1 : (0 : Int) < (m : Int) := by omega
      go_enter Tryz.func46, Tryz.ntmps46
      go_wp2_with fail
      go_ret
      exact ⟨by rw [hT.out]; rfl, rfl⟩
    · have hT : Hid (B = false) := b_false HB.out (fun h => hm h.2)
      clear HB h4
      obtain rfl : m = 0 := by omega
      go_enter Tryz.func46, Tryz.ntmps46
      go_wp2_with fail
      go_ret
      exact ⟨by rw [hT.out]; rfl, rfl⟩
  · have b4 : (kd == 4) = false := by simpa using h4
    by_cases h5 : kd = 5
    · have b5 : (kd == 5) = true := by rw [h5]; rfl
      by_cases hm : 0 < m
      · have hT : Hid (B = true) := HB.out.2 ⟨.inr h5, hm⟩
        clear HB h4 h5
        have i1 : (0 : Int) < (m : Int) := by omega
        go_enter Tryz.func46, Tryz.ntmps46
        go_wp2_with fail
        go_ret
        exact ⟨by rw [hT.out]; rfl, rfl⟩
      · have hT : Hid (B = false) := b_false HB.out (fun h => hm h.2)
        clear HB h4 h5
        obtain rfl : m = 0 := by omega
        go_enter Tryz.func46, Tryz.ntmps46
        go_wp2_with fail
        go_ret
        exact ⟨by rw [hT.out]; rfl, rfl⟩
    · have b5 : (kd == 5) = false := by simpa using h5
      have hT : Hid (B = false) := b_false HB.out (fun h => h.1.elim h4 h5)
      clear HB h4 h5
      go_enter Tryz.func46, Tryz.ntmps46
      go_wp2_with fail
      go_ret
      exact ⟨by rw [hT.out]; rfl, rfl⟩

/-- A type at b, o, as it is read. -/
theorem TyAt.at {m : Nat} {K : Ctx} {w : World} {cs : List Value} {t : Ty} (h : TyAt m K w cs t) {b o : Nat} (hl : Lies K w 4 b o cs) :
    ∃ a2 n2 a3 n3, w.cell? ⟨b, o, none⟩ = some (.int .i64 t.kind) ∧ w.cell? ⟨b, o + 1, none⟩ = some (.string (str t.name)) ∧ w.cell? ⟨b, o + 2, none⟩ = some (.slice a2 t.lives.length n2) ∧ w.cell? ⟨b, o + 3, none⟩ = some (.slice a3 t.elem.length n3) ∧ t.elem.length ≤ 140737488355328 ∧
      Strs K w (.slice a2 t.lives.length n2) t.lives ∧ ∃ p, m = p + 1 ∧ ∀ h : 0 < t.elem.length, ∃ b' o' cs', a3 = some ⟨b', o', none⟩ ∧ Lies K w 4 b' o' cs' ∧ TyAt p K w cs' t.elem[0] := by
  cases m with
  | zero => exact h.elim
  | succ p =>
    obtain ⟨v2, v3, rfl, h1, h2, h3⟩ := h
    obtain ⟨a2, n2, rfl, -⟩ := id h2.shape
    obtain ⟨a3, n3, rfl, hc, hb, hA⟩ := h3.shape
    refine ⟨a2, n2, a3, n3, hl.2 0 (by decide), hl.2 1 (by decide), hl.2 2 (by decide), hl.2 3 (by decide), by omega, h2, p, rfl, fun hp => ?_⟩
    obtain ⟨b', o', e, hbC, cs', hl', hcs, hx⟩ := hA 0 hp
    exact ⟨b', o', cs', e, ⟨hbC, fun j hj => by simpa using hcs j hj⟩, hx⟩

structure TRel (K : Ctx) (b : Nat) (S : Bs) (n : Int) (w : World) (T : Bs) (m : Nat) (v : Value) (wr : World) : Prop where
  here : ∃ bx ox cs t S', v = .pointer (some ⟨bx, ox, none⟩) ∧ Lies K wr 4 bx ox cs ∧ TyAt m K wr cs t ∧ Wtr K.C b S' n wr ∧ S' ++ tyT t = S ++ T
  fr : Fr K.C w wr

set_option maxHeartbeats 8000000 in
set_option maxRecDepth 20000 in
theorem typeOf_any {K : Ctx} {b bx ox m : Nat} {S : Bs} {n : Int} {w : World} {cs : List Value} {t : Ty} (hx : TyAt m K w cs t) (hl : Lies K w 4 bx ox cs) (h : Wtr K.C b S n w) (hlen : S.length + (tyT t).length ≤ 140737488355328) :
    Calls Tryz.prog 25 #[.pointer (some ⟨b, 0, none⟩), .pointer (some ⟨bx, ox, none⟩)] w fun e w' => e = .returned (.tuple #[]) ∧ Wtr K.C b (S ++ tyT t) n w' ∧ Fr K.C w w' := by
  have H0 : Hid (TRel K b S n w (tyT t) m (.pointer (some ⟨bx, ox, none⟩)) w) := ⟨⟨bx, ox, cs, t, S, rfl, hl, hx, h, rfl⟩, Fr.refl _ _⟩
  have HL := hid0 hlen
  generalize tyT t = T at *
  clear hx hl h hlen
  go_enter Tryz.func25, Tryz.ntmps25
  go_wp2_with fail
  go_loopg [1] m (fun k v wr => TRel K b S n w T k v wr)
  case atStart => exact H0.out
  case round =>
    obtain ⟨⟨b1, o1, cs1, t1, S1, rfl, hl1, hx1, hw1, he1⟩, hf1⟩ := hrel
    clear H0
    obtain ⟨a2, n2, a3, n3, c0, c1, c2, c3, hm3, hs, p, rfl, hel⟩ := hx1.at hl1
    have hlen : (S1 ++ tyT t1).length ≤ 140737488355328 := by rw [he1, List.length_append]; exact HL.out
    rw [List.length_append] at hlen
    have HF := hid0 hf1
    have HE := hid0 he1
    by_cases hk : (t1.kind = 4 ∨ t1.kind = 5) ∧ 0 < t1.elem.length
    · have I := hid0 (isRef_any c0 c3 true ⟨fun _ => hk, fun _ => rfl⟩)
      obtain ⟨b2, o2, cs2, rfl, hl2, hx2⟩ := hel hk.2
      have eT := tyT_ref hk.1 hk.2
      rw [eT] at hlen
      have HX : Hid (∀ y, Fr K.C wr y → y.cell? ⟨b1, o1, none⟩ = some (.int .i64 t1.kind) ∧ y.cell? ⟨b1, o1 + 2, none⟩ = some (.slice a2 t1.lives.length n2) ∧ y.cell? ⟨b1, o1 + 3, none⟩ = some (.slice (some ⟨b2, o2, none⟩) t1.elem.length n3)) := fun y hy =>
        ⟨(hy.below.cell (p := ⟨b1, o1, none⟩) hl1.1).trans c0, (hy.below.cell (p := ⟨b1, o1 + 2, none⟩) hl1.1).trans c2, (hy.below.cell (p := ⟨b1, o1 + 3, none⟩) hl1.1).trans c3⟩
      have D1 : Hid (Calls Tryz.prog 47 #[.pointer (some ⟨b, 0, none⟩), .slice (some ⟨wr.heap.size, 0, none⟩) 1 1] (wr.alloc (.cells #[.string (str [38])] 9)) fun e w' => e = .returned (.tuple #[]) ∧ Wtr K.C b (S1 ++ ([38] : Bs)) n w' ∧ Fr K.C wr w') := put1 hw1 [38] (by simp only [List.length_append, List.length_cons, List.length_nil] at hlen ⊢; omega)
      have D3 : Hid (∀ y, Wtr K.C b (S1 ++ ([38] : Bs) ++ liveT t1.lives) n y → Calls Tryz.prog 49 #[.pointer (some ⟨b, 0, none⟩), .bool (t1.kind == 5), .string (str [109, 117, 116, 32])] y fun e w' => e = .returned (.tuple #[]) ∧ Wtr K.C b (S1 ++ ([38] : Bs) ++ liveT t1.lives ++ if (t1.kind == 5) = true then ([109, 117, 116, 32] : Bs) else []) n w' ∧ Fr K.C y w') := by
        intro y hy
        refine putIf_any hy _ _ ?_
        have e5 : (if (t1.kind == 5) = true then ([109, 117, 116, 32] : Bs) else []) = if t1.kind = 5 then ([109, 117, 116, 32] : Bs) else [] := by simp
        rw [e5]
        simp only [List.length_append, List.length_cons, List.length_nil] at hlen ⊢; omega
      have HN : Hid (∀ y, Fr K.C wr y → Wtr K.C b (S1 ++ ([38] : Bs) ++ liveT t1.lives ++ if (t1.kind == 5) = true then ([109, 117, 116, 32] : Bs) else []) n y → TRel K b S n w T p (.pointer (some ⟨b2, o2, none⟩)) y) := by
        intro y hy hw
        refine ⟨⟨b2, o2, cs2, t1.elem[0], _, rfl, hl2.below hy.below, hx2.below hy.below, hw, ?_⟩, HF.out.trans hy⟩
        have e5 : (if (t1.kind == 5) = true then ([109, 117, 116, 32] : Bs) else []) = if t1.kind = 5 then ([109, 117, 116, 32] : Bs) else [] := by simp
        rw [← HE.out, eT, e5]
        simp only [List.append_assoc]
      have i3 : 0 < t1.elem.length := hk.2
      by_cases h2 : 0 < t1.lives.length
      · obtain ⟨ao, cap, ea, hc, hb, hA⟩ := hs.at
        cases ea
        obtain ⟨bb, o, rfl, hbC, hcell⟩ := hA 0 h2
        have eL := liveT_ne h2
        rw [eL] at D3 HN hlen
        have HY : Hid (∀ y, Fr K.C wr y → y.cell? ⟨bb, o, none⟩ = some (.string (str t1.lives[0]))) := fun y hy => by simpa using hcell y hy.below
        have D2 : Hid (∀ y, Wtr K.C b (S1 ++ ([38] : Bs)) n y → Calls Tryz.prog 48 #[.pointer (some ⟨b, 0, none⟩), .string (str t1.lives[0])] y fun e w' => e = .returned (.tuple #[]) ∧ Wtr K.C b (S1 ++ ([38] : Bs) ++ lifT t1.lives[0]) n w' ∧ Fr K.C y w') := fun y hy => life_any hy t1.lives[0] (by simp only [List.length_append, List.length_cons, List.length_nil] at hlen ⊢; omega)
        have D2' : Hid (∀ y, Wtr K.C b (S1 ++ ([38] : Bs) ++ lifT t1.lives[0]) n y → Calls Tryz.prog 47 #[.pointer (some ⟨b, 0, none⟩), .slice (some ⟨y.heap.size, 0, none⟩) 1 1] (y.alloc (.cells #[.string (str [32])] 9)) fun e w' => e = .returned (.tuple #[]) ∧ Wtr K.C b (S1 ++ ([38] : Bs) ++ (lifT t1.lives[0] ++ ([32] : Bs))) n w' ∧ Fr K.C y w') := fun y hy => by
          refine (put1 hy [32] (by simp only [List.length_append, List.length_cons, List.length_nil] at hlen ⊢; omega)).mono ?_
          rintro _ _ ⟨rfl, q1, q2⟩
          exact ⟨rfl, by simpa [List.append_assoc] using q1, q2⟩
        have i2 : (0 : Int) < (t1.lives.length : Int) := by omega
        clear hlen hA hcell eL eT
        generalize t1.lives[0] = L0 at D2 D2' D3 HN HY
        clear hs hc hb hw1 hl1 hx1 hl2 hx2 hel c0 c1 c2 c3 hk h2 HL HE hf1 he1
        generalize str L0 = X at *
        generalize hn1 : t1.lives.length = k1 at *
        clear hn1
        go_wp2_with fail
        refine I.out.mono ?_
        rintro ev w1 ⟨rfl, rfl⟩
        go_wp2_with fail
        refine D1.out.mono ?_
        rintro ev w1 ⟨rfl, p1, q1⟩
        obtain ⟨x0, x2, x3⟩ := HX.out _ q1
        have y0 := HY.out _ q1
        go_wp2_with fail
        refine (D2.out _ p1).mono ?_
        rintro ev w2 ⟨rfl, p2, q2⟩
        go_wp2_with fail
        refine (D2'.out _ p2).mono ?_
        rintro ev w3 ⟨rfl, p3, q3⟩
        have q4 := q1.trans (q2.trans q3)
        obtain ⟨z0, z2, z3⟩ := HX.out _ q4
        go_wp2_with fail
        refine (D3.out _ p3).mono ?_
        rintro ev w5 ⟨rfl, p5, q5⟩
        have q6 := q4.trans q5
        obtain ⟨v0, v2, v3⟩ := HX.out _ q6
        go_wp2_with fail
        go_roundg p
        case measure => omega
        case rel => exact HN.out _ q6 p5
      · have eL := liveT_no h2
        rw [eL, List.append_nil] at D3 HN
        have i2 : t1.lives.length = 0 := by omega
        rw [i2] at HX
        clear hlen hs eL eT hw1 hl1 hx1 hl2 hx2 hel c0 c1 c2 c3 hk h2 HL HE hf1 he1
        go_wp2_with fail
        refine I.out.mono ?_
        rintro ev w1 ⟨rfl, rfl⟩
        go_wp2_with fail
        refine D1.out.mono ?_
        rintro ev w1 ⟨rfl, p1, q1⟩
        obtain ⟨x0, x2, x3⟩ := HX.out _ q1
        go_wp2_with fail
        refine (D3.out _ p1).mono ?_
        rintro ev w5 ⟨rfl, p5, q5⟩
        have q6 := q1.trans q5
        obtain ⟨v0, v2, v3⟩ := HX.out _ q6
        go_wp2_with fail
        go_roundg p
        case measure => omega
        case rel => exact HN.out _ q6 p5
    · have I := hid0 (isRef_any c0 c3 false ⟨fun h => (by cases h), fun h => absurd h hk⟩)
      have HW := hid0 hw1
      have HS := hid0 hs
      have HX : Hid (∀ y, Fr K.C wr y → y.cell? ⟨b1, o1, none⟩ = some (.int .i64 t1.kind) ∧ y.cell? ⟨b1, o1 + 1, none⟩ = some (.string (str t1.name)) ∧ y.cell? ⟨b1, o1 + 2, none⟩ = some (.slice a2 t1.lives.length n2)) := fun y hy =>
        ⟨(hy.below.cell (p := ⟨b1, o1, none⟩) hl1.1).trans c0, (hy.below.cell (p := ⟨b1, o1 + 1, none⟩) hl1.1).trans c1, (hy.below.cell (p := ⟨b1, o1 + 2, none⟩) hl1.1).trans c2⟩
      by_cases k1 : t1.kind = 1
      · have b1' : (t1.kind == 1) = true := by rw [k1]; rfl
        have D := hid0 (put1 hw1 [105, 110, 116] (by rw [tyT_int k1] at hlen; exact hlen))
        rw [tyT_int k1] at HE
        clear hlen hs hel hx1 hl1 HX HS hk k1 he1 hw1 HW
        generalize t1.kind = kd at *
        go_wp2_with fail
        refine I.out.mono ?_
        rintro ev w1 ⟨rfl, rfl⟩
        go_wp2_with fail
        refine D.out.mono ?_
        rintro ev w2 ⟨rfl, p1, q1⟩
        go_wp2_with fail
        go_end0
        exact ⟨rfl, by rw [← HE.out]; exact p1, HF.out.trans q1⟩
      have b1' : (t1.kind == 1) = false := by simpa using k1
      by_cases k2 : t1.kind = 2
      · have b2' : (t1.kind == 2) = true := by rw [k2]; rfl
        have D := hid0 (put1 hw1 [98, 111, 111, 108] (by rw [tyT_bool k2] at hlen; exact hlen))
        rw [tyT_bool k2] at HE
        clear hlen hs hel hx1 hl1 HX HS hk k1 k2 he1 hw1 HW
        generalize t1.kind = kd at *
        go_wp2_with fail
        refine I.out.mono ?_
        rintro ev w1 ⟨rfl, rfl⟩
        go_wp2_with fail
        refine D.out.mono ?_
        rintro ev w2 ⟨rfl, p1, q1⟩
        go_wp2_with fail
        go_end0
        exact ⟨rfl, by rw [← HE.out]; exact p1, HF.out.trans q1⟩
      have b2' : (t1.kind == 2) = false := by simpa using k2
      by_cases k3 : t1.kind = 3
      · have b3' : (t1.kind == 3) = true := by rw [k3]; rfl
        rw [tyT_sct k3] at hlen HE
        rw [List.length_append] at hlen
        have D := hid0 (put1 hw1 t1.name (by omega))
        have D2 : Hid (∀ y, Fr K.C wr y → Wtr K.C b (S1 ++ t1.name) n y → Calls Tryz.prog 50 #[.pointer (some ⟨b, 0, none⟩), .slice a2 t1.lives.length n2] y fun e w' => e = .returned (.tuple #[]) ∧ Wtr K.C b (S1 ++ t1.name ++ markT t1.lives) n w' ∧ Fr K.C y w') := fun y hf hy => lives_any (HS.out.below hf.below) hy (by rw [List.length_append]; omega)
        clear hlen hs hel hx1 hl1 HS hk k1 k2 k3 he1 hw1 HW
        generalize t1.kind = kd at *
        generalize str t1.name = X at *
        go_wp2_with fail
        refine I.out.mono ?_
        rintro ev w1 ⟨rfl, rfl⟩
        go_wp2_with fail
        refine D.out.mono ?_
        rintro ev w2 ⟨rfl, p1, q1⟩
        obtain ⟨x0, x1, x2⟩ := HX.out _ q1
        go_wp2_with fail
        refine (D2.out _ q1 p1).mono ?_
        rintro ev w3 ⟨rfl, p2, q2⟩
        go_wp2_with fail
        go_end0
        exact ⟨rfl, by rw [← HE.out, ← List.append_assoc]; exact p2, HF.out.trans (q1.trans q2)⟩
      have b3' : (t1.kind == 3) = false := by simpa using k3
      have eT : tyT t1 = [] := by
        by_cases h45 : t1.kind = 4 ∨ t1.kind = 5
        · exact tyT_none h45 (by have := fun h => hk ⟨h45, h⟩; omega)
        · exact tyT_else k1 k2 k3 (fun h => h45 (.inl h)) (fun h => h45 (.inr h))
      rw [eT, List.append_nil] at HE
      clear hlen hs hel hx1 hl1 HX HS hk k1 k2 k3 he1 hw1 eT
      generalize t1.kind = kd at *
      go_wp2_with fail
      refine I.out.mono ?_
      rintro ev w1 ⟨rfl, rfl⟩
      go_wp2_with fail
      go_end0
      exact ⟨rfl, by rw [← HE.out]; exact HW.out, HF.out⟩
end Go.Proofs.YtlbhaaldndjigaaGreatDoor

namespace Go.Proofs.YtlbhaaldndjigaaGreatDoor
open Go.RowKit

theorem Ar.at {α : Type} {z bz : Nat} {P : World → List Value → α → Prop} {K : Ctx} {w : World} {v : Value} {l : List α} (h : Ar z bz (P w) K w v l) (hP : ∀ {w' : World} {cs : List Value} {x : α}, Below K.C w w' → P w cs x → P w' cs x) :
    ∃ ao cap, v = .slice ao l.length cap ∧ l.length ≤ cap ∧ l.length * bz ≤ 140737488355328 ∧ ∀ i (hi : i < l.length), ∃ b o cs, ao = some ⟨b, o, none⟩ ∧ b < K.C ∧ ∀ w', Below K.C w w' → Lies K w' z b (o + i * z) cs ∧ P w' cs l[i] := by
  obtain ⟨ao, cap, e, h1, h2, h3⟩ := h.shape
  refine ⟨ao, cap, e, h1, h2, fun i hi => ?_⟩
  obtain ⟨b, o, ea, hb, cs, hl, hc, hx⟩ := h3 i hi
  exact ⟨b, o, cs, ea, hb, fun w' hw => ⟨⟨hb, fun j hj => (hw.cell (p := ⟨b, o + i * z + j, none⟩) hb).trans (hc j hj)⟩, hP hw hx⟩⟩
theorem Lies.part {K : Ctx} {w : World} {z b o : Nat} {cs : List Value} (h : Lies K w z b o cs) (x y ts : List Value) (e : cs = x ++ (ts ++ y)) (k : Nat) (hk : x.length = k) (hz : k + ts.length ≤ z) : Lies K w ts.length b (o + k) ts := by
  refine ⟨h.1, fun j hj => ?_⟩
  have := h.2 (k + j) (by omega)
  rw [e, List.getElem?_append_right (by omega), hk, Nat.add_sub_cancel_left, List.getElem?_append_left hj] at this
  rw [← this, Nat.add_assoc]
theorem TyAt.len4 {m : Nat} {K : Ctx} {w : World} {cs : List Value} {t : Ty} (h : TyAt m K w cs t) : cs.length = 4 := by
  cases m with
  | zero => exact h.elim
  | succ p => obtain ⟨_, _, rfl, _⟩ := h; rfl

set_option maxHeartbeats 4000000 in
theorem field_any {K : Ctx} {b bx ox : Nat} {S : Bs} {n : Int} {w : World} {cs : List Value} {x : Fld} (hx : FldAt K w cs x) (hl : Lies K w 6 bx ox cs) (h : Wtr K.C b S n w) (hlen : S.length + (fldT x).length ≤ 140737488355328) :
    Calls Tryz.prog 56 #[.pointer (some ⟨b, 0, none⟩), .pointer (some ⟨bx, ox, none⟩)] w fun e w' => e = .returned (.tuple #[]) ∧ Wtr K.C b (S ++ fldT x) n w' ∧ Fr K.C w w' := by
  obtain ⟨ts, rfl, hn, m, ht⟩ := hx
  have hl4 := ht.len4
  have c0 : w.cell? ⟨bx, ox, none⟩ = some (.bool x.mu) := hl.2 0 (by decide)
  have c1 : w.cell? ⟨bx, ox + 1, none⟩ = some (.string (str x.name)) := hl.2 1 (by decide)
  have hp : Lies K w 4 bx (ox + 2) ts := by
    have := hl.part [.bool x.mu, .string (str x.name)] [] ts (by simp) 2 rfl (by omega)
    rwa [hl4] at this
  unfold fldT at hlen ⊢
  simp only [List.length_append] at hlen
  have D1 : Hid (Calls Tryz.prog 49 #[.pointer (some ⟨b, 0, none⟩), .bool x.mu, .string (str [109, 117, 116, 32])] w fun e w' => e = .returned (.tuple #[]) ∧ Wtr K.C b (S ++ mutT x.mu) n w' ∧ Fr K.C w w') := putIf_any h x.mu [109, 117, 116, 32] (by unfold mutT at hlen; omega)
  have HX : Hid (∀ y, Fr K.C w y → y.cell? ⟨bx, ox + 1, none⟩ = some (.string (str x.name))) := fun y hy => (hy.below.cell (p := ⟨bx, ox + 1, none⟩) hl.1).trans c1
  have D2 : Hid (∀ y, Wtr K.C b (S ++ mutT x.mu) n y → Calls Tryz.prog 47 #[.pointer (some ⟨b, 0, none⟩), .slice (some ⟨y.heap.size, 0, none⟩) 2 2] (y.alloc (.cells #[.string (str x.name), .string (str [58, 32])] 9)) fun e w' => e = .returned (.tuple #[]) ∧ Wtr K.C b (S ++ mutT x.mu ++ (x.name ++ [58, 32])) n w' ∧ Fr K.C y w') := fun y hy => put2 hy _ _ (by simp only [List.length_append]; omega)
  have D3 : Hid (∀ y, Fr K.C w y → Wtr K.C b (S ++ mutT x.mu ++ (x.name ++ [58, 32])) n y → Calls Tryz.prog 25 #[.pointer (some ⟨b, 0, none⟩), .pointer (some ⟨bx, ox + 2, none⟩)] y fun e w' => e = .returned (.tuple #[]) ∧ Wtr K.C b (S ++ mutT x.mu ++ (x.name ++ [58, 32]) ++ tyT x.ty) n w' ∧ Fr K.C y w') := fun y hy hw => typeOf_any (ht.below hy.below) (hp.below hy.below) hw (by simp only [List.length_append]; omega)
  clear h hlen hl hp ht c1
  generalize x.mu = mu at *
  generalize str x.name = X at *
  go_enter Tryz.func56, Tryz.ntmps56
  go_wp2_with fail
  refine D1.out.mono ?_
  rintro ev w1 ⟨rfl, p1, q1⟩
  have x1 := HX.out _ q1
  go_wp2_with fail
  refine (D2.out _ p1).mono ?_
  rintro ev w2 ⟨rfl, p2, q2⟩
  go_wp2_with fail
  refine (D3.out _ (q1.trans q2) p2).mono ?_
  rintro ev w3 ⟨rfl, p3, q3⟩
  go_wp2_with fail
  go_end0
  exact ⟨rfl, by simpa [List.append_assoc] using p3, q1.trans (q2.trans q3)⟩

set_option maxHeartbeats 4000000 in
theorem lifes_mem {K : Ctx} {b g1 g2 bx ox : Nat} {n : Int} {w0 : World} {v : Value} {l : List Lfe} (hs : Ar 2 40 (LfeAt K w0) K w0 v l) (R1 : Row w0 g1 93 [.pointer (some ⟨b, 0, none⟩)]) (R2 : Row w0 g2 69 [.pointer (some ⟨bx, ox, none⟩)]) (hx : bx < K.C) (hxc : w0.cell? ⟨bx, ox + 2, none⟩ = some v) :
    Mem K.C b n w0 52 #[.pointer (some ⟨g1, 0, none⟩), .pointer (some ⟨g2, 0, none⟩)] (l.map lfeT) := by
  intro i hi S w hf hw hlen
  have hil : i < l.length := by simpa using hi
  have e0 : (l.map lfeT)[i] = lfeT l[i] := by simp
  rw [e0] at hlen ⊢
  obtain ⟨ao, cap, rfl, hc, hb, hA⟩ := Ar.at (P := LfeAt K) hs (fun h hx => hx.below h)
  obtain ⟨bb, o, cs, rfl, hbC, hcell⟩ := hA i hil
  have HS : Hid (∀ y, Fr K.C w y → y.cell? ⟨g1, 0, none⟩ = some (.pointer (some ⟨b, 0, none⟩)) ∧ y.cell? ⟨g2, 0, none⟩ = some (.pointer (some ⟨bx, ox, none⟩)) ∧ y.cell? ⟨bx, ox + 2, none⟩ = some (.slice (some ⟨bb, o, none⟩) l.length cap)) := by
    intro y hy
    have h := hf.trans hy
    exact ⟨(h.row R1 (by decide) (by decide)).cell 0, (h.row R2 (by decide) (by decide)).cell 0, (h.below.cell (p := ⟨bx, ox + 2, none⟩) hx).trans hxc⟩
  have fd : Fr K.C w w.drew := Fr.drew w
  have D : Hid (Calls Tryz.prog 53 #[.pointer (some ⟨b, 0, none⟩), .pointer (some ⟨bb, o + i * 2, none⟩)] w.drew fun e w' => e = .returned (.tuple #[]) ∧ Wtr K.C b (S ++ lfeT l[i]) n w' ∧ Fr K.C w w') := by
    obtain ⟨k1, k2⟩ := hcell w.drew (hf.trans fd).below
    refine (lifeOver_any k2 k1 hw.drew hlen).mono ?_
    rintro _ _ ⟨rfl, p1, p2⟩
    exact ⟨rfl, p1, fd.trans p2⟩
  have i1 : (i : Int) < (l.length : Int) := by omega
  have i2 : l.length ≤ 9223372036854775807 := by omega
  clear hw hlen hcell hA hs R1 R2 hf e0 hi hxc
  go_enter Tryz.func52, Tryz.ntmps52
  go_wp2_with fail
  go_region_held3 (fun z => z.cell? ⟨g1, 0, none⟩ = some (.pointer (some ⟨b, 0, none⟩)) ∧ z.cell? ⟨g2, 0, none⟩ = some (.pointer (some ⟨bx, ox, none⟩)) ∧ z.cell? ⟨bx, ox + 2, none⟩ = some (.slice (some ⟨bb, o, none⟩) l.length cap)) (exact HS.out _ (by assumption)) (first | (go_at_call 53; refine D.out.mono ?_; rintro _ w1 ⟨rfl, p1, q1⟩))
  go_wp2_with fail
  go_end0
  exact ⟨rfl, p1, q1⟩

set_option maxHeartbeats 4000000 in
theorem params_mem {K : Ctx} {b g1 g2 bx ox : Nat} {n : Int} {w0 : World} {v : Value} {l : List Fld} (hs : Ar 6 96 (FldAt K w0) K w0 v l) (R1 : Row w0 g1 93 [.pointer (some ⟨b, 0, none⟩)]) (R2 : Row w0 g2 69 [.pointer (some ⟨bx, ox, none⟩)]) (hx : bx < K.C) (hxc : w0.cell? ⟨bx, ox + 3, none⟩ = some v) :
    Mem K.C b n w0 55 #[.pointer (some ⟨g1, 0, none⟩), .pointer (some ⟨g2, 0, none⟩)] (l.map fldT) := by
  intro i hi S w hf hw hlen
  have hil : i < l.length := by simpa using hi
  have e0 : (l.map fldT)[i] = fldT l[i] := by simp
  rw [e0] at hlen ⊢
  obtain ⟨ao, cap, rfl, hc, hb, hA⟩ := Ar.at (P := FldAt K) hs (fun h hx => hx.below h)
  obtain ⟨bb, o, cs, rfl, hbC, hcell⟩ := hA i hil
  have HS : Hid (∀ y, Fr K.C w y → y.cell? ⟨g1, 0, none⟩ = some (.pointer (some ⟨b, 0, none⟩)) ∧ y.cell? ⟨g2, 0, none⟩ = some (.pointer (some ⟨bx, ox, none⟩)) ∧ y.cell? ⟨bx, ox + 3, none⟩ = some (.slice (some ⟨bb, o, none⟩) l.length cap)) := by
    intro y hy
    have h := hf.trans hy
    exact ⟨(h.row R1 (by decide) (by decide)).cell 0, (h.row R2 (by decide) (by decide)).cell 0, (h.below.cell (p := ⟨bx, ox + 3, none⟩) hx).trans hxc⟩
  have fd : Fr K.C w w.drew := Fr.drew w
  have D : Hid (Calls Tryz.prog 56 #[.pointer (some ⟨b, 0, none⟩), .pointer (some ⟨bb, o + i * 6, none⟩)] w.drew fun e w' => e = .returned (.tuple #[]) ∧ Wtr K.C b (S ++ fldT l[i]) n w' ∧ Fr K.C w w') := by
    obtain ⟨k1, k2⟩ := hcell w.drew (hf.trans fd).below
    refine (field_any k2 k1 hw.drew hlen).mono ?_
    rintro _ _ ⟨rfl, p1, p2⟩
    exact ⟨rfl, p1, fd.trans p2⟩
  have i1 : (i : Int) < (l.length : Int) := by omega
  have i2 : l.length ≤ 9223372036854775807 := by omega
  clear hw hlen hcell hA hs R1 R2 hf e0 hi hxc
  go_enter Tryz.func55, Tryz.ntmps55
  go_wp2_with fail
  go_region_held3 (fun z => z.cell? ⟨g1, 0, none⟩ = some (.pointer (some ⟨b, 0, none⟩)) ∧ z.cell? ⟨g2, 0, none⟩ = some (.pointer (some ⟨bx, ox, none⟩)) ∧ z.cell? ⟨bx, ox + 3, none⟩ = some (.slice (some ⟨bb, o, none⟩) l.length cap)) (exact HS.out _ (by assumption)) (first | (go_at_call 56; refine D.out.mono ?_; rintro _ w1 ⟨rfl, p1, q1⟩))
  go_wp2_with fail
  go_end0
  exact ⟨rfl, p1, q1⟩

set_option maxHeartbeats 4000000 in
theorem fields_mem {K : Ctx} {b g1 g2 bx ox : Nat} {n : Int} {w0 : World} {v : Value} {l : List Fld} (hs : Ar 6 96 (FldAt K w0) K w0 v l) (R1 : Row w0 g1 93 [.pointer (some ⟨b, 0, none⟩)]) (R2 : Row w0 g2 96 [.pointer (some ⟨bx, ox, none⟩)]) (hx : bx < K.C) (hxc : w0.cell? ⟨bx, ox + 3, none⟩ = some v) :
    Mem K.C b n w0 73 #[.pointer (some ⟨g1, 0, none⟩), .pointer (some ⟨g2, 0, none⟩)] (l.map fldT) := by
  intro i hi S w hf hw hlen
  have hil : i < l.length := by simpa using hi
  have e0 : (l.map fldT)[i] = fldT l[i] := by simp
  rw [e0] at hlen ⊢
  obtain ⟨ao, cap, rfl, hc, hb, hA⟩ := Ar.at (P := FldAt K) hs (fun h hx => hx.below h)
  obtain ⟨bb, o, cs, rfl, hbC, hcell⟩ := hA i hil
  have HS : Hid (∀ y, Fr K.C w y → y.cell? ⟨g1, 0, none⟩ = some (.pointer (some ⟨b, 0, none⟩)) ∧ y.cell? ⟨g2, 0, none⟩ = some (.pointer (some ⟨bx, ox, none⟩)) ∧ y.cell? ⟨bx, ox + 3, none⟩ = some (.slice (some ⟨bb, o, none⟩) l.length cap)) := by
    intro y hy
    have h := hf.trans hy
    exact ⟨(h.row R1 (by decide) (by decide)).cell 0, (h.row R2 (by decide) (by decide)).cell 0, (h.below.cell (p := ⟨bx, ox + 3, none⟩) hx).trans hxc⟩
  have fd : Fr K.C w w.drew := Fr.drew w
  have D : Hid (Calls Tryz.prog 56 #[.pointer (some ⟨b, 0, none⟩), .pointer (some ⟨bb, o + i * 6, none⟩)] w.drew fun e w' => e = .returned (.tuple #[]) ∧ Wtr K.C b (S ++ fldT l[i]) n w' ∧ Fr K.C w w') := by
    obtain ⟨k1, k2⟩ := hcell w.drew (hf.trans fd).below
    refine (field_any k2 k1 hw.drew hlen).mono ?_
    rintro _ _ ⟨rfl, p1, p2⟩
    exact ⟨rfl, p1, fd.trans p2⟩
  have i1 : (i : Int) < (l.length : Int) := by omega
  have i2 : l.length ≤ 9223372036854775807 := by omega
  clear hw hlen hcell hA hs R1 R2 hf e0 hi hxc
  go_enter Tryz.func73, Tryz.ntmps73
  go_wp2_with fail
  go_region_held3 (fun z => z.cell? ⟨g1, 0, none⟩ = some (.pointer (some ⟨b, 0, none⟩)) ∧ z.cell? ⟨g2, 0, none⟩ = some (.pointer (some ⟨bx, ox, none⟩)) ∧ z.cell? ⟨bx, ox + 3, none⟩ = some (.slice (some ⟨bb, o, none⟩) l.length cap)) (exact HS.out _ (by assumption)) (first | (go_at_call 56; refine D.out.mono ?_; rintro _ w1 ⟨rfl, p1, q1⟩))
  go_wp2_with fail
  go_end0
  exact ⟨rfl, p1, q1⟩
end Go.Proofs.YtlbhaaldndjigaaGreatDoor
