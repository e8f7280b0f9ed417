/-
  The texts Pty, Pfd, joined.
-/
import Derived.Test.YtmopffaocamieaaGreatJapSn03
namespace Go.Proofs.YtmopffaocamieaaGreat
open Go.RowKit

/-- What a kind has besides. -/
def kiB (t : Ty) : Bs := if t.kind = 3 then txB t.name ++ lsB txB t.lives else if t.kind = 4 ∨ t.kind = 5 then lsB txB t.lives else []
def tyB : Nat → Ty → Bs
  | 0, _ => []
  | n + 1, t => enc t.kind.toNat ++ (kiB t ++ (t.elem.map (tyB n)).flatten)
/-- Kinds that are numbers from nought on. -/
def Kd : Nat → Ty → Prop
  | 0, _ => True
  | n + 1, t => 0 ≤ t.kind ∧ t.kind ≤ 1000 ∧ ∀ e ∈ t.elem, Kd n e
theorem Ps.past {B : Nat} {w W W' : World} {wb : Nat} {v : Value} {l : List UInt8} {g1 g2 : Nat} {L2 : List Value} {t2 : Nat} (h : Ps B w W wb v l g1 g2 L2 t2) (hb : Below W.heap.size W W') : Ps B w W' wb v l g1 g2 L2 t2 :=
  h.mv (h.wr.past hb) (Mv.past hb _ _)
def TyC (n : Nat) : Prop := ∀ (K : Ctx) (B wb : Nat), K.C ≤ B → ∀ (w : World) (cs : List Value) (t : Ty), TyAt n K w cs t → Kd n t → ∀ (v : Value) (a : Bs), Wr B w wb v a → a.length + (tyB n t).length ≤ 700000000 →
    Calls Tryz.prog 121 #[.agg #[.pointer (some ⟨wb, 0, none⟩)], .agg cs.toArray] w fun ev w' => ev = .returned (.tuple #[]) ∧ ∃ v', Wr B w' wb v' (a ++ tyB n t) ∧ Mv w w' wb v v'

set_option maxHeartbeats 8000000 in
set_option maxRecDepth 20000 in
theorem putType_of {n : Nat} (ih : TyC n) : TyC (n + 1) := by
  intro K B wb hKB w cs t hx hk v a hW hlen
  obtain ⟨v2, v3, rfl, hnm, h2, h3⟩ := hx
  obtain ⟨hk0, hk1, hke⟩ := hk
  have hc0 := hidS hW.cell
  obtain ⟨t2, d2, e2⟩ := Ar.form h2
  obtain ⟨t3, d3, e3, _, _, hA⟩ := h3.shape
  subst e3
  obtain ⟨m2, hm2⟩ : ∃ m2, m2 = t.lives.length := ⟨_, rfl⟩
  rw [← hm2] at e2
  subst e2
  have hne : t.elem.length ≤ 9223372036854775807 := by obtain ⟨_, _, _, q1, q2, _⟩ := h3.shape; omega
  have hsize : (tyB (n + 1) t).length = (enc t.kind.toNat).length + ((kiB t).length + ((t.elem.map (tyB n)).flatten).length) := by
    show (enc t.kind.toNat ++ (kiB t ++ (t.elem.map (tyB n)).flatten)).length = _
    rw [List.length_append, List.length_append]
  have P0 := Ps.first hW [.int .i64 t.kind, .string (str t.name), .slice t2 m2 d2, .slice t3 t.elem.length d3] 62
  have HA : Hid (∀ i (h : i < t.elem.length) (y : World), Below B w y → ∃ b o, t3 = some ⟨b, o, none⟩ ∧ ∃ kk nn s2 q2 r2 s3 q3 r3, (y.cell? ⟨b, o + i * 4, none⟩ = some (.int .i64 kk) ∧ y.cell? ⟨b, o + i * 4 + 1, none⟩ = some (.string nn) ∧ y.cell? ⟨b, o + i * 4 + 2, none⟩ = some (.slice s2 q2 r2) ∧ y.cell? ⟨b, o + i * 4 + 3, none⟩ = some (.slice s3 q3 r3)) ∧ ∀ z, Below B w z → TyAt n K z [.int .i64 kk, .string nn, .slice s2 q2 r2, .slice s3 q3 r3] t.elem[i]) := by
    intro i h y hy
    obtain ⟨b, o, e, hbC, cs, hl, hcs, hq⟩ := hA i h
    have hbB := Nat.lt_of_lt_of_le hbC hKB
    obtain ⟨s2, q2, r2, s3, q3, r3, rfl⟩ := IsTy.open (K := K) (w := w) (t := t.elem[i]) ⟨n, hq⟩
    refine ⟨b, o, e, _, _, s2, q2, r2, s3, q3, r3, ⟨?_, ?_, ?_, ?_⟩, fun z hz => hq.below (below_le hz hKB)⟩
    · rw [hy.cell (p := ⟨b, o + i * 4, none⟩) hbB]; exact hcs 0 (by decide)
    · rw [hy.cell (p := ⟨b, o + i * 4 + 1, none⟩) hbB]; exact hcs 1 (by decide)
    · rw [hy.cell (p := ⟨b, o + i * 4 + 2, none⟩) hbB]; exact hcs 2 (by decide)
    · rw [hy.cell (p := ⟨b, o + i * 4 + 3, none⟩) hbB]; exact hcs 3 (by decide)
  have CU : Hid (Calls Tryz.prog 113 #[.pointer (some ⟨wb, 0, none⟩), .int .u64 t.kind] ((w.alloc (.cells #[.pointer (some ⟨wb, 0, none⟩)] 75)).alloc (.cells #[.int .i64 t.kind, .string (str t.name), .slice t2 m2 d2, .slice t3 t.elem.length d3] 62)) fun ev w' => ev = .returned (.tuple #[]) ∧ ∃ v', Ps B w w' wb v' (a ++ enc t.kind.toNat) w.heap.size (w.heap.size + 1) [.int .i64 t.kind, .string (str t.name), .slice t2 m2 d2, .slice t3 t.elem.length d3] 62) := by
    have e : (t.kind.toNat : Int) = t.kind := by omega
    have := wUint_any B wb t.kind.toNat v a _ P0.wr (by omega) (by omega)
    rw [e] at this
    refine this.mono ?_
    rintro _ w1 ⟨rfl, v', h1, h2⟩
    exact ⟨rfl, v', P0.mv h1 h2⟩
  have CT : Hid (∀ w1 v1 X, Ps B w w1 wb v1 (X) w.heap.size (w.heap.size + 1) [.int .i64 t.kind, .string (str t.name), .slice t2 m2 d2, .slice t3 t.elem.length d3] 62 → X.length + (txB t.name).length ≤ 800000000 → Calls Tryz.prog 66 #[.pointer (some ⟨wb, 0, none⟩), .string (str t.name)] w1 fun ev w' => ev = .returned (.tuple #[]) ∧ ∃ v', Ps B w w' wb v' (X ++ txB t.name) w.heap.size (w.heap.size + 1) [.int .i64 t.kind, .string (str t.name), .slice t2 m2 d2, .slice t3 t.elem.length d3] 62) := by
    intro w1 v1 X P1 hl
    refine (wTx_any B wb t.name v1 X w1 P1.wr hl).mono ?_
    rintro _ w2 ⟨rfl, v', h1, h2⟩
    exact ⟨rfl, v', P1.mv h1 h2⟩
  have CL : Hid (∀ w1 v1 X, Ps B w w1 wb v1 (X) w.heap.size (w.heap.size + 1) [.int .i64 t.kind, .string (str t.name), .slice t2 m2 d2, .slice t3 t.elem.length d3] 62 → X.length + (lsB txB t.lives).length ≤ 800000000 → Calls Tryz.prog 115 #[.agg #[.pointer (some ⟨wb, 0, none⟩)], .slice t2 m2 d2, .func (.func 66) #[.pointer (some ⟨wb, 0, none⟩)] #[]] w1 fun ev w' => ev = .returned (.tuple #[]) ∧ ∃ v', Ps B w w' wb v' (X ++ lsB txB t.lives) w.heap.size (w.heap.size + 1) [.int .i64 t.kind, .string (str t.name), .slice t2 m2 d2, .slice t3 t.elem.length d3] 62) := by
    intro w1 v1 X P1 hl
    refine (putStrs_any B wb hKB (Strs.below h2 (below_le P1.bel hKB)) v1 X P1.wr hl).mono ?_
    rintro _ w2 ⟨rfl, v', h1, h2⟩
    exact ⟨rfl, v', P1.mv h1 h2⟩
  have CR : Hid (∀ w1 v1 X k (hk : k < t.elem.length) (o : Obj) kk nn s2 q2 r2 s3 q3 r3, Ps B w w1 wb v1 (X) w.heap.size (w.heap.size + 1) [.int .i64 t.kind, .string (str t.name), .slice t2 m2 d2, .slice t3 t.elem.length d3] 62 → (∀ z, Below B w z → TyAt n K z [.int .i64 kk, .string nn, .slice s2 q2 r2, .slice s3 q3 r3] t.elem[k]) → X.length + (tyB n t.elem[k]).length ≤ 700000000 → Calls Tryz.prog 121 #[.agg #[.pointer (some ⟨wb, 0, none⟩)], .agg #[.int .i64 kk, .string nn, .slice s2 q2 r2, .slice s3 q3 r3]] (w1.alloc o) fun ev w' => ev = .returned (.tuple #[]) ∧ ∃ v', Ps B w w' wb v' (X ++ tyB n t.elem[k]) w.heap.size (w.heap.size + 1) [.int .i64 t.kind, .string (str t.name), .slice t2 m2 d2, .slice t3 t.elem.length d3] 62) := by
    intro w1 v1 X k hk o kk nn s2 q2 r2 s3 q3 r3 P1 hq hl
    have P2 := P1.past (alloc_one w1 o)
    refine (ih K B wb hKB _ _ _ (hq _ P2.bel) (hke _ (List.getElem_mem hk)) v1 X P2.wr hl).mono ?_
    rintro _ w2 ⟨rfl, v', h1, h2⟩
    exact ⟨rfl, v', P2.mv h1 h2⟩
  have kc : IntKind.u64.wrap t.kind = t.kind := by rw [IntKind.wrap_u64]; omega
  have HT : Hid (tyB (n + 1) t = enc t.kind.toNat ++ (kiB t ++ (t.elem.map (tyB n)).flatten)) := rfl
  have HM : Hid (∀ w' v' X, Ps B w w' wb v' (X) w.heap.size (w.heap.size + 1) [.int .i64 t.kind, .string (str t.name), .slice t2 m2 d2, .slice t3 t.elem.length d3] 62 → X = a ++ tyB (n + 1) t → ∃ v', Wr B w' wb v' (a ++ tyB (n + 1) t) ∧ Mv w w' wb v v') := by
    intro w' v' X P e
    obtain ⟨v0, e0, q⟩ := P.all
    rw [hc0.out] at e0
    cases e0
    exact ⟨v', e ▸ P.wr, q⟩
  clear P0 hW hA h2 h3 ih hke hnm hc0 hm2
  by_cases k3 : t.kind = 3
  · have HK : Hid (kiB t = txB t.name ++ lsB txB t.lives) := hidS (by unfold kiB; simp [k3])
    have q3 : (t.kind == 3) = true := by rw [beq_iff_eq]; exact k3
    replace k3 := hidS k3
    go_enter Tryz.func121, Tryz.ntmps121
    go_wp2_with fail
    refine CU.out.mono ?_
    rintro _ w1 ⟨rfl, v1, P1⟩
    have a75 : _ = some (Value.pointer (some ⟨wb, 0, none⟩)) := P1.r1.cell 0
    have b0 : _ = some (Value.int .i64 t.kind) := P1.r2.cell 0
    have b1 : _ = some (Value.string (str t.name)) := P1.r2.cell 1
    have b2 : _ = some (Value.slice t2 m2 d2) := P1.r2.cell 2
    have b3 : _ = some (Value.slice t3 t.elem.length d3) := P1.r2.cell 3
    have D2 := hidS (CT.out w1 v1 _ P1 (by have := HK.out; rw [this, List.length_append] at hsize; rw [List.length_append]; omega))
    clear P1
    go_wp2_with fail
    refine D2.out.mono ?_
    rintro _ w2 ⟨rfl, v2, P2⟩
    clear a75 b0 b1 b2 b3
    have a75 : _ = some (Value.pointer (some ⟨wb, 0, none⟩)) := P2.r1.cell 0
    have b0 : _ = some (Value.int .i64 t.kind) := P2.r2.cell 0
    have b1 : _ = some (Value.string (str t.name)) := P2.r2.cell 1
    have b2 : _ = some (Value.slice t2 m2 d2) := P2.r2.cell 2
    have b3 : _ = some (Value.slice t3 t.elem.length d3) := P2.r2.cell 3
    have D3 := hidS (CL.out w2 v2 _ P2 (by have := HK.out; rw [this, List.length_append] at hsize; rw [List.length_append, List.length_append]; omega))
    clear P2 D2
    go_wp2_with fail
    refine D3.out.mono ?_
    rintro _ w3 ⟨rfl, v3, P3⟩
    clear a75 b0 b1 b2 b3
    have a75 : _ = some (Value.pointer (some ⟨wb, 0, none⟩)) := P3.r1.cell 0
    have b0 : _ = some (Value.int .i64 t.kind) := P3.r2.cell 0
    have b1 : _ = some (Value.string (str t.name)) := P3.r2.cell 1
    have b2 : _ = some (Value.slice t2 m2 d2) := P3.r2.cell 2
    have b3 : _ = some (Value.slice t3 t.elem.length d3) := P3.r2.cell 3
    clear D3
    have PA := hidS P3
    have HEQ : Hid ((a ++ enc t.kind.toNat ++ txB t.name ++ lsB txB t.lives) ++ (t.elem.map (tyB n)).flatten = a ++ tyB (n + 1) t) := hidS (by rw [HT.out, HK.out]; first | (simp only [List.append_assoc]; done) | simp only [List.append_assoc, List.nil_append])
    have HACC : Hid ((a ++ enc t.kind.toNat ++ txB t.name ++ lsB txB t.lives).length + ((t.elem.map (tyB n)).flatten).length ≤ 700000000) := hidS (by rw [← List.length_append, HEQ.out, List.length_append]; exact hlen)
    clear P3 CU CT CL
    go_wp2_with fail
    generalize hACC : a ++ enc t.kind.toNat ++ txB t.name ++ lsB txB t.lives = ACC at *
    clear hACC
    go_loopw [34] (fun i wr => ∃ (k : Nat) (v2 : Value), k ≤ t.elem.length ∧ i = .int .i64 k ∧ Ps B w wr wb v2 (ACC ++ ((t.elem.take k).map (tyB n)).flatten) w.heap.size (w.heap.size + 1) [.int .i64 t.kind, .string (str t.name), .slice t2 m2 d2, .slice t3 t.elem.length d3] 62) (fun i _ => t.elem.length - (intOf i).toNat)
    case atStart => exact ⟨0, _, by omega, rfl, by simpa using PA.out⟩
    case round =>
      clear PA
      obtain ⟨k, v2, hk, rfl, hP⟩ := hrel
      have c75 : ∀ o, (wr.alloc o).cell? ⟨w.heap.size, 0, none⟩ = some (.pointer (some ⟨wb, 0, none⟩)) := fun o => (hP.r1.alloc o).cell 0
      by_cases h3 : k < t.elem.length
      · obtain ⟨b, o, e, kk, nn, s2, q2, r2, s3, q3, r3, ⟨x0, x1, x2, x3⟩, hq⟩ := HA.out k h3 wr hP.bel
        subst e
        have i1 : (k : Int) < (t.elem.length : Int) := by omega
        have D : Hid (∀ o, _) := fun o => CR.out wr v2 _ k h3 o kk nn s2 q2 r2 s3 q3 r3 hP hq (by
          have := flat_at_le (tyB n) t.elem k h3
          have := HACC.out
          rw [List.length_append]; omega)
        have HL := hidS (flat_snoc (tyB n) t.elem k h3)
        clear HA CR hP hq HM
        go_wp2_with fail
        refine (D.out _).mono ?_
        rintro _ w3 ⟨rfl, v3, P3⟩
        clear D
        go_wp2_with fail
        go_roundw
        case rel => exact ⟨k + 1, v3, by omega, by go_num, by rw [HL.out, ← List.append_assoc]; exact P3⟩
        case measure => simp [intOf]; omega
      · have i1 : ¬ (k : Int) < (t.elem.length : Int) := by omega
        obtain rfl : k = t.elem.length := by omega
        rw [List.take_length] at hP
        have HF := hidS (HM.out wr v2 _ hP HEQ.out)
        clear HA CR hP HM c75
        go_wp2_with fail
        go_end0
        exact ⟨rfl, HF.out⟩
  by_cases k45 : t.kind = 4 ∨ t.kind = 5
  · have HK45 := hidS k45
    rcases k45 with k4 | k4
    · have HK : Hid (kiB t = lsB txB t.lives) := hidS (by unfold kiB; rw [if_neg k3, if_pos HK45.out])
      have q3 : (t.kind == 3) = false := by rw [beq_eq_false_iff_ne]; exact k3
      have q4 : (t.kind == 4) = true := by rw [beq_iff_eq]; exact k4
      clear HK45
      replace k3 := hidS k3
      replace k4 := hidS k4
      go_enter Tryz.func121, Tryz.ntmps121
      go_wp2_with fail
      refine CU.out.mono ?_
      rintro _ w1 ⟨rfl, v1, P1⟩
      have a75 : _ = some (Value.pointer (some ⟨wb, 0, none⟩)) := P1.r1.cell 0
      have b0 : _ = some (Value.int .i64 t.kind) := P1.r2.cell 0
      have b1 : _ = some (Value.string (str t.name)) := P1.r2.cell 1
      have b2 : _ = some (Value.slice t2 m2 d2) := P1.r2.cell 2
      have b3 : _ = some (Value.slice t3 t.elem.length d3) := P1.r2.cell 3
      have D3 := hidS (CL.out w1 v1 _ P1 (by have := HK.out; rw [this] at hsize; rw [List.length_append]; omega))
      clear P1
      go_wp2_with fail
      refine D3.out.mono ?_
      rintro _ w3 ⟨rfl, v3, P3⟩
      clear a75 b0 b1 b2 b3
      have a75 : _ = some (Value.pointer (some ⟨wb, 0, none⟩)) := P3.r1.cell 0
      have b0 : _ = some (Value.int .i64 t.kind) := P3.r2.cell 0
      have b1 : _ = some (Value.string (str t.name)) := P3.r2.cell 1
      have b2 : _ = some (Value.slice t2 m2 d2) := P3.r2.cell 2
      have b3 : _ = some (Value.slice t3 t.elem.length d3) := P3.r2.cell 3
      clear D3
      have PA := hidS P3
      have HEQ : Hid ((a ++ enc t.kind.toNat ++ lsB txB t.lives) ++ (t.elem.map (tyB n)).flatten = a ++ tyB (n + 1) t) := hidS (by rw [HT.out, HK.out]; first | (simp only [List.append_assoc]; done) | simp only [List.append_assoc, List.nil_append])
      have HACC : Hid ((a ++ enc t.kind.toNat ++ lsB txB t.lives).length + ((t.elem.map (tyB n)).flatten).length ≤ 700000000) := hidS (by rw [← List.length_append, HEQ.out, List.length_append]; exact hlen)
      clear P3 CU CT CL
      go_wp2_with fail
      generalize hACC : a ++ enc t.kind.toNat ++ lsB txB t.lives = ACC at *
      clear hACC
      go_loopw [34] (fun i wr => ∃ (k : Nat) (v2 : Value), k ≤ t.elem.length ∧ i = .int .i64 k ∧ Ps B w wr wb v2 (ACC ++ ((t.elem.take k).map (tyB n)).flatten) w.heap.size (w.heap.size + 1) [.int .i64 t.kind, .string (str t.name), .slice t2 m2 d2, .slice t3 t.elem.length d3] 62) (fun i _ => t.elem.length - (intOf i).toNat)
      case atStart => exact ⟨0, _, by omega, rfl, by simpa using PA.out⟩
      case round =>
        clear PA
        obtain ⟨k, v2, hk, rfl, hP⟩ := hrel
        have c75 : ∀ o, (wr.alloc o).cell? ⟨w.heap.size, 0, none⟩ = some (.pointer (some ⟨wb, 0, none⟩)) := fun o => (hP.r1.alloc o).cell 0
        by_cases h3 : k < t.elem.length
        · obtain ⟨b, o, e, kk, nn, s2, q2, r2, s3, q3, r3, ⟨x0, x1, x2, x3⟩, hq⟩ := HA.out k h3 wr hP.bel
          subst e
          have i1 : (k : Int) < (t.elem.length : Int) := by omega
          have D : Hid (∀ o, _) := fun o => CR.out wr v2 _ k h3 o kk nn s2 q2 r2 s3 q3 r3 hP hq (by
            have := flat_at_le (tyB n) t.elem k h3
            have := HACC.out
            rw [List.length_append]; omega)
          have HL := hidS (flat_snoc (tyB n) t.elem k h3)
          clear HA CR hP hq HM
          go_wp2_with fail
          refine (D.out _).mono ?_
          rintro _ w3 ⟨rfl, v3, P3⟩
          clear D
          go_wp2_with fail
          go_roundw
          case rel => exact ⟨k + 1, v3, by omega, by go_num, by rw [HL.out, ← List.append_assoc]; exact P3⟩
          case measure => simp [intOf]; omega
        · have i1 : ¬ (k : Int) < (t.elem.length : Int) := by omega
          obtain rfl : k = t.elem.length := by omega
          rw [List.take_length] at hP
          have HF := hidS (HM.out wr v2 _ hP HEQ.out)
          clear HA CR hP HM c75
          go_wp2_with fail
          go_end0
          exact ⟨rfl, HF.out⟩
    · have HK : Hid (kiB t = lsB txB t.lives) := hidS (by unfold kiB; rw [if_neg k3, if_pos HK45.out])
      have q3 : (t.kind == 3) = false := by rw [beq_eq_false_iff_ne]; exact k3
      have q4 : (t.kind == 4) = false := by rw [beq_eq_false_iff_ne]; exact (by rw [k4]; decide)
      have q5 : (t.kind == 5) = true := by rw [beq_iff_eq]; exact k4
      clear HK45
      replace k3 := hidS k3
      replace k4 := hidS k4
      go_enter Tryz.func121, Tryz.ntmps121
      go_wp2_with fail
      refine CU.out.mono ?_
      rintro _ w1 ⟨rfl, v1, P1⟩
      have a75 : _ = some (Value.pointer (some ⟨wb, 0, none⟩)) := P1.r1.cell 0
      have b0 : _ = some (Value.int .i64 t.kind) := P1.r2.cell 0
      have b1 : _ = some (Value.string (str t.name)) := P1.r2.cell 1
      have b2 : _ = some (Value.slice t2 m2 d2) := P1.r2.cell 2
      have b3 : _ = some (Value.slice t3 t.elem.length d3) := P1.r2.cell 3
      have D3 := hidS (CL.out w1 v1 _ P1 (by have := HK.out; rw [this] at hsize; rw [List.length_append]; omega))
      clear P1
      go_wp2_with fail
      refine D3.out.mono ?_
      rintro _ w3 ⟨rfl, v3, P3⟩
      clear a75 b0 b1 b2 b3
      have a75 : _ = some (Value.pointer (some ⟨wb, 0, none⟩)) := P3.r1.cell 0
      have b0 : _ = some (Value.int .i64 t.kind) := P3.r2.cell 0
      have b1 : _ = some (Value.string (str t.name)) := P3.r2.cell 1
      have b2 : _ = some (Value.slice t2 m2 d2) := P3.r2.cell 2
      have b3 : _ = some (Value.slice t3 t.elem.length d3) := P3.r2.cell 3
      clear D3
      have PA := hidS P3
      have HEQ : Hid ((a ++ enc t.kind.toNat ++ lsB txB t.lives) ++ (t.elem.map (tyB n)).flatten = a ++ tyB (n + 1) t) := hidS (by rw [HT.out, HK.out]; first | (simp only [List.append_assoc]; done) | simp only [List.append_assoc, List.nil_append])
      have HACC : Hid ((a ++ enc t.kind.toNat ++ lsB txB t.lives).length + ((t.elem.map (tyB n)).flatten).length ≤ 700000000) := hidS (by rw [← List.length_append, HEQ.out, List.length_append]; exact hlen)
      clear P3 CU CT CL
      go_wp2_with fail
      generalize hACC : a ++ enc t.kind.toNat ++ lsB txB t.lives = ACC at *
      clear hACC
      go_loopw [34] (fun i wr => ∃ (k : Nat) (v2 : Value), k ≤ t.elem.length ∧ i = .int .i64 k ∧ Ps B w wr wb v2 (ACC ++ ((t.elem.take k).map (tyB n)).flatten) w.heap.size (w.heap.size + 1) [.int .i64 t.kind, .string (str t.name), .slice t2 m2 d2, .slice t3 t.elem.length d3] 62) (fun i _ => t.elem.length - (intOf i).toNat)
      case atStart => exact ⟨0, _, by omega, rfl, by simpa using PA.out⟩
      case round =>
        clear PA
        obtain ⟨k, v2, hk, rfl, hP⟩ := hrel
        have c75 : ∀ o, (wr.alloc o).cell? ⟨w.heap.size, 0, none⟩ = some (.pointer (some ⟨wb, 0, none⟩)) := fun o => (hP.r1.alloc o).cell 0
        by_cases h3 : k < t.elem.length
        · obtain ⟨b, o, e, kk, nn, s2, q2, r2, s3, q3, r3, ⟨x0, x1, x2, x3⟩, hq⟩ := HA.out k h3 wr hP.bel
          subst e
          have i1 : (k : Int) < (t.elem.length : Int) := by omega
          have D : Hid (∀ o, _) := fun o => CR.out wr v2 _ k h3 o kk nn s2 q2 r2 s3 q3 r3 hP hq (by
            have := flat_at_le (tyB n) t.elem k h3
            have := HACC.out
            rw [List.length_append]; omega)
          have HL := hidS (flat_snoc (tyB n) t.elem k h3)
          clear HA CR hP hq HM
          go_wp2_with fail
          refine (D.out _).mono ?_
          rintro _ w3 ⟨rfl, v3, P3⟩
          clear D
          go_wp2_with fail
          go_roundw
          case rel => exact ⟨k + 1, v3, by omega, by go_num, by rw [HL.out, ← List.append_assoc]; exact P3⟩
          case measure => simp [intOf]; omega
        · have i1 : ¬ (k : Int) < (t.elem.length : Int) := by omega
          obtain rfl : k = t.elem.length := by omega
          rw [List.take_length] at hP
          have HF := hidS (HM.out wr v2 _ hP HEQ.out)
          clear HA CR hP HM c75
          go_wp2_with fail
          go_end0
          exact ⟨rfl, HF.out⟩
  have HK : Hid (kiB t = []) := hidS (by unfold kiB; rw [if_neg k3, if_neg k45])
  have q3 : (t.kind == 3) = false := by rw [beq_eq_false_iff_ne]; exact k3
  have q4 : (t.kind == 4) = false := by rw [beq_eq_false_iff_ne]; exact fun h => k45 (.inl h)
  have q5 : (t.kind == 5) = false := by rw [beq_eq_false_iff_ne]; exact fun h => k45 (.inr h)
  replace k3 := hidS k3
  replace k45 := hidS k45
  go_enter Tryz.func121, Tryz.ntmps121
  go_wp2_with fail
  refine CU.out.mono ?_
  rintro _ w1 ⟨rfl, v1, P1⟩
  have a75 : _ = some (Value.pointer (some ⟨wb, 0, none⟩)) := P1.r1.cell 0
  have b0 : _ = some (Value.int .i64 t.kind) := P1.r2.cell 0
  have b1 : _ = some (Value.string (str t.name)) := P1.r2.cell 1
  have b2 : _ = some (Value.slice t2 m2 d2) := P1.r2.cell 2
  have b3 : _ = some (Value.slice t3 t.elem.length d3) := P1.r2.cell 3
  have PA := hidS P1
  have HEQ : Hid ((a ++ enc t.kind.toNat) ++ (t.elem.map (tyB n)).flatten = a ++ tyB (n + 1) t) := hidS (by rw [HT.out, HK.out]; first | (simp only [List.append_assoc]; done) | simp only [List.append_assoc, List.nil_append])
  have HACC : Hid ((a ++ enc t.kind.toNat).length + ((t.elem.map (tyB n)).flatten).length ≤ 700000000) := hidS (by rw [← List.length_append, HEQ.out, List.length_append]; exact hlen)
  clear P1 CU CT CL
  go_wp2_with fail
  generalize hACC : a ++ enc t.kind.toNat = ACC at *
  clear hACC
  go_loopw [34] (fun i wr => ∃ (k : Nat) (v2 : Value), k ≤ t.elem.length ∧ i = .int .i64 k ∧ Ps B w wr wb v2 (ACC ++ ((t.elem.take k).map (tyB n)).flatten) w.heap.size (w.heap.size + 1) [.int .i64 t.kind, .string (str t.name), .slice t2 m2 d2, .slice t3 t.elem.length d3] 62) (fun i _ => t.elem.length - (intOf i).toNat)
  case atStart => exact ⟨0, _, by omega, rfl, by simpa using PA.out⟩
  case round =>
    clear PA
    obtain ⟨k, v2, hk, rfl, hP⟩ := hrel
    have c75 : ∀ o, (wr.alloc o).cell? ⟨w.heap.size, 0, none⟩ = some (.pointer (some ⟨wb, 0, none⟩)) := fun o => (hP.r1.alloc o).cell 0
    by_cases h3 : k < t.elem.length
    · obtain ⟨b, o, e, kk, nn, s2, q2, r2, s3, q3, r3, ⟨x0, x1, x2, x3⟩, hq⟩ := HA.out k h3 wr hP.bel
      subst e
      have i1 : (k : Int) < (t.elem.length : Int) := by omega
      have D : Hid (∀ o, _) := fun o => CR.out wr v2 _ k h3 o kk nn s2 q2 r2 s3 q3 r3 hP hq (by
        have := flat_at_le (tyB n) t.elem k h3
        have := HACC.out
        rw [List.length_append]; omega)
      have HL := hidS (flat_snoc (tyB n) t.elem k h3)
      clear HA CR hP hq HM
      go_wp2_with fail
      refine (D.out _).mono ?_
      rintro _ w3 ⟨rfl, v3, P3⟩
      clear D
      go_wp2_with fail
      go_roundw
      case rel => exact ⟨k + 1, v3, by omega, by go_num, by rw [HL.out, ← List.append_assoc]; exact P3⟩
      case measure => simp [intOf]; omega
    · have i1 : ¬ (k : Int) < (t.elem.length : Int) := by omega
      obtain rfl : k = t.elem.length := by omega
      rw [List.take_length] at hP
      have HF := hidS (HM.out wr v2 _ hP HEQ.out)
      clear HA CR hP HM c75
      go_wp2_with fail
      go_end0
      exact ⟨rfl, HF.out⟩

theorem putType_all : ∀ n : Nat, TyC n
  | 0 => fun _ _ _ _ _ _ _ h => h.elim
  | n + 1 => putType_of (putType_all n)
end Go.Proofs.YtmopffaocamieaaGreat

namespace Go.Proofs.YtmopffaocamieaaGreat
open Go.RowKit

/-- The function f writes bs behind what was written. -/
def Wc (B wb f : Nat) (cs : List Value) (w : World) (bs : Bs) : Prop := ∀ (v : Value) (a : Bs), Wr B w wb v a → a.length + bs.length ≤ 700000000 →
    Calls Tryz.prog f #[.agg #[.pointer (some ⟨wb, 0, none⟩)], .agg cs.toArray] w fun ev w' => ev = .returned (.tuple #[]) ∧ ∃ v', Wr B w' wb v' (a ++ bs) ∧ Mv w w' wb v v'
/-- A type as it lies in memory has these bytes. -/
structure TyW (K : Ctx) (w : World) (cs : List Value) (t : Ty) (bs : Bs) : Prop where
  shape : ∃ n, TyAt n K w cs t ∧ Kd n t ∧ tyB n t = bs
theorem TyW.below {K : Ctx} {w w' : World} {cs : List Value} {t : Ty} {bs : Bs} (h : TyW K w cs t bs) (hb : Below K.C w w') : TyW K w' cs t bs := by
  obtain ⟨n, h1, h2, h3⟩ := h.shape; exact ⟨n, h1.below hb, h2, h3⟩
theorem TyW.wc {K : Ctx} {B wb : Nat} (hKB : K.C ≤ B) {w : World} {cs : List Value} {t : Ty} {bs : Bs} (h : TyW K w cs t bs) : Wc B wb 121 cs w bs := by
  obtain ⟨n, h1, h2, rfl⟩ := h.shape
  intro v a hw hl
  exact putType_all n K B wb hKB w cs t h1 h2 v a hw hl
/-- A field as it lies in memory, its type's bytes. -/
structure FldW (K : Ctx) (w : World) (cs : List Value) (x : Fld) (bs : Bs) : Prop where
  shape : ∃ ts, cs = .bool x.mu :: .string (str x.name) :: ts ∧ TyW K w ts x.ty bs
theorem FldW.below {K : Ctx} {w w' : World} {cs : List Value} {x : Fld} {bs : Bs} (h : FldW K w cs x bs) (hb : Below K.C w w') : FldW K w' cs x bs := by
  obtain ⟨ts, e, h1⟩ := h.shape; exact ⟨ts, e, h1.below hb⟩

set_option maxHeartbeats 4000000 in
theorem putField_any {K : Ctx} {B wb : Nat} (hKB : K.C ≤ B) {w : World} {cs : List Value} {x : Fld} {bs : Bs} (hx : FldW K w cs x bs) : Wc B wb 117 cs w (txB x.name ++ bs) := by
  intro v a hW hlen
  obtain ⟨ts, rfl, ht⟩ := hx.shape
  obtain ⟨t2, m2, d2, t3, m3, d3, rfl⟩ := (show IsTy K w ts x.ty from (by obtain ⟨n, h1, _⟩ := ht.shape; exact ⟨n, h1⟩)).open
  have hc0 := hidS hW.cell
  have P0 := Ps.first hW [.bool x.mu, .string (str x.name), .int .i64 x.ty.kind, .string (str x.ty.name), .slice t2 m2 d2, .slice t3 m3 d3] 82
  rw [List.length_append] at hlen
  have C1 : Hid (Calls Tryz.prog 66 #[.pointer (some ⟨wb, 0, none⟩), .string (str x.name)] ((w.alloc (.cells #[.pointer (some ⟨wb, 0, none⟩)] 75)).alloc (.cells #[.bool x.mu, .string (str x.name), .int .i64 x.ty.kind, .string (str x.ty.name), .slice t2 m2 d2, .slice t3 m3 d3] 82)) fun ev w' => ev = .returned (.tuple #[]) ∧ ∃ v', Ps B w w' wb v' (a ++ txB x.name) w.heap.size (w.heap.size + 1) [.bool x.mu, .string (str x.name), .int .i64 x.ty.kind, .string (str x.ty.name), .slice t2 m2 d2, .slice t3 m3 d3] 82) := by
    refine (wTx_any B wb x.name v a _ P0.wr (by omega)).mono ?_
    rintro _ w1 ⟨rfl, v', h1, h2⟩
    exact ⟨rfl, v', P0.mv h1 h2⟩
  have C2 : Hid (∀ w1 v1, Ps B w w1 wb v1 (a ++ txB x.name) w.heap.size (w.heap.size + 1) [.bool x.mu, .string (str x.name), .int .i64 x.ty.kind, .string (str x.ty.name), .slice t2 m2 d2, .slice t3 m3 d3] 82 → Calls Tryz.prog 121 #[.agg #[.pointer (some ⟨wb, 0, none⟩)], .agg #[.int .i64 x.ty.kind, .string (str x.ty.name), .slice t2 m2 d2, .slice t3 m3 d3]] w1 fun ev w' => ev = .returned (.tuple #[]) ∧ ∃ v', Wr B w' wb v' (a ++ (txB x.name ++ bs)) ∧ Mv w w' wb v v') := by
    intro w1 v1 P1
    refine ((ht.below (below_le P1.bel hKB)).wc hKB v1 _ P1.wr (by rw [List.length_append]; omega)).mono ?_
    rintro _ w2 ⟨rfl, v', h1, h2⟩
    have P2 := P1.mv h1 h2
    obtain ⟨v0, e0, q⟩ := P2.all
    rw [hc0.out] at e0
    cases e0
    exact ⟨rfl, v', by rw [← List.append_assoc]; exact h1, q⟩
  clear P0 hW ht hx hc0
  generalize str x.name = NM at *
  generalize str x.ty.name = TN at *
  generalize x.ty.kind = TK at *
  generalize x.mu = MU at *
  go_enter Tryz.func117, Tryz.ntmps117
  go_wp2_with fail
  refine C1.out.mono ?_
  rintro _ w1 ⟨rfl, v1, P1⟩
  have a75 : _ = some (Value.pointer (some ⟨wb, 0, none⟩)) := P1.r1.cell 0
  have b2 : _ = some (Value.int .i64 TK) := P1.r2.cell 2
  have b3 : _ = some (Value.string TN) := P1.r2.cell 3
  have b4 : _ = some (Value.slice t2 m2 d2) := P1.r2.cell 4
  have b5 : _ = some (Value.slice t3 m3 d3) := P1.r2.cell 5
  have D := hidS (C2.out w1 v1 P1)
  clear C1 C2 P1
  go_wp2_with fail
  refine D.out.mono ?_
  rintro _ w2 ⟨rfl, hv⟩
  go_wp2_with fail
  go_end0
  exact ⟨rfl, hv⟩
end Go.Proofs.YtmopffaocamieaaGreat
