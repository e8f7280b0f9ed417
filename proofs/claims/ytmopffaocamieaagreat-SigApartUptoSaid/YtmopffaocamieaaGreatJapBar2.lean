/-
  The texts Bar, Rws, joined.
-/
import Derived.Test.YtmopffaocamieaaGreatQapOwi
import Derived.Test.YtmopffaocamieaaGreatQapMfd
import Derived.Test.YtmopffaocamieaaGreatJapSpa3
namespace Go.Proofs.YtmopffaocamieaaGreat
open Go.RowKit

set_option maxHeartbeats 8000000 in
theorem bare_any {n : Nat} {K : Ctx} {w : World} (hC : K.C ≤ w.heap.size) {c : Crt} {cs : List Value} (hx : CrtAt n K w cs c) :
    Calls Tryz.prog 25 #[.agg cs.toArray] w fun ev w' => ∃ u0 u1, ev = .returned (.agg #[u0, u1]) ∧ Below w.heap.size w w' ∧ CrtQ n (Fr w w') K.B w' [u0, u1] (bareC n c) := by
  obtain ⟨v0, v1, rfl, h0, h1⟩ := hx
  obtain ⟨w2, hw2⟩ : ∃ w2, w2 = (w.alloc (.cells #[v0, v1] 25)).alloc (.cells #[.slice none 0 0, .slice none 0 0] 25) := ⟨_, rfl⟩
  have hA : Below w.heap.size w w2 := by rw [hw2]; exact alloc_two w _ _
  have hsz : w2.heap.size = w.heap.size + 2 := by rw [hw2, size_alloc, size_alloc]
  have R1 : Row w2 w.heap.size 25 [v0, v1] := by rw [hw2]; exact (Row.new w 25 [v0, v1]).alloc _
  have R2 : Row w2 (w.heap.size + 1) 25 [.slice none 0 0, .slice none 0 0] := by
    have := Row.new (w.alloc (.cells #[v0, v1] 25)) 25 [.slice none 0 0, .slice none 0 0]
    rw [size_alloc] at this; rw [hw2]; exact this
  have hK := below_le hA hC
  have T0 : Hid (Calls Tryz.prog 58 #[.pointer (some ⟨w.heap.size, 0, none⟩), .func (.func 59) #[] #[]] ((w.alloc (.cells #[v0, v1] 25)).alloc (.cells #[.slice none 0 0, .slice none 0 0] 25)) fun ev w' => ev = .returned (.tuple #[]) ∧ ∃ u0, Stay (fun k => k = w.heap.size) w2 w' ∧ Row w' w.heap.size 25 [u0, v1] ∧ ArQ 5 80 (SctQ (Fr w2 w') K.B w') (Fr w2 w') w' u0 (c.structs.map bareSc)) := by
    rw [← hw2]
    refine (ownScts_any (A := []) (R := [v1]) R1 rfl (h0.mono hK fun _ _ _ h => h.below hK) hC).mono ?_
    rintro _ w' ⟨rfl, u0, s1, r1, q1⟩
    exact ⟨rfl, u0, s1, r1, q1⟩
  have T1 : Hid (∀ w3 u0, Stay (fun k => k = w.heap.size) w2 w3 → Row w3 w.heap.size 25 [u0, v1] → ArQ 5 80 (SctQ (Fr w2 w3) K.B w3) (Fr w2 w3) w3 u0 (c.structs.map bareSc) → Calls Tryz.prog 60 #[.pointer (some ⟨w.heap.size, 1, none⟩), .func (.func 61) #[] #[]] w3 fun ev w' => ev = .returned (.tuple #[]) ∧
      ∃ a0 n0 p0 a1 n1 p1, w'.cell? ⟨w.heap.size, 0, none⟩ = some (.slice a0 n0 p0) ∧ w'.cell? ⟨w.heap.size, 1, none⟩ = some (.slice a1 n1 p1) ∧ Row w' (w.heap.size + 1) 25 [.slice none 0 0, .slice none 0 0] ∧ Below w.heap.size w w' ∧ w.heap.size + 2 ≤ w'.heap.size ∧ CrtQ n (Fr w2 w') K.B w' [.slice a0 n0 p0, .slice a1 n1 p1] (bareC n c)) := by
    intro w3 u0 s1 r1 q1
    have hb3 : Below K.C w w3 := hK.trans (s1.below (by omega) (fun q hq => by omega))
    have z3 := s1.size
    refine (ownFncs_any n (A := [u0]) (R := []) r1 rfl (h1.mono hb3 fun _ _ _ h => h.below hb3) hC).mono ?_
    rintro _ w' ⟨rfl, u1, s2, r2, q2⟩
    have z4 := s2.size
    have R2' := s2.row (s1.row R2 (by omega)) (by omega)
    have k1 : Kp (Fr w2 w3) (Fr w2 w') w3 w' := Kp.fr s2 (by omega) (Nat.le_refl _)
    have k2 : Kp (Fr w3 w') (Fr w2 w') w' w' := Kp.fr' z3
    obtain ⟨a0, p0, e0⟩ := q1.form
    obtain ⟨a1, p1, e1⟩ := q2.form
    subst e0 e1
    exact ⟨rfl, a0, _, p0, a1, _, p1, r2.cell 0, r2.cell 1, R2', hA.trans ((s1.trans s2).below (by omega) (fun q hq => by omega)), by omega, _, _, rfl, q1.mono k1 fun _ _ _ h => h.mono k1, q2.mono k2 fun _ _ _ h => h.mono k2⟩
  obtain ⟨a0, c0, e0⟩ := h0.form
  obtain ⟨a1, c1, e1⟩ := h1.form
  subst e0 e1
  clear h0 h1 hA hK R1 R2
  generalize c.structs.length = n0 at *
  generalize c.funcs.length = n1 at *
  have HSZ : Hid (w2.heap.size = w.heap.size + 2) := hsz
  clear hw2 hsz
  go_enter Tryz.func25, Tryz.ntmps25
  go_wp2_with fail
  refine T0.out.mono ?_
  rintro _ w3 ⟨rfl, u0, s1, r1, q1⟩
  have D := hidO (T1.out w3 u0 s1 r1 q1)
  clear T0 T1 s1 r1 q1
  go_wp2_with fail
  refine D.out.mono ?_
  rintro _ w4 ⟨rfl, b0, m0, p0, b1, m1, p1, k0, k1, R4, hb, hz, hq⟩
  clear D
  have z0 := R4.fz 0
  have z1 := R4.fz 1
  have y0 := R4.cell 0
  have y1 := R4.cell 1
  simp only [List.getElem?_cons_zero, List.getElem?_cons_succ] at y0 y1
  have HF : Hid (∀ W, W = (w4.setCell ⟨w.heap.size + 1, 0, none⟩ (.slice b0 m0 p0)).setCell ⟨w.heap.size + 1, 1, none⟩ (.slice b1 m1 p1) → W.heap[w.heap.size + 1]? = some (.cells #[.slice b0 m0 p0, .slice b1 m1 p1] 25 (0, 0)) ∧ Below w.heap.size w W ∧ CrtQ n (Fr w W) K.B W [.slice b0 m0 p0, .slice b1 m1 p1] (bareC n c)) := by
    rintro W rfl
    have hs2 := HSZ.out
    have R5 := (R4.set 0 (.slice b0 m0 p0)).set 1 (.slice b1 m1 p1)
    have s5 : Stay (fun k => k = w.heap.size + 1) w4 ((w4.setCell ⟨w.heap.size + 1, 0, none⟩ (.slice b0 m0 p0)).setCell ⟨w.heap.size + 1, 1, none⟩ (.slice b1 m1 p1)) :=
      Stay.set (X := fun k => k = w.heap.size + 1) (Stay.set (X := fun k => k = w.heap.size + 1) (Stay.refl _ _) (fun _ => rfl) _ _) (fun _ => rfl) _ _
    exact ⟨R5.heap, hb.trans (s5.below (by omega) (fun q hq => by omega)), hq.mono (Kp.fr s5 (by omega) (by omega))⟩
  clear R4 hb hq hz
  go_wp2_with fail
  obtain ⟨g1, g2, g3⟩ := HF.out _ rfl
  refine bodyPost_ret (v := .agg #[.slice b0 m0 p0, .slice b1 m1 p1]) (results_cell_row Tryz.results25 _ _ (w.heap.size + 1) 25 _ (0, 0) _ rfl g1 Tryz.underlying25 rfl (by kernel_rfl)) rfl ⟨_, _, rfl, g2, g3⟩
end Go.Proofs.YtmopffaocamieaaGreat

namespace Go.Proofs.YtmopffaocamieaaGreat
open Go.RowKit

theorem own_sameR {w w' : World} {B t s n : Nat} {v : Value} {xs : List Value} (h : w.ownsRow B t s v n xs) (hs : ∀ k, v.ownBlock = some k → w'.heap[k]? = w.heap[k]?) : w'.ownsRow B t s v n xs := by
  refine ⟨h.1, ?_⟩
  rcases h.2 with hn | ⟨g, cap, cur, rfl, hb, hgg, rest⟩
  · exact .inl hn
  · exact .inr ⟨g, cap, cur, rfl, hb, by rw [hs g rfl]; exact hgg, rest⟩
/-- A row of one's own, all of it from block B on, holds these things. -/
def Rws {α : Type} (z t : Nat) (P : List Value → α → Prop) (B : Nat) (w : World) (v : Value) (l : List α) : Prop := ∃ L, Cel z P L l ∧ w.ownsRow B t z v l.length L.flatten
theorem Rws.nil {α : Type} {z t : Nat} {P : List Value → α → Prop} {B : Nat} {w : World} : Rws z t P B w (.slice none 0 0) ([] : List α) :=
  ⟨[], ⟨rfl, fun i h => by cases h⟩, World.ownsRow_nil _ _ _ _⟩
theorem Rws.stay {α : Type} {z t : Nat} {P : List Value → α → Prop} {B : Nat} {w w' : World} {v : Value} {l : List α} {X : Nat → Prop} (h : Rws z t P B w v l) (hs : Stay X w w') (hX : ∀ k, X k → k < B) : Rws z t P B w' v l := by
  obtain ⟨L, hc, ho⟩ := h
  exact ⟨L, hc, own_sameR ho fun k e => hs.block k (ho.lt k e).2 (fun hx => by have := hX k hx; have := (ho.lt k e).1; omega)⟩
theorem Rws.past {α : Type} {z t : Nat} {P : List Value → α → Prop} {B : Nat} {w w' : World} {v : Value} {l : List α} (h : Rws z t P B w v l) (hb : Below w.heap.size w w') : Rws z t P B w' v l :=
  h.stay (X := fun _ => False) (Stay.of_below hb) (fun _ h => h.elim)
theorem Rws.form {α : Type} {z t : Nat} {P : List Value → α → Prop} {B : Nat} {w : World} {v : Value} {l : List α} (h : Rws z t P B w v l) : ∃ ao cap, v = .slice ao l.length cap := by
  obtain ⟨L, _, ho⟩ := h; exact own_slice ho
/-- One more: the struct has been laid in a row by itself. -/
theorem wpl_add {α : Type} {ops : Array Oper} {rest : List Oper} {o : Oper} {a : Act} {Q : Exit → Act → World → Prop} {w : World} {B t e z bz g : Nat} {Z : Value} {v : Value} {P : List Value → α → Prop} {l : List α} {x : α} {cs : List Value} (hgd : o.guard = none) (s y : Operand) (ho : o.op = .call { callee := .builtin .append, args := #[s, y], argTypes := #[t, t] })
    (hu : Tryz.prog.underlying t = some (.slice e)) (hz : (Tryz.prog.info? e).map (fun i => (i.zero, i.size, i.bytes)) = some (some Z, z, bz)) (hZ : Z.cells.size = z) (h0 : 0 < z) (hs : a.eval s = v) (hy : a.eval y = .slice (some ⟨g, 0, none⟩) 1 1)
    (hr : Rws z e P B w v l) (hB : B ≤ w.heap.size) (hg : Row w g e cs) (hl : cs.length = z) (h1 : ∀ x ∈ cs, x.oneCell' = true) (hp : P cs x) (hn : l.length ≤ 90000) (hbz : bz ≤ 1000)
    (k : ∀ ao c w', Rws z e P B w' (.slice ao (l.length + 1) c) (l ++ [x]) → Below B w w' → wpList Tryz.prog ops Q rest (a.put o.dst (.slice ao (l.length + 1) c)) w') : wpList Tryz.prog ops Q (o :: rest) a w := by
  obtain ⟨L, hc, hown⟩ := hr
  refine wpl_appS hgd s y ho hu hz hZ h0 hs hy hown hB (m := 1) (news := cs) ⟨some ⟨g, 0, none⟩, 1, rfl, (by simp), fun j u hj => ⟨g, 0, rfl, by rw [Nat.zero_add, hg.cell]; exact hj⟩⟩ (by omega) h1 (by omega) hbz ?_
  rintro v' w' ho' hb ⟨ao, c, rfl⟩
  refine k ao c w' ⟨L ++ [cs], hc.app (Cel.one hl hp h1), ?_⟩ hb
  rw [List.length_append, List.length_singleton, List.flatten_append, List.flatten_cons, List.flatten_nil, List.append_nil]
  exact ho'
/-- The parts of a struct, one by one. -/
theorem SctAt.open {K : Ctx} {w : World} {cs : List Value} {x : Sct} (h : SctAt K w cs x) : ∃ a2 n2 c2 a3 n3 c3, cs = [.bool x.pub, .string (str x.name), .slice a2 n2 c2, .slice a3 n3 c3, .int .i64 x.pos] := by
  obtain ⟨v2, v3, rfl, _, h1, h2⟩ := h
  obtain ⟨a2, c2, rfl⟩ := h1.form
  obtain ⟨a3, c3, rfl⟩ := h2.form
  exact ⟨_, _, _, _, _, _, rfl⟩
theorem FncAt.open {n : Nat} {K : Ctx} {w : World} {cs : List Value} {x : Fnc} (h : FncAt n K w cs x) : ∃ a2 n2 c2 a3 n3 c3 t2 m2 d2 t3 m3 d3 a8 c8, cs = [.bool x.pub, .string (str x.name), .slice a2 n2 c2, .slice a3 n3 c3, .int .i64 x.result.kind, .string (str x.result.name), .slice t2 m2 d2, .slice t3 m3 d3, .slice a8 x.body.length c8, .int .i64 x.pos] := by
  obtain ⟨v2, v3, ts, v8, rfl, _, h1, h2, h3, h4⟩ := h
  obtain ⟨a2, c2, rfl⟩ := h1.form
  obtain ⟨a3, c3, rfl⟩ := h2.form
  obtain ⟨a8, c8, rfl⟩ := h4.form
  obtain ⟨t2, m2, d2, t3, m3, d3, rfl⟩ := h3.open
  exact ⟨_, _, _, _, _, _, _, _, _, _, _, _, _, _, rfl⟩
/-- A struct whose pub is turned, a function some of whose cells are. -/
theorem SctAt.setPub {K : Ctx} {w : World} {cs : List Value} {x : Sct} (h : SctAt K w cs x) (b : Bool) : SctAt K w (cs.set 0 (.bool b)) { x with pub := b } := by
  obtain ⟨v2, v3, rfl, h0, h1, h2⟩ := h
  exact ⟨v2, v3, rfl, h0, h1, h2⟩
theorem FncAt.setPub {n : Nat} {K : Ctx} {w : World} {cs : List Value} {x : Fnc} (h : FncAt n K w cs x) (b : Bool) : FncAt n K w (cs.set 0 (.bool b)) { x with pub := b } := by
  obtain ⟨v2, v3, ts, v8, rfl, h0, h1, h2, h3, h4⟩ := h
  exact ⟨v2, v3, ts, v8, rfl, h0, h1, h2, h3, h4⟩
theorem FncAt.setBody {n : Nat} {K : Ctx} {w : World} {cs : List Value} {x : Fnc} (h : FncAt n K w cs x) {u : Value} {l : List St} (hu : Ar 32 496 (StAt n K w) K w u l) (p : Int) : FncAt n K w ((cs.set 8 u).set 9 (.int .i64 p)) { x with body := l, pos := p } := by
  obtain ⟨v2, v3, ts, v8, rfl, h0, h1, h2, h3, h4⟩ := h
  obtain ⟨t2, m2, d2, t3, m3, d3, rfl⟩ := h3.open
  exact ⟨v2, v3, _, u, rfl, h0, h1, h2, h3, hu⟩
end Go.Proofs.YtmopffaocamieaaGreat
