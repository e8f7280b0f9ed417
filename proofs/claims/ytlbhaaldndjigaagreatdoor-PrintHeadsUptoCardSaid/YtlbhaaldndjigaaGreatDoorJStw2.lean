/-
  The texts Stw, Blw, joined.
-/
import Derived.Test.YtlbhaaldndjigaaGreatDoorJVk63
namespace Go.Proofs.YtlbhaaldndjigaaGreatDoor
open Go.RowKit

structure Stx (n : Nat) (K : Ctx) (w : World) (bx ox : Nat) (s : St) : Prop where
  bC : bx < K.C
  c0 : w.cell? ⟨bx, ox, none⟩ = some (.int .i64 s.kind)
  c2 : w.cell? ⟨bx, ox + 2, none⟩ = some (.bool s.mu)
  c3 : w.cell? ⟨bx, ox + 3, none⟩ = some (.string (str s.name))
  c8 : w.cell? ⟨bx, ox + 8, none⟩ = some (.bool s.has)
  ty : ∃ ts m, TyAt m K w ts s.ty ∧ Lies K w 4 bx (ox + 4) ts
  pl : ∃ ps, PlAt K w ps s.place ∧ Lies K w 2 bx (ox + 9) ps
  va : ∃ vs, VaAt K w vs s.val ∧ Lies K w 15 bx (ox + 11) vs
  co : ∃ os, OprAt K w os s.cond ∧ Lies K w 4 bx (ox + 26) os
  th : ∃ ao cap, w.cell? ⟨bx, ox + 30, none⟩ = some (.slice ao s.thn.length cap) ∧ Ar 32 496 (StAt n K w) K w (.slice ao s.thn.length cap) s.thn
  el : ∃ ao cap, w.cell? ⟨bx, ox + 31, none⟩ = some (.slice ao s.els.length cap) ∧ Ar 32 496 (StAt n K w) K w (.slice ao s.els.length cap) s.els
theorem StAt.at {n : Nat} {K : Ctx} {w : World} {cs : List Value} {s : St} (h : StAt (n + 1) K w cs s) {bx ox : Nat} (hl : Lies K w 32 bx ox cs) : Stx n K w bx ox s := by
  obtain ⟨ts, ps, vs, os, vt, ve, rfl, hn, ⟨m, ht⟩, hp, hv, ho, h6, h7⟩ := h
  have l1 := ht.len4
  have l2 : ps.length = 2 := by obtain ⟨v, rfl, _⟩ := hp; rfl
  have l3 : vs.length = 15 := hv.len
  have l4 : os.length = 4 := ho.len
  obtain ⟨a6, c6, rfl, -⟩ := id h6.shape
  obtain ⟨a7, c7, rfl, -⟩ := id h7.shape
  have p1 : Lies K w 4 bx (ox + 4) ts := by
    have := hl.part [.int .i64 s.kind, .int .i64 s.pos, .bool s.mu, .string (str s.name)] _ ts rfl 4 rfl (by omega)
    rwa [l1] at this
  have p2 : Lies K w 1 bx (ox + 8) [.bool s.has] := hl.part (.int .i64 s.kind :: .int .i64 s.pos :: .bool s.mu :: .string (str s.name) :: ts) _ [.bool s.has] (by simp; rfl) 8 (by simp [l1]) (by simp)
  have p3 : Lies K w 2 bx (ox + 9) ps := by
    have := hl.part (.int .i64 s.kind :: .int .i64 s.pos :: .bool s.mu :: .string (str s.name) :: (ts ++ [.bool s.has])) _ ps (by simp; rfl) 9 (by simp [l1]) (by omega)
    rwa [l2] at this
  have p4 : Lies K w 15 bx (ox + 11) vs := by
    have := hl.part (.int .i64 s.kind :: .int .i64 s.pos :: .bool s.mu :: .string (str s.name) :: (ts ++ (.bool s.has :: ps))) _ vs (by simp; rfl) 11 (by simp [l1, l2]) (by omega)
    rwa [l3] at this
  have p5 : Lies K w 4 bx (ox + 26) os := by
    have := hl.part (.int .i64 s.kind :: .int .i64 s.pos :: .bool s.mu :: .string (str s.name) :: (ts ++ (.bool s.has :: (ps ++ vs)))) _ os (by simp; rfl) 26 (by simp [l1, l2, l3]) (by omega)
    rwa [l4] at this
  have p6 : Lies K w 2 bx (ox + 30) [.slice a6 s.thn.length c6, .slice a7 s.els.length c7] := hl.part (.int .i64 s.kind :: .int .i64 s.pos :: .bool s.mu :: .string (str s.name) :: (ts ++ (.bool s.has :: (ps ++ (vs ++ os))))) [] [.slice a6 s.thn.length c6, .slice a7 s.els.length c7] (by simp) 30 (by simp [l1, l2, l3, l4]) (by simp)
  exact ⟨hl.1, hl.2 0 (by decide), hl.2 2 (by decide), hl.2 3 (by decide), p2.2 0 (by decide), ⟨ts, m, ht, p1⟩, ⟨ps, hp, p3⟩, ⟨vs, hv, p4⟩, ⟨os, ho, p5⟩, ⟨a6, c6, p6.2 0 (by decide), h6⟩, ⟨a7, c7, p6.2 1 (by decide), h7⟩⟩
theorem Stx.below {n : Nat} {K : Ctx} {w w' : World} {bx ox : Nat} {s : St} (h : Stx n K w bx ox s) (hb : Below K.C w w') : Stx n K w' bx ox s := by
  have cc : ∀ {j v}, w.cell? ⟨bx, j, none⟩ = some v → w'.cell? ⟨bx, j, none⟩ = some v := fun {j v} e => (hb.cell (p := ⟨bx, j, none⟩) h.bC).trans e
  obtain ⟨ts, m, h1, h2⟩ := h.ty
  obtain ⟨ps, h3, h4⟩ := h.pl
  obtain ⟨vs, h5, h6⟩ := h.va
  obtain ⟨os, h7, h8⟩ := h.co
  obtain ⟨a1, c1, h9, h10⟩ := h.th
  obtain ⟨a2, c2, h11, h12⟩ := h.el
  exact ⟨h.bC, cc h.c0, cc h.c2, cc h.c3, cc h.c8, ⟨ts, m, h1.below hb, h2.below hb⟩, ⟨ps, h3.below hb, h4.below hb⟩, ⟨vs, h5.below hb, h6.below hb⟩, ⟨os, h7.below hb, h8.below hb⟩, ⟨a1, c1, cc h9, h10.mono hb fun _ _ _ h => h.below hb⟩, ⟨a2, c2, cc h11, h12.mono hb fun _ _ _ h => h.below hb⟩⟩

set_option maxHeartbeats 4000000 in
theorem valueIfAny_any {N : Nat} {K : Ctx} (hK : 1 < K.C) {b bx ox : Nat} {S : Bs} {n : Int} {w : World} (tb : Tb w) {s : St} (hm : s.has = true → MayVa s.val) (hx : Stx N K w bx ox s) (bef : Bs) (h : Wtr K.C b S n w) (hlen : S.length + (endT Lib.itoa bef s.has s.val).length ≤ 140737488355328) :
    Calls Tryz.prog 132 #[.pointer (some ⟨b, 0, none⟩), .string (str bef), .pointer (some ⟨bx, ox, none⟩)] w fun e w' => e = .returned (.tuple #[]) ∧ Wtr K.C b (S ++ endT Lib.itoa bef s.has s.val) n w' ∧ Fr K.C w w' := by
  have c8 := hx.c8
  obtain ⟨vs, hv, hvl⟩ := hx.va
  cases hh : s.has
  · rw [hh] at hlen c8
    have D : Hid (Calls Tryz.prog 47 #[.pointer (some ⟨b, 0, none⟩), .slice (some ⟨w.heap.size, 0, none⟩) 1 1] (w.alloc (.cells #[.string (str [59])] 9)) fun e w' => e = .returned (.tuple #[]) ∧ Wtr K.C b (S ++ endT Lib.itoa bef false s.val) n w' ∧ Fr K.C w w') := put1 h [59] hlen
    clear h hlen hx hv hvl hm hh tb
    go_enter Tryz.func132, Tryz.ntmps132
    go_wp2_with fail
    refine D.out.mono ?_
    rintro ev w1 ⟨rfl, p1, q1⟩
    go_wp2_with fail
    go_end0
    exact ⟨rfl, p1, q1⟩
  · rw [hh] at hlen c8
    have e0 : endT Lib.itoa bef true s.val = bef ++ valT Lib.itoa s.val ++ [59] := rfl
    rw [e0] at hlen ⊢
    simp only [List.length_append, List.length_cons, List.length_nil] at hlen
    have D1 : Hid (Calls Tryz.prog 47 #[.pointer (some ⟨b, 0, none⟩), .slice (some ⟨w.heap.size, 0, none⟩) 1 1] (w.alloc (.cells #[.string (str bef)] 9)) fun e w' => e = .returned (.tuple #[]) ∧ Wtr K.C b (S ++ bef) n w' ∧ Fr K.C w w') := put1 h bef (by omega)
    have D2 : Hid (∀ y, Fr K.C w y → Wtr K.C b (S ++ bef) n y → Calls Tryz.prog 130 #[.pointer (some ⟨b, 0, none⟩), .pointer (some ⟨bx, ox + 11, none⟩)] y fun e w' => e = .returned (.tuple #[]) ∧ Wtr K.C b (S ++ bef ++ valT Lib.itoa s.val) n w' ∧ Fr K.C y w') := fun y hy hw => value_any hK (tb.below hy.below hK) (hm hh) (hv.below hy.below) (hvl.below hy.below) hw (by rw [List.length_append]; omega)
    have D3 : Hid (∀ y, Wtr K.C b (S ++ bef ++ valT Lib.itoa s.val) n y → Calls Tryz.prog 47 #[.pointer (some ⟨b, 0, none⟩), .slice (some ⟨y.heap.size, 0, none⟩) 1 1] (y.alloc (.cells #[.string (str [59])] 9)) fun e w' => e = .returned (.tuple #[]) ∧ Wtr K.C b (S ++ bef ++ valT Lib.itoa s.val ++ [59]) n w' ∧ Fr K.C y w') := fun y hw => put1 hw [59] (by simp only [List.length_append, List.length_cons, List.length_nil]; omega)
    clear h hlen hx hv hvl hm hh tb e0
    generalize valT Lib.itoa s.val = TV at *
    go_enter Tryz.func132, Tryz.ntmps132
    go_wp2_with fail
    refine D1.out.mono ?_
    rintro ev w1 ⟨rfl, p1, q1⟩
    go_wp2_with fail
    refine (D2.out _ q1 p1).mono ?_
    rintro ev w2 ⟨rfl, p2, q2⟩
    go_wp2_with fail
    refine (D3.out _ p2).mono ?_
    rintro ev w3 ⟨rfl, p3, q3⟩
    go_wp2_with fail
    go_end0
    exact ⟨rfl, by simpa [List.append_assoc] using p3, q1.trans (q2.trans q3)⟩

set_option maxHeartbeats 4000000 in
theorem let_any {N : Nat} {K : Ctx} (hK : 1 < K.C) {b bx ox : Nat} {S : Bs} {n : Int} {w : World} (tb : Tb w) {s : St} (hm : s.has = true → MayVa s.val) (hx : Stx N K w bx ox s) (h : Wtr K.C b S n w)
    (hlen : S.length + (([108, 101, 116, 32] : Bs) ++ mutT s.mu ++ (s.name ++ [58, 32]) ++ tyT s.ty ++ endT Lib.itoa [32, 61, 32] s.has s.val).length ≤ 140737488355328) :
    Calls Tryz.prog 128 #[.pointer (some ⟨b, 0, none⟩), .pointer (some ⟨bx, ox, none⟩)] w fun e w' => e = .returned (.tuple #[]) ∧ Wtr K.C b (S ++ (([108, 101, 116, 32] : Bs) ++ mutT s.mu ++ (s.name ++ [58, 32]) ++ tyT s.ty ++ endT Lib.itoa [32, 61, 32] s.has s.val)) n w' ∧ Fr K.C w w' := by
  simp only [List.length_append, List.length_cons, List.length_nil] at hlen
  obtain ⟨ts, m, ht, htl⟩ := hx.ty
  have HX : Hid (∀ y, Fr K.C w y → y.cell? ⟨bx, ox + 2, none⟩ = some (.bool s.mu) ∧ y.cell? ⟨bx, ox + 3, none⟩ = some (.string (str s.name))) := fun y hy => ⟨(hx.below hy.below).c2, (hx.below hy.below).c3⟩
  have D0 : Hid (Calls Tryz.prog 47 #[.pointer (some ⟨b, 0, none⟩), .slice (some ⟨w.heap.size, 0, none⟩) 1 1] (w.alloc (.cells #[.string (str [108, 101, 116, 32])] 9)) fun e w' => e = .returned (.tuple #[]) ∧ Wtr K.C b (S ++ [108, 101, 116, 32]) n w' ∧ Fr K.C w w') := put1 h [108, 101, 116, 32] (by simp only [List.length_cons, List.length_nil]; omega)
  have D1 : Hid (∀ y, Wtr K.C b (S ++ [108, 101, 116, 32]) n y → Calls Tryz.prog 49 #[.pointer (some ⟨b, 0, none⟩), .bool s.mu, .string (str [109, 117, 116, 32])] y fun e w' => e = .returned (.tuple #[]) ∧ Wtr K.C b (S ++ [108, 101, 116, 32] ++ mutT s.mu) n w' ∧ Fr K.C y w') := fun y hw => putIf_any hw s.mu [109, 117, 116, 32] (by unfold mutT at hlen; simp only [List.length_append, List.length_cons, List.length_nil]; omega)
  have D2 : Hid (∀ y, Wtr K.C b (S ++ [108, 101, 116, 32] ++ mutT s.mu) n y → Calls Tryz.prog 47 #[.pointer (some ⟨b, 0, none⟩), .slice (some ⟨y.heap.size, 0, none⟩) 2 2] (y.alloc (.cells #[.string (str s.name), .string (str [58, 32])] 9)) fun e w' => e = .returned (.tuple #[]) ∧ Wtr K.C b (S ++ [108, 101, 116, 32] ++ mutT s.mu ++ (s.name ++ [58, 32])) n w' ∧ Fr K.C y w') := fun y hw => put2 hw _ _ (by simp only [List.length_append, List.length_cons, List.length_nil]; omega)
  have D3 : Hid (∀ y, Fr K.C w y → Wtr K.C b (S ++ [108, 101, 116, 32] ++ mutT s.mu ++ (s.name ++ [58, 32])) n y → Calls Tryz.prog 25 #[.pointer (some ⟨b, 0, none⟩), .pointer (some ⟨bx, ox + 4, none⟩)] y fun e w' => e = .returned (.tuple #[]) ∧ Wtr K.C b (S ++ [108, 101, 116, 32] ++ mutT s.mu ++ (s.name ++ [58, 32]) ++ tyT s.ty) n w' ∧ Fr K.C y w') := fun y hy hw => typeOf_any (ht.below hy.below) (htl.below hy.below) hw (by simp only [List.length_append, List.length_cons, List.length_nil]; omega)
  have D4 : Hid (∀ y, Fr K.C w y → Wtr K.C b (S ++ [108, 101, 116, 32] ++ mutT s.mu ++ (s.name ++ [58, 32]) ++ tyT s.ty) n y → Calls Tryz.prog 132 #[.pointer (some ⟨b, 0, none⟩), .string (str [32, 61, 32]), .pointer (some ⟨bx, ox, none⟩)] y fun e w' => e = .returned (.tuple #[]) ∧ Wtr K.C b (S ++ [108, 101, 116, 32] ++ mutT s.mu ++ (s.name ++ [58, 32]) ++ tyT s.ty ++ endT Lib.itoa [32, 61, 32] s.has s.val) n w' ∧ Fr K.C y w') := fun y hy hw => valueIfAny_any hK (tb.below hy.below hK) hm (hx.below hy.below) [32, 61, 32] hw (by simp only [List.length_append, List.length_cons, List.length_nil]; omega)
  clear h hlen hx ht htl hm tb
  generalize endT Lib.itoa [32, 61, 32] s.has s.val = TE at *
  generalize tyT s.ty = TT at *
  generalize s.mu = mu at *
  generalize str s.name = X at *
  go_enter Tryz.func128, Tryz.ntmps128
  go_wp2_with fail
  refine D0.out.mono ?_
  rintro ev w1 ⟨rfl, p1, q1⟩
  obtain ⟨x1, _⟩ := HX.out _ q1
  go_wp2_with fail
  refine (D1.out _ p1).mono ?_
  rintro ev w2 ⟨rfl, p2, q2⟩
  have q2' := q1.trans q2
  obtain ⟨_, x2⟩ := HX.out _ q2'
  go_wp2_with fail
  refine (D2.out _ p2).mono ?_
  rintro ev w3 ⟨rfl, p3, q3⟩
  have q3' := q2'.trans q3
  go_wp2_with fail
  refine (D3.out _ q3' p3).mono ?_
  rintro ev w4 ⟨rfl, p4, q4⟩
  have q4' := q3'.trans q4
  go_wp2_with fail
  refine (D4.out _ q4' p4).mono ?_
  rintro ev w5 ⟨rfl, p5, q5⟩
  go_wp2_with fail
  go_end0
  exact ⟨rfl, by simpa [List.append_assoc] using p5, q4'.trans q5⟩

/-- So many blocks are open from now on. -/
theorem Wtr.open {C b : Nat} {S : Bs} {n : Int} {w : World} (h : Wtr C b S n w) (m : Int) : Wtr C b S m (w.setCell ⟨b, 2, none⟩ (.int .i64 m)) ∧ Fr C w (w.setCell ⟨b, 2, none⟩ (.int .i64 m)) := by
  obtain ⟨p, v, hp, hbk, hown⟩ := h.here
  have hg : w.grownBy (w.setCell ⟨b, 2, none⟩ (.int .i64 m)) (some b) := ⟨rfl, rfl, rfl, by simp [World.setCell], fun k hk hne => heap_setCell_other w ⟨b, 2, none⟩ k _ (fun e => hne (by rw [e]))⟩
  refine ⟨⟨h.le, p, v, hp, by rw [heap_setCell_same w b 2 _ 58 _ hbk]; rfl, hown.kept hg (.inr (own_ne hown hbk))⟩, ⟨(Below.refl _ _).setCell (p := ⟨b, 2, none⟩) h.le _, fun k hk ht => hg.block k hk ?_⟩⟩
  rintro e
  cases e
  exact (ht _ _ _ hbk).1 rfl
theorem Wtr.fz2 {C b : Nat} {S : Bs} {n : Int} {w : World} (h : Wtr C b S n w) : w.frozen? ⟨b, 2, none⟩ = false := by
  obtain ⟨p, v, hp, hbk, hown⟩ := h.here
  exact Lib.frozen_of_heap hbk 2
end Go.Proofs.YtlbhaaldndjigaaGreatDoor

namespace Go.Proofs.YtlbhaaldndjigaaGreatDoor
open Go.RowKit

/-- A statement is written as the document says, if there is room. -/
def WStm (n : Nat) : Prop := ∀ {K : Ctx}, 1 < K.C → ∀ {b bx ox d m : Nat} {S : Bs} {w : World}, Tb w → ∀ {cs : List Value} {s : St}, StAt n K w cs s → Lies K w 32 bx ox cs → StOk (MayBlk m) s → d + m ≤ 65 → Wtr K.C b S (d : Int) w → S.length + (stT Lib.itoa s d).length ≤ 140737488355328 →
  Calls Tryz.prog 100 #[.pointer (some ⟨b, 0, none⟩), .pointer (some ⟨bx, ox, none⟩)] w fun e w' => e = .returned (.tuple #[]) ∧ (∃ T, Out S (stT Lib.itoa s d) T ∧ Wtr K.C b T (d : Int) w') ∧ Fr K.C w w'
def WBlk (n : Nat) : Prop := ∀ {K : Ctx}, 1 < K.C → ∀ {b d m : Nat} {S : Bs} {w : World}, Tb w → ∀ {v : Value} {l : List St}, Ar 32 496 (StAt n K w) K w v l → MayBlk m l → d + m ≤ 65 → Wtr K.C b S (d : Int) w → S.length + (blkT Lib.itoa l d).length ≤ 140737488355328 →
  Calls Tryz.prog 74 #[.pointer (some ⟨b, 0, none⟩), v] w fun e w' => e = .returned (.tuple #[]) ∧ (∃ T, Out S (blkT Lib.itoa l d) T ∧ Wtr K.C b T (d : Int) w') ∧ Fr K.C w w'

theorem enters99 : ∀ args w, (callFunc 99 args).run Tryz.prog w = .ok (.enter 99 args) w := enters_at Tryz.func99 (by kernel_rfl) rfl

set_option maxHeartbeats 4000000 in
theorem stmts_mem {N : Nat} (ih : WStm N) {K : Ctx} (hK : 1 < K.C) {b g1 g2 d m : Nat} {w0 : World} (tb : Tb w0) {v : Value} {l : List St} (hm : MayBlk (m + 1) l) (hd : d + (m + 1) ≤ 65) (hs : Ar 32 496 (StAt N K w0) K w0 v l) (R1 : Row w0 g1 93 [.pointer (some ⟨b, 0, none⟩)]) (R2 : Row w0 g2 41 [v]) :
    MemO K.C b ((d + 1 : Nat) : Int) w0 99 #[.pointer (some ⟨g1, 0, none⟩), .pointer (some ⟨g2, 0, none⟩)] (l.map fun s => nlT (d + 1) ++ stT Lib.itoa s (d + 1)) := by
  intro i hi S w hf hw hlen
  have hil : i < l.length := by simpa using hi
  have e0 : (l.map fun s => nlT (d + 1) ++ stT Lib.itoa s (d + 1))[i] = nlT (d + 1) ++ stT Lib.itoa l[i] (d + 1) := by simp
  rw [e0] at hlen ⊢
  rw [List.length_append] at hlen
  obtain ⟨ao, cap, rfl, hc, hb, hA⟩ := Ar.at (P := fun w => StAt N K w) hs (fun h hx => hx.below h)
  obtain ⟨bb, o, cs, rfl, hbC, hcell⟩ := hA i hil
  have HS : Hid (∀ y, Fr K.C w y → y.cell? ⟨g1, 0, none⟩ = some (.pointer (some ⟨b, 0, none⟩)) ∧ y.cell? ⟨g2, 0, none⟩ = some (.slice (some ⟨bb, o, none⟩) l.length cap)) := by
    intro y hy
    have h := hf.trans hy
    exact ⟨(h.row R1 (by decide) (by decide)).cell 0, (h.row R2 (by decide) (by decide)).cell 0⟩
  have fd : Hid (∀ y, Fr K.C w y → Fr K.C w y.drew) := fun y hy => hy.trans (Fr.drew y)
  have D1 : Hid (Calls Tryz.prog 41 #[.pointer (some ⟨b, 0, none⟩)] w fun e w' => e = .returned (.tuple #[]) ∧ Wtr K.C b (S ++ nlT (d + 1)) ((d + 1 : Nat) : Int) w' ∧ Fr K.C w w') := newLine_any hw (by omega) (by omega)
  have D2 : Hid (∀ y, Fr K.C w y → Wtr K.C b (S ++ nlT (d + 1)) ((d + 1 : Nat) : Int) y → Calls Tryz.prog 100 #[.pointer (some ⟨b, 0, none⟩), .pointer (some ⟨bb, o + i * 32, none⟩)] y.drew fun e w' => e = .returned (.tuple #[]) ∧ (∃ T, Out S (nlT (d + 1) ++ stT Lib.itoa l[i] (d + 1)) T ∧ Wtr K.C b T ((d + 1 : Nat) : Int) w') ∧ Fr K.C w w') := by
    intro y hy hw
    have hk := hf.trans (fd.out y hy)
    obtain ⟨k1, k2⟩ := hcell y.drew hk.below
    refine (ih hK (tb.below hk.below hK) k2 k1 (hm _ (List.getElem_mem hil)) (by omega) hw.drew (by rw [List.length_append]; omega)).mono ?_
    rintro _ _ ⟨rfl, ⟨T, hO, hT⟩, p2⟩
    exact ⟨rfl, ⟨T, (Out.full S (nlT (d + 1))).trans hO, hT⟩, (fd.out y hy).trans p2⟩
  have i1 : (i : Int) < (l.length : Int) := by omega
  have i2 : l.length ≤ 9223372036854775807 := by omega
  clear hw hlen hcell hA hs R1 R2 hf e0 hi tb hm ih
  generalize nlT (d + 1) ++ stT Lib.itoa l[i] (d + 1) = TT at *
  generalize nlT (d + 1) = TN at *
  generalize ((d + 1 : Nat) : Int) = D at *
  have fr := Fr.refl K.C w
  obtain ⟨e1, e2⟩ := HS.out w fr
  go_enter Tryz.func99, Tryz.ntmps99
  go_wp2_with fail
  refine D1.out.mono ?_
  rintro ev w1 ⟨rfl, p1, q1⟩
  have f1 := fd.out _ q1
  go_wp2_with fail
  go_region_held3 (fun z => z.cell? ⟨g1, 0, none⟩ = some (.pointer (some ⟨b, 0, none⟩)) ∧ z.cell? ⟨g2, 0, none⟩ = some (.slice (some ⟨bb, o, none⟩) l.length cap)) (exact HS.out _ (by assumption)) (first | (go_at_call 100; refine (D2.out _ q1 p1).mono ?_; rintro _ w2 ⟨rfl, p2, q2⟩))
  go_wp2_with fail
  go_end0
  exact ⟨rfl, p2, q2⟩

set_option maxHeartbeats 8000000 in
set_option maxRecDepth 20000 in
theorem block_of {N : Nat} (ih : WStm N) : WBlk N := by
  intro K hK b d m S w tb v l ha hm hd h hlen
  obtain ⟨m, rfl⟩ : ∃ k, m = k + 1 := by
    cases m with
    | zero => exact hm.elim
    | succ k => exact ⟨k, rfl⟩
  obtain ⟨ao, cap, rfl, hc, hb, -⟩ := id ha.shape
  obtain ⟨t1, t2, t3, t4⟩ := two_rows h 41 (.pointer (some ⟨b, 0, none⟩)) (.slice ao l.length cap)
  obtain ⟨W, hW⟩ : ∃ W, W = (w.alloc (.cells #[.pointer (some ⟨b, 0, none⟩)] 93)).alloc (.cells #[.slice ao l.length cap] 41) := ⟨_, rfl⟩
  rw [← hW] at t1 t2 t3 t4
  have hWs : W.heap.size = w.heap.size + 1 + 1 := by rw [hW]; show ((w.heap.push _).push _).size = _; rw [Array.size_push, Array.size_push]
  have eB : blkT Lib.itoa l d = [123] ++ (l.map fun s => nlT (d + 1) ++ stT Lib.itoa s (d + 1)).flatten ++ nlT d ++ [125] := by
    unfold blkT; rw [stsT_flat, List.flatMap_def]
  rw [eB] at hlen ⊢
  have hln := hlen
  simp only [List.length_append, List.length_cons, List.length_nil] at hln
  have HS : Hid (∀ y, Fr K.C W y → y.cell? ⟨w.heap.size, 0, none⟩ = some (.pointer (some ⟨b, 0, none⟩)) ∧ y.cell? ⟨w.heap.size + 1, 0, none⟩ = some (.slice ao l.length cap)) := by
    intro y hy
    exact ⟨(hy.row t3 (by decide) (by decide)).cell 0, (hy.row t4 (by decide) (by decide)).cell 0⟩
  have D0 : Hid (Calls Tryz.prog 47 #[.pointer (some ⟨b, 0, none⟩), .slice (some ⟨w.heap.size + 1 + 1, 0, none⟩) 1 1] (W.alloc (.cells #[.string (str [123])] 9)) fun e w' => e = .returned (.tuple #[]) ∧ Wtr K.C b (S ++ [123]) (d : Int) w' ∧ Fr K.C W w') := by
    rw [← hWs]
    exact put1 t1 [123] (by simp only [List.length_cons, List.length_nil]; omega)
  have OP : Hid (∀ y T (a c : Int), Wtr K.C b T a y → Wtr K.C b T c (y.setCell ⟨b, 2, none⟩ (.int .i64 c)) ∧ Fr K.C y (y.setCell ⟨b, 2, none⟩ (.int .i64 c)) ∧ y.frozen? ⟨b, 2, none⟩ = false ∧ y.cell? ⟨b, 2, none⟩ = some (.int .i64 a)) := fun y T a c hw => ⟨(hw.open c).1, (hw.open c).2, hw.fz2, hw.cells.2⟩
  have D1 : Hid (∀ y, Fr K.C W y → Wtr K.C b (S ++ [123]) ((d + 1 : Nat) : Int) y → Calls Tryz.prog 38 #[.pointer (some ⟨b, 0, none⟩), .int .i64 (l.length : Int), .func (.func 99) #[] #[.pointer (some ⟨w.heap.size, 0, none⟩), .pointer (some ⟨w.heap.size + 1, 0, none⟩)]] y fun e w' => e = .returned (.tuple #[]) ∧ (∃ T, Out (S ++ [123]) (l.map fun s => nlT (d + 1) ++ stT Lib.itoa s (d + 1)).flatten T ∧ Wtr K.C b T ((d + 1 : Nat) : Int) w') ∧ Fr K.C y w') := by
    intro y hy hw
    have hk := t2.trans hy
    have := upToMost_any enters99 (stmts_mem ih hK (tb.below hk.below hK) hm hd (ha.mono hk.below fun _ _ _ h => h.below hk.below) (hy.row t3 (by decide) (by decide)) (hy.row t4 (by decide) (by decide))) (Fr.refl _ y) hw (by simp; omega) (by simp only [List.length_append, List.length_cons, List.length_nil]; omega)
    rw [List.length_map] at this
    exact this
  have D2 : Hid (∀ y T, Out (S ++ [123]) (l.map fun s => nlT (d + 1) ++ stT Lib.itoa s (d + 1)).flatten T → Wtr K.C b T (d : Int) y → Calls Tryz.prog 41 #[.pointer (some ⟨b, 0, none⟩)] y fun e w' => e = .returned (.tuple #[]) ∧ Wtr K.C b (T ++ nlT d) (d : Int) w' ∧ Fr K.C y w') := by
    intro y T hO hw
    have := hO.len
    simp only [List.length_append, List.length_cons, List.length_nil] at this
    exact newLine_any hw (by omega) (by omega)
  have D3 : Hid (∀ y T, Out (S ++ [123]) (l.map fun s => nlT (d + 1) ++ stT Lib.itoa s (d + 1)).flatten T → Wtr K.C b (T ++ nlT d) (d : Int) y → Calls Tryz.prog 47 #[.pointer (some ⟨b, 0, none⟩), .slice (some ⟨y.heap.size, 0, none⟩) 1 1] (y.alloc (.cells #[.string (str [125])] 9)) fun e w' => e = .returned (.tuple #[]) ∧ (∃ U, Out S ([123] ++ (l.map fun s => nlT (d + 1) ++ stT Lib.itoa s (d + 1)).flatten ++ nlT d ++ [125]) U ∧ Wtr K.C b U (d : Int) w') ∧ Fr K.C y w') := by
    intro y T hO hw
    have := hO.len
    simp only [List.length_append, List.length_cons, List.length_nil] at this
    refine (put1 hw [125] (by simp only [List.length_append, List.length_cons, List.length_nil]; omega)).mono ?_
    rintro _ _ ⟨rfl, p1, p2⟩
    exact ⟨rfl, ⟨_, (((Out.full S [123]).trans hO).put (nlT d)).put [125], p1⟩, p2⟩
  have HW0 := hid0 t2
  have i2 : l.length ≤ 9223372036854775807 := by omega
  have i3 : IntKind.i64.wrap ((d : Int) + 1) = ((d + 1 : Nat) : Int) := by rw [wrap_small (by omega) (by omega)]; omega
  have i4 : IntKind.i64.wrap (((d + 1 : Nat) : Int) - 1) = (d : Int) := by rw [wrap_small (by omega) (by omega)]; omega
  clear t1 t2 t3 t4 h hlen hln ha hm hd tb eB hb hc hWs ih
  generalize (l.map fun s => nlT (d + 1) ++ stT Lib.itoa s (d + 1)).flatten = TS at *
  generalize nlT d = TN at *
  generalize ((d + 1 : Nat) : Int) = d1 at *
  generalize (d : Int) = d0 at *
  generalize l.length = ll at *
  go_enter Tryz.func74, Tryz.ntmps74
  go_wp2_with fail
  rw [← hW]
  clear hW
  refine D0.out.mono ?_
  rintro ev w1 ⟨rfl, p1, q1⟩
  obtain ⟨e1, e2⟩ := HS.out _ q1
  obtain ⟨o1, o2, o3, o4⟩ := OP.out _ _ _ d1 p1
  go_wp2_with fail
  have q2 := q1.trans o2
  refine (D1.out _ q2 o1).mono ?_
  rintro ev w2 ⟨rfl, ⟨T, hO, p2⟩, q3⟩
  have q3' := q2.trans q3
  obtain ⟨e3, e4⟩ := HS.out _ q3'
  obtain ⟨r1, r2, r3, r4⟩ := OP.out _ _ _ d0 p2
  have q4 := q3'.trans r2
  obtain ⟨e5, e6⟩ := HS.out _ q4
  clear o1 o2 o3 o4 e1 e2 D0 D1
  go_wp2_with fail
  refine (D2.out _ T hO r1).mono ?_
  rintro ev w3 ⟨rfl, p5, q5⟩
  have q5' := q4.trans q5
  obtain ⟨e7, e8⟩ := HS.out _ q5'
  go_wp2_with fail
  refine (D3.out _ T hO p5).mono ?_
  rintro ev w4 ⟨rfl, p6, q6⟩
  go_wp2_with fail
  go_end0
  exact ⟨rfl, p6, HW0.out.trans (q5'.trans q6)⟩
end Go.Proofs.YtlbhaaldndjigaaGreatDoor
