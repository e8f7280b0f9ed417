/-
  The texts Gro8, Bsu8, Pl8, Rlw8, joined.
-/
import Derived.Test.YtldbbkheemnnhaaGreatDoorJpOwb8
import Derived.Test.YtldbbkheemnnhaaGreatDoorJpPq82
import Derived.Test.YtldbbkheemnnhaaGreatDoorQpPo8
namespace Go.Proofs.YtldbbkheemnnhaaGreatDoor
open Go.RowKit
def Qv (w0 w : World) (v : Value) (b : Nat) : Prop := Fr w0 w b /\ v.ownBlock ≠ some b
structure Mo {α : Type} (PQ : (Nat -> Prop) -> World -> List Value -> α -> Prop) : Prop where
 mono : ∀ {Q Q' : Nat -> Prop} {w w' : World} {cs : List Value} {x : α}, PQ Q w cs x -> Kp Q Q' w w' -> PQ Q' w' cs x
structure Gro {α : Type} (z e : Nat) (PQ : (Nat -> Prop) -> World -> List Value -> α -> Prop) (w0 w : World) (v : Value) (l : List α) : Prop where
 ex : ∃ L, Cel z (PQ (Qv w0 w v) w) L l /\ w.ownsRow w0.heap.size e z v l.length L.flatten
section
variable {α : Type} {z e : Nat} {PQ : (Nat -> Prop) -> World -> List Value -> α -> Prop} {w0 w w' : World} {v : Value} {l : List α}
theorem Gro.nil : Gro z e PQ w0 w (.slice none 0 0) ([] : List α) := ⟨[], ⟨rfl, fun i h => by cases h⟩, World.ownsRow_nil _ _ _ _⟩
theorem Gro.form (h : Gro z e PQ w0 w v l) : ∃ ao cap, v = .slice ao l.length cap := by
 obtain ⟨L, _, ho⟩ := h.ex; exact own_slice ho
theorem Gro.stay (M : Mo PQ) (h : Gro z e PQ w0 w v l) {X : Nat -> Prop} (hs : Stay X w w') (hX : ∀ k, X k -> k < w0.heap.size) : Gro z e PQ w0 w' v l := by
 obtain ⟨L, hc, ho⟩ := h.ex
 refine ⟨L, hc.mono fun cs x hp => M.mono hp ⟨fun b hb => ⟨⟨hb.1.1, Nat.lt_of_lt_of_le hb.1.2 hs.size⟩, hb.2⟩, fun b hb => hs.block b hb.1.2 (fun hx => by have := hX b hx; have := hb.1.1; omega)⟩, own_sameR ho fun k e => ?_⟩
 have := ho.lt k e
 exact hs.block k this.2 (fun hx => by have := hX k hx; omega)
theorem Gro.past (M : Mo PQ) (h : Gro z e PQ w0 w v l) (hb : Below w.heap.size w w') : Gro z e PQ w0 w' v l :=
 h.stay M (X := fun _ => False) (Stay.of_below hb) (fun _ h => h.elim)
theorem Gro.beside {wa : World} (h : Gro z e PQ w0 wa v l) (h0 : w0.heap.size <= wa.heap.size) : Kp (Fr wa w) (Qv w0 w v) w w :=
 ⟨fun b hb => ⟨⟨Nat.le_trans h0 hb.1, hb.2⟩, fun he => by
  obtain ⟨L, _, ho⟩ := h.ex
  have h1 := (ho.lt b he).2
  have h2 := hb.1
  omega⟩, fun _ _ => rfl⟩
theorem Gro.done {bz : Nat} (M : Mo PQ) (h : Gro z e PQ w0 w v l) (hn : l.length * bz <= 140737488355328) : ArQ z bz (PQ (Fr w0 w) w) (Fr w0 w) w v l := by
 obtain ⟨L, hc, ho⟩ := h.ex
 have hl := hc.len
 rcases ho.2 with ⟨rfl, hn0⟩ | ⟨g, cap, cur, rfl, hb, hg, hcap, _, hsz, ht⟩
 ·exact ⟨none, 0, by rw [hn0], by omega, hn, fun i hi => by omega⟩
 ·have hlt : g < w.heap.size := by
   rcases Nat.lt_or_ge g w.heap.size with h' | h'
   ·exact h'
   ·rw [Array.getElem?_eq_none h'] at hg; cases hg
  refine ⟨some ⟨g, 0, none⟩, cap, rfl, hcap, hn, fun i hi => ⟨g, 0, rfl, ⟨hb, hlt⟩, L[i]'(by omega), ?_, fun j hj => ?_, ?_⟩⟩
  ·exact (hc.each i (by omega) hi).1
  ·rw [Nat.zero_add, cell_of_row w g _ cur e (0, 0) hg]
   have h1 : L.flatten[i * z + j]? = (L[i]'(by omega))[j]? := flat_get hc.all i (by omega) j hj
   rw [← h1, ← ht, List.getElem?_take]
   have hz : i * z + j < l.length * z := by
    have h3 : (i + 1) * z <= l.length * z := Nat.mul_le_mul_right z (by omega)
    have h4 : (i + 1) * z = i * z + z := by rw [Nat.add_mul, Nat.one_mul]
    omega
   rw [if_pos hz, Array.getElem?_toList]
  ·exact M.mono (hc.each i (by omega) hi).2.1 ⟨fun b hb => hb.1, fun _ _ => rfl⟩
theorem wpo_gro {o : Oper} {a : Act} {K : Act -> World -> Prop} {Q : Exit -> Act -> World -> Prop} {t bz g : Nat} {Z : Value} {x : α} {cs : List Value} (s y : Operand) (M : Mo PQ) (ho : o.op = .call { callee := .builtin .append, args := #[s, y], argTypes := #[t, t] })
  (hu : Tryz.prog.underlying t = some (.slice e)) (hz : (Tryz.prog.info? e).map (fun i => (i.zero, i.size, i.bytes)) = some (some Z, z, bz)) (hZ : Z.cells.size = z) (h0 : 0 < z) (hs : a.eval s = v) (hy : a.eval y = .slice (some ⟨g, 0, none⟩) 1 1)
  (hr : Gro z e PQ w0 w v l) (hB : w0.heap.size <= w.heap.size) (hg : Row w g e cs) (hl : cs.length = z) (h1 : ∀ x ∈ cs, x.oneCell' = true) (hp : PQ (Qv w0 w v) w cs x) (hn : l.length <= 90000) (hbz : bz <= 1000)
  (k : ∀ ao c w', Gro z e PQ w0 w' (.slice ao (l.length + 1) c) (l ++ [x]) -> Below w0.heap.size w w' -> K (a.put o.dst (.slice ao (l.length + 1) c)) w') : Oper.wp Tryz.prog o a w K Q := by
 obtain ⟨L, hc, hown⟩ := hr.ex
 obtain ⟨i0, hi, hz0, hz1, hz2⟩ := info_parts hz
 obtain ⟨v', w', hrr, h2, h3, _, h5⟩ := run_append_own_at (P := Tryz.prog) w w0.heap.size t o.type e i0 Z z bz hu hi hz0 hz1 hz2 hZ h0 v l.length L.flatten hown ⟨g, 0, none⟩ 1 1 cs (by omega) (fun j u hj => by
   rw [addr_add, Nat.zero_add, hg.cell]; exact hj) h1 (by unfold maxLen; omega) (by
    have : (l.length + 1) * bz <= 100000 * 1000 := Nat.mul_le_mul (by omega) hbz
    omega) hB
 obtain ⟨ao, c, rfl⟩ := own_slice h2
 have hk : Kp (Qv w0 w v) (Qv w0 w' (.slice ao (l.length + 1) c)) w w' := ⟨fun b hb => ⟨⟨hb.1.1, Nat.lt_of_lt_of_le hb.1.2 h3.size⟩, fun he => by
   rcases h5 with h5 | h5
   ·rw [h5] at he; exact hb.2 he
   ·rw [h5] at he; cases he; exact absurd hb.1.2 (Nat.lt_irrefl _)⟩, fun b hb => h3.block b hb.1.2 (fun e => hb.2 e.symm)⟩
 have hG : Gro z e PQ w0 w' (.slice ao (l.length + 1) c) (l ++ [x]) := by
  refine ⟨L ++ [cs], (hc.mono fun _ _ h => M.mono h hk).app (Cel.one hl (M.mono hp hk) h1), ?_⟩
  rw [List.length_append, List.length_singleton, List.flatten_append, List.flatten_cons, List.flatten_nil, List.append_nil]
  exact h2
 unfold Oper.wp execOp
 simp only [ho, resolve, invoke, builtin, Sem.run_bind, Sem.run_pure, Result.andThen_ok, List.map_toArray, List.map_cons, List.map_nil, hs, hy, hrr]
 exact k ao c w' hG (grown_le h3 hB (fun k e => (hown.lt k e).1))
theorem wpl_gro {ops : Array Oper} {rest : List Oper} {o : Oper} {a : Act} {Q : Exit -> Act -> World -> Prop} {t bz g : Nat} {Z : Value} {x : α} {cs : List Value} (hgd : o.guard = none) (s y : Operand) (M : Mo PQ) (ho : o.op = .call { callee := .builtin .append, args := #[s, y], argTypes := #[t, t] })
  (hu : Tryz.prog.underlying t = some (.slice e)) (hz : (Tryz.prog.info? e).map (fun i => (i.zero, i.size, i.bytes)) = some (some Z, z, bz)) (hZ : Z.cells.size = z) (h0 : 0 < z) (hs : a.eval s = v) (hy : a.eval y = .slice (some ⟨g, 0, none⟩) 1 1)
  (hr : Gro z e PQ w0 w v l) (hB : w0.heap.size <= w.heap.size) (hg : Row w g e cs) (hl : cs.length = z) (h1 : ∀ x ∈ cs, x.oneCell' = true) (hp : PQ (Qv w0 w v) w cs x) (hn : l.length <= 90000) (hbz : bz <= 1000)
  (k : ∀ ao c w', Gro z e PQ w0 w' (.slice ao (l.length + 1) c) (l ++ [x]) -> Below w0.heap.size w w' -> wpList Tryz.prog ops Q rest (a.put o.dst (.slice ao (l.length + 1) c)) w') : wpList Tryz.prog ops Q (o :: rest) a w :=
 wpList_plain hgd fun _ hK => wpo_gro s y M ho hu hz hZ h0 hs hy hr hB hg hl h1 hp hn hbz (fun ao c w' h2 h3 => hK _ _ (k ao c w' h2 h3))
end
def PTx (B : Nat) : (Nat -> Prop) -> World -> List Value -> Bs -> Prop := fun _ _ cs s => TxQ B cs s
theorem moTx (B : Nat) : Mo (PTx B) := ⟨fun h _ => h⟩
def lenV : Value -> Nat
 | .slice _ n _ => n
 | _ => 0
end Go.Proofs.YtldbbkheemnnhaaGreatDoor

namespace Go.Proofs.YtldbbkheemnnhaaGreatDoor
open Go.RowKit
theorem wpo_bsU {o : Oper} {a : Act} {w : World} {K : Act -> World -> Prop} {Q : Exit -> Act -> World -> Prop} (ty el sz bz : Nat) (Z U : Value) (x : Operand) (ho : o.op = .buildSlice ty 1 #[(0, x)])
  (hu : Tryz.prog.underlying ty = some (.slice el)) (hz : (Tryz.prog.info? el).map (fun i => (i.zero, i.size, i.bytes)) = some (some Z, sz, bz)) (h1 : 0 < sz) (h2 : sz <= 1000) (hZ : Z.cells.size = sz)
  (cs : List Value) (hU : U.cells = cs.toArray) (hl : cs.length = sz) (hx : a.eval x = U)
  (k : ∀ w', Row w' w.heap.size el cs -> Below w.heap.size w w' -> w.heap.size < w'.heap.size -> K (a.put o.dst (.slice (some ⟨w.heap.size, 0, none⟩) 1 1)) w') : Oper.wp Tryz.prog o a w K Q := by
 obtain ⟨i0, hi, hz0, hz1, hz2⟩ := info_parts hz
 refine wp_buildSlice ty el 1 _ ho cs.toArray i0 Z hu hi hz0 (by rw [hz1]; omega) (by rw [hz1]; omega) ?_ (k _ (Row.new w el cs) (alloc_one _ _) (by rw [size_alloc]; omega))
 have hw := Go.Great.fill_whole (s := sz) h1 [U] ((Array.range (1 * sz)).map (Z.cells[· % Z.cells.size]!)) (by simp [hU, hl]) (by simp)
 rw [hz1]
 simp only [List.map_toArray, List.map_cons, List.map_nil, hx]
 simp only [List.zipIdx_cons, List.zipIdx_nil, List.map_cons, List.map_nil] at hw
 refine Eq.trans hw ?_
 simp [hU]
theorem bsliceU {ops : Array Oper} {rest : List Oper} {o : Oper} {a : Act} {w : World} {Q : Exit -> Act -> World -> Prop} (hgd : o.guard = none) (ty el sz bz : Nat) (Z U : Value) (x : Operand) (ho : o.op = .buildSlice ty 1 #[(0, x)])
  (hu : Tryz.prog.underlying ty = some (.slice el)) (hz : (Tryz.prog.info? el).map (fun i => (i.zero, i.size, i.bytes)) = some (some Z, sz, bz)) (h1 : 0 < sz) (h2 : sz <= 1000) (hZ : Z.cells.size = sz)
  (cs : List Value) (hU : U.cells = cs.toArray) (hl : cs.length = sz) (hx : a.eval x = U)
  (k : ∀ w', Row w' w.heap.size el cs -> Below w.heap.size w w' -> w.heap.size < w'.heap.size -> wpList Tryz.prog ops Q rest (a.put o.dst (.slice (some ⟨w.heap.size, 0, none⟩) 1 1)) w') : wpList Tryz.prog ops Q (o :: rest) a w :=
 wpList_plain hgd fun _ hK => wpo_bsU ty el sz bz Z U x ho hu hz h1 h2 hZ cs hU hl hx (fun w' r1 r2 r3 => hK _ _ (k w' r1 r2 r3))
theorem Tryz.info9S : (Tryz.prog.info? 9).map (fun i => (i.zero, i.size, i.bytes)) = some (some (.string ⟨#[]⟩), 1, 16) := by kernel_rfl
theorem shut {p : Prop} (h : Hid p) : p := h
end Go.Proofs.YtldbbkheemnnhaaGreatDoor

namespace Go.Proofs.YtldbbkheemnnhaaGreatDoor
open Go.RowKit
theorem PSt.low {T : List Tok} {tb cap g : Nat} {w w1 w2 : World} {s : Ps} (h : PSt T tb cap g w w1 s) (hg : g < w.heap.size) (ht : tb < w.heap.size) (hb : Below w.heap.size w1 w2) : PSt T tb cap g w w2 s :=
 ⟨⟨h.1.row.below hb hg, fun j u hj => by
  have := h.1.toks j u hj
  rw [World.cell?_of_block (a := ⟨tb, 0 + j, none⟩) (hb.block tb ht)]; exact this, h.1.ne, h.1.lt, h.1.ok, h.1.cs, h.1.ss⟩,
  h.2.step (Y := fun k => w.heap.size <= k) ⟨hb.os, hb.tape, hb.output, hb.size, fun k _ hk => hb.block k (by omega)⟩ (fun i hi hy => by omega)⟩
theorem text_code {T : List Tok} {k : Nat} {s : Ps} (h : (textF T k s).2.code = 0) : s.code = 0 := by
 unfold textF at h
 split at h
 ·rename_i h0; exact h0
 ·exact h
theorem long_code {T : List Tok} {n : Nat} {s : Ps} (h : (longF T n s).code = 0) : s.code = 0 /\ n < 64 := by
 unfold longF at h
 split at h
 ·rename_i h0
  unfold failF at h
  rw [if_pos h0.1] at h
  cases h
 ·rename_i h0
  exact ⟨h, by rcases Nat.lt_or_ge n 64 with h1 | h1; exact h1; exact absurd ⟨h, h1⟩ h0⟩
theorem lifes_more {T : List Tok} {m : Bs} {k n : Nat} {s : Ps} (h : (optF T m (textF T k (longF T n s)).2).1 = true) : n < 64 := (long_code (text_code (opt_yes h).1)).2
theorem lifesL_on {T : List Tok} {sg : Bs} {f : Nat} {out : List Bs} {s : Ps} (h : s.code = 0) (hb : (optF T sg (textF T 3 (longF T out.length s)).2).1 = true) : lifesL T sg (f + 1) out s = lifesL T sg f (out ++ [(textF T 3 (longF T out.length s)).1]) (optF T sg (textF T 3 (longF T out.length s)).2).2 := by
 rw [lifesL, if_pos h]
 simp only [hb, if_true]
theorem lifesL_end {T : List Tok} {sg : Bs} {f : Nat} {out : List Bs} {s : Ps} (h : s.code = 0) (hb : (optF T sg (textF T 3 (longF T out.length s)).2).1 = false) : lifesL T sg (f + 1) out s = (out ++ [(textF T 3 (longF T out.length s)).1], (optF T sg (textF T 3 (longF T out.length s)).2).2) := by
 rw [lifesL, if_pos h]
 simp only [hb]
 rfl
theorem lifesL_no {T : List Tok} {sg : Bs} {f : Nat} {out : List Bs} {s : Ps} (h : s.code ≠ 0) : lifesL T sg (f + 1) out s = (out, s) := by
 rw [lifesL, if_neg h]
set_option maxHeartbeats 8000000 in
set_option maxRecDepth 20000 in
theorem lifes_any {T : List Tok} {tb cap g : Nat} {w : World} {s : Ps} (h : PAt T tb cap g w s) :
  Calls Tryz.prog 89 #[.pointer (some ⟨g, 0, none⟩)] w fun ev w' => ∃ v, ev = .returned v /\ PSt T tb cap g w w' (lifesF T s).2 /\ StrQ (Fr w w') 100 w' v (lifesF T s).1 := by
 have C : Hid (Calls Tryz.prog 58 #[.pointer (some ⟨g, 0, none⟩), .string ⟨#[60]⟩] w fun ev w' => ev = .returned (.bool (optF T [60] s).1) /\ PSt T tb cap g w w' (optF T [60] s).2) := opt_any h [60]
 have hg := h.row.lt
 have hok := hidP h.ok
 have htb := h.tlt
 have hne := h.ne
 obtain ⟨R, hR⟩ : ∃ R, R = lifesF T s := ⟨_, rfl⟩
 rw [← hR]
 unfold lifesF at hR
 simp only at hR
 have HR := hidP hR
 clear hR h
 generalize optF T [60] s = a at *
 obtain ⟨a1, a2⟩ := a
 simp only at C HR
 cases a1 with
 | false =>
  go_enter Tryz.func89, Tryz.ntmps89
  go_wp2_with fail
  refine C.out.mono ?_
  rintro _ w1 ⟨rfl, z⟩
  replace z := hidP z
  clear C
  go_wp2_with fail
  go_ret
  rw [HR.out]
  exact ⟨_, rfl, z.out, nil_arQ⟩
 | true =>
  have FIN : Hid (∀ wr out s', PSt T tb cap g w wr s' -> lifesL T [44] 66 [] a2 = (out, s') -> Calls Tryz.prog 90 #[.pointer (some ⟨g, 0, none⟩), .string ⟨#[62]⟩] wr fun ev w' => ev = .returned (.tuple #[]) /\ Stay (fun k => k = g) wr w' /\ PSt T tb cap g w w' R.2 /\ out = R.1) := by
   intro wr out s' p e
   refine (take_any p.1 [62]).mono ?_
   rintro _ w' ⟨rfl, q⟩
   have hR := HR.out
   rw [e] at hR
   simp only [if_true] at hR
   rw [hR]
   exact ⟨rfl, q.2, p.trans q, rfl⟩
  have L : Hid (∀ wr s' n, PSt T tb cap g w wr s' -> Calls Tryz.prog 91 #[.pointer (some ⟨g, 0, none⟩), .int .i64 ((n : Nat) : Int)] wr fun ev w' => ev = .returned (.tuple #[]) /\ Stay (fun k => k = g) wr w' /\ PSt T tb cap g w w' (longF T n s')) := fun wr s' n p => (long_any p.1 n).mono fun _ _ q => ⟨q.1, q.2.2, p.trans q.2⟩
  have X : Hid (∀ wr s', PSt T tb cap g w wr s' -> Calls Tryz.prog 88 #[.pointer (some ⟨g, 0, none⟩), .int .i64 3] wr fun ev w' => ev = .returned (.string (str (textF T 3 s').1)) /\ Stay (fun k => k = g) wr w' /\ PSt T tb cap g w w' (textF T 3 s').2) := fun wr s' p => (text_any p.1 3 (by decide)).mono fun _ _ q => ⟨q.1, q.2.2, p.trans q.2⟩
  have O : Hid (∀ wr s', PSt T tb cap g w wr s' -> Calls Tryz.prog 58 #[.pointer (some ⟨g, 0, none⟩), .string ⟨#[44]⟩] wr fun ev w' => ev = .returned (.bool (optF T [44] s').1) /\ Stay (fun k => k = g) wr w' /\ PSt T tb cap g w w' (optF T [44] s').2) := fun wr s' p => (opt_any p.1 [44]).mono fun _ _ q => ⟨q.1, q.2.2, p.trans q.2⟩
  clear HR
  go_enter Tryz.func89, Tryz.ntmps89
  go_wp2_with fail
  refine C.out.mono ?_
  rintro _ w1 ⟨rfl, z⟩
  replace z := hidP z
  clear C
  go_wp2_with fail
  go_loopw [3] (fun v wr => ∃ (f : Nat) (out : List Bs) (s' : Ps), Gro 1 9 (PTx 100) w wr v out /\ PSt T tb cap g w wr s' /\ lifesL T [44] 66 [] a2 = lifesL T [44] f out s' /\ f + out.length = 66 /\ out.length <= 64) (fun v _ => 66 - lenV v)
  case atStart => exact ⟨66, [], a2, Gro.nil, z.out, rfl, rfl, by simp⟩
  case round =>
   obtain ⟨f, out, s', hG, hp, he, hf, ho⟩ := hrel
   obtain ⟨f, rfl⟩ : ∃ f', f = f' + 1 := ⟨f - 1, by omega⟩
   obtain ⟨ao, cp, rfl⟩ := hG.form
   have x2 := hp.1.row.cell 2
   simp only [List.getElem?_cons_zero, List.getElem?_cons_succ] at x2
   replace he := hidP he
   replace hp := hidP hp
   replace hG := hidP hG
   by_cases hc : s'.code = 0
   ·have q0 : ((s'.code : Int) == 0) = true := by rw [hc]; rfl
    have LL := hidP (L.out wr s' out.length hp.out)
    have hc' := hidP hc
    clear hc
    generalize s'.code = co at q0 x2
    go_wp2_with fail
    refine LL.out.mono ?_
    rintro _ w2 ⟨rfl, st2, z2⟩
    have XX := hidP (X.out w2 _ z2)
    have LT := hidP (text_len hok.out 3 (longF T out.length s'))
    have MO := hidP (fun hh => lifes_more (T := T) (k := 3) (m := [44]) (n := out.length) (s := s') hh)
    have HE := hidP (fun hb => lifesL_on (T := T) (sg := [44]) (f := f) (out := out) hc'.out hb)
    have HN := hidP (fun hb => lifesL_end (T := T) (sg := [44]) (f := f) (out := out) hc'.out hb)
    have G2 := hidP (hG.out.stay (moTx 100) st2 (fun k e => by omega))
    clear LL L st2 z2 hG hc' x2
    generalize textF T 3 (longF T out.length s') = a3 at *
    obtain ⟨tx, s3⟩ := a3
    simp only at XX LT MO HE HN
    go_wp2_with fail
    refine XX.out.mono ?_
    rintro _ w3 ⟨rfl, st3, z3⟩
    have G3 := hidP (G2.out.stay (moTx 100) st3 (fun k e => by omega))
    have SZ := hidP z3.2.size
    replace z3 := hidP z3
    clear XX X G2 st3
    go_wp2_with (first | (refine bsliceU rfl 33 9 1 16 _ _ (.tmp 18) rfl Tryz.underlying33 Tryz.info9S (by decide) (by decide) rfl [.string (str tx)] rfl rfl rfl ?_; intro w5 hR5 hB5 hz5; apply shut))
    show wpList _ _ _ _ _ _
    refine wpl_gro rfl (.tmp 16) (.tmp 19) (moTx 100) rfl Tryz.underlying33 Tryz.info9S rfl (by decide) rfl rfl (G3.out.past (moTx 100) hB5) (by have := SZ.out; have := hB5.size; omega) hR5 rfl (by intro u hu; simp at hu; subst hu; rfl) (show TxQ 100 [.string (str tx)] tx from ⟨rfl, Nat.le_trans LT.out (by decide)⟩) (by omega) (by decide) ?_
    intro ao6 cp6 w6 hG6 hb6
    have z6 := (z3.out.low hg htb (below_le hB5 SZ.out)).low hg htb hb6
    have OO := hidP (O.out w6 _ z6)
    replace hG6 := hidP hG6
    clear O hb6 hB5 hR5 hz5 z3 SZ z6 G3
    generalize optF T [44] s3 = b at *
    obtain ⟨b1, s4⟩ := b
    simp only at OO MO HE HN
    cases b1 with
    | true =>
     have h64 := MO.out rfl
     have he2 := he.out.trans (HE.out rfl)
     replace he2 := hidP he2
     clear MO HE HN he FIN
     go_wp2_with fail
     refine OO.out.mono ?_
     rintro _ w7 ⟨rfl, st7, z7⟩
     have G7 := hidP (hG6.out.stay (moTx 100) st7 (fun k e => by omega))
     replace z7 := hidP z7
     clear OO hG6 st7
     go_wp2_with fail
     go_roundw
     case rel => exact ⟨f, out ++ [tx], s4, G7.out, z7.out, he2.out, by rw [List.length_append]; simp; omega, by rw [List.length_append]; simp; omega⟩
     case measure => simp [lenV]; omega
    | false =>
     have he2 := he.out.trans (HN.out rfl)
     replace he2 := hidP he2
     clear MO HE HN he
     go_wp2_with fail
     refine OO.out.mono ?_
     rintro _ w7 ⟨rfl, st7, z7⟩
     have G7 := hidP (hG6.out.stay (moTx 100) st7 (fun k e => by omega))
     have F7 := hidP (FIN.out w7 _ _ z7 he2.out)
     clear OO hG6 st7 he2 FIN z7
     go_wp2_with fail
     refine F7.out.mono ?_
     rintro _ w8 ⟨rfl, st8, z8, e8⟩
     have G8 := hidP (G7.out.stay (moTx 100) st8 (fun k e => by omega))
     replace z8 := hidP z8
     replace e8 := hidP e8
     clear F7 G7 st8
     go_wp2_with fail
     go_ret
     rw [← e8.out]
     refine ⟨_, rfl, z8.out, ?_⟩
     exact G8.out.done (bz := 16) (moTx 100) (by rw [List.length_append]; simp; omega)
   ·have q0 : ((s'.code : Int) == 0) = false := by simp; omega
    have he2 := hidP (he.out.trans (lifesL_no hc))
    have F7 := hidP (FIN.out wr _ _ hp.out he2.out)
    clear hc he he2 FIN O X L
    generalize s'.code = co at q0 x2
    go_wp2_with fail
    refine F7.out.mono ?_
    rintro _ w8 ⟨rfl, st8, z8, e8⟩
    have G8 := hidP (hG.out.stay (moTx 100) st8 (fun k e => by omega))
    replace z8 := hidP z8
    replace e8 := hidP e8
    clear F7 hG st8
    go_wp2_with fail
    go_ret
    rw [← e8.out]
    exact ⟨_, rfl, z8.out, G8.out.done (bz := 16) (moTx 100) (by omega)⟩
end Go.Proofs.YtldbbkheemnnhaaGreatDoor

namespace Go.Proofs.YtldbbkheemnnhaaGreatDoor
open Go.RowKit
section
variable {ops : Array Oper} {rest : List Oper} {o : Oper} {a : Act} {w : World} {Q : Exit -> Act -> World -> Prop} {g t : Nat}
theorem ldR (hgd : o.guard = none) (ty : TypeId) (x : Operand) (ho : o.op = .load ty x) {cs : List Value} {d : TypeDesc} (hx : a.eval x = .pointer (some ⟨g, 0, none⟩)) (r : Row w g t cs)
  (hu : Tryz.prog.underlying ty = some d) (hd : d.isRow = true) (hi : (Tryz.prog.info? ty).map (·.size) = some cs.length)
  (k : wpList Tryz.prog ops Q rest (a.put o.dst (.agg cs.toArray)) w) : wpList Tryz.prog ops Q (o :: rest) a w :=
 wpList_load_mid hgd ty x ho g 0 hx cs d r.range hu hd hi k
theorem stR (hgd : o.guard = none) (ty : TypeId) (x y : Operand) (ho : o.op = .store ty x y) {old cs : List Value} (hx : a.eval x = .pointer (some ⟨g, 0, none⟩)) (hy : a.eval y = .agg cs.toArray) (r : Row w g t old)
  (hi : (Tryz.prog.info? ty).map (·.size) = some cs.length) (hl : old.length = cs.length) (h1 : ∀ u ∈ cs, u.oneCell' = true)
  (k : ∀ w', Row w' g t cs -> Stay (fun k => k = g) w w' -> wpList Tryz.prog ops Q rest (a.put o.dst undef) w') : wpList Tryz.prog ops Q (o :: rest) a w := by
 refine wpList_store_row hgd ty x y ho g cs.toArray hx hy t old.toArray r.heap (by simpa using hi) (by simpa using hl) (by rw [Array.all_eq_true_iff_forall_mem]; intro v hv; exact h1 v (by simpa using hv)) (k _ (r.setRow cs) ?_)
 refine ⟨rfl, rfl, rfl, by simp [World.setRow], fun k hk hx => ?_⟩
 simp only [World.setRow, Array.getElem?_modify]
 rw [if_neg (fun e => hx e.symm)]
theorem stC (hgd : o.guard = none) (ty : TypeId) (x y : Operand) (ho : o.op = .store ty x y) {L : List Value} {j : Nat} {v : Value} (hx : a.eval x = .pointer (some ⟨g, j, none⟩)) (hy : a.eval y = v) (r : Row w g t L)
  (hrun : (storeVar ty ⟨g, j, none⟩ v).run Tryz.prog w = .ok () (w.setCell ⟨g, j, none⟩ v))
  (k : ∀ w', Row w' g t (L.set j v) -> Stay (fun k => k = g) w w' -> wpList Tryz.prog ops Q rest (a.put o.dst undef) w') : wpList Tryz.prog ops Q (o :: rest) a w := by
 refine wpList_plain hgd fun _ hK => ?_
 unfold Oper.wp execOp
 simp only [ho, hx, hy, Instr.storeAt, Instr.sureAddr, Sem.run_bind, Sem.run_pure, Result.andThen_ok, hrun]
 exact hK _ _ (k _ (r.set j v) ((Stay.refl (fun k => k = g) w).set (fun _ => rfl) j v))
theorem sv22 {j : Nat} {L : List Value} {u : Value} (r : Row w g t L) (hj : L[j]? = some u) (ao : Option Addr) (n c : Nat) : (storeVar 33 ⟨g, j, none⟩ (.slice ao n c)).run Tryz.prog w = .ok () (w.setCell ⟨g, j, none⟩ (.slice ao n c)) := by
 have c0 := r.cell j
 have f0 := r.fz j
 rw [hj] at c0
 go_simp
theorem sv47 {j : Nat} {L : List Value} {u : Value} (r : Row w g t L) (hj : L[j]? = some u) (ao : Option Addr) (n c : Nat) : (storeVar 34 ⟨g, j, none⟩ (.slice ao n c)).run Tryz.prog w = .ok () (w.setCell ⟨g, j, none⟩ (.slice ao n c)) := by
 have c0 := r.cell j
 have f0 := r.fz j
 rw [hj] at c0
 go_simp
theorem sv3 {j : Nat} {L : List Value} {u : Value} (r : Row w g t L) (hj : L[j]? = some u) (n : Int) : (storeVar 3 ⟨g, j, none⟩ (.int .i64 n)).run Tryz.prog w = .ok () (w.setCell ⟨g, j, none⟩ (.int .i64 n)) := by
 have c0 := r.cell j
 have f0 := r.fz j
 rw [hj] at c0
 go_simp
end
end Go.Proofs.YtldbbkheemnnhaaGreatDoor
