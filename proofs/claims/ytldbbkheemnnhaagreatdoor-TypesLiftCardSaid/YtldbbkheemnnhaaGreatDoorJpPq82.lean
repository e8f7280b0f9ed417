/-
  The texts Pq8, Own, joined.
-/
import Derived.Test.YtldbbkheemnnhaaGreatDoorJpSpa3
import Derived.Test.YtldbbkheemnnhaaGreatDoorJpBas5
namespace Go.Proofs.YtldbbkheemnnhaaGreatDoor
open Go.RowKit
structure Ps where
 i : Nat
 code : Nat
 pos : Nat
 item : Int
 st : Nat
def tk (T : List Tok) (i : Nat) : Tok := T.getD i (endTok 0)
def failF (T : List Tok) (c : Nat) (s : Ps) : Ps := if s.code = 0 then { s with code := c, pos := (tk T s.i).place } else s
def isF (T : List Tok) (m : Bs) (s : Ps) : Bool := (decide ((tk T s.i).kind = 2) || decide ((tk T s.i).kind = 5)) && decide ((tk T s.i).text = m)
def kindF (T : List Tok) (k : Nat) (s : Ps) : Bool := decide ((tk T s.i).kind = k)
def stepF (s : Ps) : Ps := { s with i := s.i + 1 }
def takeF (T : List Tok) (m : Bs) (s : Ps) : Ps := if s.code = 0 then if isF T m s = true then stepF s else failF T 21 s else s
def optF (T : List Tok) (m : Bs) (s : Ps) : Bool × Ps := if s.code = 0 /\ isF T m s = true then (true, stepF s) else (false, s)
def textF (T : List Tok) (k : Nat) (s : Ps) : Bs × Ps := if s.code = 0 then if kindF T k s = true then ((tk T s.i).text, stepF s) else ([], failF T 21 s) else ([], s)
def longF (T : List Tok) (n : Nat) (s : Ps) : Ps := if s.code = 0 /\ 64 <= n then failF T 5 s else s
def deepF (T : List Tok) (n : Nat) (s : Ps) : Ps := if s.code = 0 /\ 64 < n then failF T 6 s else s
def farF (T : List Tok) (s : Ps) : Bs × Ps :=
 if (optF T [58, 58] (textF T 1 s).2).1 = true then ((textF T 1 s).1 ++ [58, 58] ++ (textF T 1 (optF T [58, 58] (textF T 1 s).2).2).1, (textF T 1 (optF T [58, 58] (textF T 1 s).2).2).2)
 else ((textF T 1 s).1, (optF T [58, 58] (textF T 1 s).2).2)
def lifesL (T : List Tok) (sg : Bs) : Nat -> List Bs -> Ps -> List Bs × Ps
 | 0, out, s => (out, s)
 | f + 1, out, s =>
  if s.code = 0 then
   let a := textF T 3 (longF T out.length s)
   let b := optF T sg a.2
   if b.1 = true then lifesL T sg f (out ++ [a.1]) b.2 else (out ++ [a.1], b.2)
  else (out, s)
def lifesF (T : List Tok) (s : Ps) : List Bs × Ps :=
 let a := optF T [60] s
 if a.1 = true then let r := lifesL T [44] 66 [] a.2; (r.1, takeF T [62] r.2) else ([], a.2)
def typF (T : List Tok) : Nat -> Ps -> Ty × Ps
 | 0, s => (Ty.zero, failF T 6 s)
 | f + 1, s =>
  if s.code = 0 then
   if (optF T [105, 110, 116] s).1 = true then (⟨1, [], [], []⟩, (optF T [105, 110, 116] s).2)
   else if (optF T [98, 111, 111, 108] s).1 = true then (⟨2, [], [], []⟩, (optF T [98, 111, 111, 108] s).2)
   else if (optF T [38] s).1 = true then
    let l := if kindF T 3 (optF T [38] s).2 = true then ([(textF T 3 (optF T [38] s).2).1], (textF T 3 (optF T [38] s).2).2) else ([], (optF T [38] s).2)
    let m := optF T [109, 117, 116] l.2
    let e := typF T f m.2
    (⟨if m.1 = true then 5 else 4, [], l.1, [e.1]⟩, e.2)
   else
    let n := farF T s
    let l := if n.2.code = 0 then lifesF T n.2 else ([], n.2)
    (⟨3, n.1, l.1, []⟩, l.2)
  else (Ty.zero, s)
def overF (T : List Tok) (s : Ps) : List Bs × Ps :=
 let b := optF T [58] s
 if b.1 = true then lifesL T [43] 66 [] b.2 else ([], b.2)
def livesL (T : List Tok) : Nat -> List Lfe -> Ps -> List Lfe × Ps
 | 0, out, s => (out, s)
 | f + 1, out, s =>
  if s.code = 0 then
   let a := textF T 3 (longF T out.length s)
   let o := overF T a.2
   let b := optF T [44] o.2
   if b.1 = true then livesL T f (out ++ [⟨a.1, o.1⟩]) b.2 else (out ++ [⟨a.1, o.1⟩], b.2)
  else (out, s)
def livesF (T : List Tok) (s : Ps) : List Lfe × Ps :=
 let a := optF T [60] s
 if a.1 = true then let r := livesL T 66 [] a.2; (r.1, takeF T [62] r.2) else ([], a.2)
def fieldF (T : List Tok) (s : Ps) : Fld × Ps :=
 let a := textF T 1 s
 let t := typF T 64 (takeF T [58] a.2)
 (⟨false, a.1, t.1⟩, t.2)
def fieldsL (T : List Tok) : Nat -> List Fld -> Ps -> List Fld × Ps
 | 0, out, s => (out, s)
 | f + 1, out, s =>
  if s.code = 0 then
   let a := fieldF T (longF T out.length s)
   let b := optF T [44] a.2
   if b.1 = true then fieldsL T f (out ++ [a.1]) b.2 else (out ++ [a.1], b.2)
  else (out, s)
def structF (T : List Tok) (pub : Bool) (at_ : Int) (s : Ps) : Sct × Ps :=
 let n := textF T 1 s
 let l := if n.2.code = 0 then lifesF T n.2 else ([], n.2)
 let b := takeF T [123] l.2
 let c := optF T [125] b
 if c.1 = true then (⟨pub, n.1, l.1, [], at_⟩, c.2)
 else let r := fieldsL T 66 [] c.2; (⟨pub, n.1, l.1, r.1, at_⟩, takeF T [125] r.2)
def paramF (T : List Tok) (s : Ps) : Fld × Ps :=
 let m := optF T [109, 117, 116] s
 let a := textF T 1 m.2
 let t := typF T 64 (takeF T [58] a.2)
 (⟨m.1, a.1, t.1⟩, t.2)
def paramsL (T : List Tok) : Nat -> List Fld -> Ps -> List Fld × Ps
 | 0, out, s => (out, s)
 | f + 1, out, s =>
  if s.code = 0 then
   let a := paramF T (longF T out.length s)
   let b := optF T [44] a.2
   if b.1 = true then paramsL T f (out ++ [a.1]) b.2 else (out ++ [a.1], b.2)
  else (out, s)
theorem opt_no {T : List Tok} {m : Bs} {s : Ps} (h : (optF T m s).1 = false) : (optF T m s).2 = s := by
 unfold optF at h ⊢
 split
 ·rename_i hc; rw [if_pos hc] at h; cases h
 ·rfl
theorem opt_yes {T : List Tok} {m : Bs} {s : Ps} (h : (optF T m s).1 = true) : s.code = 0 /\ isF T m s = true /\ (optF T m s).2 = stepF s := by
 unfold optF at h ⊢
 split
 ·rename_i hc; exact ⟨hc.1, hc.2, rfl⟩
 ·rename_i hc; rw [if_neg hc] at h; cases h
end Go.Proofs.YtldbbkheemnnhaaGreatDoor

namespace Go.Proofs.YtldbbkheemnnhaaGreatDoor
open Go.RowKit
structure ArQ {α : Type} (z bz : Nat) (P : List Value -> α -> Prop) (Q : Nat -> Prop) (w : World) (v : Value) (l : List α) : Prop where
 shape : ∃ ao cap, v = .slice ao l.length cap /\ l.length <= cap /\ l.length * bz <= 140737488355328 /\
  ∀ i (h : i < l.length), ∃ b o, ao = some ⟨b, o, none⟩ /\ Q b /\ ∃ cs, cs.length = z /\ (∀ j, j < z -> w.cell? ⟨b, o + i * z + j, none⟩ = cs[j]?) /\ P cs l[i]
structure Kp (Q Q' : Nat -> Prop) (w w' : World) : Prop where
 sub : ∀ b, Q b -> Q' b
 blk : ∀ b, Q b -> w'.heap[b]? = w.heap[b]?
theorem Kp.cell {Q Q' : Nat -> Prop} {w w' : World} (h : Kp Q Q' w w') {b o : Nat} (hb : Q b) : w'.cell? ⟨b, o, none⟩ = w.cell? ⟨b, o, none⟩ := by
 unfold World.cell?
 simp only [h.blk b hb]
theorem ArQ.mono {α : Type} {z bz : Nat} {P P' : List Value -> α -> Prop} {Q Q' : Nat -> Prop} {w w' : World} {v : Value} {l : List α} (h : ArQ z bz P Q w v l)
  (hk : Kp Q Q' w w') (hp : ∀ cs x, x ∈ l -> P cs x -> P' cs x) : ArQ z bz P' Q' w' v l := by
 obtain ⟨ao, cap, e, h1, h2, h3⟩ := h.shape
 refine ⟨ao, cap, e, h1, h2, fun i hi => ?_⟩
 obtain ⟨b, o, e1, hc, cs, hl, hcs, hq⟩ := h3 i hi
 refine ⟨b, o, e1, hk.sub b hc, cs, hl, fun j hj => ?_, hp _ _ (List.getElem_mem hi) hq⟩
 rw [hk.cell hc]
 exact hcs j hj
theorem ArQ.to {α : Type} {z bz : Nat} {P P' : List Value -> α -> Prop} {Q : Nat -> Prop} {K : Ctx} {w : World} {v : Value} {l : List α} (h : ArQ z bz P Q w v l)
  (hk : ∀ b, Q b -> b < K.C) (hp : ∀ cs x, x ∈ l -> P cs x -> P' cs x) : Ar z bz P' K w v l := by
 obtain ⟨ao, cap, e, h1, h2, h3⟩ := h.shape
 refine ⟨ao, cap, e, h1, h2, fun i hi => ?_⟩
 obtain ⟨b, o, e1, hc, cs, hl, hcs, hq⟩ := h3 i hi
 exact ⟨b, o, e1, hk b hc, cs, hl, hcs, hp _ _ (List.getElem_mem hi) hq⟩
theorem Ar.toQ {α : Type} {z bz : Nat} {P P' : List Value -> α -> Prop} {Q : Nat -> Prop} {K : Ctx} {w : World} {v : Value} {l : List α} (h : Ar z bz P K w v l)
  (hk : ∀ b, b < K.C -> Q b) (hp : ∀ cs x, x ∈ l -> P cs x -> P' cs x) : ArQ z bz P' Q w v l := by
 obtain ⟨ao, cap, e, h1, h2, h3⟩ := h.shape
 refine ⟨ao, cap, e, h1, h2, fun i hi => ?_⟩
 obtain ⟨b, o, e1, hc, cs, hl, hcs, hq⟩ := h3 i hi
 exact ⟨b, o, e1, hk b hc, cs, hl, hcs, hp _ _ (List.getElem_mem hi) hq⟩
theorem nil_arQ {α : Type} {z bz : Nat} {P : List Value -> α -> Prop} {Q : Nat -> Prop} {w : World} : ArQ z bz P Q w (.slice none 0 0) ([] : List α) := ⟨none, 0, rfl, Nat.le_refl _, by simp, fun _ h => by cases h⟩
theorem ArQ.form {α : Type} {z bz : Nat} {P : List Value -> α -> Prop} {Q : Nat -> Prop} {w : World} {v : Value} {l : List α} (h : ArQ z bz P Q w v l) : ∃ ao cap, v = .slice ao l.length cap := by
 obtain ⟨ao, cap, e, _⟩ := h.shape; exact ⟨ao, cap, e⟩
def TxQ (B : Nat) (cs : List Value) (s : Bs) : Prop := cs = [.string (str s)] /\ s.length <= B
def StrQ (Q : Nat -> Prop) (B : Nat) (w : World) (v : Value) (l : List Bs) : Prop := ArQ 1 16 (TxQ B) Q w v l
def TyQ : Nat -> (Nat -> Prop) -> Nat -> World -> List Value -> Ty -> Prop
 | 0, _, _, _, _, _ => False
 | n + 1, Q, B, w, cs, t => ∃ v2 v3, cs = [.int .i64 t.kind, .string (str t.name), v2, v3] /\ t.name.length <= B /\ StrQ Q B w v2 t.lives /\ ArQ 4 72 (TyQ n Q B w) Q w v3 t.elem
def IsTyQ (Q : Nat -> Prop) (B : Nat) (w : World) (cs : List Value) (t : Ty) : Prop := ∃ n, TyQ n Q B w cs t
def PlQ (Q : Nat -> Prop) (B : Nat) (w : World) (cs : List Value) (p : Pl) : Prop :=
 ∃ v1, cs = [.string (str p.name), v1] /\ p.name.length <= B /\ StrQ Q B w v1 p.path
def OprQ (Q : Nat -> Prop) (B : Nat) (w : World) (cs : List Value) (x : Opr) : Prop :=
 ∃ ps, cs = .int .i64 x.kind :: .int .i64 x.n :: ps /\ PlQ Q B w ps x.place
def VaQ (Q : Nat -> Prop) (B : Nat) (w : World) (cs : List Value) (x : Va) : Prop :=
 ∃ xa xb ps vn va, cs = .int .i64 x.kind :: (xa ++ (xb ++ (.int .i64 x.op :: (ps ++ [.string (str x.name), vn, va])))) /\
  OprQ Q B w xa x.a /\ OprQ Q B w xb x.b /\ PlQ Q B w ps x.place /\ x.name.length <= B /\ StrQ Q B w vn x.names /\ ArQ 4 56 (OprQ Q B w) Q w va x.args
def StQ : Nat -> (Nat -> Prop) -> Nat -> World -> List Value -> St -> Prop
 | 0, _, _, _, _, _ => False
 | n + 1, Q, B, w, cs, s => ∃ ts ps vs os vt ve, cs = .int .i64 s.kind :: .int .i64 s.pos :: .bool s.mu :: .string (str s.name) :: (ts ++ (.bool s.has :: (ps ++ (vs ++ (os ++ [vt, ve]))))) /\
  s.name.length <= B /\ IsTyQ Q B w ts s.ty /\ PlQ Q B w ps s.place /\ VaQ Q B w vs s.val /\ OprQ Q B w os s.cond /\ ArQ 32 496 (StQ n Q B w) Q w vt s.thn /\ ArQ 32 496 (StQ n Q B w) Q w ve s.els
def LfeQ (Q : Nat -> Prop) (B : Nat) (w : World) (cs : List Value) (x : Lfe) : Prop :=
 ∃ v1, cs = [.string (str x.name), v1] /\ x.name.length <= B /\ StrQ Q B w v1 x.over
def FldQ (Q : Nat -> Prop) (B : Nat) (w : World) (cs : List Value) (x : Fld) : Prop :=
 ∃ ts, cs = .bool x.mu :: .string (str x.name) :: ts /\ x.name.length <= B /\ IsTyQ Q B w ts x.ty
def SctQ (Q : Nat -> Prop) (B : Nat) (w : World) (cs : List Value) (x : Sct) : Prop :=
 ∃ v2 v3, cs = [.bool x.pub, .string (str x.name), v2, v3, .int .i64 x.pos] /\ x.name.length <= B /\ StrQ Q B w v2 x.lives /\ ArQ 6 96 (FldQ Q B w) Q w v3 x.fields
def FncQ (n : Nat) (Q : Nat -> Prop) (B : Nat) (w : World) (cs : List Value) (x : Fnc) : Prop :=
 ∃ v2 v3 ts v8, cs = .bool x.pub :: .string (str x.name) :: v2 :: v3 :: (ts ++ [v8, .int .i64 x.pos]) /\ x.name.length <= B /\
  ArQ 2 40 (LfeQ Q B w) Q w v2 x.lives /\ ArQ 6 96 (FldQ Q B w) Q w v3 x.params /\ IsTyQ Q B w ts x.result /\ ArQ 32 496 (StQ n Q B w) Q w v8 x.body
def CrtQ (n : Nat) (Q : Nat -> Prop) (B : Nat) (w : World) (cs : List Value) (x : Crt) : Prop :=
 ∃ v0 v1, cs = [v0, v1] /\ ArQ 5 80 (SctQ Q B w) Q w v0 x.structs /\ ArQ 10 176 (FncQ n Q B w) Q w v1 x.funcs
section
variable {Q Q' : Nat -> Prop} {B : Nat} {w w' : World}
theorem StrQ.mono {v : Value} {l : List Bs} (h : StrQ Q B w v l) (hk : Kp Q Q' w w') : StrQ Q' B w' v l := ArQ.mono h hk fun _ _ _ h => h
theorem TyQ.mono (hk : Kp Q Q' w w') : ∀ {n : Nat} {cs : List Value} {t : Ty}, TyQ n Q B w cs t -> TyQ n Q' B w' cs t
 | 0, _, _, h => h.elim
 | n + 1, _, _, h => by
  obtain ⟨v2, v3, e, h1, h2, h3⟩ := h
  exact ⟨v2, v3, e, h1, h2.mono hk, h3.mono hk fun _ _ _ h => TyQ.mono hk h⟩
theorem IsTyQ.mono {cs : List Value} {t : Ty} (h : IsTyQ Q B w cs t) (hk : Kp Q Q' w w') : IsTyQ Q' B w' cs t := by obtain ⟨n, h⟩ := h; exact ⟨n, h.mono hk⟩
theorem PlQ.mono {cs : List Value} {t : Pl} (h : PlQ Q B w cs t) (hk : Kp Q Q' w w') : PlQ Q' B w' cs t := by obtain ⟨v1, e, h1, h2⟩ := h; exact ⟨v1, e, h1, h2.mono hk⟩
theorem OprQ.mono {cs : List Value} {t : Opr} (h : OprQ Q B w cs t) (hk : Kp Q Q' w w') : OprQ Q' B w' cs t := by obtain ⟨v1, e, h1⟩ := h; exact ⟨v1, e, h1.mono hk⟩
theorem VaQ.mono {cs : List Value} {t : Va} (h : VaQ Q B w cs t) (hk : Kp Q Q' w w') : VaQ Q' B w' cs t := by
 obtain ⟨xa, xb, ps, vn, va, e, h1, h2, h3, h4, h5, h6⟩ := h
 exact ⟨xa, xb, ps, vn, va, e, h1.mono hk, h2.mono hk, h3.mono hk, h4, h5.mono hk, h6.mono hk fun _ _ _ h => h.mono hk⟩
theorem StQ.mono (hk : Kp Q Q' w w') : ∀ {n : Nat} {cs : List Value} {t : St}, StQ n Q B w cs t -> StQ n Q' B w' cs t
 | 0, _, _, h => h.elim
 | n + 1, _, _, h => by
  obtain ⟨ts, ps, vs, os, vt, ve, e, h1, h2, h3, h4, h5, h6, h7⟩ := h
  exact ⟨ts, ps, vs, os, vt, ve, e, h1, h2.mono hk, h3.mono hk, h4.mono hk, h5.mono hk, h6.mono hk fun _ _ _ h => StQ.mono hk h, h7.mono hk fun _ _ _ h => StQ.mono hk h⟩
theorem LfeQ.mono {cs : List Value} {t : Lfe} (h : LfeQ Q B w cs t) (hk : Kp Q Q' w w') : LfeQ Q' B w' cs t := by obtain ⟨v1, e, h1, h2⟩ := h; exact ⟨v1, e, h1, h2.mono hk⟩
theorem FldQ.mono {cs : List Value} {t : Fld} (h : FldQ Q B w cs t) (hk : Kp Q Q' w w') : FldQ Q' B w' cs t := by obtain ⟨v1, e, h1, h2⟩ := h; exact ⟨v1, e, h1, h2.mono hk⟩
theorem SctQ.mono {cs : List Value} {t : Sct} (h : SctQ Q B w cs t) (hk : Kp Q Q' w w') : SctQ Q' B w' cs t := by
 obtain ⟨v2, v3, e, h1, h2, h3⟩ := h; exact ⟨v2, v3, e, h1, h2.mono hk, h3.mono hk fun _ _ _ h => h.mono hk⟩
theorem FncQ.mono {n : Nat} {cs : List Value} {t : Fnc} (h : FncQ n Q B w cs t) (hk : Kp Q Q' w w') : FncQ n Q' B w' cs t := by
 obtain ⟨v2, v3, ts, v8, e, h1, h2, h3, h4, h5⟩ := h
 exact ⟨v2, v3, ts, v8, e, h1, h2.mono hk fun _ _ _ h => h.mono hk, h3.mono hk fun _ _ _ h => h.mono hk, h4.mono hk, h5.mono hk fun _ _ _ h => StQ.mono hk h⟩
theorem CrtQ.mono {n : Nat} {cs : List Value} {t : Crt} (h : CrtQ n Q B w cs t) (hk : Kp Q Q' w w') : CrtQ n Q' B w' cs t := by
 obtain ⟨v0, v1, e, h1, h2⟩ := h; exact ⟨v0, v1, e, h1.mono hk fun _ _ _ h => h.mono hk, h2.mono hk fun _ _ _ h => h.mono hk⟩
variable {K : Ctx}
theorem StrQ.to {v : Value} {l : List Bs} (h : StrQ Q K.B w v l) (hk : ∀ b, Q b -> b < K.C) : Strs K w v l := ArQ.to h hk fun _ _ _ h => h
theorem TyQ.to (hk : ∀ b, Q b -> b < K.C) : ∀ {n : Nat} {cs : List Value} {t : Ty}, TyQ n Q K.B w cs t -> TyAt n K w cs t
 | 0, _, _, h => h.elim
 | n + 1, _, _, h => by
  obtain ⟨v2, v3, e, h1, h2, h3⟩ := h
  exact ⟨v2, v3, e, h1, h2.to hk, h3.to hk fun _ _ _ h => TyQ.to hk h⟩
theorem IsTyQ.to {cs : List Value} {t : Ty} (h : IsTyQ Q K.B w cs t) (hk : ∀ b, Q b -> b < K.C) : IsTy K w cs t := by obtain ⟨n, h⟩ := h; exact ⟨n, h.to hk⟩
theorem PlQ.to {cs : List Value} {t : Pl} (h : PlQ Q K.B w cs t) (hk : ∀ b, Q b -> b < K.C) : PlAt K w cs t := by obtain ⟨v1, e, h1, h2⟩ := h; exact ⟨v1, e, h1, h2.to hk⟩
theorem OprQ.to {cs : List Value} {t : Opr} (h : OprQ Q K.B w cs t) (hk : ∀ b, Q b -> b < K.C) : OprAt K w cs t := by obtain ⟨v1, e, h1⟩ := h; exact ⟨v1, e, h1.to hk⟩
theorem VaQ.to {cs : List Value} {t : Va} (h : VaQ Q K.B w cs t) (hk : ∀ b, Q b -> b < K.C) : VaAt K w cs t := by
 obtain ⟨xa, xb, ps, vn, va, e, h1, h2, h3, h4, h5, h6⟩ := h
 exact ⟨xa, xb, ps, vn, va, e, h1.to hk, h2.to hk, h3.to hk, h4, h5.to hk, h6.to hk fun _ _ _ h => h.to hk⟩
theorem StQ.to (hk : ∀ b, Q b -> b < K.C) : ∀ {n : Nat} {cs : List Value} {t : St}, StQ n Q K.B w cs t -> StAt n K w cs t
 | 0, _, _, h => h.elim
 | n + 1, _, _, h => by
  obtain ⟨ts, ps, vs, os, vt, ve, e, h1, h2, h3, h4, h5, h6, h7⟩ := h
  exact ⟨ts, ps, vs, os, vt, ve, e, h1, h2.to hk, h3.to hk, h4.to hk, h5.to hk, h6.to hk fun _ _ _ h => StQ.to hk h, h7.to hk fun _ _ _ h => StQ.to hk h⟩
theorem LfeQ.to {cs : List Value} {t : Lfe} (h : LfeQ Q K.B w cs t) (hk : ∀ b, Q b -> b < K.C) : LfeAt K w cs t := by obtain ⟨v1, e, h1, h2⟩ := h; exact ⟨v1, e, h1, h2.to hk⟩
theorem FldQ.to {cs : List Value} {t : Fld} (h : FldQ Q K.B w cs t) (hk : ∀ b, Q b -> b < K.C) : FldAt K w cs t := by obtain ⟨v1, e, h1, h2⟩ := h; exact ⟨v1, e, h1, h2.to hk⟩
theorem SctQ.to {cs : List Value} {t : Sct} (h : SctQ Q K.B w cs t) (hk : ∀ b, Q b -> b < K.C) : SctAt K w cs t := by
 obtain ⟨v2, v3, e, h1, h2, h3⟩ := h; exact ⟨v2, v3, e, h1, h2.to hk, h3.to hk fun _ _ _ h => h.to hk⟩
theorem FncQ.to {n : Nat} {cs : List Value} {t : Fnc} (h : FncQ n Q K.B w cs t) (hk : ∀ b, Q b -> b < K.C) : FncAt n K w cs t := by
 obtain ⟨v2, v3, ts, v8, e, h1, h2, h3, h4, h5⟩ := h
 exact ⟨v2, v3, ts, v8, e, h1, h2.to hk fun _ _ _ h => h.to hk, h3.to hk fun _ _ _ h => h.to hk, h4.to hk, h5.to hk fun _ _ _ h => StQ.to hk h⟩
theorem CrtQ.to {n : Nat} {cs : List Value} {t : Crt} (h : CrtQ n Q K.B w cs t) (hk : ∀ b, Q b -> b < K.C) : CrtAt n K w cs t := by
 obtain ⟨v0, v1, e, h1, h2⟩ := h; exact ⟨v0, v1, e, h1.to hk fun _ _ _ h => h.to hk, h2.to hk fun _ _ _ h => h.to hk⟩
end
def Fr (w w' : World) (b : Nat) : Prop := w.heap.size <= b /\ b < w'.heap.size
theorem Kp.fr {w0 w a b : World} {g : Nat} (h : Stay (fun k => k = g) a b) (hg : g < w.heap.size) (h0 : w0.heap.size <= w.heap.size) : Kp (Fr w a) (Fr w0 b) a b :=
 ⟨fun k hk => ⟨Nat.le_trans h0 hk.1, Nat.lt_of_lt_of_le hk.2 h.size⟩, fun k hk => h.block k hk.2 (fun e => by have := hk.1; omega)⟩
theorem Kp.fr' {w0 w a : World} (h0 : w0.heap.size <= w.heap.size) : Kp (Fr w a) (Fr w0 a) a a := ⟨fun _ hk => ⟨Nat.le_trans h0 hk.1, hk.2⟩, fun _ _ => rfl⟩
end Go.Proofs.YtldbbkheemnnhaaGreatDoor
