/-
  Trees in memory of their own: a condition says in which blocks they lie; what stays when other blocks turn.
-/
import Derived.Test.YtmopffaocamieaaGreatJhiSub4
namespace Go.Proofs.YtmopffaocamieaaGreat
open Go.RowKit

structure ArQ {α : Type} (z bz : Nat) (P : List Value → α → Prop) (Q : Nat → Prop) (w : World) (v : Value) (l : List α) : Prop where
  shape : ∃ ao cap, v = .slice ao l.length cap ∧ l.length ≤ cap ∧ l.length * bz ≤ 140737488355328 ∧
    ∀ i (h : i < l.length), ∃ b o, ao = some ⟨b, o, none⟩ ∧ Q b ∧ ∃ cs, cs.length = z ∧ (∀ j, j < z → w.cell? ⟨b, o + i * z + j, none⟩ = cs[j]?) ∧ P cs l[i]
/-- What stays: the blocks of Q are as they were. -/
structure Kp (Q Q' : Nat → Prop) (w w' : World) : Prop where
  sub : ∀ b, Q b → Q' b
  blk : ∀ b, Q b → w'.heap[b]? = w.heap[b]?
theorem Kp.cell {Q Q' : Nat → Prop} {w w' : World} (h : Kp Q Q' w w') {b o : Nat} (hb : Q b) : w'.cell? ⟨b, o, none⟩ = w.cell? ⟨b, o, none⟩ := by
  unfold World.cell?
  simp only [h.blk b hb]
theorem ArQ.mono {α : Type} {z bz : Nat} {P P' : List Value → α → Prop} {Q Q' : Nat → Prop} {w w' : World} {v : Value} {l : List α} (h : ArQ z bz P Q w v l)
    (hk : Kp Q Q' w w') (hp : ∀ cs x, x ∈ l → P cs x → P' cs x) : ArQ z bz P' Q' w' v l := by
  obtain ⟨ao, cap, e, h1, h2, h3⟩ := h.shape
  refine ⟨ao, cap, e, h1, h2, fun i hi => ?_⟩
  obtain ⟨b, o, e1, hc, cs, hl, hcs, hq⟩ := h3 i hi
  refine ⟨b, o, e1, hk.sub b hc, cs, hl, fun j hj => ?_, hp _ _ (List.getElem_mem hi) hq⟩
  rw [hk.cell hc]
  exact hcs j hj
theorem ArQ.to {α : Type} {z bz : Nat} {P P' : List Value → α → Prop} {Q : Nat → Prop} {K : Ctx} {w : World} {v : Value} {l : List α} (h : ArQ z bz P Q w v l)
    (hk : ∀ b, Q b → b < K.C) (hp : ∀ cs x, x ∈ l → P cs x → P' cs x) : Ar z bz P' K w v l := by
  obtain ⟨ao, cap, e, h1, h2, h3⟩ := h.shape
  refine ⟨ao, cap, e, h1, h2, fun i hi => ?_⟩
  obtain ⟨b, o, e1, hc, cs, hl, hcs, hq⟩ := h3 i hi
  exact ⟨b, o, e1, hk b hc, cs, hl, hcs, hp _ _ (List.getElem_mem hi) hq⟩
theorem Ar.toQ {α : Type} {z bz : Nat} {P P' : List Value → α → Prop} {Q : Nat → Prop} {K : Ctx} {w : World} {v : Value} {l : List α} (h : Ar z bz P K w v l)
    (hk : ∀ b, b < K.C → Q b) (hp : ∀ cs x, x ∈ l → P cs x → P' cs x) : ArQ z bz P' Q w v l := by
  obtain ⟨ao, cap, e, h1, h2, h3⟩ := h.shape
  refine ⟨ao, cap, e, h1, h2, fun i hi => ?_⟩
  obtain ⟨b, o, e1, hc, cs, hl, hcs, hq⟩ := h3 i hi
  exact ⟨b, o, e1, hk b hc, cs, hl, hcs, hp _ _ (List.getElem_mem hi) hq⟩
theorem nil_arQ {α : Type} {z bz : Nat} {P : List Value → α → Prop} {Q : Nat → Prop} {w : World} : ArQ z bz P Q w (.slice none 0 0) ([] : List α) := ⟨none, 0, rfl, Nat.le_refl _, by simp, fun _ h => by cases h⟩
theorem ArQ.form {α : Type} {z bz : Nat} {P : List Value → α → Prop} {Q : Nat → Prop} {w : World} {v : Value} {l : List α} (h : ArQ z bz P Q w v l) : ∃ ao cap, v = .slice ao l.length cap := by
  obtain ⟨ao, cap, e, _⟩ := h.shape; exact ⟨ao, cap, e⟩

def TxQ (B : Nat) (cs : List Value) (s : Bs) : Prop := cs = [.string (str s)] ∧ s.length ≤ B
def StrQ (Q : Nat → Prop) (B : Nat) (w : World) (v : Value) (l : List Bs) : Prop := ArQ 1 16 (TxQ B) Q w v l
def TyQ : Nat → (Nat → Prop) → Nat → World → List Value → Ty → Prop
  | 0, _, _, _, _, _ => False
  | n + 1, Q, B, w, cs, t => ∃ v2 v3, cs = [.int .i64 t.kind, .string (str t.name), v2, v3] ∧ t.name.length ≤ B ∧ StrQ Q B w v2 t.lives ∧ ArQ 4 72 (TyQ n Q B w) Q w v3 t.elem
def IsTyQ (Q : Nat → Prop) (B : Nat) (w : World) (cs : List Value) (t : Ty) : Prop := ∃ n, TyQ n Q B w cs t
def PlQ (Q : Nat → Prop) (B : Nat) (w : World) (cs : List Value) (p : Pl) : Prop :=
  ∃ v1, cs = [.string (str p.name), v1] ∧ p.name.length ≤ B ∧ StrQ Q B w v1 p.path
def OprQ (Q : Nat → Prop) (B : Nat) (w : World) (cs : List Value) (x : Opr) : Prop :=
  ∃ ps, cs = .int .i64 x.kind :: .int .i64 x.n :: ps ∧ PlQ Q B w ps x.place
def VaQ (Q : Nat → Prop) (B : Nat) (w : World) (cs : List Value) (x : Va) : Prop :=
  ∃ xa xb ps vn va, cs = .int .i64 x.kind :: (xa ++ (xb ++ (.int .i64 x.op :: (ps ++ [.string (str x.name), vn, va])))) ∧
    OprQ Q B w xa x.a ∧ OprQ Q B w xb x.b ∧ PlQ Q B w ps x.place ∧ x.name.length ≤ B ∧ StrQ Q B w vn x.names ∧ ArQ 4 56 (OprQ Q B w) Q w va x.args
def StQ : Nat → (Nat → Prop) → Nat → World → List Value → St → Prop
  | 0, _, _, _, _, _ => False
  | n + 1, Q, B, w, cs, s => ∃ ts ps vs os vt ve, cs = .int .i64 s.kind :: .int .i64 s.pos :: .bool s.mu :: .string (str s.name) :: (ts ++ (.bool s.has :: (ps ++ (vs ++ (os ++ [vt, ve]))))) ∧
    s.name.length ≤ B ∧ IsTyQ Q B w ts s.ty ∧ PlQ Q B w ps s.place ∧ VaQ Q B w vs s.val ∧ OprQ Q B w os s.cond ∧ ArQ 32 496 (StQ n Q B w) Q w vt s.thn ∧ ArQ 32 496 (StQ n Q B w) Q w ve s.els
def LfeQ (Q : Nat → Prop) (B : Nat) (w : World) (cs : List Value) (x : Lfe) : Prop :=
  ∃ v1, cs = [.string (str x.name), v1] ∧ x.name.length ≤ B ∧ StrQ Q B w v1 x.over
def FldQ (Q : Nat → Prop) (B : Nat) (w : World) (cs : List Value) (x : Fld) : Prop :=
  ∃ ts, cs = .bool x.mu :: .string (str x.name) :: ts ∧ x.name.length ≤ B ∧ IsTyQ Q B w ts x.ty
def SctQ (Q : Nat → Prop) (B : Nat) (w : World) (cs : List Value) (x : Sct) : Prop :=
  ∃ v2 v3, cs = [.bool x.pub, .string (str x.name), v2, v3, .int .i64 x.pos] ∧ x.name.length ≤ B ∧ StrQ Q B w v2 x.lives ∧ ArQ 6 96 (FldQ Q B w) Q w v3 x.fields
def FncQ (n : Nat) (Q : Nat → Prop) (B : Nat) (w : World) (cs : List Value) (x : Fnc) : Prop :=
  ∃ v2 v3 ts v8, cs = .bool x.pub :: .string (str x.name) :: v2 :: v3 :: (ts ++ [v8, .int .i64 x.pos]) ∧ x.name.length ≤ B ∧
    ArQ 2 40 (LfeQ Q B w) Q w v2 x.lives ∧ ArQ 6 96 (FldQ Q B w) Q w v3 x.params ∧ IsTyQ Q B w ts x.result ∧ ArQ 32 496 (StQ n Q B w) Q w v8 x.body
def CrtQ (n : Nat) (Q : Nat → Prop) (B : Nat) (w : World) (cs : List Value) (x : Crt) : Prop :=
  ∃ v0 v1, cs = [v0, v1] ∧ ArQ 5 80 (SctQ Q B w) Q w v0 x.structs ∧ ArQ 10 176 (FncQ n Q B w) Q w v1 x.funcs
section
variable {Q Q' : Nat → Prop} {B : Nat} {w w' : World}
theorem StrQ.mono {v : Value} {l : List Bs} (h : StrQ Q B w v l) (hk : Kp Q Q' w w') : StrQ Q' B w' v l := ArQ.mono h hk fun _ _ _ h => h
theorem TyQ.mono (hk : Kp Q Q' w w') : ∀ {n : Nat} {cs : List Value} {t : Ty}, TyQ n Q B w cs t → TyQ n Q' B w' cs t
  | 0, _, _, h => h.elim
  | n + 1, _, _, h => by
    obtain ⟨v2, v3, e, h1, h2, h3⟩ := h
    exact ⟨v2, v3, e, h1, h2.mono hk, h3.mono hk fun _ _ _ h => TyQ.mono hk h⟩
theorem IsTyQ.mono {cs : List Value} {t : Ty} (h : IsTyQ Q B w cs t) (hk : Kp Q Q' w w') : IsTyQ Q' B w' cs t := by obtain ⟨n, h⟩ := h; exact ⟨n, h.mono hk⟩
theorem PlQ.mono {cs : List Value} {t : Pl} (h : PlQ Q B w cs t) (hk : Kp Q Q' w w') : PlQ Q' B w' cs t := by obtain ⟨v1, e, h1, h2⟩ := h; exact ⟨v1, e, h1, h2.mono hk⟩
theorem OprQ.mono {cs : List Value} {t : Opr} (h : OprQ Q B w cs t) (hk : Kp Q Q' w w') : OprQ Q' B w' cs t := by obtain ⟨v1, e, h1⟩ := h; exact ⟨v1, e, h1.mono hk⟩
theorem VaQ.mono {cs : List Value} {t : Va} (h : VaQ Q B w cs t) (hk : Kp Q Q' w w') : VaQ Q' B w' cs t := by
  obtain ⟨xa, xb, ps, vn, va, e, h1, h2, h3, h4, h5, h6⟩ := h
  exact ⟨xa, xb, ps, vn, va, e, h1.mono hk, h2.mono hk, h3.mono hk, h4, h5.mono hk, h6.mono hk fun _ _ _ h => h.mono hk⟩
theorem StQ.mono (hk : Kp Q Q' w w') : ∀ {n : Nat} {cs : List Value} {t : St}, StQ n Q B w cs t → StQ n Q' B w' cs t
  | 0, _, _, h => h.elim
  | n + 1, _, _, h => by
    obtain ⟨ts, ps, vs, os, vt, ve, e, h1, h2, h3, h4, h5, h6, h7⟩ := h
    exact ⟨ts, ps, vs, os, vt, ve, e, h1, h2.mono hk, h3.mono hk, h4.mono hk, h5.mono hk, h6.mono hk fun _ _ _ h => StQ.mono hk h, h7.mono hk fun _ _ _ h => StQ.mono hk h⟩
theorem LfeQ.mono {cs : List Value} {t : Lfe} (h : LfeQ Q B w cs t) (hk : Kp Q Q' w w') : LfeQ Q' B w' cs t := by obtain ⟨v1, e, h1, h2⟩ := h; exact ⟨v1, e, h1, h2.mono hk⟩
theorem FldQ.mono {cs : List Value} {t : Fld} (h : FldQ Q B w cs t) (hk : Kp Q Q' w w') : FldQ Q' B w' cs t := by obtain ⟨v1, e, h1, h2⟩ := h; exact ⟨v1, e, h1, h2.mono hk⟩
theorem SctQ.mono {cs : List Value} {t : Sct} (h : SctQ Q B w cs t) (hk : Kp Q Q' w w') : SctQ Q' B w' cs t := by
  obtain ⟨v2, v3, e, h1, h2, h3⟩ := h; exact ⟨v2, v3, e, h1, h2.mono hk, h3.mono hk fun _ _ _ h => h.mono hk⟩
theorem FncQ.mono {n : Nat} {cs : List Value} {t : Fnc} (h : FncQ n Q B w cs t) (hk : Kp Q Q' w w') : FncQ n Q' B w' cs t := by
  obtain ⟨v2, v3, ts, v8, e, h1, h2, h3, h4, h5⟩ := h
  exact ⟨v2, v3, ts, v8, e, h1, h2.mono hk fun _ _ _ h => h.mono hk, h3.mono hk fun _ _ _ h => h.mono hk, h4.mono hk, h5.mono hk fun _ _ _ h => StQ.mono hk h⟩
theorem CrtQ.mono {n : Nat} {cs : List Value} {t : Crt} (h : CrtQ n Q B w cs t) (hk : Kp Q Q' w w') : CrtQ n Q' B w' cs t := by
  obtain ⟨v0, v1, e, h1, h2⟩ := h; exact ⟨v0, v1, e, h1.mono hk fun _ _ _ h => h.mono hk, h2.mono hk fun _ _ _ h => h.mono hk⟩
variable {K : Ctx}
theorem StrQ.to {v : Value} {l : List Bs} (h : StrQ Q K.B w v l) (hk : ∀ b, Q b → b < K.C) : Strs K w v l := ArQ.to h hk fun _ _ _ h => h
theorem TyQ.to (hk : ∀ b, Q b → b < K.C) : ∀ {n : Nat} {cs : List Value} {t : Ty}, TyQ n Q K.B w cs t → TyAt n K w cs t
  | 0, _, _, h => h.elim
  | n + 1, _, _, h => by
    obtain ⟨v2, v3, e, h1, h2, h3⟩ := h
    exact ⟨v2, v3, e, h1, h2.to hk, h3.to hk fun _ _ _ h => TyQ.to hk h⟩
theorem IsTyQ.to {cs : List Value} {t : Ty} (h : IsTyQ Q K.B w cs t) (hk : ∀ b, Q b → b < K.C) : IsTy K w cs t := by obtain ⟨n, h⟩ := h; exact ⟨n, h.to hk⟩
theorem PlQ.to {cs : List Value} {t : Pl} (h : PlQ Q K.B w cs t) (hk : ∀ b, Q b → b < K.C) : PlAt K w cs t := by obtain ⟨v1, e, h1, h2⟩ := h; exact ⟨v1, e, h1, h2.to hk⟩
theorem OprQ.to {cs : List Value} {t : Opr} (h : OprQ Q K.B w cs t) (hk : ∀ b, Q b → b < K.C) : OprAt K w cs t := by obtain ⟨v1, e, h1⟩ := h; exact ⟨v1, e, h1.to hk⟩
theorem VaQ.to {cs : List Value} {t : Va} (h : VaQ Q K.B w cs t) (hk : ∀ b, Q b → b < K.C) : VaAt K w cs t := by
  obtain ⟨xa, xb, ps, vn, va, e, h1, h2, h3, h4, h5, h6⟩ := h
  exact ⟨xa, xb, ps, vn, va, e, h1.to hk, h2.to hk, h3.to hk, h4, h5.to hk, h6.to hk fun _ _ _ h => h.to hk⟩
theorem StQ.to (hk : ∀ b, Q b → b < K.C) : ∀ {n : Nat} {cs : List Value} {t : St}, StQ n Q K.B w cs t → StAt n K w cs t
  | 0, _, _, h => h.elim
  | n + 1, _, _, h => by
    obtain ⟨ts, ps, vs, os, vt, ve, e, h1, h2, h3, h4, h5, h6, h7⟩ := h
    exact ⟨ts, ps, vs, os, vt, ve, e, h1, h2.to hk, h3.to hk, h4.to hk, h5.to hk, h6.to hk fun _ _ _ h => StQ.to hk h, h7.to hk fun _ _ _ h => StQ.to hk h⟩
theorem LfeQ.to {cs : List Value} {t : Lfe} (h : LfeQ Q K.B w cs t) (hk : ∀ b, Q b → b < K.C) : LfeAt K w cs t := by obtain ⟨v1, e, h1, h2⟩ := h; exact ⟨v1, e, h1, h2.to hk⟩
theorem FldQ.to {cs : List Value} {t : Fld} (h : FldQ Q K.B w cs t) (hk : ∀ b, Q b → b < K.C) : FldAt K w cs t := by obtain ⟨v1, e, h1, h2⟩ := h; exact ⟨v1, e, h1, h2.to hk⟩
theorem SctQ.to {cs : List Value} {t : Sct} (h : SctQ Q K.B w cs t) (hk : ∀ b, Q b → b < K.C) : SctAt K w cs t := by
  obtain ⟨v2, v3, e, h1, h2, h3⟩ := h; exact ⟨v2, v3, e, h1, h2.to hk, h3.to hk fun _ _ _ h => h.to hk⟩
theorem FncQ.to {n : Nat} {cs : List Value} {t : Fnc} (h : FncQ n Q K.B w cs t) (hk : ∀ b, Q b → b < K.C) : FncAt n K w cs t := by
  obtain ⟨v2, v3, ts, v8, e, h1, h2, h3, h4, h5⟩ := h
  exact ⟨v2, v3, ts, v8, e, h1, h2.to hk fun _ _ _ h => h.to hk, h3.to hk fun _ _ _ h => h.to hk, h4.to hk, h5.to hk fun _ _ _ h => StQ.to hk h⟩
theorem CrtQ.to {n : Nat} {cs : List Value} {t : Crt} (h : CrtQ n Q K.B w cs t) (hk : ∀ b, Q b → b < K.C) : CrtAt n K w cs t := by
  obtain ⟨v0, v1, e, h1, h2⟩ := h; exact ⟨v0, v1, e, h1.to hk fun _ _ _ h => h.to hk, h2.to hk fun _ _ _ h => h.to hk⟩
end
/-- The blocks that are new since w. -/
def Fr (w w' : World) (b : Nat) : Prop := w.heap.size ≤ b ∧ b < w'.heap.size
/-- What is new stays, while one elder block turns. -/
theorem Kp.fr {w0 w a b : World} {g : Nat} (h : Stay (fun k => k = g) a b) (hg : g < w.heap.size) (h0 : w0.heap.size ≤ w.heap.size) : Kp (Fr w a) (Fr w0 b) a b :=
  ⟨fun k hk => ⟨Nat.le_trans h0 hk.1, Nat.lt_of_lt_of_le hk.2 h.size⟩, fun k hk => h.block k hk.2 (fun e => by have := hk.1; omega)⟩
theorem Kp.fr' {w0 w a : World} (h0 : w0.heap.size ≤ w.heap.size) : Kp (Fr w a) (Fr w0 a) a a := ⟨fun _ hk => ⟨Nat.le_trans h0 hk.1, hk.2⟩, fun _ _ => rfl⟩
end Go.Proofs.YtmopffaocamieaaGreat
