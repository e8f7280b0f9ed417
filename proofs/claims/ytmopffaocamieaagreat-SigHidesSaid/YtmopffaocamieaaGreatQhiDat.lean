/-
  Trees as data, and how they lie in memory.
-/
import Derived.Test.YtmopffaocamieaaGreatJhiMat4
namespace Go.Proofs.YtmopffaocamieaaGreat
open Go.RowKit

abbrev Bs := List UInt8
structure Ty where
  kind : Int
  name : Bs
  lives : List Bs
  elem : List Ty
structure Pl where
  name : Bs
  path : List Bs
structure Opr where
  kind : Int
  n : Int
  place : Pl
structure Va where
  kind : Int
  a : Opr
  b : Opr
  op : Int
  place : Pl
  name : Bs
  names : List Bs
  args : List Opr
structure St where
  kind : Int
  pos : Int
  mu : Bool
  name : Bs
  ty : Ty
  has : Bool
  place : Pl
  val : Va
  cond : Opr
  thn : List St
  els : List St
structure Lfe where
  name : Bs
  over : List Bs
structure Fld where
  mu : Bool
  name : Bs
  ty : Ty
structure Sct where
  pub : Bool
  name : Bs
  lives : List Bs
  fields : List Fld
  pos : Int
structure Fnc where
  pub : Bool
  name : Bs
  lives : List Lfe
  params : List Fld
  result : Ty
  body : List St
  pos : Int
structure Crt where
  structs : List Sct
  funcs : List Fnc

/-- C: all that is spoken of lies in blocks below it; B: how long texts are at most. -/
structure Ctx where
  C : Nat
  B : Nat
  small : B ≤ 140737488355328

/-- The slice v (its elements have z cells and bz bytes) holds the things l, each as P says. -/
structure Ar {α : Type} (z bz : Nat) (P : List Value → α → Prop) (K : Ctx) (w : World) (v : Value) (l : List α) : Prop where
  shape : ∃ ao cap, v = .slice ao l.length cap ∧ l.length ≤ cap ∧ l.length * bz ≤ 140737488355328 ∧
    ∀ i (h : i < l.length), ∃ b o, ao = some ⟨b, o, none⟩ ∧ b < K.C ∧ ∃ cs, cs.length = z ∧ (∀ j, j < z → w.cell? ⟨b, o + i * z + j, none⟩ = cs[j]?) ∧ P cs l[i]

theorem Ar.mono {α : Type} {z bz : Nat} {P P' : List Value → α → Prop} {K : Ctx} {w w' : World} {v : Value} {l : List α} (h : Ar z bz P K w v l)
    (hb : Below K.C w w') (hp : ∀ cs x, x ∈ l → P cs x → P' cs x) : Ar z bz P' K w' v l := by
  obtain ⟨ao, cap, e, h1, h2, h3⟩ := h.shape
  refine ⟨ao, cap, e, h1, h2, fun i hi => ?_⟩
  obtain ⟨b, o, e1, hc, cs, hl, hcs, hq⟩ := h3 i hi
  refine ⟨b, o, e1, hc, cs, hl, fun j hj => ?_, hp _ _ (List.getElem_mem hi) hq⟩
  rw [hb.cell (p := ⟨b, o + i * z + j, none⟩) hc]
  exact hcs j hj

/-- Another bound of blocks. -/
def Ctx.up (K : Ctx) (C : Nat) : Ctx := ⟨C, K.B, K.small⟩
theorem Ar.up {α : Type} {z bz : Nat} {P P' : List Value → α → Prop} {K : Ctx} {w : World} {v : Value} {l : List α} (h : Ar z bz P K w v l)
    {C : Nat} (hC : K.C ≤ C) (hp : ∀ cs x, x ∈ l → P cs x → P' cs x) : Ar z bz P' (K.up C) w v l := by
  obtain ⟨ao, cap, e, h1, h2, h3⟩ := h.shape
  refine ⟨ao, cap, e, h1, h2, fun i hi => ?_⟩
  obtain ⟨b, o, e1, hc, cs, hl, hcs, hq⟩ := h3 i hi
  exact ⟨b, o, e1, Nat.lt_of_lt_of_le hc hC, cs, hl, hcs, hp _ _ (List.getElem_mem hi) hq⟩

/-- A text of a row. -/
def TxAt (K : Ctx) (cs : List Value) (s : Bs) : Prop := cs = [.string (str s)] ∧ s.length ≤ K.B
def Strs (K : Ctx) (w : World) (v : Value) (l : List Bs) : Prop := Ar 1 16 (TxAt K) K w v l

def TyAt : Nat → Ctx → World → List Value → Ty → Prop
  | 0, _, _, _, _ => False
  | n + 1, K, w, cs, t => ∃ v2 v3, cs = [.int .i64 t.kind, .string (str t.name), v2, v3] ∧ t.name.length ≤ K.B ∧ Strs K w v2 t.lives ∧ Ar 4 72 (TyAt n K w) K w v3 t.elem
def IsTy (K : Ctx) (w : World) (cs : List Value) (t : Ty) : Prop := ∃ n, TyAt n K w cs t
def PlAt (K : Ctx) (w : World) (cs : List Value) (p : Pl) : Prop :=
  ∃ v1, cs = [.string (str p.name), v1] ∧ p.name.length ≤ K.B ∧ Strs K w v1 p.path
def OprAt (K : Ctx) (w : World) (cs : List Value) (x : Opr) : Prop :=
  ∃ ps, cs = .int .i64 x.kind :: .int .i64 x.n :: ps ∧ PlAt K w ps x.place
def VaAt (K : Ctx) (w : World) (cs : List Value) (x : Va) : Prop :=
  ∃ xa xb ps vn va, cs = .int .i64 x.kind :: (xa ++ (xb ++ (.int .i64 x.op :: (ps ++ [.string (str x.name), vn, va])))) ∧
    OprAt K w xa x.a ∧ OprAt K w xb x.b ∧ PlAt K w ps x.place ∧ x.name.length ≤ K.B ∧ Strs K w vn x.names ∧ Ar 4 56 (OprAt K w) K w va x.args
def StAt : Nat → Ctx → World → List Value → St → Prop
  | 0, _, _, _, _ => False
  | n + 1, K, w, cs, s => ∃ ts ps vs os vt ve, cs = .int .i64 s.kind :: .int .i64 s.pos :: .bool s.mu :: .string (str s.name) :: (ts ++ (.bool s.has :: (ps ++ (vs ++ (os ++ [vt, ve]))))) ∧
    s.name.length ≤ K.B ∧ IsTy K w ts s.ty ∧ PlAt K w ps s.place ∧ VaAt K w vs s.val ∧ OprAt K w os s.cond ∧ Ar 32 496 (StAt n K w) K w vt s.thn ∧ Ar 32 496 (StAt n K w) K w ve s.els
def LfeAt (K : Ctx) (w : World) (cs : List Value) (x : Lfe) : Prop :=
  ∃ v1, cs = [.string (str x.name), v1] ∧ x.name.length ≤ K.B ∧ Strs K w v1 x.over
def FldAt (K : Ctx) (w : World) (cs : List Value) (x : Fld) : Prop :=
  ∃ ts, cs = .bool x.mu :: .string (str x.name) :: ts ∧ x.name.length ≤ K.B ∧ IsTy K w ts x.ty
def SctAt (K : Ctx) (w : World) (cs : List Value) (x : Sct) : Prop :=
  ∃ v2 v3, cs = [.bool x.pub, .string (str x.name), v2, v3, .int .i64 x.pos] ∧ x.name.length ≤ K.B ∧ Strs K w v2 x.lives ∧ Ar 6 96 (FldAt K w) K w v3 x.fields
def FncAt (n : Nat) (K : Ctx) (w : World) (cs : List Value) (x : Fnc) : Prop :=
  ∃ v2 v3 ts v8, cs = .bool x.pub :: .string (str x.name) :: v2 :: v3 :: (ts ++ [v8, .int .i64 x.pos]) ∧ x.name.length ≤ K.B ∧
    Ar 2 40 (LfeAt K w) K w v2 x.lives ∧ Ar 6 96 (FldAt K w) K w v3 x.params ∧ IsTy K w ts x.result ∧ Ar 32 496 (StAt n K w) K w v8 x.body
def CrtAt (n : Nat) (K : Ctx) (w : World) (cs : List Value) (x : Crt) : Prop :=
  ∃ v0 v1, cs = [v0, v1] ∧ Ar 5 80 (SctAt K w) K w v0 x.structs ∧ Ar 10 176 (FncAt n K w) K w v1 x.funcs

theorem Strs.below {K : Ctx} {w w' : World} {v : Value} {l : List Bs} (h : Strs K w v l) (hb : Below K.C w w') : Strs K w' v l := Ar.mono h hb fun _ _ _ h => h
theorem TyAt.below {K : Ctx} {w w' : World} (hb : Below K.C w w') : ∀ {n : Nat} {cs : List Value} {t : Ty}, TyAt n K w cs t → TyAt n K w' cs t
  | 0, _, _, h => h.elim
  | n + 1, _, _, h => by
    obtain ⟨v2, v3, e, h1, h2, h3⟩ := h
    exact ⟨v2, v3, e, h1, h2.below hb, h3.mono hb fun _ _ _ h => TyAt.below hb h⟩
theorem IsTy.below {K : Ctx} {w w' : World} {cs : List Value} {t : Ty} (h : IsTy K w cs t) (hb : Below K.C w w') : IsTy K w' cs t := by
  obtain ⟨n, h⟩ := h; exact ⟨n, h.below hb⟩
theorem PlAt.below {K : Ctx} {w w' : World} {cs : List Value} {t : Pl} (h : PlAt K w cs t) (hb : Below K.C w w') : PlAt K w' cs t := by
  obtain ⟨v1, e, h1, h2⟩ := h; exact ⟨v1, e, h1, h2.below hb⟩
theorem OprAt.below {K : Ctx} {w w' : World} {cs : List Value} {t : Opr} (h : OprAt K w cs t) (hb : Below K.C w w') : OprAt K w' cs t := by
  obtain ⟨v1, e, h1⟩ := h; exact ⟨v1, e, h1.below hb⟩
theorem VaAt.below {K : Ctx} {w w' : World} {cs : List Value} {t : Va} (h : VaAt K w cs t) (hb : Below K.C w w') : VaAt K w' cs t := by
  obtain ⟨xa, xb, ps, vn, va, e, h1, h2, h3, h4, h5, h6⟩ := h
  exact ⟨xa, xb, ps, vn, va, e, h1.below hb, h2.below hb, h3.below hb, h4, h5.below hb, h6.mono hb fun _ _ _ h => h.below hb⟩
theorem StAt.below {K : Ctx} {w w' : World} (hb : Below K.C w w') : ∀ {n : Nat} {cs : List Value} {t : St}, StAt n K w cs t → StAt n K w' cs t
  | 0, _, _, h => h.elim
  | n + 1, _, _, h => by
    obtain ⟨ts, ps, vs, os, vt, ve, e, h1, h2, h3, h4, h5, h6, h7⟩ := h
    exact ⟨ts, ps, vs, os, vt, ve, e, h1, h2.below hb, h3.below hb, h4.below hb, h5.below hb, h6.mono hb fun _ _ _ h => StAt.below hb h, h7.mono hb fun _ _ _ h => StAt.below hb h⟩
theorem LfeAt.below {K : Ctx} {w w' : World} {cs : List Value} {t : Lfe} (h : LfeAt K w cs t) (hb : Below K.C w w') : LfeAt K w' cs t := by
  obtain ⟨v1, e, h1, h2⟩ := h; exact ⟨v1, e, h1, h2.below hb⟩
theorem FldAt.below {K : Ctx} {w w' : World} {cs : List Value} {t : Fld} (h : FldAt K w cs t) (hb : Below K.C w w') : FldAt K w' cs t := by
  obtain ⟨v1, e, h1, h2⟩ := h; exact ⟨v1, e, h1, h2.below hb⟩
theorem SctAt.below {K : Ctx} {w w' : World} {cs : List Value} {t : Sct} (h : SctAt K w cs t) (hb : Below K.C w w') : SctAt K w' cs t := by
  obtain ⟨v2, v3, e, h1, h2, h3⟩ := h; exact ⟨v2, v3, e, h1, h2.below hb, h3.mono hb fun _ _ _ h => h.below hb⟩
theorem FncAt.below {n : Nat} {K : Ctx} {w w' : World} {cs : List Value} {t : Fnc} (h : FncAt n K w cs t) (hb : Below K.C w w') : FncAt n K w' cs t := by
  obtain ⟨v2, v3, ts, v8, e, h1, h2, h3, h4, h5⟩ := h
  exact ⟨v2, v3, ts, v8, e, h1, h2.mono hb fun _ _ _ h => h.below hb, h3.mono hb fun _ _ _ h => h.below hb, h4.below hb, h5.mono hb fun _ _ _ h => h.below hb⟩
theorem CrtAt.below {n : Nat} {K : Ctx} {w w' : World} {cs : List Value} {t : Crt} (h : CrtAt n K w cs t) (hb : Below K.C w w') : CrtAt n K w' cs t := by
  obtain ⟨v0, v1, e, h1, h2⟩ := h; exact ⟨v0, v1, e, h1.mono hb fun _ _ _ h => h.below hb, h2.mono hb fun _ _ _ h => h.below hb⟩

theorem Strs.up {K : Ctx} {w : World} {v : Value} {l : List Bs} (h : Strs K w v l) {C : Nat} (hb : K.C ≤ C) : Strs (K.up C) w v l := Ar.up h hb fun _ _ _ h => h
theorem TyAt.up {K : Ctx} {w : World} {C : Nat} (hb : K.C ≤ C) : ∀ {n : Nat} {cs : List Value} {t : Ty}, TyAt n K w cs t → TyAt n (K.up C) w cs t
  | 0, _, _, h => h.elim
  | n + 1, _, _, h => by
    obtain ⟨v2, v3, e, h1, h2, h3⟩ := h
    exact ⟨v2, v3, e, h1, h2.up hb, h3.up hb fun _ _ _ h => TyAt.up hb h⟩
theorem IsTy.up {K : Ctx} {w : World} {cs : List Value} {t : Ty} (h : IsTy K w cs t) {C : Nat} (hb : K.C ≤ C) : IsTy (K.up C) w cs t := by
  obtain ⟨n, h⟩ := h; exact ⟨n, h.up hb⟩
theorem PlAt.up {K : Ctx} {w : World} {cs : List Value} {t : Pl} (h : PlAt K w cs t) {C : Nat} (hb : K.C ≤ C) : PlAt (K.up C) w cs t := by
  obtain ⟨v1, e, h1, h2⟩ := h; exact ⟨v1, e, h1, h2.up hb⟩
theorem OprAt.up {K : Ctx} {w : World} {cs : List Value} {t : Opr} (h : OprAt K w cs t) {C : Nat} (hb : K.C ≤ C) : OprAt (K.up C) w cs t := by
  obtain ⟨v1, e, h1⟩ := h; exact ⟨v1, e, h1.up hb⟩
theorem VaAt.up {K : Ctx} {w : World} {cs : List Value} {t : Va} (h : VaAt K w cs t) {C : Nat} (hb : K.C ≤ C) : VaAt (K.up C) w cs t := by
  obtain ⟨xa, xb, ps, vn, va, e, h1, h2, h3, h4, h5, h6⟩ := h
  exact ⟨xa, xb, ps, vn, va, e, h1.up hb, h2.up hb, h3.up hb, h4, h5.up hb, h6.up hb fun _ _ _ h => h.up hb⟩
theorem StAt.up {K : Ctx} {w : World} {C : Nat} (hb : K.C ≤ C) : ∀ {n : Nat} {cs : List Value} {t : St}, StAt n K w cs t → StAt n (K.up C) w cs t
  | 0, _, _, h => h.elim
  | n + 1, _, _, h => by
    obtain ⟨ts, ps, vs, os, vt, ve, e, h1, h2, h3, h4, h5, h6, h7⟩ := h
    exact ⟨ts, ps, vs, os, vt, ve, e, h1, h2.up hb, h3.up hb, h4.up hb, h5.up hb, h6.up hb fun _ _ _ h => StAt.up hb h, h7.up hb fun _ _ _ h => StAt.up hb h⟩
theorem LfeAt.up {K : Ctx} {w : World} {cs : List Value} {t : Lfe} (h : LfeAt K w cs t) {C : Nat} (hb : K.C ≤ C) : LfeAt (K.up C) w cs t := by
  obtain ⟨v1, e, h1, h2⟩ := h; exact ⟨v1, e, h1, h2.up hb⟩
theorem FldAt.up {K : Ctx} {w : World} {cs : List Value} {t : Fld} (h : FldAt K w cs t) {C : Nat} (hb : K.C ≤ C) : FldAt (K.up C) w cs t := by
  obtain ⟨v1, e, h1, h2⟩ := h; exact ⟨v1, e, h1, h2.up hb⟩
theorem SctAt.up {K : Ctx} {w : World} {cs : List Value} {t : Sct} (h : SctAt K w cs t) {C : Nat} (hb : K.C ≤ C) : SctAt (K.up C) w cs t := by
  obtain ⟨v2, v3, e, h1, h2, h3⟩ := h; exact ⟨v2, v3, e, h1, h2.up hb, h3.up hb fun _ _ _ h => h.up hb⟩
theorem FncAt.up {n : Nat} {K : Ctx} {w : World} {cs : List Value} {t : Fnc} (h : FncAt n K w cs t) {C : Nat} (hb : K.C ≤ C) : FncAt n (K.up C) w cs t := by
  obtain ⟨v2, v3, ts, v8, e, h1, h2, h3, h4, h5⟩ := h
  exact ⟨v2, v3, ts, v8, e, h1, h2.up hb fun _ _ _ h => h.up hb, h3.up hb fun _ _ _ h => h.up hb, h4.up hb, h5.up hb fun _ _ _ h => h.up hb⟩
theorem CrtAt.up {n : Nat} {K : Ctx} {w : World} {cs : List Value} {t : Crt} (h : CrtAt n K w cs t) {C : Nat} (hb : K.C ≤ C) : CrtAt n (K.up C) w cs t := by
  obtain ⟨v0, v1, e, h1, h2⟩ := h; exact ⟨v0, v1, e, h1.up hb fun _ _ _ h => h.up hb, h2.up hb fun _ _ _ h => h.up hb⟩

theorem bytes_all : Tryz.prog.bytesOf 62 = 72 ∧ Tryz.prog.bytesOf 109 = 56 ∧ Tryz.prog.bytesOf 114 = 496 ∧ Tryz.prog.bytesOf 85 = 40 ∧ Tryz.prog.bytesOf 82 = 96 ∧ Tryz.prog.bytesOf 58 = 80 ∧ Tryz.prog.bytesOf 65 = 176 ∧ Tryz.prog.bytesOf 9 = 16 := ⟨by kernel_rfl, by kernel_rfl, by kernel_rfl, by kernel_rfl, by kernel_rfl, by kernel_rfl, by kernel_rfl, by kernel_rfl⟩
theorem cells_all : Tryz.prog.cellsOf 62 = 4 ∧ Tryz.prog.cellsOf 109 = 4 ∧ Tryz.prog.cellsOf 114 = 32 ∧ Tryz.prog.cellsOf 85 = 2 ∧ Tryz.prog.cellsOf 82 = 6 ∧ Tryz.prog.cellsOf 58 = 5 ∧ Tryz.prog.cellsOf 65 = 10 ∧ Tryz.prog.cellsOf 9 = 1 ∧ Tryz.prog.cellsOf 112 = 15 ∧ Tryz.prog.cellsOf 107 = 2 := ⟨by kernel_rfl, by kernel_rfl, by kernel_rfl, by kernel_rfl, by kernel_rfl, by kernel_rfl, by kernel_rfl, by kernel_rfl, by kernel_rfl, by kernel_rfl⟩
end Go.Proofs.YtmopffaocamieaaGreat
