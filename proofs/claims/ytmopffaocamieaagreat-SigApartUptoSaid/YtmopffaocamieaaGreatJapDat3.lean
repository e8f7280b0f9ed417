/-
  The texts Dat, Byt, Run, joined.
-/
import Derived.Test.YtmopffaocamieaaGreatJapMat4
namespace Go.Proofs.YtmopffaocamieaaGreat
open Go.RowKit

abbrev Bs := List UInt8
structure Ty where
  kind : Int
  name : Bs
  lives : List Bs
  elem : List Ty
structure Pl where
  name : Bs
  path : List Bs
structure Opr where
  kind : Int
  n : Int
  place : Pl
structure Va where
  kind : Int
  a : Opr
  b : Opr
  op : Int
  place : Pl
  name : Bs
  names : List Bs
  args : List Opr
structure St where
  kind : Int
  pos : Int
  mu : Bool
  name : Bs
  ty : Ty
  has : Bool
  place : Pl
  val : Va
  cond : Opr
  thn : List St
  els : List St
structure Lfe where
  name : Bs
  over : List Bs
structure Fld where
  mu : Bool
  name : Bs
  ty : Ty
structure Sct where
  pub : Bool
  name : Bs
  lives : List Bs
  fields : List Fld
  pos : Int
structure Fnc where
  pub : Bool
  name : Bs
  lives : List Lfe
  params : List Fld
  result : Ty
  body : List St
  pos : Int
structure Crt where
  structs : List Sct
  funcs : List Fnc

/-- C: all that is spoken of lies in blocks below it; B: how long texts are at most. -/
structure Ctx where
  C : Nat
  B : Nat
  small : B ≤ 140737488355328

/-- The slice v (its elements have z cells and bz bytes) holds the things l, each as P says. -/
structure Ar {α : Type} (z bz : Nat) (P : List Value → α → Prop) (K : Ctx) (w : World) (v : Value) (l : List α) : Prop where
  shape : ∃ ao cap, v = .slice ao l.length cap ∧ l.length ≤ cap ∧ l.length * bz ≤ 140737488355328 ∧
    ∀ i (h : i < l.length), ∃ b o, ao = some ⟨b, o, none⟩ ∧ b < K.C ∧ ∃ cs, cs.length = z ∧ (∀ j, j < z → w.cell? ⟨b, o + i * z + j, none⟩ = cs[j]?) ∧ P cs l[i]

theorem Ar.mono {α : Type} {z bz : Nat} {P P' : List Value → α → Prop} {K : Ctx} {w w' : World} {v : Value} {l : List α} (h : Ar z bz P K w v l)
    (hb : Below K.C w w') (hp : ∀ cs x, x ∈ l → P cs x → P' cs x) : Ar z bz P' K w' v l := by
  obtain ⟨ao, cap, e, h1, h2, h3⟩ := h.shape
  refine ⟨ao, cap, e, h1, h2, fun i hi => ?_⟩
  obtain ⟨b, o, e1, hc, cs, hl, hcs, hq⟩ := h3 i hi
  refine ⟨b, o, e1, hc, cs, hl, fun j hj => ?_, hp _ _ (List.getElem_mem hi) hq⟩
  rw [hb.cell (p := ⟨b, o + i * z + j, none⟩) hc]
  exact hcs j hj

/-- Another bound of blocks. -/
def Ctx.up (K : Ctx) (C : Nat) : Ctx := ⟨C, K.B, K.small⟩
theorem Ar.up {α : Type} {z bz : Nat} {P P' : List Value → α → Prop} {K : Ctx} {w : World} {v : Value} {l : List α} (h : Ar z bz P K w v l)
    {C : Nat} (hC : K.C ≤ C) (hp : ∀ cs x, x ∈ l → P cs x → P' cs x) : Ar z bz P' (K.up C) w v l := by
  obtain ⟨ao, cap, e, h1, h2, h3⟩ := h.shape
  refine ⟨ao, cap, e, h1, h2, fun i hi => ?_⟩
  obtain ⟨b, o, e1, hc, cs, hl, hcs, hq⟩ := h3 i hi
  exact ⟨b, o, e1, Nat.lt_of_lt_of_le hc hC, cs, hl, hcs, hp _ _ (List.getElem_mem hi) hq⟩

/-- A text of a row. -/
def TxAt (K : Ctx) (cs : List Value) (s : Bs) : Prop := cs = [.string (str s)] ∧ s.length ≤ K.B
def Strs (K : Ctx) (w : World) (v : Value) (l : List Bs) : Prop := Ar 1 16 (TxAt K) K w v l

def TyAt : Nat → Ctx → World → List Value → Ty → Prop
  | 0, _, _, _, _ => False
  | n + 1, K, w, cs, t => ∃ v2 v3, cs = [.int .i64 t.kind, .string (str t.name), v2, v3] ∧ t.name.length ≤ K.B ∧ Strs K w v2 t.lives ∧ Ar 4 72 (TyAt n K w) K w v3 t.elem
def IsTy (K : Ctx) (w : World) (cs : List Value) (t : Ty) : Prop := ∃ n, TyAt n K w cs t
def PlAt (K : Ctx) (w : World) (cs : List Value) (p : Pl) : Prop :=
  ∃ v1, cs = [.string (str p.name), v1] ∧ p.name.length ≤ K.B ∧ Strs K w v1 p.path
def OprAt (K : Ctx) (w : World) (cs : List Value) (x : Opr) : Prop :=
  ∃ ps, cs = .int .i64 x.kind :: .int .i64 x.n :: ps ∧ PlAt K w ps x.place
def VaAt (K : Ctx) (w : World) (cs : List Value) (x : Va) : Prop :=
  ∃ xa xb ps vn va, cs = .int .i64 x.kind :: (xa ++ (xb ++ (.int .i64 x.op :: (ps ++ [.string (str x.name), vn, va])))) ∧
    OprAt K w xa x.a ∧ OprAt K w xb x.b ∧ PlAt K w ps x.place ∧ x.name.length ≤ K.B ∧ Strs K w vn x.names ∧ Ar 4 56 (OprAt K w) K w va x.args
def StAt : Nat → Ctx → World → List Value → St → Prop
  | 0, _, _, _, _ => False
  | n + 1, K, w, cs, s => ∃ ts ps vs os vt ve, cs = .int .i64 s.kind :: .int .i64 s.pos :: .bool s.mu :: .string (str s.name) :: (ts ++ (.bool s.has :: (ps ++ (vs ++ (os ++ [vt, ve]))))) ∧
    s.name.length ≤ K.B ∧ IsTy K w ts s.ty ∧ PlAt K w ps s.place ∧ VaAt K w vs s.val ∧ OprAt K w os s.cond ∧ Ar 32 496 (StAt n K w) K w vt s.thn ∧ Ar 32 496 (StAt n K w) K w ve s.els
def LfeAt (K : Ctx) (w : World) (cs : List Value) (x : Lfe) : Prop :=
  ∃ v1, cs = [.string (str x.name), v1] ∧ x.name.length ≤ K.B ∧ Strs K w v1 x.over
def FldAt (K : Ctx) (w : World) (cs : List Value) (x : Fld) : Prop :=
  ∃ ts, cs = .bool x.mu :: .string (str x.name) :: ts ∧ x.name.length ≤ K.B ∧ IsTy K w ts x.ty
def SctAt (K : Ctx) (w : World) (cs : List Value) (x : Sct) : Prop :=
  ∃ v2 v3, cs = [.bool x.pub, .string (str x.name), v2, v3, .int .i64 x.pos] ∧ x.name.length ≤ K.B ∧ Strs K w v2 x.lives ∧ Ar 6 96 (FldAt K w) K w v3 x.fields
def FncAt (n : Nat) (K : Ctx) (w : World) (cs : List Value) (x : Fnc) : Prop :=
  ∃ v2 v3 ts v8, cs = .bool x.pub :: .string (str x.name) :: v2 :: v3 :: (ts ++ [v8, .int .i64 x.pos]) ∧ x.name.length ≤ K.B ∧
    Ar 2 40 (LfeAt K w) K w v2 x.lives ∧ Ar 6 96 (FldAt K w) K w v3 x.params ∧ IsTy K w ts x.result ∧ Ar 32 496 (StAt n K w) K w v8 x.body
def CrtAt (n : Nat) (K : Ctx) (w : World) (cs : List Value) (x : Crt) : Prop :=
  ∃ v0 v1, cs = [v0, v1] ∧ Ar 5 80 (SctAt K w) K w v0 x.structs ∧ Ar 10 176 (FncAt n K w) K w v1 x.funcs

theorem Strs.below {K : Ctx} {w w' : World} {v : Value} {l : List Bs} (h : Strs K w v l) (hb : Below K.C w w') : Strs K w' v l := Ar.mono h hb fun _ _ _ h => h
theorem TyAt.below {K : Ctx} {w w' : World} (hb : Below K.C w w') : ∀ {n : Nat} {cs : List Value} {t : Ty}, TyAt n K w cs t → TyAt n K w' cs t
  | 0, _, _, h => h.elim
  | n + 1, _, _, h => by
    obtain ⟨v2, v3, e, h1, h2, h3⟩ := h
    exact ⟨v2, v3, e, h1, h2.below hb, h3.mono hb fun _ _ _ h => TyAt.below hb h⟩
theorem IsTy.below {K : Ctx} {w w' : World} {cs : List Value} {t : Ty} (h : IsTy K w cs t) (hb : Below K.C w w') : IsTy K w' cs t := by
  obtain ⟨n, h⟩ := h; exact ⟨n, h.below hb⟩
theorem PlAt.below {K : Ctx} {w w' : World} {cs : List Value} {t : Pl} (h : PlAt K w cs t) (hb : Below K.C w w') : PlAt K w' cs t := by
  obtain ⟨v1, e, h1, h2⟩ := h; exact ⟨v1, e, h1, h2.below hb⟩
theorem OprAt.below {K : Ctx} {w w' : World} {cs : List Value} {t : Opr} (h : OprAt K w cs t) (hb : Below K.C w w') : OprAt K w' cs t := by
  obtain ⟨v1, e, h1⟩ := h; exact ⟨v1, e, h1.below hb⟩
theorem VaAt.below {K : Ctx} {w w' : World} {cs : List Value} {t : Va} (h : VaAt K w cs t) (hb : Below K.C w w') : VaAt K w' cs t := by
  obtain ⟨xa, xb, ps, vn, va, e, h1, h2, h3, h4, h5, h6⟩ := h
  exact ⟨xa, xb, ps, vn, va, e, h1.below hb, h2.below hb, h3.below hb, h4, h5.below hb, h6.mono hb fun _ _ _ h => h.below hb⟩
theorem StAt.below {K : Ctx} {w w' : World} (hb : Below K.C w w') : ∀ {n : Nat} {cs : List Value} {t : St}, StAt n K w cs t → StAt n K w' cs t
  | 0, _, _, h => h.elim
  | n + 1, _, _, h => by
    obtain ⟨ts, ps, vs, os, vt, ve, e, h1, h2, h3, h4, h5, h6, h7⟩ := h
    exact ⟨ts, ps, vs, os, vt, ve, e, h1, h2.below hb, h3.below hb, h4.below hb, h5.below hb, h6.mono hb fun _ _ _ h => StAt.below hb h, h7.mono hb fun _ _ _ h => StAt.below hb h⟩
theorem LfeAt.below {K : Ctx} {w w' : World} {cs : List Value} {t : Lfe} (h : LfeAt K w cs t) (hb : Below K.C w w') : LfeAt K w' cs t := by
  obtain ⟨v1, e, h1, h2⟩ := h; exact ⟨v1, e, h1, h2.below hb⟩
theorem FldAt.below {K : Ctx} {w w' : World} {cs : List Value} {t : Fld} (h : FldAt K w cs t) (hb : Below K.C w w') : FldAt K w' cs t := by
  obtain ⟨v1, e, h1, h2⟩ := h; exact ⟨v1, e, h1, h2.below hb⟩
theorem SctAt.below {K : Ctx} {w w' : World} {cs : List Value} {t : Sct} (h : SctAt K w cs t) (hb : Below K.C w w') : SctAt K w' cs t := by
  obtain ⟨v2, v3, e, h1, h2, h3⟩ := h; exact ⟨v2, v3, e, h1, h2.below hb, h3.mono hb fun _ _ _ h => h.below hb⟩
theorem FncAt.below {n : Nat} {K : Ctx} {w w' : World} {cs : List Value} {t : Fnc} (h : FncAt n K w cs t) (hb : Below K.C w w') : FncAt n K w' cs t := by
  obtain ⟨v2, v3, ts, v8, e, h1, h2, h3, h4, h5⟩ := h
  exact ⟨v2, v3, ts, v8, e, h1, h2.mono hb fun _ _ _ h => h.below hb, h3.mono hb fun _ _ _ h => h.below hb, h4.below hb, h5.mono hb fun _ _ _ h => h.below hb⟩
theorem CrtAt.below {n : Nat} {K : Ctx} {w w' : World} {cs : List Value} {t : Crt} (h : CrtAt n K w cs t) (hb : Below K.C w w') : CrtAt n K w' cs t := by
  obtain ⟨v0, v1, e, h1, h2⟩ := h; exact ⟨v0, v1, e, h1.mono hb fun _ _ _ h => h.below hb, h2.mono hb fun _ _ _ h => h.below hb⟩

theorem Strs.up {K : Ctx} {w : World} {v : Value} {l : List Bs} (h : Strs K w v l) {C : Nat} (hb : K.C ≤ C) : Strs (K.up C) w v l := Ar.up h hb fun _ _ _ h => h
theorem TyAt.up {K : Ctx} {w : World} {C : Nat} (hb : K.C ≤ C) : ∀ {n : Nat} {cs : List Value} {t : Ty}, TyAt n K w cs t → TyAt n (K.up C) w cs t
  | 0, _, _, h => h.elim
  | n + 1, _, _, h => by
    obtain ⟨v2, v3, e, h1, h2, h3⟩ := h
    exact ⟨v2, v3, e, h1, h2.up hb, h3.up hb fun _ _ _ h => TyAt.up hb h⟩
theorem IsTy.up {K : Ctx} {w : World} {cs : List Value} {t : Ty} (h : IsTy K w cs t) {C : Nat} (hb : K.C ≤ C) : IsTy (K.up C) w cs t := by
  obtain ⟨n, h⟩ := h; exact ⟨n, h.up hb⟩
theorem PlAt.up {K : Ctx} {w : World} {cs : List Value} {t : Pl} (h : PlAt K w cs t) {C : Nat} (hb : K.C ≤ C) : PlAt (K.up C) w cs t := by
  obtain ⟨v1, e, h1, h2⟩ := h; exact ⟨v1, e, h1, h2.up hb⟩
theorem OprAt.up {K : Ctx} {w : World} {cs : List Value} {t : Opr} (h : OprAt K w cs t) {C : Nat} (hb : K.C ≤ C) : OprAt (K.up C) w cs t := by
  obtain ⟨v1, e, h1⟩ := h; exact ⟨v1, e, h1.up hb⟩
theorem VaAt.up {K : Ctx} {w : World} {cs : List Value} {t : Va} (h : VaAt K w cs t) {C : Nat} (hb : K.C ≤ C) : VaAt (K.up C) w cs t := by
  obtain ⟨xa, xb, ps, vn, va, e, h1, h2, h3, h4, h5, h6⟩ := h
  exact ⟨xa, xb, ps, vn, va, e, h1.up hb, h2.up hb, h3.up hb, h4, h5.up hb, h6.up hb fun _ _ _ h => h.up hb⟩
theorem StAt.up {K : Ctx} {w : World} {C : Nat} (hb : K.C ≤ C) : ∀ {n : Nat} {cs : List Value} {t : St}, StAt n K w cs t → StAt n (K.up C) w cs t
  | 0, _, _, h => h.elim
  | n + 1, _, _, h => by
    obtain ⟨ts, ps, vs, os, vt, ve, e, h1, h2, h3, h4, h5, h6, h7⟩ := h
    exact ⟨ts, ps, vs, os, vt, ve, e, h1, h2.up hb, h3.up hb, h4.up hb, h5.up hb, h6.up hb fun _ _ _ h => StAt.up hb h, h7.up hb fun _ _ _ h => StAt.up hb h⟩
theorem LfeAt.up {K : Ctx} {w : World} {cs : List Value} {t : Lfe} (h : LfeAt K w cs t) {C : Nat} (hb : K.C ≤ C) : LfeAt (K.up C) w cs t := by
  obtain ⟨v1, e, h1, h2⟩ := h; exact ⟨v1, e, h1, h2.up hb⟩
theorem FldAt.up {K : Ctx} {w : World} {cs : List Value} {t : Fld} (h : FldAt K w cs t) {C : Nat} (hb : K.C ≤ C) : FldAt (K.up C) w cs t := by
  obtain ⟨v1, e, h1, h2⟩ := h; exact ⟨v1, e, h1, h2.up hb⟩
theorem SctAt.up {K : Ctx} {w : World} {cs : List Value} {t : Sct} (h : SctAt K w cs t) {C : Nat} (hb : K.C ≤ C) : SctAt (K.up C) w cs t := by
  obtain ⟨v2, v3, e, h1, h2, h3⟩ := h; exact ⟨v2, v3, e, h1, h2.up hb, h3.up hb fun _ _ _ h => h.up hb⟩
theorem FncAt.up {n : Nat} {K : Ctx} {w : World} {cs : List Value} {t : Fnc} (h : FncAt n K w cs t) {C : Nat} (hb : K.C ≤ C) : FncAt n (K.up C) w cs t := by
  obtain ⟨v2, v3, ts, v8, e, h1, h2, h3, h4, h5⟩ := h
  exact ⟨v2, v3, ts, v8, e, h1, h2.up hb fun _ _ _ h => h.up hb, h3.up hb fun _ _ _ h => h.up hb, h4.up hb, h5.up hb fun _ _ _ h => h.up hb⟩
theorem CrtAt.up {n : Nat} {K : Ctx} {w : World} {cs : List Value} {t : Crt} (h : CrtAt n K w cs t) {C : Nat} (hb : K.C ≤ C) : CrtAt n (K.up C) w cs t := by
  obtain ⟨v0, v1, e, h1, h2⟩ := h; exact ⟨v0, v1, e, h1.up hb fun _ _ _ h => h.up hb, h2.up hb fun _ _ _ h => h.up hb⟩

theorem bytes_all : Tryz.prog.bytesOf 62 = 72 ∧ Tryz.prog.bytesOf 109 = 56 ∧ Tryz.prog.bytesOf 114 = 496 ∧ Tryz.prog.bytesOf 85 = 40 ∧ Tryz.prog.bytesOf 82 = 96 ∧ Tryz.prog.bytesOf 58 = 80 ∧ Tryz.prog.bytesOf 65 = 176 ∧ Tryz.prog.bytesOf 9 = 16 := ⟨by kernel_rfl, by kernel_rfl, by kernel_rfl, by kernel_rfl, by kernel_rfl, by kernel_rfl, by kernel_rfl, by kernel_rfl⟩
theorem cells_all : Tryz.prog.cellsOf 62 = 4 ∧ Tryz.prog.cellsOf 109 = 4 ∧ Tryz.prog.cellsOf 114 = 32 ∧ Tryz.prog.cellsOf 85 = 2 ∧ Tryz.prog.cellsOf 82 = 6 ∧ Tryz.prog.cellsOf 58 = 5 ∧ Tryz.prog.cellsOf 65 = 10 ∧ Tryz.prog.cellsOf 9 = 1 ∧ Tryz.prog.cellsOf 112 = 15 ∧ Tryz.prog.cellsOf 107 = 2 := ⟨by kernel_rfl, by kernel_rfl, by kernel_rfl, by kernel_rfl, by kernel_rfl, by kernel_rfl, by kernel_rfl, by kernel_rfl, by kernel_rfl, by kernel_rfl⟩
end Go.Proofs.YtmopffaocamieaaGreat

namespace Go.Proofs.YtmopffaocamieaaGreat
open Go.RowKit

theorem isDigit_any (c : UInt8) (w : World) : Calls Tryz.prog 125 #[.int .u8 (c.toNat : Int)] w fun ev w' => ev = .returned (.bool (isDg c)) ∧ w' = w := by
  obtain ⟨B, hB⟩ : ∃ B, isDg c = B := ⟨_, rfl⟩
  rw [hB]
  unfold isDg at hB
  generalize c.toNat = n at *
  by_cases h1 : 48 ≤ n <;> by_cases h2 : n ≤ 57 <;> (try omega) <;> simp [h1, h2] at hB <;> subst hB <;> (go_enter Tryz.func125, Tryz.ntmps125; go_wp2_with fail; go_ret; first | exact ⟨rfl, rfl⟩ | (refine ⟨?_, rfl⟩; simp; omega) | (refine ⟨?_, rfl⟩; simp [*]))

theorem xdigit_any (c : UInt8) (w : World) : Calls Tryz.prog 173 #[.int .u8 (c.toNat : Int)] w fun ev w' => ev = .returned (.bool (isDg c)) ∧ w' = w := by
  obtain ⟨B, hB⟩ : ∃ B, isDg c = B := ⟨_, rfl⟩
  rw [hB]
  unfold isDg at hB
  generalize c.toNat = n at *
  by_cases h1 : 48 ≤ n <;> by_cases h2 : n ≤ 57 <;> (try omega) <;> simp [h1, h2] at hB <;> subst hB <;> (go_enter Tryz.func173, Tryz.ntmps173; go_wp2_with fail; go_ret; first | exact ⟨rfl, rfl⟩ | (refine ⟨?_, rfl⟩; simp; omega) | (refine ⟨?_, rfl⟩; simp [*]))

theorem letter_any (c : UInt8) (w : World) : Calls Tryz.prog 135 #[.int .u8 (c.toNat : Int)] w fun ev w' => ev = .returned (.bool (isLt c)) ∧ w' = w := by
  obtain ⟨B, hB⟩ : ∃ B, isLt c = B := ⟨_, rfl⟩
  rw [hB]
  unfold isLt at hB
  generalize c.toNat = n at *
  by_cases h1 : 97 ≤ n <;> by_cases h2 : n ≤ 122 <;> by_cases h3 : 65 ≤ n <;> by_cases h4 : n ≤ 90 <;> (try omega) <;> by_cases h5 : n = 95 <;> (try omega) <;>
    (have h5' : (n : Int) = 95 ∨ (n : Int) ≠ 95 := by omega
     rcases h5' with h5' | h5' <;> (try omega) <;> simp [h1, h2, h3, h4, h5] at hB <;> subst hB <;> (try subst h5) <;> (go_enter Tryz.func135, Tryz.ntmps135; go_wp2_with fail; go_ret; first | exact ⟨rfl, rfl⟩ | (refine ⟨?_, rfl⟩; simp; omega) | (refine ⟨?_, rfl⟩; simp [*])))

theorem isNameByte_any (c : UInt8) (w : World) : Calls Tryz.prog 164 #[.int .u8 (c.toNat : Int)] w fun ev w' => ev = .returned (.bool (isNm c)) ∧ w' = w := by
  have D := isDigit_any c w
  obtain ⟨B, hB⟩ : ∃ B, isNm c = B := ⟨_, rfl⟩
  rw [hB]
  obtain ⟨I, hI⟩ : ∃ I, isDg c = I := ⟨_, rfl⟩
  unfold isNm at hB
  rw [hI] at hB D
  unfold isLt at hB
  clear hI
  generalize c.toNat = n at *
  by_cases h1 : 97 ≤ n <;> by_cases h2 : n ≤ 122 <;> by_cases h3 : 65 ≤ n <;> by_cases h4 : n ≤ 90 <;> (try omega) <;> by_cases h5 : n = 95 <;> (try omega) <;>
    (have h5' : (n : Int) = 95 ∨ (n : Int) ≠ 95 := by omega
     rcases h5' with h5' | h5' <;> (try omega) <;> simp [h1, h2, h3, h4, h5] at hB <;> subst hB <;> (try subst h5) <;> (go_enter Tryz.func164, Tryz.ntmps164; first | (go_wp2_with fail; go_ret; first | exact ⟨rfl, rfl⟩ | (refine ⟨?_, rfl⟩; simp; omega) | (refine ⟨?_, rfl⟩; simp [*])) | (go_wp2_with fail; refine D.mono ?_; rintro ev w' ⟨rfl, rfl⟩; go_wp2_with fail; go_ret; first | exact ⟨rfl, rfl⟩ | (refine ⟨?_, rfl⟩; simp; omega) | (refine ⟨?_, rfl⟩; simp [*]))))
end Go.Proofs.YtmopffaocamieaaGreat

namespace Go.Proofs.YtmopffaocamieaaGreat
open Go.RowKit

/-- From a place on: what is ahead is a run, and it goes on or ends. -/
theorem run_drop : ∀ (l : List UInt8) (k : Nat), k ≤ runL l → runL l = k + runL (l.drop k)
  | l, 0, _ => by simp
  | [], k + 1, h => by simp [runL] at h
  | c :: t, k + 1, h => by
    simp only [runL] at h ⊢
    split at h
    · rename_i hc
      rw [if_pos hc, run_drop t k (by omega)]
      simp; omega
    · omega
theorem drop_cons (l : List UInt8) (k : Nat) (h : k < l.length) : l.drop k = l.getD k 0 :: l.drop (k + 1) := by
  rw [List.drop_eq_getElem_cons h]
  simp [List.getD, List.getElem?_eq_getElem h]
theorem run_at (l : List UInt8) (k : Nat) (h : k < l.length) : runL (l.drop k) = if isNm (l.getD k 0) then runL (l.drop (k + 1)) + 1 else 0 := by
  rw [drop_cons l k h]; rfl

set_option maxHeartbeats 4000000 in
set_option maxRecDepth 20000 in
theorem runSize_any (l : List UInt8) (hl : l.length ≤ 9223372036854775807) (w : World) : Calls Tryz.prog 124 #[.string (str l)] w fun ev w' => ev = .returned (.int .i64 (runL l : Int)) ∧ w' = w := by
  have HM : Hid (∀ k, k < l.length → ∀ y, Calls Tryz.prog 164 #[.int .u8 ((l.getD k 0).toNat : Int)] y fun ev w' => ev = .returned (.bool (isNm (l.getD k 0))) ∧ w' = y) := fun k _ y => isNameByte_any _ y
  obtain ⟨S, hS⟩ : ∃ S, S = str l := ⟨_, rfl⟩
  have hSs : S.size = l.length := by rw [hS, str_size]
  have HX : Hid (∀ k (h : k < S.size), (S[k]'h).toNat = (l.getD k 0).toNat) := by
    intro k h
    subst hS
    rw [str_at]
  rw [← hS]
  clear hS
  go_enter Tryz.func124, Tryz.ntmps124
  go_wp2_with fail
  go_loopw [3] (fun i wr => ∃ k : Nat, k ≤ runL l ∧ k ≤ l.length ∧ i = .int .i64 k ∧ wr = w) (fun i _ => l.length - (intOf i).toNat)
  case atStart => exact ⟨0, by omega, by omega, rfl, rfl⟩
  case round =>
    obtain ⟨k, hk, hkl, rfl, rfl⟩ := hrel
    by_cases h3 : k < l.length
    · have hkS : k < S.size := by omega
      have hx := HX.out k hkS
      have D := HM.out k h3 wr
      have HR := run_drop l k hk
      rw [run_at l k h3] at HR
      cases hd : isNm (l.getD k 0)
      · rw [hd] at D HR
        have HP : Hid (runL l = k) := by show runL l = k; simpa using HR
        clear HR hd hk
        generalize (l.getD k 0).toNat = x at *
        go_wp2_with fail
        refine D.mono ?_
        rintro ev w2 ⟨rfl, rfl⟩
        go_wp2_with fail
        go_ret
        exact ⟨by rw [HP.out]; rfl, rfl⟩
      · rw [hd] at D HR
        have HP : Hid (k + 1 ≤ runL l) := by rw [if_pos rfl] at HR; show k + 1 ≤ runL l; omega
        clear HR hd hk
        generalize (l.getD k 0).toNat = x at *
        go_wp2_with fail
        refine D.mono ?_
        rintro ev w2 ⟨rfl, rfl⟩
        go_wp2_with fail
        go_roundw
        case rel => exact ⟨k + 1, HP.out, by omega, by go_num, by trivial⟩
        case measure => simp [intOf]; omega
    · have HP : Hid (runL l = k) := by have := runL_le l; show runL l = k; omega
      have hkk : (k : Int) = (l.length : Int) := by omega
      obtain rfl : k = l.length := by omega
      clear HX HM hk hkk
      go_wp2_with fail
      go_ret
      refine ⟨by rw [HP.out]; rfl, ?_⟩
      trivial

set_option maxHeartbeats 4000000 in
set_option maxRecDepth 20000 in
/-- The document's. -/
theorem xrun_any (l : List UInt8) (p : Nat) (hp : p ≤ l.length) (hl : l.length ≤ 9223372036854775807) (w : World) : Calls Tryz.prog 136 #[.string (str l), .int .i64 (p : Int)] w fun ev w' => ev = .returned (.int .i64 ((p + runL (l.drop p) : Nat) : Int)) ∧ w' = w := by
  have HL : Hid (∀ k, k < l.length → ∀ y, Calls Tryz.prog 135 #[.int .u8 ((l.getD k 0).toNat : Int)] y fun ev w' => ev = .returned (.bool (isLt (l.getD k 0))) ∧ w' = y) := fun k _ y => letter_any _ y
  have HD : Hid (∀ k, k < l.length → ∀ y, Calls Tryz.prog 173 #[.int .u8 ((l.getD k 0).toNat : Int)] y fun ev w' => ev = .returned (.bool (isDg (l.getD k 0))) ∧ w' = y) := fun k _ y => xdigit_any _ y
  obtain ⟨S, hS⟩ : ∃ S, S = str l := ⟨_, rfl⟩
  have hSs : S.size = l.length := by rw [hS, str_size]
  have HX : Hid (∀ k (h : k < S.size), (S[k]'h).toNat = (l.getD k 0).toNat) := by
    intro k h
    subst hS
    rw [str_at]
  rw [← hS]
  clear hS
  obtain ⟨R, hR⟩ : ∃ R, p + runL (l.drop p) = R := ⟨_, rfl⟩
  have HR : Hid (p + runL (l.drop p) = R) := hR
  rw [hR]
  clear hR
  go_enter Tryz.func136, Tryz.ntmps136
  go_wp2_with fail
  go_loopw [1] (fun i wr => ∃ k : Nat, k ≤ l.length ∧ k + runL (l.drop k) = R ∧ i = .int .i64 k ∧ wr = w) (fun i _ => l.length - (intOf i).toNat)
  case atStart => exact ⟨p, hp, HR.out, rfl, rfl⟩
  case round =>
    obtain ⟨k, hkl, hk, rfl, rfl⟩ := hrel
    clear HR
    by_cases h3 : k < l.length
    · have hkS : k < S.size := by omega
      have hx := HX.out k hkS
      have D1 := HL.out k h3 wr
      have D2 := HD.out k h3 wr
      rw [run_at l k h3] at hk
      unfold isNm at hk
      clear HX HL HD
      cases h1 : isLt (l.getD k 0)
      · rw [h1] at D1 hk
        cases hd : isDg (l.getD k 0)
        · rw [hd] at D2 hk
          have HP : Hid (R = k) := by show R = k; simpa using hk.symm
          clear hk hd h1
          generalize (l.getD k 0).toNat = x at *
          go_wp2_with fail
          refine D1.mono ?_
          rintro ev w2 ⟨rfl, rfl⟩
          go_wp2_with fail
          refine D2.mono ?_
          rintro ev w2 ⟨rfl, rfl⟩
          go_wp2_with fail
          go_ret
          refine ⟨by rw [HP.out]; rfl, ?_⟩
          trivial
        · rw [hd] at D2 hk
          have HP : Hid (k + 1 + runL (l.drop (k + 1)) = R) := by show _ = R; simp at hk; omega
          clear hk hd h1
          generalize (l.getD k 0).toNat = x at *
          go_wp2_with fail
          refine D1.mono ?_
          rintro ev w2 ⟨rfl, rfl⟩
          go_wp2_with fail
          refine D2.mono ?_
          rintro ev w2 ⟨rfl, rfl⟩
          go_wp2_with fail
          go_roundw
          case rel => exact ⟨k + 1, by omega, HP.out, by go_num, by trivial⟩
          case measure => simp [intOf]; omega
      · rw [h1] at D1 hk
        have HP : Hid (k + 1 + runL (l.drop (k + 1)) = R) := by show _ = R; simp at hk; omega
        clear hk h1 D2
        generalize (l.getD k 0).toNat = x at *
        go_wp2_with fail
        refine D1.mono ?_
        rintro ev w2 ⟨rfl, rfl⟩
        go_wp2_with fail
        go_roundw
        case rel => exact ⟨k + 1, by omega, HP.out, by go_num, by trivial⟩
        case measure => simp [intOf]; omega
    · obtain rfl : k = l.length := by omega
      have HP : Hid (R = l.length) := by show R = l.length; simpa [runL] using hk.symm
      clear HX HL HD hk
      go_wp2_with fail
      go_ret
      refine ⟨by rw [HP.out]; rfl, ?_⟩
      trivial

/-- The size of a name, or nought. -/
def nameF (l : List UInt8) : Nat := if runL l = 0 ∨ 32 < runL l ∨ isDg (l.getD 0 0) = true then 0 else runL l
theorem nameF_le (l : List UInt8) : nameF l ≤ l.length ∧ nameF l ≤ 32 := by
  have := runL_le l
  unfold nameF
  split <;> omega
set_option maxHeartbeats 4000000 in
theorem nameSize_any (l : List UInt8) (hl : l.length ≤ 9223372036854775807) (w : World) : Calls Tryz.prog 78 #[.string (str l)] w fun ev w' => ev = .returned (.int .i64 (nameF l : Int)) ∧ w' = w := by
  have R := runSize_any l hl w
  have hrl := runL_le l
  obtain ⟨N, hN⟩ : ∃ N, nameF l = N := ⟨_, rfl⟩
  rw [hN]
  unfold nameF at hN
  by_cases h0 : runL l = 0
  · rw [if_pos (.inl h0)] at hN
    subst hN
    rw [h0] at R
    clear hrl h0
    generalize str l = S at *
    go_enter Tryz.func78, Tryz.ntmps78
    go_wp2_with fail
    refine R.mono ?_
    rintro ev w2 ⟨rfl, rfl⟩
    go_wp2_with fail
    go_ret
    exact ⟨rfl, rfl⟩
  · by_cases h1 : 32 < runL l
    · rw [if_pos (.inr (.inl h1))] at hN
      subst hN
      have h0' : (runL l : Int) ≠ 0 := by omega
      have h1' : (32 : Int) < (runL l : Int) := by omega
      generalize runL l = r at *
      generalize str l = S at *
      go_enter Tryz.func78, Tryz.ntmps78
      go_wp2_with fail
      refine R.mono ?_
      rintro ev w2 ⟨rfl, rfl⟩
      go_wp2_with fail
      go_ret
      exact ⟨rfl, rfl⟩
    · have D := isDigit_any (l.getD 0 0) w
      have hz : 0 < (str l).size := by rw [str_size]; omega
      have hx : ((str l)[0]'hz).toNat = (l.getD 0 0).toNat := by rw [str_at]
      have h0' : (runL l : Int) ≠ 0 := by omega
      have h1' : ¬ (32 : Int) < (runL l : Int) := by omega
      have b0 : ((runL l : Int) == 0) = false := by simpa using h0
      have b1 : decide ((32 : Int) < (runL l : Int)) = false := by simp; omega
      have b2 : (((runL l : Int) == 0) || decide ((32 : Int) < (runL l : Int))) = false := by rw [b0, b1]; rfl
      obtain ⟨S, hS⟩ : ∃ S, S = str l := ⟨_, rfl⟩
      obtain ⟨hz', hx'⟩ : ∃ hz' : 0 < S.size, (S[0]'hz').toNat = (l.getD 0 0).toNat := by rw [hS]; exact ⟨hz, hx⟩
      rw [← hS] at R ⊢
      clear hS hx hz
      cases hd : isDg (l.getD 0 0)
      · rw [hd] at D
        rw [if_neg (fun h => by rcases h with h | h | h; exact h0 h; exact h1 h; rw [hd] at h; cases h)] at hN
        subst hN
        clear hrl hd
        generalize (l.getD 0 0).toNat = x at *
        generalize runL l = r at *
        go_enter Tryz.func78, Tryz.ntmps78
        go_wp2_with fail
        refine R.mono ?_
        rintro ev w2 ⟨rfl, rfl⟩
        go_wp2_with fail
        refine D.mono ?_
        rintro ev w2 ⟨rfl, rfl⟩
        go_wp2_with fail
        go_ret
        exact ⟨rfl, rfl⟩
      · rw [hd] at D
        rw [if_pos (.inr (.inr hd))] at hN
        subst hN
        clear hrl hd
        generalize (l.getD 0 0).toNat = x at *
        generalize runL l = r at *
        go_enter Tryz.func78, Tryz.ntmps78
        go_wp2_with fail
        refine R.mono ?_
        rintro ev w2 ⟨rfl, rfl⟩
        go_wp2_with fail
        refine D.mono ?_
        rintro ev w2 ⟨rfl, rfl⟩
        go_wp2_with fail
        go_ret
        exact ⟨rfl, rfl⟩
end Go.Proofs.YtmopffaocamieaaGreat
