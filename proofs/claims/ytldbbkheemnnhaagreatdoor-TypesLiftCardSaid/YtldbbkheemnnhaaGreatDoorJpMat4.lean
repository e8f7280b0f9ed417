/-
  The texts Mat, Num, Mem, Dat, joined.
-/
import Derived.Test.YtldbbkheemnnhaaGreatDoorProg
import GoSem.Claim
import GoSem.ClaimJoined
import GoSem.ClaimMapViews
import Derived.JoinedTies
import Derived.KernelRfl
import Derived.RowKit
import Derived.WalkKit
import Derived.WalkSpells
import Derived.WalkLawsBesides
import Derived.Maps.AppendAt
import Derived.Laws.IdiomStrings
import Derived.Laws.BitsAllLaws
import Derived.Deep.QuietTactic
import Derived.BigQuiet
import Derived.Deep.RegionHeld
import Derived.Deep.DrawnRows
import Derived.Deep.LoopGhost
import Derived.Laws.Rows
import Derived.Laws.Tables
import Derived.Deep.MidRow
import Derived.Laws.CopyOwn
namespace Go.Proofs.YtldbbkheemnnhaaGreatDoor

def isBl (c : UInt8) : Bool := decide (c.toNat = 32) || decide (c.toNat = 9) || decide (c.toNat = 10)
def isDg (c : UInt8) : Bool := decide (48 ≤ c.toNat) && decide (c.toNat ≤ 57)
def isLt (c : UInt8) : Bool := (decide (97 ≤ c.toNat) && decide (c.toNat ≤ 122)) || (decide (65 ≤ c.toNat) && decide (c.toNat ≤ 90)) || decide (c.toNat = 95)
def isNm (c : UInt8) : Bool := isLt c || isDg c

/-- How many bytes of names a text opens with. -/
def runL : List UInt8 → Nat
  | [] => 0
  | c :: t => if isNm c then runL t + 1 else 0

theorem runL_le : ∀ l : List UInt8, runL l ≤ l.length
  | [] => by simp [runL]
  | c :: t => by have := runL_le t; simp only [runL, List.length_cons]; split <;> omega

def wordsL : List (List UInt8) :=
  [[102,110],[115,116,114,117,99,116],[112,117,98],[108,101,116],[109,117,116],[105,102],[101,108,115,101],[119,104,105,108,101],[108,111,111,112],[98,114,101,97,107],[99,111,110,116,105,110,117,101],[114,101,116,117,114,110],[100,114,111,112],[116,114,117,101],[102,97,108,115,101],[105,110,116],[98,111,111,108]]
def isWord (l : List UInt8) : Bool := wordsL.contains l

end Go.Proofs.YtldbbkheemnnhaaGreatDoor

namespace Go.Proofs.YtldbbkheemnnhaaGreatDoor
open Go.RowKit
def str (l : List UInt8) : ByteArray := ⟨l.toArray⟩
theorem str_size (l : List UInt8) : (str l).size = l.length := by simp [str, ByteArray.size]
theorem str_at (l : List UInt8) (k : Nat) (h : k < (str l).size) : ((str l)[k]'h) = l.getD k 0 := by
 have hk : k < l.length := by rw [str_size] at h; exact h
 simp [List.getD, List.getElem?_eq_getElem hk]; rfl
theorem str_of (s : ByteArray) : str s.data.toList = s := by cases s; simp [str]
end Go.Proofs.YtldbbkheemnnhaaGreatDoor

namespace Go.Proofs.YtldbbkheemnnhaaGreatDoor
open Go.RowKit
def bys (l : List UInt8) : List Value := l.map fun b => Value.int .u8 (b.toNat : Int)
theorem addr_add (b o i : Nat) : (⟨b, o, none⟩ : Addr).add i = ⟨b, o + i, none⟩ := by unfold Addr.add; split <;> simp_all
structure Row (w : World) (g t : Nat) (L : List Value) : Prop where
 heap : w.heap[g]? = some (.cells L.toArray t (0, 0))
theorem Row.cell {w : World} {g t : Nat} {L : List Value} (h : Row w g t L) (j : Nat) : w.cell? ⟨g, j, none⟩ = L[j]? := by
 rw [cell_of_row w g j L.toArray t (0, 0) h.heap]; simp
theorem Row.fz {w : World} {g t : Nat} {L : List Value} (h : Row w g t L) (j : Nat) : w.frozen? ⟨g, j, none⟩ = false := by
 simp [World.frozen?, h.heap]
theorem Row.set {w : World} {g t : Nat} {L : List Value} (h : Row w g t L) (j : Nat) (v : Value) : Row (w.setCell ⟨g, j, none⟩ v) g t (L.set j v) := by
 refine ⟨?_⟩
 rw [heap_setCell_same w g j L.toArray t v h.heap]
 simp
theorem Row.other {w : World} {g g' j t : Nat} {L : List Value} (h : Row w g t L) (hne : g ≠ g') (v : Value) : Row (w.setCell ⟨g', j, none⟩ v) g t L :=
 ⟨by rw [heap_setCell_other w ⟨g', j, none⟩ g v hne]; exact h.heap⟩
theorem Row.below {w w' : World} {C g t : Nat} {L : List Value} (h : Row w g t L) (hb : Below C w w') (hg : g < C) : Row w' g t L :=
 ⟨by rw [hb.block g hg]; exact h.heap⟩
theorem Row.drew {w : World} {g t : Nat} {L : List Value} (h : Row w g t L) : Row w.drew g t L := ⟨h.heap⟩
theorem Row.drewN {w : World} {g t n : Nat} {L : List Value} (h : Row w g t L) : Row (w.drewN n) g t L := ⟨h.heap⟩
theorem Row.lt {w : World} {g t : Nat} {L : List Value} (h : Row w g t L) : g < w.heap.size := by
 have := h.heap
 rcases Nat.lt_or_ge g w.heap.size with h' | h'
 ·exact h'
 ·rw [Array.getElem?_eq_none h'] at this; cases this
theorem Row.new (w : World) (t : Nat) (L : List Value) : Row (w.alloc (.cells L.toArray t)) w.heap.size t L := ⟨heap_alloc_new w _⟩
theorem Row.range {w : World} {g t : Nat} {L : List Value} (h : Row w g t L) : w.rangeAt g 0 L := by
 intro j u hj
 rw [Nat.zero_add, h.cell j]; exact hj
theorem Row.setRow {w : World} {g t : Nat} {L : List Value} (h : Row w g t L) (M : List Value) : Row (w.setRow g M.toArray) g t M := ⟨setRow_heap w g _ _ t _ h.heap⟩
theorem all_one {L : List Value} (h : ∀ u ∈ L, u.oneCell' = true) : L.toArray.all (·.oneCell') = true := by
 rw [Array.all_eq_true_iff_forall_mem]; intro u hu; exact h u (by simpa using hu)
structure Sl (w : World) (v : Value) (l : List UInt8) : Prop where
 shape : (∃ ao, v = .slice ao 0 0 /\ l = []) ∨ ∃ b o cap, v = .slice (some ⟨b, o, none⟩) l.length cap /\ l.length <= cap /\ ∀ i, i < l.length -> w.cell? ⟨b, o + i, none⟩ = some (.int .u8 ((l.getD i 0).toNat : Int))
theorem Sl.below {w w' : World} {v : Value} {l : List UInt8} (h : Sl w v l) (hb : Below w.heap.size w w') : Sl w' v l := by
 refine ⟨?_⟩
 rcases h.shape with h | ⟨b, o, cap, rfl, hcap, hc⟩
 ·exact .inl h
 ·refine .inr ⟨b, o, cap, rfl, hcap, fun i hi => ?_⟩
  rw [hb.cell (p := ⟨b, o + i, none⟩) (World.block_lt_of_cell? w _ (hc i hi))]
  exact hc i hi
end Go.Proofs.YtldbbkheemnnhaaGreatDoor

namespace Go.Proofs.YtldbbkheemnnhaaGreatDoor
open Go.RowKit
abbrev Bs := List UInt8
structure Ty where
 kind : Int
 name : Bs
 lives : List Bs
 elem : List Ty
structure Pl where
 name : Bs
 path : List Bs
structure Opr where
 kind : Int
 n : Int
 place : Pl
structure Va where
 kind : Int
 a : Opr
 b : Opr
 op : Int
 place : Pl
 name : Bs
 names : List Bs
 args : List Opr
structure St where
 kind : Int
 pos : Int
 mu : Bool
 name : Bs
 ty : Ty
 has : Bool
 place : Pl
 val : Va
 cond : Opr
 thn : List St
 els : List St
structure Lfe where
 name : Bs
 over : List Bs
structure Fld where
 mu : Bool
 name : Bs
 ty : Ty
structure Sct where
 pub : Bool
 name : Bs
 lives : List Bs
 fields : List Fld
 pos : Int
structure Fnc where
 pub : Bool
 name : Bs
 lives : List Lfe
 params : List Fld
 result : Ty
 body : List St
 pos : Int
structure Crt where
 structs : List Sct
 funcs : List Fnc
structure Ctx where
 C : Nat
 B : Nat
 small : B <= 140737488355328
structure Ar {α : Type} (z bz : Nat) (P : List Value -> α -> Prop) (K : Ctx) (w : World) (v : Value) (l : List α) : Prop where
 shape : ∃ ao cap, v = .slice ao l.length cap /\ l.length <= cap /\ l.length * bz <= 140737488355328 /\
  ∀ i (h : i < l.length), ∃ b o, ao = some ⟨b, o, none⟩ /\ b < K.C /\ ∃ cs, cs.length = z /\ (∀ j, j < z -> w.cell? ⟨b, o + i * z + j, none⟩ = cs[j]?) /\ P cs l[i]
theorem Ar.mono {α : Type} {z bz : Nat} {P P' : List Value -> α -> Prop} {K : Ctx} {w w' : World} {v : Value} {l : List α} (h : Ar z bz P K w v l)
  (hb : Below K.C w w') (hp : ∀ cs x, x ∈ l -> P cs x -> P' cs x) : Ar z bz P' K w' v l := by
 obtain ⟨ao, cap, e, h1, h2, h3⟩ := h.shape
 refine ⟨ao, cap, e, h1, h2, fun i hi => ?_⟩
 obtain ⟨b, o, e1, hc, cs, hl, hcs, hq⟩ := h3 i hi
 refine ⟨b, o, e1, hc, cs, hl, fun j hj => ?_, hp _ _ (List.getElem_mem hi) hq⟩
 rw [hb.cell (p := ⟨b, o + i * z + j, none⟩) hc]
 exact hcs j hj
def Ctx.up (K : Ctx) (C : Nat) : Ctx := ⟨C, K.B, K.small⟩
theorem Ar.up {α : Type} {z bz : Nat} {P P' : List Value -> α -> Prop} {K : Ctx} {w : World} {v : Value} {l : List α} (h : Ar z bz P K w v l)
  {C : Nat} (hC : K.C <= C) (hp : ∀ cs x, x ∈ l -> P cs x -> P' cs x) : Ar z bz P' (K.up C) w v l := by
 obtain ⟨ao, cap, e, h1, h2, h3⟩ := h.shape
 refine ⟨ao, cap, e, h1, h2, fun i hi => ?_⟩
 obtain ⟨b, o, e1, hc, cs, hl, hcs, hq⟩ := h3 i hi
 exact ⟨b, o, e1, Nat.lt_of_lt_of_le hc hC, cs, hl, hcs, hp _ _ (List.getElem_mem hi) hq⟩
def TxAt (K : Ctx) (cs : List Value) (s : Bs) : Prop := cs = [.string (str s)] /\ s.length <= K.B
def Strs (K : Ctx) (w : World) (v : Value) (l : List Bs) : Prop := Ar 1 16 (TxAt K) K w v l
def TyAt : Nat -> Ctx -> World -> List Value -> Ty -> Prop
 | 0, _, _, _, _ => False
 | n + 1, K, w, cs, t => ∃ v2 v3, cs = [.int .i64 t.kind, .string (str t.name), v2, v3] /\ t.name.length <= K.B /\ Strs K w v2 t.lives /\ Ar 4 72 (TyAt n K w) K w v3 t.elem
def IsTy (K : Ctx) (w : World) (cs : List Value) (t : Ty) : Prop := ∃ n, TyAt n K w cs t
def PlAt (K : Ctx) (w : World) (cs : List Value) (p : Pl) : Prop :=
 ∃ v1, cs = [.string (str p.name), v1] /\ p.name.length <= K.B /\ Strs K w v1 p.path
def OprAt (K : Ctx) (w : World) (cs : List Value) (x : Opr) : Prop :=
 ∃ ps, cs = .int .i64 x.kind :: .int .i64 x.n :: ps /\ PlAt K w ps x.place
def VaAt (K : Ctx) (w : World) (cs : List Value) (x : Va) : Prop :=
 ∃ xa xb ps vn va, cs = .int .i64 x.kind :: (xa ++ (xb ++ (.int .i64 x.op :: (ps ++ [.string (str x.name), vn, va])))) /\
  OprAt K w xa x.a /\ OprAt K w xb x.b /\ PlAt K w ps x.place /\ x.name.length <= K.B /\ Strs K w vn x.names /\ Ar 4 56 (OprAt K w) K w va x.args
def StAt : Nat -> Ctx -> World -> List Value -> St -> Prop
 | 0, _, _, _, _ => False
 | n + 1, K, w, cs, s => ∃ ts ps vs os vt ve, cs = .int .i64 s.kind :: .int .i64 s.pos :: .bool s.mu :: .string (str s.name) :: (ts ++ (.bool s.has :: (ps ++ (vs ++ (os ++ [vt, ve]))))) /\
  s.name.length <= K.B /\ IsTy K w ts s.ty /\ PlAt K w ps s.place /\ VaAt K w vs s.val /\ OprAt K w os s.cond /\ Ar 32 496 (StAt n K w) K w vt s.thn /\ Ar 32 496 (StAt n K w) K w ve s.els
def LfeAt (K : Ctx) (w : World) (cs : List Value) (x : Lfe) : Prop :=
 ∃ v1, cs = [.string (str x.name), v1] /\ x.name.length <= K.B /\ Strs K w v1 x.over
def FldAt (K : Ctx) (w : World) (cs : List Value) (x : Fld) : Prop :=
 ∃ ts, cs = .bool x.mu :: .string (str x.name) :: ts /\ x.name.length <= K.B /\ IsTy K w ts x.ty
def SctAt (K : Ctx) (w : World) (cs : List Value) (x : Sct) : Prop :=
 ∃ v2 v3, cs = [.bool x.pub, .string (str x.name), v2, v3, .int .i64 x.pos] /\ x.name.length <= K.B /\ Strs K w v2 x.lives /\ Ar 6 96 (FldAt K w) K w v3 x.fields
def FncAt (n : Nat) (K : Ctx) (w : World) (cs : List Value) (x : Fnc) : Prop :=
 ∃ v2 v3 ts v8, cs = .bool x.pub :: .string (str x.name) :: v2 :: v3 :: (ts ++ [v8, .int .i64 x.pos]) /\ x.name.length <= K.B /\
  Ar 2 40 (LfeAt K w) K w v2 x.lives /\ Ar 6 96 (FldAt K w) K w v3 x.params /\ IsTy K w ts x.result /\ Ar 32 496 (StAt n K w) K w v8 x.body
def CrtAt (n : Nat) (K : Ctx) (w : World) (cs : List Value) (x : Crt) : Prop :=
 ∃ v0 v1, cs = [v0, v1] /\ Ar 5 80 (SctAt K w) K w v0 x.structs /\ Ar 10 176 (FncAt n K w) K w v1 x.funcs
theorem Strs.below {K : Ctx} {w w' : World} {v : Value} {l : List Bs} (h : Strs K w v l) (hb : Below K.C w w') : Strs K w' v l := Ar.mono h hb fun _ _ _ h => h
theorem TyAt.below {K : Ctx} {w w' : World} (hb : Below K.C w w') : ∀ {n : Nat} {cs : List Value} {t : Ty}, TyAt n K w cs t -> TyAt n K w' cs t
 | 0, _, _, h => h.elim
 | n + 1, _, _, h => by
  obtain ⟨v2, v3, e, h1, h2, h3⟩ := h
  exact ⟨v2, v3, e, h1, h2.below hb, h3.mono hb fun _ _ _ h => TyAt.below hb h⟩
theorem IsTy.below {K : Ctx} {w w' : World} {cs : List Value} {t : Ty} (h : IsTy K w cs t) (hb : Below K.C w w') : IsTy K w' cs t := by
 obtain ⟨n, h⟩ := h; exact ⟨n, h.below hb⟩
theorem PlAt.below {K : Ctx} {w w' : World} {cs : List Value} {t : Pl} (h : PlAt K w cs t) (hb : Below K.C w w') : PlAt K w' cs t := by
 obtain ⟨v1, e, h1, h2⟩ := h; exact ⟨v1, e, h1, h2.below hb⟩
theorem OprAt.below {K : Ctx} {w w' : World} {cs : List Value} {t : Opr} (h : OprAt K w cs t) (hb : Below K.C w w') : OprAt K w' cs t := by
 obtain ⟨v1, e, h1⟩ := h; exact ⟨v1, e, h1.below hb⟩
theorem VaAt.below {K : Ctx} {w w' : World} {cs : List Value} {t : Va} (h : VaAt K w cs t) (hb : Below K.C w w') : VaAt K w' cs t := by
 obtain ⟨xa, xb, ps, vn, va, e, h1, h2, h3, h4, h5, h6⟩ := h
 exact ⟨xa, xb, ps, vn, va, e, h1.below hb, h2.below hb, h3.below hb, h4, h5.below hb, h6.mono hb fun _ _ _ h => h.below hb⟩
theorem StAt.below {K : Ctx} {w w' : World} (hb : Below K.C w w') : ∀ {n : Nat} {cs : List Value} {t : St}, StAt n K w cs t -> StAt n K w' cs t
 | 0, _, _, h => h.elim
 | n + 1, _, _, h => by
  obtain ⟨ts, ps, vs, os, vt, ve, e, h1, h2, h3, h4, h5, h6, h7⟩ := h
  exact ⟨ts, ps, vs, os, vt, ve, e, h1, h2.below hb, h3.below hb, h4.below hb, h5.below hb, h6.mono hb fun _ _ _ h => StAt.below hb h, h7.mono hb fun _ _ _ h => StAt.below hb h⟩
theorem LfeAt.below {K : Ctx} {w w' : World} {cs : List Value} {t : Lfe} (h : LfeAt K w cs t) (hb : Below K.C w w') : LfeAt K w' cs t := by
 obtain ⟨v1, e, h1, h2⟩ := h; exact ⟨v1, e, h1, h2.below hb⟩
theorem FldAt.below {K : Ctx} {w w' : World} {cs : List Value} {t : Fld} (h : FldAt K w cs t) (hb : Below K.C w w') : FldAt K w' cs t := by
 obtain ⟨v1, e, h1, h2⟩ := h; exact ⟨v1, e, h1, h2.below hb⟩
theorem SctAt.below {K : Ctx} {w w' : World} {cs : List Value} {t : Sct} (h : SctAt K w cs t) (hb : Below K.C w w') : SctAt K w' cs t := by
 obtain ⟨v2, v3, e, h1, h2, h3⟩ := h; exact ⟨v2, v3, e, h1, h2.below hb, h3.mono hb fun _ _ _ h => h.below hb⟩
theorem FncAt.below {n : Nat} {K : Ctx} {w w' : World} {cs : List Value} {t : Fnc} (h : FncAt n K w cs t) (hb : Below K.C w w') : FncAt n K w' cs t := by
 obtain ⟨v2, v3, ts, v8, e, h1, h2, h3, h4, h5⟩ := h
 exact ⟨v2, v3, ts, v8, e, h1, h2.mono hb fun _ _ _ h => h.below hb, h3.mono hb fun _ _ _ h => h.below hb, h4.below hb, h5.mono hb fun _ _ _ h => h.below hb⟩
theorem CrtAt.below {n : Nat} {K : Ctx} {w w' : World} {cs : List Value} {t : Crt} (h : CrtAt n K w cs t) (hb : Below K.C w w') : CrtAt n K w' cs t := by
 obtain ⟨v0, v1, e, h1, h2⟩ := h; exact ⟨v0, v1, e, h1.mono hb fun _ _ _ h => h.below hb, h2.mono hb fun _ _ _ h => h.below hb⟩
theorem Strs.up {K : Ctx} {w : World} {v : Value} {l : List Bs} (h : Strs K w v l) {C : Nat} (hb : K.C <= C) : Strs (K.up C) w v l := Ar.up h hb fun _ _ _ h => h
theorem TyAt.up {K : Ctx} {w : World} {C : Nat} (hb : K.C <= C) : ∀ {n : Nat} {cs : List Value} {t : Ty}, TyAt n K w cs t -> TyAt n (K.up C) w cs t
 | 0, _, _, h => h.elim
 | n + 1, _, _, h => by
  obtain ⟨v2, v3, e, h1, h2, h3⟩ := h
  exact ⟨v2, v3, e, h1, h2.up hb, h3.up hb fun _ _ _ h => TyAt.up hb h⟩
theorem IsTy.up {K : Ctx} {w : World} {cs : List Value} {t : Ty} (h : IsTy K w cs t) {C : Nat} (hb : K.C <= C) : IsTy (K.up C) w cs t := by
 obtain ⟨n, h⟩ := h; exact ⟨n, h.up hb⟩
theorem PlAt.up {K : Ctx} {w : World} {cs : List Value} {t : Pl} (h : PlAt K w cs t) {C : Nat} (hb : K.C <= C) : PlAt (K.up C) w cs t := by
 obtain ⟨v1, e, h1, h2⟩ := h; exact ⟨v1, e, h1, h2.up hb⟩
theorem OprAt.up {K : Ctx} {w : World} {cs : List Value} {t : Opr} (h : OprAt K w cs t) {C : Nat} (hb : K.C <= C) : OprAt (K.up C) w cs t := by
 obtain ⟨v1, e, h1⟩ := h; exact ⟨v1, e, h1.up hb⟩
theorem VaAt.up {K : Ctx} {w : World} {cs : List Value} {t : Va} (h : VaAt K w cs t) {C : Nat} (hb : K.C <= C) : VaAt (K.up C) w cs t := by
 obtain ⟨xa, xb, ps, vn, va, e, h1, h2, h3, h4, h5, h6⟩ := h
 exact ⟨xa, xb, ps, vn, va, e, h1.up hb, h2.up hb, h3.up hb, h4, h5.up hb, h6.up hb fun _ _ _ h => h.up hb⟩
theorem StAt.up {K : Ctx} {w : World} {C : Nat} (hb : K.C <= C) : ∀ {n : Nat} {cs : List Value} {t : St}, StAt n K w cs t -> StAt n (K.up C) w cs t
 | 0, _, _, h => h.elim
 | n + 1, _, _, h => by
  obtain ⟨ts, ps, vs, os, vt, ve, e, h1, h2, h3, h4, h5, h6, h7⟩ := h
  exact ⟨ts, ps, vs, os, vt, ve, e, h1, h2.up hb, h3.up hb, h4.up hb, h5.up hb, h6.up hb fun _ _ _ h => StAt.up hb h, h7.up hb fun _ _ _ h => StAt.up hb h⟩
theorem LfeAt.up {K : Ctx} {w : World} {cs : List Value} {t : Lfe} (h : LfeAt K w cs t) {C : Nat} (hb : K.C <= C) : LfeAt (K.up C) w cs t := by
 obtain ⟨v1, e, h1, h2⟩ := h; exact ⟨v1, e, h1, h2.up hb⟩
theorem FldAt.up {K : Ctx} {w : World} {cs : List Value} {t : Fld} (h : FldAt K w cs t) {C : Nat} (hb : K.C <= C) : FldAt (K.up C) w cs t := by
 obtain ⟨v1, e, h1, h2⟩ := h; exact ⟨v1, e, h1, h2.up hb⟩
theorem SctAt.up {K : Ctx} {w : World} {cs : List Value} {t : Sct} (h : SctAt K w cs t) {C : Nat} (hb : K.C <= C) : SctAt (K.up C) w cs t := by
 obtain ⟨v2, v3, e, h1, h2, h3⟩ := h; exact ⟨v2, v3, e, h1, h2.up hb, h3.up hb fun _ _ _ h => h.up hb⟩
theorem FncAt.up {n : Nat} {K : Ctx} {w : World} {cs : List Value} {t : Fnc} (h : FncAt n K w cs t) {C : Nat} (hb : K.C <= C) : FncAt n (K.up C) w cs t := by
 obtain ⟨v2, v3, ts, v8, e, h1, h2, h3, h4, h5⟩ := h
 exact ⟨v2, v3, ts, v8, e, h1, h2.up hb fun _ _ _ h => h.up hb, h3.up hb fun _ _ _ h => h.up hb, h4.up hb, h5.up hb fun _ _ _ h => h.up hb⟩
theorem CrtAt.up {n : Nat} {K : Ctx} {w : World} {cs : List Value} {t : Crt} (h : CrtAt n K w cs t) {C : Nat} (hb : K.C <= C) : CrtAt n (K.up C) w cs t := by
 obtain ⟨v0, v1, e, h1, h2⟩ := h; exact ⟨v0, v1, e, h1.up hb fun _ _ _ h => h.up hb, h2.up hb fun _ _ _ h => h.up hb⟩
end Go.Proofs.YtldbbkheemnnhaaGreatDoor
