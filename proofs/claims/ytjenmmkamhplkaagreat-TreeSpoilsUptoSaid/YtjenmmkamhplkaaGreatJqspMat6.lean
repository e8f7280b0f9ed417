/- Part of the proof. -/
import Derived.Test.YtjenmmkamhplkaaGreatRows
import Derived.WalkKit
import Derived.WalkSpells
import Derived.WalkLawsBesides
import Derived.Maps.AppendAt
import Derived.Laws.IdiomStrings
import Derived.Laws.BitsAllLaws
import Derived.Deep.QuietTactic
import Derived.BigQuiet
import Derived.Deep.RegionHeld
import Derived.Deep.DrawnRows
import Derived.Deep.LoopGhost
import Derived.Laws.Rows
import Derived.Laws.Tables
import Derived.Deep.MidRow
import Derived.Laws.CopyOwn
namespace Go.Proofs.YtjenmmkamhplkaaGreat
def isBl (c : UInt8) : Bool := decide (c.toNat = 32) || decide (c.toNat = 9) || decide (c.toNat = 10)
def isDg (c : UInt8) : Bool := decide (48 ≤ c.toNat) && decide (c.toNat ≤ 57)
def isLt (c : UInt8) : Bool := (decide (97 ≤ c.toNat) && decide (c.toNat ≤ 122)) || (decide (65 ≤ c.toNat) && decide (c.toNat ≤ 90)) || decide (c.toNat = 95)
def isNm (c : UInt8) : Bool := isLt c || isDg c
def runL : List UInt8 → Nat
  | [] => 0
  | c :: t => if isNm c then runL t + 1 else 0
theorem runL_le : ∀ l : List UInt8, runL l ≤ l.length
  | [] => by simp [runL]
  | c :: t => by have := runL_le t; simp only [runL, List.length_cons]; split <;> omega
def wordsL : List (List UInt8) :=
  [[102,110],[115,116,114,117,99,116],[112,117,98],[108,101,116],[109,117,116],[105,102],[101,108,115,101],[119,104,105,108,101],[108,111,111,112],[98,114,101,97,107],[99,111,110,116,105,110,117,101],[114,101,116,117,114,110],[100,114,111,112],[116,114,117,101],[102,97,108,115,101],[105,110,116],[98,111,111,108]]
def isWord (l : List UInt8) : Bool := wordsL.contains l
end Go.Proofs.YtjenmmkamhplkaaGreat

namespace Go.Proofs.YtjenmmkamhplkaaGreat
open Go.RowKit
abbrev Rb (b:Bool) (w:World):Ending->World->Prop:=fun ev w'=>ev=.returned (.bool b)/\Below w.heap.size w w'
theorem hid0 {p:Prop} (h:p):Hid p:=h
theorem hmf0:∀ (fn:Fn) (first cap:Array Value) (w:World),(Instr.makeFunc fn first cap).run Tryz.prog w=.ok (.func fn first cap) w:=fun _ _ _ _=>rfl
def str (l:List UInt8):ByteArray:=⟨l.toArray⟩
theorem str_size (l:List UInt8):(str l).size=l.length:=by simp [str,ByteArray.size]
theorem str_at (l:List UInt8) (k:Nat) (h:k<(str l).size):((str l)[k]'h)=l.getD k 0:=by
 have hk:k<l.length:=by rw [str_size] at h;exact h
 simp [List.getD,List.getElem?_eq_getElem hk];rfl
theorem str_of (s:ByteArray):str s.data.toList=s:=by cases s;simp [str]
end Go.Proofs.YtjenmmkamhplkaaGreat

namespace Go.Proofs.YtjenmmkamhplkaaGreat
open Go.RowKit
def bys (l:List UInt8):List Value:=l.map fun b=>Value.int .u8 (b.toNat:Int)
theorem addr_add (b o i:Nat):(⟨b,o,none⟩:Addr).add i=⟨b,o+i,none⟩:=by unfold Addr.add;split <;> simp_all
structure Row (w:World) (g t:Nat) (L:List Value):Prop where
 heap:w.heap[g]?=some (.cells L.toArray t (0,0))
theorem Row.cell {w:World} {g t:Nat} {L:List Value} (h:Row w g t L) (j:Nat):w.cell? ⟨g,j,none⟩=L[j]?:=by
 rw [cell_of_row w g j L.toArray t (0,0) h.heap];simp
theorem Row.fz {w:World} {g t:Nat} {L:List Value} (h:Row w g t L) (j:Nat):w.frozen? ⟨g,j,none⟩=false:=by
 simp [World.frozen?,h.heap]
theorem Row.set {w:World} {g t:Nat} {L:List Value} (h:Row w g t L) (j:Nat) (v:Value):Row (w.setCell ⟨g,j,none⟩ v) g t (L.set j v):=by
 refine ⟨?_⟩
 rw [heap_setCell_same w g j L.toArray t v h.heap]
 simp
theorem Row.other {w:World} {g g' j t:Nat} {L:List Value} (h:Row w g t L) (hne:g≠g') (v:Value):Row (w.setCell ⟨g',j,none⟩ v) g t L :=
 ⟨by rw [heap_setCell_other w ⟨g',j,none⟩ g v hne];exact h.heap⟩
theorem Row.below {w w':World} {C g t:Nat} {L:List Value} (h:Row w g t L) (hb:Below C w w') (hg:g<C):Row w' g t L :=
 ⟨by rw [hb.block g hg];exact h.heap⟩
theorem Row.drew {w:World} {g t:Nat} {L:List Value} (h:Row w g t L):Row w.drew g t L:=⟨h.heap⟩
theorem Row.drewN {w:World} {g t n:Nat} {L:List Value} (h:Row w g t L):Row (w.drewN n) g t L:=⟨h.heap⟩
theorem Row.lt {w:World} {g t:Nat} {L:List Value} (h:Row w g t L):g<w.heap.size:=by
 have:=h.heap
 rcases Nat.lt_or_ge g w.heap.size with h'|h'
 ·exact h'
 ·rw [Array.getElem?_eq_none h'] at this;cases this
theorem Row.new (w:World) (t:Nat) (L:List Value):Row (w.alloc (.cells L.toArray t)) w.heap.size t L:=⟨heap_alloc_new w _⟩
theorem Row.range {w:World} {g t:Nat} {L:List Value} (h:Row w g t L):w.rangeAt g 0 L:=by
 intro j u hj
 rw [Nat.zero_add,h.cell j];exact hj
theorem Row.setRow {w:World} {g t:Nat} {L:List Value} (h:Row w g t L) (M:List Value):Row (w.setRow g M.toArray) g t M:=⟨setRow_heap w g _ _ t _ h.heap⟩
theorem all_one {L:List Value} (h:∀ u∈L,u.oneCell'=true):L.toArray.all (·.oneCell')=true:=by
 rw [Array.all_eq_true_iff_forall_mem];intro u hu;exact h u (by simpa using hu)
structure Sl (w:World) (v:Value) (l:List UInt8):Prop where
 shape:(∃ ao,v=.slice ao 0 0/\l=[])∨∃ b o cap,v=.slice (some ⟨b,o,none⟩) l.length cap/\l.length<=cap/\∀ i,i<l.length->w.cell? ⟨b,o+i,none⟩=some (.int .u8 ((l.getD i 0).toNat:Int))
theorem Sl.below {w w':World} {v:Value} {l:List UInt8} (h:Sl w v l) (hb:Below w.heap.size w w'):Sl w' v l:=by
 refine ⟨?_⟩
 rcases h.shape with h|⟨b,o,cap,rfl,hcap,hc⟩
 ·exact .inl h
 ·refine .inr ⟨b,o,cap,rfl,hcap,fun i hi=>?_⟩
  rw [hb.cell (p:=⟨b,o+i,none⟩) (World.block_lt_of_cell? w _ (hc i hi))]
  exact hc i hi
end Go.Proofs.YtjenmmkamhplkaaGreat

namespace Go.Proofs.YtjenmmkamhplkaaGreat
open Go.RowKit
abbrev Bs:=List UInt8
structure Ty where
 kind:Int
 name:Bs
 lives:List Bs
 elem:List Ty
structure Pl where
 name:Bs
 path:List Bs
structure Opr where
 kind:Int
 n:Int
 place:Pl
structure Va where
 kind:Int
 a:Opr
 b:Opr
 op:Int
 place:Pl
 name:Bs
 names:List Bs
 args:List Opr
structure St where
 kind:Int
 pos:Int
 mu:Bool
 name:Bs
 ty:Ty
 has:Bool
 place:Pl
 val:Va
 cond:Opr
 thn:List St
 els:List St
structure Lfe where
 name:Bs
 over:List Bs
structure Fld where
 mu:Bool
 name:Bs
 ty:Ty
structure Sct where
 pub:Bool
 name:Bs
 lives:List Bs
 fields:List Fld
 pos:Int
structure Fnc where
 pub:Bool
 name:Bs
 lives:List Lfe
 params:List Fld
 result:Ty
 body:List St
 pos:Int
structure Crt where
 structs:List Sct
 funcs:List Fnc
structure Ctx where
 C:Nat
 B:Nat
 small:B<=140737488355328
structure Ar {α:Type} (z bz:Nat) (P:List Value->α->Prop) (K:Ctx) (w:World) (v:Value) (l:List α):Prop where
 shape:∃ ao cap,v=.slice ao l.length cap/\l.length<=cap/\l.length * bz<=140737488355328 /\
  ∀ i (h:i<l.length),∃ b o,ao=some ⟨b,o,none⟩/\b<K.C/\∃ cs,cs.length=z/\(∀ j,j<z->w.cell? ⟨b,o+i * z+j,none⟩=cs[j]?)/\P cs l[i]
theorem Ar.mono {α:Type} {z bz:Nat} {P P':List Value->α->Prop} {K:Ctx} {w w':World} {v:Value} {l:List α} (h:Ar z bz P K w v l)
  (hb:Below K.C w w') (hp:∀ cs x,x∈l->P cs x->P' cs x):Ar z bz P' K w' v l:=by
 obtain ⟨ao,cap,e,h1,h2,h3⟩:=h.shape
 refine ⟨ao,cap,e,h1,h2,fun i hi=>?_⟩
 obtain ⟨b,o,e1,hc,cs,hl,hcs,hq⟩:=h3 i hi
 refine ⟨b,o,e1,hc,cs,hl,fun j hj=>?_,hp _ _ (List.getElem_mem hi) hq⟩
 rw [hb.cell (p:=⟨b,o+i * z+j,none⟩) hc]
 exact hcs j hj
def Ctx.up (K:Ctx) (C:Nat):Ctx:=⟨C,K.B,K.small⟩
theorem Ar.up {α:Type} {z bz:Nat} {P P':List Value->α->Prop} {K:Ctx} {w:World} {v:Value} {l:List α} (h:Ar z bz P K w v l)
  {C:Nat} (hC:K.C<=C) (hp:∀ cs x,x∈l->P cs x->P' cs x):Ar z bz P' (K.up C) w v l:=by
 obtain ⟨ao,cap,e,h1,h2,h3⟩:=h.shape
 refine ⟨ao,cap,e,h1,h2,fun i hi=>?_⟩
 obtain ⟨b,o,e1,hc,cs,hl,hcs,hq⟩:=h3 i hi
 exact ⟨b,o,e1,Nat.lt_of_lt_of_le hc hC,cs,hl,hcs,hp _ _ (List.getElem_mem hi) hq⟩
def TxAt (K:Ctx) (cs:List Value) (s:Bs):Prop:=cs=[.string (str s)]/\s.length<=K.B
def Strs (K:Ctx) (w:World) (v:Value) (l:List Bs):Prop:=Ar 1 16 (TxAt K) K w v l
def TyAt:Nat->Ctx->World->List Value->Ty->Prop
 | 0,_,_,_,_=>False
 | n+1,K,w,cs,t=>∃ v2 v3,cs=[.int .i64 t.kind,.string (str t.name),v2,v3]/\t.name.length<=K.B/\Strs K w v2 t.lives/\Ar 4 72 (TyAt n K w) K w v3 t.elem
def IsTy (K:Ctx) (w:World) (cs:List Value) (t:Ty):Prop:=∃ n,TyAt n K w cs t
def PlAt (K:Ctx) (w:World) (cs:List Value) (p:Pl):Prop :=
 ∃ v1,cs=[.string (str p.name),v1]/\p.name.length<=K.B/\Strs K w v1 p.path
def OprAt (K:Ctx) (w:World) (cs:List Value) (x:Opr):Prop :=
 ∃ ps,cs=.int .i64 x.kind :: .int .i64 x.n :: ps/\PlAt K w ps x.place
def VaAt (K:Ctx) (w:World) (cs:List Value) (x:Va):Prop :=
 ∃ xa xb ps vn va,cs=.int .i64 x.kind :: (xa ++ (xb ++ (.int .i64 x.op :: (ps ++ [.string (str x.name),vn,va])))) /\
  OprAt K w xa x.a/\OprAt K w xb x.b/\PlAt K w ps x.place/\x.name.length<=K.B/\Strs K w vn x.names/\Ar 4 56 (OprAt K w) K w va x.args
def StAt:Nat->Ctx->World->List Value->St->Prop
 | 0,_,_,_,_=>False
 | n+1,K,w,cs,s=>∃ ts ps vs os vt ve,cs=.int .i64 s.kind :: .int .i64 s.pos :: .bool s.mu :: .string (str s.name) :: (ts ++ (.bool s.has :: (ps ++ (vs ++ (os ++ [vt,ve]))))) /\
  s.name.length<=K.B/\IsTy K w ts s.ty/\PlAt K w ps s.place/\VaAt K w vs s.val/\OprAt K w os s.cond/\Ar 32 496 (StAt n K w) K w vt s.thn/\Ar 32 496 (StAt n K w) K w ve s.els
def LfeAt (K:Ctx) (w:World) (cs:List Value) (x:Lfe):Prop :=
 ∃ v1,cs=[.string (str x.name),v1]/\x.name.length<=K.B/\Strs K w v1 x.over
def FldAt (K:Ctx) (w:World) (cs:List Value) (x:Fld):Prop :=
 ∃ ts,cs=.bool x.mu :: .string (str x.name) :: ts/\x.name.length<=K.B/\IsTy K w ts x.ty
def SctAt (K:Ctx) (w:World) (cs:List Value) (x:Sct):Prop :=
 ∃ v2 v3,cs=[.bool x.pub,.string (str x.name),v2,v3,.int .i64 x.pos]/\x.name.length<=K.B/\Strs K w v2 x.lives/\Ar 6 96 (FldAt K w) K w v3 x.fields
def FncAt (n:Nat) (K:Ctx) (w:World) (cs:List Value) (x:Fnc):Prop :=
 ∃ v2 v3 ts v8,cs=.bool x.pub :: .string (str x.name) :: v2 :: v3 :: (ts ++ [v8,.int .i64 x.pos])/\x.name.length<=K.B /\
  Ar 2 40 (LfeAt K w) K w v2 x.lives/\Ar 6 96 (FldAt K w) K w v3 x.params/\IsTy K w ts x.result/\Ar 32 496 (StAt n K w) K w v8 x.body
def CrtAt (n:Nat) (K:Ctx) (w:World) (cs:List Value) (x:Crt):Prop :=
 ∃ v0 v1,cs=[v0,v1]/\Ar 5 80 (SctAt K w) K w v0 x.structs/\Ar 10 176 (FncAt n K w) K w v1 x.funcs
theorem Strs.below {K:Ctx} {w w':World} {v:Value} {l:List Bs} (h:Strs K w v l) (hb:Below K.C w w'):Strs K w' v l:=Ar.mono h hb fun _ _ _ h=>h
theorem TyAt.below {K:Ctx} {w w':World} (hb:Below K.C w w'):∀ {n:Nat} {cs:List Value} {t:Ty},TyAt n K w cs t->TyAt n K w' cs t
 | 0,_,_,h=>h.elim
 | n+1,_,_,h=>by
  obtain ⟨v2,v3,e,h1,h2,h3⟩:=h
  exact ⟨v2,v3,e,h1,h2.below hb,h3.mono hb fun _ _ _ h=>TyAt.below hb h⟩
theorem IsTy.below {K:Ctx} {w w':World} {cs:List Value} {t:Ty} (h:IsTy K w cs t) (hb:Below K.C w w'):IsTy K w' cs t:=by
 obtain ⟨n,h⟩:=h;exact ⟨n,h.below hb⟩
theorem PlAt.below {K:Ctx} {w w':World} {cs:List Value} {t:Pl} (h:PlAt K w cs t) (hb:Below K.C w w'):PlAt K w' cs t:=by
 obtain ⟨v1,e,h1,h2⟩:=h;exact ⟨v1,e,h1,h2.below hb⟩
theorem OprAt.below {K:Ctx} {w w':World} {cs:List Value} {t:Opr} (h:OprAt K w cs t) (hb:Below K.C w w'):OprAt K w' cs t:=by
 obtain ⟨v1,e,h1⟩:=h;exact ⟨v1,e,h1.below hb⟩
theorem VaAt.below {K:Ctx} {w w':World} {cs:List Value} {t:Va} (h:VaAt K w cs t) (hb:Below K.C w w'):VaAt K w' cs t:=by
 obtain ⟨xa,xb,ps,vn,va,e,h1,h2,h3,h4,h5,h6⟩:=h
 exact ⟨xa,xb,ps,vn,va,e,h1.below hb,h2.below hb,h3.below hb,h4,h5.below hb,h6.mono hb fun _ _ _ h=>h.below hb⟩
theorem StAt.below {K:Ctx} {w w':World} (hb:Below K.C w w'):∀ {n:Nat} {cs:List Value} {t:St},StAt n K w cs t->StAt n K w' cs t
 | 0,_,_,h=>h.elim
 | n+1,_,_,h=>by
  obtain ⟨ts,ps,vs,os,vt,ve,e,h1,h2,h3,h4,h5,h6,h7⟩:=h
  exact ⟨ts,ps,vs,os,vt,ve,e,h1,h2.below hb,h3.below hb,h4.below hb,h5.below hb,h6.mono hb fun _ _ _ h=>StAt.below hb h,h7.mono hb fun _ _ _ h=>StAt.below hb h⟩
theorem LfeAt.below {K:Ctx} {w w':World} {cs:List Value} {t:Lfe} (h:LfeAt K w cs t) (hb:Below K.C w w'):LfeAt K w' cs t:=by
 obtain ⟨v1,e,h1,h2⟩:=h;exact ⟨v1,e,h1,h2.below hb⟩
theorem FldAt.below {K:Ctx} {w w':World} {cs:List Value} {t:Fld} (h:FldAt K w cs t) (hb:Below K.C w w'):FldAt K w' cs t:=by
 obtain ⟨v1,e,h1,h2⟩:=h;exact ⟨v1,e,h1,h2.below hb⟩
theorem SctAt.below {K:Ctx} {w w':World} {cs:List Value} {t:Sct} (h:SctAt K w cs t) (hb:Below K.C w w'):SctAt K w' cs t:=by
 obtain ⟨v2,v3,e,h1,h2,h3⟩:=h;exact ⟨v2,v3,e,h1,h2.below hb,h3.mono hb fun _ _ _ h=>h.below hb⟩
theorem FncAt.below {n:Nat} {K:Ctx} {w w':World} {cs:List Value} {t:Fnc} (h:FncAt n K w cs t) (hb:Below K.C w w'):FncAt n K w' cs t:=by
 obtain ⟨v2,v3,ts,v8,e,h1,h2,h3,h4,h5⟩:=h
 exact ⟨v2,v3,ts,v8,e,h1,h2.mono hb fun _ _ _ h=>h.below hb,h3.mono hb fun _ _ _ h=>h.below hb,h4.below hb,h5.mono hb fun _ _ _ h=>h.below hb⟩
theorem CrtAt.below {n:Nat} {K:Ctx} {w w':World} {cs:List Value} {t:Crt} (h:CrtAt n K w cs t) (hb:Below K.C w w'):CrtAt n K w' cs t:=by
 obtain ⟨v0,v1,e,h1,h2⟩:=h;exact ⟨v0,v1,e,h1.mono hb fun _ _ _ h=>h.below hb,h2.mono hb fun _ _ _ h=>h.below hb⟩
theorem Strs.up {K:Ctx} {w:World} {v:Value} {l:List Bs} (h:Strs K w v l) {C:Nat} (hb:K.C<=C):Strs (K.up C) w v l:=Ar.up h hb fun _ _ _ h=>h
theorem TyAt.up {K:Ctx} {w:World} {C:Nat} (hb:K.C<=C):∀ {n:Nat} {cs:List Value} {t:Ty},TyAt n K w cs t->TyAt n (K.up C) w cs t
 | 0,_,_,h=>h.elim
 | n+1,_,_,h=>by
  obtain ⟨v2,v3,e,h1,h2,h3⟩:=h
  exact ⟨v2,v3,e,h1,h2.up hb,h3.up hb fun _ _ _ h=>TyAt.up hb h⟩
theorem IsTy.up {K:Ctx} {w:World} {cs:List Value} {t:Ty} (h:IsTy K w cs t) {C:Nat} (hb:K.C<=C):IsTy (K.up C) w cs t:=by
 obtain ⟨n,h⟩:=h;exact ⟨n,h.up hb⟩
theorem PlAt.up {K:Ctx} {w:World} {cs:List Value} {t:Pl} (h:PlAt K w cs t) {C:Nat} (hb:K.C<=C):PlAt (K.up C) w cs t:=by
 obtain ⟨v1,e,h1,h2⟩:=h;exact ⟨v1,e,h1,h2.up hb⟩
theorem OprAt.up {K:Ctx} {w:World} {cs:List Value} {t:Opr} (h:OprAt K w cs t) {C:Nat} (hb:K.C<=C):OprAt (K.up C) w cs t:=by
 obtain ⟨v1,e,h1⟩:=h;exact ⟨v1,e,h1.up hb⟩
theorem VaAt.up {K:Ctx} {w:World} {cs:List Value} {t:Va} (h:VaAt K w cs t) {C:Nat} (hb:K.C<=C):VaAt (K.up C) w cs t:=by
 obtain ⟨xa,xb,ps,vn,va,e,h1,h2,h3,h4,h5,h6⟩:=h
 exact ⟨xa,xb,ps,vn,va,e,h1.up hb,h2.up hb,h3.up hb,h4,h5.up hb,h6.up hb fun _ _ _ h=>h.up hb⟩
theorem StAt.up {K:Ctx} {w:World} {C:Nat} (hb:K.C<=C):∀ {n:Nat} {cs:List Value} {t:St},StAt n K w cs t->StAt n (K.up C) w cs t
 | 0,_,_,h=>h.elim
 | n+1,_,_,h=>by
  obtain ⟨ts,ps,vs,os,vt,ve,e,h1,h2,h3,h4,h5,h6,h7⟩:=h
  exact ⟨ts,ps,vs,os,vt,ve,e,h1,h2.up hb,h3.up hb,h4.up hb,h5.up hb,h6.up hb fun _ _ _ h=>StAt.up hb h,h7.up hb fun _ _ _ h=>StAt.up hb h⟩
theorem LfeAt.up {K:Ctx} {w:World} {cs:List Value} {t:Lfe} (h:LfeAt K w cs t) {C:Nat} (hb:K.C<=C):LfeAt (K.up C) w cs t:=by
 obtain ⟨v1,e,h1,h2⟩:=h;exact ⟨v1,e,h1,h2.up hb⟩
theorem FldAt.up {K:Ctx} {w:World} {cs:List Value} {t:Fld} (h:FldAt K w cs t) {C:Nat} (hb:K.C<=C):FldAt (K.up C) w cs t:=by
 obtain ⟨v1,e,h1,h2⟩:=h;exact ⟨v1,e,h1,h2.up hb⟩
theorem SctAt.up {K:Ctx} {w:World} {cs:List Value} {t:Sct} (h:SctAt K w cs t) {C:Nat} (hb:K.C<=C):SctAt (K.up C) w cs t:=by
 obtain ⟨v2,v3,e,h1,h2,h3⟩:=h;exact ⟨v2,v3,e,h1,h2.up hb,h3.up hb fun _ _ _ h=>h.up hb⟩
theorem FncAt.up {n:Nat} {K:Ctx} {w:World} {cs:List Value} {t:Fnc} (h:FncAt n K w cs t) {C:Nat} (hb:K.C<=C):FncAt n (K.up C) w cs t:=by
 obtain ⟨v2,v3,ts,v8,e,h1,h2,h3,h4,h5⟩:=h
 exact ⟨v2,v3,ts,v8,e,h1,h2.up hb fun _ _ _ h=>h.up hb,h3.up hb fun _ _ _ h=>h.up hb,h4.up hb,h5.up hb fun _ _ _ h=>h.up hb⟩
theorem CrtAt.up {n:Nat} {K:Ctx} {w:World} {cs:List Value} {t:Crt} (h:CrtAt n K w cs t) {C:Nat} (hb:K.C<=C):CrtAt n (K.up C) w cs t:=by
 obtain ⟨v0,v1,e,h1,h2⟩:=h;exact ⟨v0,v1,e,h1.up hb fun _ _ _ h=>h.up hb,h2.up hb fun _ _ _ h=>h.up hb⟩
end Go.Proofs.YtjenmmkamhplkaaGreat

namespace Go.Proofs.YtjenmmkamhplkaaGreat
open Go.RowKit
theorem isDigit_any (c:UInt8) (w:World):Calls Tryz.prog 106 #[.int .u8 (c.toNat:Int)] w fun ev w'=>ev=.returned (.bool (isDg c))/\w'=w:=by
  obtain ⟨B,hB⟩:∃ B,isDg c=B:=⟨_,rfl⟩
  rw [hB]
  unfold isDg at hB
  generalize c.toNat=n at *
  by_cases h1:48<=n <;> by_cases h2:n<=57 <;> (try omega) <;> simp [h1,h2] at hB <;> subst hB <;> (go_enter Tryz.func106,Tryz.ntmps106;go_wp2_with fail;go_ret;first|exact ⟨rfl,rfl⟩|(refine ⟨?_,rfl⟩;simp;omega)|(refine ⟨?_,rfl⟩;simp [*]))
theorem xdigit_any (c:UInt8) (w:World):Calls Tryz.prog 121 #[.int .u8 (c.toNat:Int)] w fun ev w'=>ev=.returned (.bool (isDg c))/\w'=w:=by
  obtain ⟨B,hB⟩:∃ B,isDg c=B:=⟨_,rfl⟩
  rw [hB]
  unfold isDg at hB
  generalize c.toNat=n at *
  by_cases h1:48<=n <;> by_cases h2:n<=57 <;> (try omega) <;> simp [h1,h2] at hB <;> subst hB <;> (go_enter Tryz.func121,Tryz.ntmps121;go_wp2_with fail;go_ret;first|exact ⟨rfl,rfl⟩|(refine ⟨?_,rfl⟩;simp;omega)|(refine ⟨?_,rfl⟩;simp [*]))
theorem letter_any (c:UInt8) (w:World):Calls Tryz.prog 89 #[.int .u8 (c.toNat:Int)] w fun ev w'=>ev=.returned (.bool (isLt c))/\w'=w:=by
  obtain ⟨B,hB⟩:∃ B,isLt c=B:=⟨_,rfl⟩
  rw [hB]
  unfold isLt at hB
  generalize c.toNat=n at *
  by_cases h1:97<=n <;> by_cases h2:n<=122 <;> by_cases h3:65<=n <;> by_cases h4:n<=90 <;> (try omega) <;> by_cases h5:n=95 <;> (try omega) <;>
    (have h5':(n:Int)=95∨(n:Int)≠95:=by omega
     rcases h5' with h5'|h5' <;> (try omega) <;> simp [h1,h2,h3,h4,h5] at hB <;> subst hB <;> (try subst h5) <;> (go_enter Tryz.func89,Tryz.ntmps89;go_wp2_with fail;go_ret;first|exact ⟨rfl,rfl⟩|(refine ⟨?_,rfl⟩;simp;omega)|(refine ⟨?_,rfl⟩;simp [*])))
theorem isNameByte_any (c:UInt8) (w:World):Calls Tryz.prog 125 #[.int .u8 (c.toNat:Int)] w fun ev w'=>ev=.returned (.bool (isNm c))/\w'=w:=by
  have D:=isDigit_any c w
  obtain ⟨B,hB⟩:∃ B,isNm c=B:=⟨_,rfl⟩
  rw [hB]
  obtain ⟨I,hI⟩:∃ I,isDg c=I:=⟨_,rfl⟩
  unfold isNm at hB
  rw [hI] at hB D
  unfold isLt at hB
  clear hI
  generalize c.toNat=n at *
  by_cases h1:97<=n <;> by_cases h2:n<=122 <;> by_cases h3:65<=n <;> by_cases h4:n<=90 <;> (try omega) <;> by_cases h5:n=95 <;> (try omega) <;>
    (have h5':(n:Int)=95∨(n:Int)≠95:=by omega
     rcases h5' with h5'|h5' <;> (try omega) <;> simp [h1,h2,h3,h4,h5] at hB <;> subst hB <;> (try subst h5) <;> (go_enter Tryz.func125,Tryz.ntmps125;first|(go_wp2_with fail;go_ret;first|exact ⟨rfl,rfl⟩|(refine ⟨?_,rfl⟩;simp;omega)|(refine ⟨?_,rfl⟩;simp [*]))|(go_wp2_with fail;refine D.mono ?_;rintro ev w' ⟨rfl,rfl⟩;go_wp2_with fail;go_ret;first|exact ⟨rfl,rfl⟩|(refine ⟨?_,rfl⟩;simp;omega)|(refine ⟨?_,rfl⟩;simp [*]))))
end Go.Proofs.YtjenmmkamhplkaaGreat

namespace Go.Proofs.YtjenmmkamhplkaaGreat
open Go.RowKit
set_option maxHeartbeats 4000000
set_option maxRecDepth 20000
theorem run_drop:∀ (l:List UInt8) (k:Nat),k<=runL l->runL l=k+runL (l.drop k)
 | l,0,_=>by simp
 | [],k+1,h=>by simp [runL] at h
 | c :: t,k+1,h=>by
  simp only [runL] at h ⊢
  split at h
  ·rename_i hc
   rw [if_pos hc,run_drop t k (by omega)]
   simp;omega
  ·omega
theorem drop_cons (l:List UInt8) (k:Nat) (h:k<l.length):l.drop k=l.getD k 0 :: l.drop (k+1):=by
 rw [List.drop_eq_getElem_cons h]
 simp [List.getD,List.getElem?_eq_getElem h]
theorem run_at (l:List UInt8) (k:Nat) (h:k<l.length):runL (l.drop k)=if isNm (l.getD k 0) then runL (l.drop (k+1))+1 else 0:=by
 rw [drop_cons l k h];rfl
theorem runSize_any (l:List UInt8) (hl:l.length<=9223372036854775807) (w:World):Calls Tryz.prog 105 #[.string (str l)] w fun ev w'=>ev=.returned (.int .i64 (runL l:Int))/\w'=w:=by
 have HM:Hid (∀ k,k<l.length->∀ y,Calls Tryz.prog 125 #[.int .u8 ((l.getD k 0).toNat:Int)] y fun ev w'=>ev=.returned (.bool (isNm (l.getD k 0)))/\w'=y):=fun k _ y=>isNameByte_any _ y
 obtain ⟨S,hS⟩:∃ S,S=str l:=⟨_,rfl⟩
 have hSs:S.size=l.length:=by rw [hS,str_size]
 have HX:Hid (∀ k (h:k<S.size),(S[k]'h).toNat=(l.getD k 0).toNat):=by
  intro k h
  subst hS
  rw [str_at]
 rw [← hS]
 clear hS
 go_enter Tryz.func105,Tryz.ntmps105
 go_wp2_with fail
 go_loopw [3] (fun i wr=>∃ k:Nat,k<=runL l/\k<=l.length/\i=.int .i64 k/\wr=w) (fun i _=>l.length - (intOf i).toNat)
 case atStart=>exact ⟨0,by omega,by omega,rfl,rfl⟩
 case round =>
  obtain ⟨k,hk,hkl,rfl,rfl⟩:=hrel
  by_cases h3:k<l.length
  ·have hkS:k<S.size:=by omega
   have hx:=HX.out k hkS
   have D:=HM.out k h3 wr
   have HR:=run_drop l k hk
   rw [run_at l k h3] at HR
   cases hd:isNm (l.getD k 0)
   ·rw [hd] at D HR
    have HP:Hid (runL l=k):=by show runL l=k;simpa using HR
    clear HR hd hk
    generalize (l.getD k 0).toNat=x at *
    go_wp2_with fail
    refine D.mono ?_
    rintro ev w2 ⟨rfl,rfl⟩
    go_wp2_with fail
    go_ret
    exact ⟨by rw [HP.out];rfl,rfl⟩
   ·rw [hd] at D HR
    have HP:Hid (k+1<=runL l):=by rw [if_pos rfl] at HR;show k+1<=runL l;omega
    clear HR hd hk
    generalize (l.getD k 0).toNat=x at *
    go_wp2_with fail
    refine D.mono ?_
    rintro ev w2 ⟨rfl,rfl⟩
    go_wp2_with fail
    go_roundw
    case rel=>exact ⟨k+1,HP.out,by omega,by go_num,by trivial⟩
    case measure=>simp [intOf];omega
  ·have HP:Hid (runL l=k):=by have:=runL_le l;show runL l=k;omega
   have hkk:(k:Int)=(l.length:Int):=by omega
   obtain rfl:k=l.length:=by omega
   clear HX HM hk hkk
   go_wp2_with fail
   go_ret
   refine ⟨by rw [HP.out];rfl,?_⟩
   trivial
theorem xrun_any (l:List UInt8) (p:Nat) (hp:p<=l.length) (hl:l.length<=9223372036854775807) (w:World):Calls Tryz.prog 90 #[.string (str l),.int .i64 (p:Int)] w fun ev w'=>ev=.returned (.int .i64 ((p+runL (l.drop p):Nat):Int))/\w'=w:=by
 have HL:Hid (∀ k,k<l.length->∀ y,Calls Tryz.prog 89 #[.int .u8 ((l.getD k 0).toNat:Int)] y fun ev w'=>ev=.returned (.bool (isLt (l.getD k 0)))/\w'=y):=fun k _ y=>letter_any _ y
 have HD:Hid (∀ k,k<l.length->∀ y,Calls Tryz.prog 121 #[.int .u8 ((l.getD k 0).toNat:Int)] y fun ev w'=>ev=.returned (.bool (isDg (l.getD k 0)))/\w'=y):=fun k _ y=>xdigit_any _ y
 obtain ⟨S,hS⟩:∃ S,S=str l:=⟨_,rfl⟩
 have hSs:S.size=l.length:=by rw [hS,str_size]
 have HX:Hid (∀ k (h:k<S.size),(S[k]'h).toNat=(l.getD k 0).toNat):=by
  intro k h
  subst hS
  rw [str_at]
 rw [← hS]
 clear hS
 obtain ⟨R,hR⟩:∃ R,p+runL (l.drop p)=R:=⟨_,rfl⟩
 have HR:Hid (p+runL (l.drop p)=R):=hR
 rw [hR]
 clear hR
 go_enter Tryz.func90,Tryz.ntmps90
 go_wp2_with fail
 go_loopw [1] (fun i wr=>∃ k:Nat,k<=l.length/\k+runL (l.drop k)=R/\i=.int .i64 k/\wr=w) (fun i _=>l.length - (intOf i).toNat)
 case atStart=>exact ⟨p,hp,HR.out,rfl,rfl⟩
 case round =>
  obtain ⟨k,hkl,hk,rfl,rfl⟩:=hrel
  clear HR
  by_cases h3:k<l.length
  ·have hkS:k<S.size:=by omega
   have hx:=HX.out k hkS
   have D1:=HL.out k h3 wr
   have D2:=HD.out k h3 wr
   rw [run_at l k h3] at hk
   unfold isNm at hk
   clear HX HL HD
   cases h1:isLt (l.getD k 0)
   ·rw [h1] at D1 hk
    cases hd:isDg (l.getD k 0)
    ·rw [hd] at D2 hk
     have HP:Hid (R=k):=by show R=k;simpa using hk.symm
     clear hk hd h1
     generalize (l.getD k 0).toNat=x at *
     go_wp2_with fail
     refine D1.mono ?_
     rintro ev w2 ⟨rfl,rfl⟩
     go_wp2_with fail
     refine D2.mono ?_
     rintro ev w2 ⟨rfl,rfl⟩
     go_wp2_with fail
     go_ret
     refine ⟨by rw [HP.out];rfl,?_⟩
     trivial
    ·rw [hd] at D2 hk
     have HP:Hid (k+1+runL (l.drop (k+1))=R):=by show _=R;simp at hk;omega
     clear hk hd h1
     generalize (l.getD k 0).toNat=x at *
     go_wp2_with fail
     refine D1.mono ?_
     rintro ev w2 ⟨rfl,rfl⟩
     go_wp2_with fail
     refine D2.mono ?_
     rintro ev w2 ⟨rfl,rfl⟩
     go_wp2_with fail
     go_roundw
     case rel=>exact ⟨k+1,by omega,HP.out,by go_num,by trivial⟩
     case measure=>simp [intOf];omega
   ·rw [h1] at D1 hk
    have HP:Hid (k+1+runL (l.drop (k+1))=R):=by show _=R;simp at hk;omega
    clear hk h1 D2
    generalize (l.getD k 0).toNat=x at *
    go_wp2_with fail
    refine D1.mono ?_
    rintro ev w2 ⟨rfl,rfl⟩
    go_wp2_with fail
    go_roundw
    case rel=>exact ⟨k+1,by omega,HP.out,by go_num,by trivial⟩
    case measure=>simp [intOf];omega
  ·obtain rfl:k=l.length:=by omega
   have HP:Hid (R=l.length):=by show R=l.length;simpa [runL] using hk.symm
   clear HX HL HD hk
   go_wp2_with fail
   go_ret
   refine ⟨by rw [HP.out];rfl,?_⟩
   trivial
def nameF (l:List UInt8):Nat:=if runL l=0∨32<runL l∨isDg (l.getD 0 0)=true then 0 else runL l
theorem nameSize_any (l:List UInt8) (hl:l.length<=9223372036854775807) (w:World):Calls Tryz.prog 80 #[.string (str l)] w fun ev w'=>ev=.returned (.int .i64 (nameF l:Int))/\w'=w:=by
 have R:=runSize_any l hl w
 have hrl:=runL_le l
 obtain ⟨N,hN⟩:∃ N,nameF l=N:=⟨_,rfl⟩
 rw [hN]
 unfold nameF at hN
 by_cases h0:runL l=0
 ·rw [if_pos (.inl h0)] at hN
  subst hN
  rw [h0] at R
  clear hrl h0
  generalize str l=S at *
  go_enter Tryz.func80,Tryz.ntmps80
  go_wp2_with fail
  refine R.mono ?_
  rintro ev w2 ⟨rfl,rfl⟩
  go_wp2_with fail
  go_ret
  exact ⟨rfl,rfl⟩
 ·by_cases h1:32<runL l
  ·rw [if_pos (.inr (.inl h1))] at hN
   subst hN
   have h0':(runL l:Int)≠0:=by omega
   have h1':(32:Int)<(runL l:Int):=by omega
   generalize runL l=r,str l=S at *
   go_enter Tryz.func80,Tryz.ntmps80
   go_wp2_with fail
   refine R.mono ?_
   rintro ev w2 ⟨rfl,rfl⟩
   go_wp2_with fail
   go_ret
   exact ⟨rfl,rfl⟩
  ·have D:=isDigit_any (l.getD 0 0) w
   have hz:0<(str l).size:=by rw [str_size];omega
   have hx:((str l)[0]'hz).toNat=(l.getD 0 0).toNat:=by rw [str_at]
   have h0':(runL l:Int)≠0:=by omega
   have h1':¬ (32:Int)<(runL l:Int):=by omega
   have b0:((runL l:Int) == 0)=false:=by simpa using h0
   have b1:decide ((32:Int)<(runL l:Int))=false:=by simp;omega
   have b2:(((runL l:Int) == 0) || decide ((32:Int)<(runL l:Int)))=false:=by rw [b0,b1];rfl
   obtain ⟨S,hS⟩:∃ S,S=str l:=⟨_,rfl⟩
   obtain ⟨hz',hx'⟩:∃ hz':0<S.size,(S[0]'hz').toNat=(l.getD 0 0).toNat:=by rw [hS];exact ⟨hz,hx⟩
   rw [← hS] at R ⊢
   clear hS hx hz
   cases hd:isDg (l.getD 0 0)
   ·rw [hd] at D
    rw [if_neg (fun h=>by rcases h with h|h|h;exact h0 h;exact h1 h;rw [hd] at h;cases h)] at hN
    subst hN
    clear hrl hd
    generalize (l.getD 0 0).toNat=x,runL l=r at *
    go_enter Tryz.func80,Tryz.ntmps80
    go_wp2_with fail
    refine R.mono ?_
    rintro ev w2 ⟨rfl,rfl⟩
    go_wp2_with fail
    refine D.mono ?_
    rintro ev w2 ⟨rfl,rfl⟩
    go_wp2_with fail
    go_ret
    exact ⟨rfl,rfl⟩
   ·rw [hd] at D
    rw [if_pos (.inr (.inr hd))] at hN
    subst hN
    clear hrl hd
    generalize (l.getD 0 0).toNat=x,runL l=r at *
    go_enter Tryz.func80,Tryz.ntmps80
    go_wp2_with fail
    refine R.mono ?_
    rintro ev w2 ⟨rfl,rfl⟩
    go_wp2_with fail
    refine D.mono ?_
    rintro ev w2 ⟨rfl,rfl⟩
    go_wp2_with fail
    go_ret
    exact ⟨rfl,rfl⟩
end Go.Proofs.YtjenmmkamhplkaaGreat
