/- Part of the proof. -/
import Derived.Test.YtjenmmkamhplkaaGreatQqspSls
import Derived.Shelf.LaysM
import Derived.Shelf.Strconv.Clone
import Derived.Shelf.Strings.Search1
import Derived.Shelf.Strings.Search2
import Derived.Shelf.Strings.Cut
import Derived.Shelf.Strings.Shaped
import Derived.Test.YtjenmmkamhplkaaGreatJqspMat6
import Derived.Test.YtjenmmkamhplkaaGreatJqspWor4
namespace Go.Proofs.YtjenmmkamhplkaaGreat
open Go.RowKit
theorem Below.drewN (C:Nat) (w:World) (n:Nat):Below C w (w.drewN n):=⟨rfl,rfl,rfl,Nat.le_refl _,fun _ _=>rfl⟩
theorem sub_of (A ts R:List Value) {k:Nat} (hk:A.length=k) (j:Nat) (hj:j<ts.length):(A ++ (ts ++ R))[k+j]?=ts[j]?:=by
 rw [List.getElem?_append_right (by omega),show k+j - A.length=j by omega,List.getElem?_append_left hj]
theorem part_at {w:World} {b o z:Nat} {cs:List Value} (hc:∀ j,j<z->w.cell? ⟨b,o+j,none⟩=cs[j]?) (A ts R:List Value) {k n:Nat} (hk:A.length=k) (hn:ts.length=n) (hz:k+n<=z) (e:cs=A ++ (ts ++ R)) :
  ∀ j,j<n->w.cell? ⟨b,o+k+j,none⟩=ts[j]?:=fun j hj=>by
 rw [Nat.add_assoc,hc (k+j) (by omega),e]
 exact sub_of A ts R hk j (by omega)
theorem TyAt.len:∀ {n:Nat} {K:Ctx} {w:World} {cs:List Value} {t:Ty},TyAt n K w cs t->cs.length=4
 | 0,_,_,_,_,h=>h.elim
 | _+1,_,_,_,_,h=>by obtain ⟨v2,v3,rfl,_⟩:=h;rfl
theorem IsTy.len {K:Ctx} {w:World} {cs:List Value} {t:Ty} (h:IsTy K w cs t):cs.length=4:=by obtain ⟨n,h⟩:=h;exact h.len
theorem PlAt.len {K:Ctx} {w:World} {cs:List Value} {t:Pl} (h:PlAt K w cs t):cs.length=2:=by obtain ⟨v,rfl,_⟩:=h;rfl
theorem OprAt.len {K:Ctx} {w:World} {cs:List Value} {t:Opr} (h:OprAt K w cs t):cs.length=4:=by obtain ⟨ps,rfl,h⟩:=h;simp [h.len]
theorem VaAt.len {K:Ctx} {w:World} {cs:List Value} {t:Va} (h:VaAt K w cs t):cs.length=15:=by
 obtain ⟨xa,xb,ps,vn,va,rfl,h1,h2,h3,_⟩:=h;simp [h1.len,h2.len,h3.len]
theorem StAt.len:∀ {n:Nat} {K:Ctx} {w:World} {cs:List Value} {t:St},StAt n K w cs t->cs.length=32
 | 0,_,_,_,_,h=>h.elim
 | _+1,_,_,_,_,h=>by obtain ⟨ts,ps,vs,os,vt,ve,rfl,_,h1,h2,h3,h4,_⟩:=h;simp [h1.len,h2.len,h3.len,h4.len]
theorem LfeAt.len {K:Ctx} {w:World} {cs:List Value} {t:Lfe} (h:LfeAt K w cs t):cs.length=2:=by obtain ⟨v,rfl,_⟩:=h;rfl
theorem FldAt.len {K:Ctx} {w:World} {cs:List Value} {t:Fld} (h:FldAt K w cs t):cs.length=6:=by obtain ⟨v,rfl,_,h⟩:=h;simp [h.len]
theorem SctAt.len {K:Ctx} {w:World} {cs:List Value} {t:Sct} (h:SctAt K w cs t):cs.length=5:=by obtain ⟨v,v',rfl,_⟩:=h;rfl
theorem FncAt.len {n:Nat} {K:Ctx} {w:World} {cs:List Value} {t:Fnc} (h:FncAt n K w cs t):cs.length=10:=by
 obtain ⟨v2,v3,ts,v8,rfl,_,_,_,h,_⟩:=h;simp [h.len]
end Go.Proofs.YtjenmmkamhplkaaGreat

namespace Go.Proofs.YtjenmmkamhplkaaGreat
open Go.Shelf
def Tryz.laysM316_ren : Go.Shelf.Ren := ⟨fun | 316 => 79 | n => n, fun | 9 => 9 | 3 => 3 | 4 => 4 | 37 => 147 | 0 => 0 | 127 => 148 | 5 => 5 | n => n, fun | n => n⟩
theorem Tryz.laysM316 : Go.Proofs.LaysM.n316 Tryz.prog Tryz.laysM316_ren := {
  mixed := by kernel_rfl
  f316 := Tryz.func79.trans (congrArg some (by kernel_rfl))
  t0 := Tryz.underlying0
  a0 := Tryz.isAgg0
  z0 := Tryz.sizeOf0
  v0 := Tryz.zeroValue0
  t3 := Tryz.underlying3
  a3 := Tryz.isAgg3
  z3 := Tryz.sizeOf3
  v3 := Tryz.zeroValue3
  t4 := Tryz.underlying4
  a4 := Tryz.isAgg4
  z4 := Tryz.sizeOf4
  v4 := Tryz.zeroValue4
  t9 := Tryz.underlying9
  a9 := Tryz.isAgg9
  z9 := Tryz.sizeOf9
  v9 := Tryz.zeroValue9
  t37 := Tryz.underlying147
  a37 := Tryz.isAgg147
  z37 := Tryz.sizeOf147
  v37 := Tryz.zeroValue147
  t127 := Tryz.underlying148
  a127 := Tryz.isAgg148
  z127 := Tryz.sizeOf148
  v127 := Tryz.zeroValue148
  t5 := Tryz.underlying5
  a5 := Tryz.isAgg5
  z5 := Tryz.sizeOf5
  v5 := Tryz.zeroValue5
  i0 := by kernel_rfl
  i3 := by kernel_rfl
  i4 := by kernel_rfl
  i5 := by kernel_rfl
  i9 := by kernel_rfl
  i37 := by kernel_rfl
  i127 := by kernel_rfl }
open Go.RowKit in
theorem Tryz.stringslite_Clone (s : ByteArray) (w : World) (hlim : s.size <= 281474976710656) :
    Calls Tryz.prog 79 #[.string s] w fun e w' => e = .returned (.string s) /\ Below w.heap.size w w' := Any.stringslite_Clone Tryz.laysM316 s w hlim
def Tryz.lays145_ren : Go.Shelf.Ren := ⟨fun | 145 => 126 | 220 => 131 | 219 => 133 | 217 => 134 | 225 => 135 | 224 => 136 | 267 => 137 | 266 => 138 | 314 => 139 | n => n, fun | 9 => 9 | 4 => 4 | 59 => 161 | 3 => 3 | 5 => 5 | 46 => 170 | 146 => 172 | 51 => 171 | n => n, fun | 1 => 0 | n => n⟩
theorem Tryz.lays145 : Go.Proofs.Lays.n145 Tryz.prog Tryz.lays145_ren := {
  mixed := by kernel_rfl
  f145 := Tryz.func126.trans (congrArg some (by kernel_rfl))
  f217 := Tryz.func134.trans (congrArg some (by kernel_rfl))
  f219 := Tryz.func133.trans (congrArg some (by kernel_rfl))
  f220 := Tryz.func131.trans (congrArg some (by kernel_rfl))
  f224 := Tryz.func136.trans (congrArg some (by kernel_rfl))
  f225 := Tryz.func135.trans (congrArg some (by kernel_rfl))
  f266 := Tryz.func138.trans (congrArg some (by kernel_rfl))
  f267 := Tryz.func137.trans (congrArg some (by kernel_rfl))
  f314 := Tryz.func139.trans (congrArg some (by kernel_rfl))
  t3 := Tryz.underlying3
  a3 := Tryz.isAgg3
  z3 := Tryz.sizeOf3
  v3 := Tryz.zeroValue3
  t4 := Tryz.underlying4
  a4 := Tryz.isAgg4
  z4 := Tryz.sizeOf4
  v4 := Tryz.zeroValue4
  t5 := Tryz.underlying5
  a5 := Tryz.isAgg5
  z5 := Tryz.sizeOf5
  v5 := Tryz.zeroValue5
  t9 := Tryz.underlying9
  a9 := Tryz.isAgg9
  z9 := Tryz.sizeOf9
  v9 := Tryz.zeroValue9
  t46 := Tryz.underlying170
  a46 := Tryz.isAgg170
  z46 := Tryz.sizeOf170
  v46 := Tryz.zeroValue170
  t51 := Tryz.underlying171
  a51 := Tryz.isAgg171
  z51 := Tryz.sizeOf171
  v51 := Tryz.zeroValue171
  t59 := Tryz.underlying161
  a59 := Tryz.isAgg161
  z59 := Tryz.sizeOf161
  v59 := Tryz.zeroValue161
  t146 := Tryz.underlying172
  a146 := Tryz.isAgg172
  z146 := Tryz.sizeOf172
  v146 := Tryz.zeroValue172
  g1 := by kernel_rfl }
open Go.RowKit Go.Lib in
theorem Tryz.strings_Cut (s sep : ByteArray) (m : Int) (w : World) (hs : s.size < 4294967281) (hm : w.cell? ⟨0, 0, none⟩ = some (.int .i64 m)) :
    Calls Tryz.prog 126 #[.string s, .string sep] w fun e w' => e = .returned (.tuple #[.string ⟨(Lib.cut s.data.toList sep.data.toList).1.toArray⟩, .string ⟨(Lib.cut s.data.toList sep.data.toList).2.1.toArray⟩, .bool (Lib.cut s.data.toList sep.data.toList).2.2]) /\ ∃ n, w' = w.drewN n := Any.strings_Cut Tryz.lays145 s sep m w hs hm
def Tryz.laysM145_ren : Go.Shelf.Ren := ⟨fun | 145 => 126 | 220 => 131 | 219 => 133 | 217 => 134 | 225 => 135 | 224 => 136 | 267 => 137 | 266 => 138 | 314 => 139 | n => n, fun | 9 => 9 | 4 => 4 | 59 => 161 | 3 => 3 | 5 => 5 | 46 => 170 | 146 => 172 | 51 => 171 | n => n, fun | 1 => 0 | n => n⟩
end Go.Proofs.YtjenmmkamhplkaaGreat

namespace Go.Proofs.YtjenmmkamhplkaaGreat
open Go.RowKit
structure Stay (X:Nat->Prop) (w w':World):Prop where
 os:w'.os=w.os
 tape:w'.tape=w.tape
 output:w'.output=w.output
 size:w.heap.size<=w'.heap.size
 block:∀ k,k<w.heap.size->¬ X k->w'.heap[k]?=w.heap[k]?
theorem Stay.refl (X:Nat->Prop) (w:World):Stay X w w:=⟨rfl,rfl,rfl,Nat.le_refl _,fun _ _ _=>rfl⟩
theorem Stay.step {X Y:Nat->Prop} {a b c:World} (h:Stay X a b) (k:Stay Y b c) (hy:∀ i,i<a.heap.size->Y i->X i):Stay X a c :=
 ⟨k.os.trans h.os,k.tape.trans h.tape,k.output.trans h.output,Nat.le_trans h.size k.size,fun i hi hn =>
  (k.block i (Nat.lt_of_lt_of_le hi h.size) (fun hY=>hn (hy i hi hY))).trans (h.block i hi hn)⟩
theorem Stay.trans {X:Nat->Prop} {a b c:World} (h:Stay X a b) (k:Stay X b c):Stay X a c:=h.step k fun _ _ h=>h
theorem Stay.of_below {X:Nat->Prop} {w w':World} (h:Below w.heap.size w w'):Stay X w w':=⟨h.os,h.tape,h.output,h.size,fun k hk _=>h.block k hk⟩
theorem Stay.below {X:Nat->Prop} {w w':World} (h:Stay X w w') {C:Nat} (hC:C<=w.heap.size) (hX:∀ k,X k->C<=k):Below C w w' :=
 ⟨h.os,h.tape,h.output,h.size,fun k hk=>h.block k (by omega) (fun hx=>by have:=hX k hx;omega)⟩
theorem Stay.row {X:Nat->Prop} {w w':World} (h:Stay X w w') {g t:Nat} {L:List Value} (hr:Row w g t L) (hg:¬ X g):Row w' g t L :=
 ⟨(h.block g hr.lt hg).trans hr.heap⟩
theorem Stay.alloc {X:Nat->Prop} {a w:World} (h:Stay X a w) (o:Obj):Stay X a (w.alloc o):=h.trans (Stay.of_below ((Below.refl _ _).alloc (Nat.le_refl _) _))
theorem Stay.drew {X:Nat->Prop} {a w:World} (h:Stay X a w):Stay X a w.drew:=⟨h.os,h.tape,h.output,h.size,h.block⟩
theorem Stay.drewN {X:Nat->Prop} {a w:World} (h:Stay X a w) (n:Nat):Stay X a (w.drewN n):=⟨h.os,h.tape,h.output,h.size,h.block⟩
theorem Stay.set {X:Nat->Prop} {a w:World} (h:Stay X a w) {g:Nat} (hg:g<a.heap.size->X g) (j:Nat) (v:Value):Stay X a (w.setCell ⟨g,j,none⟩ v):=by
 refine ⟨h.os,h.tape,h.output,?_,fun k hk hx=>?_⟩
 ·have:=h.size
  have e:(w.setCell ⟨g,j,none⟩ v).heap.size=w.heap.size:=by simp [World.setCell]
  omega
 ·rw [heap_setCell_other w ⟨g,j,none⟩ k v (by rintro rfl;exact hx (hg hk))]
  exact h.block k hk hx
theorem below_le {C D:Nat} {w w':World} (h:Below D w w') (hC:C<=D):Below C w w':=⟨h.os,h.tape,h.output,h.size,fun k hk=>h.block k (by omega)⟩
theorem Row.alloc {w:World} {g t:Nat} {L:List Value} (h:Row w g t L) (o:Obj):Row (w.alloc o) g t L:=(Stay.alloc (Stay.refl (fun _=>False) w) o).row h (fun h=>h)
theorem Row.cells {w:World} {g t:Nat} {L:List Value} (h:Row w g t L) (z:Nat):∀ j,j<z->w.cell? ⟨g,0+j,none⟩=L[j]?:=fun j _=>by rw [Nat.zero_add];exact h.cell j
structure Env (K:Ctx) (w:World):Prop where
 C:K.C<=w.heap.size
 z:0<K.C
 ml:∃ m,w.cell? ⟨0,0,none⟩=some (.int .i64 m)
 B:K.B<=1048576
theorem Env.below {K:Ctx} {w w':World} (h:Env K w) (hb:Below K.C w w'):Env K w':=by
 refine ⟨Nat.le_trans h.C hb.size,h.z,?_,h.B⟩
 obtain ⟨m,hm⟩:=h.ml
 exact ⟨m,(hb.cell (p:=⟨0,0,none⟩) h.z).trans hm⟩
theorem nil_ar {α:Type} {z bz:Nat} {P:List Value->α->Prop} {K:Ctx} {w:World}:Ar z bz P K w (.slice none 0 0) []:=⟨none,0,rfl,Nat.le_refl _,by simp,fun _ h=>by cases h⟩
def Ty.zero:Ty:=⟨0,[],[],[]⟩
def Pl.zero:Pl:=⟨[],[]⟩
def Opr.zero:Opr:=⟨0,0,Pl.zero⟩
def Va.zero:Va:=⟨0,Opr.zero,Opr.zero,0,Pl.zero,[],[],[]⟩
def tyCells (k:Int):List Value:=[.int .i64 k,.string (str []),.slice none 0 0,.slice none 0 0]
theorem kind_at (K:Ctx) (w:World) (k:Int):IsTy K w (tyCells k) ⟨k,[],[],[]⟩:=⟨1,_,_,rfl,by simp,nil_ar,nil_ar⟩
def plCells:List Value:=[.string (str []),.slice none 0 0]
theorem pl_zero (K:Ctx) (w:World):PlAt K w plCells Pl.zero:=⟨_,rfl,by simp [Pl.zero],nil_ar⟩
def oprCells:List Value:=[.int .i64 0,.int .i64 0,.string (str []),.slice none 0 0]
theorem opr_zero (K:Ctx) (w:World):OprAt K w oprCells Opr.zero:=⟨_,rfl,pl_zero K w⟩
def vaCells (k:Int):List Value:=.int .i64 k :: (oprCells ++ (oprCells ++ (.int .i64 0 :: (plCells ++ [.string (str []),.slice none 0 0,.slice none 0 0]))))
theorem va_zero (K:Ctx) (w:World) (k:Int):VaAt K w (vaCells k) { Va.zero with kind:=k }:=⟨_,_,_,_,_,rfl,opr_zero K w,opr_zero K w,pl_zero K w,by simp [Va.zero],nil_ar,nil_ar⟩
def stCells (k p:Int):List Value:=.int .i64 k :: .int .i64 p :: .bool false :: .string (str []) :: (tyCells 0 ++ (.bool false :: (plCells ++ (vaCells 0 ++ (oprCells ++ [.slice none 0 0,.slice none 0 0])))))
def St.bare (k p:Int):St:=⟨k,p,false,[],Ty.zero,false,Pl.zero,Va.zero,Opr.zero,[],[]⟩
theorem st_zero (n:Nat) (K:Ctx) (w:World) (k p:Int):StAt (n+1) K w (stCells k p) (St.bare k p) :=
 ⟨_,_,_,_,_,_,rfl,by simp [St.bare],kind_at K w 0,pl_zero K w,va_zero K w 0,opr_zero K w,nil_ar,nil_ar⟩
end Go.Proofs.YtjenmmkamhplkaaGreat

namespace Go.Proofs.YtjenmmkamhplkaaGreat
open Go.RowKit
theorem setRow_alloc (w:World) (t:TypeId) (old cells:Array Value):(w.alloc (.cells old t)).setRow w.heap.size cells=w.alloc (.cells cells t):=by
 unfold World.setRow World.alloc
 simp only
 congr 1
 apply Array.ext
 ·simp
 ·intro i h1 h2
  rw [Array.getElem_modify]
  simp only [Array.size_modify,Array.size_push] at h1
  by_cases hi:w.heap.size=i
  ·subst hi;simp
  ·rw [if_neg hi]
   have hlt:i<w.heap.size:=by omega
   rw [Array.getElem_push_lt hlt,Array.getElem_push_lt hlt]
theorem store_new {P:Program} {ops:Array Oper} {rest:List Oper} {o:Oper} {a:Act} {w:World} {Q:Exit->Act->World->Prop} (hgd:o.guard=none) (ty:TypeId) (x y:Operand) (ho:o.op=.store ty x y)
  (cells old:Array Value) (t:TypeId) (hx:a.eval x=.pointer (some ⟨w.heap.size,0,none⟩)) (hy:a.eval y=.agg cells) (hi:(P.info? ty).map (·.size)=some cells.size)
  (hold:old.size=cells.size) (h1:cells.all (·.oneCell')=true)
  (h:wpList P ops Q rest (a.put o.dst undef) (w.alloc (.cells cells t))):wpList P ops Q (o :: rest) a (w.alloc (.cells old t)):=by
 refine wpList_store_row hgd ty x y ho w.heap.size cells hx hy t old (heap_alloc_new w _) hi hold h1 ?_
 rw [setRow_alloc];exact h
theorem load_new {P:Program} {ops:Array Oper} {rest:List Oper} {o:Oper} {a:Act} {w:World} {Q:Exit->Act->World->Prop} (hgd:o.guard=none) (ty:TypeId) (x:Operand) (ho:o.op=.load ty x)
  (cs:List Value) (t:TypeId) (d:TypeDesc) (hx:a.eval x=.pointer (some ⟨w.heap.size,0,none⟩)) (hu:P.underlying ty=some d) (hd:d.isRow=true) (hi:(P.info? ty).map (·.size)=some cs.length)
  (h:wpList P ops Q rest (a.put o.dst (.agg cs.toArray)) (w.alloc (.cells cs.toArray t))):wpList P ops Q (o :: rest) a (w.alloc (.cells cs.toArray t)) :=
 wpList_load_mid hgd ty x ho w.heap.size 0 hx cs d (Row.new w t cs).range hu hd hi h
theorem one_mem {cs:List Value} (h:∀ u∈cs,u.oneCell'=true):cs.toArray.all (·.oneCell')=true:=all_one h
theorem Ar.one {α:Type} {z bz:Nat} {P:List Value->α->Prop} {K:Ctx} {w:World} {v:Value} {l:List α} (h:Ar z bz P K w v l):v.oneCell'=true:=by
 obtain ⟨ao,cap,rfl,_⟩:=h.shape;rfl
theorem ones_nil:∀ u∈([]:List Value),u.oneCell'=true:=fun _ h=>by cases h
theorem ones_cons {v:Value} {l:List Value} (h:v.oneCell'=true) (hl:∀ u∈l,u.oneCell'=true):∀ u∈v :: l,u.oneCell'=true:=by
 intro u hu
 rcases List.mem_cons.1 hu with rfl|h'
 ·exact h
 ·exact hl u h'
theorem ones_app {a b:List Value} (h:∀ u∈a,u.oneCell'=true) (hl:∀ u∈b,u.oneCell'=true):∀ u∈a ++ b,u.oneCell'=true:=by
 intro u hu
 rcases List.mem_append.1 hu with h'|h'
 ·exact h u h'
 ·exact hl u h'
theorem TyAt.one:∀ {n:Nat} {K:Ctx} {w:World} {cs:List Value} {t:Ty},TyAt n K w cs t->∀ u∈cs,u.oneCell'=true
 | 0,_,_,_,_,h=>h.elim
 | _+1,_,_,_,_,h=>by obtain ⟨v2,v3,rfl,_,h1,h2⟩:=h;exact ones_cons rfl (ones_cons rfl (ones_cons h1.one (ones_cons h2.one ones_nil)))
theorem IsTy.one {K:Ctx} {w:World} {cs:List Value} {t:Ty} (h:IsTy K w cs t):∀ u∈cs,u.oneCell'=true:=by obtain ⟨n,h⟩:=h;exact h.one
theorem PlAt.one {K:Ctx} {w:World} {cs:List Value} {t:Pl} (h:PlAt K w cs t):∀ u∈cs,u.oneCell'=true:=by
 obtain ⟨v,rfl,_,h⟩:=h;exact ones_cons rfl (ones_cons h.one ones_nil)
theorem OprAt.one {K:Ctx} {w:World} {cs:List Value} {t:Opr} (h:OprAt K w cs t):∀ u∈cs,u.oneCell'=true:=by
 obtain ⟨ps,rfl,h⟩:=h;exact ones_cons rfl (ones_cons rfl h.one)
theorem VaAt.one {K:Ctx} {w:World} {cs:List Value} {t:Va} (h:VaAt K w cs t):∀ u∈cs,u.oneCell'=true:=by
 obtain ⟨xa,xb,ps,vn,va,rfl,h1,h2,h3,_,h4,h5⟩:=h
 exact ones_cons rfl (ones_app h1.one (ones_app h2.one (ones_cons rfl (ones_app h3.one (ones_cons rfl (ones_cons h4.one (ones_cons h5.one ones_nil)))))))
theorem StAt.one:∀ {n:Nat} {K:Ctx} {w:World} {cs:List Value} {t:St},StAt n K w cs t->∀ u∈cs,u.oneCell'=true
 | 0,_,_,_,_,h=>h.elim
 | _+1,_,_,_,_,h=>by
  obtain ⟨ts,ps,vs,os,vt,ve,rfl,_,h1,h2,h3,h4,h5,h6⟩:=h
  exact ones_cons rfl (ones_cons rfl (ones_cons rfl (ones_cons rfl (ones_app h1.one (ones_cons rfl (ones_app h2.one (ones_app h3.one (ones_app h4.one (ones_cons h5.one (ones_cons h6.one ones_nil))))))))))
theorem LfeAt.one {K:Ctx} {w:World} {cs:List Value} {t:Lfe} (h:LfeAt K w cs t):∀ u∈cs,u.oneCell'=true:=by
 obtain ⟨v,rfl,_,h⟩:=h;exact ones_cons rfl (ones_cons h.one ones_nil)
theorem FldAt.one {K:Ctx} {w:World} {cs:List Value} {t:Fld} (h:FldAt K w cs t):∀ u∈cs,u.oneCell'=true:=by
 obtain ⟨v,rfl,_,h⟩:=h;exact ones_cons rfl (ones_cons rfl h.one)
theorem SctAt.one {K:Ctx} {w:World} {cs:List Value} {t:Sct} (h:SctAt K w cs t):∀ u∈cs,u.oneCell'=true:=by
 obtain ⟨v,v',rfl,_,h1,h2⟩:=h;exact ones_cons rfl (ones_cons rfl (ones_cons h1.one (ones_cons h2.one (ones_cons rfl ones_nil))))
theorem FncAt.one {n:Nat} {K:Ctx} {w:World} {cs:List Value} {t:Fnc} (h:FncAt n K w cs t):∀ u∈cs,u.oneCell'=true:=by
 obtain ⟨v2,v3,ts,v8,rfl,_,h1,h2,h3,h4⟩:=h
 exact ones_cons rfl (ones_cons rfl (ones_cons h1.one (ones_cons h2.one (ones_app h3.one (ones_cons h4.one (ones_cons rfl ones_nil))))))
end Go.Proofs.YtjenmmkamhplkaaGreat

namespace Go.Proofs.YtjenmmkamhplkaaGreat
open Go.RowKit
set_option maxHeartbeats 4000000
theorem word_life {l:List UInt8} (h:isWord l=true):lifeB l=true:=by
 rcases word_cases h with rfl|rfl|rfl|rfl|rfl|rfl|rfl|rfl|rfl|rfl|rfl|rfl|rfl|rfl|rfl|rfl|rfl <;> decide
theorem life_or (l:List UInt8):(nameB l || isWord l)=lifeB l:=by
 rw [← life_name]
 cases h:isWord l
 ·simp
 ·rw [word_life h];simp
def stepB (l:Bs):Bool:=decide (l=[42]) || nameB l
theorem nameB_calls_46 (l:Bs) (hl:l.length<=9223372036854775807) (w:World):Calls Tryz.prog 46 #[.string (str l)] w fun ev w'=>ev=.returned (.bool (nameB l))/\w'=w:=name_any l hl w
theorem lifeB_calls_48 (l:Bs) (hl:l.length<=9223372036854775807) (w:World):Calls Tryz.prog 48 #[.string (str l)] w fun ev w'=>ev=.returned (.bool (lifeB l))/\w'=w:=by
 have N:=name_any l hl w
 have W:=word_any l w
 rw [← life_or]
 generalize str l=S,isWord l=i at *
 cases hn:nameB l
 ·rw [hn] at N
  clear hn
  go_enter Tryz.func48,Tryz.ntmps48
  go_wp2_with (first|(go_at_call 46;refine N.mono ?_;rintro ev w2 ⟨rfl,rfl⟩)|(go_at_call 81;refine W.mono ?_;rintro ev w2 ⟨rfl,rfl⟩))
  go_ret
  exact ⟨by simp,rfl⟩
 ·rw [hn] at N
  clear hn
  go_enter Tryz.func48,Tryz.ntmps48
  go_wp2_with (first|(go_at_call 46;refine N.mono ?_;rintro ev w2 ⟨rfl,rfl⟩)|(go_at_call 81;refine W.mono ?_;rintro ev w2 ⟨rfl,rfl⟩))
  go_ret
  exact ⟨by simp,rfl⟩
theorem star_beq (l:Bs):((str l).toList == [42])=decide (l=[42]):=by
 have:=str_beq l [42]
 unfold str at this ⊢
 rw [ByteArray.toList_mk,ByteArray.toList_mk] at this
 rw [ByteArray.toList_mk];exact this
theorem stepB_calls_130 (l:Bs) (hl:l.length<=9223372036854775807) (w:World):Calls Tryz.prog 130 #[.string (str l)] w fun ev w'=>ev=.returned (.bool (stepB l))/\w'=w:=by
 have N:=name_any l hl w
 unfold stepB
 have q:=star_beq l
 generalize str l=S,nameB l=i at *
 by_cases hn:l=[42]
 ·rw [decide_eq_true hn] at q
  rw [decide_eq_true hn]
  clear hn
  go_enter Tryz.func130,Tryz.ntmps130
  go_wp2_with fail
  go_ret
  exact ⟨by simp,rfl⟩
 ·rw [decide_eq_false hn] at q
  rw [decide_eq_false hn]
  clear hn
  go_enter Tryz.func130,Tryz.ntmps130
  go_wp2_with (go_at_call 46;refine N.mono ?_;rintro ev w2 ⟨rfl,rfl⟩)
  go_ret
  exact ⟨by simp,rfl⟩
theorem allNames {K:Ctx} {w:World} {v:Value} {l:List Bs} (ha:Strs K w v l) :
  Calls Tryz.prog 82 #[v,.func (.func 46) #[] #[]] w fun ev w'=>ev=.returned (.bool (l.all nameB))/\w'=w:=by
 obtain ⟨ao,cap,rfl,hc,hb,hA⟩:=ha.shape
 have hsm:=K.small
 have hl9:l.length<=9223372036854775807:=by omega
 have HA:Hid (∀ i (h:i<l.length),∃ b o,ao=some ⟨b,o,none⟩/\w.cell? ⟨b,o+i,none⟩=some (.string (str l[i]))/\Calls Tryz.prog 46 #[.string (str l[i])] w fun ev w'=>ev=.returned (.bool (nameB l[i]))/\w'=w):=by
  intro i h
  obtain ⟨b,o,e,_,cs,hl,hcs,hx⟩:=hA i h
  have:=hcs 0 (by omega)
  rw [hx.1] at this
  exact ⟨b,o,e,by simpa using this,nameB_calls_46 _ (by have:=hx.2;omega) w⟩
 obtain ⟨B,hB⟩:∃ B,l.all nameB=B:=⟨_,rfl⟩
 rw [hB]
 have HB:Hid (l.all nameB=B):=hB
 clear hA hB ha hb
 go_enter Tryz.func82,Tryz.ntmps82
 go_wp2_with fail
 go_loopw [9] (fun i wr=>∃ k:Nat,k<=l.length/\i=.int .i64 k/\(∀ j (h:j<l.length),j<k->nameB l[j]=true)/\wr=w) (fun i _=>l.length - (intOf i).toNat)
 case atStart=>exact ⟨0,by omega,rfl,fun j _ h=>by omega,rfl⟩
 case round =>
  obtain ⟨k,hk,rfl,hj,rfl⟩:=hrel
  have HJ:Hid (∀ j (h:j<l.length),j<k->nameB l[j]=true):=hj
  clear hj
  by_cases h3:k<l.length
  ·obtain ⟨b,o,e,hcell,D⟩:=HA.out k h3
   subst e
   have i1:(k:Int)<(l.length:Int):=by omega
   cases hp:nameB l[k]
   ·have HF:Hid (B=false):=by
     show B=false
     rw [← HB.out,List.all_eq_false]
     exact ⟨_,List.getElem_mem h3,by rw [hp];simp⟩
    rw [hp] at D
    clear hp HA
    generalize str l[k]=X at *
    go_wp2_with (go_at_call 46;refine D.mono ?_;rintro ev w2 ⟨rfl,rfl⟩)
    go_ret
    exact ⟨by rw [HF.out];rfl,by trivial⟩
   ·have HJ':Hid (∀ j (h:j<l.length),j<k+1->nameB l[j]=true):=by
     intro j h hjk
     rcases Nat.lt_or_ge j k with h'|h'
     ·exact HJ.out j h h'
     ·obtain rfl:j=k:=by omega
      exact hp
    rw [hp] at D
    clear hp HA
    generalize str l[k]=X at *
    go_wp2_with (go_at_call 46;refine D.mono ?_;rintro ev w2 ⟨rfl,rfl⟩)
    go_roundw
    case rel=>exact ⟨k+1,by omega,by go_num,HJ'.out,by trivial⟩
    case measure=>simp [intOf];omega
  ·have HF:Hid (B=true):=by
    show B=true
    rw [← HB.out,List.all_eq_true]
    intro x hx
    obtain ⟨j,hj,rfl⟩:=List.getElem_of_mem hx
    exact HJ.out j hj (by omega)
   have i1:¬ (k:Int)<(l.length:Int):=by omega
   go_wp2_with fail
   go_ret
   exact ⟨by rw [HF.out];rfl,by trivial⟩
theorem partsNames {K:Ctx} {w:World} {v:Value} {l:List Bs} (ha:Strs K w v l) :
  Calls Tryz.prog 47 #[v,.func (.func 46) #[] #[]] w fun ev w'=>ev=.returned (.bool (decide (l.length<=64) && l.all nameB))/\w'=w:=by
 have D:=allNames ha
 obtain ⟨ao,cap,rfl,hc,hb,_⟩:=ha.shape
 have hl9:l.length<=9223372036854775807:=by omega
 clear hb ha
 generalize l.all nameB=A at *
 by_cases h:l.length<=64
 ·have b1:decide ((l.length:Int)<=64)=true:=by simp;omega
  have i1:(l.length:Int)<=64:=by omega
  rw [decide_eq_true h]
  go_enter Tryz.func47,Tryz.ntmps47
  go_wp2_with (go_at_call 82;refine D.mono ?_;rintro ev w2 ⟨rfl,rfl⟩)
  go_ret
  exact ⟨by simp,rfl⟩
 ·have b1:decide ((l.length:Int)<=64)=false:=by simp;omega
  have i1:¬ (l.length:Int)<=64:=by omega
  rw [decide_eq_false h]
  go_enter Tryz.func47,Tryz.ntmps47
  go_wp2_with fail
  go_ret
  exact ⟨by simp,rfl⟩
theorem allLives {K:Ctx} {w:World} {v:Value} {l:List Bs} (ha:Strs K w v l) :
  Calls Tryz.prog 82 #[v,.func (.func 48) #[] #[]] w fun ev w'=>ev=.returned (.bool (l.all lifeB))/\w'=w:=by
 obtain ⟨ao,cap,rfl,hc,hb,hA⟩:=ha.shape
 have hsm:=K.small
 have hl9:l.length<=9223372036854775807:=by omega
 have HA:Hid (∀ i (h:i<l.length),∃ b o,ao=some ⟨b,o,none⟩/\w.cell? ⟨b,o+i,none⟩=some (.string (str l[i]))/\Calls Tryz.prog 48 #[.string (str l[i])] w fun ev w'=>ev=.returned (.bool (lifeB l[i]))/\w'=w):=by
  intro i h
  obtain ⟨b,o,e,_,cs,hl,hcs,hx⟩:=hA i h
  have:=hcs 0 (by omega)
  rw [hx.1] at this
  exact ⟨b,o,e,by simpa using this,lifeB_calls_48 _ (by have:=hx.2;omega) w⟩
 obtain ⟨B,hB⟩:∃ B,l.all lifeB=B:=⟨_,rfl⟩
 rw [hB]
 have HB:Hid (l.all lifeB=B):=hB
 clear hA hB ha hb
 go_enter Tryz.func82,Tryz.ntmps82
 go_wp2_with fail
 go_loopw [9] (fun i wr=>∃ k:Nat,k<=l.length/\i=.int .i64 k/\(∀ j (h:j<l.length),j<k->lifeB l[j]=true)/\wr=w) (fun i _=>l.length - (intOf i).toNat)
 case atStart=>exact ⟨0,by omega,rfl,fun j _ h=>by omega,rfl⟩
 case round =>
  obtain ⟨k,hk,rfl,hj,rfl⟩:=hrel
  have HJ:Hid (∀ j (h:j<l.length),j<k->lifeB l[j]=true):=hj
  clear hj
  by_cases h3:k<l.length
  ·obtain ⟨b,o,e,hcell,D⟩:=HA.out k h3
   subst e
   have i1:(k:Int)<(l.length:Int):=by omega
   cases hp:lifeB l[k]
   ·have HF:Hid (B=false):=by
     show B=false
     rw [← HB.out,List.all_eq_false]
     exact ⟨_,List.getElem_mem h3,by rw [hp];simp⟩
    rw [hp] at D
    clear hp HA
    generalize str l[k]=X at *
    go_wp2_with (go_at_call 48;refine D.mono ?_;rintro ev w2 ⟨rfl,rfl⟩)
    go_ret
    exact ⟨by rw [HF.out];rfl,by trivial⟩
   ·have HJ':Hid (∀ j (h:j<l.length),j<k+1->lifeB l[j]=true):=by
     intro j h hjk
     rcases Nat.lt_or_ge j k with h'|h'
     ·exact HJ.out j h h'
     ·obtain rfl:j=k:=by omega
      exact hp
    rw [hp] at D
    clear hp HA
    generalize str l[k]=X at *
    go_wp2_with (go_at_call 48;refine D.mono ?_;rintro ev w2 ⟨rfl,rfl⟩)
    go_roundw
    case rel=>exact ⟨k+1,by omega,by go_num,HJ'.out,by trivial⟩
    case measure=>simp [intOf];omega
  ·have HF:Hid (B=true):=by
    show B=true
    rw [← HB.out,List.all_eq_true]
    intro x hx
    obtain ⟨j,hj,rfl⟩:=List.getElem_of_mem hx
    exact HJ.out j hj (by omega)
   have i1:¬ (k:Int)<(l.length:Int):=by omega
   go_wp2_with fail
   go_ret
   exact ⟨by rw [HF.out];rfl,by trivial⟩
theorem partsLives {K:Ctx} {w:World} {v:Value} {l:List Bs} (ha:Strs K w v l) :
  Calls Tryz.prog 47 #[v,.func (.func 48) #[] #[]] w fun ev w'=>ev=.returned (.bool (decide (l.length<=64) && l.all lifeB))/\w'=w:=by
 have D:=allLives ha
 obtain ⟨ao,cap,rfl,hc,hb,_⟩:=ha.shape
 have hl9:l.length<=9223372036854775807:=by omega
 clear hb ha
 generalize l.all lifeB=A at *
 by_cases h:l.length<=64
 ·have b1:decide ((l.length:Int)<=64)=true:=by simp;omega
  have i1:(l.length:Int)<=64:=by omega
  rw [decide_eq_true h]
  go_enter Tryz.func47,Tryz.ntmps47
  go_wp2_with (go_at_call 82;refine D.mono ?_;rintro ev w2 ⟨rfl,rfl⟩)
  go_ret
  exact ⟨by simp,rfl⟩
 ·have b1:decide ((l.length:Int)<=64)=false:=by simp;omega
  have i1:¬ (l.length:Int)<=64:=by omega
  rw [decide_eq_false h]
  go_enter Tryz.func47,Tryz.ntmps47
  go_wp2_with fail
  go_ret
  exact ⟨by simp,rfl⟩
theorem allSteps {K:Ctx} {w:World} {v:Value} {l:List Bs} (ha:Strs K w v l) :
  Calls Tryz.prog 82 #[v,.func (.func 130) #[] #[]] w fun ev w'=>ev=.returned (.bool (l.all stepB))/\w'=w:=by
 obtain ⟨ao,cap,rfl,hc,hb,hA⟩:=ha.shape
 have hsm:=K.small
 have hl9:l.length<=9223372036854775807:=by omega
 have HA:Hid (∀ i (h:i<l.length),∃ b o,ao=some ⟨b,o,none⟩/\w.cell? ⟨b,o+i,none⟩=some (.string (str l[i]))/\Calls Tryz.prog 130 #[.string (str l[i])] w fun ev w'=>ev=.returned (.bool (stepB l[i]))/\w'=w):=by
  intro i h
  obtain ⟨b,o,e,_,cs,hl,hcs,hx⟩:=hA i h
  have:=hcs 0 (by omega)
  rw [hx.1] at this
  exact ⟨b,o,e,by simpa using this,stepB_calls_130 _ (by have:=hx.2;omega) w⟩
 obtain ⟨B,hB⟩:∃ B,l.all stepB=B:=⟨_,rfl⟩
 rw [hB]
 have HB:Hid (l.all stepB=B):=hB
 clear hA hB ha hb
 go_enter Tryz.func82,Tryz.ntmps82
 go_wp2_with fail
 go_loopw [9] (fun i wr=>∃ k:Nat,k<=l.length/\i=.int .i64 k/\(∀ j (h:j<l.length),j<k->stepB l[j]=true)/\wr=w) (fun i _=>l.length - (intOf i).toNat)
 case atStart=>exact ⟨0,by omega,rfl,fun j _ h=>by omega,rfl⟩
 case round =>
  obtain ⟨k,hk,rfl,hj,rfl⟩:=hrel
  have HJ:Hid (∀ j (h:j<l.length),j<k->stepB l[j]=true):=hj
  clear hj
  by_cases h3:k<l.length
  ·obtain ⟨b,o,e,hcell,D⟩:=HA.out k h3
   subst e
   have i1:(k:Int)<(l.length:Int):=by omega
   cases hp:stepB l[k]
   ·have HF:Hid (B=false):=by
     show B=false
     rw [← HB.out,List.all_eq_false]
     exact ⟨_,List.getElem_mem h3,by rw [hp];simp⟩
    rw [hp] at D
    clear hp HA
    generalize str l[k]=X at *
    go_wp2_with (go_at_call 130;refine D.mono ?_;rintro ev w2 ⟨rfl,rfl⟩)
    go_ret
    exact ⟨by rw [HF.out];rfl,by trivial⟩
   ·have HJ':Hid (∀ j (h:j<l.length),j<k+1->stepB l[j]=true):=by
     intro j h hjk
     rcases Nat.lt_or_ge j k with h'|h'
     ·exact HJ.out j h h'
     ·obtain rfl:j=k:=by omega
      exact hp
    rw [hp] at D
    clear hp HA
    generalize str l[k]=X at *
    go_wp2_with (go_at_call 130;refine D.mono ?_;rintro ev w2 ⟨rfl,rfl⟩)
    go_roundw
    case rel=>exact ⟨k+1,by omega,by go_num,HJ'.out,by trivial⟩
    case measure=>simp [intOf];omega
  ·have HF:Hid (B=true):=by
    show B=true
    rw [← HB.out,List.all_eq_true]
    intro x hx
    obtain ⟨j,hj,rfl⟩:=List.getElem_of_mem hx
    exact HJ.out j hj (by omega)
   have i1:¬ (k:Int)<(l.length:Int):=by omega
   go_wp2_with fail
   go_ret
   exact ⟨by rw [HF.out];rfl,by trivial⟩
theorem partsSteps {K:Ctx} {w:World} {v:Value} {l:List Bs} (ha:Strs K w v l) :
  Calls Tryz.prog 47 #[v,.func (.func 130) #[] #[]] w fun ev w'=>ev=.returned (.bool (decide (l.length<=64) && l.all stepB))/\w'=w:=by
 have D:=allSteps ha
 obtain ⟨ao,cap,rfl,hc,hb,_⟩:=ha.shape
 have hl9:l.length<=9223372036854775807:=by omega
 clear hb ha
 generalize l.all stepB=A at *
 by_cases h:l.length<=64
 ·have b1:decide ((l.length:Int)<=64)=true:=by simp;omega
  have i1:(l.length:Int)<=64:=by omega
  rw [decide_eq_true h]
  go_enter Tryz.func47,Tryz.ntmps47
  go_wp2_with (go_at_call 82;refine D.mono ?_;rintro ev w2 ⟨rfl,rfl⟩)
  go_ret
  exact ⟨by simp,rfl⟩
 ·have b1:decide ((l.length:Int)<=64)=false:=by simp;omega
  have i1:¬ (l.length:Int)<=64:=by omega
  rw [decide_eq_false h]
  go_enter Tryz.func47,Tryz.ntmps47
  go_wp2_with fail
  go_ret
  exact ⟨by simp,rfl⟩
end Go.Proofs.YtjenmmkamhplkaaGreat
