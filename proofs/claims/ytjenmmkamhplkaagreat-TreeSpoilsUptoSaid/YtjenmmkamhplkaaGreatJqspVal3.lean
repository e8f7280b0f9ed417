/- Part of the proof. -/
import Derived.Test.YtjenmmkamhplkaaGreatQqspVl2
import Derived.Test.YtjenmmkamhplkaaGreatQqspVl3
import Derived.Test.YtjenmmkamhplkaaGreatRows
import Derived.Test.YtjenmmkamhplkaaGreatJqspGds3
import Derived.JoinedCond
namespace Go.Proofs.YtjenmmkamhplkaaGreat
open Go.RowKit
set_option maxHeartbeats 8000000 in
theorem mayVal_no {K:Ctx} {w:World} {x:Va} {pa pb pp pn pv:Option Addr} {na nb np ca cb cp cn cv:Nat} (_h4:Strs K w (.slice pn x.names.length cn) x.names) (k0:¬ (x.kind=1∨x.kind=2∨x.kind=3∨x.kind=4∨x.kind=5∨x.kind=6∨x.kind=7)) (B:Bool) (hB:B=true↔MayVa x) :
  Calls Tryz.prog 112 #[.agg #[.int .i64 x.kind,.int .i64 x.a.kind,.int .i64 x.a.n,.string (str x.a.place.name),.slice pa na ca,.int .i64 x.b.kind,.int .i64 x.b.n,.string (str x.b.place.name),.slice pb nb cb,.int .i64 x.op,.string (str x.place.name),.slice pp np cp,.string (str x.name),.slice pn x.names.length cn,.slice pv x.args.length cv]] w fun ev w'=>ev=.returned (.bool B)/\Below w.heap.size w w':=by
 obtain rfl:=bool_false hB (va_none k0)
 have HA:Hid (Below w.heap.size w (w.alloc (.cells #[.int .i64 x.kind,.int .i64 x.a.kind,.int .i64 x.a.n,.string (str x.a.place.name),.slice pa na ca,.int .i64 x.b.kind,.int .i64 x.b.n,.string (str x.b.place.name),.slice pb nb cb,.int .i64 x.op,.string (str x.place.name),.slice pp np cp,.string (str x.name),.slice pn x.names.length cn,.slice pv x.args.length cv] 47))):=alloc_one w _
 have b5:(x.kind == 5)=false:=by simp;omega
 have b1:(x.kind == 1)=false:=by simp;omega
 have b4:(x.kind == 4)=false:=by simp;omega
 have b2:(x.kind == 2)=false:=by simp;omega
 have b3:(x.kind == 3)=false:=by simp;omega
 have b7:(x.kind == 7)=false:=by simp;omega
 have b6:(x.kind == 6)=false:=by simp;omega
 clear hB k0 _h4
 generalize x.kind=kd,x.op=oo,x.a.kind=ak,x.a.n=an,str x.a.place.name=as1,x.b.kind=bk,x.b.n=bn,str x.b.place.name=bs1,str x.place.name=ps1,str x.name=ns1,x.names.length=l1,x.args.length=l2 at *
 go_enter Tryz.func112,Tryz.ntmps112
 go_wp2_with fail
 go_ret
 exact ⟨rfl,HA.out⟩
theorem VaAt.open {K:Ctx} {w:World} {cs:List Value} {x:Va} (h:VaAt K w cs x):∃ (pa pb pp pn pv:Option Addr) (na nb np ca cb cp cn cv:Nat),
  cs=[.int .i64 x.kind,.int .i64 x.a.kind,.int .i64 x.a.n,.string (str x.a.place.name),.slice pa na ca,.int .i64 x.b.kind,.int .i64 x.b.n,.string (str x.b.place.name),.slice pb nb cb,.int .i64 x.op,.string (str x.place.name),.slice pp np cp,.string (str x.name),.slice pn x.names.length cn,.slice pv x.args.length cv]/\OprAt K w [.int .i64 x.a.kind,.int .i64 x.a.n,.string (str x.a.place.name),.slice pa na ca] x.a/\OprAt K w [.int .i64 x.b.kind,.int .i64 x.b.n,.string (str x.b.place.name),.slice pb nb cb] x.b/\PlAt K w [.string (str x.place.name),.slice pp np cp] x.place/\x.name.length<=K.B/\Strs K w (.slice pn x.names.length cn) x.names/\Ar 4 56 (OprAt K w) K w (.slice pv x.args.length cv) x.args:=by
 obtain ⟨xa,xb,ps,vn,va,rfl,h1,h2,h3,hl,h4,h5⟩:=h
 obtain ⟨pa,na,ca,rfl⟩:=h1.open
 obtain ⟨pb,nb,cb,rfl⟩:=h2.open
 obtain ⟨pp,np,cp,rfl⟩:=h3.open
 obtain ⟨pn,cn,rfl⟩:=h4.form
 obtain ⟨pv,cv,rfl⟩:=h5.form
 exact ⟨pa,pb,pp,pn,pv,na,nb,np,ca,cb,cp,cn,cv,rfl,h1,h2,h3,hl,h4,h5⟩
theorem mayValue_any {K:Ctx} {w:World} (he:Env K w) {x:Va} {cs:List Value} (hx:VaAt K w cs x) (B:Bool) (hB:B=true↔MayVa x) :
  Calls Tryz.prog 112 #[.agg cs.toArray] w fun ev w'=>ev=.returned (.bool B)/\Below w.heap.size w w':=by
 obtain ⟨pa,pb,pp,pn,pv,na,nb,np,ca,cb,cp,cn,cv,rfl,h1,h2,h3,hl,h4,h5⟩:=hx.open
 by_cases k1:x.kind=1
 ·exact mayVal_1 he h1 h2 h3 hl h4 h5 k1 B hB
 by_cases k2:x.kind=2
 ·exact mayVal_2 he h1 h2 h3 hl h4 h5 k2 B hB
 by_cases k3:x.kind=3
 ·exact mayVal_3 he h1 h2 h3 hl h4 h5 k3 B hB
 by_cases k4:x.kind=4
 ·exact mayVal_4 he h1 h2 h3 hl h4 h5 k4 B hB
 by_cases k5:x.kind=5
 ·exact mayVal_5 he h1 h2 h3 hl h4 h5 k5 B hB
 by_cases k6:x.kind=6
 ·exact mayVal_6 he h1 h2 h3 hl h4 h5 k6 B hB
 by_cases k7:x.kind=7
 ·exact mayVal_7 he h1 h2 h3 hl h4 h5 k7 B hB
 exact mayVal_no h4 (by omega) B hB

def inner:Nat->St->Nat
 | 0,_=>0
 | n+1,s=>(s.thn.map fun t=>1+inner n t).sum+(s.els.map fun t=>1+inner n t).sum
def cnt (n:Nat) (l:List St):Nat:=(l.map fun t=>1+inner n t).sum
theorem inner_succ (n:Nat) (s:St):inner (n+1) s=cnt n s.thn+cnt n s.els:=rfl
theorem cnt_nil (n:Nat):cnt n []=0:=rfl
theorem cnt_cons (n:Nat) (s:St) (l:List St):cnt n (s :: l)=1+inner n s+cnt n l:=rfl
def MayCal (v:Va):Prop:=v.kind=6/\MayVa v
def StOk (sub:List St->Prop) (s:St):Prop :=
 (s.kind=1/\nameB s.name=true/\MayTy 64 s.ty/\(s.has=true->MayVa s.val)/\{ s with name:=[],ty:=Ty.zero,has:=false,val:=(if s.has then Va.zero else s.val),mu:=false }=St.bare s.kind s.pos) ∨
 (s.kind=2/\MayPl s.place/\MayVa s.val/\{ s with place:=Pl.zero,val:=Va.zero }=St.bare s.kind s.pos) ∨
 (s.kind=3/\MayCal s.val/\{ s with val:=Va.zero }=St.bare s.kind s.pos) ∨
 (s.kind=4/\(s.has=true->sub s.els)/\MayOpr s.cond/\sub s.thn/\{ s with has:=false,els:=(if s.has then [] else s.els),cond:=Opr.zero,thn:=[] }=St.bare s.kind s.pos) ∨
 (s.kind=5/\MayOpr s.cond/\sub s.thn/\{ s with cond:=Opr.zero,thn:=[] }=St.bare s.kind s.pos) ∨
 ((s.kind=6∨s.kind=7)/\sub s.thn/\{ s with thn:=[] }=St.bare s.kind s.pos) ∨
 ((s.kind=8∨s.kind=9)/\s=St.bare s.kind s.pos) ∨
 (s.kind=10/\(s.has=true->MayVa s.val)/\{ s with has:=false,val:=(if s.has then Va.zero else s.val) }=St.bare s.kind s.pos) ∨
 (s.kind=11/\MayPl s.place/\{ s with place:=Pl.zero }=St.bare s.kind s.pos)
def MayBlk:Nat->List St->Prop
 | 0,_=>False
 | m+1,l=>∀ s∈l,StOk (MayBlk m) s
theorem ok_let {sub:List St->Prop} {s:St} (h:s.kind=1):StOk sub s↔nameB s.name=true/\MayTy 64 s.ty/\(s.has=true->MayVa s.val)/\{ s with name:=[],ty:=Ty.zero,has:=false,val:=(if s.has then Va.zero else s.val),mu:=false }=St.bare s.kind s.pos:=by
 constructor
 ·rintro (⟨_,h'⟩|⟨h',_⟩|⟨h',_⟩|⟨h',_⟩|⟨h',_⟩|⟨h',_⟩|⟨h',_⟩|⟨h',_⟩|⟨h',_⟩) <;> first|exact h'|omega
 ·exact fun h'=>.inl ⟨h,h'⟩
theorem ok_set {sub:List St->Prop} {s:St} (h:s.kind=2):StOk sub s↔MayPl s.place/\MayVa s.val/\{ s with place:=Pl.zero,val:=Va.zero }=St.bare s.kind s.pos:=by
 constructor
 ·rintro (⟨h',_⟩|⟨_,h'⟩|⟨h',_⟩|⟨h',_⟩|⟨h',_⟩|⟨h',_⟩|⟨h',_⟩|⟨h',_⟩|⟨h',_⟩) <;> first|exact h'|omega
 ·exact fun h'=>.inr (.inl ⟨h,h'⟩)
theorem ok_call {sub:List St->Prop} {s:St} (h:s.kind=3):StOk sub s↔MayCal s.val/\{ s with val:=Va.zero }=St.bare s.kind s.pos:=by
 constructor
 ·rintro (⟨h',_⟩|⟨h',_⟩|⟨_,h'⟩|⟨h',_⟩|⟨h',_⟩|⟨h',_⟩|⟨h',_⟩|⟨h',_⟩|⟨h',_⟩) <;> first|exact h'|omega
 ·exact fun h'=>.inr (.inr (.inl ⟨h,h'⟩))
theorem ok_iff {sub:List St->Prop} {s:St} (h:s.kind=4):StOk sub s↔(s.has=true->sub s.els)/\MayOpr s.cond/\sub s.thn/\{ s with has:=false,els:=(if s.has then [] else s.els),cond:=Opr.zero,thn:=[] }=St.bare s.kind s.pos:=by
 constructor
 ·rintro (⟨h',_⟩|⟨h',_⟩|⟨h',_⟩|⟨_,h'⟩|⟨h',_⟩|⟨h',_⟩|⟨h',_⟩|⟨h',_⟩|⟨h',_⟩) <;> first|exact h'|omega
 ·exact fun h'=>.inr (.inr (.inr (.inl ⟨h,h'⟩)))
theorem ok_whl {sub:List St->Prop} {s:St} (h:s.kind=5):StOk sub s↔MayOpr s.cond/\sub s.thn/\{ s with cond:=Opr.zero,thn:=[] }=St.bare s.kind s.pos:=by
 constructor
 ·rintro (⟨h',_⟩|⟨h',_⟩|⟨h',_⟩|⟨h',_⟩|⟨_,h'⟩|⟨h',_⟩|⟨h',_⟩|⟨h',_⟩|⟨h',_⟩) <;> first|exact h'|omega
 ·exact fun h'=>.inr (.inr (.inr (.inr (.inl ⟨h,h'⟩))))
theorem ok_loop {sub:List St->Prop} {s:St} (h:s.kind=6∨s.kind=7):StOk sub s↔sub s.thn/\{ s with thn:=[] }=St.bare s.kind s.pos:=by
 constructor
 ·rintro (⟨h',_⟩|⟨h',_⟩|⟨h',_⟩|⟨h',_⟩|⟨h',_⟩|⟨_,h'⟩|⟨h',_⟩|⟨h',_⟩|⟨h',_⟩) <;> first|exact h'|omega
 ·exact fun h'=>.inr (.inr (.inr (.inr (.inr (.inl ⟨h,h'⟩)))))
theorem ok_brk {sub:List St->Prop} {s:St} (h:s.kind=8∨s.kind=9):StOk sub s↔s=St.bare s.kind s.pos:=by
 constructor
 ·rintro (⟨h',_⟩|⟨h',_⟩|⟨h',_⟩|⟨h',_⟩|⟨h',_⟩|⟨h',_⟩|⟨_,h'⟩|⟨h',_⟩|⟨h',_⟩) <;> first|exact h'|omega
 ·exact fun h'=>.inr (.inr (.inr (.inr (.inr (.inr (.inl ⟨h,h'⟩))))))
theorem ok_ret {sub:List St->Prop} {s:St} (h:s.kind=10):StOk sub s↔(s.has=true->MayVa s.val)/\{ s with has:=false,val:=(if s.has then Va.zero else s.val) }=St.bare s.kind s.pos:=by
 constructor
 ·rintro (⟨h',_⟩|⟨h',_⟩|⟨h',_⟩|⟨h',_⟩|⟨h',_⟩|⟨h',_⟩|⟨h',_⟩|⟨_,h'⟩|⟨h',_⟩) <;> first|exact h'|omega
 ·exact fun h'=>.inr (.inr (.inr (.inr (.inr (.inr (.inr (.inl ⟨h,h'⟩)))))))
theorem ok_drop {sub:List St->Prop} {s:St} (h:s.kind=11):StOk sub s↔MayPl s.place/\{ s with place:=Pl.zero }=St.bare s.kind s.pos:=by
 constructor
 ·rintro (⟨h',_⟩|⟨h',_⟩|⟨h',_⟩|⟨h',_⟩|⟨h',_⟩|⟨h',_⟩|⟨h',_⟩|⟨h',_⟩|⟨_,h'⟩) <;> first|exact h'|omega
 ·exact fun h'=>.inr (.inr (.inr (.inr (.inr (.inr (.inr (.inr (⟨h,h'⟩))))))))
theorem ok_none {sub:List St->Prop} {s:St} (h:¬ (1<=s.kind/\s.kind<=11)):¬ StOk sub s:=by
 rintro (⟨h',_⟩|⟨h',_⟩|⟨h',_⟩|⟨h',_⟩|⟨h',_⟩|⟨h',_⟩|⟨h',_⟩|⟨h',_⟩|⟨h',_⟩) <;> omega

open Go.ChangeShapes Go.WideShapes Go.ChangeAt Go.RowKit
theorem one_le {H:Type} (d:DataW H):1<=Rows.uptoBulk d:=by
 cases d with
 | lit l=>cases l <;> simp [Rows.uptoBulk]
 | nil=>simp [Rows.uptoBulk]
 | ptr d=>simp [Rows.uptoBulk]
 | slice elems spare=>simp [Rows.uptoBulk]
 | agg parts=>simp [Rows.uptoBulk]
 | iface t d=>simp [Rows.uptoBulk]
 | map entries=>simp [Rows.uptoBulk]
 | held h=>simp [Rows.uptoBulk]
theorem part_le {H:Type} {d:DataW H} {l:List (DataW H)} (h:d∈l):Rows.uptoBulk d<=Rows.uptoBulkAll l:=by
 induction l with
 | nil=>cases h
 | cons x r ih =>
  simp only [Rows.uptoBulkAll]
  cases List.mem_cons.1 h with
  | inl e=>subst e;omega
  | inr e=>have:=ih e;omega
theorem two_le {H:Type}:∀ {l:List (DataW H)} {i j:Nat} {a b:DataW H},i<j->l[i]?=some a->l[j]?=some b->Rows.uptoBulk a+Rows.uptoBulk b<=Rows.uptoBulkAll l
 | [],_,_,_,_,_,h,_=>by simp at h
 | x :: r,0,j+1,a,b,_,h1,h2=>by
  simp only [List.getElem?_cons_zero,Option.some.injEq] at h1
  simp only [List.getElem?_cons_succ] at h2
  subst h1
  have:=part_le (List.mem_of_getElem? h2)
  simp only [Rows.uptoBulkAll]
  omega
 | x :: r,i+1,j+1,a,b,h,h1,h2=>by
  simp only [List.getElem?_cons_succ] at h1 h2
  have:=two_le (l:=r) (by omega) h1 h2
  simp only [Rows.uptoBulkAll]
  omega
 | x :: r,i+1,0,_,_,h,_,_=>by omega
theorem sum_mem {α:Type} (f:α->Nat):∀ {l:List α} {x:α},x∈l->f x<=(l.map f).sum
 | y :: l,x,h=>by
  simp only [List.map_cons,List.sum_cons]
  rcases List.mem_cons.1 h with rfl|h
  ·omega
  ·have:=sum_mem f h
   omega
theorem sum_bulk {H α:Type} (f:α->Nat):∀ (L:List (DataW H)) (q:Nat->α),(∀ i (h:i<L.length),f (q i)<=Rows.uptoBulk L[i])->(((List.range L.length).map q).map f).sum<=Rows.uptoBulkAll L
 | [],_,_=>by simp
 | x :: r,q,h=>by
  have h0:=h 0 (by simp)
  have ih:=sum_bulk f r (fun i=>q (i+1)) (fun i hi=>h (i+1) (by simp;omega))
  simp only [List.length_cons,List.range_succ_eq_map,List.map_cons,List.map_map,List.sum_cons,Rows.uptoBulkAll]
  simp only [List.map_map] at ih
  simp only [List.getElem_cons_zero] at h0
  have e:(f ∘ q ∘ Nat.succ)=(f ∘ fun i=>q (i+1)):=rfl
  rw [e]
  omega
section
variable {H:Type} {enc:TypeId × Value->H} {W:World} {Good:TypeId->DataW H->Prop} {K:Ctx}
theorem row_ofN (G:Gd Good K.B) (hK:W.heap.size<=K.C) {t e z bz:Nat} (hu:Tryz.prog.underlying t=some (.slice e)) (hc:Tryz.prog.cellsOf e=z) (hb:Tryz.prog.bytesOf e=bz) (hz:0<z) {α:Type} (dft:α) {P:List Value->α->Prop} (f:Nat->α->Nat) {fuel:Nat}
  (each:∀ n,fuel=n+1->∀ {cs:List Value} {x:DataW H × List MemPlace},Td enc W n e cs x->Good e x.1->∃ a,P cs a/\∀ m,f m a<=Rows.uptoBulk x.1) {cs:List Value} {x:DataW H × List MemPlace} (h:Td enc W fuel t cs x) (g:Good t x.1):∃ v l,cs=[v]/\Ar z bz P K W v l/\∀ m,(l.map (f m)).sum<=Rows.uptoBulk x.1:=by
 rcases DataW.trod_slice hu h with ⟨hcs,_⟩|⟨a,len,cap,elems,rest,m,hm,hcs,hx,_,hlc,hcm,hel,hcell,_⟩
 ·exact ⟨_,[],hcs,nil_ar,fun m=>by simp⟩
 ·subst hx
  obtain ⟨hw,hg⟩:=G.row g hu
  rw [List.length_map,hb,hel] at hw
  rw [hc] at hcell
  have key:∀ i,i<len->∃ q:List Value × α,q.1.length=z/\(∀ j,j<z->W.cell? ((a.add (i * z)).add j)=q.1[j]?)/\P q.1 q.2/\∀ m (h:i<elems.length),f m q.2<=Rows.uptoBulk (elems[i]).1:=by
   intro i hi
   have hc':=hcell i hi
   rw [List.getElem?_eq_getElem (by omega)] at hc'
   obtain ⟨cs',h1,h2⟩:=Option.bind_eq_some_iff.1 hc'
   obtain ⟨y,hy,hn⟩:=each m hm h2 (hg _ (List.mem_map.2 ⟨_,List.getElem_mem (by omega),rfl⟩))
   obtain ⟨_,hl,he⟩:=World.cells?_some h1
   exact ⟨(cs',y),hl,he,hy,fun m _=>hn m⟩
  obtain ⟨q,hq⟩:∃ q:Nat->List Value × α,∀ i,i<len->(q i).1.length=z/\(∀ j,j<z->W.cell? ((a.add (i * z)).add j)=(q i).1[j]?)/\P (q i).1 (q i).2/\∀ m (h:i<elems.length),f m (q i).2<=Rows.uptoBulk (elems[i]).1:=by
   refine ⟨fun i=>if h:i<len then (key i h).choose else ([],dft),fun i hi=>?_⟩
   simp only [dif_pos hi]
   exact (key i hi).choose_spec
  refine ⟨_,(List.range len).map (fun i=>(q i).2),hcs,⟨some a,cap,by simp,by simpa using hlc,by simpa using hw,fun i hi=>?_⟩,fun m=>?_⟩
  rotate_left
  ·have h:=sum_bulk (f m) (elems.map fun x=>x.fst) (fun i=>(q i).2) (fun i hi=>by
    have hi2:i<elems.length:=by simpa using hi
    have:=(hq i (by omega)).2.2.2 m hi2
    simpa using this)
   rw [List.length_map,hel] at h
   refine Nat.le_trans h ?_
   simp only [Rows.uptoBulk]
   omega
  have hi':i<len:=by simpa using hi
  obtain ⟨q1,q2,q3,-⟩:=hq i hi'
  obtain ⟨b,off,spot⟩:=a
  obtain ⟨y1,y2,-,-⟩:=hq 0 (by omega)
  have h0:=y2 0 hz
  rw [List.getElem?_eq_getElem (by omega)] at h0
  have hspot:spot=none:=by
   have:=World.cell?_spot h0
   simpa [Addr.add] using this
  subst hspot
  have hblk:b<W.heap.size:=by
   have:=World.block_lt_of_cell? W _ h0
   rw [addr_add,addr_add] at this
   exact this
  refine ⟨b,off,rfl,Nat.lt_of_lt_of_le hblk hK,(q i).1,q1,fun j hj=>?_,by simpa using q3⟩
  have:=q2 j hj
  rw [addr_add,addr_add] at this
  exact this
theorem parts_ofN (G:Gd Good K.B) {t:TypeId} {fs:Array Field} (hu:Tryz.prog.underlying t=some (.struct fs)) {fuel:Nat} {cs:List Value} {x:DataW H × List MemPlace} (h:Td enc W fuel t cs x) (g:Good t x.1) :
  ∃ n ps,fuel=n+1/\x.1=.agg ps/\cs.length=Tryz.prog.cellsOf t/\∀ (i:Nat) (f:Field),fs[i]?=some f->∃ y,Td enc W n f.type ((cs.drop f.offset).take (Tryz.prog.cellsOf f.type)) y/\Good f.type y.1/\ps[i]?=some y.1:=by
 obtain ⟨xs,n,hn,hx,hl,hlen,hf⟩:=DataW.trod_struct hu h
 refine ⟨n,xs.map Prod.fst,hn,by rw [hx],hl,fun i f hif=>?_⟩
 have hi:i<xs.length:=by
  rw [hlen]
  rcases Nat.lt_or_ge i fs.size with h|h
  ·exact h
  ·rw [Array.getElem?_eq_none h] at hif;cases hif
 have h1:=hf i f hif
 rw [List.getElem?_eq_getElem hi] at h1
 refine ⟨xs[i],h1,?_,by simp [List.getElem?_eq_getElem hi]⟩
 subst hx
 exact G.part g hu i f _ hif (by simp [List.getElem?_eq_getElem hi])
theorem st_ofN (G:Gd Good K.B) (hK:W.heap.size<=K.C):∀ (fuel:Nat) {cs:List Value} {x:DataW H × List MemPlace},Td enc W fuel 49 cs x->Good 49 x.1->∃ t,StAt fuel K W cs t/\∀ m,1+inner m t<=Rows.uptoBulk x.1:=by
 intro fuel
 induction fuel using Nat.strongRecOn with
 | ind fuel ih =>
 intro cs x h g
 obtain ⟨n,ps,rfl,hps,hl,hf⟩:=parts_ofN G Tryz.underlying49 h g
 have hl':cs.length=32:=hl.trans (by kernel_rfl)
 obtain ⟨a0,a1,a2,a3,a4,a5,a6,a7,a8,a9,a10,a11,a12,a13,a14,a15,a16,a17,a18,a19,a20,a21,a22,a23,a24,a25,a26,a27,a28,a29,a30,a31,rfl⟩:=lst32 hl'
 obtain ⟨y0,t0,g0,-⟩:=hf 0 _ rfl
 have s0:Td enc W n 3 [a0] y0:=cut t0 Tryz.cl3 rfl
 obtain ⟨y1,t1,g1,-⟩:=hf 1 _ rfl
 have s1:Td enc W n 3 [a1] y1:=cut t1 Tryz.cl3 rfl
 obtain ⟨y2,t2,g2,-⟩:=hf 2 _ rfl
 have s2:Td enc W n 4 [a2] y2:=cut t2 Tryz.cl4 rfl
 obtain ⟨y3,t3,g3,-⟩:=hf 3 _ rfl
 have s3:Td enc W n 9 [a3] y3:=cut t3 Tryz.cl9 rfl
 obtain ⟨y4,t4,g4,-⟩:=hf 4 _ rfl
 have s4:Td enc W n 31 [a4,a5,a6,a7] y4:=cut t4 Tryz.cl31 rfl
 obtain ⟨y5,t5,g5,-⟩:=hf 5 _ rfl
 have s5:Td enc W n 4 [a8] y5:=cut t5 Tryz.cl4 rfl
 obtain ⟨y6,t6,g6,-⟩:=hf 6 _ rfl
 have s6:Td enc W n 42 [a9,a10] y6:=cut t6 Tryz.cl42 rfl
 obtain ⟨y7,t7,g7,-⟩:=hf 7 _ rfl
 have s7:Td enc W n 47 [a11,a12,a13,a14,a15,a16,a17,a18,a19,a20,a21,a22,a23,a24,a25] y7:=cut t7 Tryz.cl47 rfl
 obtain ⟨y8,t8,g8,-⟩:=hf 8 _ rfl
 have s8:Td enc W n 44 [a26,a27,a28,a29] y8:=cut t8 Tryz.cl44 rfl
 obtain ⟨y9,t9,g9,x9⟩:=hf 9 _ rfl
 have s9:Td enc W n 38 [a30] y9:=cut t9 Tryz.cl38 rfl
 obtain ⟨A0,t10,g10,x10⟩:=hf 10 _ rfl
 have s10:Td enc W n 38 [a31] A0:=cut t10 Tryz.cl38 rfl
 obtain ⟨k0,e0⟩:=int_of s0
 injection e0 with e0 _
 subst e0
 obtain ⟨k1,e1⟩:=int_of s1
 injection e1 with e1 _
 subst e1
 obtain ⟨k2,e2⟩:=bool_of s2
 injection e2 with e2 _
 subst e2
 obtain ⟨k3,e3,l3⟩:=text_of G s3 g3
 injection e3 with e3 _
 subst e3
 obtain ⟨p4,r4⟩:=ty_of G hK _ s4 g4
 obtain ⟨k5,e5⟩:=bool_of s5
 injection e5 with e5 _
 subst e5
 obtain ⟨p6,r6⟩:=pl_of G hK s6 g6
 obtain ⟨p7,r7⟩:=va_of G hK s7 g7
 obtain ⟨p8,r8⟩:=opr_of G hK s8 g8
 obtain ⟨v9,k9,e9,r9,c9⟩:=row_ofN (f:=fun m t=>1+inner m t) (e:=49) (z:=32) (bz:=496) (α:=St) (P:=StAt (n - 1) K W) G hK Tryz.underlying38 (by kernel_rfl) (by kernel_rfl) (by decide) (St.bare 0 0) (fun m hm _ _ h g=>by rw [show n - 1=m by omega];exact ih m (by omega) h g) s9 g9
 injection e9 with e9 _
 subst e9
 obtain ⟨A1,k10,e10,r10,c10⟩:=row_ofN (f:=fun m t=>1+inner m t) (e:=49) (z:=32) (bz:=496) (α:=St) (P:=StAt (n - 1) K W) G hK Tryz.underlying38 (by kernel_rfl) (by kernel_rfl) (by decide) (St.bare 0 0) (fun m hm _ _ h g=>by rw [show n - 1=m by omega];exact ih m (by omega) h g) s10 g10
 injection e10 with e10 _
 subst e10
 refine ⟨⟨k0,k1,k2,k3,p4,k5,p6,p7,p8,k9,k10⟩,⟨_,_,_,_,_,_,rfl,l3,⟨_,r4⟩,r6,r7,r8,r9.mono (Below.refl _ _) fun _ _ _ h=>StAt.upto h (Nat.sub_le n 1),r10.mono (Below.refl _ _) fun _ _ _ h=>StAt.upto h (Nat.sub_le n 1)⟩,fun m=>?_⟩
 cases m with
 | zero=>exact one_le _
 | succ m =>
  have h9:=c9 m
  have h10:=c10 m
  rw [hps]
  have h2:=two_le (by decide:(9:Nat)<10) x9 x10
  simp only [Rows.uptoBulk]
  rw [inner_succ]
  unfold cnt
  simp only at h9 h10 ⊢
  omega
theorem fnc_ofN (G:Gd Good K.B) (hK:W.heap.size<=K.C) {fuel:Nat} {cs:List Value} {x:DataW H × List MemPlace} (h:Td enc W fuel 40 cs x) (g:Good 40 x.1):∃ p,FncAt fuel K W cs p/\∀ m,cnt m p.body<=Rows.uptoBulk x.1:=by
 obtain ⟨n,ps,rfl,hps,hl,hf⟩:=parts_ofN G Tryz.underlying40 h g
 have hl':cs.length=10:=hl.trans (by kernel_rfl)
 obtain ⟨a0,a1,a2,a3,a4,a5,a6,a7,a8,a9,rfl⟩:=lst10 hl'
 obtain ⟨y0,t0,g0,-⟩:=hf 0 _ rfl
 have s0:Td enc W n 4 [a0] y0:=cut t0 Tryz.cl4 rfl
 obtain ⟨y1,t1,g1,-⟩:=hf 1 _ rfl
 have s1:Td enc W n 9 [a1] y1:=cut t1 Tryz.cl9 rfl
 obtain ⟨y2,t2,g2,-⟩:=hf 2 _ rfl
 have s2:Td enc W n 36 [a2] y2:=cut t2 Tryz.cl36 rfl
 obtain ⟨y3,t3,g3,-⟩:=hf 3 _ rfl
 have s3:Td enc W n 37 [a3] y3:=cut t3 Tryz.cl37 rfl
 obtain ⟨y4,t4,g4,-⟩:=hf 4 _ rfl
 have s4:Td enc W n 31 [a4,a5,a6,a7] y4:=cut t4 Tryz.cl31 rfl
 obtain ⟨y5,t5,g5,x5⟩:=hf 5 _ rfl
 have s5:Td enc W n 38 [a8] y5:=cut t5 Tryz.cl38 rfl
 obtain ⟨y6,t6,g6,-⟩:=hf 6 _ rfl
 have s6:Td enc W n 3 [a9] y6:=cut t6 Tryz.cl3 rfl
 obtain ⟨k0,e0⟩:=bool_of s0
 injection e0 with e0 _
 subst e0
 obtain ⟨k1,e1,l1⟩:=text_of G s1 g1
 injection e1 with e1 _
 subst e1
 obtain ⟨v2,k2,e2,r2⟩:=row_of (e:=92) (z:=2) (bz:=40) (α:=Lfe) (P:=LfeAt K W) G hK Tryz.underlying36 (by kernel_rfl) (by kernel_rfl) (by decide) ⟨[],[]⟩ (fun _ _ _ _ h g=>lfe_of G hK h g) s2 g2
 injection e2 with e2 _
 subst e2
 obtain ⟨v3,k3,e3,r3⟩:=row_of (e:=51) (z:=6) (bz:=96) (α:=Fld) (P:=FldAt K W) G hK Tryz.underlying37 (by kernel_rfl) (by kernel_rfl) (by decide) ⟨false,[],Ty.zero⟩ (fun _ _ _ _ h g=>fld_of G hK h g) s3 g3
 injection e3 with e3 _
 subst e3
 obtain ⟨p4,r4⟩:=ty_of G hK _ s4 g4
 obtain ⟨v5,k5,e5,r5,c5⟩:=row_ofN (f:=fun m t=>1+inner m t) (e:=49) (z:=32) (bz:=496) (α:=St) (P:=StAt n K W) G hK Tryz.underlying38 (by kernel_rfl) (by kernel_rfl) (by decide) (St.bare 0 0) (fun m hm _ _ h g=>by obtain ⟨q,hq,hn⟩:=st_ofN G hK m h g;exact ⟨q,hq.upto (by omega),hn⟩) s5 g5
 injection e5 with e5 _
 subst e5
 obtain ⟨k6,e6⟩:=int_of s6
 injection e6 with e6 _
 subst e6
 refine ⟨⟨k0,k1,k2,k3,p4,k5,k6⟩,⟨_,_,_,_,rfl,l1,r2,r3,⟨_,r4⟩,r5.mono (Below.refl _ _) fun _ _ _ h=>h.upto (by omega)⟩,fun m=>?_⟩
 have h5:=c5 m
 rw [hps]
 have h2:=part_le (List.mem_of_getElem? x5)
 simp only [Rows.uptoBulk]
 unfold cnt
 omega
theorem crt_ofN (G:Gd Good K.B) (hK:W.heap.size<=K.C) {fuel:Nat} {cs:List Value} {x:DataW H × List MemPlace} (h:Td enc W fuel 25 cs x) (g:Good 25 x.1):∃ p,CrtAt fuel K W cs p/\∀ f∈p.funcs,∀ m,cnt m f.body<=Rows.uptoBulk x.1:=by
 obtain ⟨n,ps,rfl,hps,hl,hf⟩:=parts_ofN G Tryz.underlying25 h g
 have hl':cs.length=2:=hl.trans (by kernel_rfl)
 obtain ⟨a0,a1,rfl⟩:=lst2 hl'
 obtain ⟨y0,t0,g0,-⟩:=hf 0 _ rfl
 have s0:Td enc W n 22 [a0] y0:=cut t0 Tryz.cl22 rfl
 obtain ⟨y1,t1,g1,x1⟩:=hf 1 _ rfl
 have s1:Td enc W n 23 [a1] y1:=cut t1 Tryz.cl23 rfl
 obtain ⟨v0,k0,e0,r0⟩:=row_of (e:=54) (z:=5) (bz:=80) (α:=Sct) (P:=SctAt K W) G hK Tryz.underlying22 (by kernel_rfl) (by kernel_rfl) (by decide) ⟨false,[],[],[],0⟩ (fun _ _ _ _ h g=>sct_of G hK h g) s0 g0
 injection e0 with e0 _
 subst e0
 obtain ⟨v1,k1,e1,r1,c1⟩:=row_ofN (f:=fun m p=>cnt m p.body) (e:=40) (z:=10) (bz:=176) (α:=Fnc) (P:=FncAt n K W) G hK Tryz.underlying23 (by kernel_rfl) (by kernel_rfl) (by decide) ⟨false,[],[],[],Ty.zero,[],0⟩ (fun m hm _ _ h g=>by obtain ⟨q,hq,hn⟩:=fnc_ofN G hK h g;exact ⟨q,hq.upto (by omega),hn⟩) s1 g1
 injection e1 with e1 _
 subst e1
 refine ⟨⟨k0,k1⟩,⟨_,_,rfl,r0,r1.mono (Below.refl _ _) fun _ _ _ h=>h.upto (by omega)⟩,fun f hf m=>?_⟩
 have h1:=c1 m
 rw [hps]
 have h2:=part_le (List.mem_of_getElem? x1)
 have h3:cnt m f.body<=(k1.map fun p=>cnt m p.body).sum:=sum_mem (fun p=>cnt m p.body) hf
 simp only [Rows.uptoBulk]
 omega
set_option maxRecDepth 100000 in
theorem open_crtN {base:Nat} {v:Value} {d:DataW H} {p:List MemPlace} (G:Gd Good K.B) (hK:W.heap.size<=K.C) (hv:Value.okWide Tryz.prog W .any base 25 v) (h:DataW.Trod enc Tryz.prog W 0 (fun _=>true) true 25 v d p) (g:Good 25 d):∃ n cs c,v=.agg cs.toArray/\CrtAt n K W cs c/\∀ f∈c.funcs,∀ m,cnt m f.body<=Rows.uptoBulk d:=by
 obtain ⟨cs,rfl⟩:∃ cs,v=.agg cs:=by
  simp only [Value.okWide,Tryz.underlying25] at hv
  cases v <;> simp_all
 obtain ⟨fuel,hf⟩:=h
 have hf':Td enc W fuel 25 cs.toList (d,p):=by simpa [Value.cells] using hf
 obtain ⟨c,hc,hn⟩:=crt_ofN G hK hf' g
 exact ⟨fuel,cs.toList,c,by simp,hc,hn⟩
end
def Sml {H:Type} (t:TypeId) (d:DataW H):Prop:=Rch t d/\Rows.uptoBulk d<=1048576
theorem gd_sml {H:Type}:Gd (H:=H) Sml 1048576:=by
 refine ⟨fun h=>?_,fun h hu=>?_,fun h hu i f d hf hd=>?_⟩
 ·have:=h.2
  simp only [Rows.uptoBulk] at this
  omega
 ·obtain ⟨h1,h2⟩:=rch_row h.1 hu
  refine ⟨h1,fun d hd=>⟨h2 d hd,?_⟩⟩
  have a:=h.2
  have b:=part_le hd
  simp only [Rows.uptoBulk] at a
  omega
 ·refine ⟨rch_part h.1 hu i f d hf hd,?_⟩
  have a:=h.2
  have b:=part_le (List.mem_of_getElem? hd)
  simp only [Rows.uptoBulk] at a
  omega
def smlK (C:Nat):Ctx:=⟨C,1048576,by decide⟩
theorem returnsInHanded_of_cond_shaped {H:Type} {enc:TypeId × Value->H} {a:Assume} {C:Checked} {os:Os} {f:FuncId} {fn:Func} {s:OpenSpec} {k:(H:Type)->List (DataW H)->Bool} (hk:s.cond=some k) {F:Stop.Interp} {conds:List PathCond} {apart fresh handsOn again:Bool}
  (own:ownKnob C.prog.godebug=none) (started:os.Started) (noInit:C.prog.inits.idxOf? f=none) (hfn:C.prog.funcs[f]?=some fn)
  (witness:∃ (w:World) (tape:Tape) (i:Input),w.os=os/\(w.forCall tape i).Shaped C.prog/\i.vars=[]/\Input.okWide C.prog (w.forCall tape i) .any w.heap.size f i /\
   s.pre6 enc C.prog fn conds apart (w.forCall tape i).memory i.args/\a.holds C.prog (lone (Frame.enter C.prog f i.args .normal) [] (w.forCall tape i)))
  (contract:∀ (W:World) (base:Nat) (args:Array Value) (ds gs:List (DataW H)) (before:List MemPlace),
   (∀ (j:Nat) t v,fn.params[j]?=some t->args[j]?=some v->Value.okWide C.prog W .any base t v) ->
   DataW.Whole enc C.prog fn.params.toList s.vars apart W args.toList ds gs before ->
   k H (ds ++ gs)=true ->
   (DataW.weightsEach C.prog (fn.params.toList ++ s.bare.plain.varTypes C.prog) (ds ++ gs)).all (·<=reachBytes)=true ->
   W.ShapedOpen C.prog ->
   Calls C.prog f args W fun e W'=>∃ v,e=.returned v/\(s.at F).post enc C.prog fn apart fresh handsOn again W args v W') :
  ReturnsInHanded a C os f .any (s.pre6 enc C.prog fn conds apart) ((s.at F).post enc C.prog fn apart fresh handsOn again):=by
 refine returnsInHanded_of_calls own started noInit witness ?_
 intro w tape i _ hsh _ hok hpre _
 obtain ⟨_,_,_,fn',hfn',_,_,_,_,hval⟩:=hok
 have e:fn'=fn:=Option.some.inj (hfn'.symm.trans hfn)
 subst e
 obtain ⟨ds,gs,before,hw,_,hkk⟩:=(OpenSpec.pre_some hk conds apart _ _).1 hpre.1
 have hw':=DataW.Whole.of_heap (w':=w.forCall tape i) (by rfl) hw
 refine (contract (w.forCall tape i) w.heap.size i.args ds gs before hval hw' hkk (hpre.2.weights hw) hsh).mono fun e W' ⟨v,he,hp⟩=>?_
 subst he
 exact ChangeSpec.post_blind hp
end Go.Proofs.YtjenmmkamhplkaaGreat
