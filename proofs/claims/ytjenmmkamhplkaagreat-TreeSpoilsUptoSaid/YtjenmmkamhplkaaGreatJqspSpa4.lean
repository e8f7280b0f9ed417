/- Part of the proof. -/
import Derived.Test.YtjenmmkamhplkaaGreatJqspMty3
import Derived.Test.YtjenmmkamhplkaaGreatJqspYmy4
import Derived.Great.BuildSlice
import Derived.Laws.OwnMore
import Derived.Test.YtjenmmkamhplkaaGreatJqspStm2
namespace Go.Proofs.YtjenmmkamhplkaaGreat
open Go.RowKit
theorem flat_len {z:Nat}:∀ {L:List (List Value)},(∀ c∈L,c.length=z)->L.flatten.length=L.length * z
 | [],_=>by simp
 | c :: L,h=>by
  rw [List.flatten_cons,List.length_append,h c (by simp),flat_len (fun x hx=>h x (List.mem_cons_of_mem _ hx)),List.length_cons,Nat.add_mul]
  omega
theorem flat_at {z:Nat}:∀ {L:List (List Value)},(∀ c∈L,c.length=z)->∀ (i j:Nat) (hi:i<L.length),j<z->L.flatten[i * z+j]?=L[i][j]?
 | [],_,i,_,hi,_=>by simp at hi
 | c :: L,h,0,j,_,hj=>by
  have hc:=h c (by simp)
  rw [List.flatten_cons,Nat.zero_mul,Nat.zero_add,List.getElem?_append_left (by omega)]
  rfl
 | c :: L,h,i+1,j,hi,hj=>by
  have hc:=h c (by simp)
  rw [List.flatten_cons,List.getElem?_append_right (by rw [hc,Nat.add_mul];omega),hc,show (i+1) * z+j - z=i * z+j by rw [Nat.add_mul];omega]
  exact flat_at (fun x hx=>h x (List.mem_cons_of_mem _ hx)) i j (by simpa using hi) hj
theorem flat_div {z j n:Nat} (hz:0<z) (h:j<n * z):∃ i r,i<n/\r<z/\j=i * z+r:=by
 refine ⟨j / z,j % z,?_,Nat.mod_lt _ hz,?_⟩
 ·exact Nat.div_lt_of_lt_mul (by rw [Nat.mul_comm];exact h)
 ·have:=Nat.div_add_mod j z
  rw [Nat.mul_comm] at this
  omega
structure Cel {α:Type} (z:Nat) (P:List Value->α->Prop) (L:List (List Value)) (l:List α):Prop where
 len:L.length=l.length
 each:∀ i (h:i<L.length) (h':i<l.length),L[i].length=z/\P L[i] l[i]/\∀ u∈L[i],u.oneCell'=true
theorem Cel.all {α:Type} {z:Nat} {P:List Value->α->Prop} {L:List (List Value)} {l:List α} (h:Cel z P L l):∀ c∈L,c.length=z:=by
 intro c hc
 obtain ⟨i,hi,rfl⟩:=List.getElem_of_mem hc
 exact (h.each i hi (by rw [← h.len];exact hi)).1
theorem Cel.ones {α:Type} {z:Nat} {P:List Value->α->Prop} {L:List (List Value)} {l:List α} (h:Cel z P L l):∀ u∈L.flatten,u.oneCell'=true:=by
 intro u hu
 obtain ⟨c,hc,hu⟩:=List.mem_flatten.1 hu
 obtain ⟨i,hi,rfl⟩:=List.getElem_of_mem hc
 exact (h.each i hi (by rw [← h.len];exact hi)).2.2 u hu
theorem Cel.mono {α:Type} {z:Nat} {P P':List Value->α->Prop} {L:List (List Value)} {l:List α} (h:Cel z P L l) (hp:∀ cs x,P cs x->P' cs x):Cel z P' L l :=
 ⟨h.len,fun i h1 h2=>⟨(h.each i h1 h2).1,hp _ _ (h.each i h1 h2).2.1,(h.each i h1 h2).2.2⟩⟩
theorem Cel.app {α:Type} {z:Nat} {P:List Value->α->Prop} {L M:List (List Value)} {l m:List α} (h:Cel z P L l) (k:Cel z P M m):Cel z P (L ++ M) (l ++ m):=by
 refine ⟨by rw [List.length_append,List.length_append,h.len,k.len],fun i h1 h2=>?_⟩
 have hl:=h.len
 rw [List.length_append] at h1 h2
 rcases Nat.lt_or_ge i L.length with hi|hi
 ·rw [List.getElem_append_left hi,List.getElem_append_left (by omega)]
  exact h.each i hi (by omega)
 ·rw [List.getElem_append_right hi,List.getElem_append_right (by omega)]
  have:=k.each (i - L.length) (by omega) (by omega)
  simp only [hl] at this ⊢
  exact this
theorem Cel.one {α:Type} {z:Nat} {P:List Value->α->Prop} {c:List Value} {x:α} (hl:c.length=z) (hp:P c x) (h1:∀ u∈c,u.oneCell'=true):Cel z P [c] [x]:=by
 refine ⟨rfl,fun i h _=>?_⟩
 obtain rfl:i=0:=by simp at h;omega
 exact ⟨hl,hp,h1⟩
theorem Cel.drop {α:Type} {z:Nat} {P:List Value->α->Prop} {L:List (List Value)} {l:List α} (h:Cel z P L l):Cel z P (L.drop 1) (l.drop 1):=by
 refine ⟨by rw [List.length_drop,List.length_drop,h.len],fun i h1 h2=>?_⟩
 rw [List.length_drop] at h1 h2
 rw [List.getElem_drop,List.getElem_drop]
 exact h.each (1+i) (by omega) (by omega)
def Sou (w:World) (v:Value) (m:Nat) (news:List Value):Prop :=
 ∃ ao c,v=.slice ao m c/\(ao=none->m=0)/\∀ j u,news[j]?=some u->∃ b o,ao=some ⟨b,o,none⟩/\w.cell? ⟨b,o+j,none⟩=some u
theorem Sou.keep {w w':World} {v:Value} {m:Nat} {news:List Value} (h:Sou w v m news) (hk:∀ (p:Addr) u,w.cell? p=some u->w'.cell? p=some u):Sou w' v m news:=by
 obtain ⟨ao,c,e,h1,h2⟩:=h
 refine ⟨ao,c,e,h1,fun j u hu=>?_⟩
 obtain ⟨b,o,e,hc⟩:=h2 j u hu
 exact ⟨b,o,e,hk _ _ hc⟩
theorem Ar.cel {α:Type} {z bz:Nat} (hz:0<z) {P:List Value->α->Prop} {K:Ctx} {w:World} {v:Value} {l:List α} (h:Ar z bz P K w v l) (h1:∀ cs x,P cs x->∀ u∈cs,u.oneCell'=true) :
  ∃ L,Cel z P L l/\∃ ao cap,v=.slice ao l.length cap/\l.length<=cap/\(ao=none->l.length=0)/\(∀ j u,L.flatten[j]?=some u->∃ b o,ao=some ⟨b,o,none⟩/\b<K.C/\w.cell? ⟨b,o+j,none⟩=some u):=by
 obtain ⟨ao,cap,e,hc,hb,hA⟩:=h.shape
 have key:∀ i,∃ cs:List Value,∀ (hi:i<l.length),cs.length=z/\P cs l[i]/\∃ b o,ao=some ⟨b,o,none⟩/\b<K.C/\∀ j,j<z->w.cell? ⟨b,o+i * z+j,none⟩=cs[j]?:=by
  intro i
  by_cases hi:i<l.length
  ·obtain ⟨b,o,e,hbC,cs,hl,hcs,hp⟩:=hA i hi
   exact ⟨cs,fun _=>⟨hl,hp,b,o,e,hbC,hcs⟩⟩
  ·exact ⟨[],fun h=>absurd h hi⟩
 obtain ⟨q,hq⟩:∃ q:Nat->List Value,∀ i (hi:i<l.length),(q i).length=z/\P (q i) l[i]/\∃ b o,ao=some ⟨b,o,none⟩/\b<K.C/\∀ j,j<z->w.cell? ⟨b,o+i * z+j,none⟩=(q i)[j]? :=
  ⟨fun i=>(key i).choose,fun i hi=>(key i).choose_spec hi⟩
 have hC:Cel z P ((List.range l.length).map q) l:=by
  refine ⟨by simp,fun i h1' h2'=>?_⟩
  obtain ⟨a1,a2,_⟩:=hq i h2'
  simp only [List.getElem_map,List.getElem_range]
  exact ⟨a1,a2,h1 _ _ a2⟩
 refine ⟨_,hC,ao,cap,e,hc,fun hn=>?_,fun j u hu=>?_⟩
 ·rcases Nat.eq_zero_or_pos l.length with h0|h0
  ·exact h0
  ·obtain ⟨b,o,e',_⟩:=hA 0 h0
   rw [hn] at e';cases e'
 ·have hjl:j<l.length * z:=by
   have:=(List.getElem?_eq_some_iff.1 hu).1
   rw [flat_len hC.all] at this
   simpa using this
  obtain ⟨i,r,hi,hr,rfl⟩:=flat_div hz hjl
  obtain ⟨a1,a2,b,o,e',hbC,hcs⟩:=hq i hi
  rw [flat_at hC.all i r (by simpa using hi) hr] at hu
  simp only [List.getElem_map,List.getElem_range] at hu
  refine ⟨b,o,e',hbC,?_⟩
  rw [← hu,← hcs r hr,Nat.add_assoc]
theorem ar_own {α:Type} {z bz B el:Nat} {P:List Value->α->Prop} {K:Ctx} {w:World} {v:Value} {L:List (List Value)} {l:List α} (hc:Cel z P L l) (h:w.ownsRow B el z v l.length L.flatten) (hK:w.heap.size<=K.C) (hb:l.length * bz<=140737488355328):Ar z bz P K w v l:=by
 obtain ⟨hlen,h⟩:=h
 rcases h with ⟨rfl,h0⟩|⟨g,cap,cur,rfl,hg,hh,h1,h2,h3,h4⟩
 ·have:l=[]:=List.length_eq_zero_iff.1 h0
  subst this
  exact nil_ar
 ·have hR:Row w g el cur.toList:=⟨by simpa using hh⟩
  refine ⟨some ⟨g,0,none⟩,cap,rfl,h1,hb,fun i hi=>?_⟩
  have hi':i<L.length:=by rw [hc.len];exact hi
  obtain ⟨a1,a2,_⟩:=hc.each i hi' hi
  refine ⟨g,0,rfl,Nat.lt_of_lt_of_le hR.lt hK,L[i],a1,fun j hj=>?_,a2⟩
  have e1:=flat_at hc.all i j hi' hj
  rw [← e1,Nat.zero_add,hR.cell]
  have h5:(cur.toList.take (l.length * z))[i * z+j]?=L.flatten[i * z+j]?:=by rw [h4]
  have hlt:i * z+j<l.length * z:=by
   have:(i+1) * z<=l.length * z:=Nat.mul_le_mul_right _ hi
   rw [Nat.add_mul] at this
   omega
  rw [List.getElem?_take_of_lt hlt] at h5
  exact h5
theorem run_appS {w:World} {B t e z bz ty n m:Nat} {Z:Value} {v u:Value} {xs news:List Value} (hu:Tryz.prog.underlying t=some (.slice e)) (hz:(Tryz.prog.info? e).map (fun i=>(i.zero,i.size,i.bytes))=some (some Z,z,bz)) (hZ:Z.cells.size=z) (h0:0<z)
  (hown:w.ownsRow B e z v n xs) (hB:B<=w.heap.size) (hs:Sou w u m news) (hl:news.length=m * z) (h1:∀ x∈news,x.oneCell'=true) (hn:n+m<=100000) (hbz:bz<=1000) :
  ∃ v' w',(Builtin.append_ #[t,t] ty #[v,u]).run Tryz.prog w=.ok v' w'/\w'.ownsRow B e z v' (n+m) (xs ++ news)/\w.grownBy w' v.ownBlock:=by
 obtain ⟨i0,hi,hz0,hz1,hz2⟩:=info_parts hz
 obtain ⟨ao,c,rfl,hno,hcell⟩:=hs
 cases ao with
 | none =>
  obtain rfl:=hno rfl
  obtain rfl:news=[]:=List.length_eq_zero_iff.1 (by rw [hl];omega)
  refine ⟨v,w,?_,by simpa using hown,⟨rfl,rfl,rfl,Nat.le_refl _,fun _ _ _=>rfl⟩⟩
  rcases hown.2 with ⟨rfl,rfl⟩|⟨g,cap,cur,rfl,_,_,hnc,_⟩
  ·simp [Builtin.append_,run_underlying hu,sizeOf,typeInfo,hi,Builtin.lenOf,Builtin.firstCells]
  ·simp [Builtin.append_,run_underlying hu,sizeOf,typeInfo,hi,Builtin.lenOf,Builtin.firstCells,hnc,storeCells]
 | some ad =>
  obtain ⟨v',w',hrr,h2,h3,_⟩:=run_append_own_at (P:=Tryz.prog) w B t ty e i0 Z z bz hu hi hz0 hz1 hz2 hZ h0 _ _ _ hown ad m c news hl (fun j x hj=>by
   obtain ⟨b,o,e',hc⟩:=hcell j x hj
   cases e'
   rw [addr_add];exact hc) h1 (by unfold maxLen;omega) (by
    have:(n+m) * bz<=100000 * 1000:=Nat.mul_le_mul hn hbz
    omega) hB
  exact ⟨v',w',hrr,h2,h3⟩
theorem wpo_appS {o:Oper} {a:Act} {K:Act->World->Prop} {Q:Exit->Act->World->Prop} {w:World} {B t e z bz n m:Nat} {Z:Value} {v u:Value} {xs news:List Value} (s x:Operand) (ho:o.op=.call { callee:=.builtin .append,args:=#[s,x],argTypes:=#[t,t] })
  (hu:Tryz.prog.underlying t=some (.slice e)) (hz:(Tryz.prog.info? e).map (fun i=>(i.zero,i.size,i.bytes))=some (some Z,z,bz)) (hZ:Z.cells.size=z) (h0:0<z) (hs:a.eval s=v) (hx:a.eval x=u)
  (hown:w.ownsRow B e z v n xs) (hB:B<=w.heap.size) (hsr:Sou w u m news) (hl:news.length=m * z) (h1:∀ x∈news,x.oneCell'=true) (hn:n+m<=100000) (hbz:bz<=1000)
  (k:∀ v' w',w'.ownsRow B e z v' (n+m) (xs ++ news)->w.grownBy w' v.ownBlock->K (a.put o.dst v') w'):Oper.wp Tryz.prog o a w K Q:=by
 obtain ⟨v',w',hrr,h2,h3⟩:=run_appS (ty:=o.type) hu hz hZ h0 hown hB hsr hl h1 hn hbz
 unfold Oper.wp execOp
 simp only [ho,resolve,invoke,builtin,Sem.run_bind,Sem.run_pure,Result.andThen_ok,List.map_toArray,List.map_cons,List.map_nil,hs,hx,hrr]
 exact k v' w' h2 h3

structure Slo (ds:List Nat) (a0 a:Act) (f:Nat->Value):Prop where
 size:a.tmps.size=a0.tmps.size
 defers:a.defers=a0.defers
 out:∀ k,k ∉ ds->a.tmps[k]?=a0.tmps[k]?
 inn:∀ k,k∈ds->a.tmps[k]?=some (f k)
def upd (f:Nat->Value) (k:Nat) (v:Value):Nat->Value:=fun j=>if j=k then v else f j
theorem upd_at (f:Nat->Value) (k:Nat) (v:Value):upd f k v k=v:=by simp [upd]
theorem upd_ne (f:Nat->Value) {k j:Nat} (v:Value) (h:j≠k):upd f k v j=f j:=by simp [upd,h]
theorem Slo.start {ds:List Nat} {a:Act} (h:∀ k∈ds,k<a.tmps.size):Slo ds a a (fun k=>a.tmps.getD k undef):=by
 refine ⟨rfl,rfl,fun _ _=>rfl,fun k hk=>?_⟩
 have:=h k hk
 rw [Array.getElem?_eq_getElem this]
 simp [Array.getD,this]
theorem Slo.put {ds:List Nat} {a0 a:Act} {f:Nat->Value} (h:Slo ds a0 a f) {k:Nat} (hk:k∈ds) (v:Value):Slo ds a0 (a.put (some k) v) (upd f k v):=by
 have hs:k<a.tmps.size:=by
  have:=h.inn k hk
  rcases Nat.lt_or_ge k a.tmps.size with h'|h'
  ·exact h'
  ·rw [Array.getElem?_eq_none h'] at this;cases this
 refine ⟨by simp [Act.put,h.size],h.defers,fun j hj=>?_,fun j hj=>?_⟩
 ·have hne:k≠j:=fun e=>hj (e ▸ hk)
  show (a.tmps.setIfInBounds k v)[j]?=_
  rw [Array.getElem?_setIfInBounds,if_neg hne];exact h.out j hj
 ·show (a.tmps.setIfInBounds k v)[j]?=_
  rw [Array.getElem?_setIfInBounds]
  by_cases e:k=j
  ·subst e;rw [if_pos rfl,if_pos hs,upd_at]
  ·rw [if_neg e,upd_ne _ _ (fun h=>e h.symm)];exact h.inn j hj
theorem Slo.none {ds:List Nat} {a0 a:Act} {f:Nat->Value} (h:Slo ds a0 a f) (v:Value):Slo ds a0 (a.put Option.none v) f:=h
theorem Slo.at_ {ds:List Nat} {a0 a:Act} {f:Nat->Value} (h:Slo ds a0 a f) {k:Nat} (hk:k∈ds):a.eval (.tmp k)=f k:=by
 show a.tmps.getD k undef=_
 have:=h.inn k hk
 rw [Array.getD_eq_getD_getElem?,this];rfl
theorem Slo.old {ds:List Nat} {a0 a:Act} {f:Nat->Value} (h:Slo ds a0 a f) {k:Nat} (hk:k ∉ ds):a.eval (.tmp k)=a0.eval (.tmp k):=by
 show a.tmps.getD k undef=a0.tmps.getD k undef
 rw [Array.getD_eq_getD_getElem?,Array.getD_eq_getD_getElem?,h.out k hk]
theorem Slo.eq {ds:List Nat} {a0 a:Act} {f:Nat->Value} (h:Slo ds a0 a f):a={ tmps:=ds.foldl (fun t k=>t.setIfInBounds k (f k)) a0.tmps,defers:=a0.defers }:=by
 have key:∀ (l:List Nat) (t:Array Value),(∀ k,k∈l->k<t.size)->(l.foldl (fun t k=>t.setIfInBounds k (f k)) t).size=t.size/\∀ j,(l.foldl (fun t k=>t.setIfInBounds k (f k)) t)[j]?=if j∈l then some (f j) else t[j]?:=by
  intro l
  induction l with
  | nil=>intro t _;simp
  | cons x l ih =>
   intro t ht
   have hx:=ht x (by simp)
   obtain ⟨i1,i2⟩:=ih (t.setIfInBounds x (f x)) (fun k hk=>by simpa using ht k (List.mem_cons_of_mem _ hk))
   refine ⟨by rw [List.foldl_cons,i1];simp,fun j=>?_⟩
   rw [List.foldl_cons,i2 j,Array.getElem?_setIfInBounds]
   by_cases hj:j∈l
   ·rw [if_pos hj,if_pos (List.mem_cons_of_mem _ hj)]
   ·rw [if_neg hj]
    by_cases e:x=j
    ·subst e;rw [if_pos rfl,if_pos hx,if_pos (by simp)]
    ·rw [if_neg e,if_neg (by simp [hj];exact fun h=>e h.symm)]
 have hlt:∀ k,k∈ds->k<a0.tmps.size:=by
  intro k hk
  have:=h.inn k hk
  rw [← h.size]
  rcases Nat.lt_or_ge k a.tmps.size with h'|h'
  ·exact h'
  ·rw [Array.getElem?_eq_none h'] at this;cases this
 obtain ⟨_,k2⟩:=key ds a0.tmps hlt
 have e:a.tmps=ds.foldl (fun t k=>t.setIfInBounds k (f k)) a0.tmps:=by
  apply Array.ext_getElem?
  intro j
  rw [k2 j]
  by_cases hj:j∈ds
  ·rw [if_pos hj];exact h.inn j hj
  ·rw [if_neg hj];exact h.out j hj
 have hd:=h.defers
 cases a
 simp only at e hd
 rw [e,hd]
theorem wpOp_run {ops:Array Oper} {Q:Exit->Act->World->Prop} {i:Nat} {K:Act->World->Prop} {a:Act} {w w':World} {o:Oper} {v:Value} (ho:ops[i]?=some o) (hg:o.guard=none) (h:(execOp a.eval o).run Tryz.prog w=.ok (.value v) w') (k:K (a.put o.dst v) w'):wpOp Tryz.prog ops Q i K a w:=by
 unfold wpOp
 rw [ho]
 have hw:Region.wanted o (yielded ops a.tmps)=true:=by unfold Region.wanted;rw [hg]
 simp only [hw,if_true]
 refine .inl ?_
 unfold Oper.wp
 rw [h];exact k
theorem wpOp_skip {ops:Array Oper} {Q:Exit->Act->World->Prop} {i:Nat} {K:Act->World->Prop} {a:Act} {w w':World} {o:Oper} (ho:ops[i]?=some o) (hg:o.guard=none) (h:(execOp a.eval o).run Tryz.prog w=.ok .skip w') (k:K (a.put o.dst undef) w'):wpOp Tryz.prog ops Q i K a w:=by
 unfold wpOp
 rw [ho]
 have hw:Region.wanted o (yielded ops a.tmps)=true:=by unfold Region.wanted;rw [hg]
 simp only [hw,if_true]
 refine .inl ?_
 unfold Oper.wp
 rw [h];exact k
theorem wpOp_wp {ops:Array Oper} {Q:Exit->Act->World->Prop} {i:Nat} {K:Act->World->Prop} {a:Act} {w:World} {o:Oper} (ho:ops[i]?=some o) (hg:o.guard=none) (h:o.wp Tryz.prog a w K Q):wpOp Tryz.prog ops Q i K a w:=by
 unfold wpOp
 rw [ho]
 have hw:Region.wanted o (yielded ops a.tmps)=true:=by unfold Region.wanted;rw [hg]
 simp only [hw,if_true]
 exact .inl h
theorem ownS {w w':World} {B t s n:Nat} {v:Value} {xs:List Value} (h:w.ownsRow B t s v n xs) (hs:∀ k,v.ownBlock=some k->w'.heap[k]?=w.heap[k]?):w'.ownsRow B t s v n xs:=by
 refine ⟨h.1,?_⟩
 rcases h.2 with hn|⟨g,cap,cur,rfl,hb,hgg,rest⟩
 ·exact .inl hn
 ·exact .inr ⟨g,cap,cur,rfl,hb,by rw [hs g rfl];exact hgg,rest⟩
theorem ownG {w w':World} {B t s n:Nat} {r:Option Nat} {v:Value} {xs:List Value} (h:w.ownsRow B t s v n xs) (hg:w.grownBy w' r) (hn:∀ k,v.ownBlock=some k->r≠some k):w'.ownsRow B t s v n xs :=
 ownS h (fun k e=>hg.block k (h.lt k e).2 (fun h'=>hn k e h'.symm))
theorem rowG {w w':World} {g t:Nat} {r:Option Nat} {L:List Value} (h:Row w g t L) (hg:w.grownBy w' r) (hn:r≠some g):Row w' g t L :=
 ⟨(hg.block g h.lt (fun h'=>hn h'.symm)).trans h.heap⟩
theorem own_typ {w:World} {B t s n:Nat} {v:Value} {xs:List Value} (h:w.ownsRow B t s v n xs) {k:Nat} (hk:v.ownBlock=some k):∃ cur,w.heap[k]?=some (.cells cur t (0,0)):=by
 rcases h.2 with ⟨rfl,_⟩|⟨g,cap,cur,rfl,_,hgg,_⟩
 ·cases hk
 ·cases hk;exact ⟨cur,hgg⟩
theorem own_ne {w:World} {B t s n B' t' s' n':Nat} {v v':Value} {xs xs':List Value} (h:w.ownsRow B t s v n xs) (h':w.ownsRow B' t' s' v' n' xs') (ht:t≠t'):∀ k,v.ownBlock=some k->v'.ownBlock≠some k:=by
 intro k hk hk'
 obtain ⟨c,e⟩:=own_typ h hk
 obtain ⟨c',e'⟩:=own_typ h' hk'
 rw [e] at e'
 simp only [Option.some.injEq,Obj.cells.injEq] at e'
 exact ht e'.2.1
theorem own_rowne {w:World} {B t s n g t':Nat} {v:Value} {xs L:List Value} (h:w.ownsRow B t s v n xs) (h':Row w g t' L) (ht:t≠t'):v.ownBlock≠some g:=by
 intro hk
 obtain ⟨c,e⟩:=own_typ h hk
 have e':=h'.heap
 rw [e] at e'
 simp only [Option.some.injEq,Obj.cells.injEq] at e'
 exact ht e'.2.1
theorem own_slice {w:World} {B t s n:Nat} {v:Value} {xs:List Value} (h:w.ownsRow B t s v n xs):∃ ao cap,v=.slice ao n cap:=by
 rcases h.2 with ⟨e,h0⟩|⟨g,cap,cur,e,_⟩
 ·exact ⟨_,_,by rw [e,h0]⟩
 ·exact ⟨_,_,e⟩
theorem grown_le {w w':World} {C:Nat} {r:Option Nat} (h:w.grownBy w' r) (hB:C<=w.heap.size) (hr:∀ k,r=some k->C<=k):Below C w w':=(Below.refl C w).grown h hB hr
theorem own_lit {w:World} {C t s:Nat} (cs:List Value) (hl:cs.length=s) (hC:C<=w.heap.size):(w.alloc (.cells cs.toArray t)).ownsRow C t s (.slice (some ⟨w.heap.size,0,none⟩) 1 1) 1 cs:=by
 have:=World.ownsRow_lit (base:=C) (e:=t) (size:=s) w cs.toArray 1 hC (by decide) (by simp [hl])
 simpa using this
theorem own_nil0 {w:World} {C t s:Nat} (hC:C<=w.heap.size):(w.alloc (.cells #[] t)).ownsRow C t s (.slice (some ⟨w.heap.size,0,none⟩) 0 0) 0 []:=by
 have:=World.ownsRow_lit (base:=C) (e:=t) (size:=s) w #[] 0 hC (by decide) (by simp)
 simpa using this
theorem run_ld {o:Oper} {ev:Operand->Value} {w:World} {ty b:Nat} {x:Operand} {cs:List Value} {d:TypeDesc} (ho:o.op=.load ty x) (hx:ev x=.pointer (some ⟨b,0,none⟩)) (hr:w.rangeAt b 0 cs) (hu:Tryz.prog.underlying ty=some d) (hd:d.isRow=true) (hi:(Tryz.prog.info? ty).map (·.size)=some cs.length):(execOp ev o).run Tryz.prog w=.ok (.value (.agg cs.toArray)) w:=by
 unfold execOp
 simp only [ho,hx,Instr.loadAt,Instr.sureAddr,Sem.run_bind,Sem.run_pure,Result.andThen_ok,run_loadVar_mid w b 0 ty cs d hr hu hd hi]
theorem run_bs {o:Oper} {a:Act} {w:World} {K:Act->World->Prop} {Q:Exit->Act->World->Prop} (ty el sz bz:Nat) (Z:List Value) (x:Operand) (ho:o.op=.buildSlice ty 1 #[(0,x)])
  (hu:Tryz.prog.underlying ty=some (.slice el)) (hz:(Tryz.prog.info? el).map (fun i=>(i.zero,i.size,i.bytes))=some (some (.agg Z.toArray),sz,bz)) (h1:0<sz) (h2:sz<=1000)
  (cs:List Value) (hl:cs.length=sz) (hx:a.eval x=.agg cs.toArray)
  (k:K (a.put o.dst (.slice (some ⟨w.heap.size,0,none⟩) 1 1)) (w.alloc (.cells cs.toArray el))):o.wp Tryz.prog a w K Q:=by
 obtain ⟨i0,hi,hz0,hz1,hz2⟩:=info_parts hz
 refine wp_buildSlice ty el 1 _ ho cs.toArray i0 (.agg Z.toArray) hu hi hz0 (by rw [hz1];omega) (by rw [hz1];omega) ?_ k
 have hw:=Go.Great.fill_whole (s:=sz) h1 [.agg cs.toArray] ((Array.range (1 * sz)).map ((Value.agg Z.toArray).cells[· % (Value.agg Z.toArray).cells.size]!)) (by simp [Value.cells,hl]) (by simp)
 rw [hz1]
 simp only [List.map_toArray,List.map_cons,List.map_nil,hx]
 simp only [List.zipIdx_cons,List.zipIdx_nil,List.map_cons,List.map_nil] at hw
 refine Eq.trans hw ?_
 simp [Value.cells]
theorem hed_of {ops:Array Oper} (h:((List.range ops.size).all fun i=>((ops[i]?.map fun o=>o.after.toList.all fun e=>decide (e.on<i)).getD true))=true):∀ (i:Nat) (o:Oper),ops[i]?=some o->∀ e∈o.after.toList,e.on<i:=by
 intro i o ho e he
 have hi:i<ops.size:=by
  rcases Nat.lt_or_ge i ops.size with h'|h'
  ·exact h'
  ·rw [Array.getElem?_eq_none h'] at ho;cases ho
 have h1:=List.all_eq_true.1 h i (List.mem_range.2 hi)
 rw [ho] at h1
 simp only [Option.map_some,Option.getD_some] at h1
 exact of_decide_eq_true (List.all_eq_true.1 h1 e he)
def Cls (ops:Array Oper) (d:Nat->Bool):Prop:=∀ (i:Nat) (o:Oper),ops[i]?=some o->d i=true->∀ e∈o.after.toList,Region.binds .any e=true->d e.on=true
theorem Cls.start {ops:Array Oper}:Cls ops (fun j=>decide (ops.size<=j)):=by
 intro i o ho hd
 have hi:i<ops.size:=by
  rcases Nat.lt_or_ge i ops.size with h'|h'
  ·exact h'
  ·rw [Array.getElem?_eq_none h'] at ho;cases ho
 have:=of_decide_eq_true hd
 omega
theorem Cls.step {ops:Array Oper} {d:Nat->Bool} (h:Cls ops d) {i:Nat} {o:Oper} (ho:ops[i]?=some o) (hed:∀ e∈o.after.toList,Region.binds .any e=true->d e.on=true):Cls ops (fun j=>if j=i then true else d j):=by
 intro j p hp hd e he hb
 show (if e.on=i then true else d e.on)=true
 by_cases hx:e.on=i
 ·rw [if_pos hx]
 ·rw [if_neg hx]
  by_cases hj:j=i
  ·subst hj
   rw [ho] at hp
   cases hp
   exact hed e he hb
  ·simp only [if_neg hj] at hd
   exact h j p hp hd e he hb
theorem Cls.no {ops:Array Oper} {d:Nat->Bool} (h:Cls ops d) (l:Nat) {o:Oper} (ho:ops[l]?=some o) (e:Edge) (he:e∈o.after.toList) (hb:Region.binds .any e=true) (hd:d e.on=false):d l=false:=by
 cases hl:d l with
 | false=>rfl
 | true=>exact absurd (hd.symm.trans (h l o ho hl e he hb)) Bool.false_ne_true

def ops20:Array Oper:=#[{ dst:=some 91,op:=Op.buildSlice 38 0 #[],type:=38,pos:="more.go:34",after:=#[],guard:=none },
  { dst:=some 92,op:=Op.fieldAddr 40 (Operand.tmp 5) 5,type:=0,pos:="more.go:34",after:=#[],guard:=none },
  { dst:=some 93,op:=Op.load 38 (Operand.tmp 92),type:=38,pos:="more.go:34",after:=#[{ on:=1,ground:=Ground.data }],guard:=none },
  { dst:=some 94,op:=Op.call { callee:=Callee.builtin Builtin.append,args:=#[Operand.tmp 91,Operand.tmp 93],argTypes:=#[38,38] },type:=38,pos:="more.go:34",after:=#[{ on:=0,ground:=Ground.data },{ on:=2,ground:=Ground.data }],guard:=none },
  { dst:=some 95,op:=Op.load 49 (Operand.tmp 6),type:=49,pos:="more.go:34",after:=#[],guard:=none },
  { dst:=some 96,op:=Op.buildSlice 38 1 #[(0,Operand.tmp 95)],type:=38,pos:="more.go:34",after:=#[{ on:=4,ground:=Ground.data }],guard:=none },
  { dst:=some 97,op:=Op.call { callee:=Callee.builtin Builtin.append,args:=#[Operand.tmp 94,Operand.tmp 96],argTypes:=#[38,38] },type:=38,pos:="more.go:34",after:=#[{ on:=3,ground:=Ground.data },{ on:=5,ground:=Ground.data },{ on:=3,ground:=Ground.chain }],guard:=none },
  { dst:=some 98,op:=Op.fieldAddr 40 (Operand.tmp 5) 5,type:=0,pos:="more.go:34",after:=#[{ on:=0,ground:=Ground.phase },{ on:=1,ground:=Ground.phase },{ on:=2,ground:=Ground.phase },{ on:=3,ground:=Ground.phase },{ on:=4,ground:=Ground.phase },{ on:=5,ground:=Ground.phase },{ on:=6,ground:=Ground.phase }],guard:=none },
  { dst:=none,op:=Op.store 38 (Operand.tmp 98) (Operand.tmp 97),type:=0,pos:="more.go:34",after:=#[{ on:=7,ground:=Ground.data },{ on:=6,ground:=Ground.data },{ on:=6,ground:=Ground.chain },{ on:=0,ground:=Ground.phase },{ on:=1,ground:=Ground.phase },{ on:=2,ground:=Ground.phase },{ on:=3,ground:=Ground.phase },{ on:=4,ground:=Ground.phase },{ on:=5,ground:=Ground.phase },{ on:=6,ground:=Ground.phase }],guard:=none }]
structure Mid20 (C g5:Nat) (w0:World) (vb:Value) (m:Nat) (cb S:List Value) (d:Nat->Bool) (f:Nat->Value) (w:World):Prop where
 bel:Below C w0 w
 p0:d 0=true->d 3=false->w.ownsRow C 49 32 (f 91) 0 []
 p1:d 1=true->f 92=.pointer (some ⟨g5,8,none⟩)
 p2:d 2=true->f 93=vb
 p3:d 3=true->d 6=false->w.ownsRow C 49 32 (f 94) m cb
 p4:d 4=true->f 95=.agg S.toArray
 p5:d 5=true->d 6=false->∃ g,f 96=.slice (some ⟨g,0,none⟩) 1 1/\Row w g 49 S/\(d 0=true->d 3=false->(f 91).ownBlock≠some g)
 p6:d 6=true->w.ownsRow C 49 32 (f 97) (m+1) (cb ++ S)
 p7:d 7=true->f 98=.pointer (some ⟨g5,8,none⟩)
theorem Tryz.info49S:(Tryz.prog.info? 49).map (fun i=>(i.zero,i.size,i.bytes))=some (some (.agg (stCells 0 0).toArray),32,496):=by kernel_rfl
theorem Tryz.sz49:(Tryz.prog.info? 49).map (·.size)=some 32:=by kernel_rfl
theorem rfa40 (ev:Operand->Value) (g:Nat) (h:ev (.tmp 5)=.pointer (some ⟨g,0,none⟩)) (w:World) (d:Option Nat) (ty:Nat) (p:String) (af:Array _):(execOp ev { dst:=d,op:=.fieldAddr 40 (.tmp 5) 5,type:=ty,pos:=p,after:=af,guard:=none }).run Tryz.prog w=.ok (.value (.pointer (some ⟨g,8,none⟩))) w:=by
 unfold execOp
 simp only [h]
 go_simp
theorem rbs38 (ev:Operand->Value) (w:World) (d:Option Nat) (ty:Nat) (p:String) (af:Array _):(execOp ev { dst:=d,op:=.buildSlice 38 0 #[],type:=ty,pos:=p,after:=af,guard:=none }).run Tryz.prog w=.ok (.value (.slice (some ⟨w.heap.size,0,none⟩) 0 0)) (w.alloc (.cells #[] 49)):=by
 unfold execOp
 go_simp
theorem rld38 (ev:Operand->Value) (g:Nat) (v:Value) (h:ev (.tmp 92)=.pointer (some ⟨g,8,none⟩)) (w:World) (hc:w.cell? ⟨g,8,none⟩=some v) (d:Option Nat) (ty:Nat) (p:String) (af:Array _):(execOp ev { dst:=d,op:=.load 38 (.tmp 92),type:=ty,pos:=p,after:=af,guard:=none }).run Tryz.prog w=.ok (.value v) w:=by
 unfold execOp
 simp only [h]
 go_simp
theorem rst38 (ev:Operand->Value) (g:Nat) (old:Value) (ao:Option Addr) (n c:Nat) (h:ev (.tmp 98)=.pointer (some ⟨g,8,none⟩)) (h2:ev (.tmp 97)=.slice ao n c) (w:World) (hc:w.cell? ⟨g,8,none⟩=some old) (hf:w.frozen? ⟨g,8,none⟩=false) (ty:Nat) (p:String) (af:Array _):(execOp ev { dst:=none,op:=.store 38 (.tmp 98) (.tmp 97),type:=ty,pos:=p,after:=af,guard:=none }).run Tryz.prog w=.ok .skip (w.setCell ⟨g,8,none⟩ (.slice ao n c)):=by
 unfold execOp
 simp only [h,h2]
 go_simp
theorem Mid20.pure {C g5:Nat} {w0:World} {vb:Value} {m:Nat} {cb S:List Value} {d:Nat->Bool} {f:Nat->Value} {w:World} (H:Mid20 C g5 w0 vb m cb S d f w) {i:Nat} {v:Value}
  (hi:(i=1/\v=.pointer (some ⟨g5,8,none⟩))∨(i=2/\v=vb)∨(i=4/\v=.agg S.toArray)∨i=7/\v=.pointer (some ⟨g5,8,none⟩)):Mid20 C g5 w0 vb m cb S (fun j=>if j=i then true else d j) (upd f (91+i) v) w:=by
 rcases hi with ⟨rfl,rfl⟩|⟨rfl,rfl⟩|⟨rfl,rfl⟩|⟨rfl,rfl⟩ <;>
 exact ⟨H.bel,(fun h h'=>by rw [upd_ne _ _ (by decide)];exact H.p0 (by simpa using h) (by simpa using h')),(fun h=>by first|exact upd_at _ _ _|(rw [upd_ne _ _ (by decide)];exact H.p1 (by simpa using h))),(fun h=>by first|exact upd_at _ _ _|(rw [upd_ne _ _ (by decide)];exact H.p2 (by simpa using h))),(fun h h'=>by rw [upd_ne _ _ (by decide)];exact H.p3 (by simpa using h) (by simpa using h')),(fun h=>by first|exact upd_at _ _ _|(rw [upd_ne _ _ (by decide)];exact H.p4 (by simpa using h))),(fun h h'=>by
  obtain ⟨g,e,r,hn⟩:=H.p5 (by simpa using h) (by simpa using h')
  exact ⟨g,by rw [upd_ne _ _ (by decide)];exact e,r,fun x y=>by rw [upd_ne _ _ (by decide)];exact hn (by simpa using x) (by simpa using y)⟩),(fun h=>by first|exact upd_at _ _ _|(rw [upd_ne _ _ (by decide)];exact H.p6 (by simpa using h))),(fun h=>by first|exact upd_at _ _ _|(rw [upd_ne _ _ (by decide)];exact H.p7 (by simpa using h)))⟩
set_option maxHeartbeats 4000000 in
set_option maxRecDepth 20000 in
theorem reg20 {Q:Exit->Act->World->Prop} {a0:Act} {w0:World} {g5 g6 m:Nat} {F S cb:List Value} {vb:Value}
  (h5:a0.eval (.tmp 5)=.pointer (some ⟨g5,0,none⟩)) (h6:a0.eval (.tmp 6)=.pointer (some ⟨g6,0,none⟩)) (hsz:a0.tmps.size=123)
  (r5:Row w0 g5 40 F) (hF:F[8]?=some vb) (r6:Row w0 g6 49 S) (hS:S.length=32) (hS1:∀ u∈S,u.oneCell'=true) (hsrc:Sou w0 vb m cb) (hl:cb.length=m * 32) (h1:∀ u∈cb,u.oneCell'=true) (hm:m<=5000)
  (hQ:∀ (f:Nat->Value) (w:World),Stay (fun k=>k=g5∨w0.heap.size<=k) w0 w->Row w g5 40 (F.set 8 (f 97))->w.ownsRow w0.heap.size 49 32 (f 97) (m+1) (cb ++ S) ->
   Q .normal { tmps:=[91,92,93,94,95,96,97,98].foldl (fun t k=>t.setIfInBounds k (f k)) a0.tmps,defers:=a0.defers } w) :
  (Code.region 20 ops20 true).wp Tryz.prog Q a0 w0:=by
 refine wp_region_inv (ops:=ops20) (Inv:=fun d a w=>∃ f,Slo [91,92,93,94,95,96,97,98] a0 a f/\Cls ops20 d/\(d 8=false->Mid20 w0.heap.size g5 w0 vb m cb S d f w)/\(d 8=true->Stay (fun k=>k=g5∨w0.heap.size<=k) w0 w/\Row w g5 40 (F.set 8 (f 97))/\w.ownsRow w0.heap.size 49 32 (f 97) (m+1) (cb ++ S))) (by kernel_rfl) (hed_of (by kernel_rfl)) ?_ ?_ ?_
 ·refine ⟨_,Slo.start (fun k hk=>by simp at hk;omega),Cls.start,fun _=>?_,fun h=>by simp [ops20] at h⟩
  refine ⟨(Below.refl _ _).drew,?_,?_,?_,?_,?_,?_,?_,?_⟩ <;> exact fun h=>by simp [ops20] at h
 ·intro d a w i o ho hI hdi hed
  obtain ⟨f,hs,hcl,hM,hF9⟩:=hI
  have hcl':=hcl.step ho hed
  have hi:i<9:=by
   rcases Nat.lt_or_ge i ops20.size with h|h
   ·exact h
   ·rw [Array.getElem?_eq_none h] at ho;cases ho
  have e5:a.eval (.tmp 5)=.pointer (some ⟨g5,0,none⟩):=(hs.old (by decide)).trans h5
  have e6:a.eval (.tmp 6)=.pointer (some ⟨g6,0,none⟩):=(hs.old (by decide)).trans h6
  match i,hi with
  | 0,_ =>
   obtain rfl:=Option.some.inj ho
   have h8:=hcl.no 8 rfl ⟨0,.phase⟩ (by simp [ops20]) rfl hdi
   have H:=hM h8
   refine wpOp_run rfl rfl (rbs38 _ _ _ _ _ _) ⟨upd f 91 _,hs.put (by decide) _,hcl',fun _=>?_,fun h=>by simp [h8] at h⟩
   exact ⟨(H.bel.trans (below_le (alloc_one _ _) H.bel.size)),
    fun _ _=>by rw [upd_at];exact own_nil0 H.bel.size,
    fun h=>by rw [upd_ne _ _ (by decide)];exact H.p1 (by simpa using h),
    fun h=>by rw [upd_ne _ _ (by decide)];exact H.p2 (by simpa using h),
    fun h h'=>by rw [upd_ne _ _ (by decide)];exact (H.p3 (by simpa using h) (by simpa using h')).alloc _,
    fun h=>by rw [upd_ne _ _ (by decide)];exact H.p4 (by simpa using h),
    fun h h'=>by
     obtain ⟨g,e,r,hn⟩:=H.p5 (by simpa using h) (by simpa using h')
     refine ⟨g,by rw [upd_ne _ _ (by decide)];exact e,r.alloc _,fun _ _=>?_⟩
     rw [upd_at]
     intro e2
     have hlt:=r.lt
     simp [Value.ownBlock] at e2
     omega,
    fun h=>by rw [upd_ne _ _ (by decide)];exact (H.p6 (by simpa using h)).alloc _,
    fun h=>by rw [upd_ne _ _ (by decide)];exact H.p7 (by simpa using h)⟩
  | 1,_ =>
   obtain rfl:=Option.some.inj ho
   have h8:=hcl.no 8 rfl ⟨1,.phase⟩ (by simp [ops20]) rfl hdi
   have H:=hM h8
   refine wpOp_run rfl rfl (rfa40 _ _ e5 _ _ _ _ _) ⟨upd f 92 _,hs.put (by decide) _,hcl',fun _=>?_,fun h=>by simp [h8] at h⟩
   exact H.pure (.inl ⟨rfl,rfl⟩)
  | 2,_ =>
   obtain rfl:=Option.some.inj ho
   have h8:=hcl.no 8 rfl ⟨2,.phase⟩ (by simp [ops20]) rfl hdi
   have H:=hM h8
   have d1:=hed { on:=1,ground:=.data } (by simp [ops20]) (by rfl)
   have e92:a.eval (.tmp 92)=.pointer (some ⟨g5,8,none⟩):=(hs.at_ (by decide)).trans (H.p1 d1)
   have c8:w.cell? ⟨g5,8,none⟩=some vb:=((r5.below H.bel r5.lt).cell 8).trans hF
   refine wpOp_run rfl rfl (rld38 _ _ _ e92 _ c8 _ _ _ _) ⟨upd f 93 _,hs.put (by decide) _,hcl',fun _=>?_,fun h=>by simp [h8] at h⟩
   exact H.pure (.inr (.inl ⟨rfl,rfl⟩))
  | 3,_ =>
   obtain rfl:=Option.some.inj ho
   have h8:=hcl.no 8 rfl ⟨3,.phase⟩ (by simp [ops20]) rfl hdi
   have H:=hM h8
   have d0:=hed { on:=0,ground:=.data } (by simp [ops20]) (by rfl)
   have d2:=hed { on:=2,ground:=.data } (by simp [ops20]) (by rfl)
   have e91:=hs.at_ (k:=91) (by decide)
   have e93:a.eval (.tmp 93)=vb:=(hs.at_ (by decide)).trans (H.p2 d2)
   have hs3:=hsrc.keep (w':=w) (fun p u h=>(H.bel.cell (World.block_lt_of_cell? w0 p h)).trans h)
   refine wpOp_wp rfl rfl (wpo_appS (.tmp 91) (.tmp 93) rfl Tryz.underlying38 Tryz.info49S (by rfl) (by decide) e91 e93 (H.p0 d0 hdi) H.bel.size hs3 hl h1 (by omega) (by decide) ?_)
   intro v' w' hown hg
   have hO0:=H.p0 d0 hdi
   refine ⟨upd f 94 _,hs.put (by decide) _,hcl',fun _=>?_,fun h=>by simp [h8] at h⟩
   exact ⟨(H.bel.trans (grown_le hg H.bel.size (fun k e=>(hO0.lt k e).1))),
    fun _ h'=>by simp at h',
    fun h=>by rw [upd_ne _ _ (by decide)];exact H.p1 (by simpa using h),
    fun h=>by rw [upd_ne _ _ (by decide)];exact H.p2 (by simpa using h),
    fun _ _=>by rw [upd_at];simpa using hown,
    fun h=>by rw [upd_ne _ _ (by decide)];exact H.p4 (by simpa using h),
    fun h h'=>by
     obtain ⟨g,e,r,hn⟩:=H.p5 (by simpa using h) (by simpa using h')
     exact ⟨g,by rw [upd_ne _ _ (by decide)];exact e,rowG r hg (hn d0 hdi),fun _ y=>by simp at y⟩,
    fun h=>by
     have:=hcl 6 _ rfl (by simpa using h) { on:=3,ground:=.data } (by simp [ops20]) (by rfl)
     exact absurd (hdi.symm.trans this) Bool.false_ne_true,
    fun h=>by rw [upd_ne _ _ (by decide)];exact H.p7 (by simpa using h)⟩
  | 4,_ =>
   obtain rfl:=Option.some.inj ho
   have h8:=hcl.no 8 rfl ⟨4,.phase⟩ (by simp [ops20]) rfl hdi
   have H:=hM h8
   refine wpOp_run rfl rfl (run_ld rfl e6 ((r6.below H.bel r6.lt).range) Tryz.underlying49 rfl (by rw [hS];exact Tryz.sz49)) ⟨upd f 95 _,hs.put (by decide) _,hcl',fun _=>?_,fun h=>by simp [h8] at h⟩
   exact H.pure (.inr (.inr (.inl ⟨rfl,rfl⟩)))
  | 5,_ =>
   obtain rfl:=Option.some.inj ho
   have h8:=hcl.no 8 rfl ⟨5,.phase⟩ (by simp [ops20]) rfl hdi
   have H:=hM h8
   have d4:=hed { on:=4,ground:=.data } (by simp [ops20]) (by rfl)
   have e95:a.eval (.tmp 95)=.agg S.toArray:=(hs.at_ (by decide)).trans (H.p4 d4)
   refine wpOp_wp rfl rfl (run_bs 38 49 32 496 (stCells 0 0) (.tmp 95) rfl Tryz.underlying38 Tryz.info49S (by decide) (by decide) S hS e95 ⟨upd f 96 _,hs.put (by decide) _,hcl',fun _=>?_,fun h=>by simp [h8] at h⟩)
   exact ⟨(H.bel.trans (below_le (alloc_one _ _) H.bel.size)),
    fun h h'=>by rw [upd_ne _ _ (by decide)];exact (H.p0 (by simpa using h) (by simpa using h')).alloc _,
    fun h=>by rw [upd_ne _ _ (by decide)];exact H.p1 (by simpa using h),
    fun h=>by rw [upd_ne _ _ (by decide)];exact H.p2 (by simpa using h),
    fun h h'=>by rw [upd_ne _ _ (by decide)];exact (H.p3 (by simpa using h) (by simpa using h')).alloc _,
    fun h=>by rw [upd_ne _ _ (by decide)];exact H.p4 (by simpa using h),
    fun _ _=>by
     refine ⟨w.heap.size,by rw [upd_at],Row.new w 49 S,fun x y=>?_⟩
     rw [upd_ne _ _ (by decide)]
     intro e
     have:=((H.p0 (by simpa using x) (by simpa using y)).lt _ e).2
     omega,
    fun h=>by rw [upd_ne _ _ (by decide)];exact (H.p6 (by simpa using h)).alloc _,
    fun h=>by rw [upd_ne _ _ (by decide)];exact H.p7 (by simpa using h)⟩
  | 6,_ =>
   obtain rfl:=Option.some.inj ho
   have h8:=hcl.no 8 rfl ⟨6,.phase⟩ (by simp [ops20]) rfl hdi
   have H:=hM h8
   have d3:=hed { on:=3,ground:=.data } (by simp [ops20]) (by rfl)
   have d5:=hed { on:=5,ground:=.data } (by simp [ops20]) (by rfl)
   have e94:=hs.at_ (k:=94) (by decide)
   obtain ⟨g,e,r,-⟩:=H.p5 d5 hdi
   have e96:a.eval (.tmp 96)=.slice (some ⟨g,0,none⟩) 1 1:=(hs.at_ (by decide)).trans e
   have hs6:Sou w (.slice (some ⟨g,0,none⟩) 1 1) 1 S:=⟨_,_,rfl,fun h=>(by cases h),fun j u hu=>⟨g,0,rfl,by rw [Nat.zero_add,r.cell j];exact hu⟩⟩
   have hO3:=H.p3 d3 hdi
   refine wpOp_wp rfl rfl (wpo_appS (.tmp 94) (.tmp 96) rfl Tryz.underlying38 Tryz.info49S (by rfl) (by decide) e94 e96 hO3 H.bel.size hs6 (by omega) hS1 (by omega) (by decide) ?_)
   intro v' w' hown hg
   refine ⟨upd f 97 _,hs.put (by decide) _,hcl',fun _=>?_,fun h=>by simp [h8] at h⟩
   exact ⟨(H.bel.trans (grown_le hg H.bel.size (fun k e=>(hO3.lt k e).1))),
    fun _ h'=>by simp [d3] at h',
    fun h=>by rw [upd_ne _ _ (by decide)];exact H.p1 (by simpa using h),
    fun h=>by rw [upd_ne _ _ (by decide)];exact H.p2 (by simpa using h),
    fun _ h'=>by simp at h',
    fun h=>by rw [upd_ne _ _ (by decide)];exact H.p4 (by simpa using h),
    fun _ h'=>by simp at h',
    fun _=>by rw [upd_at];exact hown,
    fun h=>by rw [upd_ne _ _ (by decide)];exact H.p7 (by simpa using h)⟩
  | 7,_ =>
   obtain rfl:=Option.some.inj ho
   have h8:=hcl.no 8 rfl ⟨7,.data⟩ (by simp [ops20]) rfl hdi
   have H:=hM h8
   refine wpOp_run rfl rfl (rfa40 _ _ e5 _ _ _ _ _) ⟨upd f 98 _,hs.put (by decide) _,hcl',fun _=>?_,fun h=>by simp [h8] at h⟩
   exact H.pure (.inr (.inr (.inr (⟨rfl,rfl⟩))))
  | 8,_ =>
   obtain rfl:=Option.some.inj ho
   have H:=hM hdi
   have d6:=hed { on:=6,ground:=.data } (by simp [ops20]) (by rfl)
   have d7:=hed { on:=7,ground:=.data } (by simp [ops20]) (by rfl)
   have hO:=H.p6 d6
   obtain ⟨ao,cap,e97⟩:=own_slice hO
   have e97':a.eval (.tmp 97)=.slice ao (m+1) cap:=(hs.at_ (by decide)).trans e97
   have e98:a.eval (.tmp 98)=.pointer (some ⟨g5,8,none⟩):=(hs.at_ (by decide)).trans (H.p7 d7)
   have r5w:=r5.below H.bel r5.lt
   refine wpOp_skip rfl rfl (rst38 _ _ _ _ _ _ e98 e97' _ ((r5w.cell 8).trans hF) (r5w.fz 8) _ _ _) ⟨f,hs.none _,hcl',fun h=>by simp at h,fun _=>⟨?_,?_,?_⟩⟩
   ·have hst:Stay (fun k=>k=g5∨w0.heap.size<=k) w0 w:=⟨H.bel.os,H.bel.tape,H.bel.output,H.bel.size,fun k hk hn=>H.bel.block k (by omega)⟩
    exact hst.set (fun _=>.inl rfl) _ _
   ·rw [e97];exact r5w.set 8 _
   ·exact ownsRow_setCell_below hO (show (⟨g5,8,none⟩:Addr).block<w0.heap.size from r5.lt) _
 ·rintro a w ⟨f,hs,-,-,hF9⟩
  obtain ⟨h1,h2,h3⟩:=hF9 rfl
  rw [hs.eq]
  exact hQ f w h1 h2 h3

def spV (x:Int):Va:={ Va.zero with kind:=1,a:=⟨1,x,Pl.zero⟩ }
def spS (k x:Int) (nm:Bs):St:=⟨k,0,false,nm,Ty.zero,true,Pl.zero,spV x,Opr.zero,[],[]⟩
def spX (fs:List Fld):Sct:=⟨false,[113],[],fs,0⟩
def spF (mu:Bool) (k:Int):Fld:=⟨mu,[97],⟨k,[],[],[]⟩⟩
theorem not_crt {n:Nat} {S:List Sct} {R:List Fnc} {x:Sct} {f:Fnc} (h:¬ MaySct x∨¬ MayFnc n f):¬ MayCrt n ⟨S ++ [x],f :: R⟩:=by
 rintro ⟨-,hs,hf⟩
 rcases h with h|h
 ·exact h (hs x (by simp))
 ·exact h (hf f (by simp))
theorem not_name {n:Nat} {f:Fnc} (h:f.name=[119,104,105,108,101]):¬ MayFnc n f:=by
 rintro ⟨h1,-⟩
 rw [h] at h1
 exact absurd h1 (by decide)
theorem not_field:¬ MaySct (spX [spF true 1]):=by
 rintro ⟨-,-,-,h⟩
 have:=(h _ (List.mem_singleton.2 rfl)).1
 cases this
theorem not_param {n:Nat} {f:Fnc} (h:spF false 4∈f.params):¬ MayFnc n f:=by
 rintro ⟨-,-,⟨-,hp⟩,-⟩
 have h2:=(hp _ h).2
 rw [mayTy_ref (n:=63) (.inl rfl)] at h2
 obtain ⟨-,-,-,e,he,-⟩:=h2
 cases he
theorem not_body {n:Nat} {f:Fnc} {s:St} (h:s∈f.body) (hs:¬ StOk (MayBlk 63) s):¬ MayFnc n f:=by
 rintro ⟨-,-,-,-,hb,-⟩
 exact hs (hb s h)
theorem not_kind {sub:List St->Prop} (x:Int) (nm:Bs):¬ StOk sub (spS 12 x nm):=ok_none (show ¬ ((1:Int)<=12/\(12:Int)<=11) by decide)
theorem not_num {sub:List St->Prop}:¬ StOk sub (spS 10 2147483648 []):=by
 rw [ok_ret rfl]
 rintro ⟨h,-⟩
 have h2:=h rfl
 rw [va_oper (.inl rfl)] at h2
 rcases h2.1 with ⟨_,_,h3,_⟩|⟨h3,_⟩|⟨h3,_⟩
 ·exact absurd h3 (by decide)
 ·exact absurd h3 (by decide)
 ·exact absurd h3 (by decide)
theorem not_named {sub:List St->Prop} (x:Int):¬ StOk sub (spS 10 x [97]):=by
 rw [ok_ret rfl]
 rintro ⟨-,h⟩
 have:=congrArg St.name h
 cases this
end Go.Proofs.YtjenmmkamhplkaaGreat
