/- Part of the proof. -/
import Derived.Test.YtjenmmkamhplkaaGreatJqspStm2
namespace Go.Proofs.YtjenmmkamhplkaaGreat
open Go.RowKit
set_option maxHeartbeats 8000000
set_option maxRecDepth 20000
def ord:Nat->St->List St
 | 0,s=>[s]
 | n+1,s=>s :: (s.thn.flatMap (ord n) ++ s.els.flatMap (ord n))
theorem ord_len:∀ (n:Nat) (s:St),(ord n s).length=1+inner n s
 | 0,_=>rfl
 | n+1,s=>by
  have h:∀ l:List St,(l.flatMap (ord n)).length=cnt n l:=by
   intro l
   induction l with
   | nil=>rfl
   | cons a l ih=>rw [List.flatMap_cons,List.length_append,ih,ord_len n a,cnt_cons]
  simp only [ord,List.length_cons,List.length_append,h,inner_succ]
  omega
theorem ords_len (n:Nat) (l:List St):(l.flatMap (ord n)).length=cnt n l:=by
 induction l with
 | nil=>rfl
 | cons a l ih=>rw [List.flatMap_cons,List.length_append,ih,ord_len n a,cnt_cons]
theorem take_ord (n:Nat) (l:List St) (k:Nat) (h:k<l.length):(l.take (k+1)).flatMap (ord n)=(l.take k).flatMap (ord n) ++ ord n l[k]:=by
 rw [List.take_add_one,List.getElem?_eq_getElem h,List.flatMap_append]
 simp
theorem take_cnt (n:Nat) (l:List St) (k:Nat):cnt n (l.take k)<=cnt n l:=by
 have h:cnt n l=cnt n (l.take k)+cnt n (l.drop k):=by
  unfold cnt
  rw [← List.sum_append,← List.map_append,List.take_append_drop]
 omega
theorem at_cnt (n:Nat) (l:List St) (k:Nat) (h:k<l.length):cnt n (l.take k)+(1+inner n l[k])<=cnt n l:=by
 have h2:=take_cnt n l (k+1)
 have e:cnt n (l.take (k+1))=cnt n (l.take k)+(1+inner n l[k]):=by
  unfold cnt
  rw [List.take_add_one,List.getElem?_eq_getElem h,List.map_append,List.sum_append]
  simp
 omega
theorem walk43_of {n:Nat} {K:Ctx} {w0:World} {c1:Value} {most:Nat} {P:List St->World->Prop} (hP:∀ d y,P d y->Below K.C w0 y) (tell:(∀ (d:List St) (s:St) (y:World) (b o:Nat) (cs:List Value),P d y->d.length<most->(∀ j,j<32->y.cell? ⟨b,o+j,none⟩=cs[j]?)->b<K.C->(∃ n,StAt n K y cs s)->Calls Tryz.prog 43 #[.pointer (some ⟨b,o,none⟩),c1] y fun ev y'=>ev=.returned (.tuple #[])/\P (d ++ [s]) y'))
  (ih:∀ (v:Value) (l:List St) (d:List St) (y:World),Ar 32 496 (StAt n K w0) K w0 v l->P d y->d.length+cnt n l<=most->Calls Tryz.prog 42 #[v,.func (.func 43) #[] #[c1]] y fun ev y'=>ev=.returned (.tuple #[])/\P (d ++ l.flatMap (ord n)) y')
  {v:Value} {l:List St} (ha:Ar 32 496 (StAt (n+1) K w0) K w0 v l) (d0:List St) (w:World) (h0:P d0 w) (hm:d0.length+cnt (n+1) l<=most) :
  Calls Tryz.prog 42 #[v,.func (.func 43) #[] #[c1]] w fun ev y'=>ev=.returned (.tuple #[])/\P (d0 ++ l.flatMap (ord (n+1))) y':=by
 obtain ⟨ao,cap,rfl,hc,hb,hA⟩:=ha.shape
 have hl9:l.length<=9223372036854775807:=by omega
 have HA:Hid (∀ i (h:i<l.length),∃ b o,ao=some ⟨b,o,none⟩/\b<K.C/\∃ cs,(∀ j,j<32->w0.cell? ⟨b,o+i * 32+j,none⟩=cs[j]?)/\StAt (n+1) K w0 cs l[i]):=by
  intro i h
  obtain ⟨b,o,e,hbC,cs,hl,hcs,hx⟩:=hA i h
  exact ⟨b,o,e,hbC,cs,hcs,hx⟩
 have HP:Hid (∀ d y,P d y->Below K.C w0 y):=hP
 have HT:=hid0 tell
 have HI:=hid0 ih
 have H0:Hid (P d0 w):=h0
 have HM:Hid (d0.length+cnt (n+1) l<=most):=hm
 clear hA ha hb hP tell ih h0 hm
 go_enter Tryz.func42,Tryz.ntmps42
 go_wp2_with fail
 go_loopw [8] (fun i wr=>∃ k:Nat,k<=l.length/\i=.int .i64 k/\P (d0 ++ (l.take k).flatMap (ord (n+1))) wr) (fun i _=>l.length - (intOf i).toNat)
 case atStart=>exact ⟨0,by omega,rfl,by simpa using H0.out⟩
 case round =>
  obtain ⟨k,hk,rfl,hrl⟩:=hrel
  have HR:Hid (P (d0 ++ (l.take k).flatMap (ord (n+1))) wr):=hrl
  clear hrl H0
  by_cases h3:k<l.length
  ·obtain ⟨b,o,e,hbC,cs,hcs,hx⟩:=HA.out k h3
   subst e
   have i1:(k:Int)<(l.length:Int):=by omega
   have hmk:=at_cnt (n+1) l k h3
   have hmm:=HM.out
   have hlen:(d0 ++ (l.take k).flatMap (ord (n+1))).length=d0.length+cnt (n+1) (l.take k):=by rw [List.length_append,ords_len]
   have hcw:∀ y,Below K.C w0 y->∀ j,j<32->y.cell? ⟨b,o+k * 32+j,none⟩=cs[j]?:=fun y hy j hj=>by rw [hy.cell (p:=⟨b,o+k * 32+j,none⟩) hbC];exact hcs j hj
   obtain ⟨ts,ps,vs,os,vt,ve,rfl,h1,h2,h3',h4,h5,h6,h7⟩:=id hx
   have l1:=h2.len
   have l2:=h3'.len
   have l3:=h4.len
   have l4:=h5.len
   have HC:Hid (∀ y,Below K.C w0 y->y.cell? ⟨b,o+k * 32+30,none⟩=some vt/\y.cell? ⟨b,o+k * 32+31,none⟩=some ve):=by
    intro y hy
    have pb:=part_at (hcw y hy) (.int .i64 (l[k]).kind :: .int .i64 (l[k]).pos :: .bool (l[k]).mu :: .string (str (l[k]).name) :: (ts ++ (.bool (l[k]).has :: (ps ++ (vs ++ os))))) [vt,ve] [] (k:=30) (n:=2) (by simp [l1,l2,l3,l4]) rfl (by decide) (by simp)
    exact ⟨pb 0 (by decide),pb 1 (by decide)⟩
   have D1:Hid (Calls Tryz.prog 43 #[.pointer (some ⟨b,o+k * 32,none⟩),c1] wr fun ev y'=>ev=.returned (.tuple #[])/\P (d0 ++ (l.take k).flatMap (ord (n+1)) ++ [l[k]]) y') :=
    HT.out _ l[k] wr b (o+k * 32) _ HR.out (by rw [hlen];omega) (hcw wr (HP.out _ _ HR.out)) hbC ⟨n+1,hx.below (HP.out _ _ HR.out)⟩
   have e1:inner (n+1) l[k]=cnt n (l[k]).thn+cnt n (l[k]).els:=rfl
   have D2:Hid (∀ y,P (d0 ++ (l.take k).flatMap (ord (n+1)) ++ [l[k]]) y->Calls Tryz.prog 42 #[vt,.func (.func 43) #[] #[c1]] y fun ev y'=>ev=.returned (.tuple #[])/\P (d0 ++ (l.take k).flatMap (ord (n+1)) ++ [l[k]] ++ (l[k]).thn.flatMap (ord n)) y') :=
    fun y hy=>HI.out vt (l[k]).thn _ y h6 hy (by rw [List.length_append,hlen];simp;omega)
   have D3:Hid (∀ y,P (d0 ++ (l.take k).flatMap (ord (n+1)) ++ [l[k]] ++ (l[k]).thn.flatMap (ord n)) y->Calls Tryz.prog 42 #[ve,.func (.func 43) #[] #[c1]] y fun ev y'=>ev=.returned (.tuple #[])/\P (d0 ++ (l.take (k+1)).flatMap (ord (n+1))) y'):=by
    intro y hy
    refine (HI.out ve (l[k]).els _ y h7 hy (by rw [List.length_append,List.length_append,hlen,ords_len];simp;omega)).mono ?_
    rintro _ _ ⟨rfl,h⟩
    refine ⟨rfl,?_⟩
    rw [take_ord (n+1) l k h3]
    simpa [ord,List.append_assoc] using h
   obtain ⟨a6,c6,e6⟩:=h6.form
   obtain ⟨a7,c7,e7⟩:=h7.form
   subst e6 e7
   generalize (l[k]).thn.length=n6,(l[k]).els.length=n7 at *
   clear hx h1 h2 h3' h4 h5 h6 h7 l1 l2 l3 l4 hcw hcs HA HT HI HR e1 hlen hmk hmm HM
   go_wp2_with fail
   refine D1.out.mono ?_
   rintro ev w1 ⟨rfl,p1⟩
   obtain ⟨q1,_⟩:=HC.out w1 (HP.out _ _ p1)
   go_wp2_with fail
   refine (D2.out _ p1).mono ?_
   rintro ev w2 ⟨rfl,p2⟩
   obtain ⟨_,q2⟩:=HC.out w2 (HP.out _ _ p2)
   go_wp2_with fail
   refine (D3.out _ p2).mono ?_
   rintro ev w3 ⟨rfl,p3⟩
   go_wp2_with fail
   go_roundw
   case rel=>exact ⟨k+1,by omega,by go_num,p3⟩
   case measure=>simp [intOf];omega
  ·have i1:¬ (k:Int)<(l.length:Int):=by omega
   have hfull:l.take k=l:=List.take_of_length_le (by omega)
   have HF:Hid (P (d0 ++ l.flatMap (ord (n+1))) wr):=by have:=HR.out;rw [hfull] at this;exact this
   clear hfull HA HT HI HR
   go_wp2_with fail
   go_end0
   exact ⟨rfl,HF.out⟩
theorem walk43_nil {c1:Value} {P:World->Prop} {ao:Option Addr} {cap:Nat} (w:World) (h0:P w) :
  Calls Tryz.prog 42 #[.slice ao 0 cap,.func (.func 43) #[] #[c1]] w fun ev y'=>ev=.returned (.tuple #[])/\P y':=by
 have H0:Hid (P w):=h0
 clear h0
 go_enter Tryz.func42,Tryz.ntmps42
 go_wp2_with fail
 go_loopw [8] (fun i wr=>i=.int .i64 0/\wr=w) (fun _ _=>0)
 case atStart=>exact ⟨rfl,rfl⟩
 case round =>
  obtain ⟨rfl,rfl⟩:=hrel
  go_wp2_with fail
  go_end0
  exact ⟨rfl,H0.out⟩
theorem ar_zero {K:Ctx} {w:World} {v:Value} {l:List St} (h:Ar 32 496 (StAt 0 K w) K w v l):l=[]:=by
 cases l with
 | nil=>rfl
 | cons a l =>
  obtain ⟨_,_,_,_,_,hA⟩:=h.shape
  obtain ⟨_,_,_,_,_,_,_,hx⟩:=hA 0 (by simp)
  exact hx.elim
theorem walk43_all {K:Ctx} {w0:World} {c1:Value} {most:Nat} {P:List St->World->Prop} (hP:∀ d y,P d y->Below K.C w0 y)
  (tell:∀ (d:List St) (s:St) (y:World) (b o:Nat) (cs:List Value),P d y->d.length<most->(∀ j,j<32->y.cell? ⟨b,o+j,none⟩=cs[j]?)->b<K.C->(∃ n,StAt n K y cs s)->Calls Tryz.prog 43 #[.pointer (some ⟨b,o,none⟩),c1] y fun ev y'=>ev=.returned (.tuple #[])/\P (d ++ [s]) y') :
  ∀ (n:Nat) (v:Value) (l:List St) (d:List St) (y:World),Ar 32 496 (StAt n K w0) K w0 v l->P d y->d.length+cnt n l<=most->Calls Tryz.prog 42 #[v,.func (.func 43) #[] #[c1]] y fun ev y'=>ev=.returned (.tuple #[])/\P (d ++ l.flatMap (ord n)) y'
 | 0,v,l,d,y,ha,hd,_=>by
  obtain rfl:=ar_zero ha
  obtain ⟨ao,cap,rfl⟩:=ha.form
  simp only [List.flatMap_nil,List.append_nil]
  exact walk43_nil y hd
 | n+1,v,l,d,y,ha,hd,hm=>walk43_of hP tell (walk43_all hP tell n) ha d y hd hm
theorem count1_any {g:Nat} {k:Nat} {y:World} (r:Row y g 3 [.int .i64 (k:Int)]) (hk:k<4611686018427387904) (b o:Nat) :
  Calls Tryz.prog 43 #[.pointer (some ⟨b,o,none⟩),.pointer (some ⟨g,0,none⟩)] y fun ev y'=>ev=.returned (.tuple #[])/\y'=y.setCell ⟨g,0,none⟩ (.int .i64 ((k+1:Nat):Int)):=by
 have c0:y.cell? ⟨g,0,none⟩=some (.int .i64 (k:Int)):=r.cell 0
 have z0:=r.fz 0
 have e:((k+1:Nat):Int)=(k:Int)+1:=by omega
 rw [e]
 clear r e
 go_enter Tryz.func43,Tryz.ntmps43
 go_wp2_with fail
 go_end0
 exact ⟨rfl,rfl⟩
theorem count_any {n:Nat} {K:Ctx} {w:World} (hC:K.C<=w.heap.size) {v:Value} {l:List St} (ha:Ar 32 496 (StAt n K w) K w v l) (hm:cnt n l<=4611686018427387904) :
  Calls Tryz.prog 19 #[v] w fun ev w'=>ev=.returned (.int .i64 (cnt n l:Int))/\Below w.heap.size w w':=by
 have hA:=alloc_one w (.cells #[.int .i64 0] 3)
 have D:Hid (Calls Tryz.prog 42 #[v,.func (.func 43) #[] #[.pointer (some ⟨w.heap.size,0,none⟩)]] (w.alloc (.cells #[.int .i64 0] 3)) fun ev w'=>ev=.returned (.tuple #[])/\Row w' w.heap.size 3 [.int .i64 (cnt n l:Int)]/\Below w.heap.size w w'):=by
  have h:=walk43_all (K:=K) (w0:=w) (c1:=.pointer (some ⟨w.heap.size,0,none⟩)) (most:=4611686018427387904)
   (P:=fun d y=>Row y w.heap.size 3 [.int .i64 (d.length:Int)]/\Below w.heap.size w y) (fun d y h=>below_le h.2 hC)
   (fun d s y b o cs h hd _ _ _=>by
    refine (count1_any h.1 hd b o).mono ?_
    rintro _ _ ⟨rfl,rfl⟩
    refine ⟨rfl,?_,nxt h.2 ((Stay.refl (fun k=>k=w.heap.size) y).set (fun _=>rfl) _ _)⟩
    have:=h.1.set 0 (.int .i64 ((d.length+1:Nat):Int))
    simpa using this)
   n v l [] (w.alloc (.cells #[.int .i64 0] 3)) ha ⟨Row.new w 3 _,hA⟩ (by simpa using hm)
  refine h.mono ?_
  rintro _ _ ⟨rfl,h1,h2⟩
  rw [List.nil_append,ords_len] at h1
  exact ⟨rfl,h1,h2⟩
 obtain ⟨ao,cap,rfl⟩:=ha.form
 have hmf:=hmf0
 clear ha hA hm
 generalize cnt n l=c,l.length=len at *
 go_enter Tryz.func19,Tryz.ntmps19
 go_wp2_with fail
 refine D.out.mono ?_
 rintro ev w1 ⟨rfl,r1,hb1⟩
 have c0:w1.cell? ⟨w.heap.size,0,none⟩=some (.int .i64 (c:Int)):=r1.cell 0
 clear r1 D
 go_wp2_with fail
 go_ret
 exact ⟨rfl,hb1⟩
theorem walk45_of {n:Nat} {K:Ctx} {w0:World} {c1:Value} {most:Nat} {P:List St->World->Prop} (hP:∀ d y,P d y->Below K.C w0 y) (tell:(∀ (d:List St) (s:St) (y:World) (b o:Nat) (cs:List Value),P d y->d.length<most->(∀ j,j<32->y.cell? ⟨b,o+j,none⟩=cs[j]?)->b<K.C->(∃ n,StAt n K y cs s)->Calls Tryz.prog 45 #[.pointer (some ⟨b,o,none⟩),c1] y fun ev y'=>ev=.returned (.tuple #[])/\P (d ++ [s]) y'))
  (ih:∀ (v:Value) (l:List St) (d:List St) (y:World),Ar 32 496 (StAt n K w0) K w0 v l->P d y->d.length+cnt n l<=most->Calls Tryz.prog 42 #[v,.func (.func 45) #[] #[c1]] y fun ev y'=>ev=.returned (.tuple #[])/\P (d ++ l.flatMap (ord n)) y')
  {v:Value} {l:List St} (ha:Ar 32 496 (StAt (n+1) K w0) K w0 v l) (d0:List St) (w:World) (h0:P d0 w) (hm:d0.length+cnt (n+1) l<=most) :
  Calls Tryz.prog 42 #[v,.func (.func 45) #[] #[c1]] w fun ev y'=>ev=.returned (.tuple #[])/\P (d0 ++ l.flatMap (ord (n+1))) y':=by
 obtain ⟨ao,cap,rfl,hc,hb,hA⟩:=ha.shape
 have hl9:l.length<=9223372036854775807:=by omega
 have HA:Hid (∀ i (h:i<l.length),∃ b o,ao=some ⟨b,o,none⟩/\b<K.C/\∃ cs,(∀ j,j<32->w0.cell? ⟨b,o+i * 32+j,none⟩=cs[j]?)/\StAt (n+1) K w0 cs l[i]):=by
  intro i h
  obtain ⟨b,o,e,hbC,cs,hl,hcs,hx⟩:=hA i h
  exact ⟨b,o,e,hbC,cs,hcs,hx⟩
 have HP:Hid (∀ d y,P d y->Below K.C w0 y):=hP
 have HT:=hid0 tell
 have HI:=hid0 ih
 have H0:Hid (P d0 w):=h0
 have HM:Hid (d0.length+cnt (n+1) l<=most):=hm
 clear hA ha hb hP tell ih h0 hm
 go_enter Tryz.func42,Tryz.ntmps42
 go_wp2_with fail
 go_loopw [8] (fun i wr=>∃ k:Nat,k<=l.length/\i=.int .i64 k/\P (d0 ++ (l.take k).flatMap (ord (n+1))) wr) (fun i _=>l.length - (intOf i).toNat)
 case atStart=>exact ⟨0,by omega,rfl,by simpa using H0.out⟩
 case round =>
  obtain ⟨k,hk,rfl,hrl⟩:=hrel
  have HR:Hid (P (d0 ++ (l.take k).flatMap (ord (n+1))) wr):=hrl
  clear hrl H0
  by_cases h3:k<l.length
  ·obtain ⟨b,o,e,hbC,cs,hcs,hx⟩:=HA.out k h3
   subst e
   have i1:(k:Int)<(l.length:Int):=by omega
   have hmk:=at_cnt (n+1) l k h3
   have hmm:=HM.out
   have hlen:(d0 ++ (l.take k).flatMap (ord (n+1))).length=d0.length+cnt (n+1) (l.take k):=by rw [List.length_append,ords_len]
   have hcw:∀ y,Below K.C w0 y->∀ j,j<32->y.cell? ⟨b,o+k * 32+j,none⟩=cs[j]?:=fun y hy j hj=>by rw [hy.cell (p:=⟨b,o+k * 32+j,none⟩) hbC];exact hcs j hj
   obtain ⟨ts,ps,vs,os,vt,ve,rfl,h1,h2,h3',h4,h5,h6,h7⟩:=id hx
   have l1:=h2.len
   have l2:=h3'.len
   have l3:=h4.len
   have l4:=h5.len
   have HC:Hid (∀ y,Below K.C w0 y->y.cell? ⟨b,o+k * 32+30,none⟩=some vt/\y.cell? ⟨b,o+k * 32+31,none⟩=some ve):=by
    intro y hy
    have pb:=part_at (hcw y hy) (.int .i64 (l[k]).kind :: .int .i64 (l[k]).pos :: .bool (l[k]).mu :: .string (str (l[k]).name) :: (ts ++ (.bool (l[k]).has :: (ps ++ (vs ++ os))))) [vt,ve] [] (k:=30) (n:=2) (by simp [l1,l2,l3,l4]) rfl (by decide) (by simp)
    exact ⟨pb 0 (by decide),pb 1 (by decide)⟩
   have D1:Hid (Calls Tryz.prog 45 #[.pointer (some ⟨b,o+k * 32,none⟩),c1] wr fun ev y'=>ev=.returned (.tuple #[])/\P (d0 ++ (l.take k).flatMap (ord (n+1)) ++ [l[k]]) y') :=
    HT.out _ l[k] wr b (o+k * 32) _ HR.out (by rw [hlen];omega) (hcw wr (HP.out _ _ HR.out)) hbC ⟨n+1,hx.below (HP.out _ _ HR.out)⟩
   have e1:inner (n+1) l[k]=cnt n (l[k]).thn+cnt n (l[k]).els:=rfl
   have D2:Hid (∀ y,P (d0 ++ (l.take k).flatMap (ord (n+1)) ++ [l[k]]) y->Calls Tryz.prog 42 #[vt,.func (.func 45) #[] #[c1]] y fun ev y'=>ev=.returned (.tuple #[])/\P (d0 ++ (l.take k).flatMap (ord (n+1)) ++ [l[k]] ++ (l[k]).thn.flatMap (ord n)) y') :=
    fun y hy=>HI.out vt (l[k]).thn _ y h6 hy (by rw [List.length_append,hlen];simp;omega)
   have D3:Hid (∀ y,P (d0 ++ (l.take k).flatMap (ord (n+1)) ++ [l[k]] ++ (l[k]).thn.flatMap (ord n)) y->Calls Tryz.prog 42 #[ve,.func (.func 45) #[] #[c1]] y fun ev y'=>ev=.returned (.tuple #[])/\P (d0 ++ (l.take (k+1)).flatMap (ord (n+1))) y'):=by
    intro y hy
    refine (HI.out ve (l[k]).els _ y h7 hy (by rw [List.length_append,List.length_append,hlen,ords_len];simp;omega)).mono ?_
    rintro _ _ ⟨rfl,h⟩
    refine ⟨rfl,?_⟩
    rw [take_ord (n+1) l k h3]
    simpa [ord,List.append_assoc] using h
   obtain ⟨a6,c6,e6⟩:=h6.form
   obtain ⟨a7,c7,e7⟩:=h7.form
   subst e6 e7
   generalize (l[k]).thn.length=n6,(l[k]).els.length=n7 at *
   clear hx h1 h2 h3' h4 h5 h6 h7 l1 l2 l3 l4 hcw hcs HA HT HI HR e1 hlen hmk hmm HM
   go_wp2_with fail
   refine D1.out.mono ?_
   rintro ev w1 ⟨rfl,p1⟩
   obtain ⟨q1,_⟩:=HC.out w1 (HP.out _ _ p1)
   go_wp2_with fail
   refine (D2.out _ p1).mono ?_
   rintro ev w2 ⟨rfl,p2⟩
   obtain ⟨_,q2⟩:=HC.out w2 (HP.out _ _ p2)
   go_wp2_with fail
   refine (D3.out _ p2).mono ?_
   rintro ev w3 ⟨rfl,p3⟩
   go_wp2_with fail
   go_roundw
   case rel=>exact ⟨k+1,by omega,by go_num,p3⟩
   case measure=>simp [intOf];omega
  ·have i1:¬ (k:Int)<(l.length:Int):=by omega
   have hfull:l.take k=l:=List.take_of_length_le (by omega)
   have HF:Hid (P (d0 ++ l.flatMap (ord (n+1))) wr):=by have:=HR.out;rw [hfull] at this;exact this
   clear hfull HA HT HI HR
   go_wp2_with fail
   go_end0
   exact ⟨rfl,HF.out⟩
theorem walk45_nil {c1:Value} {P:World->Prop} {ao:Option Addr} {cap:Nat} (w:World) (h0:P w) :
  Calls Tryz.prog 42 #[.slice ao 0 cap,.func (.func 45) #[] #[c1]] w fun ev y'=>ev=.returned (.tuple #[])/\P y':=by
 have H0:Hid (P w):=h0
 clear h0
 go_enter Tryz.func42,Tryz.ntmps42
 go_wp2_with fail
 go_loopw [8] (fun i wr=>i=.int .i64 0/\wr=w) (fun _ _=>0)
 case atStart=>exact ⟨rfl,rfl⟩
 case round =>
  obtain ⟨rfl,rfl⟩:=hrel
  go_wp2_with fail
  go_end0
  exact ⟨rfl,H0.out⟩
theorem walk45_all {K:Ctx} {w0:World} {c1:Value} {most:Nat} {P:List St->World->Prop} (hP:∀ d y,P d y->Below K.C w0 y)
  (tell:∀ (d:List St) (s:St) (y:World) (b o:Nat) (cs:List Value),P d y->d.length<most->(∀ j,j<32->y.cell? ⟨b,o+j,none⟩=cs[j]?)->b<K.C->(∃ n,StAt n K y cs s)->Calls Tryz.prog 45 #[.pointer (some ⟨b,o,none⟩),c1] y fun ev y'=>ev=.returned (.tuple #[])/\P (d ++ [s]) y') :
  ∀ (n:Nat) (v:Value) (l:List St) (d:List St) (y:World),Ar 32 496 (StAt n K w0) K w0 v l->P d y->d.length+cnt n l<=most->Calls Tryz.prog 42 #[v,.func (.func 45) #[] #[c1]] y fun ev y'=>ev=.returned (.tuple #[])/\P (d ++ l.flatMap (ord n)) y'
 | 0,v,l,d,y,ha,hd,_=>by
  obtain rfl:=ar_zero ha
  obtain ⟨ao,cap,rfl⟩:=ha.form
  simp only [List.flatMap_nil,List.append_nil]
  exact walk45_nil y hd
 | n+1,v,l,d,y,ha,hd,hm=>walk45_of hP tell (walk45_all hP tell n) ha d y hd hm
end Go.Proofs.YtjenmmkamhplkaaGreat
