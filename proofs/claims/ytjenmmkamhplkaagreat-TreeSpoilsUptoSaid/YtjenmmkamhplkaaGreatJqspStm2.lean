/- Part of the proof. -/
import Derived.Test.YtjenmmkamhplkaaGreatQqspSt2
import Derived.Test.YtjenmmkamhplkaaGreatQqspSt5
import Derived.Test.YtjenmmkamhplkaaGreatQqspSt8
import Derived.Test.YtjenmmkamhplkaaGreatQqspSt1
import Derived.Test.YtjenmmkamhplkaaGreatQqspSt4
import Derived.Test.YtjenmmkamhplkaaGreatQqspSt0
namespace Go.Proofs.YtjenmmkamhplkaaGreat
open Go.RowKit
set_option maxHeartbeats 8000000 in
set_option maxRecDepth 20000 in
theorem mayStm_no {n m:Nat} {K:Ctx} {w:World} {gb L:Nat} (hb:Bod K gb L w) {x:St} {pa pb pp pn pv t2 t3 lp qp tp ep:Option Addr} {na nb np ca cb cp cn cv m2 d2 m3 d3 ln lc qn qc tc ec:Nat} (k0:¬ (1<=x.kind/\x.kind<=11)) (B:Bool) (hB:B=true↔StOk (MayBlk m) x/\inner (n+1) x<=L) :
  Calls Tryz.prog 88 #[.pointer (some ⟨gb,0,none⟩),.agg #[.int .i64 x.kind,.int .i64 x.pos,.bool x.mu,.string (str x.name),.int .i64 x.ty.kind,.string (str x.ty.name),.slice t2 m2 d2,.slice t3 m3 d3,.bool x.has,.string (str x.place.name),.slice lp ln lc,.int .i64 x.val.kind,.int .i64 x.val.a.kind,.int .i64 x.val.a.n,.string (str x.val.a.place.name),.slice pa na ca,.int .i64 x.val.b.kind,.int .i64 x.val.b.n,.string (str x.val.b.place.name),.slice pb nb cb,.int .i64 x.val.op,.string (str x.val.place.name),.slice pp np cp,.string (str x.val.name),.slice pn x.val.names.length cn,.slice pv x.val.args.length cv,.int .i64 x.cond.kind,.int .i64 x.cond.n,.string (str x.cond.place.name),.slice qp qn qc,.slice tp x.thn.length tc,.slice ep x.els.length ec],.int .i64 (64 - (m:Int))] w fun ev y'=>ev=.returned (.bool B)/\Stay (fun k=>k=gb) w y'/\Spent gb B L (inner (n+1) x) y':=by
 obtain rfl:=bool_false hB (fun h=>ok_none k0 h.1)
 have HS:Hid (Sm K w gb m L [.int .i64 x.kind,.int .i64 x.pos,.bool x.mu,.string (str x.name),.int .i64 x.ty.kind,.string (str x.ty.name),.slice t2 m2 d2,.slice t3 m3 d3,.bool x.has,.string (str x.place.name),.slice lp ln lc,.int .i64 x.val.kind,.int .i64 x.val.a.kind,.int .i64 x.val.a.n,.string (str x.val.a.place.name),.slice pa na ca,.int .i64 x.val.b.kind,.int .i64 x.val.b.n,.string (str x.val.b.place.name),.slice pb nb cb,.int .i64 x.val.op,.string (str x.val.place.name),.slice pp np cp,.string (str x.val.name),.slice pn x.val.names.length cn,.slice pv x.val.args.length cv,.int .i64 x.cond.kind,.int .i64 x.cond.n,.string (str x.cond.place.name),.slice qp qn qc,.slice tp x.thn.length tc,.slice ep x.els.length ec] (((w.alloc (.cells #[.pointer (some ⟨gb,0,none⟩)] 122)).alloc (.cells #[.int .i64 x.kind,.int .i64 x.pos,.bool x.mu,.string (str x.name),.int .i64 x.ty.kind,.string (str x.ty.name),.slice t2 m2 d2,.slice t3 m3 d3,.bool x.has,.string (str x.place.name),.slice lp ln lc,.int .i64 x.val.kind,.int .i64 x.val.a.kind,.int .i64 x.val.a.n,.string (str x.val.a.place.name),.slice pa na ca,.int .i64 x.val.b.kind,.int .i64 x.val.b.n,.string (str x.val.b.place.name),.slice pb nb cb,.int .i64 x.val.op,.string (str x.val.place.name),.slice pp np cp,.string (str x.val.name),.slice pn x.val.names.length cn,.slice pv x.val.args.length cv,.int .i64 x.cond.kind,.int .i64 x.cond.n,.string (str x.cond.place.name),.slice qp qn qc,.slice tp x.thn.length tc,.slice ep x.els.length ec] 49)).alloc (.cells #[.int .i64 (64 - (m:Int))] 3))):=Sm.first _ hb
 have hmf:=hmf0
 have s1:(x.kind == 1)=false:=by simp;omega
 have s2:(x.kind == 2)=false:=by simp;omega
 have s3:(x.kind == 3)=false:=by simp;omega
 have s4:(x.kind == 4)=false:=by simp;omega
 have s5:(x.kind == 5)=false:=by simp;omega
 have s6:(x.kind == 6)=false:=by simp;omega
 have s7:(x.kind == 7)=false:=by simp;omega
 have s8:(x.kind == 8)=false:=by simp;omega
 have s9:(x.kind == 9)=false:=by simp;omega
 have s10:(x.kind == 10)=false:=by simp;omega
 have s11:(x.kind == 11)=false:=by simp;omega
 generalize inner (n+1) x=ii at *
 clear hB k0 hb
 generalize x.kind=kd,x.pos=ps,x.mu=mu,str x.name=nm1,x.ty.kind=tk,str x.ty.name=tn1,x.has=hs,str x.place.name=pl1,x.val.kind=vk,x.val.a.kind=ak,x.val.a.n=an,str x.val.a.place.name=as1,x.val.b.kind=bk,x.val.b.n=bn,str x.val.b.place.name=bs1,x.val.op=vo,str x.val.place.name=vp1,str x.val.name=vn1,x.val.names.length=vl1,x.val.args.length=vl2,x.cond.kind=ck,x.cond.n=cn2,str x.cond.place.name=cs1,x.thn.length=th1,x.els.length=el1 at *
 go_enter Tryz.func88,Tryz.ntmps88
 go_wp2_with fail
 go_ret
 exact ⟨rfl,HS.out.stay,L,HS.out.bod.row,HS.out.bod.most,fun h=>by cases h⟩
theorem stm_of {n m:Nat} (hm:m<=64) (ih:BlkC n m):StmC (n+1) m:=by
 intro K w gb L cs x hb hs B hB
 obtain ⟨ts,ps,vs,os,vt,ve,rfl,hl,hty,hpl,hvl,hcd,hth,hel⟩:=hs
 obtain ⟨t2,m2,d2,t3,m3,d3,rfl⟩:=hty.open
 obtain ⟨lp,ln,lc,rfl⟩:=hpl.open
 obtain ⟨pa,pb,pp,pn,pv,na,nb,np,ca,cb,cp,cn,cv,rfl,_⟩:=hvl.open
 obtain ⟨qp,qn,qc,rfl⟩:=hcd.open
 obtain ⟨tp,tc,rfl⟩:=hth.form
 obtain ⟨ep,ec,rfl⟩:=hel.form
 by_cases k1:x.kind=1
 ·by_cases kh:x.has=true
  ·exact mayStm_1t hm ih hb hty hpl hvl hcd hl hth hel k1 kh B hB
  ·exact mayStm_1f hm ih hb hty hpl hvl hcd hl hth hel k1 (Bool.eq_false_iff.2 kh) B hB
 by_cases k2:x.kind=2
 ·exact mayStm_2 hm ih hb hty hpl hvl hcd hl hth hel k2 B hB
 by_cases k3:x.kind=3
 ·exact mayStm_3 hm ih hb hty hpl hvl hcd hl hth hel k3 B hB
 by_cases k4:x.kind=4
 ·by_cases kh:x.has=true
  ·exact mayStm_4t hm ih hb hty hpl hvl hcd hl hth hel k4 kh B hB
  ·exact mayStm_4f hm ih hb hty hpl hvl hcd hl hth hel k4 (Bool.eq_false_iff.2 kh) B hB
 by_cases k5:x.kind=5
 ·exact mayStm_5 hm ih hb hty hpl hvl hcd hl hth hel k5 B hB
 by_cases k6:x.kind=6
 ·exact mayStm_6 hm ih hb hty hpl hvl hcd hl hth hel k6 B hB
 by_cases k7:x.kind=7
 ·exact mayStm_7 hm ih hb hty hpl hvl hcd hl hth hel k7 B hB
 by_cases k8:x.kind=8
 ·exact mayStm_8 hm ih hb hty hpl hvl hcd hl hth hel k8 B hB
 by_cases k9:x.kind=9
 ·exact mayStm_9 hm ih hb hty hpl hvl hcd hl hth hel k9 B hB
 by_cases k10:x.kind=10
 ·by_cases kh:x.has=true
  ·exact mayStm_10t hm ih hb hty hpl hvl hcd hl hth hel k10 kh B hB
  ·exact mayStm_10f hm ih hb hty hpl hvl hcd hl hth hel k10 (Bool.eq_false_iff.2 kh) B hB
 by_cases k11:x.kind=11
 ·exact mayStm_11 hm ih hb hty hpl hvl hcd hl hth hel k11 B hB
 exact mayStm_no hb (by omega) B hB
theorem stm_all:∀ (n m:Nat),m<=64->StmC n m
 | 0,_,_=>fun _ hs _ _=>hs.elim
 | n+1,m,hm=>stm_of hm (blk_of (fun m hm=>stm_all n m hm) m hm)
theorem body_any {n:Nat} {K:Ctx} {y:World} {gb L:Nat} {v:Value} {l:List St} (hb:Bod K gb L y) (ha:Ar 32 496 (StAt n K y) K y v l) (B:Bool) (hB:B=true↔MayBlk 64 l/\cnt n l<=L) :
  Calls Tryz.prog 55 #[.pointer (some ⟨gb,0,none⟩),v,.int .i64 1] y fun ev y'=>ev=.returned (.bool B)/\Stay (fun k=>k=gb) y y':=by
 have h:=blk_of (fun m hm=>stm_all n m hm) 64 (by omega) hb ha B hB
 refine Calls.mono h fun _ _ h=>⟨h.1,h.2.1⟩

set_option maxHeartbeats 8000000
set_option maxRecDepth 20000
def MayFnc (n:Nat) (x:Fnc):Prop:=nameB x.name=true/\(x.lives.length<=64/\∀ l∈x.lives,MayLfe l)/\(x.params.length<=64/\∀ p∈x.params,MayPar p)/\MayRes x.result/\(MayBlk 64 x.body/\cnt n x.body<=2000)
def MayCrt (n:Nat) (c:Crt):Prop:=c.structs.length+c.funcs.length<=256/\(∀ s∈c.structs,MaySct s)/\∀ f∈c.funcs,MayFnc n f
structure Fm (K:Ctx) (w:World) (cells:List Value) (a:World):Prop where
 env:Env K a
 row:Row a w.heap.size 40 cells
 rb:Row a (w.heap.size+1) 89 [.int .i64 2000]
 bel:Below w.heap.size w a
 kc:Below K.C w a
 C:K.C<=w.heap.size
theorem Fm.next {K:Ctx} {w a a':World} {cells:List Value} (h:Fm K w cells a) (hb:Below a.heap.size a a'):Fm K w cells a' :=
 ⟨h.env.below (below_le hb h.env.C),h.row.below hb h.row.lt,h.rb.below hb h.rb.lt,h.bel.trans (below_le hb h.bel.size),h.kc.trans (below_le hb h.env.C),h.C⟩
theorem Fm.first {K:Ctx} {w:World} (cells:List Value) (he:Env K w):Fm K w cells ((w.alloc (.cells cells.toArray 40)).alloc (.cells #[.int .i64 2000] 89)):=by
 have hA:=alloc_two w (.cells cells.toArray 40) (.cells #[.int .i64 2000] 89)
 have r1:=Row.new (w.alloc (.cells cells.toArray 40)) 89 [.int .i64 2000]
 rw [size_alloc] at r1
 exact ⟨he.below (below_le hA he.C),(Row.new w 40 cells).alloc _,r1,hA,below_le hA he.C,he.C⟩
theorem mayFunc_any {n:Nat} {K:Ctx} {w:World} (he:Env K w) {x:Fnc} {cs:List Value} (hx:FncAt n K w cs x) (B:Bool) (hB:B=true↔MayFnc n x) :
  Calls Tryz.prog 25 #[.agg cs.toArray] w fun ev w'=>ev=.returned (.bool B)/\Below w.heap.size w w':=by
 have hsm:=K.small
 obtain ⟨v2,v3,ts,v8,rfl,hl,hli,hpa,hre,hbo⟩:=hx
 obtain ⟨t2,m2,d2,t3,m3,d3,rfl⟩:=hre.open
 obtain ⟨lp,lc,rfl⟩:=hli.form
 obtain ⟨pp,pc,rfl⟩:=hpa.form
 obtain ⟨bp,bc,rfl⟩:=hbo.form
 have F0:Hid (Fm K w [.bool x.pub,.string (str x.name),.slice lp x.lives.length lc,.slice pp x.params.length pc,.int .i64 x.result.kind,.string (str x.result.name),.slice t2 m2 d2,.slice t3 m3 d3,.slice bp x.body.length bc,.int .i64 x.pos] ((w.alloc (.cells #[.bool x.pub,.string (str x.name),.slice lp x.lives.length lc,.slice pp x.params.length pc,.int .i64 x.result.kind,.string (str x.result.name),.slice t2 m2 d2,.slice t3 m3 d3,.slice bp x.body.length bc,.int .i64 x.pos] 40)).alloc (.cells #[.int .i64 2000] 89))):=Fm.first _ he
 have N0:Hid (Calls Tryz.prog 46 #[.string (str x.name)] ((w.alloc (.cells #[.bool x.pub,.string (str x.name),.slice lp x.lives.length lc,.slice pp x.params.length pc,.int .i64 x.result.kind,.string (str x.result.name),.slice t2 m2 d2,.slice t3 m3 d3,.slice bp x.body.length bc,.int .i64 x.pos] 40)).alloc (.cells #[.int .i64 2000] 89)) fun ev w'=>ev=.returned (.bool (nameB x.name))/\w'=((w.alloc (.cells #[.bool x.pub,.string (str x.name),.slice lp x.lives.length lc,.slice pp x.params.length pc,.int .i64 x.result.kind,.string (str x.result.name),.slice t2 m2 d2,.slice t3 m3 d3,.slice bp x.body.length bc,.int .i64 x.pos] 40)).alloc (.cells #[.int .i64 2000] 89))):=name_any _ (by omega) _
 have T1:Hid (∀ (a:World) (B:Bool),Fm K w [.bool x.pub,.string (str x.name),.slice lp x.lives.length lc,.slice pp x.params.length pc,.int .i64 x.result.kind,.string (str x.result.name),.slice t2 m2 d2,.slice t3 m3 d3,.slice bp x.body.length bc,.int .i64 x.pos] a->(B=true↔(x.lives.length<=64/\∀ l∈x.lives,MayLfe l))->Calls Tryz.prog 51 #[.slice lp x.lives.length lc,.func (.func 52) #[] #[]] a fun ev w'=>ev=.returned (.bool B)/\Fm K w [.bool x.pub,.string (str x.name),.slice lp x.lives.length lc,.slice pp x.params.length pc,.int .i64 x.result.kind,.string (str x.result.name),.slice t2 m2 d2,.slice t3 m3 d3,.slice bp x.body.length bc,.int .i64 x.pos] w'):=by
  intro a B h hB
  exact (partsLifes h.env (fun _ _ _ he hx B hB=>mayLife_any he hx B hB) (hli.mono h.kc fun _ _ _ q=>q.below h.kc) B hB).mono fun _ _ q=>⟨q.1,h.next q.2⟩
 have T2:Hid (∀ (a:World) (B:Bool),Fm K w [.bool x.pub,.string (str x.name),.slice lp x.lives.length lc,.slice pp x.params.length pc,.int .i64 x.result.kind,.string (str x.result.name),.slice t2 m2 d2,.slice t3 m3 d3,.slice bp x.body.length bc,.int .i64 x.pos] a->(B=true↔(x.params.length<=64/\∀ p∈x.params,MayPar p))->Calls Tryz.prog 49 #[.slice pp x.params.length pc,.func (.func 53) #[] #[]] a fun ev w'=>ev=.returned (.bool B)/\Fm K w [.bool x.pub,.string (str x.name),.slice lp x.lives.length lc,.slice pp x.params.length pc,.int .i64 x.result.kind,.string (str x.result.name),.slice t2 m2 d2,.slice t3 m3 d3,.slice bp x.body.length bc,.int .i64 x.pos] w'):=by
  intro a B h hB
  exact (partsParams h.env (fun _ _ _ he hx B hB=>mayParam_any he hx B hB) (hpa.mono h.kc fun _ _ _ q=>q.below h.kc) B hB).mono fun _ _ q=>⟨q.1,h.next q.2⟩
 have T3:Hid (∀ (a:World) (B:Bool),Fm K w [.bool x.pub,.string (str x.name),.slice lp x.lives.length lc,.slice pp x.params.length pc,.int .i64 x.result.kind,.string (str x.result.name),.slice t2 m2 d2,.slice t3 m3 d3,.slice bp x.body.length bc,.int .i64 x.pos] a->(B=true↔MayRes x.result)->Calls Tryz.prog 54 #[.agg #[.int .i64 x.result.kind,.string (str x.result.name),.slice t2 m2 d2,.slice t3 m3 d3]] a fun ev w'=>ev=.returned (.bool B)/\Fm K w [.bool x.pub,.string (str x.name),.slice lp x.lives.length lc,.slice pp x.params.length pc,.int .i64 x.result.kind,.string (str x.result.name),.slice t2 m2 d2,.slice t3 m3 d3,.slice bp x.body.length bc,.int .i64 x.pos] w'):=by
  intro a B h hB
  exact (mayResult_any h.env (cs:=[.int .i64 x.result.kind,.string (str x.result.name),.slice t2 m2 d2,.slice t3 m3 d3]) (hre.below h.kc) B hB).mono fun _ _ q=>⟨q.1,h.next q.2⟩
 have T4:Hid (∀ (a:World) (B:Bool),Fm K w [.bool x.pub,.string (str x.name),.slice lp x.lives.length lc,.slice pp x.params.length pc,.int .i64 x.result.kind,.string (str x.result.name),.slice t2 m2 d2,.slice t3 m3 d3,.slice bp x.body.length bc,.int .i64 x.pos] a->(B=true↔(MayBlk 64 x.body/\cnt n x.body<=2000))->Calls Tryz.prog 55 #[.pointer (some ⟨w.heap.size+1,0,none⟩),.slice bp x.body.length bc,.int .i64 1] a fun ev w'=>ev=.returned (.bool B)/\Below w.heap.size w w'):=by
  intro a B h hB
  have hbd:Bod K (w.heap.size+1) 2000 a:=⟨h.env,h.rb,Nat.le_trans h.C (by omega),by omega⟩
  refine (body_any hbd (hbo.mono h.kc fun _ _ _ q=>q.below h.kc) B hB).mono ?_
  rintro _ _ ⟨rfl,hs⟩
  exact ⟨rfl,h.bel.trans (hs.below h.bel.size (fun k hk=>by omega))⟩
 have HB:Hid (B=true↔MayFnc n x):=hB
 clear hB he hli hpa hre hbo hl
 cases f0:nameB x.name
 ·have HF:Hid (B=false):=bool_false HB.out (fun h=>by have h':=h.1;rw [f0] at h';cases h')
  rw [f0] at N0
  clear HB T1 T2 T3 T4 f0
  generalize x.pub=pb,str x.name=nm1,x.lives.length=l1,x.params.length=l2,x.result.kind=rk,str x.result.name=rn1,x.body.length=l3,x.pos=ps at *
  go_enter Tryz.func25,Tryz.ntmps25
  go_wp2_with fail
  refine N0.out.mono ?_
  rintro ev w0 ⟨rfl,rfl⟩
  go_wp2_with fail
  go_ret
  exact ⟨by rw [HF.out];rfl,(F0.out).bel⟩
 by_cases f1:(x.lives.length<=64/\∀ l∈x.lives,MayLfe l)
 rotate_left
 ·have HF:Hid (B=false):=bool_false HB.out (fun h=>f1 h.2.1)
  rw [f0] at N0
  have U1:Hid (∀ a h,_):=fun a h=>T1.out a false h ⟨fun h=>(by cases h),fun h=>absurd h f1⟩
  clear HB T1 T2 T3 T4 f0 f1
  generalize x.pub=pb,str x.name=nm1,x.lives.length=l1,x.params.length=l2,x.result.kind=rk,str x.result.name=rn1,x.body.length=l3,x.pos=ps at *
  go_enter Tryz.func25,Tryz.ntmps25
  go_wp2_with fail
  refine N0.out.mono ?_
  rintro ev w0 ⟨rfl,rfl⟩
  go_wp2_with fail
  refine (U1.out _ (F0.out)).mono ?_
  rintro ev w1 ⟨rfl,fm1⟩
  have e11:w1.cell? ⟨w.heap.size,2,none⟩=some (.slice lp l1 lc):=fm1.row.cell 2
  have e12:w1.cell? ⟨w.heap.size,3,none⟩=some (.slice pp l2 pc):=fm1.row.cell 3
  have e14:w1.cell? ⟨w.heap.size,4,none⟩=some (.int .i64 rk):=fm1.row.cell 4
  have e15:w1.cell? ⟨w.heap.size,5,none⟩=some (.string rn1):=fm1.row.cell 5
  have e16:w1.cell? ⟨w.heap.size,6,none⟩=some (.slice t2 m2 d2):=fm1.row.cell 6
  have e17:w1.cell? ⟨w.heap.size,7,none⟩=some (.slice t3 m3 d3):=fm1.row.cell 7
  have e18:w1.cell? ⟨w.heap.size,8,none⟩=some (.slice bp l3 bc):=fm1.row.cell 8
  go_wp2_with fail
  go_ret
  exact ⟨by rw [HF.out];rfl,(fm1).bel⟩
 by_cases f2:(x.params.length<=64/\∀ p∈x.params,MayPar p)
 rotate_left
 ·have HF:Hid (B=false):=bool_false HB.out (fun h=>f2 h.2.2.1)
  rw [f0] at N0
  have U1:Hid (∀ a h,_):=fun a h=>T1.out a true h ⟨fun _=>f1,fun _=>rfl⟩
  have U2:Hid (∀ a h,_):=fun a h=>T2.out a false h ⟨fun h=>(by cases h),fun h=>absurd h f2⟩
  clear HB T1 T2 T3 T4 f0 f1 f2
  generalize x.pub=pb,str x.name=nm1,x.lives.length=l1,x.params.length=l2,x.result.kind=rk,str x.result.name=rn1,x.body.length=l3,x.pos=ps at *
  go_enter Tryz.func25,Tryz.ntmps25
  go_wp2_with fail
  refine N0.out.mono ?_
  rintro ev w0 ⟨rfl,rfl⟩
  go_wp2_with fail
  refine (U1.out _ (F0.out)).mono ?_
  rintro ev w1 ⟨rfl,fm1⟩
  have e11:w1.cell? ⟨w.heap.size,2,none⟩=some (.slice lp l1 lc):=fm1.row.cell 2
  have e12:w1.cell? ⟨w.heap.size,3,none⟩=some (.slice pp l2 pc):=fm1.row.cell 3
  have e14:w1.cell? ⟨w.heap.size,4,none⟩=some (.int .i64 rk):=fm1.row.cell 4
  have e15:w1.cell? ⟨w.heap.size,5,none⟩=some (.string rn1):=fm1.row.cell 5
  have e16:w1.cell? ⟨w.heap.size,6,none⟩=some (.slice t2 m2 d2):=fm1.row.cell 6
  have e17:w1.cell? ⟨w.heap.size,7,none⟩=some (.slice t3 m3 d3):=fm1.row.cell 7
  have e18:w1.cell? ⟨w.heap.size,8,none⟩=some (.slice bp l3 bc):=fm1.row.cell 8
  go_wp2_with fail
  refine (U2.out _ (fm1)).mono ?_
  rintro ev w2 ⟨rfl,fm2⟩
  have e21:w2.cell? ⟨w.heap.size,2,none⟩=some (.slice lp l1 lc):=fm2.row.cell 2
  have e22:w2.cell? ⟨w.heap.size,3,none⟩=some (.slice pp l2 pc):=fm2.row.cell 3
  have e24:w2.cell? ⟨w.heap.size,4,none⟩=some (.int .i64 rk):=fm2.row.cell 4
  have e25:w2.cell? ⟨w.heap.size,5,none⟩=some (.string rn1):=fm2.row.cell 5
  have e26:w2.cell? ⟨w.heap.size,6,none⟩=some (.slice t2 m2 d2):=fm2.row.cell 6
  have e27:w2.cell? ⟨w.heap.size,7,none⟩=some (.slice t3 m3 d3):=fm2.row.cell 7
  have e28:w2.cell? ⟨w.heap.size,8,none⟩=some (.slice bp l3 bc):=fm2.row.cell 8
  go_wp2_with fail
  go_ret
  exact ⟨by rw [HF.out];rfl,(fm2).bel⟩
 by_cases f3:MayRes x.result
 rotate_left
 ·have HF:Hid (B=false):=bool_false HB.out (fun h=>f3 h.2.2.2.1)
  rw [f0] at N0
  have U1:Hid (∀ a h,_):=fun a h=>T1.out a true h ⟨fun _=>f1,fun _=>rfl⟩
  have U2:Hid (∀ a h,_):=fun a h=>T2.out a true h ⟨fun _=>f2,fun _=>rfl⟩
  have U3:Hid (∀ a h,_):=fun a h=>T3.out a false h ⟨fun h=>(by cases h),fun h=>absurd h f3⟩
  clear HB T1 T2 T3 T4 f0 f1 f2 f3
  generalize x.pub=pb,str x.name=nm1,x.lives.length=l1,x.params.length=l2,x.result.kind=rk,str x.result.name=rn1,x.body.length=l3,x.pos=ps at *
  go_enter Tryz.func25,Tryz.ntmps25
  go_wp2_with fail
  refine N0.out.mono ?_
  rintro ev w0 ⟨rfl,rfl⟩
  go_wp2_with fail
  refine (U1.out _ (F0.out)).mono ?_
  rintro ev w1 ⟨rfl,fm1⟩
  have e11:w1.cell? ⟨w.heap.size,2,none⟩=some (.slice lp l1 lc):=fm1.row.cell 2
  have e12:w1.cell? ⟨w.heap.size,3,none⟩=some (.slice pp l2 pc):=fm1.row.cell 3
  have e14:w1.cell? ⟨w.heap.size,4,none⟩=some (.int .i64 rk):=fm1.row.cell 4
  have e15:w1.cell? ⟨w.heap.size,5,none⟩=some (.string rn1):=fm1.row.cell 5
  have e16:w1.cell? ⟨w.heap.size,6,none⟩=some (.slice t2 m2 d2):=fm1.row.cell 6
  have e17:w1.cell? ⟨w.heap.size,7,none⟩=some (.slice t3 m3 d3):=fm1.row.cell 7
  have e18:w1.cell? ⟨w.heap.size,8,none⟩=some (.slice bp l3 bc):=fm1.row.cell 8
  go_wp2_with fail
  refine (U2.out _ (fm1)).mono ?_
  rintro ev w2 ⟨rfl,fm2⟩
  have e21:w2.cell? ⟨w.heap.size,2,none⟩=some (.slice lp l1 lc):=fm2.row.cell 2
  have e22:w2.cell? ⟨w.heap.size,3,none⟩=some (.slice pp l2 pc):=fm2.row.cell 3
  have e24:w2.cell? ⟨w.heap.size,4,none⟩=some (.int .i64 rk):=fm2.row.cell 4
  have e25:w2.cell? ⟨w.heap.size,5,none⟩=some (.string rn1):=fm2.row.cell 5
  have e26:w2.cell? ⟨w.heap.size,6,none⟩=some (.slice t2 m2 d2):=fm2.row.cell 6
  have e27:w2.cell? ⟨w.heap.size,7,none⟩=some (.slice t3 m3 d3):=fm2.row.cell 7
  have e28:w2.cell? ⟨w.heap.size,8,none⟩=some (.slice bp l3 bc):=fm2.row.cell 8
  go_wp2_with fail
  refine (U3.out _ (fm2)).mono ?_
  rintro ev w3 ⟨rfl,fm3⟩
  have e31:w3.cell? ⟨w.heap.size,2,none⟩=some (.slice lp l1 lc):=fm3.row.cell 2
  have e32:w3.cell? ⟨w.heap.size,3,none⟩=some (.slice pp l2 pc):=fm3.row.cell 3
  have e34:w3.cell? ⟨w.heap.size,4,none⟩=some (.int .i64 rk):=fm3.row.cell 4
  have e35:w3.cell? ⟨w.heap.size,5,none⟩=some (.string rn1):=fm3.row.cell 5
  have e36:w3.cell? ⟨w.heap.size,6,none⟩=some (.slice t2 m2 d2):=fm3.row.cell 6
  have e37:w3.cell? ⟨w.heap.size,7,none⟩=some (.slice t3 m3 d3):=fm3.row.cell 7
  have e38:w3.cell? ⟨w.heap.size,8,none⟩=some (.slice bp l3 bc):=fm3.row.cell 8
  go_wp2_with fail
  go_ret
  exact ⟨by rw [HF.out];rfl,(fm3).bel⟩
 by_cases f4:(MayBlk 64 x.body/\cnt n x.body<=2000)
 rotate_left
 ·have HF:Hid (B=false):=bool_false HB.out (fun h=>f4 h.2.2.2.2)
  rw [f0] at N0
  have U1:Hid (∀ a h,_):=fun a h=>T1.out a true h ⟨fun _=>f1,fun _=>rfl⟩
  have U2:Hid (∀ a h,_):=fun a h=>T2.out a true h ⟨fun _=>f2,fun _=>rfl⟩
  have U3:Hid (∀ a h,_):=fun a h=>T3.out a true h ⟨fun _=>f3,fun _=>rfl⟩
  have U4:Hid (∀ a h,_):=fun a h=>T4.out a false h ⟨fun h=>(by cases h),fun h=>absurd h f4⟩
  clear HB T1 T2 T3 T4 f0 f1 f2 f3 f4
  generalize x.pub=pb,str x.name=nm1,x.lives.length=l1,x.params.length=l2,x.result.kind=rk,str x.result.name=rn1,x.body.length=l3,x.pos=ps at *
  go_enter Tryz.func25,Tryz.ntmps25
  go_wp2_with fail
  refine N0.out.mono ?_
  rintro ev w0 ⟨rfl,rfl⟩
  go_wp2_with fail
  refine (U1.out _ (F0.out)).mono ?_
  rintro ev w1 ⟨rfl,fm1⟩
  have e11:w1.cell? ⟨w.heap.size,2,none⟩=some (.slice lp l1 lc):=fm1.row.cell 2
  have e12:w1.cell? ⟨w.heap.size,3,none⟩=some (.slice pp l2 pc):=fm1.row.cell 3
  have e14:w1.cell? ⟨w.heap.size,4,none⟩=some (.int .i64 rk):=fm1.row.cell 4
  have e15:w1.cell? ⟨w.heap.size,5,none⟩=some (.string rn1):=fm1.row.cell 5
  have e16:w1.cell? ⟨w.heap.size,6,none⟩=some (.slice t2 m2 d2):=fm1.row.cell 6
  have e17:w1.cell? ⟨w.heap.size,7,none⟩=some (.slice t3 m3 d3):=fm1.row.cell 7
  have e18:w1.cell? ⟨w.heap.size,8,none⟩=some (.slice bp l3 bc):=fm1.row.cell 8
  go_wp2_with fail
  refine (U2.out _ (fm1)).mono ?_
  rintro ev w2 ⟨rfl,fm2⟩
  have e21:w2.cell? ⟨w.heap.size,2,none⟩=some (.slice lp l1 lc):=fm2.row.cell 2
  have e22:w2.cell? ⟨w.heap.size,3,none⟩=some (.slice pp l2 pc):=fm2.row.cell 3
  have e24:w2.cell? ⟨w.heap.size,4,none⟩=some (.int .i64 rk):=fm2.row.cell 4
  have e25:w2.cell? ⟨w.heap.size,5,none⟩=some (.string rn1):=fm2.row.cell 5
  have e26:w2.cell? ⟨w.heap.size,6,none⟩=some (.slice t2 m2 d2):=fm2.row.cell 6
  have e27:w2.cell? ⟨w.heap.size,7,none⟩=some (.slice t3 m3 d3):=fm2.row.cell 7
  have e28:w2.cell? ⟨w.heap.size,8,none⟩=some (.slice bp l3 bc):=fm2.row.cell 8
  go_wp2_with fail
  refine (U3.out _ (fm2)).mono ?_
  rintro ev w3 ⟨rfl,fm3⟩
  have e31:w3.cell? ⟨w.heap.size,2,none⟩=some (.slice lp l1 lc):=fm3.row.cell 2
  have e32:w3.cell? ⟨w.heap.size,3,none⟩=some (.slice pp l2 pc):=fm3.row.cell 3
  have e34:w3.cell? ⟨w.heap.size,4,none⟩=some (.int .i64 rk):=fm3.row.cell 4
  have e35:w3.cell? ⟨w.heap.size,5,none⟩=some (.string rn1):=fm3.row.cell 5
  have e36:w3.cell? ⟨w.heap.size,6,none⟩=some (.slice t2 m2 d2):=fm3.row.cell 6
  have e37:w3.cell? ⟨w.heap.size,7,none⟩=some (.slice t3 m3 d3):=fm3.row.cell 7
  have e38:w3.cell? ⟨w.heap.size,8,none⟩=some (.slice bp l3 bc):=fm3.row.cell 8
  go_wp2_with fail
  refine (U4.out _ (fm3)).mono ?_
  rintro ev w4 ⟨rfl,hb4⟩
  go_wp2_with fail
  go_ret
  exact ⟨by rw [HF.out];rfl,hb4⟩
 have HF:Hid (B=true):=HB.out.2 ⟨f0,f1,f2,f3,f4⟩
 rw [f0] at N0
 have U1:Hid (∀ a h,_):=fun a h=>T1.out a true h ⟨fun _=>f1,fun _=>rfl⟩
 have U2:Hid (∀ a h,_):=fun a h=>T2.out a true h ⟨fun _=>f2,fun _=>rfl⟩
 have U3:Hid (∀ a h,_):=fun a h=>T3.out a true h ⟨fun _=>f3,fun _=>rfl⟩
 have U4:Hid (∀ a h,_):=fun a h=>T4.out a true h ⟨fun _=>f4,fun _=>rfl⟩
 clear HB T1 T2 T3 T4 f0 f1 f2 f3 f4
 generalize x.pub=pb,str x.name=nm1,x.lives.length=l1,x.params.length=l2,x.result.kind=rk,str x.result.name=rn1,x.body.length=l3,x.pos=ps at *
 go_enter Tryz.func25,Tryz.ntmps25
 go_wp2_with fail
 refine N0.out.mono ?_
 rintro ev w0 ⟨rfl,rfl⟩
 go_wp2_with fail
 refine (U1.out _ (F0.out)).mono ?_
 rintro ev w1 ⟨rfl,fm1⟩
 have e11:w1.cell? ⟨w.heap.size,2,none⟩=some (.slice lp l1 lc):=fm1.row.cell 2
 have e12:w1.cell? ⟨w.heap.size,3,none⟩=some (.slice pp l2 pc):=fm1.row.cell 3
 have e14:w1.cell? ⟨w.heap.size,4,none⟩=some (.int .i64 rk):=fm1.row.cell 4
 have e15:w1.cell? ⟨w.heap.size,5,none⟩=some (.string rn1):=fm1.row.cell 5
 have e16:w1.cell? ⟨w.heap.size,6,none⟩=some (.slice t2 m2 d2):=fm1.row.cell 6
 have e17:w1.cell? ⟨w.heap.size,7,none⟩=some (.slice t3 m3 d3):=fm1.row.cell 7
 have e18:w1.cell? ⟨w.heap.size,8,none⟩=some (.slice bp l3 bc):=fm1.row.cell 8
 go_wp2_with fail
 refine (U2.out _ (fm1)).mono ?_
 rintro ev w2 ⟨rfl,fm2⟩
 have e21:w2.cell? ⟨w.heap.size,2,none⟩=some (.slice lp l1 lc):=fm2.row.cell 2
 have e22:w2.cell? ⟨w.heap.size,3,none⟩=some (.slice pp l2 pc):=fm2.row.cell 3
 have e24:w2.cell? ⟨w.heap.size,4,none⟩=some (.int .i64 rk):=fm2.row.cell 4
 have e25:w2.cell? ⟨w.heap.size,5,none⟩=some (.string rn1):=fm2.row.cell 5
 have e26:w2.cell? ⟨w.heap.size,6,none⟩=some (.slice t2 m2 d2):=fm2.row.cell 6
 have e27:w2.cell? ⟨w.heap.size,7,none⟩=some (.slice t3 m3 d3):=fm2.row.cell 7
 have e28:w2.cell? ⟨w.heap.size,8,none⟩=some (.slice bp l3 bc):=fm2.row.cell 8
 go_wp2_with fail
 refine (U3.out _ (fm2)).mono ?_
 rintro ev w3 ⟨rfl,fm3⟩
 have e31:w3.cell? ⟨w.heap.size,2,none⟩=some (.slice lp l1 lc):=fm3.row.cell 2
 have e32:w3.cell? ⟨w.heap.size,3,none⟩=some (.slice pp l2 pc):=fm3.row.cell 3
 have e34:w3.cell? ⟨w.heap.size,4,none⟩=some (.int .i64 rk):=fm3.row.cell 4
 have e35:w3.cell? ⟨w.heap.size,5,none⟩=some (.string rn1):=fm3.row.cell 5
 have e36:w3.cell? ⟨w.heap.size,6,none⟩=some (.slice t2 m2 d2):=fm3.row.cell 6
 have e37:w3.cell? ⟨w.heap.size,7,none⟩=some (.slice t3 m3 d3):=fm3.row.cell 7
 have e38:w3.cell? ⟨w.heap.size,8,none⟩=some (.slice bp l3 bc):=fm3.row.cell 8
 go_wp2_with fail
 refine (U4.out _ (fm3)).mono ?_
 rintro ev w4 ⟨rfl,hb4⟩
 go_wp2_with fail
 go_ret
 exact ⟨by rw [HF.out];rfl,hb4⟩
theorem may_any {n:Nat} {K:Ctx} {w:World} (he:Env K w) {c:Crt} {cs:List Value} (hx:CrtAt n K w cs c) (B:Bool) (hB:B=true↔MayCrt n c) :
  Calls Tryz.prog 9 #[.agg cs.toArray] w fun ev w'=>ev=.returned (.bool B)/\Below w.heap.size w w':=by
 obtain ⟨v0,v1,rfl,hs,hf⟩:=hx
 have hn1:c.structs.length<=4611686018427387903:=by obtain ⟨_,_,_,h1,h2,_⟩:=hs.shape;omega
 have hn2:c.funcs.length<=4611686018427387903:=by obtain ⟨_,_,_,h1,h2,_⟩:=hf.shape;omega
 obtain ⟨sp,sc,rfl⟩:=hs.form
 obtain ⟨fp,fc,rfl⟩:=hf.form
 have hA:=alloc_one w (.cells #[.slice sp c.structs.length sc,.slice fp c.funcs.length fc] 25)
 have hK:=below_le hA he.C
 have HA:=hid0 hA
 have T1:Hid (∀ B,(B=true↔∀ s∈c.structs,MaySct s)->Calls Tryz.prog 22 #[.slice sp c.structs.length sc,.func (.func 23) #[] #[]] (w.alloc (.cells #[.slice sp c.structs.length sc,.slice fp c.funcs.length fc] 25)) fun ev w'=>ev=.returned (.bool B)/\Below w.heap.size w w'/\Row w' w.heap.size 25 [.slice sp c.structs.length sc,.slice fp c.funcs.length fc]):=by
  intro B hB
  refine (allStructs (he.below hK) (fun _ _ _ he hx B hB=>mayStruct_any he hx B hB) (hs.mono hK fun _ _ _ q=>q.below hK) B hB).mono ?_
  rintro _ _ ⟨rfl,hb⟩
  exact ⟨rfl,hA.trans (below_le hb hA.size),(Row.new w 25 _).below hb (by rw [size_alloc];omega)⟩
 have T2:Hid (∀ (a:World) (B:Bool),Below w.heap.size w a->(B=true↔∀ f∈c.funcs,MayFnc n f)->Calls Tryz.prog 24 #[.slice fp c.funcs.length fc,.func (.func 25) #[] #[]] a fun ev w'=>ev=.returned (.bool B)/\Below w.heap.size w w'):=by
  intro a B hb hB
  have hKa:=below_le hb he.C
  exact (allFuncs (he.below hKa) (fun _ _ _ he hx B hB=>mayFunc_any he hx B hB) (hf.mono hKa fun _ _ _ q=>q.below hKa) B hB).mono fun _ _ q=>⟨q.1,hb.trans (below_le q.2 hb.size)⟩
 have HB:Hid (B=true↔MayCrt n c):=hB
 have wr:IntKind.i64.wrap ((c.structs.length:Int)+(c.funcs.length:Int))=(c.structs.length:Int)+(c.funcs.length:Int):=wrap_small (by omega) (by omega)
 clear hB hs hf hA hK he
 by_cases f0:c.structs.length+c.funcs.length<=256
 ·have b0:decide ((c.structs.length:Int)+(c.funcs.length:Int)<=256)=true:=by simp;omega
  have b0':(c.structs.length:Int)+(c.funcs.length:Int)<=256:=by omega
  by_cases f1:∀ s∈c.structs,MaySct s
  ·have U1:=T1.out true ⟨fun _=>f1,fun _=>rfl⟩
   have U2:Hid (∀ a hb,_):=fun a hb=>T2.out a B hb (by rw [HB.out];exact ⟨fun h=>h.2.2,fun h=>⟨f0,f1,h⟩⟩)
   clear HB T1 T2 f1 HA
   generalize c.structs.length=l1,c.funcs.length=l2 at *
   go_enter Tryz.func9,Tryz.ntmps9
   go_wp2_with fail
   refine U1.mono ?_
   rintro ev w1 ⟨rfl,hb1,r1⟩
   have c1:w1.cell? ⟨w.heap.size,1,none⟩=some (.slice fp l2 fc):=r1.cell 1
   go_wp2_with fail
   refine (U2.out _ hb1).mono ?_
   rintro ev w2 ⟨rfl,hb2⟩
   go_wp2_with fail
   go_ret
   exact ⟨rfl,hb2⟩
  ·obtain rfl:=bool_false HB.out (fun h=>f1 h.2.1)
   have U1:=T1.out false ⟨fun h=>(by cases h),fun h=>absurd h f1⟩
   clear HB T1 T2 f1 HA
   generalize c.structs.length=l1,c.funcs.length=l2 at *
   go_enter Tryz.func9,Tryz.ntmps9
   go_wp2_with fail
   refine U1.mono ?_
   rintro ev w1 ⟨rfl,hb1,_⟩
   go_wp2_with fail
   go_ret
   exact ⟨rfl,hb1⟩
 ·have b0:decide ((c.structs.length:Int)+(c.funcs.length:Int)<=256)=false:=by simp;omega
  have b0':¬ (c.structs.length:Int)+(c.funcs.length:Int)<=256:=by omega
  obtain rfl:=bool_false HB.out (fun h=>f0 h.1)
  clear HB T1 T2
  generalize c.structs.length=l1,c.funcs.length=l2 at *
  go_enter Tryz.func9,Tryz.ntmps9
  go_wp2_with fail
  go_ret
  exact ⟨rfl,HA.out⟩
end Go.Proofs.YtjenmmkamhplkaaGreat
