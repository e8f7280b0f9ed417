/- Part of the proof. -/
import Derived.Test.YtjenmmkamhplkaaGreatJqspSms2
namespace Go.Proofs.YtjenmmkamhplkaaGreat
open Go.RowKit
set_option maxHeartbeats 8000000
set_option maxRecDepth 20000
theorem mayStm_5 {n m:Nat} (hm:m<=64) (ih:BlkC n m) {K:Ctx} {w:World} {gb L:Nat} (hb:Bod K gb L w) {x:St} {pa pb pp pn pv t2 t3 lp qp tp ep:Option Addr} {na nb np ca cb cp cn cv m2 d2 m3 d3 ln lc qn qc tc ec:Nat} (hty:IsTy K w [.int .i64 x.ty.kind,.string (str x.ty.name),.slice t2 m2 d2,.slice t3 m3 d3] x.ty) (hpl:PlAt K w [.string (str x.place.name),.slice lp ln lc] x.place) (hvl:VaAt K w [.int .i64 x.val.kind,.int .i64 x.val.a.kind,.int .i64 x.val.a.n,.string (str x.val.a.place.name),.slice pa na ca,.int .i64 x.val.b.kind,.int .i64 x.val.b.n,.string (str x.val.b.place.name),.slice pb nb cb,.int .i64 x.val.op,.string (str x.val.place.name),.slice pp np cp,.string (str x.val.name),.slice pn x.val.names.length cn,.slice pv x.val.args.length cv] x.val) (hcd:OprAt K w [.int .i64 x.cond.kind,.int .i64 x.cond.n,.string (str x.cond.place.name),.slice qp qn qc] x.cond) (hl:x.name.length<=K.B) (hth:Ar 32 496 (StAt n K w) K w (.slice tp x.thn.length tc) x.thn) (hel:Ar 32 496 (StAt n K w) K w (.slice ep x.els.length ec) x.els) (k0:x.kind=5) (B:Bool) (hB:B=true↔StOk (MayBlk m) x/\inner (n+1) x<=L) :
  Calls Tryz.prog 88 #[.pointer (some ⟨gb,0,none⟩),.agg #[.int .i64 x.kind,.int .i64 x.pos,.bool x.mu,.string (str x.name),.int .i64 x.ty.kind,.string (str x.ty.name),.slice t2 m2 d2,.slice t3 m3 d3,.bool x.has,.string (str x.place.name),.slice lp ln lc,.int .i64 x.val.kind,.int .i64 x.val.a.kind,.int .i64 x.val.a.n,.string (str x.val.a.place.name),.slice pa na ca,.int .i64 x.val.b.kind,.int .i64 x.val.b.n,.string (str x.val.b.place.name),.slice pb nb cb,.int .i64 x.val.op,.string (str x.val.place.name),.slice pp np cp,.string (str x.val.name),.slice pn x.val.names.length cn,.slice pv x.val.args.length cv,.int .i64 x.cond.kind,.int .i64 x.cond.n,.string (str x.cond.place.name),.slice qp qn qc,.slice tp x.thn.length tc,.slice ep x.els.length ec],.int .i64 (64 - (m:Int))] w fun ev y'=>ev=.returned (.bool B)/\Stay (fun k=>k=gb) w y'/\Spent gb B L (inner (n+1) x) y':=by
 rw [ok_whl k0,inner_succ] at hB
 have S0:=Sm.first (m:=m) [.int .i64 x.kind,.int .i64 x.pos,.bool x.mu,.string (str x.name),.int .i64 x.ty.kind,.string (str x.ty.name),.slice t2 m2 d2,.slice t3 m3 d3,.bool x.has,.string (str x.place.name),.slice lp ln lc,.int .i64 x.val.kind,.int .i64 x.val.a.kind,.int .i64 x.val.a.n,.string (str x.val.a.place.name),.slice pa na ca,.int .i64 x.val.b.kind,.int .i64 x.val.b.n,.string (str x.val.b.place.name),.slice pb nb cb,.int .i64 x.val.op,.string (str x.val.place.name),.slice pp np cp,.string (str x.val.name),.slice pn x.val.names.length cn,.slice pv x.val.args.length cv,.int .i64 x.cond.kind,.int .i64 x.cond.n,.string (str x.cond.place.name),.slice qp qn qc,.slice tp x.thn.length tc,.slice ep x.els.length ec] hb
 have hmf:=hmf0
 have s1:(x.kind == 1)=false:=by rw [k0];rfl
 have s2:(x.kind == 2)=false:=by rw [k0];rfl
 have s3:(x.kind == 3)=false:=by rw [k0];rfl
 have s4:(x.kind == 4)=false:=by rw [k0];rfl
 have s5:(x.kind == 5)=true:=by rw [k0];rfl
 have HV:{ x with cond:=Opr.zero,thn:=[] }=St.bare x.kind x.pos->cnt n x.thn+cnt n x.els=cnt n x.thn:=by
  intro h
  have eels:x.els=[]:=congrArg St.els h
  rw [eels]
  simp only [cnt_nil]
  omega
 have HB:Hid (B=true↔MayOpr x.cond/\(MayBlk m x.thn/\cnt n x.thn<=L)/\{ x with cond:=Opr.zero,thn:=[] }=St.bare x.kind x.pos):=by
  show _↔_
  rw [hB]
  constructor
  ·rintro ⟨⟨q0,q1,q2⟩,hq⟩
   exact ⟨q0,⟨q1,by omega⟩,q2⟩
  ·rintro ⟨q0,⟨q1,z1⟩,q2⟩
   have hv:=HV q2
   exact ⟨⟨q0,q1,q2⟩,by omega⟩
 clear hB
 have T0:Hid (∀ (a:World) (L:Nat) (B:Bool),Sm K w gb m L [.int .i64 x.kind,.int .i64 x.pos,.bool x.mu,.string (str x.name),.int .i64 x.ty.kind,.string (str x.ty.name),.slice t2 m2 d2,.slice t3 m3 d3,.bool x.has,.string (str x.place.name),.slice lp ln lc,.int .i64 x.val.kind,.int .i64 x.val.a.kind,.int .i64 x.val.a.n,.string (str x.val.a.place.name),.slice pa na ca,.int .i64 x.val.b.kind,.int .i64 x.val.b.n,.string (str x.val.b.place.name),.slice pb nb cb,.int .i64 x.val.op,.string (str x.val.place.name),.slice pp np cp,.string (str x.val.name),.slice pn x.val.names.length cn,.slice pv x.val.args.length cv,.int .i64 x.cond.kind,.int .i64 x.cond.n,.string (str x.cond.place.name),.slice qp qn qc,.slice tp x.thn.length tc,.slice ep x.els.length ec] a->(B=true↔MayOpr x.cond)->Calls Tryz.prog 118 #[.pointer (some ⟨w.heap.size+1,26,none⟩),.func (.func 119) #[] #[]] a fun ev w'=>ev=.returned (.bool B)/\Sm K w gb m L [.int .i64 x.kind,.int .i64 x.pos,.bool x.mu,.string (str x.name),.int .i64 x.ty.kind,.string (str x.ty.name),.slice t2 m2 d2,.slice t3 m3 d3,.bool x.has,.string (str x.place.name),.slice lp ln lc,.int .i64 x.val.kind,.int .i64 x.val.a.kind,.int .i64 x.val.a.n,.string (str x.val.a.place.name),.slice pa na ca,.int .i64 x.val.b.kind,.int .i64 x.val.b.n,.string (str x.val.b.place.name),.slice pb nb cb,.int .i64 x.val.op,.string (str x.val.place.name),.slice pp np cp,.string (str x.val.name),.slice pn x.val.names.length cn,.slice pv x.val.args.length cv,.int .i64 0,.int .i64 0,.string (str []),.slice none 0 0,.slice tp x.thn.length tc,.slice ep x.els.length ec] w'):=by
  intro a L B h hB
  exact (takeOper_any h.bod.env (A:=[.int .i64 x.kind,.int .i64 x.pos,.bool x.mu,.string (str x.name),.int .i64 x.ty.kind,.string (str x.ty.name),.slice t2 m2 d2,.slice t3 m3 d3,.bool x.has,.string (str x.place.name),.slice lp ln lc,.int .i64 x.val.kind,.int .i64 x.val.a.kind,.int .i64 x.val.a.n,.string (str x.val.a.place.name),.slice pa na ca,.int .i64 x.val.b.kind,.int .i64 x.val.b.n,.string (str x.val.b.place.name),.slice pb nb cb,.int .i64 x.val.op,.string (str x.val.place.name),.slice pp np cp,.string (str x.val.name),.slice pn x.val.names.length cn,.slice pv x.val.args.length cv]) (cs:=[.int .i64 x.cond.kind,.int .i64 x.cond.n,.string (str x.cond.place.name),.slice qp qn qc]) (R:=[.slice tp x.thn.length tc,.slice ep x.els.length ec]) h.row rfl (hcd.below h.kb) B hB).mono fun _ _ q=>⟨q.1,h.next q.2.1 q.2.2⟩
 have T1:Hid (∀ (a:World) (L:Nat) (B:Bool),Sm K w gb m L [.int .i64 x.kind,.int .i64 x.pos,.bool x.mu,.string (str x.name),.int .i64 x.ty.kind,.string (str x.ty.name),.slice t2 m2 d2,.slice t3 m3 d3,.bool x.has,.string (str x.place.name),.slice lp ln lc,.int .i64 x.val.kind,.int .i64 x.val.a.kind,.int .i64 x.val.a.n,.string (str x.val.a.place.name),.slice pa na ca,.int .i64 x.val.b.kind,.int .i64 x.val.b.n,.string (str x.val.b.place.name),.slice pb nb cb,.int .i64 x.val.op,.string (str x.val.place.name),.slice pp np cp,.string (str x.val.name),.slice pn x.val.names.length cn,.slice pv x.val.args.length cv,.int .i64 0,.int .i64 0,.string (str []),.slice none 0 0,.slice tp x.thn.length tc,.slice ep x.els.length ec] a->(B=true↔(MayBlk m x.thn/\cnt n x.thn<=L))->Calls Tryz.prog 120 #[.pointer (some ⟨w.heap.size+1,30,none⟩),.func (.func 108) #[] #[.pointer (some ⟨w.heap.size,0,none⟩),.pointer (some ⟨w.heap.size+1+1,0,none⟩)]] a fun ev w'=>ev=.returned (.bool B)/\∃ L',Sm K w gb m L' [.int .i64 x.kind,.int .i64 x.pos,.bool x.mu,.string (str x.name),.int .i64 x.ty.kind,.string (str x.ty.name),.slice t2 m2 d2,.slice t3 m3 d3,.bool x.has,.string (str x.place.name),.slice lp ln lc,.int .i64 x.val.kind,.int .i64 x.val.a.kind,.int .i64 x.val.a.n,.string (str x.val.a.place.name),.slice pa na ca,.int .i64 x.val.b.kind,.int .i64 x.val.b.n,.string (str x.val.b.place.name),.slice pb nb cb,.int .i64 x.val.op,.string (str x.val.place.name),.slice pp np cp,.string (str x.val.name),.slice pn x.val.names.length cn,.slice pv x.val.args.length cv,.int .i64 0,.int .i64 0,.string (str []),.slice none 0 0,.slice none 0 0,.slice ep x.els.length ec] w'/\(B=true->L'+cnt n x.thn=L)):=by
  intro a L B h hB
  refine (takeBlock_of hm ih h.bod h.rb h.rd (A:=[.int .i64 x.kind,.int .i64 x.pos,.bool x.mu,.string (str x.name),.int .i64 x.ty.kind,.string (str x.ty.name),.slice t2 m2 d2,.slice t3 m3 d3,.bool x.has,.string (str x.place.name),.slice lp ln lc,.int .i64 x.val.kind,.int .i64 x.val.a.kind,.int .i64 x.val.a.n,.string (str x.val.a.place.name),.slice pa na ca,.int .i64 x.val.b.kind,.int .i64 x.val.b.n,.string (str x.val.b.place.name),.slice pb nb cb,.int .i64 x.val.op,.string (str x.val.place.name),.slice pp np cp,.string (str x.val.name),.slice pn x.val.names.length cn,.slice pv x.val.args.length cv,.int .i64 0,.int .i64 0,.string (str []),.slice none 0 0]) (R:=[.slice ep x.els.length ec]) h.row rfl (by have:=h.lt;omega) (hth.mono h.kb fun _ _ _ q=>q.below h.kb) B hB).mono ?_
  rintro _ _ ⟨rfl,q2,q3,L',q4,q5,q6⟩
  exact ⟨rfl,L',h.nextB q2 q3 q4 q5,q6⟩
 have TL:Hid (∀ (a:World) (L:Nat) (B:Bool),Sm K w gb m L [.int .i64 x.kind,.int .i64 x.pos,.bool x.mu,.string (str x.name),.int .i64 x.ty.kind,.string (str x.ty.name),.slice t2 m2 d2,.slice t3 m3 d3,.bool x.has,.string (str x.place.name),.slice lp ln lc,.int .i64 x.val.kind,.int .i64 x.val.a.kind,.int .i64 x.val.a.n,.string (str x.val.a.place.name),.slice pa na ca,.int .i64 x.val.b.kind,.int .i64 x.val.b.n,.string (str x.val.b.place.name),.slice pb nb cb,.int .i64 x.val.op,.string (str x.val.place.name),.slice pp np cp,.string (str x.val.name),.slice pn x.val.names.length cn,.slice pv x.val.args.length cv,.int .i64 0,.int .i64 0,.string (str []),.slice none 0 0,.slice none 0 0,.slice ep x.els.length ec] a->(B=true↔{ x with cond:=Opr.zero,thn:=[] }=St.bare x.kind x.pos)->Calls Tryz.prog 75 #[.pointer (some ⟨w.heap.size+1,0,none⟩),.pointer (some ⟨a.heap.size,0,none⟩)] (a.alloc (.cells #[.int .i64 x.kind,.int .i64 x.pos,.bool false,.string ⟨#[]⟩,.int .i64 0,.string ⟨#[]⟩,.slice none 0 0,.slice none 0 0,.bool false,.string ⟨#[]⟩,.slice none 0 0,.int .i64 0,.int .i64 0,.int .i64 0,.string ⟨#[]⟩,.slice none 0 0,.int .i64 0,.int .i64 0,.string ⟨#[]⟩,.slice none 0 0,.int .i64 0,.string ⟨#[]⟩,.slice none 0 0,.string ⟨#[]⟩,.slice none 0 0,.slice none 0 0,.int .i64 0,.int .i64 0,.string ⟨#[]⟩,.slice none 0 0,.slice none 0 0,.slice none 0 0] 49)) fun ev w'=>ev=.returned (.bool B)/\Stay (fun k=>k=gb) w w'/\Row w' gb 89 [.int .i64 (L:Int)]):=by
  intro a L B h hB
  exact h.last (n:=n) (v:={ x with cond:=Opr.zero,thn:=[] }) ⟨_,_,_,_,_,_,rfl,hl,hty.below h.kb,hpl.below h.kb,hvl.below h.kb,opr_zero K _,nil_ar,hel.mono h.kb fun _ _ _ q=>q.below h.kb⟩ x.kind x.pos B hB
 have HS0:=hid0 S0
 have HLm:Hid (L<=2000):=hb.most
 have HVV:=hid0 HV
 clear hty hpl hvl hcd hl hth hel S0 hb HV k0 ih hm
 by_cases f0:MayOpr x.cond
 rotate_left
 ·obtain rfl:=bool_false HB.out (fun h=>f0 h.1)
  have U0:Hid (∀ a L h,_):=fun a L h=>T0.out a L false h ⟨fun h=>(by cases h),fun h=>absurd h f0⟩
  have HFin:Hid (∀ (w':World) (L':Nat),Row w' gb 89 [.int .i64 (L':Int)]->L'<=2000->Spent gb false L (cnt n x.thn+cnt n x.els) w'):=fun w' L' q1 q2=>⟨L',q1,q2,fun h=>by cases h⟩
  rw [inner_succ]
  clear HB HVV TL T0 T1 f0
  generalize cnt n x.thn=ct,cnt n x.els=ce,x.kind=kd,x.pos=ps,x.mu=mu,str x.name=nm1,x.ty.kind=tk,str x.ty.name=tn1,x.has=hs,str x.place.name=pl1,x.val.kind=vk,x.val.a.kind=ak,x.val.a.n=an,str x.val.a.place.name=as1,x.val.b.kind=bk,x.val.b.n=bn,str x.val.b.place.name=bs1,x.val.op=vo,str x.val.place.name=vp1,str x.val.name=vn1,x.val.names.length=vl1,x.val.args.length=vl2,x.cond.kind=ck,x.cond.n=cn2,str x.cond.place.name=cs1,x.thn.length=th1,x.els.length=el1 at *
  go_enter Tryz.func88,Tryz.ntmps88
  go_wp2_with fail
  refine (U0.out _ _ (HS0.out)).mono ?_
  rintro ev w1 ⟨rfl,sm1⟩
  have ck1:w1.cell? ⟨w.heap.size+1,0,none⟩=some (.int .i64 kd):=sm1.row.cell 0
  have cp1:w1.cell? ⟨w.heap.size+1,1,none⟩=some (.int .i64 ps):=sm1.row.cell 1
  go_wp2_with fail
  go_ret
  exact ⟨rfl,(sm1).stay,HFin.out _ _ (sm1).bod.row (sm1).bod.most⟩
 by_cases f1:(MayBlk m x.thn/\cnt n x.thn<=L)
 rotate_left
 ·obtain rfl:=bool_false HB.out (fun h=>f1 h.2.1)
  have U0:Hid (∀ a L h,_):=fun a L h=>T0.out a L true h ⟨fun _=>f0,fun _=>rfl⟩
  have U1:Hid (∀ a L',L'=L->∀ h,_):=fun a L' hL h=>T1.out a L' false h ⟨fun h=>(by cases h),fun h=>absurd ⟨h.1,by have:=h.2;omega⟩ f1⟩
  have HFin:Hid (∀ (w':World) (L':Nat),Row w' gb 89 [.int .i64 (L':Int)]->L'<=2000->Spent gb false L (cnt n x.thn+cnt n x.els) w'):=fun w' L' q1 q2=>⟨L',q1,q2,fun h=>by cases h⟩
  rw [inner_succ]
  clear HB HVV TL T0 T1 f0 f1
  generalize cnt n x.thn=ct,cnt n x.els=ce,x.kind=kd,x.pos=ps,x.mu=mu,str x.name=nm1,x.ty.kind=tk,str x.ty.name=tn1,x.has=hs,str x.place.name=pl1,x.val.kind=vk,x.val.a.kind=ak,x.val.a.n=an,str x.val.a.place.name=as1,x.val.b.kind=bk,x.val.b.n=bn,str x.val.b.place.name=bs1,x.val.op=vo,str x.val.place.name=vp1,str x.val.name=vn1,x.val.names.length=vl1,x.val.args.length=vl2,x.cond.kind=ck,x.cond.n=cn2,str x.cond.place.name=cs1,x.thn.length=th1,x.els.length=el1 at *
  go_enter Tryz.func88,Tryz.ntmps88
  go_wp2_with fail
  refine (U0.out _ _ (HS0.out)).mono ?_
  rintro ev w1 ⟨rfl,sm1⟩
  have ck1:w1.cell? ⟨w.heap.size+1,0,none⟩=some (.int .i64 kd):=sm1.row.cell 0
  have cp1:w1.cell? ⟨w.heap.size+1,1,none⟩=some (.int .i64 ps):=sm1.row.cell 1
  go_wp2_with fail
  refine (U1.out _ _ (by omega) (sm1)).mono ?_
  rintro ev w2 ⟨rfl,L2,sm2,hL2⟩
  have ck2:w2.cell? ⟨w.heap.size+1,0,none⟩=some (.int .i64 kd):=sm2.row.cell 0
  have cp2:w2.cell? ⟨w.heap.size+1,1,none⟩=some (.int .i64 ps):=sm2.row.cell 1
  go_wp2_with fail
  go_ret
  exact ⟨rfl,(sm2).stay,HFin.out _ _ (sm2).bod.row (sm2).bod.most⟩
 have HBL:Hid (B=true↔{ x with cond:=Opr.zero,thn:=[] }=St.bare x.kind x.pos):=by
  show _↔_
  rw [HB.out];exact ⟨fun h=>h.2.2,fun h=>⟨f0,f1,h⟩⟩
 have U0:Hid (∀ a L h,_):=fun a L h=>T0.out a L true h ⟨fun _=>f0,fun _=>rfl⟩
 have U1:Hid (∀ a L',L'=L->∀ h,_):=fun a L' hL h=>T1.out a L' true h ⟨fun _=>⟨f1.1,by have:=f1.2;omega⟩,fun _=>rfl⟩
 have UL:Hid (∀ a L h,_):=fun a L h=>TL.out a L B h HBL.out
 have HFin:Hid (∀ (w':World) (L':Nat),Stay (fun k=>k=gb) w w'->Row w' gb 89 [.int .i64 (L':Int)]->L'<=2000->(B=true->L'+(cnt n x.thn)=L)->Spent gb B L (cnt n x.thn+cnt n x.els) w'):=fun w' L' _ q1 q2 q3=>⟨L',q1,q2,fun h=>by rw [HVV.out (HBL.out.1 h)];exact q3 h⟩
 rw [inner_succ]
 clear HB HVV TL T0 T1 f0 f1 HBL
 generalize cnt n x.thn=ct,cnt n x.els=ce,x.kind=kd,x.pos=ps,x.mu=mu,str x.name=nm1,x.ty.kind=tk,str x.ty.name=tn1,x.has=hs,str x.place.name=pl1,x.val.kind=vk,x.val.a.kind=ak,x.val.a.n=an,str x.val.a.place.name=as1,x.val.b.kind=bk,x.val.b.n=bn,str x.val.b.place.name=bs1,x.val.op=vo,str x.val.place.name=vp1,str x.val.name=vn1,x.val.names.length=vl1,x.val.args.length=vl2,x.cond.kind=ck,x.cond.n=cn2,str x.cond.place.name=cs1,x.thn.length=th1,x.els.length=el1 at *
 go_enter Tryz.func88,Tryz.ntmps88
 go_wp2_with fail
 refine (U0.out _ _ (HS0.out)).mono ?_
 rintro ev w1 ⟨rfl,sm1⟩
 have ck1:w1.cell? ⟨w.heap.size+1,0,none⟩=some (.int .i64 kd):=sm1.row.cell 0
 have cp1:w1.cell? ⟨w.heap.size+1,1,none⟩=some (.int .i64 ps):=sm1.row.cell 1
 go_wp2_with fail
 refine (U1.out _ _ (by omega) (sm1)).mono ?_
 rintro ev w2 ⟨rfl,L2,sm2,hL2⟩
 replace hL2:=hL2 (by trivial)
 have ck2:w2.cell? ⟨w.heap.size+1,0,none⟩=some (.int .i64 kd):=sm2.row.cell 0
 have cp2:w2.cell? ⟨w.heap.size+1,1,none⟩=some (.int .i64 ps):=sm2.row.cell 1
 have D:=UL.out _ _ (sm2)
 have hmL:=(sm2).bod.most
 go_wp2_with fail
 refine D.mono ?_
 rintro ev w9 ⟨rfl,h9,r9⟩
 go_wp2_with fail
 go_ret
 exact ⟨rfl,h9,HFin.out _ _ h9 r9 hmL (fun _=>by omega)⟩
theorem mayStm_6 {n m:Nat} (hm:m<=64) (ih:BlkC n m) {K:Ctx} {w:World} {gb L:Nat} (hb:Bod K gb L w) {x:St} {pa pb pp pn pv t2 t3 lp qp tp ep:Option Addr} {na nb np ca cb cp cn cv m2 d2 m3 d3 ln lc qn qc tc ec:Nat} (hty:IsTy K w [.int .i64 x.ty.kind,.string (str x.ty.name),.slice t2 m2 d2,.slice t3 m3 d3] x.ty) (hpl:PlAt K w [.string (str x.place.name),.slice lp ln lc] x.place) (hvl:VaAt K w [.int .i64 x.val.kind,.int .i64 x.val.a.kind,.int .i64 x.val.a.n,.string (str x.val.a.place.name),.slice pa na ca,.int .i64 x.val.b.kind,.int .i64 x.val.b.n,.string (str x.val.b.place.name),.slice pb nb cb,.int .i64 x.val.op,.string (str x.val.place.name),.slice pp np cp,.string (str x.val.name),.slice pn x.val.names.length cn,.slice pv x.val.args.length cv] x.val) (hcd:OprAt K w [.int .i64 x.cond.kind,.int .i64 x.cond.n,.string (str x.cond.place.name),.slice qp qn qc] x.cond) (hl:x.name.length<=K.B) (hth:Ar 32 496 (StAt n K w) K w (.slice tp x.thn.length tc) x.thn) (hel:Ar 32 496 (StAt n K w) K w (.slice ep x.els.length ec) x.els) (k0:x.kind=6) (B:Bool) (hB:B=true↔StOk (MayBlk m) x/\inner (n+1) x<=L) :
  Calls Tryz.prog 88 #[.pointer (some ⟨gb,0,none⟩),.agg #[.int .i64 x.kind,.int .i64 x.pos,.bool x.mu,.string (str x.name),.int .i64 x.ty.kind,.string (str x.ty.name),.slice t2 m2 d2,.slice t3 m3 d3,.bool x.has,.string (str x.place.name),.slice lp ln lc,.int .i64 x.val.kind,.int .i64 x.val.a.kind,.int .i64 x.val.a.n,.string (str x.val.a.place.name),.slice pa na ca,.int .i64 x.val.b.kind,.int .i64 x.val.b.n,.string (str x.val.b.place.name),.slice pb nb cb,.int .i64 x.val.op,.string (str x.val.place.name),.slice pp np cp,.string (str x.val.name),.slice pn x.val.names.length cn,.slice pv x.val.args.length cv,.int .i64 x.cond.kind,.int .i64 x.cond.n,.string (str x.cond.place.name),.slice qp qn qc,.slice tp x.thn.length tc,.slice ep x.els.length ec],.int .i64 (64 - (m:Int))] w fun ev y'=>ev=.returned (.bool B)/\Stay (fun k=>k=gb) w y'/\Spent gb B L (inner (n+1) x) y':=by
 rw [ok_loop (.inl k0),inner_succ] at hB
 have S0:=Sm.first (m:=m) [.int .i64 x.kind,.int .i64 x.pos,.bool x.mu,.string (str x.name),.int .i64 x.ty.kind,.string (str x.ty.name),.slice t2 m2 d2,.slice t3 m3 d3,.bool x.has,.string (str x.place.name),.slice lp ln lc,.int .i64 x.val.kind,.int .i64 x.val.a.kind,.int .i64 x.val.a.n,.string (str x.val.a.place.name),.slice pa na ca,.int .i64 x.val.b.kind,.int .i64 x.val.b.n,.string (str x.val.b.place.name),.slice pb nb cb,.int .i64 x.val.op,.string (str x.val.place.name),.slice pp np cp,.string (str x.val.name),.slice pn x.val.names.length cn,.slice pv x.val.args.length cv,.int .i64 x.cond.kind,.int .i64 x.cond.n,.string (str x.cond.place.name),.slice qp qn qc,.slice tp x.thn.length tc,.slice ep x.els.length ec] hb
 have hmf:=hmf0
 have s1:(x.kind == 1)=false:=by rw [k0];rfl
 have s2:(x.kind == 2)=false:=by rw [k0];rfl
 have s3:(x.kind == 3)=false:=by rw [k0];rfl
 have s4:(x.kind == 4)=false:=by rw [k0];rfl
 have s5:(x.kind == 5)=false:=by rw [k0];rfl
 have s6:(x.kind == 6)=true:=by rw [k0];rfl
 have HV:{ x with thn:=[] }=St.bare x.kind x.pos->cnt n x.thn+cnt n x.els=cnt n x.thn:=by
  intro h
  have eels:x.els=[]:=congrArg St.els h
  rw [eels]
  simp only [cnt_nil]
  omega
 have HB:Hid (B=true↔(MayBlk m x.thn/\cnt n x.thn<=L)/\{ x with thn:=[] }=St.bare x.kind x.pos):=by
  show _↔_
  rw [hB]
  constructor
  ·rintro ⟨⟨q0,q1⟩,hq⟩
   exact ⟨⟨q0,by omega⟩,q1⟩
  ·rintro ⟨⟨q0,z0⟩,q1⟩
   have hv:=HV q1
   exact ⟨⟨q0,q1⟩,by omega⟩
 clear hB
 have T0:Hid (∀ (a:World) (L:Nat) (B:Bool),Sm K w gb m L [.int .i64 x.kind,.int .i64 x.pos,.bool x.mu,.string (str x.name),.int .i64 x.ty.kind,.string (str x.ty.name),.slice t2 m2 d2,.slice t3 m3 d3,.bool x.has,.string (str x.place.name),.slice lp ln lc,.int .i64 x.val.kind,.int .i64 x.val.a.kind,.int .i64 x.val.a.n,.string (str x.val.a.place.name),.slice pa na ca,.int .i64 x.val.b.kind,.int .i64 x.val.b.n,.string (str x.val.b.place.name),.slice pb nb cb,.int .i64 x.val.op,.string (str x.val.place.name),.slice pp np cp,.string (str x.val.name),.slice pn x.val.names.length cn,.slice pv x.val.args.length cv,.int .i64 x.cond.kind,.int .i64 x.cond.n,.string (str x.cond.place.name),.slice qp qn qc,.slice tp x.thn.length tc,.slice ep x.els.length ec] a->(B=true↔(MayBlk m x.thn/\cnt n x.thn<=L))->Calls Tryz.prog 120 #[.pointer (some ⟨w.heap.size+1,30,none⟩),.func (.func 108) #[] #[.pointer (some ⟨w.heap.size,0,none⟩),.pointer (some ⟨w.heap.size+1+1,0,none⟩)]] a fun ev w'=>ev=.returned (.bool B)/\∃ L',Sm K w gb m L' [.int .i64 x.kind,.int .i64 x.pos,.bool x.mu,.string (str x.name),.int .i64 x.ty.kind,.string (str x.ty.name),.slice t2 m2 d2,.slice t3 m3 d3,.bool x.has,.string (str x.place.name),.slice lp ln lc,.int .i64 x.val.kind,.int .i64 x.val.a.kind,.int .i64 x.val.a.n,.string (str x.val.a.place.name),.slice pa na ca,.int .i64 x.val.b.kind,.int .i64 x.val.b.n,.string (str x.val.b.place.name),.slice pb nb cb,.int .i64 x.val.op,.string (str x.val.place.name),.slice pp np cp,.string (str x.val.name),.slice pn x.val.names.length cn,.slice pv x.val.args.length cv,.int .i64 x.cond.kind,.int .i64 x.cond.n,.string (str x.cond.place.name),.slice qp qn qc,.slice none 0 0,.slice ep x.els.length ec] w'/\(B=true->L'+cnt n x.thn=L)):=by
  intro a L B h hB
  refine (takeBlock_of hm ih h.bod h.rb h.rd (A:=[.int .i64 x.kind,.int .i64 x.pos,.bool x.mu,.string (str x.name),.int .i64 x.ty.kind,.string (str x.ty.name),.slice t2 m2 d2,.slice t3 m3 d3,.bool x.has,.string (str x.place.name),.slice lp ln lc,.int .i64 x.val.kind,.int .i64 x.val.a.kind,.int .i64 x.val.a.n,.string (str x.val.a.place.name),.slice pa na ca,.int .i64 x.val.b.kind,.int .i64 x.val.b.n,.string (str x.val.b.place.name),.slice pb nb cb,.int .i64 x.val.op,.string (str x.val.place.name),.slice pp np cp,.string (str x.val.name),.slice pn x.val.names.length cn,.slice pv x.val.args.length cv,.int .i64 x.cond.kind,.int .i64 x.cond.n,.string (str x.cond.place.name),.slice qp qn qc]) (R:=[.slice ep x.els.length ec]) h.row rfl (by have:=h.lt;omega) (hth.mono h.kb fun _ _ _ q=>q.below h.kb) B hB).mono ?_
  rintro _ _ ⟨rfl,q2,q3,L',q4,q5,q6⟩
  exact ⟨rfl,L',h.nextB q2 q3 q4 q5,q6⟩
 have TL:Hid (∀ (a:World) (L:Nat) (B:Bool),Sm K w gb m L [.int .i64 x.kind,.int .i64 x.pos,.bool x.mu,.string (str x.name),.int .i64 x.ty.kind,.string (str x.ty.name),.slice t2 m2 d2,.slice t3 m3 d3,.bool x.has,.string (str x.place.name),.slice lp ln lc,.int .i64 x.val.kind,.int .i64 x.val.a.kind,.int .i64 x.val.a.n,.string (str x.val.a.place.name),.slice pa na ca,.int .i64 x.val.b.kind,.int .i64 x.val.b.n,.string (str x.val.b.place.name),.slice pb nb cb,.int .i64 x.val.op,.string (str x.val.place.name),.slice pp np cp,.string (str x.val.name),.slice pn x.val.names.length cn,.slice pv x.val.args.length cv,.int .i64 x.cond.kind,.int .i64 x.cond.n,.string (str x.cond.place.name),.slice qp qn qc,.slice none 0 0,.slice ep x.els.length ec] a->(B=true↔{ x with thn:=[] }=St.bare x.kind x.pos)->Calls Tryz.prog 75 #[.pointer (some ⟨w.heap.size+1,0,none⟩),.pointer (some ⟨a.heap.size,0,none⟩)] (a.alloc (.cells #[.int .i64 x.kind,.int .i64 x.pos,.bool false,.string ⟨#[]⟩,.int .i64 0,.string ⟨#[]⟩,.slice none 0 0,.slice none 0 0,.bool false,.string ⟨#[]⟩,.slice none 0 0,.int .i64 0,.int .i64 0,.int .i64 0,.string ⟨#[]⟩,.slice none 0 0,.int .i64 0,.int .i64 0,.string ⟨#[]⟩,.slice none 0 0,.int .i64 0,.string ⟨#[]⟩,.slice none 0 0,.string ⟨#[]⟩,.slice none 0 0,.slice none 0 0,.int .i64 0,.int .i64 0,.string ⟨#[]⟩,.slice none 0 0,.slice none 0 0,.slice none 0 0] 49)) fun ev w'=>ev=.returned (.bool B)/\Stay (fun k=>k=gb) w w'/\Row w' gb 89 [.int .i64 (L:Int)]):=by
  intro a L B h hB
  exact h.last (n:=n) (v:={ x with thn:=[] }) ⟨_,_,_,_,_,_,rfl,hl,hty.below h.kb,hpl.below h.kb,hvl.below h.kb,hcd.below h.kb,nil_ar,hel.mono h.kb fun _ _ _ q=>q.below h.kb⟩ x.kind x.pos B hB
 have HS0:=hid0 S0
 have HLm:Hid (L<=2000):=hb.most
 have HVV:=hid0 HV
 clear hty hpl hvl hcd hl hth hel S0 hb HV k0 ih hm
 by_cases f0:(MayBlk m x.thn/\cnt n x.thn<=L)
 rotate_left
 ·obtain rfl:=bool_false HB.out (fun h=>f0 h.1)
  have U0:Hid (∀ a L',L'=L->∀ h,_):=fun a L' hL h=>T0.out a L' false h ⟨fun h=>(by cases h),fun h=>absurd ⟨h.1,by have:=h.2;omega⟩ f0⟩
  have HFin:Hid (∀ (w':World) (L':Nat),Row w' gb 89 [.int .i64 (L':Int)]->L'<=2000->Spent gb false L (cnt n x.thn+cnt n x.els) w'):=fun w' L' q1 q2=>⟨L',q1,q2,fun h=>by cases h⟩
  rw [inner_succ]
  clear HB HVV TL T0 f0
  generalize cnt n x.thn=ct,cnt n x.els=ce,x.kind=kd,x.pos=ps,x.mu=mu,str x.name=nm1,x.ty.kind=tk,str x.ty.name=tn1,x.has=hs,str x.place.name=pl1,x.val.kind=vk,x.val.a.kind=ak,x.val.a.n=an,str x.val.a.place.name=as1,x.val.b.kind=bk,x.val.b.n=bn,str x.val.b.place.name=bs1,x.val.op=vo,str x.val.place.name=vp1,str x.val.name=vn1,x.val.names.length=vl1,x.val.args.length=vl2,x.cond.kind=ck,x.cond.n=cn2,str x.cond.place.name=cs1,x.thn.length=th1,x.els.length=el1 at *
  go_enter Tryz.func88,Tryz.ntmps88
  go_wp2_with fail
  refine (U0.out _ _ (by omega) (HS0.out)).mono ?_
  rintro ev w1 ⟨rfl,L1,sm1,hL1⟩
  have ck1:w1.cell? ⟨w.heap.size+1,0,none⟩=some (.int .i64 kd):=sm1.row.cell 0
  have cp1:w1.cell? ⟨w.heap.size+1,1,none⟩=some (.int .i64 ps):=sm1.row.cell 1
  go_wp2_with fail
  go_ret
  exact ⟨rfl,(sm1).stay,HFin.out _ _ (sm1).bod.row (sm1).bod.most⟩
 have HBL:Hid (B=true↔{ x with thn:=[] }=St.bare x.kind x.pos):=by
  show _↔_
  rw [HB.out];exact ⟨fun h=>h.2,fun h=>⟨f0,h⟩⟩
 have U0:Hid (∀ a L',L'=L->∀ h,_):=fun a L' hL h=>T0.out a L' true h ⟨fun _=>⟨f0.1,by have:=f0.2;omega⟩,fun _=>rfl⟩
 have UL:Hid (∀ a L h,_):=fun a L h=>TL.out a L B h HBL.out
 have HFin:Hid (∀ (w':World) (L':Nat),Stay (fun k=>k=gb) w w'->Row w' gb 89 [.int .i64 (L':Int)]->L'<=2000->(B=true->L'+(cnt n x.thn)=L)->Spent gb B L (cnt n x.thn+cnt n x.els) w'):=fun w' L' _ q1 q2 q3=>⟨L',q1,q2,fun h=>by rw [HVV.out (HBL.out.1 h)];exact q3 h⟩
 rw [inner_succ]
 clear HB HVV TL T0 f0 HBL
 generalize cnt n x.thn=ct,cnt n x.els=ce,x.kind=kd,x.pos=ps,x.mu=mu,str x.name=nm1,x.ty.kind=tk,str x.ty.name=tn1,x.has=hs,str x.place.name=pl1,x.val.kind=vk,x.val.a.kind=ak,x.val.a.n=an,str x.val.a.place.name=as1,x.val.b.kind=bk,x.val.b.n=bn,str x.val.b.place.name=bs1,x.val.op=vo,str x.val.place.name=vp1,str x.val.name=vn1,x.val.names.length=vl1,x.val.args.length=vl2,x.cond.kind=ck,x.cond.n=cn2,str x.cond.place.name=cs1,x.thn.length=th1,x.els.length=el1 at *
 go_enter Tryz.func88,Tryz.ntmps88
 go_wp2_with fail
 refine (U0.out _ _ (by omega) (HS0.out)).mono ?_
 rintro ev w1 ⟨rfl,L1,sm1,hL1⟩
 replace hL1:=hL1 (by trivial)
 have ck1:w1.cell? ⟨w.heap.size+1,0,none⟩=some (.int .i64 kd):=sm1.row.cell 0
 have cp1:w1.cell? ⟨w.heap.size+1,1,none⟩=some (.int .i64 ps):=sm1.row.cell 1
 have D:=UL.out _ _ (sm1)
 have hmL:=(sm1).bod.most
 go_wp2_with fail
 refine D.mono ?_
 rintro ev w9 ⟨rfl,h9,r9⟩
 go_wp2_with fail
 go_ret
 exact ⟨rfl,h9,HFin.out _ _ h9 r9 hmL (fun _=>by omega)⟩
theorem mayStm_7 {n m:Nat} (hm:m<=64) (ih:BlkC n m) {K:Ctx} {w:World} {gb L:Nat} (hb:Bod K gb L w) {x:St} {pa pb pp pn pv t2 t3 lp qp tp ep:Option Addr} {na nb np ca cb cp cn cv m2 d2 m3 d3 ln lc qn qc tc ec:Nat} (hty:IsTy K w [.int .i64 x.ty.kind,.string (str x.ty.name),.slice t2 m2 d2,.slice t3 m3 d3] x.ty) (hpl:PlAt K w [.string (str x.place.name),.slice lp ln lc] x.place) (hvl:VaAt K w [.int .i64 x.val.kind,.int .i64 x.val.a.kind,.int .i64 x.val.a.n,.string (str x.val.a.place.name),.slice pa na ca,.int .i64 x.val.b.kind,.int .i64 x.val.b.n,.string (str x.val.b.place.name),.slice pb nb cb,.int .i64 x.val.op,.string (str x.val.place.name),.slice pp np cp,.string (str x.val.name),.slice pn x.val.names.length cn,.slice pv x.val.args.length cv] x.val) (hcd:OprAt K w [.int .i64 x.cond.kind,.int .i64 x.cond.n,.string (str x.cond.place.name),.slice qp qn qc] x.cond) (hl:x.name.length<=K.B) (hth:Ar 32 496 (StAt n K w) K w (.slice tp x.thn.length tc) x.thn) (hel:Ar 32 496 (StAt n K w) K w (.slice ep x.els.length ec) x.els) (k0:x.kind=7) (B:Bool) (hB:B=true↔StOk (MayBlk m) x/\inner (n+1) x<=L) :
  Calls Tryz.prog 88 #[.pointer (some ⟨gb,0,none⟩),.agg #[.int .i64 x.kind,.int .i64 x.pos,.bool x.mu,.string (str x.name),.int .i64 x.ty.kind,.string (str x.ty.name),.slice t2 m2 d2,.slice t3 m3 d3,.bool x.has,.string (str x.place.name),.slice lp ln lc,.int .i64 x.val.kind,.int .i64 x.val.a.kind,.int .i64 x.val.a.n,.string (str x.val.a.place.name),.slice pa na ca,.int .i64 x.val.b.kind,.int .i64 x.val.b.n,.string (str x.val.b.place.name),.slice pb nb cb,.int .i64 x.val.op,.string (str x.val.place.name),.slice pp np cp,.string (str x.val.name),.slice pn x.val.names.length cn,.slice pv x.val.args.length cv,.int .i64 x.cond.kind,.int .i64 x.cond.n,.string (str x.cond.place.name),.slice qp qn qc,.slice tp x.thn.length tc,.slice ep x.els.length ec],.int .i64 (64 - (m:Int))] w fun ev y'=>ev=.returned (.bool B)/\Stay (fun k=>k=gb) w y'/\Spent gb B L (inner (n+1) x) y':=by
 rw [ok_loop (.inr k0),inner_succ] at hB
 have S0:=Sm.first (m:=m) [.int .i64 x.kind,.int .i64 x.pos,.bool x.mu,.string (str x.name),.int .i64 x.ty.kind,.string (str x.ty.name),.slice t2 m2 d2,.slice t3 m3 d3,.bool x.has,.string (str x.place.name),.slice lp ln lc,.int .i64 x.val.kind,.int .i64 x.val.a.kind,.int .i64 x.val.a.n,.string (str x.val.a.place.name),.slice pa na ca,.int .i64 x.val.b.kind,.int .i64 x.val.b.n,.string (str x.val.b.place.name),.slice pb nb cb,.int .i64 x.val.op,.string (str x.val.place.name),.slice pp np cp,.string (str x.val.name),.slice pn x.val.names.length cn,.slice pv x.val.args.length cv,.int .i64 x.cond.kind,.int .i64 x.cond.n,.string (str x.cond.place.name),.slice qp qn qc,.slice tp x.thn.length tc,.slice ep x.els.length ec] hb
 have hmf:=hmf0
 have s1:(x.kind == 1)=false:=by rw [k0];rfl
 have s2:(x.kind == 2)=false:=by rw [k0];rfl
 have s3:(x.kind == 3)=false:=by rw [k0];rfl
 have s4:(x.kind == 4)=false:=by rw [k0];rfl
 have s5:(x.kind == 5)=false:=by rw [k0];rfl
 have s6:(x.kind == 6)=false:=by rw [k0];rfl
 have s7:(x.kind == 7)=true:=by rw [k0];rfl
 have HV:{ x with thn:=[] }=St.bare x.kind x.pos->cnt n x.thn+cnt n x.els=cnt n x.thn:=by
  intro h
  have eels:x.els=[]:=congrArg St.els h
  rw [eels]
  simp only [cnt_nil]
  omega
 have HB:Hid (B=true↔(MayBlk m x.thn/\cnt n x.thn<=L)/\{ x with thn:=[] }=St.bare x.kind x.pos):=by
  show _↔_
  rw [hB]
  constructor
  ·rintro ⟨⟨q0,q1⟩,hq⟩
   exact ⟨⟨q0,by omega⟩,q1⟩
  ·rintro ⟨⟨q0,z0⟩,q1⟩
   have hv:=HV q1
   exact ⟨⟨q0,q1⟩,by omega⟩
 clear hB
 have T0:Hid (∀ (a:World) (L:Nat) (B:Bool),Sm K w gb m L [.int .i64 x.kind,.int .i64 x.pos,.bool x.mu,.string (str x.name),.int .i64 x.ty.kind,.string (str x.ty.name),.slice t2 m2 d2,.slice t3 m3 d3,.bool x.has,.string (str x.place.name),.slice lp ln lc,.int .i64 x.val.kind,.int .i64 x.val.a.kind,.int .i64 x.val.a.n,.string (str x.val.a.place.name),.slice pa na ca,.int .i64 x.val.b.kind,.int .i64 x.val.b.n,.string (str x.val.b.place.name),.slice pb nb cb,.int .i64 x.val.op,.string (str x.val.place.name),.slice pp np cp,.string (str x.val.name),.slice pn x.val.names.length cn,.slice pv x.val.args.length cv,.int .i64 x.cond.kind,.int .i64 x.cond.n,.string (str x.cond.place.name),.slice qp qn qc,.slice tp x.thn.length tc,.slice ep x.els.length ec] a->(B=true↔(MayBlk m x.thn/\cnt n x.thn<=L))->Calls Tryz.prog 120 #[.pointer (some ⟨w.heap.size+1,30,none⟩),.func (.func 108) #[] #[.pointer (some ⟨w.heap.size,0,none⟩),.pointer (some ⟨w.heap.size+1+1,0,none⟩)]] a fun ev w'=>ev=.returned (.bool B)/\∃ L',Sm K w gb m L' [.int .i64 x.kind,.int .i64 x.pos,.bool x.mu,.string (str x.name),.int .i64 x.ty.kind,.string (str x.ty.name),.slice t2 m2 d2,.slice t3 m3 d3,.bool x.has,.string (str x.place.name),.slice lp ln lc,.int .i64 x.val.kind,.int .i64 x.val.a.kind,.int .i64 x.val.a.n,.string (str x.val.a.place.name),.slice pa na ca,.int .i64 x.val.b.kind,.int .i64 x.val.b.n,.string (str x.val.b.place.name),.slice pb nb cb,.int .i64 x.val.op,.string (str x.val.place.name),.slice pp np cp,.string (str x.val.name),.slice pn x.val.names.length cn,.slice pv x.val.args.length cv,.int .i64 x.cond.kind,.int .i64 x.cond.n,.string (str x.cond.place.name),.slice qp qn qc,.slice none 0 0,.slice ep x.els.length ec] w'/\(B=true->L'+cnt n x.thn=L)):=by
  intro a L B h hB
  refine (takeBlock_of hm ih h.bod h.rb h.rd (A:=[.int .i64 x.kind,.int .i64 x.pos,.bool x.mu,.string (str x.name),.int .i64 x.ty.kind,.string (str x.ty.name),.slice t2 m2 d2,.slice t3 m3 d3,.bool x.has,.string (str x.place.name),.slice lp ln lc,.int .i64 x.val.kind,.int .i64 x.val.a.kind,.int .i64 x.val.a.n,.string (str x.val.a.place.name),.slice pa na ca,.int .i64 x.val.b.kind,.int .i64 x.val.b.n,.string (str x.val.b.place.name),.slice pb nb cb,.int .i64 x.val.op,.string (str x.val.place.name),.slice pp np cp,.string (str x.val.name),.slice pn x.val.names.length cn,.slice pv x.val.args.length cv,.int .i64 x.cond.kind,.int .i64 x.cond.n,.string (str x.cond.place.name),.slice qp qn qc]) (R:=[.slice ep x.els.length ec]) h.row rfl (by have:=h.lt;omega) (hth.mono h.kb fun _ _ _ q=>q.below h.kb) B hB).mono ?_
  rintro _ _ ⟨rfl,q2,q3,L',q4,q5,q6⟩
  exact ⟨rfl,L',h.nextB q2 q3 q4 q5,q6⟩
 have TL:Hid (∀ (a:World) (L:Nat) (B:Bool),Sm K w gb m L [.int .i64 x.kind,.int .i64 x.pos,.bool x.mu,.string (str x.name),.int .i64 x.ty.kind,.string (str x.ty.name),.slice t2 m2 d2,.slice t3 m3 d3,.bool x.has,.string (str x.place.name),.slice lp ln lc,.int .i64 x.val.kind,.int .i64 x.val.a.kind,.int .i64 x.val.a.n,.string (str x.val.a.place.name),.slice pa na ca,.int .i64 x.val.b.kind,.int .i64 x.val.b.n,.string (str x.val.b.place.name),.slice pb nb cb,.int .i64 x.val.op,.string (str x.val.place.name),.slice pp np cp,.string (str x.val.name),.slice pn x.val.names.length cn,.slice pv x.val.args.length cv,.int .i64 x.cond.kind,.int .i64 x.cond.n,.string (str x.cond.place.name),.slice qp qn qc,.slice none 0 0,.slice ep x.els.length ec] a->(B=true↔{ x with thn:=[] }=St.bare x.kind x.pos)->Calls Tryz.prog 75 #[.pointer (some ⟨w.heap.size+1,0,none⟩),.pointer (some ⟨a.heap.size,0,none⟩)] (a.alloc (.cells #[.int .i64 x.kind,.int .i64 x.pos,.bool false,.string ⟨#[]⟩,.int .i64 0,.string ⟨#[]⟩,.slice none 0 0,.slice none 0 0,.bool false,.string ⟨#[]⟩,.slice none 0 0,.int .i64 0,.int .i64 0,.int .i64 0,.string ⟨#[]⟩,.slice none 0 0,.int .i64 0,.int .i64 0,.string ⟨#[]⟩,.slice none 0 0,.int .i64 0,.string ⟨#[]⟩,.slice none 0 0,.string ⟨#[]⟩,.slice none 0 0,.slice none 0 0,.int .i64 0,.int .i64 0,.string ⟨#[]⟩,.slice none 0 0,.slice none 0 0,.slice none 0 0] 49)) fun ev w'=>ev=.returned (.bool B)/\Stay (fun k=>k=gb) w w'/\Row w' gb 89 [.int .i64 (L:Int)]):=by
  intro a L B h hB
  exact h.last (n:=n) (v:={ x with thn:=[] }) ⟨_,_,_,_,_,_,rfl,hl,hty.below h.kb,hpl.below h.kb,hvl.below h.kb,hcd.below h.kb,nil_ar,hel.mono h.kb fun _ _ _ q=>q.below h.kb⟩ x.kind x.pos B hB
 have HS0:=hid0 S0
 have HLm:Hid (L<=2000):=hb.most
 have HVV:=hid0 HV
 clear hty hpl hvl hcd hl hth hel S0 hb HV k0 ih hm
 by_cases f0:(MayBlk m x.thn/\cnt n x.thn<=L)
 rotate_left
 ·obtain rfl:=bool_false HB.out (fun h=>f0 h.1)
  have U0:Hid (∀ a L',L'=L->∀ h,_):=fun a L' hL h=>T0.out a L' false h ⟨fun h=>(by cases h),fun h=>absurd ⟨h.1,by have:=h.2;omega⟩ f0⟩
  have HFin:Hid (∀ (w':World) (L':Nat),Row w' gb 89 [.int .i64 (L':Int)]->L'<=2000->Spent gb false L (cnt n x.thn+cnt n x.els) w'):=fun w' L' q1 q2=>⟨L',q1,q2,fun h=>by cases h⟩
  rw [inner_succ]
  clear HB HVV TL T0 f0
  generalize cnt n x.thn=ct,cnt n x.els=ce,x.kind=kd,x.pos=ps,x.mu=mu,str x.name=nm1,x.ty.kind=tk,str x.ty.name=tn1,x.has=hs,str x.place.name=pl1,x.val.kind=vk,x.val.a.kind=ak,x.val.a.n=an,str x.val.a.place.name=as1,x.val.b.kind=bk,x.val.b.n=bn,str x.val.b.place.name=bs1,x.val.op=vo,str x.val.place.name=vp1,str x.val.name=vn1,x.val.names.length=vl1,x.val.args.length=vl2,x.cond.kind=ck,x.cond.n=cn2,str x.cond.place.name=cs1,x.thn.length=th1,x.els.length=el1 at *
  go_enter Tryz.func88,Tryz.ntmps88
  go_wp2_with fail
  refine (U0.out _ _ (by omega) (HS0.out)).mono ?_
  rintro ev w1 ⟨rfl,L1,sm1,hL1⟩
  have ck1:w1.cell? ⟨w.heap.size+1,0,none⟩=some (.int .i64 kd):=sm1.row.cell 0
  have cp1:w1.cell? ⟨w.heap.size+1,1,none⟩=some (.int .i64 ps):=sm1.row.cell 1
  go_wp2_with fail
  go_ret
  exact ⟨rfl,(sm1).stay,HFin.out _ _ (sm1).bod.row (sm1).bod.most⟩
 have HBL:Hid (B=true↔{ x with thn:=[] }=St.bare x.kind x.pos):=by
  show _↔_
  rw [HB.out];exact ⟨fun h=>h.2,fun h=>⟨f0,h⟩⟩
 have U0:Hid (∀ a L',L'=L->∀ h,_):=fun a L' hL h=>T0.out a L' true h ⟨fun _=>⟨f0.1,by have:=f0.2;omega⟩,fun _=>rfl⟩
 have UL:Hid (∀ a L h,_):=fun a L h=>TL.out a L B h HBL.out
 have HFin:Hid (∀ (w':World) (L':Nat),Stay (fun k=>k=gb) w w'->Row w' gb 89 [.int .i64 (L':Int)]->L'<=2000->(B=true->L'+(cnt n x.thn)=L)->Spent gb B L (cnt n x.thn+cnt n x.els) w'):=fun w' L' _ q1 q2 q3=>⟨L',q1,q2,fun h=>by rw [HVV.out (HBL.out.1 h)];exact q3 h⟩
 rw [inner_succ]
 clear HB HVV TL T0 f0 HBL
 generalize cnt n x.thn=ct,cnt n x.els=ce,x.kind=kd,x.pos=ps,x.mu=mu,str x.name=nm1,x.ty.kind=tk,str x.ty.name=tn1,x.has=hs,str x.place.name=pl1,x.val.kind=vk,x.val.a.kind=ak,x.val.a.n=an,str x.val.a.place.name=as1,x.val.b.kind=bk,x.val.b.n=bn,str x.val.b.place.name=bs1,x.val.op=vo,str x.val.place.name=vp1,str x.val.name=vn1,x.val.names.length=vl1,x.val.args.length=vl2,x.cond.kind=ck,x.cond.n=cn2,str x.cond.place.name=cs1,x.thn.length=th1,x.els.length=el1 at *
 go_enter Tryz.func88,Tryz.ntmps88
 go_wp2_with fail
 refine (U0.out _ _ (by omega) (HS0.out)).mono ?_
 rintro ev w1 ⟨rfl,L1,sm1,hL1⟩
 replace hL1:=hL1 (by trivial)
 have ck1:w1.cell? ⟨w.heap.size+1,0,none⟩=some (.int .i64 kd):=sm1.row.cell 0
 have cp1:w1.cell? ⟨w.heap.size+1,1,none⟩=some (.int .i64 ps):=sm1.row.cell 1
 have D:=UL.out _ _ (sm1)
 have hmL:=(sm1).bod.most
 go_wp2_with fail
 refine D.mono ?_
 rintro ev w9 ⟨rfl,h9,r9⟩
 go_wp2_with fail
 go_ret
 exact ⟨rfl,h9,HFin.out _ _ h9 r9 hmL (fun _=>by omega)⟩
end Go.Proofs.YtjenmmkamhplkaaGreat
