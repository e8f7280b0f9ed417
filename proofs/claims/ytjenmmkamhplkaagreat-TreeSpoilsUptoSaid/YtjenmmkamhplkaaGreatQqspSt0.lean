/- Part of the proof. -/
import Derived.Test.YtjenmmkamhplkaaGreatJqspSms2
namespace Go.Proofs.YtjenmmkamhplkaaGreat
open Go.RowKit
set_option maxHeartbeats 8000000
set_option maxRecDepth 20000
theorem mayStm_10t {n m:Nat} (_hm:m<=64) (_ih:BlkC n m) {K:Ctx} {w:World} {gb L:Nat} (hb:Bod K gb L w) {x:St} {pa pb pp pn pv t2 t3 lp qp tp ep:Option Addr} {na nb np ca cb cp cn cv m2 d2 m3 d3 ln lc qn qc tc ec:Nat} (hty:IsTy K w [.int .i64 x.ty.kind,.string (str x.ty.name),.slice t2 m2 d2,.slice t3 m3 d3] x.ty) (hpl:PlAt K w [.string (str x.place.name),.slice lp ln lc] x.place) (hvl:VaAt K w [.int .i64 x.val.kind,.int .i64 x.val.a.kind,.int .i64 x.val.a.n,.string (str x.val.a.place.name),.slice pa na ca,.int .i64 x.val.b.kind,.int .i64 x.val.b.n,.string (str x.val.b.place.name),.slice pb nb cb,.int .i64 x.val.op,.string (str x.val.place.name),.slice pp np cp,.string (str x.val.name),.slice pn x.val.names.length cn,.slice pv x.val.args.length cv] x.val) (hcd:OprAt K w [.int .i64 x.cond.kind,.int .i64 x.cond.n,.string (str x.cond.place.name),.slice qp qn qc] x.cond) (hl:x.name.length<=K.B) (hth:Ar 32 496 (StAt n K w) K w (.slice tp x.thn.length tc) x.thn) (hel:Ar 32 496 (StAt n K w) K w (.slice ep x.els.length ec) x.els) (k0:x.kind=10) (k1:x.has=true) (B:Bool) (hB:B=true↔StOk (MayBlk m) x/\inner (n+1) x<=L) :
  Calls Tryz.prog 88 #[.pointer (some ⟨gb,0,none⟩),.agg #[.int .i64 x.kind,.int .i64 x.pos,.bool x.mu,.string (str x.name),.int .i64 x.ty.kind,.string (str x.ty.name),.slice t2 m2 d2,.slice t3 m3 d3,.bool x.has,.string (str x.place.name),.slice lp ln lc,.int .i64 x.val.kind,.int .i64 x.val.a.kind,.int .i64 x.val.a.n,.string (str x.val.a.place.name),.slice pa na ca,.int .i64 x.val.b.kind,.int .i64 x.val.b.n,.string (str x.val.b.place.name),.slice pb nb cb,.int .i64 x.val.op,.string (str x.val.place.name),.slice pp np cp,.string (str x.val.name),.slice pn x.val.names.length cn,.slice pv x.val.args.length cv,.int .i64 x.cond.kind,.int .i64 x.cond.n,.string (str x.cond.place.name),.slice qp qn qc,.slice tp x.thn.length tc,.slice ep x.els.length ec],.int .i64 (64 - (m:Int))] w fun ev y'=>ev=.returned (.bool B)/\Stay (fun k=>k=gb) w y'/\Spent gb B L (inner (n+1) x) y':=by
 rw [ok_ret k0,inner_succ] at hB
 have S0:=Sm.first (m:=m) [.int .i64 x.kind,.int .i64 x.pos,.bool x.mu,.string (str x.name),.int .i64 x.ty.kind,.string (str x.ty.name),.slice t2 m2 d2,.slice t3 m3 d3,.bool x.has,.string (str x.place.name),.slice lp ln lc,.int .i64 x.val.kind,.int .i64 x.val.a.kind,.int .i64 x.val.a.n,.string (str x.val.a.place.name),.slice pa na ca,.int .i64 x.val.b.kind,.int .i64 x.val.b.n,.string (str x.val.b.place.name),.slice pb nb cb,.int .i64 x.val.op,.string (str x.val.place.name),.slice pp np cp,.string (str x.val.name),.slice pn x.val.names.length cn,.slice pv x.val.args.length cv,.int .i64 x.cond.kind,.int .i64 x.cond.n,.string (str x.cond.place.name),.slice qp qn qc,.slice tp x.thn.length tc,.slice ep x.els.length ec] hb
 have hmf:=hmf0
 have s1:(x.kind == 1)=false:=by rw [k0];rfl
 have s2:(x.kind == 2)=false:=by rw [k0];rfl
 have s3:(x.kind == 3)=false:=by rw [k0];rfl
 have s4:(x.kind == 4)=false:=by rw [k0];rfl
 have s5:(x.kind == 5)=false:=by rw [k0];rfl
 have s6:(x.kind == 6)=false:=by rw [k0];rfl
 have s7:(x.kind == 7)=false:=by rw [k0];rfl
 have s8:(x.kind == 8)=false:=by rw [k0];rfl
 have s9:(x.kind == 9)=false:=by rw [k0];rfl
 have s10:(x.kind == 10)=true:=by rw [k0];rfl
 have HV:{ x with has:=false,val:=Va.zero }=St.bare x.kind x.pos->cnt n x.thn+cnt n x.els=0:=by
  intro h
  have ethn:x.thn=[]:=congrArg St.thn h
  have eels:x.els=[]:=congrArg St.els h
  rw [ethn,eels]
  simp only [cnt_nil]
  skip
 have HB:Hid (B=true↔MayVa x.val/\{ x with has:=false,val:=Va.zero }=St.bare x.kind x.pos):=by
  show _↔_
  rw [hB]
  simp only [k1,if_true,forall_const]
  constructor
  ·rintro ⟨⟨q0,q1⟩,hq⟩
   exact ⟨q0,q1⟩
  ·rintro ⟨q0,q1⟩
   have hv:=HV q1
   exact ⟨⟨q0,q1⟩,by omega⟩
 clear hB
 have T0:Hid (∀ (a:World) (L:Nat) (B:Bool),Sm K w gb m L [.int .i64 x.kind,.int .i64 x.pos,.bool x.mu,.string (str x.name),.int .i64 x.ty.kind,.string (str x.ty.name),.slice t2 m2 d2,.slice t3 m3 d3,.bool true,.string (str x.place.name),.slice lp ln lc,.int .i64 x.val.kind,.int .i64 x.val.a.kind,.int .i64 x.val.a.n,.string (str x.val.a.place.name),.slice pa na ca,.int .i64 x.val.b.kind,.int .i64 x.val.b.n,.string (str x.val.b.place.name),.slice pb nb cb,.int .i64 x.val.op,.string (str x.val.place.name),.slice pp np cp,.string (str x.val.name),.slice pn x.val.names.length cn,.slice pv x.val.args.length cv,.int .i64 x.cond.kind,.int .i64 x.cond.n,.string (str x.cond.place.name),.slice qp qn qc,.slice tp x.thn.length tc,.slice ep x.els.length ec] a->(B=true↔MayVa x.val)->Calls Tryz.prog 111 #[.pointer (some ⟨w.heap.size+1,0,none⟩),.pointer (some ⟨w.heap.size+1,11,none⟩),.func (.func 112) #[] #[]] a fun ev w'=>ev=.returned (.bool B)/\Sm K w gb m L [.int .i64 x.kind,.int .i64 x.pos,.bool x.mu,.string (str x.name),.int .i64 x.ty.kind,.string (str x.ty.name),.slice t2 m2 d2,.slice t3 m3 d3,.bool false,.string (str x.place.name),.slice lp ln lc,.int .i64 0,.int .i64 0,.int .i64 0,.string (str []),.slice none 0 0,.int .i64 0,.int .i64 0,.string (str []),.slice none 0 0,.int .i64 0,.string (str []),.slice none 0 0,.string (str []),.slice none 0 0,.slice none 0 0,.int .i64 x.cond.kind,.int .i64 x.cond.n,.string (str x.cond.place.name),.slice qp qn qc,.slice tp x.thn.length tc,.slice ep x.els.length ec] w'):=by
  intro a L B h hB
  exact (haveValue_any h.bod.env (h:=true) (A:=[.int .i64 x.kind,.int .i64 x.pos,.bool x.mu,.string (str x.name),.int .i64 x.ty.kind,.string (str x.ty.name),.slice t2 m2 d2,.slice t3 m3 d3]) (M:=[.string (str x.place.name),.slice lp ln lc]) (cs:=[.int .i64 x.val.kind,.int .i64 x.val.a.kind,.int .i64 x.val.a.n,.string (str x.val.a.place.name),.slice pa na ca,.int .i64 x.val.b.kind,.int .i64 x.val.b.n,.string (str x.val.b.place.name),.slice pb nb cb,.int .i64 x.val.op,.string (str x.val.place.name),.slice pp np cp,.string (str x.val.name),.slice pn x.val.names.length cn,.slice pv x.val.args.length cv]) (R:=[.int .i64 x.cond.kind,.int .i64 x.cond.n,.string (str x.cond.place.name),.slice qp qn qc,.slice tp x.thn.length tc,.slice ep x.els.length ec]) h.row rfl rfl (Nat.le_trans h.C (by omega)) (hvl.below h.kb) B (by rw [hB];simp)).mono fun _ _ q=>⟨q.1,h.next q.2.1 q.2.2⟩
 have TL:Hid (∀ (a:World) (L:Nat) (B:Bool),Sm K w gb m L [.int .i64 x.kind,.int .i64 x.pos,.bool x.mu,.string (str x.name),.int .i64 x.ty.kind,.string (str x.ty.name),.slice t2 m2 d2,.slice t3 m3 d3,.bool false,.string (str x.place.name),.slice lp ln lc,.int .i64 0,.int .i64 0,.int .i64 0,.string (str []),.slice none 0 0,.int .i64 0,.int .i64 0,.string (str []),.slice none 0 0,.int .i64 0,.string (str []),.slice none 0 0,.string (str []),.slice none 0 0,.slice none 0 0,.int .i64 x.cond.kind,.int .i64 x.cond.n,.string (str x.cond.place.name),.slice qp qn qc,.slice tp x.thn.length tc,.slice ep x.els.length ec] a->(B=true↔{ x with has:=false,val:=Va.zero }=St.bare x.kind x.pos)->Calls Tryz.prog 75 #[.pointer (some ⟨w.heap.size+1,0,none⟩),.pointer (some ⟨a.heap.size,0,none⟩)] (a.alloc (.cells #[.int .i64 x.kind,.int .i64 x.pos,.bool false,.string ⟨#[]⟩,.int .i64 0,.string ⟨#[]⟩,.slice none 0 0,.slice none 0 0,.bool false,.string ⟨#[]⟩,.slice none 0 0,.int .i64 0,.int .i64 0,.int .i64 0,.string ⟨#[]⟩,.slice none 0 0,.int .i64 0,.int .i64 0,.string ⟨#[]⟩,.slice none 0 0,.int .i64 0,.string ⟨#[]⟩,.slice none 0 0,.string ⟨#[]⟩,.slice none 0 0,.slice none 0 0,.int .i64 0,.int .i64 0,.string ⟨#[]⟩,.slice none 0 0,.slice none 0 0,.slice none 0 0] 49)) fun ev w'=>ev=.returned (.bool B)/\Stay (fun k=>k=gb) w w'/\Row w' gb 89 [.int .i64 (L:Int)]):=by
  intro a L B h hB
  exact h.last (n:=n) (v:={ x with has:=false,val:=Va.zero }) ⟨_,_,_,_,_,_,rfl,hl,hty.below h.kb,hpl.below h.kb,va_zero K _ 0,hcd.below h.kb,hth.mono h.kb fun _ _ _ q=>q.below h.kb,hel.mono h.kb fun _ _ _ q=>q.below h.kb⟩ x.kind x.pos B hB
 have HS0:Hid (Sm K w gb m L [.int .i64 x.kind,.int .i64 x.pos,.bool x.mu,.string (str x.name),.int .i64 x.ty.kind,.string (str x.ty.name),.slice t2 m2 d2,.slice t3 m3 d3,.bool true,.string (str x.place.name),.slice lp ln lc,.int .i64 x.val.kind,.int .i64 x.val.a.kind,.int .i64 x.val.a.n,.string (str x.val.a.place.name),.slice pa na ca,.int .i64 x.val.b.kind,.int .i64 x.val.b.n,.string (str x.val.b.place.name),.slice pb nb cb,.int .i64 x.val.op,.string (str x.val.place.name),.slice pp np cp,.string (str x.val.name),.slice pn x.val.names.length cn,.slice pv x.val.args.length cv,.int .i64 x.cond.kind,.int .i64 x.cond.n,.string (str x.cond.place.name),.slice qp qn qc,.slice tp x.thn.length tc,.slice ep x.els.length ec] (((w.alloc (.cells #[.pointer (some ⟨gb,0,none⟩)] 122)).alloc (.cells #[.int .i64 x.kind,.int .i64 x.pos,.bool x.mu,.string (str x.name),.int .i64 x.ty.kind,.string (str x.ty.name),.slice t2 m2 d2,.slice t3 m3 d3,.bool true,.string (str x.place.name),.slice lp ln lc,.int .i64 x.val.kind,.int .i64 x.val.a.kind,.int .i64 x.val.a.n,.string (str x.val.a.place.name),.slice pa na ca,.int .i64 x.val.b.kind,.int .i64 x.val.b.n,.string (str x.val.b.place.name),.slice pb nb cb,.int .i64 x.val.op,.string (str x.val.place.name),.slice pp np cp,.string (str x.val.name),.slice pn x.val.names.length cn,.slice pv x.val.args.length cv,.int .i64 x.cond.kind,.int .i64 x.cond.n,.string (str x.cond.place.name),.slice qp qn qc,.slice tp x.thn.length tc,.slice ep x.els.length ec] 49)).alloc (.cells #[.int .i64 (64 - (m:Int))] 3))):=k1 ▸ S0
 rw [k1]
 have HLm:Hid (L<=2000):=hb.most
 have HVV:=hid0 HV
 clear hty hpl hvl hcd hl hth hel S0 hb HV k0 _ih _hm k1
 by_cases f0:MayVa x.val
 rotate_left
 ·obtain rfl:=bool_false HB.out (fun h=>f0 h.1)
  have U0:Hid (∀ a L h,_):=fun a L h=>T0.out a L false h ⟨fun h=>(by cases h),fun h=>absurd h f0⟩
  have HFin:Hid (∀ (w':World) (L':Nat),Row w' gb 89 [.int .i64 (L':Int)]->L'<=2000->Spent gb false L (cnt n x.thn+cnt n x.els) w'):=fun w' L' q1 q2=>⟨L',q1,q2,fun h=>by cases h⟩
  rw [inner_succ]
  clear HB HVV TL T0 f0
  generalize cnt n x.thn=ct,cnt n x.els=ce,x.kind=kd,x.pos=ps,x.mu=mu,str x.name=nm1,x.ty.kind=tk,str x.ty.name=tn1,str x.place.name=pl1,x.val.kind=vk,x.val.a.kind=ak,x.val.a.n=an,str x.val.a.place.name=as1,x.val.b.kind=bk,x.val.b.n=bn,str x.val.b.place.name=bs1,x.val.op=vo,str x.val.place.name=vp1,str x.val.name=vn1,x.val.names.length=vl1,x.val.args.length=vl2,x.cond.kind=ck,x.cond.n=cn2,str x.cond.place.name=cs1,x.thn.length=th1,x.els.length=el1 at *
  go_enter Tryz.func88,Tryz.ntmps88
  go_wp2_with fail
  refine (U0.out _ _ (HS0.out)).mono ?_
  rintro ev w1 ⟨rfl,sm1⟩
  have ck1:w1.cell? ⟨w.heap.size+1,0,none⟩=some (.int .i64 kd):=sm1.row.cell 0
  have cp1:w1.cell? ⟨w.heap.size+1,1,none⟩=some (.int .i64 ps):=sm1.row.cell 1
  go_wp2_with fail
  go_ret
  exact ⟨rfl,(sm1).stay,HFin.out _ _ (sm1).bod.row (sm1).bod.most⟩
 have HBL:Hid (B=true↔{ x with has:=false,val:=Va.zero }=St.bare x.kind x.pos):=by
  show _↔_
  rw [HB.out];exact ⟨fun h=>h.2,fun h=>⟨f0,h⟩⟩
 have U0:Hid (∀ a L h,_):=fun a L h=>T0.out a L true h ⟨fun _=>f0,fun _=>rfl⟩
 have UL:Hid (∀ a L h,_):=fun a L h=>TL.out a L B h HBL.out
 have HFin:Hid (∀ (w':World) (L':Nat),Stay (fun k=>k=gb) w w'->Row w' gb 89 [.int .i64 (L':Int)]->L'<=2000->(B=true->L'+(0)=L)->Spent gb B L (cnt n x.thn+cnt n x.els) w'):=fun w' L' _ q1 q2 q3=>⟨L',q1,q2,fun h=>by rw [HVV.out (HBL.out.1 h)];exact q3 h⟩
 rw [inner_succ]
 clear HB HVV TL T0 f0 HBL
 generalize cnt n x.thn=ct,cnt n x.els=ce,x.kind=kd,x.pos=ps,x.mu=mu,str x.name=nm1,x.ty.kind=tk,str x.ty.name=tn1,str x.place.name=pl1,x.val.kind=vk,x.val.a.kind=ak,x.val.a.n=an,str x.val.a.place.name=as1,x.val.b.kind=bk,x.val.b.n=bn,str x.val.b.place.name=bs1,x.val.op=vo,str x.val.place.name=vp1,str x.val.name=vn1,x.val.names.length=vl1,x.val.args.length=vl2,x.cond.kind=ck,x.cond.n=cn2,str x.cond.place.name=cs1,x.thn.length=th1,x.els.length=el1 at *
 go_enter Tryz.func88,Tryz.ntmps88
 go_wp2_with fail
 refine (U0.out _ _ (HS0.out)).mono ?_
 rintro ev w1 ⟨rfl,sm1⟩
 have ck1:w1.cell? ⟨w.heap.size+1,0,none⟩=some (.int .i64 kd):=sm1.row.cell 0
 have cp1:w1.cell? ⟨w.heap.size+1,1,none⟩=some (.int .i64 ps):=sm1.row.cell 1
 have D:=UL.out _ _ (sm1)
 have hmL:=(sm1).bod.most
 go_wp2_with fail
 refine D.mono ?_
 rintro ev w9 ⟨rfl,h9,r9⟩
 go_wp2_with fail
 go_ret
 exact ⟨rfl,h9,HFin.out _ _ h9 r9 hmL (fun _=>by omega)⟩
theorem mayStm_10f {n m:Nat} (_hm:m<=64) (_ih:BlkC n m) {K:Ctx} {w:World} {gb L:Nat} (hb:Bod K gb L w) {x:St} {pa pb pp pn pv t2 t3 lp qp tp ep:Option Addr} {na nb np ca cb cp cn cv m2 d2 m3 d3 ln lc qn qc tc ec:Nat} (hty:IsTy K w [.int .i64 x.ty.kind,.string (str x.ty.name),.slice t2 m2 d2,.slice t3 m3 d3] x.ty) (hpl:PlAt K w [.string (str x.place.name),.slice lp ln lc] x.place) (hvl:VaAt K w [.int .i64 x.val.kind,.int .i64 x.val.a.kind,.int .i64 x.val.a.n,.string (str x.val.a.place.name),.slice pa na ca,.int .i64 x.val.b.kind,.int .i64 x.val.b.n,.string (str x.val.b.place.name),.slice pb nb cb,.int .i64 x.val.op,.string (str x.val.place.name),.slice pp np cp,.string (str x.val.name),.slice pn x.val.names.length cn,.slice pv x.val.args.length cv] x.val) (hcd:OprAt K w [.int .i64 x.cond.kind,.int .i64 x.cond.n,.string (str x.cond.place.name),.slice qp qn qc] x.cond) (hl:x.name.length<=K.B) (hth:Ar 32 496 (StAt n K w) K w (.slice tp x.thn.length tc) x.thn) (hel:Ar 32 496 (StAt n K w) K w (.slice ep x.els.length ec) x.els) (k0:x.kind=10) (k1:x.has=false) (B:Bool) (hB:B=true↔StOk (MayBlk m) x/\inner (n+1) x<=L) :
  Calls Tryz.prog 88 #[.pointer (some ⟨gb,0,none⟩),.agg #[.int .i64 x.kind,.int .i64 x.pos,.bool x.mu,.string (str x.name),.int .i64 x.ty.kind,.string (str x.ty.name),.slice t2 m2 d2,.slice t3 m3 d3,.bool x.has,.string (str x.place.name),.slice lp ln lc,.int .i64 x.val.kind,.int .i64 x.val.a.kind,.int .i64 x.val.a.n,.string (str x.val.a.place.name),.slice pa na ca,.int .i64 x.val.b.kind,.int .i64 x.val.b.n,.string (str x.val.b.place.name),.slice pb nb cb,.int .i64 x.val.op,.string (str x.val.place.name),.slice pp np cp,.string (str x.val.name),.slice pn x.val.names.length cn,.slice pv x.val.args.length cv,.int .i64 x.cond.kind,.int .i64 x.cond.n,.string (str x.cond.place.name),.slice qp qn qc,.slice tp x.thn.length tc,.slice ep x.els.length ec],.int .i64 (64 - (m:Int))] w fun ev y'=>ev=.returned (.bool B)/\Stay (fun k=>k=gb) w y'/\Spent gb B L (inner (n+1) x) y':=by
 rw [ok_ret k0,inner_succ] at hB
 have S0:=Sm.first (m:=m) [.int .i64 x.kind,.int .i64 x.pos,.bool x.mu,.string (str x.name),.int .i64 x.ty.kind,.string (str x.ty.name),.slice t2 m2 d2,.slice t3 m3 d3,.bool x.has,.string (str x.place.name),.slice lp ln lc,.int .i64 x.val.kind,.int .i64 x.val.a.kind,.int .i64 x.val.a.n,.string (str x.val.a.place.name),.slice pa na ca,.int .i64 x.val.b.kind,.int .i64 x.val.b.n,.string (str x.val.b.place.name),.slice pb nb cb,.int .i64 x.val.op,.string (str x.val.place.name),.slice pp np cp,.string (str x.val.name),.slice pn x.val.names.length cn,.slice pv x.val.args.length cv,.int .i64 x.cond.kind,.int .i64 x.cond.n,.string (str x.cond.place.name),.slice qp qn qc,.slice tp x.thn.length tc,.slice ep x.els.length ec] hb
 have hmf:=hmf0
 have s1:(x.kind == 1)=false:=by rw [k0];rfl
 have s2:(x.kind == 2)=false:=by rw [k0];rfl
 have s3:(x.kind == 3)=false:=by rw [k0];rfl
 have s4:(x.kind == 4)=false:=by rw [k0];rfl
 have s5:(x.kind == 5)=false:=by rw [k0];rfl
 have s6:(x.kind == 6)=false:=by rw [k0];rfl
 have s7:(x.kind == 7)=false:=by rw [k0];rfl
 have s8:(x.kind == 8)=false:=by rw [k0];rfl
 have s9:(x.kind == 9)=false:=by rw [k0];rfl
 have s10:(x.kind == 10)=true:=by rw [k0];rfl
 have HV:{ x with has:=false }=St.bare x.kind x.pos->cnt n x.thn+cnt n x.els=0:=by
  intro h
  have ethn:x.thn=[]:=congrArg St.thn h
  have eels:x.els=[]:=congrArg St.els h
  rw [ethn,eels]
  simp only [cnt_nil]
  skip
 have HB:Hid (B=true↔{ x with has:=false }=St.bare x.kind x.pos):=by
  show _↔_
  rw [hB]
  simp only [k1,Bool.false_eq_true,if_false,false_implies,true_and]
  constructor
  ·rintro ⟨q0,hq⟩
   exact q0
  ·rintro q0
   have hv:=HV q0
   exact ⟨q0,by omega⟩
 clear hB
 have T0:Hid (∀ (a:World) (L:Nat) (B:Bool),Sm K w gb m L [.int .i64 x.kind,.int .i64 x.pos,.bool x.mu,.string (str x.name),.int .i64 x.ty.kind,.string (str x.ty.name),.slice t2 m2 d2,.slice t3 m3 d3,.bool false,.string (str x.place.name),.slice lp ln lc,.int .i64 x.val.kind,.int .i64 x.val.a.kind,.int .i64 x.val.a.n,.string (str x.val.a.place.name),.slice pa na ca,.int .i64 x.val.b.kind,.int .i64 x.val.b.n,.string (str x.val.b.place.name),.slice pb nb cb,.int .i64 x.val.op,.string (str x.val.place.name),.slice pp np cp,.string (str x.val.name),.slice pn x.val.names.length cn,.slice pv x.val.args.length cv,.int .i64 x.cond.kind,.int .i64 x.cond.n,.string (str x.cond.place.name),.slice qp qn qc,.slice tp x.thn.length tc,.slice ep x.els.length ec] a->(B=true↔True)->Calls Tryz.prog 111 #[.pointer (some ⟨w.heap.size+1,0,none⟩),.pointer (some ⟨w.heap.size+1,11,none⟩),.func (.func 112) #[] #[]] a fun ev w'=>ev=.returned (.bool B)/\Sm K w gb m L [.int .i64 x.kind,.int .i64 x.pos,.bool x.mu,.string (str x.name),.int .i64 x.ty.kind,.string (str x.ty.name),.slice t2 m2 d2,.slice t3 m3 d3,.bool false,.string (str x.place.name),.slice lp ln lc,.int .i64 x.val.kind,.int .i64 x.val.a.kind,.int .i64 x.val.a.n,.string (str x.val.a.place.name),.slice pa na ca,.int .i64 x.val.b.kind,.int .i64 x.val.b.n,.string (str x.val.b.place.name),.slice pb nb cb,.int .i64 x.val.op,.string (str x.val.place.name),.slice pp np cp,.string (str x.val.name),.slice pn x.val.names.length cn,.slice pv x.val.args.length cv,.int .i64 x.cond.kind,.int .i64 x.cond.n,.string (str x.cond.place.name),.slice qp qn qc,.slice tp x.thn.length tc,.slice ep x.els.length ec] w'):=by
  intro a L B h hB
  exact (haveValue_any h.bod.env (h:=false) (A:=[.int .i64 x.kind,.int .i64 x.pos,.bool x.mu,.string (str x.name),.int .i64 x.ty.kind,.string (str x.ty.name),.slice t2 m2 d2,.slice t3 m3 d3]) (M:=[.string (str x.place.name),.slice lp ln lc]) (cs:=[.int .i64 x.val.kind,.int .i64 x.val.a.kind,.int .i64 x.val.a.n,.string (str x.val.a.place.name),.slice pa na ca,.int .i64 x.val.b.kind,.int .i64 x.val.b.n,.string (str x.val.b.place.name),.slice pb nb cb,.int .i64 x.val.op,.string (str x.val.place.name),.slice pp np cp,.string (str x.val.name),.slice pn x.val.names.length cn,.slice pv x.val.args.length cv]) (R:=[.int .i64 x.cond.kind,.int .i64 x.cond.n,.string (str x.cond.place.name),.slice qp qn qc,.slice tp x.thn.length tc,.slice ep x.els.length ec]) h.row rfl rfl (Nat.le_trans h.C (by omega)) (hvl.below h.kb) B (by rw [hB];simp)).mono fun _ _ q=>⟨q.1,h.next q.2.1 q.2.2⟩
 have TL:Hid (∀ (a:World) (L:Nat) (B:Bool),Sm K w gb m L [.int .i64 x.kind,.int .i64 x.pos,.bool x.mu,.string (str x.name),.int .i64 x.ty.kind,.string (str x.ty.name),.slice t2 m2 d2,.slice t3 m3 d3,.bool false,.string (str x.place.name),.slice lp ln lc,.int .i64 x.val.kind,.int .i64 x.val.a.kind,.int .i64 x.val.a.n,.string (str x.val.a.place.name),.slice pa na ca,.int .i64 x.val.b.kind,.int .i64 x.val.b.n,.string (str x.val.b.place.name),.slice pb nb cb,.int .i64 x.val.op,.string (str x.val.place.name),.slice pp np cp,.string (str x.val.name),.slice pn x.val.names.length cn,.slice pv x.val.args.length cv,.int .i64 x.cond.kind,.int .i64 x.cond.n,.string (str x.cond.place.name),.slice qp qn qc,.slice tp x.thn.length tc,.slice ep x.els.length ec] a->(B=true↔{ x with has:=false }=St.bare x.kind x.pos)->Calls Tryz.prog 75 #[.pointer (some ⟨w.heap.size+1,0,none⟩),.pointer (some ⟨a.heap.size,0,none⟩)] (a.alloc (.cells #[.int .i64 x.kind,.int .i64 x.pos,.bool false,.string ⟨#[]⟩,.int .i64 0,.string ⟨#[]⟩,.slice none 0 0,.slice none 0 0,.bool false,.string ⟨#[]⟩,.slice none 0 0,.int .i64 0,.int .i64 0,.int .i64 0,.string ⟨#[]⟩,.slice none 0 0,.int .i64 0,.int .i64 0,.string ⟨#[]⟩,.slice none 0 0,.int .i64 0,.string ⟨#[]⟩,.slice none 0 0,.string ⟨#[]⟩,.slice none 0 0,.slice none 0 0,.int .i64 0,.int .i64 0,.string ⟨#[]⟩,.slice none 0 0,.slice none 0 0,.slice none 0 0] 49)) fun ev w'=>ev=.returned (.bool B)/\Stay (fun k=>k=gb) w w'/\Row w' gb 89 [.int .i64 (L:Int)]):=by
  intro a L B h hB
  exact h.last (n:=n) (v:={ x with has:=false }) ⟨_,_,_,_,_,_,rfl,hl,hty.below h.kb,hpl.below h.kb,hvl.below h.kb,hcd.below h.kb,hth.mono h.kb fun _ _ _ q=>q.below h.kb,hel.mono h.kb fun _ _ _ q=>q.below h.kb⟩ x.kind x.pos B hB
 have HS0:Hid (Sm K w gb m L [.int .i64 x.kind,.int .i64 x.pos,.bool x.mu,.string (str x.name),.int .i64 x.ty.kind,.string (str x.ty.name),.slice t2 m2 d2,.slice t3 m3 d3,.bool false,.string (str x.place.name),.slice lp ln lc,.int .i64 x.val.kind,.int .i64 x.val.a.kind,.int .i64 x.val.a.n,.string (str x.val.a.place.name),.slice pa na ca,.int .i64 x.val.b.kind,.int .i64 x.val.b.n,.string (str x.val.b.place.name),.slice pb nb cb,.int .i64 x.val.op,.string (str x.val.place.name),.slice pp np cp,.string (str x.val.name),.slice pn x.val.names.length cn,.slice pv x.val.args.length cv,.int .i64 x.cond.kind,.int .i64 x.cond.n,.string (str x.cond.place.name),.slice qp qn qc,.slice tp x.thn.length tc,.slice ep x.els.length ec] (((w.alloc (.cells #[.pointer (some ⟨gb,0,none⟩)] 122)).alloc (.cells #[.int .i64 x.kind,.int .i64 x.pos,.bool x.mu,.string (str x.name),.int .i64 x.ty.kind,.string (str x.ty.name),.slice t2 m2 d2,.slice t3 m3 d3,.bool false,.string (str x.place.name),.slice lp ln lc,.int .i64 x.val.kind,.int .i64 x.val.a.kind,.int .i64 x.val.a.n,.string (str x.val.a.place.name),.slice pa na ca,.int .i64 x.val.b.kind,.int .i64 x.val.b.n,.string (str x.val.b.place.name),.slice pb nb cb,.int .i64 x.val.op,.string (str x.val.place.name),.slice pp np cp,.string (str x.val.name),.slice pn x.val.names.length cn,.slice pv x.val.args.length cv,.int .i64 x.cond.kind,.int .i64 x.cond.n,.string (str x.cond.place.name),.slice qp qn qc,.slice tp x.thn.length tc,.slice ep x.els.length ec] 49)).alloc (.cells #[.int .i64 (64 - (m:Int))] 3))):=k1 ▸ S0
 rw [k1]
 have HLm:Hid (L<=2000):=hb.most
 have HVV:=hid0 HV
 clear hty hpl hvl hcd hl hth hel S0 hb HV k0 _ih _hm k1
 have HBL:Hid (B=true↔{ x with has:=false }=St.bare x.kind x.pos):=by
  show _↔_
  exact HB.out
 have U0:Hid (∀ a L h,_):=fun a L h=>T0.out a L true h ⟨fun _=>trivial,fun _=>rfl⟩
 have UL:Hid (∀ a L h,_):=fun a L h=>TL.out a L B h HBL.out
 have HFin:Hid (∀ (w':World) (L':Nat),Stay (fun k=>k=gb) w w'->Row w' gb 89 [.int .i64 (L':Int)]->L'<=2000->(B=true->L'+(0)=L)->Spent gb B L (cnt n x.thn+cnt n x.els) w'):=fun w' L' _ q1 q2 q3=>⟨L',q1,q2,fun h=>by rw [HVV.out (HBL.out.1 h)];exact q3 h⟩
 rw [inner_succ]
 clear HB HVV TL T0  HBL
 generalize cnt n x.thn=ct,cnt n x.els=ce,x.kind=kd,x.pos=ps,x.mu=mu,str x.name=nm1,x.ty.kind=tk,str x.ty.name=tn1,str x.place.name=pl1,x.val.kind=vk,x.val.a.kind=ak,x.val.a.n=an,str x.val.a.place.name=as1,x.val.b.kind=bk,x.val.b.n=bn,str x.val.b.place.name=bs1,x.val.op=vo,str x.val.place.name=vp1,str x.val.name=vn1,x.val.names.length=vl1,x.val.args.length=vl2,x.cond.kind=ck,x.cond.n=cn2,str x.cond.place.name=cs1,x.thn.length=th1,x.els.length=el1 at *
 go_enter Tryz.func88,Tryz.ntmps88
 go_wp2_with fail
 refine (U0.out _ _ (HS0.out)).mono ?_
 rintro ev w1 ⟨rfl,sm1⟩
 have ck1:w1.cell? ⟨w.heap.size+1,0,none⟩=some (.int .i64 kd):=sm1.row.cell 0
 have cp1:w1.cell? ⟨w.heap.size+1,1,none⟩=some (.int .i64 ps):=sm1.row.cell 1
 have D:=UL.out _ _ (sm1)
 have hmL:=(sm1).bod.most
 go_wp2_with fail
 refine D.mono ?_
 rintro ev w9 ⟨rfl,h9,r9⟩
 go_wp2_with fail
 go_ret
 exact ⟨rfl,h9,HFin.out _ _ h9 r9 hmL (fun _=>by omega)⟩
end Go.Proofs.YtjenmmkamhplkaaGreat
