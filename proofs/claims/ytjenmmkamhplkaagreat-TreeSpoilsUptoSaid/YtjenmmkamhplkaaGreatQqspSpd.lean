/- Part of the proof. -/
import Derived.Test.YtjenmmkamhplkaaGreatJqspSpa4
namespace Go.Proofs.YtjenmmkamhplkaaGreat
open Go.RowKit
def ops21:Array Oper:=#[{ dst:=some 99,op:=Op.buildSlice 22 0 #[],type:=22,pos:="more.go:35",after:=#[],guard:=none },
  { dst:=some 100,op:=Op.fieldAddr 25 (Operand.tmp 2) 0,type:=0,pos:="more.go:35",after:=#[],guard:=none },
  { dst:=some 101,op:=Op.load 22 (Operand.tmp 100),type:=22,pos:="more.go:35",after:=#[{ on:=1,ground:=Ground.data }],guard:=none },
  { dst:=some 102,op:=Op.call { callee:=Callee.builtin Builtin.append,args:=#[Operand.tmp 99,Operand.tmp 101],argTypes:=#[22,22] },type:=22,pos:="more.go:35",after:=#[{ on:=0,ground:=Ground.data },{ on:=2,ground:=Ground.data }],guard:=none },
  { dst:=some 103,op:=Op.load 54 (Operand.tmp 7),type:=54,pos:="more.go:35",after:=#[],guard:=none },
  { dst:=some 104,op:=Op.buildSlice 22 1 #[(0,Operand.tmp 103)],type:=22,pos:="more.go:35",after:=#[{ on:=4,ground:=Ground.data }],guard:=none },
  { dst:=some 105,op:=Op.call { callee:=Callee.builtin Builtin.append,args:=#[Operand.tmp 102,Operand.tmp 104],argTypes:=#[22,22] },type:=22,pos:="more.go:35",after:=#[{ on:=3,ground:=Ground.data },{ on:=5,ground:=Ground.data },{ on:=3,ground:=Ground.chain }],guard:=none },
  { dst:=some 106,op:=Op.load 40 (Operand.tmp 5),type:=40,pos:="more.go:35",after:=#[],guard:=none },
  { dst:=some 107,op:=Op.buildSlice 23 1 #[(0,Operand.tmp 106)],type:=23,pos:="more.go:35",after:=#[{ on:=7,ground:=Ground.data }],guard:=none },
  { dst:=some 108,op:=Op.fieldAddr 25 (Operand.tmp 2) 1,type:=0,pos:="more.go:35",after:=#[],guard:=none },
  { dst:=some 109,op:=Op.load 23 (Operand.tmp 108),type:=23,pos:="more.go:35",after:=#[{ on:=9,ground:=Ground.data }],guard:=none },
  { dst:=some 110,op:=Op.slice 23 (Operand.tmp 109) (some (Operand.const (Value.int IntKind.i64 1))) none none,type:=23,pos:="more.go:35",after:=#[{ on:=10,ground:=Ground.data }],guard:=none },
  { dst:=some 111,op:=Op.call { callee:=Callee.builtin Builtin.append,args:=#[Operand.tmp 107,Operand.tmp 110],argTypes:=#[23,23] },type:=23,pos:="more.go:35",after:=#[{ on:=8,ground:=Ground.data },{ on:=11,ground:=Ground.data },{ on:=6,ground:=Ground.chain }],guard:=none },
  { dst:=some 112,op:=Op.build 25 #[(0,Operand.tmp 105),(1,Operand.tmp 111)],type:=25,pos:="more.go:35",after:=#[{ on:=6,ground:=Ground.data },{ on:=12,ground:=Ground.data }],guard:=none },
  { dst:=some 8,op:=Op.alloc 25,type:=0,pos:="more.go:35",after:=#[],guard:=none },
  { dst:=none,op:=Op.store 25 (Operand.tmp 8) (Operand.tmp 112),type:=0,pos:="more.go:35",after:=#[{ on:=14,ground:=Ground.data },{ on:=13,ground:=Ground.data },{ on:=12,ground:=Ground.chain },{ on:=0,ground:=Ground.phase },{ on:=1,ground:=Ground.phase },{ on:=2,ground:=Ground.phase },{ on:=3,ground:=Ground.phase },{ on:=4,ground:=Ground.phase },{ on:=5,ground:=Ground.phase },{ on:=6,ground:=Ground.phase },{ on:=7,ground:=Ground.phase },{ on:=8,ground:=Ground.phase },{ on:=9,ground:=Ground.phase },{ on:=10,ground:=Ground.phase },{ on:=11,ground:=Ground.phase },{ on:=12,ground:=Ground.phase },{ on:=13,ground:=Ground.phase },{ on:=14,ground:=Ground.phase }],guard:=none }]
def A1s:List Value:=[.bool false,.string ⟨#[]⟩,.slice none 0 0,.slice none 0 0,.int .i64 0]
def A0s:List Value:=[.bool false,.string ⟨#[]⟩,.slice none 0 0,.slice none 0 0,.int .i64 0,.string ⟨#[]⟩,.slice none 0 0,.slice none 0 0,.slice none 0 0,.int .i64 0]
theorem Tryz.info54S:(Tryz.prog.info? 54).map (fun i=>(i.zero,i.size,i.bytes))=some (some (.agg A1s.toArray),5,80):=by kernel_rfl
theorem Tryz.info40S:(Tryz.prog.info? 40).map (fun i=>(i.zero,i.size,i.bytes))=some (some (.agg A0s.toArray),10,176):=by kernel_rfl
theorem Tryz.sz54:(Tryz.prog.info? 54).map (·.size)=some 5:=by kernel_rfl
theorem Tryz.sz40:(Tryz.prog.info? 40).map (·.size)=some 10:=by kernel_rfl
theorem rbs22 (ev:Operand->Value) (w:World) (d:Option Nat) (ty:Nat) (p:String) (af:Array _):(execOp ev { dst:=d,op:=.buildSlice 22 0 #[],type:=ty,pos:=p,after:=af,guard:=none }).run Tryz.prog w=.ok (.value (.slice (some ⟨w.heap.size,0,none⟩) 0 0)) (w.alloc (.cells #[] 54)):=by
 unfold execOp
 go_simp
theorem rfa25a (ev:Operand->Value) (g:Nat) (h:ev (.tmp 2)=.pointer (some ⟨g,0,none⟩)) (w:World) (d:Option Nat) (ty:Nat) (p:String) (af:Array _):(execOp ev { dst:=d,op:=.fieldAddr 25 (.tmp 2) 0,type:=ty,pos:=p,after:=af,guard:=none }).run Tryz.prog w=.ok (.value (.pointer (some ⟨g,0,none⟩))) w:=by
 unfold execOp
 simp only [h]
 go_simp
theorem rfa25b (ev:Operand->Value) (g:Nat) (h:ev (.tmp 2)=.pointer (some ⟨g,0,none⟩)) (w:World) (d:Option Nat) (ty:Nat) (p:String) (af:Array _):(execOp ev { dst:=d,op:=.fieldAddr 25 (.tmp 2) 1,type:=ty,pos:=p,after:=af,guard:=none }).run Tryz.prog w=.ok (.value (.pointer (some ⟨g,1,none⟩))) w:=by
 unfold execOp
 simp only [h]
 go_simp
theorem rld22 (ev:Operand->Value) (g:Nat) (v:Value) (h:ev (.tmp 100)=.pointer (some ⟨g,0,none⟩)) (w:World) (hc:w.cell? ⟨g,0,none⟩=some v) (d:Option Nat) (ty:Nat) (p:String) (af:Array _):(execOp ev { dst:=d,op:=.load 22 (.tmp 100),type:=ty,pos:=p,after:=af,guard:=none }).run Tryz.prog w=.ok (.value v) w:=by
 unfold execOp
 simp only [h]
 go_simp
theorem rld23 (ev:Operand->Value) (g:Nat) (v:Value) (h:ev (.tmp 108)=.pointer (some ⟨g,1,none⟩)) (w:World) (hc:w.cell? ⟨g,1,none⟩=some v) (d:Option Nat) (ty:Nat) (p:String) (af:Array _):(execOp ev { dst:=d,op:=.load 23 (.tmp 108),type:=ty,pos:=p,after:=af,guard:=none }).run Tryz.prog w=.ok (.value v) w:=by
 unfold execOp
 simp only [h]
 go_simp
theorem ral25 (ev:Operand->Value) (w:World) (d:Option Nat) (ty:Nat) (p:String) (af:Array _):(execOp ev { dst:=d,op:=.alloc 25,type:=ty,pos:=p,after:=af,guard:=none }).run Tryz.prog w=.ok (.value (.pointer (some ⟨w.heap.size,0,none⟩))) (w.alloc (.cells #[.slice none 0 0,.slice none 0 0] 25)):=by
 unfold execOp
 go_simp
theorem rbd25 (ev:Operand->Value) (x1:Option Addr) (n1 c1:Nat) (y1:Option Addr) (n2 c2:Nat) (h:ev (.tmp 105)=.slice x1 n1 c1) (h2:ev (.tmp 111)=.slice y1 n2 c2) (w:World) (d:Option Nat) (ty:Nat) (p:String) (af:Array _):(execOp ev { dst:=d,op:=.build 25 #[(0,.tmp 105),(1,.tmp 111)],type:=ty,pos:=p,after:=af,guard:=none }).run Tryz.prog w=.ok (.value (.agg #[.slice x1 n1 c1,.slice y1 n2 c2])) w:=by
 unfold execOp
 go_simp
theorem rsl23 (ev:Operand->Value) (b o n c:Nat) (h:ev (.tmp 109)=.slice (some ⟨b,o,none⟩) n c) (h2:ev (.const (.int .i64 1))=.int .i64 1) (hn:1<=n) (w:World) (d:Option Nat) (ty:Nat) (p:String) (af:Array _):(execOp ev { dst:=d,op:=.slice 23 (.tmp 109) (some (.const (.int .i64 1))) none none,type:=ty,pos:=p,after:=af,guard:=none }).run Tryz.prog w=.ok (.value (.slice (if c=1 then some ⟨b,o,none⟩ else some ⟨b,o+10,none⟩) (n - 1) (c - 1))) w:=by
 have i1:¬ (n:Int)<1:=by omega
 unfold execOp
 simp only [h]
 go_simp
theorem rst25 (ev:Operand->Value) (g:Nat) (x1:Option Addr) (n1 c1:Nat) (y1:Option Addr) (n2 c2:Nat) (h:ev (.tmp 8)=.pointer (some ⟨g,0,none⟩)) (h2:ev (.tmp 112)=.agg #[.slice x1 n1 c1,.slice y1 n2 c2]) (w:World) (r:Row w g 25 [.slice none 0 0,.slice none 0 0]) (ty:Nat) (p:String) (af:Array _):(execOp ev { dst:=none,op:=.store 25 (.tmp 8) (.tmp 112),type:=ty,pos:=p,after:=af,guard:=none }).run Tryz.prog w=.ok .skip ((w.setCell ⟨g,0,none⟩ (.slice x1 n1 c1)).setCell ⟨g,1,none⟩ (.slice y1 n2 c2)):=by
 have c0:=r.cell 0
 have c1':=r.cell 1
 have f0:=r.fz 0
 have f1:=r.fz 1
 have c2':=(r.set 0 (.slice x1 n1 c1)).cell 1
 have f2:=(r.set 0 (.slice x1 n1 c1)).fz 1
 simp only [List.getElem?_cons_zero,List.getElem?_cons_succ,List.set_cons_zero] at c0 c1' c2'
 unfold execOp
 simp only [h,h2]
 go_simp
structure Mid21 (C g2:Nat) (w0:World) (v0:Value) (b o n cap ms:Nat) (cS X F cF:List Value) (d:Nat->Bool) (f:Nat->Value) (w:World):Prop where
 bel:Below C w0 w
 q0:d 0=true->d 3=false->w.ownsRow C 54 5 (f 99) 0 []
 q1:d 1=true->f 100=.pointer (some ⟨g2,0,none⟩)
 q2:d 2=true->f 101=v0
 q3:d 3=true->d 6=false->w.ownsRow C 54 5 (f 102) ms cS
 q4:d 4=true->f 103=.agg X.toArray
 q5:d 5=true->d 6=false->∃ g,f 104=.slice (some ⟨g,0,none⟩) 1 1/\Row w g 54 X/\(d 0=true->d 3=false->(f 99).ownBlock≠some g)
 q6:d 6=true->w.ownsRow C 54 5 (f 105) (ms+1) (cS ++ X)
 q7:d 7=true->f 106=.agg F.toArray
 q8:d 8=true->d 12=false->w.ownsRow C 40 10 (f 107) 1 F
 q9:d 9=true->f 108=.pointer (some ⟨g2,1,none⟩)
 q10:d 10=true->f 109=.slice (some ⟨b,o,none⟩) n cap
 q11:d 11=true->f 110=.slice (if cap=1 then some ⟨b,o,none⟩ else some ⟨b,o+10,none⟩) (n - 1) (cap - 1)
 q12:d 12=true->w.ownsRow C 40 10 (f 111) (1+(n - 1)) (F ++ cF)
 q13:d 13=true->f 112=.agg #[f 105,f 111]
 q14:d 14=true->∃ g,f 8=.pointer (some ⟨g,0,none⟩)/\Row w g 25 [.slice none 0 0,.slice none 0 0]/\C<=g
theorem Mid21.pure {C g2:Nat} {w0:World} {v0:Value} {b o n cap ms:Nat} {cS X F cF:List Value} {d:Nat->Bool} {f:Nat->Value} {w:World} (H:Mid21 C g2 w0 v0 b o n cap ms cS X F cF d f w) {i:Nat} {v:Value}
  (hi:(i=1/\v=.pointer (some ⟨g2,0,none⟩))∨(i=2/\v=v0)∨(i=4/\v=.agg X.toArray)∨(i=7/\v=.agg F.toArray)∨(i=9/\v=.pointer (some ⟨g2,1,none⟩))∨(i=10/\v=.slice (some ⟨b,o,none⟩) n cap)∨(i=11/\v=.slice (if cap=1 then some ⟨b,o,none⟩ else some ⟨b,o+10,none⟩) (n - 1) (cap - 1))∨i=13/\v=.agg #[f 105,f 111]) :
  Mid21 C g2 w0 v0 b o n cap ms cS X F cF (fun j=>if j=i then true else d j) (upd f (99+i) v) w:=by
 rcases hi with ⟨rfl,rfl⟩|⟨rfl,rfl⟩|⟨rfl,rfl⟩|⟨rfl,rfl⟩|⟨rfl,rfl⟩|⟨rfl,rfl⟩|⟨rfl,rfl⟩|⟨rfl,rfl⟩ <;>
 exact ⟨H.bel,(fun h h'=>by rw [upd_ne _ _ (by decide)];exact H.q0 (by simpa using h) (by simpa using h')),(fun h=>by first|exact upd_at _ _ _|(rw [upd_ne _ _ (by decide)];exact H.q1 (by simpa using h))),(fun h=>by first|exact upd_at _ _ _|(rw [upd_ne _ _ (by decide)];exact H.q2 (by simpa using h))),(fun h h'=>by rw [upd_ne _ _ (by decide)];exact H.q3 (by simpa using h) (by simpa using h')),(fun h=>by first|exact upd_at _ _ _|(rw [upd_ne _ _ (by decide)];exact H.q4 (by simpa using h))),(fun h h'=>by
  obtain ⟨g,e,r,hn⟩:=H.q5 (by simpa using h) (by simpa using h')
  exact ⟨g,by rw [upd_ne _ _ (by decide)];exact e,r,fun x y=>by rw [upd_ne _ _ (by decide)];exact hn (by simpa using x) (by simpa using y)⟩),(fun h=>by first|exact upd_at _ _ _|(rw [upd_ne _ _ (by decide)];exact H.q6 (by simpa using h))),(fun h=>by first|exact upd_at _ _ _|(rw [upd_ne _ _ (by decide)];exact H.q7 (by simpa using h))),(fun h h'=>by rw [upd_ne _ _ (by decide)];exact H.q8 (by simpa using h) (by simpa using h')),(fun h=>by first|exact upd_at _ _ _|(rw [upd_ne _ _ (by decide)];exact H.q9 (by simpa using h))),(fun h=>by first|exact upd_at _ _ _|(rw [upd_ne _ _ (by decide)];exact H.q10 (by simpa using h))),(fun h=>by first|exact upd_at _ _ _|(rw [upd_ne _ _ (by decide)];exact H.q11 (by simpa using h))),(fun h=>by first|exact upd_at _ _ _|(rw [upd_ne _ _ (by decide)];exact H.q12 (by simpa using h))),(fun h=>by first|rw [upd_at,upd_ne _ _ (by decide),upd_ne _ _ (by decide)]|(rw [upd_ne _ _ (by decide),upd_ne _ _ (by decide),upd_ne _ _ (by decide)];exact H.q13 (by simpa using h))),(fun h=>by first|exact upd_at _ _ _|(rw [upd_ne _ _ (by decide)];exact H.q14 (by simpa using h)))⟩
set_option maxHeartbeats 4000000 in
set_option maxRecDepth 20000 in
theorem reg21 {Q:Exit->Act->World->Prop} {a0:Act} {w0:World} {g2 g5 g7 b o n cap ms:Nat} {F X cS cF:List Value} {v0:Value}
  (h2:a0.eval (.tmp 2)=.pointer (some ⟨g2,0,none⟩)) (h5:a0.eval (.tmp 5)=.pointer (some ⟨g5,0,none⟩)) (h7:a0.eval (.tmp 7)=.pointer (some ⟨g7,0,none⟩)) (hsz:a0.tmps.size=123)
  (r2:Row w0 g2 25 [v0,.slice (some ⟨b,o,none⟩) n cap]) (r5:Row w0 g5 40 F) (hF:F.length=10) (r7:Row w0 g7 54 X) (hX:X.length=5) (h1X:∀ u∈X,u.oneCell'=true)
  (hsrcS:Sou w0 v0 ms cS) (hlS:cS.length=ms * 5) (h1S:∀ u∈cS,u.oneCell'=true) (hms:ms<=5000) (hn1:1<=n) (hnm:n<=5000)
  (hsrcF:Sou w0 (.slice (if cap=1 then some ⟨b,o,none⟩ else some ⟨b,o+10,none⟩) (n - 1) (cap - 1)) (n - 1) cF) (hlF:cF.length=(n - 1) * 10) (h1F:∀ u∈cF,u.oneCell'=true)
  (hQ:∀ (f:Nat->Value) (w:World) (g8:Nat),f 8=.pointer (some ⟨g8,0,none⟩)->Row w g8 25 [f 105,f 111]->Below w0.heap.size w0 w->w.ownsRow w0.heap.size 54 5 (f 105) (ms+1) (cS ++ X)->w.ownsRow w0.heap.size 40 10 (f 111) (1+(n - 1)) (F ++ cF) ->
   Q .normal { tmps:=[99,100,101,102,103,104,105,106,107,108,109,110,111,112,8].foldl (fun t k=>t.setIfInBounds k (f k)) a0.tmps,defers:=a0.defers } w) :
  (Code.region 21 ops21 true).wp Tryz.prog Q a0 w0:=by
 refine wp_region_inv (ops:=ops21) (Inv:=fun d a w=>∃ f,Slo [99,100,101,102,103,104,105,106,107,108,109,110,111,112,8] a0 a f/\Cls ops21 d/\(d 15=false->Mid21 w0.heap.size g2 w0 v0 b o n cap ms cS X F cF d f w)/\(d 15=true->∃ g8,f 8=.pointer (some ⟨g8,0,none⟩)/\Row w g8 25 [f 105,f 111]/\Below w0.heap.size w0 w/\w.ownsRow w0.heap.size 54 5 (f 105) (ms+1) (cS ++ X)/\w.ownsRow w0.heap.size 40 10 (f 111) (1+(n - 1)) (F ++ cF))) (by kernel_rfl) (hed_of (by kernel_rfl)) ?_ ?_ ?_
 ·refine ⟨_,Slo.start (fun k hk=>by simp at hk;omega),Cls.start,fun _=>?_,fun h=>by simp [ops21] at h⟩
  refine ⟨(Below.refl _ _).drew,?_,?_,?_,?_,?_,?_,?_,?_,?_,?_,?_,?_,?_,?_,?_⟩ <;> exact fun h=>by simp [ops21] at h
 ·intro d a w i o' ho hI hdi hed
  obtain ⟨f,hs,hcl,hM,hF9⟩:=hI
  have hcl':=hcl.step ho hed
  have hi:i<16:=by
   rcases Nat.lt_or_ge i ops21.size with h|h
   ·exact h
   ·rw [Array.getElem?_eq_none h] at ho;cases ho
  have e2:a.eval (.tmp 2)=.pointer (some ⟨g2,0,none⟩):=(hs.old (by decide)).trans h2
  have e5:a.eval (.tmp 5)=.pointer (some ⟨g5,0,none⟩):=(hs.old (by decide)).trans h5
  have e7:a.eval (.tmp 7)=.pointer (some ⟨g7,0,none⟩):=(hs.old (by decide)).trans h7
  match i,hi with
  | 0,_ =>
   obtain rfl:=Option.some.inj ho
   have h15:=hcl.no 15 rfl ⟨0,.phase⟩ (by simp [ops21]) rfl hdi
   have H:=hM h15
   refine wpOp_run rfl rfl (rbs22 _ _ _ _ _ _) ⟨upd f 99 _,hs.put (by decide) _,hcl',fun _=>?_,fun h=>by simp [h15] at h⟩
   exact ⟨(H.bel.trans (below_le (alloc_one _ _) H.bel.size)),
    fun _ _=>by rw [upd_at];exact own_nil0 H.bel.size,
    fun h=>by rw [upd_ne _ _ (by decide)];exact H.q1 (by simpa using h),
    fun h=>by rw [upd_ne _ _ (by decide)];exact H.q2 (by simpa using h),
    fun h h'=>by rw [upd_ne _ _ (by decide)];exact (H.q3 (by simpa using h) (by simpa using h')).alloc _,
    fun h=>by rw [upd_ne _ _ (by decide)];exact H.q4 (by simpa using h),
    fun h h'=>by
     obtain ⟨g,e,r,hn⟩:=H.q5 (by simpa using h) (by simpa using h')
     refine ⟨g,by rw [upd_ne _ _ (by decide)];exact e,r.alloc _,fun _ _=>?_⟩
     rw [upd_at]
     intro e2
     have hlt:=r.lt
     simp [Value.ownBlock] at e2
     omega,
    fun h=>by rw [upd_ne _ _ (by decide)];exact (H.q6 (by simpa using h)).alloc _,
    fun h=>by rw [upd_ne _ _ (by decide)];exact H.q7 (by simpa using h),
    fun h h'=>by rw [upd_ne _ _ (by decide)];exact (H.q8 (by simpa using h) (by simpa using h')).alloc _,
    fun h=>by rw [upd_ne _ _ (by decide)];exact H.q9 (by simpa using h),
    fun h=>by rw [upd_ne _ _ (by decide)];exact H.q10 (by simpa using h),
    fun h=>by rw [upd_ne _ _ (by decide)];exact H.q11 (by simpa using h),
    fun h=>by rw [upd_ne _ _ (by decide)];exact (H.q12 (by simpa using h)).alloc _,
    fun h=>by rw [upd_ne _ _ (by decide),upd_ne _ _ (by decide),upd_ne _ _ (by decide)];exact H.q13 (by simpa using h),
    fun h=>by
     obtain ⟨g,e,r,hg8⟩:=H.q14 (by simpa using h)
     exact ⟨g,by rw [upd_ne _ _ (by decide)];exact e,r.alloc _,hg8⟩⟩
  | 1,_ =>
   obtain rfl:=Option.some.inj ho
   have h15:=hcl.no 15 rfl ⟨1,.phase⟩ (by simp [ops21]) rfl hdi
   have H:=hM h15
   refine wpOp_run rfl rfl (rfa25a _ _ e2 _ _ _ _ _) ⟨upd f 100 _,hs.put (by decide) _,hcl',fun _=>?_,fun h=>by simp [h15] at h⟩
   exact H.pure (.inl ⟨rfl,rfl⟩)
  | 2,_ =>
   obtain rfl:=Option.some.inj ho
   have h15:=hcl.no 15 rfl ⟨2,.phase⟩ (by simp [ops21]) rfl hdi
   have H:=hM h15
   have d1:=hed { on:=1,ground:=.data } (by simp [ops21]) (by rfl)
   have e100:a.eval (.tmp 100)=.pointer (some ⟨g2,0,none⟩):=(hs.at_ (by decide)).trans (H.q1 d1)
   have c0:w.cell? ⟨g2,0,none⟩=some v0:=(r2.below H.bel r2.lt).cell 0
   refine wpOp_run rfl rfl (rld22 _ _ _ e100 _ c0 _ _ _ _) ⟨upd f 101 _,hs.put (by decide) _,hcl',fun _=>?_,fun h=>by simp [h15] at h⟩
   exact H.pure (.inr (.inl ⟨rfl,rfl⟩))
  | 3,_ =>
   obtain rfl:=Option.some.inj ho
   have h15:=hcl.no 15 rfl ⟨3,.phase⟩ (by simp [ops21]) rfl hdi
   have H:=hM h15
   have d0:=hed { on:=0,ground:=.data } (by simp [ops21]) (by rfl)
   have d2:=hed { on:=2,ground:=.data } (by simp [ops21]) (by rfl)
   have e99:=hs.at_ (k:=99) (by decide)
   have e101:a.eval (.tmp 101)=v0:=(hs.at_ (by decide)).trans (H.q2 d2)
   have hs3:=hsrcS.keep (w':=w) (fun p u h=>(H.bel.cell (World.block_lt_of_cell? w0 p h)).trans h)
   have hO:=H.q0 d0 hdi
   refine wpOp_wp rfl rfl (wpo_appS (.tmp 99) (.tmp 101) rfl Tryz.underlying22 Tryz.info54S (by rfl) (by decide) e99 e101 hO H.bel.size hs3 hlS h1S (by omega) (by decide) ?_)
   intro v' w' hown hg
   refine ⟨upd f 102 _,hs.put (by decide) _,hcl',fun _=>?_,fun h=>by simp [h15] at h⟩
   exact ⟨(H.bel.trans (grown_le hg H.bel.size (fun k e=>(hO.lt k e).1))),
    fun _ h'=>by simp at h',
    fun h=>by rw [upd_ne _ _ (by decide)];exact H.q1 (by simpa using h),
    fun h=>by rw [upd_ne _ _ (by decide)];exact H.q2 (by simpa using h),
    fun _ _=>by rw [upd_at];simpa using hown,
    fun h=>by rw [upd_ne _ _ (by decide)];exact H.q4 (by simpa using h),
    fun h h'=>by
     obtain ⟨g,e,r,hn⟩:=H.q5 (by simpa using h) (by simpa using h')
     exact ⟨g,by rw [upd_ne _ _ (by decide)];exact e,rowG r hg (hn d0 hdi),fun _ y=>by simp at y⟩,
    fun h=>by
     have:=hcl 6 _ rfl (by simpa using h) { on:=3,ground:=.data } (by simp [ops21]) (by rfl)
     exact absurd (hdi.symm.trans this) Bool.false_ne_true,
    fun h=>by rw [upd_ne _ _ (by decide)];exact H.q7 (by simpa using h),
    fun h h'=>by rw [upd_ne _ _ (by decide)];exact ownG (H.q8 (by simpa using h) (by simpa using h')) hg (own_ne (H.q8 (by simpa using h) (by simpa using h')) hO (by decide)),
    fun h=>by rw [upd_ne _ _ (by decide)];exact H.q9 (by simpa using h),
    fun h=>by rw [upd_ne _ _ (by decide)];exact H.q10 (by simpa using h),
    fun h=>by rw [upd_ne _ _ (by decide)];exact H.q11 (by simpa using h),
    fun h=>by rw [upd_ne _ _ (by decide)];exact ownG (H.q12 (by simpa using h)) hg (own_ne (H.q12 (by simpa using h)) hO (by decide)),
    fun h=>by rw [upd_ne _ _ (by decide),upd_ne _ _ (by decide),upd_ne _ _ (by decide)];exact H.q13 (by simpa using h),
    fun h=>by
     obtain ⟨g,e,r,hg8⟩:=H.q14 (by simpa using h)
     exact ⟨g,by rw [upd_ne _ _ (by decide)];exact e,rowG r hg (own_rowne hO r (by decide)),hg8⟩⟩
  | 4,_ =>
   obtain rfl:=Option.some.inj ho
   have h15:=hcl.no 15 rfl ⟨4,.phase⟩ (by simp [ops21]) rfl hdi
   have H:=hM h15
   refine wpOp_run rfl rfl (run_ld rfl e7 ((r7.below H.bel r7.lt).range) Tryz.underlying54 rfl (by rw [hX];exact Tryz.sz54)) ⟨upd f 103 _,hs.put (by decide) _,hcl',fun _=>?_,fun h=>by simp [h15] at h⟩
   exact H.pure (.inr (.inr (.inl ⟨rfl,rfl⟩)))
  | 5,_ =>
   obtain rfl:=Option.some.inj ho
   have h15:=hcl.no 15 rfl ⟨5,.phase⟩ (by simp [ops21]) rfl hdi
   have H:=hM h15
   have d4:=hed { on:=4,ground:=.data } (by simp [ops21]) (by rfl)
   have e103:a.eval (.tmp 103)=.agg X.toArray:=(hs.at_ (by decide)).trans (H.q4 d4)
   refine wpOp_wp rfl rfl (run_bs 22 54 5 80 A1s (.tmp 103) rfl Tryz.underlying22 Tryz.info54S (by decide) (by decide) X hX e103 ⟨upd f 104 _,hs.put (by decide) _,hcl',fun _=>?_,fun h=>by simp [h15] at h⟩)
   exact ⟨(H.bel.trans (below_le (alloc_one _ _) H.bel.size)),
    fun h h'=>by rw [upd_ne _ _ (by decide)];exact (H.q0 (by simpa using h) (by simpa using h')).alloc _,
    fun h=>by rw [upd_ne _ _ (by decide)];exact H.q1 (by simpa using h),
    fun h=>by rw [upd_ne _ _ (by decide)];exact H.q2 (by simpa using h),
    fun h h'=>by rw [upd_ne _ _ (by decide)];exact (H.q3 (by simpa using h) (by simpa using h')).alloc _,
    fun h=>by rw [upd_ne _ _ (by decide)];exact H.q4 (by simpa using h),
    fun _ _=>by
     refine ⟨w.heap.size,by rw [upd_at],Row.new w 54 X,fun x y=>?_⟩
     rw [upd_ne _ _ (by decide)]
     intro e
     have:=((H.q0 (by simpa using x) (by simpa using y)).lt _ e).2
     omega,
    fun h=>by rw [upd_ne _ _ (by decide)];exact (H.q6 (by simpa using h)).alloc _,
    fun h=>by rw [upd_ne _ _ (by decide)];exact H.q7 (by simpa using h),
    fun h h'=>by rw [upd_ne _ _ (by decide)];exact (H.q8 (by simpa using h) (by simpa using h')).alloc _,
    fun h=>by rw [upd_ne _ _ (by decide)];exact H.q9 (by simpa using h),
    fun h=>by rw [upd_ne _ _ (by decide)];exact H.q10 (by simpa using h),
    fun h=>by rw [upd_ne _ _ (by decide)];exact H.q11 (by simpa using h),
    fun h=>by rw [upd_ne _ _ (by decide)];exact (H.q12 (by simpa using h)).alloc _,
    fun h=>by rw [upd_ne _ _ (by decide),upd_ne _ _ (by decide),upd_ne _ _ (by decide)];exact H.q13 (by simpa using h),
    fun h=>by
     obtain ⟨g,e,r,hg8⟩:=H.q14 (by simpa using h)
     exact ⟨g,by rw [upd_ne _ _ (by decide)];exact e,r.alloc _,hg8⟩⟩
  | 6,_ =>
   obtain rfl:=Option.some.inj ho
   have h15:=hcl.no 15 rfl ⟨6,.phase⟩ (by simp [ops21]) rfl hdi
   have H:=hM h15
   have d3:=hed { on:=3,ground:=.data } (by simp [ops21]) (by rfl)
   have d5:=hed { on:=5,ground:=.data } (by simp [ops21]) (by rfl)
   have e102:=hs.at_ (k:=102) (by decide)
   obtain ⟨g,e,r,-⟩:=H.q5 d5 hdi
   have e104:a.eval (.tmp 104)=.slice (some ⟨g,0,none⟩) 1 1:=(hs.at_ (by decide)).trans e
   have hs6:Sou w (.slice (some ⟨g,0,none⟩) 1 1) 1 X:=⟨_,_,rfl,fun h=>(by cases h),fun j u hu=>⟨g,0,rfl,by rw [Nat.zero_add,r.cell j];exact hu⟩⟩
   have hO:=H.q3 d3 hdi
   refine wpOp_wp rfl rfl (wpo_appS (.tmp 102) (.tmp 104) rfl Tryz.underlying22 Tryz.info54S (by rfl) (by decide) e102 e104 hO H.bel.size hs6 (by omega) h1X (by omega) (by decide) ?_)
   intro v' w' hown hg
   refine ⟨upd f 105 _,hs.put (by decide) _,hcl',fun _=>?_,fun h=>by simp [h15] at h⟩
   exact ⟨(H.bel.trans (grown_le hg H.bel.size (fun k e=>(hO.lt k e).1))),
    fun _ h'=>by simp [d3] at h',
    fun h=>by rw [upd_ne _ _ (by decide)];exact H.q1 (by simpa using h),
    fun h=>by rw [upd_ne _ _ (by decide)];exact H.q2 (by simpa using h),
    fun _ h'=>by simp at h',
    fun h=>by rw [upd_ne _ _ (by decide)];exact H.q4 (by simpa using h),
    fun _ h'=>by simp at h',
    fun _=>by rw [upd_at];exact hown,
    fun h=>by rw [upd_ne _ _ (by decide)];exact H.q7 (by simpa using h),
    fun h h'=>by rw [upd_ne _ _ (by decide)];exact ownG (H.q8 (by simpa using h) (by simpa using h')) hg (own_ne (H.q8 (by simpa using h) (by simpa using h')) hO (by decide)),
    fun h=>by rw [upd_ne _ _ (by decide)];exact H.q9 (by simpa using h),
    fun h=>by rw [upd_ne _ _ (by decide)];exact H.q10 (by simpa using h),
    fun h=>by rw [upd_ne _ _ (by decide)];exact H.q11 (by simpa using h),
    fun h=>by rw [upd_ne _ _ (by decide)];exact ownG (H.q12 (by simpa using h)) hg (own_ne (H.q12 (by simpa using h)) hO (by decide)),
    fun h=>by
     have:=hcl 13 _ rfl (by simpa using h) { on:=6,ground:=.data } (by simp [ops21]) (by rfl)
     exact absurd (hdi.symm.trans this) Bool.false_ne_true,
    fun h=>by
     obtain ⟨g,e,r,hg8⟩:=H.q14 (by simpa using h)
     exact ⟨g,by rw [upd_ne _ _ (by decide)];exact e,rowG r hg (own_rowne hO r (by decide)),hg8⟩⟩
  | 7,_ =>
   obtain rfl:=Option.some.inj ho
   have h15:=hcl.no 15 rfl ⟨7,.phase⟩ (by simp [ops21]) rfl hdi
   have H:=hM h15
   refine wpOp_run rfl rfl (run_ld rfl e5 ((r5.below H.bel r5.lt).range) Tryz.underlying40 rfl (by rw [hF];exact Tryz.sz40)) ⟨upd f 106 _,hs.put (by decide) _,hcl',fun _=>?_,fun h=>by simp [h15] at h⟩
   exact H.pure (.inr (.inr (.inr (.inl ⟨rfl,rfl⟩))))
  | 8,_ =>
   obtain rfl:=Option.some.inj ho
   have h15:=hcl.no 15 rfl ⟨8,.phase⟩ (by simp [ops21]) rfl hdi
   have H:=hM h15
   have d7:=hed { on:=7,ground:=.data } (by simp [ops21]) (by rfl)
   have e106:a.eval (.tmp 106)=.agg F.toArray:=(hs.at_ (by decide)).trans (H.q7 d7)
   refine wpOp_wp rfl rfl (run_bs 23 40 10 176 A0s (.tmp 106) rfl Tryz.underlying23 Tryz.info40S (by decide) (by decide) F hF e106 ⟨upd f 107 _,hs.put (by decide) _,hcl',fun _=>?_,fun h=>by simp [h15] at h⟩)
   exact ⟨(H.bel.trans (below_le (alloc_one _ _) H.bel.size)),
    fun h h'=>by rw [upd_ne _ _ (by decide)];exact (H.q0 (by simpa using h) (by simpa using h')).alloc _,
    fun h=>by rw [upd_ne _ _ (by decide)];exact H.q1 (by simpa using h),
    fun h=>by rw [upd_ne _ _ (by decide)];exact H.q2 (by simpa using h),
    fun h h'=>by rw [upd_ne _ _ (by decide)];exact (H.q3 (by simpa using h) (by simpa using h')).alloc _,
    fun h=>by rw [upd_ne _ _ (by decide)];exact H.q4 (by simpa using h),
    fun h h'=>by
     obtain ⟨g,e,r,hn⟩:=H.q5 (by simpa using h) (by simpa using h')
     exact ⟨g,by rw [upd_ne _ _ (by decide)];exact e,r.alloc _,fun x y=>by rw [upd_ne _ _ (by decide)];exact hn (by simpa using x) (by simpa using y)⟩,
    fun h=>by rw [upd_ne _ _ (by decide)];exact (H.q6 (by simpa using h)).alloc _,
    fun h=>by rw [upd_ne _ _ (by decide)];exact H.q7 (by simpa using h),
    fun _ _=>by rw [upd_at];exact own_lit F hF H.bel.size,
    fun h=>by rw [upd_ne _ _ (by decide)];exact H.q9 (by simpa using h),
    fun h=>by rw [upd_ne _ _ (by decide)];exact H.q10 (by simpa using h),
    fun h=>by rw [upd_ne _ _ (by decide)];exact H.q11 (by simpa using h),
    fun h=>by rw [upd_ne _ _ (by decide)];exact (H.q12 (by simpa using h)).alloc _,
    fun h=>by rw [upd_ne _ _ (by decide),upd_ne _ _ (by decide),upd_ne _ _ (by decide)];exact H.q13 (by simpa using h),
    fun h=>by
     obtain ⟨g,e,r,hg8⟩:=H.q14 (by simpa using h)
     exact ⟨g,by rw [upd_ne _ _ (by decide)];exact e,r.alloc _,hg8⟩⟩
  | 9,_ =>
   obtain rfl:=Option.some.inj ho
   have h15:=hcl.no 15 rfl ⟨9,.phase⟩ (by simp [ops21]) rfl hdi
   have H:=hM h15
   refine wpOp_run rfl rfl (rfa25b _ _ e2 _ _ _ _ _) ⟨upd f 108 _,hs.put (by decide) _,hcl',fun _=>?_,fun h=>by simp [h15] at h⟩
   exact H.pure (.inr (.inr (.inr (.inr (.inl ⟨rfl,rfl⟩)))))
  | 10,_ =>
   obtain rfl:=Option.some.inj ho
   have h15:=hcl.no 15 rfl ⟨10,.phase⟩ (by simp [ops21]) rfl hdi
   have H:=hM h15
   have d9:=hed { on:=9,ground:=.data } (by simp [ops21]) (by rfl)
   have e108:a.eval (.tmp 108)=.pointer (some ⟨g2,1,none⟩):=(hs.at_ (by decide)).trans (H.q9 d9)
   have c1:w.cell? ⟨g2,1,none⟩=some (.slice (some ⟨b,o,none⟩) n cap):=(r2.below H.bel r2.lt).cell 1
   refine wpOp_run rfl rfl (rld23 _ _ _ e108 _ c1 _ _ _ _) ⟨upd f 109 _,hs.put (by decide) _,hcl',fun _=>?_,fun h=>by simp [h15] at h⟩
   exact H.pure (.inr (.inr (.inr (.inr (.inr (.inl ⟨rfl,rfl⟩))))))
  | 11,_ =>
   obtain rfl:=Option.some.inj ho
   have h15:=hcl.no 15 rfl ⟨11,.phase⟩ (by simp [ops21]) rfl hdi
   have H:=hM h15
   have d10:=hed { on:=10,ground:=.data } (by simp [ops21]) (by rfl)
   have e109:a.eval (.tmp 109)=.slice (some ⟨b,o,none⟩) n cap:=(hs.at_ (by decide)).trans (H.q10 d10)
   refine wpOp_run rfl rfl (rsl23 _ _ _ _ _ e109 rfl hn1 _ _ _ _ _) ⟨upd f 110 _,hs.put (by decide) _,hcl',fun _=>?_,fun h=>by simp [h15] at h⟩
   exact H.pure (.inr (.inr (.inr (.inr (.inr (.inr (.inl ⟨rfl,rfl⟩)))))))
  | 12,_ =>
   obtain rfl:=Option.some.inj ho
   have h15:=hcl.no 15 rfl ⟨12,.chain⟩ (by simp [ops21]) rfl hdi
   have H:=hM h15
   have d8:=hed { on:=8,ground:=.data } (by simp [ops21]) (by rfl)
   have d11:=hed { on:=11,ground:=.data } (by simp [ops21]) (by rfl)
   have d6:=hed { on:=6,ground:=.chain } (by simp [ops21]) (by rfl)
   have d3:=hcl 6 _ rfl d6 { on:=3,ground:=.data } (by simp [ops21]) (by rfl)
   have e107:=hs.at_ (k:=107) (by decide)
   have e110:a.eval (.tmp 110)=.slice (if cap=1 then some ⟨b,o,none⟩ else some ⟨b,o+10,none⟩) (n - 1) (cap - 1):=(hs.at_ (by decide)).trans (H.q11 d11)
   have hs12:=hsrcF.keep (w':=w) (fun p u h=>(H.bel.cell (World.block_lt_of_cell? w0 p h)).trans h)
   have hO:=H.q8 d8 hdi
   refine wpOp_wp rfl rfl (wpo_appS (.tmp 107) (.tmp 110) rfl Tryz.underlying23 Tryz.info40S (by rfl) (by decide) e107 e110 hO H.bel.size hs12 hlF h1F (by omega) (by decide) ?_)
   intro v' w' hown hg
   refine ⟨upd f 111 _,hs.put (by decide) _,hcl',fun _=>?_,fun h=>by simp [h15] at h⟩
   exact ⟨(H.bel.trans (grown_le hg H.bel.size (fun k e=>(hO.lt k e).1))),
    fun _ h'=>by simp [d3] at h',
    fun h=>by rw [upd_ne _ _ (by decide)];exact H.q1 (by simpa using h),
    fun h=>by rw [upd_ne _ _ (by decide)];exact H.q2 (by simpa using h),
    fun _ h'=>by simp [d6] at h',
    fun h=>by rw [upd_ne _ _ (by decide)];exact H.q4 (by simpa using h),
    fun _ h'=>by simp [d6] at h',
    fun h=>by rw [upd_ne _ _ (by decide)];exact ownG (H.q6 (by simpa using h)) hg (own_ne (H.q6 (by simpa using h)) hO (by decide)),
    fun h=>by rw [upd_ne _ _ (by decide)];exact H.q7 (by simpa using h),
    fun _ h'=>by simp at h',
    fun h=>by rw [upd_ne _ _ (by decide)];exact H.q9 (by simpa using h),
    fun h=>by rw [upd_ne _ _ (by decide)];exact H.q10 (by simpa using h),
    fun h=>by rw [upd_ne _ _ (by decide)];exact H.q11 (by simpa using h),
    fun _=>by rw [upd_at];exact hown,
    fun h=>by
     have:=hcl 13 _ rfl (by simpa using h) { on:=12,ground:=.data } (by simp [ops21]) (by rfl)
     exact absurd (hdi.symm.trans this) Bool.false_ne_true,
    fun h=>by
     obtain ⟨g,e,r,hg8⟩:=H.q14 (by simpa using h)
     exact ⟨g,by rw [upd_ne _ _ (by decide)];exact e,rowG r hg (own_rowne hO r (by decide)),hg8⟩⟩
  | 13,_ =>
   obtain rfl:=Option.some.inj ho
   have h15:=hcl.no 15 rfl ⟨13,.data⟩ (by simp [ops21]) rfl hdi
   have H:=hM h15
   have d6:=hed { on:=6,ground:=.data } (by simp [ops21]) (by rfl)
   have d12:=hed { on:=12,ground:=.data } (by simp [ops21]) (by rfl)
   obtain ⟨x1,x2,x3⟩:=own_slice (H.q6 d6)
   obtain ⟨y1,y2,y3⟩:=own_slice (H.q12 d12)
   have e105:a.eval (.tmp 105)=.slice x1 (ms+1) x2:=(hs.at_ (by decide)).trans x3
   have e111:a.eval (.tmp 111)=.slice y1 (1+(n - 1)) y2:=(hs.at_ (by decide)).trans y3
   refine wpOp_run rfl rfl (rbd25 _ _ _ _ _ _ _ e105 e111 _ _ _ _ _) ⟨upd f 112 _,hs.put (by decide) _,hcl',fun _=>?_,fun h=>by simp [h15] at h⟩
   exact H.pure (.inr (.inr (.inr (.inr (.inr (.inr (.inr (⟨rfl,by rw [x3,y3]⟩))))))))
  | 14,_ =>
   obtain rfl:=Option.some.inj ho
   have h15:=hcl.no 15 rfl ⟨14,.data⟩ (by simp [ops21]) rfl hdi
   have H:=hM h15
   refine wpOp_run rfl rfl (ral25 _ _ _ _ _ _) ⟨upd f 8 _,hs.put (by decide) _,hcl',fun _=>?_,fun h=>by simp [h15] at h⟩
   exact ⟨(H.bel.trans (below_le (alloc_one _ _) H.bel.size)),
    fun h h'=>by rw [upd_ne _ _ (by decide)];exact (H.q0 (by simpa using h) (by simpa using h')).alloc _,
    fun h=>by rw [upd_ne _ _ (by decide)];exact H.q1 (by simpa using h),
    fun h=>by rw [upd_ne _ _ (by decide)];exact H.q2 (by simpa using h),
    fun h h'=>by rw [upd_ne _ _ (by decide)];exact (H.q3 (by simpa using h) (by simpa using h')).alloc _,
    fun h=>by rw [upd_ne _ _ (by decide)];exact H.q4 (by simpa using h),
    fun h h'=>by
     obtain ⟨g,e,r,hn⟩:=H.q5 (by simpa using h) (by simpa using h')
     exact ⟨g,by rw [upd_ne _ _ (by decide)];exact e,r.alloc _,fun x y=>by rw [upd_ne _ _ (by decide)];exact hn (by simpa using x) (by simpa using y)⟩,
    fun h=>by rw [upd_ne _ _ (by decide)];exact (H.q6 (by simpa using h)).alloc _,
    fun h=>by rw [upd_ne _ _ (by decide)];exact H.q7 (by simpa using h),
    fun h h'=>by rw [upd_ne _ _ (by decide)];exact (H.q8 (by simpa using h) (by simpa using h')).alloc _,
    fun h=>by rw [upd_ne _ _ (by decide)];exact H.q9 (by simpa using h),
    fun h=>by rw [upd_ne _ _ (by decide)];exact H.q10 (by simpa using h),
    fun h=>by rw [upd_ne _ _ (by decide)];exact H.q11 (by simpa using h),
    fun h=>by rw [upd_ne _ _ (by decide)];exact (H.q12 (by simpa using h)).alloc _,
    fun h=>by rw [upd_ne _ _ (by decide),upd_ne _ _ (by decide),upd_ne _ _ (by decide)];exact H.q13 (by simpa using h),
    fun _=>⟨w.heap.size,upd_at _ _ _,Row.new w 25 [.slice none 0 0,.slice none 0 0],H.bel.size⟩⟩
  | 15,_ =>
   obtain rfl:=Option.some.inj ho
   have H:=hM hdi
   have d13:=hed { on:=13,ground:=.data } (by simp [ops21]) (by rfl)
   have d14:=hed { on:=14,ground:=.data } (by simp [ops21]) (by rfl)
   have d6:=hcl 13 _ rfl d13 { on:=6,ground:=.data } (by simp [ops21]) (by rfl)
   have d12:=hcl 13 _ rfl d13 { on:=12,ground:=.data } (by simp [ops21]) (by rfl)
   have O6:=H.q6 d6
   have O12:=H.q12 d12
   obtain ⟨x1,x2,x3⟩:=own_slice O6
   obtain ⟨y1,y2,y3⟩:=own_slice O12
   obtain ⟨g8,e8,r8,hC8⟩:=H.q14 d14
   have e8':a.eval (.tmp 8)=.pointer (some ⟨g8,0,none⟩):=(hs.at_ (by decide)).trans e8
   have e112:a.eval (.tmp 112)=.agg #[.slice x1 (ms+1) x2,.slice y1 (1+(n - 1)) y2]:=(hs.at_ (by decide)).trans (by rw [H.q13 d13,x3,y3])
   refine wpOp_skip rfl rfl (rst25 _ _ _ _ _ _ _ _ e8' e112 _ r8 _ _ _) ⟨f,hs.none _,hcl',fun h=>by simp at h,fun _=>?_⟩
   have n54:=own_rowne O6 r8 (by decide)
   have n40:=own_rowne O12 r8 (by decide)
   have b1:Below w0.heap.size w0 (w.setCell ⟨g8,0,none⟩ (.slice x1 (ms+1) x2)):=H.bel.setCell hC8 _
   have k54:∀ k,(f 105).ownBlock=some k->k≠g8:=fun k e h=>n54 (by rw [e,h])
   have k40:∀ k,(f 111).ownBlock=some k->k≠g8:=fun k e h=>n40 (by rw [e,h])
   have st2:∀ k,k≠g8->((w.setCell ⟨g8,0,none⟩ (.slice x1 (ms+1) x2)).setCell ⟨g8,1,none⟩ (.slice y1 (1+(n - 1)) y2)).heap[k]?=w.heap[k]?:=fun k hk=>(heap_setCell_other _ ⟨g8,1,none⟩ k _ hk).trans (heap_setCell_other w ⟨g8,0,none⟩ k _ hk)
   refine ⟨g8,e8,?_,b1.setCell hC8 _,ownS O6 (fun k e=>st2 k (k54 k e)),ownS O12 (fun k e=>st2 k (k40 k e))⟩
   rw [x3,y3]
   exact (r8.set 0 _).set 1 _
 ·rintro a w ⟨f,hs,-,-,hF9⟩
  obtain ⟨g8,h1,h2,h3,h4,h5⟩:=hF9 rfl
  rw [hs.eq]
  exact hQ f w g8 h1 h2 h3 h4 h5
end Go.Proofs.YtjenmmkamhplkaaGreat
