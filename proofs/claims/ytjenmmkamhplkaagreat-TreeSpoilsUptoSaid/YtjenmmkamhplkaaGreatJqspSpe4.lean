/- Part of the proof. -/
import Derived.Test.YtjenmmkamhplkaaGreatQqspSpd
import Derived.Test.YtjenmmkamhplkaaGreatJqspSpa4
import Derived.Test.YtjenmmkamhplkaaGreatJqspFew4
import Derived.Test.YtjenmmkamhplkaaGreatJqspGds3
import Derived.Test.YtjenmmkamhplkaaGreatJqspYmy4
namespace Go.Proofs.YtjenmmkamhplkaaGreat
open Go.RowKit
def spC (k x:Int) (nm:ByteArray):List Value:=[.int .i64 k,.int .i64 0,.bool false,.string nm,.int .i64 0,.string ⟨#[]⟩,.slice none 0 0,.slice none 0 0,.bool true,.string ⟨#[]⟩,.slice none 0 0,.int .i64 1,.int .i64 1,.int .i64 x,.string ⟨#[]⟩,.slice none 0 0,.int .i64 0,.int .i64 0,.string ⟨#[]⟩,.slice none 0 0,.int .i64 0,.string ⟨#[]⟩,.slice none 0 0,.string ⟨#[]⟩,.slice none 0 0,.slice none 0 0,.int .i64 0,.int .i64 0,.string ⟨#[]⟩,.slice none 0 0,.slice none 0 0,.slice none 0 0]
def sxC (v:Value):List Value:=[.bool false,.string ⟨#[113]⟩,.slice none 0 0,v,.int .i64 0]
def sfC (mu:Bool) (k:Int):List Value:=[.bool mu,.string ⟨#[97]⟩,.int .i64 k,.string ⟨#[]⟩,.slice none 0 0,.slice none 0 0]
theorem spC_at (K:Ctx) (w:World) (k x:Int) (nm:Bs) (h:nm.length<=K.B):StAt 1 K w (spC k x (str nm)) (spS k x nm) :=
 ⟨tyCells 0,plCells,_,oprCells,_,_,rfl,h,kind_at K w 0,pl_zero K w,⟨[.int .i64 1,.int .i64 x,.string (str []),.slice none 0 0],oprCells,plCells,_,_,rfl,⟨_,rfl,pl_zero K w⟩,opr_zero K w,pl_zero K w,by simp [spS,spV,Va.zero],nil_ar,nil_ar⟩,opr_zero K w,nil_ar,nil_ar⟩
theorem sxC_at {K:Ctx} {w:World} {v:Value} {fs:List Fld} (hB:5<=K.B) (h:Ar 6 96 (FldAt K w) K w v fs):SctAt K w (sxC v) (spX fs):=⟨_,_,rfl,by show 1<=_;omega,nil_ar,h⟩
theorem sfC_at (K:Ctx) (w:World) (mu:Bool) (k:Int) (hB:5<=K.B):FldAt K w (sfC mu k) (spF mu k):=⟨tyCells k,rfl,by show 1<=_;omega,kind_at K w k⟩
theorem spC_one (k x:Int) (nm:ByteArray):∀ u∈spC k x nm,u.oneCell'=true:=by
 intro u hu
 have:(spC k x nm).all (·.oneCell')=true:=rfl
 exact List.all_eq_true.1 this u hu
theorem sfC_one (mu:Bool) (k:Int):∀ u∈sfC mu k,u.oneCell'=true:=by
 intro u hu
 have:(sfC mu k).all (·.oneCell')=true:=rfl
 exact List.all_eq_true.1 this u hu
section
variable {n:Nat} {K:Ctx} {w z:World}
theorem body_fin (hz:Below K.C w z) (hC:K.C<=w.heap.size) {LB:List (List Value)} {l:List St} (hl:Cel 32 (StAt n K w) LB l) {S:List Value} {s:St} (hS:StAt 1 (K.up z.heap.size) z S s) (h1:∀ u∈S,u.oneCell'=true) (hlen:l.length<=5000) {B:Nat} {v:Value}
  (ho:z.ownsRow B 49 32 v (l.length+1) (LB.flatten ++ S)):Ar 32 496 (StAt (n+1) (K.up z.heap.size) z) (K.up z.heap.size) z v (l ++ [s]):=by
 have hKz:K.C<=z.heap.size:=Nat.le_trans hC hz.size
 have hc:Cel 32 (StAt (n+1) (K.up z.heap.size) z) (LB ++ [S]) (l ++ [s]) :=
  (hl.mono fun _ _ h=>((h.below hz).up hKz).upto (by omega)).app (Cel.one hS.len (hS.upto (by omega)) h1)
 refine ar_own hc (B:=B) (el:=49) ?_ (Nat.le_refl _) (by simp;omega)
 simpa using ho
theorem fnc_fin (hz:Below K.C w z) (hC:K.C<=w.heap.size) {f:Fnc} {v2 v3 v8:Value} {ts:List Value} {nm:Bs} {ps:List Fld} {bd:List St} (hnm:nm.length<=K.B) (hli:Ar 2 40 (LfeAt K w) K w v2 f.lives) (hre:IsTy K w ts f.result)
  (hpa:Ar 6 96 (FldAt (K.up z.heap.size) z) (K.up z.heap.size) z v3 ps) (hbo:Ar 32 496 (StAt (n+1) (K.up z.heap.size) z) (K.up z.heap.size) z v8 bd) :
  FncAt (n+1) (K.up z.heap.size) z (.bool f.pub :: .string (str nm) :: v2 :: v3 :: (ts ++ [v8,.int .i64 f.pos])) { f with name:=nm,params:=ps,body:=bd }:=by
 have hKz:K.C<=z.heap.size:=Nat.le_trans hC hz.size
 exact ⟨v2,v3,ts,v8,rfl,hnm,(hli.mono hz fun _ _ _ h=>h.below hz).up hKz fun _ _ _ h=>h.up hKz,hpa,(hre.below hz).up hKz,hbo⟩
theorem par_fin (hz:Below K.C w z) (hC:K.C<=w.heap.size) {v:Value} {l:List Fld} (h:Ar 6 96 (FldAt K w) K w v l):Ar 6 96 (FldAt (K.up z.heap.size) z) (K.up z.heap.size) z v l:=by
 have hKz:K.C<=z.heap.size:=Nat.le_trans hC hz.size
 exact (h.mono hz fun _ _ _ h=>h.below hz).up hKz fun _ _ _ h=>h.up hKz
theorem fin_may (he:Env K w) (hz:Below K.C w z) {c:Crt} {LS LF:List (List Value)} (hS:Cel 5 (SctAt K w) LS c.structs) (hL:Cel 10 (FncAt n K w) LF c.funcs) {X F:List Value} {x:Sct} {f:Fnc} (hX:SctAt (K.up z.heap.size) z X x) (hF:FncAt (n+1) (K.up z.heap.size) z F f)
  (hls:c.structs.length<=5000) (hlf:c.funcs.length<=5000) (hl1:1<=c.funcs.length) {B1 B2:Nat} {va vb:Value} (oS:z.ownsRow B1 54 5 va (c.structs.length+1) (LS.flatten ++ X)) (oF:z.ownsRow B2 40 10 vb (1+(c.funcs.length - 1)) (F ++ (LF.drop 1).flatten))
  (hbad:¬ MayCrt (n+1) ⟨c.structs ++ [x],f :: c.funcs.drop 1⟩):Calls Tryz.prog 9 #[.agg #[va,vb]] z fun ev z'=>ev=.returned (.bool false)/\Below z.heap.size z z':=by
 have hKz:K.C<=z.heap.size:=Nat.le_trans he.C hz.size
 have he2:=he.below hz
 have hcS:Cel 5 (SctAt (K.up z.heap.size) z) (LS ++ [X]) (c.structs ++ [x]):=(hS.mono fun _ _ h=>(h.below hz).up hKz).app (Cel.one (by obtain ⟨_,_,rfl,_⟩:=hX;rfl) hX hX.one)
 have hcF:Cel 10 (FncAt (n+1) (K.up z.heap.size) z) ([F] ++ LF.drop 1) ([f] ++ c.funcs.drop 1):=(Cel.one hF.len hF hF.one).app ((hL.mono fun _ _ h=>((h.below hz).up hKz).upto (by omega)).drop)
 refine may_any (K:=K.up z.heap.size) (w:=z) ⟨Nat.le_refl _,Nat.lt_of_lt_of_le he.z hKz,he2.ml,he2.B⟩ (cs:=[va,vb]) (c:=⟨c.structs ++ [x],f :: c.funcs.drop 1⟩) ⟨va,vb,rfl,?_,?_⟩ false ⟨fun h=>(by cases h),fun h=>absurd h hbad⟩
 ·exact ar_own hcS (B:=B1) (el:=54) (by simpa using oS) (Nat.le_refl _) (by simp;omega)
 ·refine ar_own hcF (B:=B2) (el:=40) ?_ (Nat.le_refl _) (by simp;omega)
  have e:(f :: c.funcs.drop 1).length=1+(c.funcs.length - 1):=by simp;omega
  show z.ownsRow B2 40 10 vb (f :: c.funcs.drop 1).length _
  rw [e]
  simpa using oF
end

set_option maxHeartbeats 8000000 in
set_option maxRecDepth 20000 in
theorem sp_front {n:Nat} {K:Ctx} {w:World} (he:Env K w) {c:Crt} {cs:List Value} (hx:CrtAt n K w cs c) (how:Int) (hcn:∀ f∈c.funcs,cnt n f.body<=4611686018427387904) (GA BM:Bool) (hGA:GA=true↔GrtC n c) (hBM:BM=true↔MayCrt n c)
  (hno:GA=true∨BM=false∨c.funcs.length=0∨250<c.structs.length+c.funcs.length) (hls:c.structs.length<=1000000) (hlf:c.funcs.length<=1000000) :
  Calls Tryz.prog 6 #[.agg cs.toArray,.int .i64 how] w fun ev w'=>ev=.returned (.bool true)/\Below w.heap.size w w':=by
 have kx:=hx
 obtain ⟨v0,v1,rfl,h0,h1⟩:=hx
 obtain ⟨p0,m0,e0⟩:=h0.form
 obtain ⟨p1,m1,e1⟩:=h1.form
 have hpos:0<w.heap.size:=Nat.lt_of_lt_of_le he.z he.C
 obtain ⟨SP,hSP⟩:∃ SP:World->Prop,SP=fun z=>Below w.heap.size w z/\Row z w.heap.size 25 [v0,v1]:=⟨_,rfl⟩
 have SC:Hid (∀ z,SP z->z.cell? ⟨w.heap.size,0,none⟩=some v0/\z.cell? ⟨w.heap.size,1,none⟩=some v1):=by
  intro z hz
  rw [hSP] at hz
  exact ⟨hz.2.cell 0,hz.2.cell 1⟩
 have SN:Hid (∀ z z',SP z->Below z.heap.size z z'->SP z'):=by
  intro z z' hz hb
  rw [hSP] at hz ⊢
  exact ⟨hz.1.trans (below_le hb hz.1.size),hz.2.below hb hz.2.lt⟩
 have SB:Hid (∀ z,SP z->Below w.heap.size w z):=by
  intro z hz
  rw [hSP] at hz
  exact hz.1
 have hK:∀ z,SP z->Below K.C w z:=fun z hz=>below_le (SB.out z hz) he.C
 have D7:Hid (∀ z,SP z->Calls Tryz.prog 7 #[.agg #[v0,v1]] z fun ev z'=>ev=.returned (.bool GA)/\SP z'/\z'.cell? ⟨w.heap.size,0,none⟩=some v0/\z'.cell? ⟨w.heap.size,1,none⟩=some v1/\Below z.heap.size z z'):=by
  intro z hz
  refine (great_any (Nat.le_trans he.C (SB.out z hz).size) (kx.below (hK z hz)) GA hGA).mono ?_
  rintro _ z' ⟨rfl,hb⟩
  have h2:=SN.out z z' hz hb
  exact ⟨rfl,h2,(SC.out z' h2).1,(SC.out z' h2).2,hb⟩
 have D10:Hid (∀ z,SP z->Calls Tryz.prog 10 #[.agg #[v0,v1]] z fun ev z'=>ev=.returned (.bool BM)/\SP z'/\z'.cell? ⟨w.heap.size,0,none⟩=some v0/\z'.cell? ⟨w.heap.size,1,none⟩=some v1/\Below z.heap.size z z'):=by
  intro z hz
  refine (xmay_any (he.below (hK z hz)) (kx.below (hK z hz)) hcn BM hBM).mono ?_
  rintro _ z' ⟨rfl,hb⟩
  have h2:=SN.out z z' hz hb
  exact ⟨rfl,h2,(SC.out z' h2).1,(SC.out z' h2).2,hb⟩
 have D9:Hid (∀ z,SP z->Calls Tryz.prog 9 #[.agg #[v0,v1]] z fun ev z'=>ev=.returned (.bool BM)/\SP z'/\z'.cell? ⟨w.heap.size,0,none⟩=some v0/\z'.cell? ⟨w.heap.size,1,none⟩=some v1/\Below z.heap.size z z'):=by
  intro z hz
  refine (may_any (he.below (hK z hz)) (kx.below (hK z hz)) BM hBM).mono ?_
  rintro _ z' ⟨rfl,hb⟩
  have h2:=SN.out z z' hz hb
  exact ⟨rfl,h2,(SC.out z' h2).1,(SC.out z' h2).2,hb⟩
 have D8:Hid (∀ z,SP z->Calls Tryz.prog 8 #[] z fun ev z'=>ev=.returned (.bool true)/\SP z'/\z'.cell? ⟨w.heap.size,0,none⟩=some v0/\z'.cell? ⟨w.heap.size,1,none⟩=some v1/\Below z.heap.size z z'):=by
  intro z hz
  refine (told_any z (by obtain ⟨m,hm⟩:=he.ml;exact ⟨m,((SB.out z hz).cell (p:=⟨0,0,none⟩) hpos).trans hm⟩)).mono ?_
  rintro _ z' ⟨rfl,hb⟩
  have h2:=SN.out z z' hz hb
  exact ⟨rfl,h2,(SC.out z' h2).1,(SC.out z' h2).2,hb⟩
 have E0:SP (w.alloc (.cells #[v0,v1] 25)):=by rw [hSP];exact ⟨alloc_one _ _,Row.new w 25 [v0,v1]⟩
 have E7:=hid0 (D7.out _ E0)
 clear hSP he hcn hGA hBM h0 h1 kx hpos D9 hK
 subst e0 e1
 have t7:∀ z,SP z->True:=fun _ _=>trivial
 clear t7
 rcases hno with rfl|hno
 ·go_enter Tryz.func6,Tryz.ntmps6
  go_wp2_with (first|(go_at_call 7;refine E7.out.mono ?_;rintro _ z1 ⟨rfl,S1,k0,k1,-⟩)|(go_at_call 8;refine (D8.out _ S1).mono ?_;rintro _ z9 ⟨rfl,S9,-⟩))
  go_ret
  exact ⟨rfl,SB.out _ S9⟩
 cases GA with
 | true =>
  go_enter Tryz.func6,Tryz.ntmps6
  go_wp2_with (first|(go_at_call 7;refine E7.out.mono ?_;rintro _ z1 ⟨rfl,S1,k0,k1,-⟩)|(go_at_call 8;refine (D8.out _ S1).mono ?_;rintro _ z9 ⟨rfl,S9,-⟩))
  go_ret
  exact ⟨rfl,SB.out _ S9⟩
 | false =>
 rcases hno with rfl|hno
 ·go_enter Tryz.func6,Tryz.ntmps6
  go_wp2_with (first|(go_at_call 7;refine E7.out.mono ?_;rintro _ z1 ⟨rfl,S1,k0,k1,-⟩)|(go_at_call 10;refine (D10.out _ S1).mono ?_;rintro _ z2 ⟨rfl,S2,k2,k3,-⟩)|(go_at_call 8;refine (D8.out _ S2).mono ?_;rintro _ z9 ⟨rfl,S9,-⟩))
  go_ret
  exact ⟨rfl,SB.out _ S9⟩
 cases BM with
 | false =>
  go_enter Tryz.func6,Tryz.ntmps6
  go_wp2_with (first|(go_at_call 7;refine E7.out.mono ?_;rintro _ z1 ⟨rfl,S1,k0,k1,-⟩)|(go_at_call 10;refine (D10.out _ S1).mono ?_;rintro _ z2 ⟨rfl,S2,k2,k3,-⟩)|(go_at_call 8;refine (D8.out _ S2).mono ?_;rintro _ z9 ⟨rfl,S9,-⟩))
  go_ret
  exact ⟨rfl,SB.out _ S9⟩
 | true =>
 by_cases hz0:c.funcs.length=0
 ·have i0:((c.funcs.length:Int) == 0)=true:=by simpa using hz0
  clear hno
  generalize c.funcs.length=lf,c.structs.length=ls at *
  clear hz0
  go_enter Tryz.func6,Tryz.ntmps6
  go_wp2_with (first|(go_at_call 7;refine E7.out.mono ?_;rintro _ z1 ⟨rfl,S1,k0,k1,-⟩)|(go_at_call 10;refine (D10.out _ S1).mono ?_;rintro _ z2 ⟨rfl,S2,k2,k3,-⟩)|(go_at_call 8;refine (D8.out _ S2).mono ?_;rintro _ z9 ⟨rfl,S9,-⟩))
  go_ret
  exact ⟨rfl,SB.out _ S9⟩
 ·have hno:250<c.structs.length+c.funcs.length:=by omega
  have i0:((c.funcs.length:Int) == 0)=false:=by simpa using hz0
  have i1:IntKind.i64.wrap ((c.structs.length:Int)+(c.funcs.length:Int))=(c.structs.length:Int)+(c.funcs.length:Int):=by rw [IntKind.wrap_i64];omega
  have i2:(250:Int)<(c.structs.length:Int)+(c.funcs.length:Int):=by omega
  clear hno hz0
  generalize c.funcs.length=lf,c.structs.length=ls at *
  go_enter Tryz.func6,Tryz.ntmps6
  go_wp2_with (first|(go_at_call 7;refine E7.out.mono ?_;rintro _ z1 ⟨rfl,S1,k0,k1,-⟩)|(go_at_call 10;refine (D10.out _ S1).mono ?_;rintro _ z2 ⟨rfl,S2,k2,k3,-⟩)|(go_at_call 8;refine (D8.out _ S2).mono ?_;rintro _ z9 ⟨rfl,S9,-⟩))
  go_ret
  exact ⟨rfl,SB.out _ S9⟩

def oA4:Array Value:=#[.int .i64 1,.int .i64 0,.string ⟨#[]⟩,.slice none 0 0]
def oA15:Array Value:=#[.int .i64 1,.int .i64 1,.int .i64 0,.string ⟨#[]⟩,.slice none 0 0,.int .i64 0,.int .i64 0,.string ⟨#[]⟩,.slice none 0 0,.int .i64 0,.string ⟨#[]⟩,.slice none 0 0,.string ⟨#[]⟩,.slice none 0 0,.slice none 0 0]
theorem built_44:Tryz.prog.built 44 [(0,.int .i64 1)]=some oA4:=by kernel_rfl
theorem built_47:Tryz.prog.built 47 [(0,.int .i64 1),(1,.agg oA4)]=some oA15:=by kernel_rfl
theorem built_sp:Tryz.prog.built 49 [(0,.int .i64 10),(5,.bool true),(7,.agg oA15)]=some (spC 10 0 ⟨#[]⟩).toArray:=by kernel_rfl
theorem built_54:Tryz.prog.built 54 [(1,.string ⟨#[113]⟩)]=some (sxC (.slice none 0 0)).toArray:=by kernel_rfl
theorem Tryz.sizeA:(Tryz.prog.info? 40).map (·.size)=some 10:=by kernel_rfl
theorem Tryz.sizeB:(Tryz.prog.info? 49).map (·.size)=some (spC 10 0 ⟨#[]⟩).toArray.size:=by kernel_rfl
theorem Tryz.sizeC:(Tryz.prog.info? 54).map (·.size)=some (sxC (.slice none 0 0)).toArray.size:=by kernel_rfl
theorem one_B:(spC 10 0 ⟨#[]⟩).toArray.all (·.oneCell')=true:=by kernel_rfl
theorem one_C:(sxC (.slice none 0 0)).toArray.all (·.oneCell')=true:=by kernel_rfl
theorem Sou.one {w:World} {g t:Nat} {L:List Value} (r:Row w g t L):Sou w (.slice (some ⟨g,0,none⟩) 1 1) 1 L:=⟨_,_,rfl,fun h=>(by cases h),fun j u hu=>⟨g,0,rfl,by rw [Nat.zero_add,r.cell j];exact hu⟩⟩
theorem wpl_appS {ops:Array Oper} {rest:List Oper} {o:Oper} {a:Act} {Q:Exit->Act->World->Prop} {w:World} {B t e z bz n m:Nat} {Z:Value} {v u:Value} {xs news:List Value} (hgd:o.guard=none) (s x:Operand) (ho:o.op=.call { callee:=.builtin .append,args:=#[s,x],argTypes:=#[t,t] })
  (hu:Tryz.prog.underlying t=some (.slice e)) (hz:(Tryz.prog.info? e).map (fun i=>(i.zero,i.size,i.bytes))=some (some Z,z,bz)) (hZ:Z.cells.size=z) (h0:0<z) (hs:a.eval s=v) (hx:a.eval x=u)
  (hown:w.ownsRow B e z v n xs) (hB:B<=w.heap.size) (hsr:Sou w u m news) (hl:news.length=m * z) (h1:∀ x∈news,x.oneCell'=true) (hn:n+m<=100000) (hbz:bz<=1000)
  (k:∀ v' w',w'.ownsRow B e z v' (n+m) (xs ++ news)->Below B w w'->(∃ ao c,v'=.slice ao (n+m) c)->wpList Tryz.prog ops Q rest (a.put o.dst v') w'):wpList Tryz.prog ops Q (o :: rest) a w :=
 wpList_plain hgd fun _ hK=>wpo_appS s x ho hu hz hZ h0 hs hx hown hB hsr hl h1 hn hbz (fun v' w' h2 h3=>hK _ _ (k v' w' h2 (grown_le h3 hB (fun k e=>(hown.lt k e).1)) (own_slice h2)))
structure Pre (n:Nat) (K:Ctx) (w:World) (c:Crt) (x:Fnc):Prop where
 env:Env K w
 may:MayCrt n c
 grt:¬ GrtC n c
 cn:∀ f∈c.funcs,cnt n f.body<=4611686018427387904
 first:∃ h:0<c.funcs.length,c.funcs[0]=x
 few:c.structs.length+c.funcs.length<=250
 B:5<=K.B

structure Stp (n:Nat) (K:Ctx) (w:World) (c:Crt) (x:Fnc) (SP:World->Prop) (LS LF LB LP:List (List Value)) (b o m1:Nat) (p0:Option Addr) (m0:Nat) (t2:Option Addr) (m2 d2:Nat) (t3:Option Addr) (m3 d3:Nat) (lp:Option Addr) (lc:Nat) (pp:Option Addr) (pc:Nat) (bp:Option Addr) (bc:Nat):Prop where
 he:Env K w
 hB5:5<=K.B
 h250:c.structs.length+c.funcs.length<=250
 hf0:0<c.funcs.length
 hCw:K.C<=w.heap.size
 SN:Hid (∀ z z',SP z->Below z.heap.size z z'->SP z')
 SB:Hid (∀ z,SP z->Below w.heap.size w z)
 SR:Hid (∀ z,SP z->Row z w.heap.size 25 [.slice p0 c.structs.length m0,.slice (some ⟨b,o,none⟩) c.funcs.length m1])
 SM:Hid (∀ z,Below w.heap.size w z->Row z w.heap.size 25 [.slice p0 c.structs.length m0,.slice (some ⟨b,o,none⟩) c.funcs.length m1]->SP z)
 D10:Hid (∀ z,SP z->Calls Tryz.prog 10 #[.agg #[.slice p0 c.structs.length m0,.slice (some ⟨b,o,none⟩) c.funcs.length m1]] z fun ev z'=>ev=.returned (.bool true)/\SP z'/\z'.cell? ⟨w.heap.size,0,none⟩=some (.slice p0 c.structs.length m0)/\z'.cell? ⟨w.heap.size,1,none⟩=some (.slice (some ⟨b,o,none⟩) c.funcs.length m1)/\Below z.heap.size z z')
 D9:Hid (∀ z,SP z->Calls Tryz.prog 9 #[.agg #[.slice p0 c.structs.length m0,.slice (some ⟨b,o,none⟩) c.funcs.length m1]] z fun ev z'=>ev=.returned (.bool true)/\SP z'/\z'.cell? ⟨w.heap.size,0,none⟩=some (.slice p0 c.structs.length m0)/\z'.cell? ⟨w.heap.size,1,none⟩=some (.slice (some ⟨b,o,none⟩) c.funcs.length m1)/\Below z.heap.size z z')
 D8:Hid (∀ z,SP z->Calls Tryz.prog 8 #[] z fun ev z'=>ev=.returned (.bool true)/\SP z'/\z'.cell? ⟨w.heap.size,0,none⟩=some (.slice p0 c.structs.length m0)/\z'.cell? ⟨w.heap.size,1,none⟩=some (.slice (some ⟨b,o,none⟩) c.funcs.length m1)/\Below z.heap.size z z')
 E7:Hid (Calls Tryz.prog 7 #[.agg #[.slice p0 c.structs.length m0,.slice (some ⟨b,o,none⟩) c.funcs.length m1]] (w.alloc (.cells #[.slice p0 c.structs.length m0,.slice (some ⟨b,o,none⟩) c.funcs.length m1] 25)) fun ev z'=>ev=.returned (.bool false)/\SP z'/\z'.cell? ⟨w.heap.size,0,none⟩=some (.slice p0 c.structs.length m0)/\z'.cell? ⟨w.heap.size,1,none⟩=some (.slice (some ⟨b,o,none⟩) c.funcs.length m1)/\Below (w.alloc (.cells #[.slice p0 c.structs.length m0,.slice (some ⟨b,o,none⟩) c.funcs.length m1] 25)).heap.size (w.alloc (.cells #[.slice p0 c.structs.length m0,.slice (some ⟨b,o,none⟩) c.funcs.length m1] 25)) z')
 D17:Hid (∀ z,SP z->∀ g,Row z g 40 [.bool x.pub,.string (str x.name),.slice lp x.lives.length lc,.slice pp x.params.length pc,.int .i64 x.result.kind,.string (str x.result.name),.slice t2 m2 d2,.slice t3 m3 d3,.slice bp x.body.length bc,.int .i64 x.pos]->Calls Tryz.prog 17 #[.slice bp x.body.length bc] z fun ev z'=>ev=.returned (.int .i64 (cw n x.body))/\SP z'/\Row z' g 40 [.bool x.pub,.string (str x.name),.slice lp x.lives.length lc,.slice pp x.params.length pc,.int .i64 x.result.kind,.string (str x.result.name),.slice t2 m2 d2,.slice t3 m3 d3,.slice bp x.body.length bc,.int .i64 x.pos]/\Below z.heap.size z z')
 HR:Hid (∀ z,SP z->z.rangeAt b o [.bool x.pub,.string (str x.name),.slice lp x.lives.length lc,.slice pp x.params.length pc,.int .i64 x.result.kind,.string (str x.result.name),.slice t2 m2 d2,.slice t3 m3 d3,.slice bp x.body.length bc,.int .i64 x.pos])
 souB:Hid (∀ z,Below K.C w z->Sou z (.slice bp x.body.length bc) x.body.length LB.flatten)
 souP:Hid (∀ z,Below K.C w z->Sou z (.slice pp x.params.length pc) x.params.length LP.flatten)
 souS:Hid (∀ z,Below K.C w z->Sou z (.slice p0 c.structs.length m0) c.structs.length LS.flatten)
 souF:Hid (∀ z,Below K.C w z->Sou z (.slice (if m1=1 then some ⟨b,o,none⟩ else some ⟨b,o+10,none⟩) (c.funcs.length - 1) (m1 - 1)) (c.funcs.length - 1) (LF.drop 1).flatten)
 cB:Cel 32 (StAt n K w) LB x.body
 cP:Cel 6 (FldAt K w) LP x.params
 cS:Cel 5 (SctAt K w) LS c.structs
 cF:Cel 10 (FncAt n K w) LF c.funcs
 hnl:x.name.length<=K.B
 hli:Ar 2 40 (LfeAt K w) K w (.slice lp x.lives.length lc) x.lives
 hre:IsTy K w [.int .i64 x.result.kind,.string (str x.result.name),.slice t2 m2 d2,.slice t3 m3 d3] x.result
 hpa:Ar 6 96 (FldAt K w) K w (.slice pp x.params.length pc) x.params
 ho10:Hid (([.bool x.pub,.string (str x.name),.slice lp x.lives.length lc,.slice pp x.params.length pc,.int .i64 x.result.kind,.string (str x.result.name),.slice t2 m2 d2,.slice t3 m3 d3,.slice bp x.body.length bc,.int .i64 x.pos]:List Value).toArray.all (·.oneCell')=true)
 i1:IntKind.i64.wrap ((c.structs.length:Int)+(c.funcs.length:Int))=(c.structs.length:Int)+(c.funcs.length:Int)
 hlB:Hid (LB.flatten.length=x.body.length * 32)
 hlP:Hid (LP.flatten.length=x.params.length * 6)
 hlS:Hid (LS.flatten.length=c.structs.length * 5)
 hlF:Hid ((LF.drop 1).flatten.length=(c.funcs.length - 1) * 10)
set_option maxHeartbeats 8000000 in
theorem sp_setup {n:Nat} {K:Ctx} {w:World} {c:Crt} {x:Fnc} (P:Pre n K w c x) {cs:List Value} (hx:CrtAt n K w cs c):∃ SP LS LF LB LP b o m1 p0 m0 t2 m2 d2 t3 m3 d3 lp lc pp pc bp bc,cs=[.slice p0 c.structs.length m0,.slice (some ⟨b,o,none⟩) c.funcs.length m1]/\Stp n K w c x SP LS LF LB LP b o m1 p0 m0 t2 m2 d2 t3 m3 d3 lp lc pp pc bp bc:=by
 have he:=P.env
 have hB5:=P.B
 have hcn:=P.cn
 have h250:=P.few
 obtain ⟨hf0,hfx⟩:=P.first
 have hGA:false=true↔GrtC n c:=⟨fun h=>(by cases h),fun h=>absurd h P.grt⟩
 have hBM:true=true↔MayCrt n c:=⟨fun _=>P.may,fun _=>rfl⟩
 have kx:=hx
 obtain ⟨v0,v1,rfl,h0,h1⟩:=hx
 obtain ⟨p0,m0,e0⟩:=h0.form
 obtain ⟨p1,m1,e1⟩:=h1.form
 have hpos:0<w.heap.size:=Nat.lt_of_lt_of_le he.z he.C
 obtain ⟨SP,hSP⟩:∃ SP:World->Prop,SP=fun z=>Below w.heap.size w z/\Row z w.heap.size 25 [v0,v1]:=⟨_,rfl⟩
 have SC:Hid (∀ z,SP z->z.cell? ⟨w.heap.size,0,none⟩=some v0/\z.cell? ⟨w.heap.size,1,none⟩=some v1):=by
  intro z hz
  rw [hSP] at hz
  exact ⟨hz.2.cell 0,hz.2.cell 1⟩
 have SN:Hid (∀ z z',SP z->Below z.heap.size z z'->SP z'):=by
  intro z z' hz hb
  rw [hSP] at hz ⊢
  exact ⟨hz.1.trans (below_le hb hz.1.size),hz.2.below hb hz.2.lt⟩
 have SB:Hid (∀ z,SP z->Below w.heap.size w z):=by
  intro z hz
  rw [hSP] at hz
  exact hz.1
 have SR:Hid (∀ z,SP z->Row z w.heap.size 25 [v0,v1]):=by
  intro z hz
  rw [hSP] at hz
  exact hz.2
 have SM:Hid (∀ z,Below w.heap.size w z->Row z w.heap.size 25 [v0,v1]->SP z):=by
  intro z h1 h2
  rw [hSP]
  exact ⟨h1,h2⟩
 have hK:∀ z,SP z->Below K.C w z:=fun z hz=>below_le (SB.out z hz) he.C
 have D7:Hid (∀ z,SP z->Calls Tryz.prog 7 #[.agg #[v0,v1]] z fun ev z'=>ev=.returned (.bool false)/\SP z'/\z'.cell? ⟨w.heap.size,0,none⟩=some v0/\z'.cell? ⟨w.heap.size,1,none⟩=some v1/\Below z.heap.size z z'):=by
  intro z hz
  refine (great_any (Nat.le_trans he.C (SB.out z hz).size) (kx.below (hK z hz)) false hGA).mono ?_
  rintro _ z' ⟨rfl,hb⟩
  have h2:=SN.out z z' hz hb
  exact ⟨rfl,h2,(SC.out z' h2).1,(SC.out z' h2).2,hb⟩
 have D10:Hid (∀ z,SP z->Calls Tryz.prog 10 #[.agg #[v0,v1]] z fun ev z'=>ev=.returned (.bool true)/\SP z'/\z'.cell? ⟨w.heap.size,0,none⟩=some v0/\z'.cell? ⟨w.heap.size,1,none⟩=some v1/\Below z.heap.size z z'):=by
  intro z hz
  refine (xmay_any (he.below (hK z hz)) (kx.below (hK z hz)) hcn true hBM).mono ?_
  rintro _ z' ⟨rfl,hb⟩
  have h2:=SN.out z z' hz hb
  exact ⟨rfl,h2,(SC.out z' h2).1,(SC.out z' h2).2,hb⟩
 have D9:Hid (∀ z,SP z->Calls Tryz.prog 9 #[.agg #[v0,v1]] z fun ev z'=>ev=.returned (.bool true)/\SP z'/\z'.cell? ⟨w.heap.size,0,none⟩=some v0/\z'.cell? ⟨w.heap.size,1,none⟩=some v1/\Below z.heap.size z z'):=by
  intro z hz
  refine (may_any (he.below (hK z hz)) (kx.below (hK z hz)) true hBM).mono ?_
  rintro _ z' ⟨rfl,hb⟩
  have h2:=SN.out z z' hz hb
  exact ⟨rfl,h2,(SC.out z' h2).1,(SC.out z' h2).2,hb⟩
 have D8:Hid (∀ z,SP z->Calls Tryz.prog 8 #[] z fun ev z'=>ev=.returned (.bool true)/\SP z'/\z'.cell? ⟨w.heap.size,0,none⟩=some v0/\z'.cell? ⟨w.heap.size,1,none⟩=some v1/\Below z.heap.size z z'):=by
  intro z hz
  refine (told_any z (by obtain ⟨m,hm⟩:=he.ml;exact ⟨m,((SB.out z hz).cell (p:=⟨0,0,none⟩) hpos).trans hm⟩)).mono ?_
  rintro _ z' ⟨rfl,hb⟩
  have h2:=SN.out z z' hz hb
  exact ⟨rfl,h2,(SC.out z' h2).1,(SC.out z' h2).2,hb⟩
 have E0:SP (w.alloc (.cells #[v0,v1] 25)):=by rw [hSP];exact ⟨alloc_one _ _,Row.new w 25 [v0,v1]⟩
 have E7:=hid0 (D7.out _ E0)
 obtain ⟨LS,cS,aS,capS,eS,hcapS,hnS,hsS⟩:=h0.cel (by decide) (fun _ _ h=>h.one)
 obtain ⟨LF,cF,aF,capF,eF,hcapF,hnF,hsF⟩:=h1.cel (by decide) (fun _ _ h=>h.one)
 obtain ⟨b,o,hbo0⟩:∃ b o,aF=some ⟨b,o,none⟩/\b<K.C/\∃ cs,cs.length=10/\w.rangeAt b o cs/\FncAt n K w cs x:=by
  obtain ⟨ao,cap,e',_,_,hA⟩:=h1.shape
  obtain ⟨b,o,e2,hbC,cs,hl,hcs,hp⟩:=hA 0 hf0
  rw [eF] at e'
  injection e' with e3
  refine ⟨b,o,e3.trans e2,hbC,cs,hl,fun j u hj=>?_,by rw [← hfx];exact hp⟩
  have hj':j<10:=by rw [← hl];exact (List.getElem?_eq_some_iff.1 hj).1
  have:=hcs j hj'
  rw [Nat.zero_mul,Nat.add_zero] at this
  rw [this];exact hj
 obtain ⟨rfl,hbC,cs10,hl10,hr10,hx10⟩:=hbo0
 have hx10':=hx10
 obtain ⟨w2,w3,ts,w8,rfl,hnl,hli,hpa,hre,hbo⟩:=hx10
 obtain ⟨t2,m2,d2,t3,m3,d3,rfl⟩:=hre.open
 obtain ⟨lp,lc,rfl⟩:=hli.form
 obtain ⟨pp,pc,rfl⟩:=hpa.form
 obtain ⟨bp,bc,rfl⟩:=hbo.form
 obtain ⟨LB,cB,aB,capB,eB,hcapB,hnB,hsB⟩:=hbo.cel (by decide) (fun _ _ h=>h.one)
 obtain ⟨LP,cP,aP,capP,eP,hcapP,hnP,hsP⟩:=hpa.cel (by decide) (fun _ _ h=>h.one)
 injection eB with eB1 _ eB2
 subst eB1 eB2
 injection eP with eP1 _ eP2
 subst eP1 eP2
 obtain rfl:=eS
 obtain rfl:=eF
 have hCw:=he.C
 have D17:Hid (∀ z,SP z->∀ g,Row z g 40 [.bool x.pub,.string (str x.name),.slice lp x.lives.length lc,.slice pp x.params.length pc,.int .i64 x.result.kind,.string (str x.result.name),.slice t2 m2 d2,.slice t3 m3 d3,.slice bp x.body.length bc,.int .i64 x.pos]->Calls Tryz.prog 17 #[.slice bp x.body.length bc] z fun ev z'=>ev=.returned (.int .i64 (cw n x.body))/\SP z'/\Row z' g 40 [.bool x.pub,.string (str x.name),.slice lp x.lives.length lc,.slice pp x.params.length pc,.int .i64 x.result.kind,.string (str x.result.name),.slice t2 m2 d2,.slice t3 m3 d3,.slice bp x.body.length bc,.int .i64 x.pos]/\Below z.heap.size z z'):=by
  intro z hz g hr
  refine (xcount_any n (K:=K) (hbo.mono (hK z hz) fun _ _ _ h=>h.below (hK z hz))).mono ?_
  rintro _ z' ⟨rfl,m,rfl⟩
  exact ⟨rfl,SN.out z _ hz (Below.drewN _ _ _),hr.drewN,Below.drewN _ _ _⟩
 have HR:Hid (∀ z,SP z->z.rangeAt b o [.bool x.pub,.string (str x.name),.slice lp x.lives.length lc,.slice pp x.params.length pc,.int .i64 x.result.kind,.string (str x.result.name),.slice t2 m2 d2,.slice t3 m3 d3,.slice bp x.body.length bc,.int .i64 x.pos]):=fun z hz j u hj=>((hK z hz).cell (p:=⟨b,o+j,none⟩) hbC).trans (hr10 j u hj)
 have souB:Hid (∀ z,Below K.C w z->Sou z (.slice bp x.body.length bc) x.body.length LB.flatten):=fun z hz=>⟨_,_,rfl,hnB,fun j u hu=>by
  obtain ⟨b,o,e,hb,hc⟩:=hsB j u hu
  exact ⟨b,o,e,(hz.cell (p:=⟨b,o+j,none⟩) hb).trans hc⟩⟩
 have souP:Hid (∀ z,Below K.C w z->Sou z (.slice pp x.params.length pc) x.params.length LP.flatten):=fun z hz=>⟨_,_,rfl,hnP,fun j u hu=>by
  obtain ⟨b,o,e,hb,hc⟩:=hsP j u hu
  exact ⟨b,o,e,(hz.cell (p:=⟨b,o+j,none⟩) hb).trans hc⟩⟩
 have souS:Hid (∀ z,Below K.C w z->Sou z (.slice aS c.structs.length capS) c.structs.length LS.flatten):=fun z hz=>⟨_,_,rfl,hnS,fun j u hu=>by
  obtain ⟨b,o,e,hb,hc⟩:=hsS j u hu
  exact ⟨b,o,e,(hz.cell (p:=⟨b,o+j,none⟩) hb).trans hc⟩⟩
 have souF:Hid (∀ z,Below K.C w z->Sou z (.slice (if capF=1 then some ⟨b,o,none⟩ else some ⟨b,o+10,none⟩) (c.funcs.length - 1) (capF - 1)) (c.funcs.length - 1) (LF.drop 1).flatten):=by
  intro z hz
  have hlenF:=cF.len
  have hfl:(LF.drop 1).flatten.length=(c.funcs.length - 1) * 10:=by rw [flat_len (fun x hx=>cF.all x (List.mem_of_mem_drop hx)),List.length_drop,hlenF]
  by_cases h1:capF=1
  ·rw [if_pos h1]
   refine ⟨_,_,rfl,fun h=>(by cases h),fun j u hu=>?_⟩
   have:=(List.getElem?_eq_some_iff.1 hu).1
   rw [hfl] at this
   omega
  ·rw [if_neg h1]
   refine ⟨_,_,rfl,fun h=>(by cases h),fun j u hu=>?_⟩
   have e1:LF.flatten[10+j]?=some u:=by
    have hL:LF=LF.head (by intro e;rw [e] at hlenF;simp at hlenF;omega) :: LF.drop 1:=by
     cases LF with
     | nil=>simp at hlenF;omega
     | cons a l=>simp
    have hh:(LF.head (by intro e;rw [e] at hlenF;simp at hlenF;omega)).length=10:=cF.all _ (List.head_mem _)
    rw [hL,List.flatten_cons,List.getElem?_append_right (by omega),hh,show 10+j - 10=j by omega]
    exact hu
   obtain ⟨b',o',e,hb,hc⟩:=hsF _ u e1
   cases e
   refine ⟨b,o+10,rfl,?_⟩
   rw [Nat.add_assoc]
   exact (hz.cell (p:=⟨b,o+(10+j),none⟩) hb).trans hc
 have i1:IntKind.i64.wrap ((c.structs.length:Int)+(c.funcs.length:Int))=(c.structs.length:Int)+(c.funcs.length:Int):=by rw [IntKind.wrap_i64];omega
 have ho10:=hid0 (one_mem hx10'.one)
 have hlB:Hid (LB.flatten.length=x.body.length * 32):=by show _=_;rw [flat_len cB.all,cB.len]
 have hlP:Hid (LP.flatten.length=x.params.length * 6):=by show _=_;rw [flat_len cP.all,cP.len]
 have hlS:Hid (LS.flatten.length=c.structs.length * 5):=by show _=_;rw [flat_len cS.all,cS.len]
 have hlF:Hid ((LF.drop 1).flatten.length=(c.funcs.length - 1) * 10):=by show _=_;rw [flat_len (fun x hx=>cF.all x (List.mem_of_mem_drop hx)),List.length_drop,cF.len]
 exact ⟨SP,LS,LF,LB,LP,b,o,_,_,_,t2,m2,d2,t3,m3,d3,lp,lc,pp,pc,bp,bc,rfl,he,hB5,h250,hf0,hCw,SN,SB,SR,SM,D10,D9,D8,E7,D17,HR,souB,souP,souS,souF,cB,cP,cS,cF,hnl,hli,hre,hpa,ho10,i1,hlB,hlP,hlS,hlF⟩
abbrev zx (x:Fnc) (t2:Option Addr) (m2 d2:Nat) (t3:Option Addr) (m3 d3:Nat) (lp:Option Addr) (lc:Nat) (nm v3 v8:Value):List Value:=[.bool x.pub,nm,.slice lp x.lives.length lc,v3,.int .i64 x.result.kind,.string (str x.result.name),.slice t2 m2 d2,.slice t3 m3 d3,v8,.int .i64 x.pos]
theorem fin_all {n:Nat} {K:Ctx} {w:World} {c:Crt} {x:Fnc} {SP:World->Prop} {LS LF LB LP:List (List Value)} {b o m1:Nat} {p0:Option Addr} {m0:Nat} {t2:Option Addr} {m2 d2:Nat} {t3:Option Addr} {m3 d3:Nat} {lp:Option Addr} {lc:Nat} {pp:Option Addr} {pc:Nat} {bp:Option Addr} {bc:Nat} (T:Stp n K w c x SP LS LF LB LP b o m1 p0 m0 t2 m2 d2 t3 m3 d3 lp lc pp pc bp bc) (hbd:x.body.length<=1900)
  {z:World} {B1 B2 B3:Nat} {va vb v8 v3 vx:Value} {kS xS:Int} {nmS nm:Bs} {fs ps:List Fld} (hz:Below K.C w z) (hnS:nmS.length<=5) (hnm:nm.length<=K.B) (hfs:Ar 6 96 (FldAt (K.up z.heap.size) z) (K.up z.heap.size) z vx fs) (hps:Ar 6 96 (FldAt (K.up z.heap.size) z) (K.up z.heap.size) z v3 ps)
  (hbad:¬ MaySct (spX fs)∨¬ MayFnc (n+1) { x with name:=nm,params:=ps,body:=x.body ++ [spS kS xS nmS] })
  (o8:z.ownsRow B3 49 32 v8 (x.body.length+1) (LB.flatten ++ spC kS xS (str nmS))) (oS:z.ownsRow B1 54 5 va (c.structs.length+1) (LS.flatten ++ sxC vx)) (oF:z.ownsRow B2 40 10 vb c.funcs.length (zx x t2 m2 d2 t3 m3 d3 lp lc (.string (str nm)) v3 v8 ++ (LF.drop 1).flatten)) :
  Calls Tryz.prog 9 #[.agg #[va,vb]] z fun ev z'=>ev=.returned (.bool false)/\Below z.heap.size z z':=by
 have hB5:=T.hB5
 have h250:=T.h250
 have hf0:=T.hf0
 have hfl:c.funcs.length=1+(c.funcs.length - 1):=by omega
 rw [hfl] at oF
 have hS1:=spC_at (K.up z.heap.size) z kS xS nmS (show _<=K.B by omega)
 have hb1:=body_fin (n:=n) hz T.he.C T.cB hS1 (spC_one _ _ _) (by omega) o8
 have hF1:=fnc_fin (n:=n) hz T.he.C (f:=x) (nm:=nm) hnm T.hli T.hre hps hb1
 exact fin_may T.he hz T.cS T.cF (sxC_at (K:=K.up z.heap.size) (w:=z) (fs:=fs) hB5 hfs) hF1 (by omega) (by omega) hf0 oS oF (not_crt hbad)
end Go.Proofs.YtjenmmkamhplkaaGreat
