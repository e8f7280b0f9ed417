/- Part of the proof. -/
import Derived.Test.YtjenmmkamhplkaaGreatJqspLas3
import Derived.Test.YtjenmmkamhplkaaGreatJqspSmf3
import Derived.Great.BuildSlice
namespace Go.Proofs.YtjenmmkamhplkaaGreat
open Go.RowKit
def letC:List Value:=[.int .i64 1,.int .i64 0,.bool true,.string ⟨#[120]⟩,.int .i64 1,.string ⟨#[]⟩,.slice none 0 0,.slice none 0 0,.bool false,.string ⟨#[]⟩,.slice none 0 0,.int .i64 0,.int .i64 0,.int .i64 0,.string ⟨#[]⟩,.slice none 0 0,.int .i64 0,.int .i64 0,.string ⟨#[]⟩,.slice none 0 0,.int .i64 0,.string ⟨#[]⟩,.slice none 0 0,.string ⟨#[]⟩,.slice none 0 0,.slice none 0 0,.int .i64 0,.int .i64 0,.string ⟨#[]⟩,.slice none 0 0,.slice none 0 0,.slice none 0 0]
def badC:List Value:=[.int .i64 1,.int .i64 0,.bool true,.string ⟨#[120]⟩,.int .i64 0,.string ⟨#[]⟩,.slice none 0 0,.slice none 0 0,.bool false,.string ⟨#[]⟩,.slice none 0 0,.int .i64 0,.int .i64 0,.int .i64 0,.string ⟨#[]⟩,.slice none 0 0,.int .i64 0,.int .i64 0,.string ⟨#[]⟩,.slice none 0 0,.int .i64 0,.string ⟨#[]⟩,.slice none 0 0,.string ⟨#[]⟩,.slice none 0 0,.slice none 0 0,.int .i64 0,.int .i64 0,.string ⟨#[]⟩,.slice none 0 0,.slice none 0 0,.slice none 0 0]
def parC:List Value:=[.bool false,.string ⟨#[112]⟩,.int .i64 2,.string ⟨#[]⟩,.slice none 0 0,.slice none 0 0]
def fncC (p b:Nat):List Value:=[.bool false,.string ⟨#[102]⟩,.slice none 0 0,.slice (some ⟨p,0,none⟩) 1 1,.int .i64 0,.string ⟨#[]⟩,.slice none 0 0,.slice none 0 0,.slice (some ⟨b,0,none⟩) 1 1,.int .i64 0]
def letS:St:=⟨1,0,true,[120],⟨1,[],[],[]⟩,false,Pl.zero,Va.zero,Opr.zero,[],[]⟩
def badS:St:=⟨1,0,true,[120],Ty.zero,false,Pl.zero,Va.zero,Opr.zero,[],[]⟩
def parF:Fld:=⟨false,[112],⟨2,[],[],[]⟩⟩
def fncF (s:St):Fnc:=⟨false,[102],[],[parF],Ty.zero,[s],0⟩
structure Few (w W:World) (C gp gl gf gg gb:Nat):Prop where
 below:Below w.heap.size w W
 size:C<=W.heap.size
 hp:gp<C
 hl:gl<C
 hb:gb<C
 pos:w.heap.size<=C
 par:Row W gp 51 parC
 lt:Row W gl 49 letC
 fn:Row W gf 40 (fncC gp gl)
 gn:Row W gg 40 (fncC gp gb)
 bd:Row W gb 49 badC
theorem Few.next {w W W':World} {C gp gl gf gg gb:Nat} (h:Few w W C gp gl gf gg gb) (hb:Below W.heap.size W W'):Few w W' C gp gl gf gg gb :=
 ⟨h.below.trans (below_le hb h.below.size),Nat.le_trans h.size hb.size,h.hp,h.hl,h.hb,h.pos,h.par.below hb h.par.lt,h.lt.below hb h.lt.lt,h.fn.below hb h.fn.lt,h.gn.below hb h.gn.lt,h.bd.below hb h.bd.lt⟩
theorem let_at (n:Nat) (K:Ctx) (hB:1<=K.B) (w:World):StAt (n+1) K w letC letS :=
 ⟨tyCells 1,plCells,vaCells 0,oprCells,_,_,rfl,hB,kind_at K w 1,pl_zero K w,va_zero K w 0,opr_zero K w,nil_ar,nil_ar⟩
theorem bad_at (n:Nat) (K:Ctx) (hB:1<=K.B) (w:World):StAt (n+1) K w badC badS :=
 ⟨tyCells 0,plCells,vaCells 0,oprCells,_,_,rfl,hB,kind_at K w 0,pl_zero K w,va_zero K w 0,opr_zero K w,nil_ar,nil_ar⟩
theorem par_at (K:Ctx) (hB:1<=K.B) (w:World):FldAt K w parC parF:=⟨tyCells 2,rfl,hB,kind_at K w 2⟩
theorem one_ar {α:Type} {z bz g:Nat} {P:List Value->α->Prop} {K:Ctx} {w:World} {cs:List Value} {x:α} {t:Nat} (hr:Row w g t cs) (hz:cs.length=z) (hb:bz<=1000) (hg:g<K.C) (hp:P cs x):Ar z bz P K w (.slice (some ⟨g,0,none⟩) 1 1) [x]:=by
 refine ⟨some ⟨g,0,none⟩,1,rfl,Nat.le_refl _,by simp;omega,fun i hi=>?_⟩
 obtain rfl:i=0:=by simp at hi;omega
 refine ⟨g,0,rfl,hg,cs,hz,fun j _=>?_,hp⟩
 rw [Nat.zero_mul,Nat.add_zero,Nat.zero_add]
 exact hr.cell j
theorem fnc_at (n:Nat) (K:Ctx) (hB:1<=K.B) {w:World} {p b:Nat} {cs:List Value} {s:St} (hp:Row w p 51 parC) (hb:Row w b 49 cs) (hpC:p<K.C) (hbC:b<K.C) (hs:StAt (n+1) K w cs s):FncAt (n+1) K w (fncC p b) (fncF s) :=
 ⟨_,_,tyCells 0,_,rfl,hB,nil_ar,one_ar hp rfl (by decide) hpC (par_at K hB w),kind_at K w 0,one_ar hb hs.len (by decide) hbC hs⟩
theorem may_fn (n:Nat):MayFnc (n+1) (fncF letS):=by
 refine ⟨by decide,⟨by simp [fncF],by simp [fncF]⟩,⟨by simp [fncF],?_⟩,.inl rfl,?_,?_⟩
 ·intro p hp
  simp [fncF] at hp
  subst hp
  exact ⟨by decide,.inl ⟨.inr rfl,rfl,rfl,rfl⟩⟩
 ·intro s hs
  simp [fncF] at hs
  subst hs
  exact .inl ⟨rfl,by decide,.inl ⟨.inl rfl,rfl,rfl,rfl⟩,fun h=>(by cases h),rfl⟩
 ·simp [fncF,cnt,inner,letS]
theorem may_gn (n:Nat):¬ MayFnc (n+1) (fncF badS):=by
 rintro ⟨_,_,_,_,hb,_⟩
 have h:=hb badS (by simp [fncF])
 rw [ok_let rfl] at h
 exact mayTy_none (n:=63) (by decide) h.2.1
theorem names_fn (n:Nat):namesF (n+1) (fncF letS)=[[112],[120]]:=by
 simp [namesF,fncF,letS,parF,ord,letN]

theorem build_as {P:Program} {ops:Array Oper} {rest:List Oper} {o:Oper} {a:Act} {w:World} {Q:Exit->Act->World->Prop} (hgd:o.guard=none) (t:TypeId) (parts:Array (Nat × Operand)) (ho:o.op=.build t parts)
  (cells:Array Value) (vs:List (Nat × Value)) (hv:(parts.map fun (i,x)=>(i,a.eval x)).toList=vs) (hb:P.built t vs=some cells) (h:wpList P ops Q rest (a.put o.dst (.agg cells)) w):wpList P ops Q (o :: rest) a w:=by
 refine wpList_plain hgd fun _ hK=>wp_build t parts ho (by rw [hv,hb];rfl) (by rw [hv,hb];exact hK _ _ h)
theorem store_newL {P:Program} {ops:Array Oper} {rest:List Oper} {o:Oper} {a:Act} {w:World} {Q:Exit->Act->World->Prop} (hgd:o.guard=none) (ty:TypeId) (x y:Operand) (ho:o.op=.store ty x y)
  (cs:List Value) (old:Array Value) (t:TypeId) (hx:a.eval x=.pointer (some ⟨w.heap.size,0,none⟩)) (hy:a.eval y=.agg cs.toArray) (hi:(P.info? ty).map (·.size)=some cs.toArray.size)
  (hold:old.size=cs.toArray.size) (h1:cs.toArray.all (·.oneCell')=true)
  (h:∀ w',Row w' w.heap.size t cs->Below w.heap.size w w'->wpList P ops Q rest (a.put o.dst undef) w'):wpList P ops Q (o :: rest) a (w.alloc (.cells old t)) :=
 store_new hgd ty x y ho cs.toArray old t hx hy hi hold h1 (h _ (Row.new w t cs) (alloc_one _ _))
theorem Tryz.info49z:(Tryz.prog.info? 49).map (fun i=>(i.zero,i.size,i.bytes))=some (some (.agg (stCells 0 0).toArray),32,496):=by kernel_rfl
theorem store_midL {P:Program} {ops:Array Oper} {rest:List Oper} {o:Oper} {a:Act} {w:World} {Q:Exit->Act->World->Prop} (hgd:o.guard=none) (ty:TypeId) (x y:Operand) (ho:o.op=.store ty x y)
  (g t off:Nat) (A old cs R:List Value) (hr:Row w g t (A ++ (old ++ R))) (hA:A.length=off) (hl:old.length=cs.length) (hx:a.eval x=.pointer (some ⟨g,off,none⟩)) (hy:a.eval y=.agg cs.toArray) (hi:(P.info? ty).map (·.size)=some cs.toArray.size)
  (h1:cs.toArray.all (·.oneCell')=true)
  (h:∀ w',Row w' g t (A ++ (cs ++ R))->Stay (fun k=>k=g) w w'->wpList P ops Q rest (a.put o.dst undef) w'):wpList P ops Q (o :: rest) a w :=
 wpList_store_mid hgd ty x y ho g off cs.toArray hx hy (hr.there off _ (by simp [hA,hl])) hi h1 (h _ (by simpa using Row.setCells cs old A R w off hr hA hl) (stay_setCells _ _ _ _ (Stay.refl _ _) (fun _=>rfl)))
theorem built_let:Tryz.prog.built 49 [(0,.int .i64 1),(2,.bool true),(3,.string ⟨#[120]⟩),(4,.agg #[.int .i64 1,.string ⟨#[]⟩,.slice none 0 0,.slice none 0 0])]=some letC.toArray:=by kernel_rfl

theorem Tryz.info51z:(Tryz.prog.info? 51).map (fun i=>(i.zero,i.size,i.bytes))=some (some (.agg (Value.bool false :: .string (str []) :: tyCells 0).toArray),6,96):=by kernel_rfl
theorem bsliceL {ops:Array Oper} {rest:List Oper} {o:Oper} {a:Act} {w:World} {Q:Exit->Act->World->Prop} (hgd:o.guard=none) (ty el sz bz:Nat) (Z:List Value) (x:Operand) (ho:o.op=.buildSlice ty 1 #[(0,x)])
  (hu:Tryz.prog.underlying ty=some (.slice el)) (hz:(Tryz.prog.info? el).map (fun i=>(i.zero,i.size,i.bytes))=some (some (.agg Z.toArray),sz,bz)) (h1:0<sz) (h2:sz<=1000)
  (cs:List Value) (hl:cs.length=sz) (hx:a.eval x=.agg cs.toArray)
  (k:∀ w',Row w' w.heap.size el cs->Below w.heap.size w w'->w.heap.size<w'.heap.size->wpList Tryz.prog ops Q rest (a.put o.dst (.slice (some ⟨w.heap.size,0,none⟩) 1 1)) w'):wpList Tryz.prog ops Q (o :: rest) a w:=by
 obtain ⟨i0,hi,hz0,hz1,hz2⟩:=info_parts hz
 refine wpList_plain hgd fun _ hK=>wp_buildSlice ty el 1 _ ho cs.toArray i0 (.agg Z.toArray) hu hi hz0 (by rw [hz1];omega) (by rw [hz1];omega) ?_ (hK _ _ (k _ (Row.new w el cs) (alloc_one _ _) (by rw [size_alloc];omega)))
 have hw:=Go.Great.fill_whole (s:=sz) h1 [.agg cs.toArray] ((Array.range (1 * sz)).map ((Value.agg Z.toArray).cells[· % (Value.agg Z.toArray).cells.size]!)) (by simp [Value.cells,hl]) (by simp)
 rw [hz1]
 simp only [List.map_toArray,List.map_cons,List.map_nil,hx]
 simp only [List.zipIdx_cons,List.zipIdx_nil,List.map_cons,List.map_nil] at hw
 refine Eq.trans hw ?_
 simp [Value.cells]
theorem Tryz.size49:(Tryz.prog.info? 49).map (·.size)=some letC.toArray.size:=by kernel_rfl
theorem Tryz.size40 (p b:Nat):(Tryz.prog.info? 40).map (·.size)=some (fncC p b).toArray.size:=by kernel_rfl
theorem Tryz.size31:(Tryz.prog.info? 31).map (·.size)=some (tyCells 0).toArray.size:=by kernel_rfl
theorem one_letC:letC.toArray.all (·.oneCell')=true:=by kernel_rfl
theorem one_tyC:(tyCells 0).toArray.all (·.oneCell')=true:=by kernel_rfl
theorem one_fncC (p b:Nat):(fncC p b).toArray.all (·.oneCell')=true:=by kernel_rfl
theorem bad_cells:letC.take 4 ++ (tyCells 0 ++ letC.drop 8)=badC:=by rfl
theorem strs_of_own {w:World} {base:Nat} {v:Value} {l:List Bs} {K:Ctx} (hK:w.heap.size<=K.C) (hB:∀ s∈l,s.length<=K.B) (h:w.ownsRow base 9 1 v l.length (strs l)):Ar 1 0 (TxAt K) K w v l:=by
 obtain ⟨hlen,h⟩:=h
 rcases h with ⟨rfl,h0⟩|⟨g,cap,cur,rfl,hg,hh,h1,h2,h3,h4⟩
 ·have:l=[]:=List.length_eq_zero_iff.1 h0
  subst this
  exact nil_ar
 ·have hR:Row w g 9 cur.toList:=⟨by simpa using hh⟩
  refine ⟨some ⟨g,0,none⟩,cap,rfl,h1,by omega,fun i hi=>?_⟩
  refine ⟨g,0,rfl,Nat.lt_of_lt_of_le hR.lt hK,[.string (str l[i])],rfl,fun j hj=>?_,rfl,hB _ (List.getElem_mem hi)⟩
  obtain rfl:j=0:=by omega
  rw [show (0+i * 1+0)=i by omega,hR.cell i]
  have h5:(cur.toList.take (l.length * 1))[i]?=(strs l)[i]?:=by rw [h4]
  rw [List.getElem?_take_of_lt (by omega)] at h5
  rw [h5]
  simp [strs,hi]
set_option maxHeartbeats 4000000 in
theorem texts_at {bz bz2:Nat} {K:Ctx} {w:World} {va vb:Value} {la lb:List Bs} (ha:Ar 1 bz (TxAt K) K w va la) (hb:Ar 1 bz2 (TxAt K) K w vb lb) (hl9:la.length<=9223372036854775807) (B:Bool) (hB:B=true↔la=lb) :
  Calls Tryz.prog 20 #[va,vb] w fun ev w'=>ev=.returned (.bool B)/\∃ m,w'=w.drewN m:=by
 obtain ⟨aoA,capA,rfl,hcA,hbA,hA⟩:=ha.shape
 obtain ⟨aoB,capB,rfl,hcB,hbB,hBB⟩:=hb.shape
 by_cases hlen:la.length=lb.length
 ·have b1:((la.length:Int) != (lb.length:Int))=false:=by simp;omega
  have HA:Hid (∀ i (h:i<la.length),∃ b o,aoA=some ⟨b,o,none⟩/\w.cell? ⟨b,o+i,none⟩=some (.string (str la[i]))):=by
   intro i h
   obtain ⟨b,o,e,_,cs,hl,hc,hx⟩:=hA i h
   have:=hc 0 (by omega)
   rw [hx.1] at this
   exact ⟨b,o,e,by simpa using this⟩
  have HBB:Hid (∀ i (h:i<lb.length),∃ b o,aoB=some ⟨b,o,none⟩/\w.cell? ⟨b,o+i,none⟩=some (.string (str lb[i]))):=by
   intro i h
   obtain ⟨b,o,e,_,cs,hl,hc,hx⟩:=hBB i h
   have:=hc 0 (by omega)
   rw [hx.1] at this
   exact ⟨b,o,e,by simpa using this⟩
  have HB:Hid (B=true↔la=lb):=hB
  have HL:Hid (la.length=lb.length):=hlen
  clear hA hBB hB ha hb hbA hbB hlen
  go_enter Tryz.func20,Tryz.ntmps20
  go_wp2_with fail
  go_loopw [5] (fun i wr=>∃ k:Nat,k<=la.length/\i=.int .i64 k/\(∀ j (ha:j<la.length) (hb:j<lb.length),j<k->la[j]=lb[j])/\∃ m,wr=w.drewN m) (fun i _=>la.length - (intOf i).toNat)
  case atStart=>exact ⟨0,by omega,rfl,fun j _ _ h=>by omega,0,rfl⟩
  case round =>
   obtain ⟨k,hk,rfl,hj,m,rfl⟩:=hrel
   have HJ:=hid0 hj
   clear hj
   by_cases h3:k<la.length
   ·have h4:k<lb.length:=by rw [← HL.out];exact h3
    obtain ⟨b,o,e,c1⟩:=HA.out k h3
    obtain ⟨b',o',e',c2⟩:=HBB.out k h4
    subst e e'
    have q:=str_beq la[k] lb[k]
    have i1:(k:Int)<(la.length:Int):=by omega
    have i2:(k:Int)<(lb.length:Int):=by omega
    by_cases he:la[k]=lb[k]
    ·rw [decide_eq_true he] at q
     have q':((str la[k]).toList != (str lb[k]).toList)=false:=by rw [bne,q];rfl
     have HJ':Hid (∀ j (ha:j<la.length) (hb:j<lb.length),j<k+1->la[j]=lb[j]):=by
      intro j ha hb hjk
      rcases Nat.lt_or_ge j k with h|h
      ·exact HJ.out j ha hb h
      ·obtain rfl:j=k:=by omega
       exact he
     clear he
     generalize str la[k]=SA,str lb[k]=SB at *
     go_wp2_with fail
     go_quiet (fail)
     go_wp2_with fail
     go_roundw
     case rel=>exact ⟨k+1,by omega,by go_num,HJ'.out,_,rfl⟩
     case measure=>simp [intOf];omega
    ·rw [decide_eq_false he] at q
     have q':((str la[k]).toList != (str lb[k]).toList)=true:=by rw [bne,q];rfl
     have HF:Hid (B=false):=by
      show B=false
      cases hB:B
      ·rfl
      ·exact absurd (HB.out.1 hB) (not_at h3 h4 he)
     clear he
     generalize str la[k]=SA,str lb[k]=SB at *
     go_wp2_with fail
     go_quiet (fail)
     go_wp2_with fail
     go_ret
     exact ⟨by rw [HF.out];rfl,_,by first|rfl|exact World.drewN_drewN ..⟩
   ·have HF:Hid (B=true):=HB.out.2 (eq_upto HL.out fun j ha hb=>HJ.out j ha hb (by omega))
    have i1:¬ (k:Int)<(la.length:Int):=by omega
    go_wp2_with fail
    go_ret
    exact ⟨by rw [HF.out];rfl,_,by first|rfl|exact World.drewN_drewN ..⟩
 ·have b1:((la.length:Int) != (lb.length:Int))=true:=by simp;omega
  have HF:Hid (B=false):=by
   show B=false
   cases hB':B
   ·rfl
   ·exact absurd (congrArg List.length (hB.1 hB')) hlen
  clear hA hBB hB ha hb hbA hbB
  go_enter Tryz.func20,Tryz.ntmps20
  go_wp2_with fail
  go_ret
  exact ⟨by rw [HF.out];rfl,0,rfl⟩

theorem Stay.rowNe {w w':World} {g0 g t:Nat} {L:List Value} (h:Stay (fun k=>k=g0) w w') (hr:Row w g t L) (hg:g≠g0):Row w' g t L:=h.row hr hg
theorem wanted_plain {P:Program} {ops:Array Oper} {rest:List Oper} {o:Oper} {a:Act} {w:World} {Q:Exit->Act->World->Prop} (hw:Region.wanted o (yielded ops a.tmps)=true)
  (h:∀ K:Act->World->Prop,(∀ a w,wpList P ops Q rest a w->K a w)->o.wp P a w K Q):wpList P ops Q (o :: rest) a w :=
 wpList_step fun K hK=>by simp only [hw,if_true];exact h K hK
theorem load_midG {P:Program} {ops:Array Oper} {rest:List Oper} {op:Oper} {a:Act} {w:World} {Q:Exit->Act->World->Prop} (hgd:Region.wanted op (yielded ops a.tmps)=true) (ty:TypeId) (x:Operand) (ho:op.op=.load ty x)
  (b o:Nat) (hx:a.eval x=.pointer (some ⟨b,o,none⟩)) (cs:List Value) (d:TypeDesc) (hc:w.rangeAt b o cs)
  (hu:P.underlying ty=some d) (hd:d.isRow=true) (hi:(P.info? ty).map (·.size)=some cs.length)
  (h:wpList P ops Q rest (a.put op.dst (.agg cs.toArray)) w):wpList P ops Q (op :: rest) a w :=
 wanted_plain hgd fun _ hK=>wp_load_mid ty x ho b o hx cs d hc hu hd hi (hK _ _ h)
theorem bsliceG {ops:Array Oper} {rest:List Oper} {o:Oper} {a:Act} {w:World} {Q:Exit->Act->World->Prop} (hgd:Region.wanted o (yielded ops a.tmps)=true) (ty el sz bz:Nat) (Z:List Value) (x:Operand) (ho:o.op=.buildSlice ty 1 #[(0,x)])
  (hu:Tryz.prog.underlying ty=some (.slice el)) (hz:(Tryz.prog.info? el).map (fun i=>(i.zero,i.size,i.bytes))=some (some (.agg Z.toArray),sz,bz)) (h1:0<sz) (h2:sz<=1000)
  (cs:List Value) (hl:cs.length=sz) (hx:a.eval x=.agg cs.toArray)
  (k:∀ w',Row w' w.heap.size el cs->Below w.heap.size w w'->w.heap.size<w'.heap.size->wpList Tryz.prog ops Q rest (a.put o.dst (.slice (some ⟨w.heap.size,0,none⟩) 1 1)) w'):wpList Tryz.prog ops Q (o :: rest) a w:=by
 obtain ⟨i0,hi,hz0,hz1,hz2⟩:=info_parts hz
 refine wanted_plain hgd fun _ hK=>wp_buildSlice ty el 1 _ ho cs.toArray i0 (.agg Z.toArray) hu hi hz0 (by rw [hz1];omega) (by rw [hz1];omega) ?_ (hK _ _ (k _ (Row.new w el cs) (alloc_one _ _) (by rw [size_alloc];omega)))
 have hw:=Go.Great.fill_whole (s:=sz) h1 [.agg cs.toArray] ((Array.range (1 * sz)).map ((Value.agg Z.toArray).cells[· % (Value.agg Z.toArray).cells.size]!)) (by simp [Value.cells,hl]) (by simp)
 rw [hz1]
 simp only [List.map_toArray,List.map_cons,List.map_nil,hx]
 simp only [List.zipIdx_cons,List.zipIdx_nil,List.map_cons,List.map_nil] at hw
 refine Eq.trans hw ?_
 simp [Value.cells]
theorem Few.cells {w W:World} {C gp gl gf gg gb:Nat} (h:Few w W C gp gl gf gg gb):W.cell? ⟨gf,0,none⟩=some (.bool false)/\W.cell? ⟨gf,1,none⟩=some (.string ⟨#[102]⟩)/\W.cell? ⟨gf,2,none⟩=some (.slice none 0 0)/\W.cell? ⟨gf,3,none⟩=some (.slice (some ⟨gp,0,none⟩) 1 1)/\W.cell? ⟨gf,4,none⟩=some (.int .i64 0)/\W.cell? ⟨gf,5,none⟩=some (.string ⟨#[]⟩)/\W.cell? ⟨gf,6,none⟩=some (.slice none 0 0)/\W.cell? ⟨gf,7,none⟩=some (.slice none 0 0)/\W.cell? ⟨gf,8,none⟩=some (.slice (some ⟨gl,0,none⟩) 1 1)/\W.cell? ⟨gf,9,none⟩=some (.int .i64 0):=⟨h.fn.cell 0,h.fn.cell 1,h.fn.cell 2,h.fn.cell 3,h.fn.cell 4,h.fn.cell 5,h.fn.cell 6,h.fn.cell 7,h.fn.cell 8,h.fn.cell 9⟩
theorem Few.cellsG {w W:World} {C gp gl gf gg gb:Nat} (h:Few w W C gp gl gf gg gb):W.cell? ⟨gg,0,none⟩=some (.bool false)/\W.cell? ⟨gg,1,none⟩=some (.string ⟨#[102]⟩)/\W.cell? ⟨gg,2,none⟩=some (.slice none 0 0)/\W.cell? ⟨gg,3,none⟩=some (.slice (some ⟨gp,0,none⟩) 1 1)/\W.cell? ⟨gg,4,none⟩=some (.int .i64 0)/\W.cell? ⟨gg,5,none⟩=some (.string ⟨#[]⟩)/\W.cell? ⟨gg,6,none⟩=some (.slice none 0 0)/\W.cell? ⟨gg,7,none⟩=some (.slice none 0 0)/\W.cell? ⟨gg,8,none⟩=some (.slice (some ⟨gb,0,none⟩) 1 1)/\W.cell? ⟨gg,9,none⟩=some (.int .i64 0):=⟨h.gn.cell 0,h.gn.cell 1,h.gn.cell 2,h.gn.cell 3,h.gn.cell 4,h.gn.cell 5,h.gn.cell 6,h.gn.cell 7,h.gn.cell 8,h.gn.cell 9⟩
theorem told3 {w w1 w2 w3:World} (R1:Row w1 w.heap.size 49 letC) (b2:Below w1.heap.size w1 w2) (R2:Row w2 w1.heap.size 49 letC) (R3:Row w3 w1.heap.size 49 (letC.take 4 ++ (tyCells 0 ++ letC.drop 8))) (s3:Stay (fun k=>k=w1.heap.size) w2 w3) :
  Row w3 w1.heap.size 49 badC/\Row w3 w.heap.size 49 letC/\w.heap.size<w1.heap.size/\w1.heap.size<w3.heap.size:=by
 have z1:=R1.lt
 have z2:=R2.lt
 have z3:=s3.size
 rw [bad_cells] at R3
 exact ⟨R3,s3.rowNe (R1.below b2 z1) (by omega),z1,by omega⟩
theorem told7 {w1 w3 w4 w5 w6 w7:World} (R3:Row w3 w1.heap.size 49 badC) (b4:Below w3.heap.size w3 w4) (z4:w3.heap.size<w4.heap.size) (b5:Below w4.heap.size w4 w5) (z5:w4.heap.size<w5.heap.size) (R6:Row w6 w5.heap.size 40 (fncC w3.heap.size w4.heap.size)) (b6:Below w5.heap.size w5 w6)
  (R7:Row w7 w6.heap.size 40 (fncC w3.heap.size w4.heap.size)) (b7:Below w6.heap.size w6 w7) (z2:w1.heap.size<w3.heap.size):Row w7 w1.heap.size 49 badC/\w5.heap.size<w6.heap.size/\w6.heap.size<w7.heap.size:=by
 have z6:=R6.lt
 have z7:=R7.lt
 exact ⟨(((R3.below b4 (by omega)).below b5 (by omega)).below b6 (by omega)).below b7 (by omega),z6,z7⟩
theorem told8 {w6 w7 w8:World} {a b:Nat} (R7:Row w7 w6.heap.size 40 (fncC a b)) (b8:Below w7.heap.size w7 w8) (z7:w6.heap.size<w7.heap.size) :
  w8.cell? ⟨w6.heap.size,8,none⟩=some (.slice (some ⟨b,0,none⟩) 1 1)/\w8.frozen? ⟨w6.heap.size,8,none⟩=false/\True:=by
 have G8:=R7.below b8 z7
 exact ⟨G8.cell 8,G8.fz 8,trivial⟩
set_option maxHeartbeats 8000000 in
set_option maxRecDepth 20000 in
theorem told_any (w:World) (hm:∃ m,w.cell? ⟨0,0,none⟩=some (.int .i64 m)):Calls Tryz.prog 8 #[] w fun ev w'=>ev=.returned (.bool true)/\Below w.heap.size w w':=by
 have hpos:0<w.heap.size:=by
  obtain ⟨m,hm⟩:=hm
  exact World.block_lt_of_cell? w ⟨0,0,none⟩ hm
 have HE:Hid (∀ (W:World) (C gp gl gf gg gb:Nat),Few w W C gp gl gf gg gb->∃ K:Ctx,K.C=C/\K.B=1/\Env K W):=by
  intro W C gp gl gf gg gb h
  obtain ⟨m,hm⟩:=hm
  refine ⟨⟨C,1,by omega⟩,rfl,rfl,h.size,?_,⟨m,(h.below.cell (p:=⟨0,0,none⟩) hpos).trans hm⟩,by show 1<=1048576;omega⟩
  have:=h.pos
  show 0<C
  omega
 have HF:Hid (∀ (W:World) (C gp gl gf gg gb:Nat),Few w W C gp gl gf gg gb->∀ K:Ctx,K.C=C->K.B=1->FncAt 1 K W (fncC gp gl) (fncF letS)):=fun W C gp gl gf gg gb h K h1 h2=>fnc_at 0 K (by omega) h.par h.lt (by have:=h.hp;omega) (by have:=h.hl;omega) (let_at 0 K (by omega) W)
 have HG:Hid (∀ (W:World) (C gp gl gf gg gb:Nat),Few w W C gp gl gf gg gb->∀ K:Ctx,K.C=C->K.B=1->FncAt 1 K W (fncC gp gb) (fncF badS)):=fun W C gp gl gf gg gb h K h1 h2=>fnc_at 0 K (by omega) h.par h.bd (by have:=h.hp;omega) (by have:=h.hb;omega) (bad_at 0 K (by omega) W)
 have U1:Hid (∀ (W:World) (C gp gl gf gg gb:Nat),Few w W C gp gl gf gg gb->Calls Tryz.prog 9 #[.agg #[.slice none 0 0,.slice none 0 0]] W fun ev w'=>ev=.returned (.bool true)/\Few w w' C gp gl gf gg gb):=by
  intro W C gp gl gf gg gb h
  obtain ⟨K,_,_,hE⟩:=HE.out _ _ _ _ _ _ _ h
  refine (may_any (n:=1) hE (cs:=[.slice none 0 0,.slice none 0 0]) (c:=⟨[],[]⟩) ⟨_,_,rfl,nil_ar,nil_ar⟩ true ⟨fun _=>⟨by simp,by simp,by simp⟩,fun _=>rfl⟩).mono ?_
  rintro _ _ ⟨rfl,hb⟩
  exact ⟨rfl,h.next hb⟩
 have HC1:Hid (∀ (W W':World) (K:Ctx) (cs:List Value) (f:Fnc),Env K W->FncAt 1 K W cs f->Row W' W.heap.size 40 cs->Below W.heap.size W W'->∃ K':Ctx,Env K' W'/\CrtAt 1 K' W' [.slice none 0 0,.slice (some ⟨W.heap.size,0,none⟩) 1 1] ⟨[],[f]⟩):=by
  intro W W' K cs f hE hf hR hA
  have hE2:=hE.below (below_le hA hE.C)
  have hlt:=hR.lt
  refine ⟨K.up (W.heap.size+1),⟨by show W.heap.size+1<=_;omega,by show 0<W.heap.size+1;omega,hE2.ml,hE2.B⟩,?_⟩
  refine ⟨_,_,rfl,nil_ar,one_ar hR hf.len (by decide) (by show W.heap.size<W.heap.size+1;omega) ?_⟩
  exact (hf.below (below_le hA hE.C)).up (Nat.le_trans hE.C (by omega))
 have U2:Hid (∀ (W:World) (C gp gl gf gg gb:Nat),Few w W C gp gl gf gg gb->∀ W',Row W' W.heap.size 40 (fncC gp gl)->Below W.heap.size W W'->Calls Tryz.prog 9 #[.agg #[.slice none 0 0,.slice (some ⟨W.heap.size,0,none⟩) 1 1]] W' fun ev w'=>ev=.returned (.bool true)/\Few w w' C gp gl gf gg gb):=by
  intro W C gp gl gf gg gb h W' hR hA
  obtain ⟨K,h1,h2,hE⟩:=HE.out _ _ _ _ _ _ _ h
  obtain ⟨K',hE',hc⟩:=HC1.out W W' K _ _ hE (HF.out _ _ _ _ _ _ _ h K h1 h2) hR hA
  have hn:=h.next hA
  refine (may_any hE' hc true ⟨fun _=>⟨by simp,by simp,by intro f hf;simp at hf;subst hf;exact may_fn 0⟩,fun _=>rfl⟩).mono ?_
  rintro _ _ ⟨rfl,hb⟩
  exact ⟨rfl,hn.next hb⟩
 have U3:Hid (∀ (W:World) (C gp gl gf gg gb:Nat),Few w W C gp gl gf gg gb->∀ W',Row W' W.heap.size 40 (fncC gp gb)->Below W.heap.size W W'->Calls Tryz.prog 9 #[.agg #[.slice none 0 0,.slice (some ⟨W.heap.size,0,none⟩) 1 1]] W' fun ev w'=>ev=.returned (.bool false)/\Few w w' C gp gl gf gg gb):=by
  intro W C gp gl gf gg gb h W' hR hA
  obtain ⟨K,h1,h2,hE⟩:=HE.out _ _ _ _ _ _ _ h
  obtain ⟨K',hE',hc⟩:=HC1.out W W' K _ _ hE (HG.out _ _ _ _ _ _ _ h K h1 h2) hR hA
  have hn:=h.next hA
  refine (may_any hE' hc false ⟨fun h=>(by cases h),fun h=>absurd (h.2.2 _ (by simp)) (may_gn 0)⟩).mono ?_
  rintro _ _ ⟨rfl,hb⟩
  exact ⟨rfl,hn.next hb⟩
 have U5:Hid (∀ (W:World) (C gp gl gf gg gb:Nat),Few w W C gp gl gf gg gb->Calls Tryz.prog 19 #[.slice (some ⟨gl,0,none⟩) 1 1] W fun ev w'=>ev=.returned (.int .i64 1)/\Few w w' C gp gl gf gg gb):=by
  intro W C gp gl gf gg gb h
  obtain ⟨K,h1,h2,hE⟩:=HE.out _ _ _ _ _ _ _ h
  refine (count_any (n:=1) hE.C (one_ar h.lt rfl (by decide) (by have:=h.hl;omega) (let_at 0 K (by omega) W)) (by decide)).mono ?_
  rintro _ _ ⟨rfl,hb⟩
  exact ⟨rfl,h.next hb⟩
 have U6:Hid (∀ (W:World) (C gp gl gf gg gb:Nat),Few w W C gp gl gf gg gb->Calls Tryz.prog 21 #[.agg (fncC gp gl).toArray] W fun ev w'=>∃ v,ev=.returned v/\Few w w' C gp gl gf gg gb/\w'.ownsRow W.heap.size 9 1 v 2 (strs [[112],[120]])):=by
  intro W C gp gl gf gg gb h
  obtain ⟨K,h1,h2,hE⟩:=HE.out _ _ _ _ _ _ _ h
  refine (names_any hE.C (HF.out _ _ _ _ _ _ _ h K h1 h2) (by decide)).mono ?_
  rintro _ w' ⟨v,rfl,hb,ho⟩
  rw [names_fn 0] at ho
  exact ⟨v,rfl,h.next hb,ho⟩
 have U4:Hid (∀ (W:World) (C gp gl gf gg gb:Nat),Few w W C gp gl gf gg gb->∀ ao,Calls Tryz.prog 12 #[.agg #[.slice none 0 0,.slice none 0 0],.agg #[.slice ao 0 0,.slice none 0 0]] W fun ev w'=>ev=.returned (.bool true)/\Few w w' C gp gl gf gg gb):=by
  intro W C gp gl gf gg gb h ao
  obtain ⟨K,h1,h2,hE⟩:=HE.out _ _ _ _ _ _ _ h
  refine (same_any (n:=1) hE.C (x:=⟨[],[]⟩) (y:=⟨[],[]⟩) (cs:=[.slice none 0 0,.slice none 0 0]) (cs':=[.slice ao 0 0,.slice none 0 0]) ⟨_,_,rfl,nil_ar,nil_ar⟩ ⟨_,_,rfl,⟨ao,0,rfl,Nat.le_refl _,by decide,fun i hi=>absurd hi (by simp)⟩,nil_ar⟩ true ⟨fun _=>rfl,fun _=>rfl⟩).mono ?_
  rintro _ _ ⟨rfl,hb⟩
  exact ⟨rfl,h.next hb⟩
 have U7:Hid (∀ (W:World) (C gp gl gf gg gb:Nat),Few w W C gp gl gf gg gb->∀ (B:Nat) (v:Value),W.ownsRow B 9 1 v 2 (strs [[112],[120]])->Calls Tryz.prog 20 #[v,.slice (some ⟨W.heap.size,0,none⟩) 2 2] (W.alloc (.cells #[.string ⟨#[112]⟩,.string ⟨#[120]⟩] 9)) fun ev w'=>ev=.returned (.bool true)/\Below w.heap.size w w'):=by
  intro W C gp gl gf gg gb h B v ho
  have a1:Ar 1 0 (TxAt ⟨W.heap.size,1,by omega⟩) ⟨W.heap.size,1,by omega⟩ W v [[112],[120]]:=strs_of_own (Nat.le_refl _) (by simp) ho
  have a2:=(a1.mono (alloc_one W (.cells #[.string ⟨#[112]⟩,.string ⟨#[120]⟩] 9)) (fun _ _ _ h=>h)).up (C:=W.heap.size+1) (Nat.le_succ _) (P':=TxAt ⟨W.heap.size+1,1,by omega⟩) (fun _ _ _ h=>h)
  have hR:=Row.new W 9 [.string ⟨#[112]⟩,.string ⟨#[120]⟩]
  have a3:Ar 1 16 (TxAt ⟨W.heap.size+1,1,by omega⟩) ⟨W.heap.size+1,1,by omega⟩ (W.alloc (.cells #[.string ⟨#[112]⟩,.string ⟨#[120]⟩] 9)) (.slice (some ⟨W.heap.size,0,none⟩) 2 2) [[112],[120]]:=by
   refine ⟨some ⟨W.heap.size,0,none⟩,2,rfl,Nat.le_refl _,by decide,fun i hi=>?_⟩
   have hi':i=0∨i=1:=by simp at hi;omega
   rcases hi' with rfl|rfl
   ·exact ⟨W.heap.size,0,rfl,Nat.lt_succ_self _,[.string (str [112])],rfl,fun j hj=>(by obtain rfl:j=0:=(by omega);exact hR.cell 0),rfl,by simp⟩
   ·exact ⟨W.heap.size,0,rfl,Nat.lt_succ_self _,[.string (str [120])],rfl,fun j hj=>(by obtain rfl:j=0:=(by omega);exact hR.cell 1),rfl,by simp⟩
  refine (texts_at a2 a3 (by decide) true ⟨fun _=>rfl,fun _=>rfl⟩).mono ?_
  rintro _ _ ⟨rfl,m,rfl⟩
  exact ⟨rfl,h.below.trans ((below_le (alloc_one W _) h.below.size).trans (Below.drewN _ _ _))⟩
 have U2L:Hid (∀ (W:World) (C gp gl gf gg gb:Nat),Few w W C gp gl gf gg gb->Calls Tryz.prog 9 #[.agg #[.slice none 0 0,.slice (some ⟨W.heap.size,0,none⟩) 1 1]] (W.alloc (.cells #[.bool false,.string ⟨#[102]⟩,.slice none 0 0,.slice (some ⟨gp,0,none⟩) 1 1,.int .i64 0,.string ⟨#[]⟩,.slice none 0 0,.slice none 0 0,.slice (some ⟨gl,0,none⟩) 1 1,.int .i64 0] 40)) fun ev w'=>ev=.returned (.bool true)/\Few w w' C gp gl gf gg gb):=fun W C gp gl gf gg gb h=>U2.out W C gp gl gf gg gb h (W.alloc (.cells #[.bool false,.string ⟨#[102]⟩,.slice none 0 0,.slice (some ⟨gp,0,none⟩) 1 1,.int .i64 0,.string ⟨#[]⟩,.slice none 0 0,.slice none 0 0,.slice (some ⟨gl,0,none⟩) 1 1,.int .i64 0] 40)) (Row.new W 40 (fncC gp gl)) (alloc_one _ _)
 have U3L:Hid (∀ (W:World) (C gp gl gf gg gb:Nat),Few w W C gp gl gf gg gb->Calls Tryz.prog 9 #[.agg #[.slice none 0 0,.slice (some ⟨W.heap.size,0,none⟩) 1 1]] (W.alloc (.cells #[.bool false,.string ⟨#[102]⟩,.slice none 0 0,.slice (some ⟨gp,0,none⟩) 1 1,.int .i64 0,.string ⟨#[]⟩,.slice none 0 0,.slice none 0 0,.slice (some ⟨gb,0,none⟩) 1 1,.int .i64 0] 40)) fun ev w'=>ev=.returned (.bool false)/\Few w w' C gp gl gf gg gb):=fun W C gp gl gf gg gb h=>U3.out W C gp gl gf gg gb h (W.alloc (.cells #[.bool false,.string ⟨#[102]⟩,.slice none 0 0,.slice (some ⟨gp,0,none⟩) 1 1,.int .i64 0,.string ⟨#[]⟩,.slice none 0 0,.slice none 0 0,.slice (some ⟨gb,0,none⟩) 1 1,.int .i64 0] 40)) (Row.new W 40 (fncC gp gb)) (alloc_one _ _)
 have U6L:Hid (∀ (W:World) (C gp gl gf gg gb:Nat),Few w W C gp gl gf gg gb->Calls Tryz.prog 21 #[.agg #[.bool false,.string ⟨#[102]⟩,.slice none 0 0,.slice (some ⟨gp,0,none⟩) 1 1,.int .i64 0,.string ⟨#[]⟩,.slice none 0 0,.slice none 0 0,.slice (some ⟨gl,0,none⟩) 1 1,.int .i64 0]] W fun ev w'=>∃ v,ev=.returned v/\Few w w' C gp gl gf gg gb/\w'.ownsRow W.heap.size 9 1 v 2 (strs [[112],[120]])):=fun W C gp gl gf gg gb h=>U6.out W C gp gl gf gg gb h
 have HN:Hid (∀ (W:World) (C gp gl gf gg gb:Nat),Few w W C gp gl gf gg gb->Below w.heap.size w W):=fun _ _ _ _ _ _ _ h=>h.below
 have HR:Hid (∀ (W:World) (C gp gl gf gg gb:Nat),Few w W C gp gl gf gg gb->Row W gf 40 (fncC gp gl)/\Row W gg 40 (fncC gp gb)):=fun _ _ _ _ _ _ _ h=>⟨h.fn,h.gn⟩
 have HFW:Hid (∀ (w1 w2 w3 w4 w5 w6 w7 w8:World),Row w1 w.heap.size 49 letC->Below w.heap.size w w1->Row w2 w1.heap.size 49 letC->Below w1.heap.size w1 w2->Row w3 w1.heap.size 49 badC->Stay (fun k=>k=w1.heap.size) w2 w3
   -> Row w4 w3.heap.size 51 parC->Below w3.heap.size w3 w4->Row w5 w4.heap.size 49 letC->Below w4.heap.size w4 w5->Row w6 w5.heap.size 40 (fncC w3.heap.size w4.heap.size)->Below w5.heap.size w5 w6
   -> Row w7 w6.heap.size 40 (fncC w3.heap.size w4.heap.size)->Below w6.heap.size w6 w7->Row w8 w7.heap.size 49 badC->Below w7.heap.size w7 w8
   -> Few w (w8.setCell ⟨w6.heap.size,8,none⟩ (.slice (some ⟨w7.heap.size,0,none⟩) 1 1)) w8.heap.size w3.heap.size w4.heap.size w5.heap.size w6.heap.size w7.heap.size):=by
  intro w1 w2 w3 w4 w5 w6 w7 w8 R1 b1 R2 b2 R3 s3 R4 b4 R5 b5 R6 b6 R7 b7 R8 b8
  have z1:=R1.lt
  have z2:=R2.lt
  have z3:=R3.lt
  have z3':=s3.size
  have z4:=R4.lt
  have z5:=R5.lt
  have z6:=R6.lt
  have z7:=R7.lt
  have z8:=R8.lt
  have q2:Below w.heap.size w1 w2:=below_le b2 (by omega)
  have q3:Below w.heap.size w2 w3:=s3.below (by omega) (by intro k hk;omega)
  have q8:Below w.heap.size w w8:=b1.trans (q2.trans (q3.trans ((below_le b4 (by omega)).trans ((below_le b5 (by omega)).trans ((below_le b6 (by omega)).trans ((below_le b7 (by omega)).trans (below_le b8 (by omega))))))))
  have S8:Stay (fun k=>k=w6.heap.size) w8 (w8.setCell ⟨w6.heap.size,8,none⟩ (.slice (some ⟨w7.heap.size,0,none⟩) 1 1)):=Stay.set (X:=fun k=>k=w6.heap.size) (Stay.refl _ _) (fun _=>rfl) _ _
  have P8:Row w8 w3.heap.size 51 parC:=(((R4.below b5 (by omega)).below b6 (by omega)).below b7 (by omega)).below b8 (by omega)
  have L8:Row w8 w4.heap.size 49 letC:=(((R5.below b6 (by omega)).below b7 (by omega))).below b8 (by omega)
  have F8:Row w8 w5.heap.size 40 (fncC w3.heap.size w4.heap.size):=(R6.below b7 (by omega)).below b8 (by omega)
  have G8:Row w8 w6.heap.size 40 (fncC w3.heap.size w4.heap.size):=R7.below b8 (by omega)
  refine ⟨q8.trans (S8.below (by omega) (by intro k hk;omega)),S8.size,by omega,by omega,by omega,by omega,S8.rowNe P8 (by omega),S8.rowNe L8 (by omega),S8.rowNe F8 (by omega),?_,S8.rowNe R8 (by omega)⟩
  exact G8.set 8 _
 clear HE HF HG HC1 hm U2 U3 U6
 go_enter Tryz.func8,Tryz.ntmps8
 go_wp2_with (first
  | (refine build_as rfl 49 _ rfl letC.toArray _ rfl built_let ?_)
  | (refine store_newL rfl 49 (.tmp 1) (.tmp 6) rfl letC _ 49 rfl rfl Tryz.size49 rfl one_letC ?_;intro w1 R1 b1)
  | (refine wpList_load_mid rfl 49 (.tmp 1) rfl w.heap.size 0 rfl letC _ R1.range Tryz.underlying49 rfl Tryz.size49 ?_)
  | (refine store_newL rfl 49 (.tmp 2) (.tmp 7) rfl letC _ 49 rfl rfl Tryz.size49 rfl one_letC ?_;intro w2 R2 b2)
  | (refine store_midL rfl 31 (.tmp 9) (.tmp 8) rfl w1.heap.size 49 4 (letC.take 4) (tyCells 1) (tyCells 0) (letC.drop 8) R2 (by rfl) (by rfl) (by rfl) (by rfl) Tryz.size31 one_tyC ?_;intro w3 R3 s3;obtain ⟨R3',Q1,z1,z2⟩:=told3 R1 b2 R2 R3 s3)
  | (refine bsliceL rfl 37 51 6 96 _ (.tmp 11) rfl Tryz.underlying37 Tryz.info51z (by decide) (by decide) parC rfl rfl ?_;intro w4 R4 b4 z4)
  | (refine wpList_load_mid rfl 49 (.tmp 1) rfl w.heap.size 0 rfl letC _ (Q1.below b4 Q1.lt).range Tryz.underlying49 rfl Tryz.size49 ?_)
  | (refine bsliceL rfl 38 49 32 496 _ (.tmp 13) rfl Tryz.underlying38 Tryz.info49z (by decide) (by decide) letC rfl rfl ?_;intro w5 R5 b5 z5)
  | (refine store_newL rfl 40 (.tmp 3) (.tmp 15) rfl (fncC w3.heap.size w4.heap.size) _ 40 rfl rfl (Tryz.size40 _ _) rfl (one_fncC _ _) ?_;intro w6 R6 b6)
  | (refine wpList_load_mid rfl 40 (.tmp 3) rfl w5.heap.size 0 rfl (fncC w3.heap.size w4.heap.size) _ R6.range Tryz.underlying40 rfl (Tryz.size40 _ _) ?_)
  | (refine store_newL rfl 40 (.tmp 4) (.tmp 16) rfl (fncC w3.heap.size w4.heap.size) _ 40 rfl rfl (Tryz.size40 _ _) rfl (one_fncC _ _) ?_;intro w7 R7 b7;obtain ⟨Q3,z6,z7⟩:=told7 R3' b4 z4 b5 z5 R6 b6 R7 b7 z2)
  | (refine wpList_load_mid rfl 49 (.tmp 2) rfl w1.heap.size 0 rfl badC _ Q3.range Tryz.underlying49 rfl Tryz.size49 ?_)
  | (refine bsliceL rfl 38 49 32 496 _ (.tmp 17) rfl Tryz.underlying38 Tryz.info49z (by decide) (by decide) badC rfl rfl ?_;intro w8 R8 b8 z8;obtain ⟨c8,f8,HH⟩:=told8 R7 b8 z7;have F8:=HFW.out w1 w2 w3 w4 w5 w6 w7 w8 R1 b1 R2 b2 R3' s3 R4 b4 R5 b5 R6 b6 R7 b7 R8 b8))
 clear HFW R1 b1 R2 b2 R3 R3' s3 R4 b4 R5 b5 R6 b6 R7 b7 R8 b8 Q1 Q3 c8 f8
 refine (U1.out _ _ _ _ _ _ _ F8).mono ?_
 rintro _ W1 ⟨rfl,F1⟩
 clear F8
 obtain ⟨a0,a1,a2,a3,a4,a5,a6,a7,a8,a9⟩:=F1.cells
 go_wp2_with fail
 refine (U2L.out W1 _ _ _ _ _ _ F1).mono ?_
 rintro _ W2 ⟨rfl,F2⟩
 clear a0 a1 a2 a3 a4 a5 a6 a7 a8 a9 F1
 obtain ⟨a0,a1,a2,a3,a4,a5,a6,a7,a8,a9⟩:=F2.cellsG
 go_wp2_with fail
 refine (U3L.out W2 _ _ _ _ _ _ F2).mono ?_
 rintro _ W3 ⟨rfl,F3⟩
 clear a0 a1 a2 a3 a4 a5 a6 a7 a8 a9 F2
 go_wp2_with fail
 refine (U4.out _ _ _ _ _ _ _ (by first|exact F3|exact F3.next (alloc_one _ _)) _).mono ?_
 rintro _ W4 ⟨rfl,F4⟩
 obtain ⟨a0,a1,a2,a3,a4,a5,a6,a7,a8,a9⟩:=F4.cells
 go_wp2_with fail
 refine (U5.out W4 _ _ _ _ _ _ F4).mono ?_
 rintro _ W5 ⟨rfl,F5⟩
 clear a0 a1 a2 a3 a4 a5 a6 a7 a8 a9 F4 F3
 obtain ⟨a0,a1,a2,a3,a4,a5,a6,a7,a8,a9⟩:=F5.cells
 go_wp2_with fail
 refine (U6L.out W5 _ _ _ _ _ _ F5).mono ?_
 rintro _ W6 ⟨v,rfl,F6,ho⟩
 clear a0 a1 a2 a3 a4 a5 a6 a7 a8 a9 F5
 go_wp2_with fail
 refine (U7.out W6 _ _ _ _ _ _ F6 _ _ ho).mono ?_
 rintro _ W7 ⟨rfl,hb7⟩
 go_wp2_with fail
 go_ret
 exact ⟨rfl,hb7⟩
end Go.Proofs.YtjenmmkamhplkaaGreat
