/- Part of the proof. -/
import Derived.Test.YtjenmmkamhplkaaGreatJqspTk22
namespace Go.Proofs.YtjenmmkamhplkaaGreat
open Go.RowKit
set_option maxHeartbeats 8000000
set_option maxRecDepth 20000
structure Bod (K:Ctx) (gb L:Nat) (y:World):Prop where
 env:Env K y
 row:Row y gb 89 [.int .i64 (L:Int)]
 hi:K.C<=gb
 most:L<=2000
def Spent (gb:Nat) (B:Bool) (L c:Nat) (y:World):Prop:=∃ L':Nat,Row y gb 89 [.int .i64 (L':Int)]/\L'<=2000/\(B=true->L'+c=L)
def BlkC (n m:Nat):Prop:=∀ {K:Ctx} {y:World} {gb L:Nat} {v:Value} {l:List St},Bod K gb L y->Ar 32 496 (StAt n K y) K y v l->∀ (B:Bool),(B=true↔MayBlk m l/\cnt n l<=L) ->
 Calls Tryz.prog 55 #[.pointer (some ⟨gb,0,none⟩),v,.int .i64 (65 - (m:Int))] y fun ev y'=>ev=.returned (.bool B)/\Stay (fun k=>k=gb) y y'/\Spent gb B L (cnt n l) y'
def StmC (n m:Nat):Prop:=∀ {K:Ctx} {y:World} {gb L:Nat} {cs:List Value} {s:St},Bod K gb L y->StAt n K y cs s->∀ (B:Bool),(B=true↔StOk (MayBlk m) s/\inner n s<=L) ->
 Calls Tryz.prog 88 #[.pointer (some ⟨gb,0,none⟩),.agg cs.toArray,.int .i64 (64 - (m:Int))] y fun ev y'=>ev=.returned (.bool B)/\Stay (fun k=>k=gb) y y'/\Spent gb B L (inner n s) y'
theorem Bod.step {K:Ctx} {gb L L':Nat} {y y':World} (h:Bod K gb L y) (s:Stay (fun k=>k=gb) y y') (r:Row y' gb 89 [.int .i64 (L':Int)]) (hL:L'<=2000):Bod K gb L' y' :=
 ⟨h.env.below (s.below h.env.C (fun k hk=>by have:=h.hi;omega)),r,h.hi,hL⟩
theorem Bod.below {K:Ctx} {gb L:Nat} {y y':World} (h:Bod K gb L y) (hb:Below y.heap.size y y'):Bod K gb L y' :=
 ⟨h.env.below (below_le hb h.env.C),h.row.below hb h.row.lt,h.hi,h.most⟩
theorem each_of {n m:Nat} (ih:StmC n m) {K:Ctx} {y:World} {gb L g3 g5:Nat} {cs:List Value} {s:St} (hb:Bod K gb L y) (r3:Row y g3 122 [.pointer (some ⟨gb,0,none⟩)]) (r5:Row y g5 3 [.int .i64 (64 - (m:Int))])
  (hs:StAt n K y cs s) (B:Bool) (hB:B=true↔StOk (MayBlk m) s/\inner n s<=L) :
  Calls Tryz.prog 87 #[.agg cs.toArray,.pointer (some ⟨g3,0,none⟩),.pointer (some ⟨g5,0,none⟩)] y fun ev y'=>ev=.returned (.bool B)/\Stay (fun k=>k=gb) y y'/\Spent gb B L (inner n s) y':=by
 have hA:=alloc_one y (.cells cs.toArray 49)
 have hl:=hs.len
 have D:Hid (Calls Tryz.prog 88 #[.pointer (some ⟨gb,0,none⟩),.agg cs.toArray,.int .i64 (64 - (m:Int))] (y.alloc (.cells cs.toArray 49)) fun ev y'=>ev=.returned (.bool B)/\Stay (fun k=>k=gb) y y'/\Spent gb B L (inner n s) y'):=by
  refine (ih (hb.below hA) (hs.below (below_le hA hb.env.C)) B hB).mono ?_
  rintro _ _ ⟨rfl,h2,h3⟩
  exact ⟨rfl,(Stay.of_below hA).trans h2,h3⟩
 have c3:∀ o,(y.alloc o).cell? ⟨g3,0,none⟩=some (.pointer (some ⟨gb,0,none⟩)):=fun o=>(r3.alloc o).cell 0
 have c5:∀ o,(y.alloc o).cell? ⟨g5,0,none⟩=some (.int .i64 (64 - (m:Int))):=fun o=>(r5.alloc o).cell 0
 have hi:Hid ((Tryz.prog.info? 49).map (·.size)=some cs.length):=by show _=_;rw [hl];kernel_rfl
 clear hs hb r3 r5 hA hB hl
 generalize (64 - (m:Int))=dd at *
 go_enter Tryz.func87,Tryz.ntmps87
 go_wp2_with (first|(refine load_new rfl 49 (.tmp 3) rfl cs 49 _ rfl Tryz.underlying49 rfl hi.out ?_)|(go_at_call 88;refine D.out.mono ?_;rintro ev w2 ⟨rfl,h2,h3⟩))
 go_ret
 exact ⟨rfl,h2,h3⟩
def innS (n:Nat) (l:List St):Nat:=(l.map (inner n)).sum
theorem cnt_eq (n:Nat) (l:List St):cnt n l=l.length+innS n l:=by
 induction l with
 | nil=>rfl
 | cons s l ih=>rw [cnt_cons,ih];simp [innS];omega
theorem innS_take (n:Nat) (l:List St) (k:Nat) (h:k<l.length):innS n (l.take (k+1))=innS n (l.take k)+inner n l[k]:=by
 unfold innS
 rw [List.take_add_one,List.getElem?_eq_getElem h,List.map_append,List.sum_append]
 simp only [Option.toList_some,List.map_cons,List.map_nil,List.sum_cons,List.sum_nil,Nat.add_zero]
theorem innS_le (n:Nat) (l:List St) (k:Nat):innS n (l.take k)<=innS n l:=by
 have h:innS n l=innS n (l.take k)+innS n (l.drop k):=by
  unfold innS
  rw [← List.sum_append,← List.map_append,List.take_append_drop]
 omega
theorem innS_at (n:Nat) (l:List St) (k:Nat) (h:k<l.length):innS n (l.take k)+inner n l[k]<=innS n l:=by
 rw [← innS_take n l k h];exact innS_le n l (k+1)
theorem allStmts_of {n m:Nat} (ih:StmC n m) {K:Ctx} {w:World} {gb L g3 g5:Nat} (hb:Bod K gb L w) (r3:Row w g3 122 [.pointer (some ⟨gb,0,none⟩)]) (r5:Row w g5 3 [.int .i64 (64 - (m:Int))]) (h3:g3≠gb) (h5:g5≠gb)
  {v:Value} {l:List St} (ha:Ar 32 496 (StAt n K w) K w v l) (B:Bool) (hB:B=true↔(∀ s∈l,StOk (MayBlk m) s)/\innS n l<=L) :
  Calls Tryz.prog 86 #[v,.func (.func 87) #[] #[.pointer (some ⟨g3,0,none⟩),.pointer (some ⟨g5,0,none⟩)]] w fun ev w'=>ev=.returned (.bool B)/\Stay (fun k=>k=gb) w w'/\Spent gb B L (innS n l) w':=by
 obtain ⟨ao,cap,rfl,hc,hb',hA⟩:=ha.shape
 have hl9:l.length<=9223372036854775807:=by omega
 have HC:Hid (K.C<=w.heap.size/\K.C<=gb):=⟨hb.env.C,hb.hi⟩
 have HA:Hid (∀ i (h:i<l.length) (y:World),Below K.C w y->∃ b o,ao=some ⟨b,o,none⟩/\∃ cs,cs.length=32/\y.rangeAt b (o+i * 32) cs/\StAt n K y cs l[i]):=by
  intro i h y hy
  obtain ⟨b,o,e,hbC,cs,hl,hcs,hx⟩:=hA i h
  refine ⟨b,o,e,cs,hl,fun j u hj=>?_,hx.below hy⟩
  have hj':j<32:=by rw [← hl];exact (List.getElem?_eq_some_iff.1 hj).1
  rw [hy.cell (p:=⟨b,o+i * 32+j,none⟩) hbC,hcs j hj']
  exact hj
 have HB:=hid0 hB
 have HE:Hid (∀ (y:World) (L':Nat) (cs:List Value) (s:St) (B:Bool),Stay (fun k=>k=gb) w y->Bod K gb L' y->StAt n K y cs s->(B=true↔StOk (MayBlk m) s/\inner n s<=L') ->
   Calls Tryz.prog 87 #[.agg cs.toArray,.pointer (some ⟨g3,0,none⟩),.pointer (some ⟨g5,0,none⟩)] y fun ev y'=>ev=.returned (.bool B)/\Stay (fun k=>k=gb) y y'/\Spent gb B L' (inner n s) y') :=
  fun y L' cs s B hs hb hx hB=>each_of ih hb (hs.row r3 h3) (hs.row r5 h5) hx B hB
 have HB0:Hid (Bod K gb L w):=hb
 clear hA hB ha ih hb hb' r3 r5 h3 h5
 go_enter Tryz.func86,Tryz.ntmps86
 go_wp2_with fail
 go_loopw [9] (fun i wr=>∃ k:Nat,k<=l.length/\i=.int .i64 k/\(∀ j (h:j<l.length),j<k->StOk (MayBlk m) l[j])/\Stay (fun k=>k=gb) w wr/\∃ L',Bod K gb L' wr/\L'+innS n (l.take k)=L) (fun i _=>l.length - (intOf i).toNat)
 case atStart=>exact ⟨0,by omega,rfl,fun j _ h=>by omega,Stay.refl _ _,L,HB0.out,by simp [innS]⟩
 case round =>
  obtain ⟨k,hk,rfl,hj,hst,L',hbod,hsum⟩:=hrel
  have HJ:=hid0 hj
  have HW:Hid (Stay (fun k=>k=gb) w wr):=hst
  have HN:Hid (L'+innS n (l.take k)=L):=hsum
  have HD:Hid (Bod K gb L' wr):=hbod
  clear hj hst hsum hbod HB0
  by_cases h3:k<l.length
  ·have hKC:Below K.C w wr:=HW.out.below HC.out.1 (fun q hq=>by have:=HC.out.2;omega)
   obtain ⟨b,o,e,cs,hl,hr,hx⟩:=HA.out k h3 wr hKC
   subst e
   have hi:Hid ((Tryz.prog.info? 49).map (·.size)=some cs.length):=by show _=_;rw [hl];kernel_rfl
   have hi':Hid ((Tryz.prog.info? 49).map (·.size)=some cs.toArray.size):=by show _=_;rw [List.size_toArray];exact hi.out
   have hl':Hid (32=cs.toArray.size):=by show _=_;rw [List.size_toArray];exact hl.symm
   have h1:Hid (cs.toArray.all (·.oneCell')=true):=one_mem hx.one
   have hR:Hid (wr.rangeAt b (o+k * 32) cs):=hr
   have hAl:Below wr.heap.size wr (wr.alloc (.cells cs.toArray 49)):=alloc_one _ _
   have hxA:=(hx.below (below_le hAl HD.out.env.C):StAt n K (wr.alloc (.cells cs.toArray 49)) cs l[k])
   have hDA:=HD.out.below hAl
   have i1:(k:Int)<(l.length:Int):=by omega
   by_cases hp:StOk (MayBlk m) l[k]/\inner n l[k]<=L'
   ·have HCL:Hid (Calls Tryz.prog 87 #[.agg cs.toArray,.pointer (some ⟨g3,0,none⟩),.pointer (some ⟨g5,0,none⟩)] (wr.alloc (.cells cs.toArray 49)) fun ev w'=>ev=.returned (.bool true)/\Stay (fun k=>k=gb) w w'/\∃ L2,Bod K gb L2 w'/\L2+innS n (l.take (k+1))=L):=by
     refine (HE.out _ L' cs l[k] true (HW.out.alloc _) hDA hxA ⟨fun _=>hp,fun _=>rfl⟩).mono ?_
     rintro _ _ ⟨rfl,h2,L2,hr2,hm2,he2⟩
     refine ⟨rfl,(HW.out.alloc _).trans h2,L2,hDA.step h2 hr2 hm2,?_⟩
     have:=he2 rfl
     have:=HN.out
     rw [innS_take n l k h3];omega
    have HJ':Hid (∀ j (h:j<l.length),j<k+1->StOk (MayBlk m) l[j]):=by
     intro j h hjk
     rcases Nat.lt_or_ge j k with h'|h'
     ·exact HJ.out j h h'
     ·obtain rfl:j=k:=by omega
      exact hp.1
    clear hp hx HA HE hKC hxA hAl hl hr hDA
    go_wp2_with (first|(refine wpList_load_mid rfl 49 (.tmp 11) rfl b (o+k * 32) rfl cs _ hR.out Tryz.underlying49 rfl hi.out ?_)|(refine store_new rfl 49 (.tmp 6) (.tmp 12) rfl cs.toArray _ 49 rfl rfl hi'.out hl'.out h1.out ?_)|(refine load_new rfl 49 (.tmp 6) rfl cs 49 _ rfl Tryz.underlying49 rfl hi.out ?_)|(go_at_call 87;refine HCL.out.mono ?_;rintro ev w2 ⟨rfl,hs2,hd2⟩))
    go_roundw
    case rel=>exact ⟨k+1,by omega,by go_num,HJ'.out,hs2,hd2⟩
    case measure=>simp [intOf];omega
   ·have HCL:Hid (Calls Tryz.prog 87 #[.agg cs.toArray,.pointer (some ⟨g3,0,none⟩),.pointer (some ⟨g5,0,none⟩)] (wr.alloc (.cells cs.toArray 49)) fun ev w'=>ev=.returned (.bool false)/\Stay (fun k=>k=gb) w w'/\Spent gb false L (innS n l) w'):=by
     refine (HE.out _ L' cs l[k] false (HW.out.alloc _) hDA hxA ⟨fun h=>(by cases h),fun h=>absurd h hp⟩).mono ?_
     rintro _ _ ⟨rfl,h2,L2,hr2,hm2,_⟩
     exact ⟨rfl,(HW.out.alloc _).trans h2,L2,hr2,hm2,fun h=>by cases h⟩
    have HF:Hid (B=false):=bool_false HB.out (fun h=>hp ⟨h.1 _ (List.getElem_mem h3),by have:=innS_at n l k h3;have:=HN.out;have:=h.2;omega⟩)
    clear hp hx HA HE hKC hxA hAl hl hr hDA
    go_wp2_with (first|(refine wpList_load_mid rfl 49 (.tmp 11) rfl b (o+k * 32) rfl cs _ hR.out Tryz.underlying49 rfl hi.out ?_)|(refine store_new rfl 49 (.tmp 6) (.tmp 12) rfl cs.toArray _ 49 rfl rfl hi'.out hl'.out h1.out ?_)|(refine load_new rfl 49 (.tmp 6) rfl cs 49 _ rfl Tryz.underlying49 rfl hi.out ?_)|(go_at_call 87;refine HCL.out.mono ?_;rintro ev w2 ⟨rfl,hs2,hd2⟩))
    go_ret
    exact ⟨by rw [HF.out];rfl,hs2,by rw [HF.out];exact hd2⟩
  ·have hfull:l.take k=l:=List.take_of_length_le (by omega)
   have HF:Hid (B=true):=HB.out.2 ⟨fun x hx=>by
    obtain ⟨j,hj,rfl⟩:=List.getElem_of_mem hx
    exact HJ.out j hj (by omega),by have:=HN.out;rw [hfull] at this;omega⟩
   have HSp:Hid (Spent gb true L (innS n l) wr):=⟨L',HD.out.row,HD.out.most,fun _=>by have:=HN.out;rw [hfull] at this;exact this⟩
   have i1:¬ (k:Int)<(l.length:Int):=by omega
   clear hfull
   go_wp2_with fail
   go_ret
   exact ⟨by rw [HF.out];rfl,HW.out,by rw [HF.out];exact HSp.out⟩
theorem wrap_small {a:Int} (h1:-9223372036854775808<=a) (h2:a<=9223372036854775807):IntKind.i64.wrap a=a:=by
 have e:=IntKind.wrap_i64 a
 rw [e]
 omega
theorem blk_of {n:Nat} (ih:∀ m,m<=64->StmC n m) (m:Nat) (hm:m<=64):BlkC n m:=by
 intro K y gb L v l hb ha B hB
 obtain ⟨ao,cap,hv⟩:=ha.form
 have hLm:=hb.most
 have hlt:=hb.row.lt
 have cb:∀ o p,((y.alloc o).alloc p).cell? ⟨gb,0,none⟩=some (.int .i64 (L:Int)):=fun o p=>((hb.row.alloc o).alloc p).cell 0
 have zb:∀ o p,((y.alloc o).alloc p).frozen? ⟨gb,0,none⟩=false:=fun o p=>((hb.row.alloc o).alloc p).fz 0
 have hA:=alloc_two y (.cells #[.pointer (some ⟨gb,0,none⟩)] 122) (.cells #[.int .i64 (65 - (m:Int))] 3)
 have HA:Hid (Stay (fun k=>k=gb) y ((y.alloc (.cells #[.pointer (some ⟨gb,0,none⟩)] 122)).alloc (.cells #[.int .i64 (65 - (m:Int))] 3))):=Stay.of_below hA
 have HR:Hid (Row ((y.alloc (.cells #[.pointer (some ⟨gb,0,none⟩)] 122)).alloc (.cells #[.int .i64 (65 - (m:Int))] 3)) gb 89 [.int .i64 (L:Int)]):=(hb.row.alloc _).alloc _
 subst hv
 by_cases hm0:m=0
 ·obtain rfl:=bool_false hB (fun h=>by subst hm0;exact h.1)
  subst hm0
  have HS:Hid (Spent gb false L (cnt n l) ((y.alloc (.cells #[.pointer (some ⟨gb,0,none⟩)] 122)).alloc (.cells #[.int .i64 (65 - ((0:Nat):Int))] 3))):=⟨L,HR.out,hLm,fun h=>by cases h⟩
  clear hb ha hB HR hA ih
  go_enter Tryz.func55,Tryz.ntmps55
  go_wp2_with fail
  go_ret
  exact ⟨rfl,HA.out,HS.out⟩
 ·obtain ⟨q,rfl⟩:∃ q,m=q+1:=⟨m - 1,by omega⟩
  obtain ⟨D,hD⟩:∃ D:Int,D=65 - ((q+1:Nat):Int):=⟨_,rfl⟩
  have hD2:D=64 - (q:Int):=by rw [hD];omega
  rw [← hD] at HA HR ⊢
  have d1:decide ((64:Int)<D)=false:=by simp;omega
  have d2:¬ (64:Int)<D:=by omega
  have hl9:l.length<=9223372036854775807:=by
   obtain ⟨_,_,e,h1,h2,_⟩:=ha.shape
   omega
  by_cases hlen:l.length<=L
  ·have b1:decide ((L:Int)<(l.length:Int))=false:=by simp;omega
   have b2:¬ (L:Int)<(l.length:Int):=by omega
   have w1:IntKind.i64.wrap ((L:Int) - (l.length:Int))=(L:Int) - (l.length:Int):=wrap_small (by omega) (by omega)
   have hmf:=hmf0
   have hset:=below_set hb.hi 0 (.int .i64 ((L:Int) - (l.length:Int))) hb.env.C
   have e1:((L:Int) - (l.length:Int))=((L - l.length:Nat):Int):=by omega
   have hrs:Row (y.setCell ⟨gb,0,none⟩ (.int .i64 ((L:Int) - (l.length:Int)))) gb 89 [.int .i64 ((L - l.length:Nat):Int)]:=by
    have:=hb.row.set 0 (.int .i64 ((L:Int) - (l.length:Int)))
    rw [e1] at this ⊢
    exact this
   have hs1:Stay (fun k=>k=gb) y (y.setCell ⟨gb,0,none⟩ (.int .i64 ((L:Int) - (l.length:Int)))):=(Stay.refl (fun k=>k=gb) y).set (fun _=>rfl) _ _
   have hsz:(y.setCell ⟨gb,0,none⟩ (.int .i64 ((L:Int) - (l.length:Int)))).heap.size=y.heap.size:=by simp [World.setCell]
   have hbod:Bod K gb (L - l.length) (y.setCell ⟨gb,0,none⟩ (.int .i64 ((L:Int) - (l.length:Int)))):=hb.step hs1 hrs (by omega)
   have hA2:=alloc_two (y.setCell ⟨gb,0,none⟩ (.int .i64 ((L:Int) - (l.length:Int)))) (.cells #[.pointer (some ⟨gb,0,none⟩)] 122) (.cells #[.int .i64 D] 3)
   have r3:Row (((y.setCell ⟨gb,0,none⟩ (.int .i64 ((L:Int) - (l.length:Int)))).alloc (.cells #[.pointer (some ⟨gb,0,none⟩)] 122)).alloc (.cells #[.int .i64 D] 3)) y.heap.size 122 [.pointer (some ⟨gb,0,none⟩)]:=by
    have:=(Row.new (y.setCell ⟨gb,0,none⟩ (.int .i64 ((L:Int) - (l.length:Int)))) 122 [.pointer (some ⟨gb,0,none⟩)]).alloc (.cells #[.int .i64 D] 3)
    rw [hsz] at this
    exact this
   have r5:Row (((y.setCell ⟨gb,0,none⟩ (.int .i64 ((L:Int) - (l.length:Int)))).alloc (.cells #[.pointer (some ⟨gb,0,none⟩)] 122)).alloc (.cells #[.int .i64 D] 3)) (y.heap.size+1) 3 [.int .i64 (64 - (q:Int))]:=by
    have:=Row.new ((y.setCell ⟨gb,0,none⟩ (.int .i64 ((L:Int) - (l.length:Int)))).alloc (.cells #[.pointer (some ⟨gb,0,none⟩)] 122)) 3 [.int .i64 D]
    rw [size_alloc,hsz,hD2] at this
    rw [hD2]
    exact this
   have hKb:=below_le hA2 hbod.env.C
   have D0:Hid (Calls Tryz.prog 86 #[.slice ao l.length cap,.func (.func 87) #[] #[.pointer (some ⟨y.heap.size,0,none⟩),.pointer (some ⟨y.heap.size+1,0,none⟩)]] (((y.setCell ⟨gb,0,none⟩ (.int .i64 ((L:Int) - (l.length:Int)))).alloc (.cells #[.pointer (some ⟨gb,0,none⟩)] 122)).alloc (.cells #[.int .i64 D] 3)) fun ev w'=>ev=.returned (.bool B)/\Stay (fun k=>k=gb) y w'/\Spent gb B L (cnt n l) w'):=by
    refine (allStmts_of (ih q (by omega)) (hbod.below hA2) r3 r5 (by omega) (by omega) (ha.mono (hset.trans hKb) fun _ _ _ h=>h.below (hset.trans hKb)) B (by
     rw [hB,cnt_eq]
     exact ⟨fun h=>⟨h.1,by omega⟩,fun h=>⟨h.1,by omega⟩⟩)).mono ?_
    rintro _ _ ⟨rfl,h2,L2,hr2,hm2,he2⟩
    exact ⟨rfl,(hs1.trans (Stay.of_below hA2)).trans h2,L2,hr2,hm2,fun h=>by have:=he2 h;rw [cnt_eq];omega⟩
   clear hb ha hB HR HA hA ih hset e1 hrs hs1 hsz hbod hA2 r3 r5 hKb hD hD2
   go_enter Tryz.func55,Tryz.ntmps55
   go_wp2_with (go_at_call 86;refine D0.out.mono ?_;rintro ev w2 ⟨rfl,h2,h3⟩)
   go_ret
   exact ⟨rfl,h2,h3⟩
  ·have b1:decide ((L:Int)<(l.length:Int))=true:=by simp;omega
   have b2:(L:Int)<(l.length:Int):=by omega
   obtain rfl:=bool_false hB (fun h=>by have:=h.2;rw [cnt_eq] at this;omega)
   have HS:Hid (Spent gb false L (cnt n l) ((y.alloc (.cells #[.pointer (some ⟨gb,0,none⟩)] 122)).alloc (.cells #[.int .i64 D] 3))):=⟨L,HR.out,hLm,fun h=>by cases h⟩
   clear hb ha hB HR hA ih hD hD2
   go_enter Tryz.func55,Tryz.ntmps55
   go_wp2_with fail
   go_ret
   exact ⟨rfl,HA.out,HS.out⟩

set_option maxHeartbeats 4000000
theorem Stay.wide {X Y:Nat->Prop} {w w':World} (h:Stay X w w') (hy:∀ k,X k->Y k):Stay Y w w':=⟨h.os,h.tape,h.output,h.size,fun k hk hn=>h.block k hk (fun hx=>hn (hy k hx))⟩
theorem within_of {n m:Nat} (hm:m<=64) (ih:BlkC n m) {K:Ctx} {y:World} {gb L g3 g5:Nat} {v:Value} {l:List St} (hb:Bod K gb L y) (r3:Row y g3 122 [.pointer (some ⟨gb,0,none⟩)]) (r5:Row y g5 3 [.int .i64 (64 - (m:Int))])
  (ha:Ar 32 496 (StAt n K y) K y v l) (B:Bool) (hB:B=true↔MayBlk m l/\cnt n l<=L) :
  Calls Tryz.prog 108 #[v,.pointer (some ⟨g3,0,none⟩),.pointer (some ⟨g5,0,none⟩)] y fun ev y'=>ev=.returned (.bool B)/\Stay (fun k=>k=gb) y y'/\Spent gb B L (cnt n l) y':=by
 have D:Hid (Calls Tryz.prog 55 #[.pointer (some ⟨gb,0,none⟩),v,.int .i64 (65 - (m:Int))] y fun ev y'=>ev=.returned (.bool B)/\Stay (fun k=>k=gb) y y'/\Spent gb B L (cnt n l) y'):=ih hb ha B hB
 have c3:y.cell? ⟨g3,0,none⟩=some (.pointer (some ⟨gb,0,none⟩)):=r3.cell 0
 obtain ⟨dd,hd⟩:∃ dd:Int,dd=64 - (m:Int):=⟨_,rfl⟩
 have c5:y.cell? ⟨g5,0,none⟩=some (.int .i64 dd):=by rw [hd];exact r5.cell 0
 have w1:IntKind.i64.wrap (dd+1)=dd+1:=wrap_small (by omega) (by omega)
 have i1:-9223372036854775808<=dd:=by omega
 have i2:dd<100:=by omega
 have e1:65 - (m:Int)=dd+1:=by omega
 rw [e1] at D
 obtain ⟨ao,cap,rfl⟩:=ha.form
 clear ha hb r3 r5 hB ih hd e1
 go_enter Tryz.func108,Tryz.ntmps108
 go_wp2_with (go_at_call 55;refine D.out.mono ?_;rintro ev w2 ⟨rfl,h2,h3⟩)
 go_ret
 exact ⟨rfl,h2,h3⟩
theorem takeBlock_of {n m:Nat} (hm:m<=64) (ih:BlkC n m) {K:Ctx} {y:World} {gb L g3 g5 gs t o:Nat} {v:Value} {l:List St} {A R:List Value} (hb:Bod K gb L y) (r3:Row y g3 122 [.pointer (some ⟨gb,0,none⟩)]) (r5:Row y g5 3 [.int .i64 (64 - (m:Int))])
  (hr:Row y gs t (A ++ ([v] ++ R))) (ho:A.length=o) (hne:gs≠gb) (ha:Ar 32 496 (StAt n K y) K y v l) (B:Bool) (hB:B=true↔MayBlk m l/\cnt n l<=L) :
  Calls Tryz.prog 120 #[.pointer (some ⟨gs,o,none⟩),.func (.func 108) #[] #[.pointer (some ⟨g3,0,none⟩),.pointer (some ⟨g5,0,none⟩)]] y fun ev y'=>ev=.returned (.bool B)/\Row y' gs t (A ++ ([.slice none 0 0] ++ R))/\Stay (fun k=>k=gs∨k=gb) y y'/\Spent gb B L (cnt n l) y':=by
 have D:=within_of hm ih hb r3 r5 ha B hB
 obtain ⟨ao,cap,rfl⟩:=ha.form
 have c0:y.cell? ⟨gs,o,none⟩=some (.slice ao l.length cap):=by
  rw [hr.cell o,← Nat.add_zero o,sub_of A [.slice ao l.length cap] R ho 0 (by simp)];rfl
 have HR:Hid (∀ w2,Stay (fun k=>k=gb) y w2->Spent gb B L (cnt n l) w2->w2.cell? ⟨gs,o,none⟩=some (.slice ao l.length cap)/\w2.frozen? ⟨gs,o,none⟩=false/\Row (w2.setCell ⟨gs,o,none⟩ (.slice none 0 0)) gs t (A ++ ([.slice none 0 0] ++ R))/\Stay (fun k=>k=gs∨k=gb) y (w2.setCell ⟨gs,o,none⟩ (.slice none 0 0))/\Spent gb B L (cnt n l) (w2.setCell ⟨gs,o,none⟩ (.slice none 0 0))):=by
  intro w2 hs hsp
  have hr2:=hs.row hr hne
  have h3:=Row.setCells [.slice none 0 0] [.slice ao l.length cap] A R w2 o hr2 ho rfl
  have hS:Stay (fun k=>k=gs∨k=gb) w2 (w2.setCell ⟨gs,o,none⟩ (.slice none 0 0)):=(Stay.refl (fun k=>k=gs∨k=gb) w2).set (fun _=>.inl rfl) _ _
  obtain ⟨L',q1,q2,q3⟩:=hsp
  refine ⟨?_,hr2.fz o,h3,?_,L',q1.other (fun h=>hne h.symm) _,q2,q3⟩
  ·rw [hr2.cell o,← Nat.add_zero o,sub_of A [.slice ao l.length cap] R ho 0 (by simp)];rfl
  ·exact (hs.wide (Y:=fun k=>k=gs∨k=gb) fun _ h=>.inr h).trans hS
 have HD:=hid0 D
 clear D ha hb r3 r5 hB ih hr
 go_enter Tryz.func120,Tryz.ntmps120
 go_wp2_with (go_at_call 108;refine HD.out.mono ?_;rintro ev w2 ⟨rfl,h2,h3⟩;obtain ⟨k1,k2,k3,k4,k5⟩:=HR.out w2 h2 h3;clear h2 h3 HR HD)
 go_ret
 exact ⟨rfl,k3,k4,k5⟩
theorem haveBlock_of {n m:Nat} (hm:m<=64) (ih:BlkC n m) {K:Ctx} {y:World} {gb L g3 g5 gs t:Nat} {v:Value} {l:List St} {h:Bool} {A M:List Value} (hb:Bod K gb L y) (r3:Row y g3 122 [.pointer (some ⟨gb,0,none⟩)]) (r5:Row y g5 3 [.int .i64 (64 - (m:Int))])
  (hr:Row y gs t (A ++ ([.bool h] ++ (M ++ ([v] ++ []))))) (hA:A.length=8) (hM:M.length=22) (hne:gs≠gb) (h3:gs≠g3) (h5:gs≠g5) (hg:K.C<=gs) (ha:Ar 32 496 (StAt n K y) K y v l) (B:Bool) (hB:B=true↔(h=true->MayBlk m l/\cnt n l<=L)) :
  Calls Tryz.prog 117 #[.pointer (some ⟨gs,0,none⟩),.pointer (some ⟨gs,31,none⟩),.func (.func 108) #[] #[.pointer (some ⟨g3,0,none⟩),.pointer (some ⟨g5,0,none⟩)]] y fun ev y'=>ev=.returned (.bool B)/\Row y' gs t (A ++ ([.bool false] ++ (M ++ ([if h then .slice none 0 0 else v] ++ []))))/\Stay (fun k=>k=gs∨k=gb) y y'/\Spent gb B L (if h then cnt n l else 0) y':=by
 have c8:y.cell? ⟨gs,8,none⟩=some (.bool h):=by
  rw [hr.cell 8]
  exact sub_of A [.bool h] (M ++ ([v] ++ [])) hA 0 (by simp)
 have z8:=hr.fz 8
 have hr2:=have_rows hr hA false
 have hS:Stay (fun k=>k=gs∨k=gb) y (y.setCell ⟨gs,8,none⟩ (.bool false)):=(Stay.refl (fun k=>k=gs∨k=gb) y).set (fun _=>.inl rfl) 8 (.bool false)
 have hbl:=below_set hg 8 (.bool false) hb.env.C
 have hrb:Row (y.setCell ⟨gs,8,none⟩ (.bool false)) gb 89 [.int .i64 (L:Int)]:=hb.row.other (fun h=>hne h.symm) _
 cases h
 ·obtain rfl:=bool_true hB (fun h=>by cases h)
  have HR:=hid0 hr2
  have HS:=hid0 hS
  have HP:Hid (Spent gb true L 0 (y.setCell ⟨gs,8,none⟩ (.bool false))):=⟨L,hrb,hb.most,fun _=>rfl⟩
  clear hr hr2 hS hbl hB hb ha r3 r5 hrb ih
  go_enter Tryz.func117,Tryz.ntmps117
  go_wp2_with fail
  go_ret
  exact ⟨rfl,HR.out,HS.out,HP.out⟩
 ·have hr3:Row (y.setCell ⟨gs,8,none⟩ (.bool false)) gs t ((A ++ ([.bool false] ++ M)) ++ ([v] ++ [])):=by
   have:=hr2
   simp only [List.append_assoc] at this ⊢
   exact this
  have D:Hid (Calls Tryz.prog 120 #[.pointer (some ⟨gs,31,none⟩),.func (.func 108) #[] #[.pointer (some ⟨g3,0,none⟩),.pointer (some ⟨g5,0,none⟩)]] (y.setCell ⟨gs,8,none⟩ (.bool false)) fun ev w'=>ev=.returned (.bool B)/\Row w' gs t (A ++ ([.bool false] ++ (M ++ ([.slice none 0 0] ++ []))))/\Stay (fun k=>k=gs∨k=gb) y w'/\Spent gb B L (cnt n l) w'):=by
   refine (takeBlock_of hm ih (K:=K) ⟨hb.env.below hbl,hrb,hb.hi,hb.most⟩ (r3.other (fun h=>h3 h.symm) _) (r5.other (fun h=>h5 h.symm) _) hr3 (by simp [hA,hM]) hne (ha.mono hbl fun _ _ _ h=>h.below hbl) B (by rw [hB];exact ⟨fun h=>h rfl,fun h _=>h⟩)).mono ?_
   rintro _ _ ⟨rfl,hr4,hs4,hp4⟩
   refine ⟨rfl,?_,hS.trans hs4,hp4⟩
   simp only [List.append_assoc] at hr4
   exact hr4
  clear hr hr2 hr3 hS hbl hB hb ha r3 r5 hrb ih
  go_enter Tryz.func117,Tryz.ntmps117
  go_wp2_with (go_at_call 120;refine D.out.mono ?_;rintro ev w2 ⟨rfl,h2,h3,h4⟩)
  go_ret
  exact ⟨rfl,h2,h3,h4⟩
end Go.Proofs.YtjenmmkamhplkaaGreat
