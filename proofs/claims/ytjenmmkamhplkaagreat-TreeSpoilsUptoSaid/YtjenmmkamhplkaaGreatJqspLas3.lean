/- Part of the proof. -/
import Derived.Test.YtjenmmkamhplkaaGreatJqspSub5
import Derived.Test.YtjenmmkamhplkaaGreatQqspWlk
namespace Go.Proofs.YtjenmmkamhplkaaGreat
open Go.RowKit
section
variable {P:Program} {ops:Array Oper} {Q:Exit->Act->World->Prop} {md:Region.Mode} {S:World->Prop} {n:Nat}
def wpAnyL (P:Program) (md:Region.Mode) (ops:Array Oper) (Q:Exit->Act->World->Prop) (S:World->Prop) (n:Nat):Nat->Array Bool->Act->World->Prop
 | 0,l,a,w=>Region.ready md ops l=[]/\Q .normal a w
 | f+1,l,a,w=>(Region.ready md ops l=[]->Q .normal a w)/\∀ i∈Region.ready md ops l,wpOp P ops Q i (fun a' w'=>(i≠n->S w')/\wpAnyL P md ops Q S n f (l.setIfInBounds i true) a' w') a w
theorem wpAny_ofL (f:Nat):∀ (l:Array Bool) (a:Act) (w:World),wpAnyL P md ops Q S n f l a w->wpAny P md ops Q f l a w:=by
 induction f with
 | zero=>exact fun l a w h=>h
 | succ f ih=>exact fun l a w h=>⟨h.1,fun i hi=>wpOp_mono (fun a' w' h'=>ih _ _ _ h'.2) (h.2 i hi)⟩
def waits (md:Region.Mode) (ops:Array Oper) (n i:Nat):Bool:=match ops[n]? with
 | some o=>o.after.toList.any fun e=>Region.binds md e && e.on == i
 | none=>true
theorem not_ready {l:Array Bool} {i:Nat} (hw:waits md ops n i=true) (hi:i∈Region.ready md ops l):n ∉ Region.ready md ops l:=by
 intro hn
 obtain ⟨_,o,ho,hall⟩:=mem_ready.1 hn
 unfold waits at hw
 rw [ho] at hw
 obtain ⟨e,he,hb⟩:=List.any_eq_true.1 hw
 rw [Bool.and_eq_true] at hb
 have h1:=hall e (by simpa using he) hb.1
 have h0:=(mem_ready.1 hi).1
 rw [beq_iff_eq.1 hb.2] at h1
 rcases Nat.lt_or_ge i l.size with h|h
 ·simp [h] at h0 h1;rw [h0] at h1;cases h1
 ·simp [Array.getElem?_eq_none h] at h1
theorem firstL {i:Nat} {oi:Oper} {v:Value} (hi:ops[i]?=some oi) (hne:i≠n) (hw:waits md ops n i=true) (hsel:∀ (j:Nat) (o:Oper) cs b,ops[j]?=some o->o.op≠.select cs b)
  (hQ:∀ c a w,Q (.panic c) (a.put oi.dst v) w->Q (.panic c) a w) (f:Nat) :
  ∀ (l:Array Bool) (a:Act) (w:World),
   (∀ j oj,ops[j]?=some oj->j≠i->l.getD j true=false->(∀ e∈oj.after,Region.binds md e=true->e.on≠i)->oi.apart ops oj=true) ->
   i∈Region.ready md ops l->YieldsIf P ops S oi v a->S w ->
   wpAnyL P md ops Q S n f (l.setIfInBounds i true) (a.put oi.dst v) w->wpAnyL P md ops Q S n (f+1) l a w:=by
 induction f with
 | zero =>
  intro l a w _ hr hy hS H
  refine ⟨fun h=>(by rw [h] at hr;cases hr),fun j hj=>?_⟩
  by_cases hji:j=i
  ·subst hji
   exact hy.wpOp hi hS ⟨fun _=>hS,H⟩
  ·have h0:=ready_mono hj hji
   rw [H.1] at h0
   cases h0
 | succ f ih =>
  intro l a w hfree hr hy hS H
  refine ⟨fun h=>(by rw [h] at hr;cases hr),fun j hj=>?_⟩
  by_cases hji:j=i
  ·subst hji
   exact hy.wpOp hi hS ⟨fun _=>hS,H⟩
  ·have hjn:j≠n:=fun e=>not_ready hw hr (e ▸ hj)
   obtain ⟨hjl,oj,hoj,hall⟩:=mem_ready.1 hj
   have hapart:oi.apart ops oj=true:=by
    refine hfree j oj hoj hji hjl (fun e he hb heq=>?_)
    have h1:=hall e he hb
    have h0:=(mem_ready.1 hr).1
    rw [heq] at h1
    rcases Nat.lt_or_ge i l.size with h'|h'
    ·simp [h'] at h0 h1;rw [h0] at h1;cases h1
    ·simp [Array.getElem?_eq_none h'] at h1
   have hput:=wpOp_putIf hoj hapart (fun cs b=>hsel i oi cs b hi) (fun cs b=>hsel j oj cs b hoj) hQ hy (H.2 j (ready_mono hj hji))
   refine wpOp_mono (fun a' w' h3=>⟨fun _=>h3.2.1 hjn,ih (l.setIfInBounds j true) a' w' (fun k ok hk hki hun hno=>hfree k ok hk hki ?_ hno) (ready_mono hr (Ne.symm hji)) h3.1 (h3.2.1 hjn) ?_⟩) hput
   ·by_cases hjk:j=k
    ·subst hjk;exact hjl
    ·rw [getD_set_ne true hjk] at hun;exact hun
   ·rw [Array.setIfInBounds_comm _ _ hji]
    exact h3.2.2
theorem takeL (i:Nat) {oi:Oper} {v:Value} {f:Nat} {l:Array Bool} {a:Act} {w:World} (hi:ops[i]?=some oi) (d:Option Tmp) (hd:oi.dst=d) (hne:i≠n) (hw:waits md ops n i=true)
  (hs:Region.noSelect ops=true) (hf:Region.free md ops l i=true) (hr:(Region.ready md ops l).contains i=true)
  (hQ:∀ c a w,Q (.panic c) (a.put d v) w->Q (.panic c) a w) (hy:YieldsIf P ops S oi v a) (hS:S w)
  (h:wpAnyL P md ops Q S n f (l.setIfInBounds i true) (a.put d v) w):wpAnyL P md ops Q S n (f+1) l a w:=by
 subst hd
 exact firstL hi hne hw (Region.noSelect_spec hs) hQ f l a w (Region.free_spec hi hf) (by simpa using hr) hy hS h
def ReadyL (P:Program) (md:Region.Mode) (ops:Array Oper) (Q:Exit->Act->World->Prop) (S:World->Prop) (n f:Nat) (l:Array Bool) (a:Act) (w:World) (rs:List Nat):Prop :=
 ∀ i∈rs,wpOp P ops Q i (fun a' w'=>(i≠n->S w')/\wpAnyL P md ops Q S n f (l.setIfInBounds i true) a' w') a w
theorem ReadyL.nil {f:Nat} {l:Array Bool} {a:Act} {w:World}:ReadyL P md ops Q S n f l a w []:=fun _ h=>by cases h
theorem ReadyL.cons {f:Nat} {l:Array Bool} {a:Act} {w:World} {i:Nat} {o:Oper} {rs:List Nat} (ho:ops[i]?=some o)
  (h:∀ K':Act->World->Prop,Shut (∀ a w,(i≠n->S w)->((i≠n->S w)->wpAnyL P md ops Q S n f (l.setIfInBounds i true) a w)->K' a w)->if Region.wanted o (yielded ops a.tmps)=true then Oper.wp P o a w K' Q else K' (a.put o.dst undef) w)
  (hs:ReadyL P md ops Q S n f l a w rs):ReadyL P md ops Q S n f l a w (i :: rs):=fun j hj=>by
 rcases List.mem_cons.1 hj with rfl|hj
 ·exact wpOp_step ho (fun K' hK=>h K' (fun a w hS hW=>hK a w ⟨hS,hW hS⟩))
 ·exact hs j hj
theorem readyL {rs:List Nat} {f:Nat} {l:Array Bool} {a:Act} {w:World} (hr:Region.ready md ops l=rs) (hne:rs≠[]) (h:ReadyL P md ops Q S n f l a w rs):wpAnyL P md ops Q S n (f+1) l a w :=
 ⟨fun h0=>absurd (hr ▸ h0) hne,hr ▸ h⟩
theorem doneL {l:Array Bool} {a:Act} {w:World} (hr:Region.ready md ops l=[]) (h:Q .normal a w):∀ f,wpAnyL P md ops Q S n f l a w
 | 0=>⟨hr,h⟩
 | _+1=>⟨fun _=>h,by rw [hr];simp⟩
theorem beginL {id:Nat} {a:Act} {w:World} (S:World->Prop) (n:Nat) (hm:P.follows .mixedOrders=true) (hS:S w.drew) (h:S w.drew->wpAnyL P .any ops Q S n ops.size (Array.replicate ops.size false) a w.drew):(Code.region id ops true).wp P Q a w :=
 wp_region_any hm (wpAny_ofL _ _ _ _ (h hS))
end

theorem want {c p q:Prop} [Decidable c] (hc:c) (h:p):if c then p else q:=by rw [if_pos hc];exact h
theorem below_grown {B:Nat} {w w':World} {row:Option Nat} (h:w.grownBy w' row) (hB:B<=w.heap.size) (hr:∀ k,row=some k->B<=k):Below B w w' :=
 (Below.refl B w).grown h hB hr
theorem own_same' {w w':World} {B t s n:Nat} {v:Value} {xs:List Value} (h:w.ownsRow B t s v n xs) (hs:∀ k,v.ownBlock=some k->w'.heap[k]?=w.heap[k]?):w'.ownsRow B t s v n xs:=by
 refine ⟨h.1,?_⟩
 rcases h.2 with hn|⟨g,cap,cur,rfl,hb,hgg,rest⟩
 ·exact .inl hn
 ·exact .inr ⟨g,cap,cur,rfl,hb,by rw [hs g rfl];exact hgg,rest⟩
theorem own_past' {w w':World} {B t s n:Nat} {v:Value} {xs:List Value} (h:w.ownsRow B t s v n xs) (hb:Below w.heap.size w w'):w'.ownsRow B t s v n xs :=
 own_same' h (fun k e=>hb.block k (h.lt k e).2)
theorem own_mono {w:World} {B B' t s n:Nat} {v:Value} {xs:List Value} (h:w.ownsRow B t s v n xs) (hb:B'<=B):w.ownsRow B' t s v n xs:=by
 refine ⟨h.1,?_⟩
 rcases h.2 with hn|⟨g,cap,cur,e,h1,h2⟩
 ·exact .inl hn
 ·exact .inr ⟨g,cap,cur,e,Nat.le_trans hb h1,h2⟩
def strs (l:List Bs):List Value:=l.map fun s=>.string (str s)
theorem strs_snoc (l:List Bs) (s:Bs):strs (l ++ [s])=strs l ++ [.string (str s)]:=by simp [strs]
theorem Tryz.info9z:(Tryz.prog.info? 9).map (fun i=>(i.zero,i.size,i.bytes))=some (some (.string ⟨#[]⟩),1,16):=by kernel_rfl
theorem wpo_app9 {o:Oper} {a:Act} {K:Act->World->Prop} {Q:Exit->Act->World->Prop} {w:World} {B:Nat} {v:Value} {T:List Bs} (s x:Operand)
  (ho:o.op=.call { callee:=.builtin .append,args:=#[s,x],argTypes:=#[28,28] }) (hs:a.eval s=v) (hown:w.ownsRow B 9 1 v T.length (strs T)) (hB:B<=w.heap.size)
  (g c:Nat) (t:Bs) (hx:a.eval x=.slice (some ⟨g,0,none⟩) 1 c) (hr:w.cell? ⟨g,0,none⟩=some (.string (str t))) (hn:T.length<=10000000)
  (k:∀ v' w',w'.ownsRow B 9 1 v' (T ++ [t]).length (strs (T ++ [t]))->Below B w w'->(∃ ao n cap,v'=.slice ao n cap)->w.grownBy w' v.ownBlock->K (a.put o.dst v') w'):Oper.wp Tryz.prog o a w K Q:=by
 obtain ⟨i0,hi,hz0,hz1,hz2⟩:=info_parts Tryz.info9z
 obtain ⟨v',w',hrr,h2,h3,h4,h5⟩:=run_append_own_at (P:=Tryz.prog) w B 28 o.type 9 i0 (.string ⟨#[]⟩) 1 16 Tryz.underlying28 hi hz0 hz1 hz2 rfl (by decide) _ _ _ hown ⟨g,0,none⟩ 1 c [.string (str t)] rfl (fun j u hj=>by
  rcases j with _|j
  ·rw [addr_add];simp at hj;subst hj;exact hr
  ·simp at hj) (fun u hu=>by simp at hu;subst hu;rfl) (by unfold maxLen;omega) (by omega) hB
 unfold Oper.wp execOp
 simp only [ho,resolve,invoke,builtin,Sem.run_bind,Sem.run_pure,Result.andThen_ok,List.map_toArray,List.map_cons,List.map_nil,hs,hx,hrr]
 refine k v' w' ?_ (below_grown h3 hB (fun k e=>(hown.lt k e).1)) ?_ ?_
 ·rw [strs_snoc,List.length_append];exact h2
 ·rcases h2.2 with ⟨e,_⟩|⟨g,cap,cur,e,_⟩
  ·exact ⟨_,_,_,e⟩
  ·exact ⟨_,_,_,e⟩
 ·exact h3
theorem clone_any (l:List UInt8) (hl:l.length<=140737488355328) (w:World):Calls Tryz.prog 44 #[.string (str l)] w fun ev w'=>ev=.returned (.string (str l))/\Below w.heap.size w w':=by
 have C:=Tryz.stringslite_Clone (str l) w (by rw [str_size];omega)
 generalize str l=S at *
 go_enter Tryz.func44,Tryz.ntmps44
 go_wp2_with fail
 refine C.mono ?_
 rintro ev w2 ⟨rfl,hb⟩
 clear C
 go_wp2_with fail
 go_ret
 exact ⟨rfl,hb⟩
structure Nm (gn B:Nat) (T:List Bs) (y:World) (v:Value):Prop where
 row:Row y gn 28 [v]
 own:y.ownsRow B 9 1 v T.length (strs T)
 lt:gn<B
 B:B<=y.heap.size
 few:T.length<=10000000
 form:∃ ao n cap,v=.slice ao n cap
set_option maxHeartbeats 8000000 in
set_option maxRecDepth 20000 in
theorem name1_let {gn B:Nat} {T:List Bs} {y:World} {v:Value} (h:Nm gn B T y v) (b o:Nat) (s:Bs) (hs:s.length<=140737488355328) (hb:b<B)
  (c0:y.cell? ⟨b,o,none⟩=some (.int .i64 1)) (c3:y.cell? ⟨b,o+3,none⟩=some (.string (str s))) :
  Calls Tryz.prog 45 #[.pointer (some ⟨b,o,none⟩),.pointer (some ⟨gn,0,none⟩)] y fun ev y'=>ev=.returned (.tuple #[])/\Stay (fun k=>k=gn∨B<=k) y y'/\∃ v',Row y' gn 28 [v']/\y'.ownsRow B 9 1 v' (T ++ [s]).length (strs (T ++ [s]))/\∃ ao n cap,v'=.slice ao n cap:=by
 have HS:Hid (∀ z,Below B y z->z.cell? ⟨gn,0,none⟩=some v/\z.frozen? ⟨gn,0,none⟩=false/\z.cell? ⟨b,o+3,none⟩=some (.string (str s))/\Row z gn 28 [v]):=by
  intro z hz
  have r:=h.row.below hz h.lt
  exact ⟨r.cell 0,r.fz 0,by rw [hz.cell (p:=⟨b,o+3,none⟩) hb];exact c3,r⟩
 have HC:Hid (∀ z,Calls Tryz.prog 44 #[.string (str s)] z fun ev w'=>ev=.returned (.string (str s))/\Below z.heap.size z w'):=fun z=>clone_any s hs z
 have HN:Hid (Nm gn B T y v):=h
 have hBy:=h.B
 obtain ⟨ao,n,cap,hv⟩:=h.form
 subst hv
 clear c3 h
 generalize hS:str s=S at *
 go_enter Tryz.func45,Tryz.ntmps45
 go_wp2_with fail
 refine beginL (fun z=>Below B y z) 8 (by kernel_rfl) (Below.refl _ _).drew (fun hSd=>?_)
 have HY:Hid (∀ k,k<y.heap.size->y.drew.heap[k]?=y.heap[k]?):=fun _ _=>rfl
 generalize y.drew=yd at *
 refine takeL 0 (v:=?v0) rfl (some 8) rfl (by decide) (by kernel_rfl) (by kernel_rfl) (by kernel_rfl) (by kernel_rfl) (fun _ _ _ h=>h) (Or.inl ⟨by rfl,?h0⟩) hSd ?r0
 case h0=>(intro z hz;obtain ⟨k1,k2,k3,k4⟩:=HS.out z hz;go_simp;with_reducible rfl)
 simp only [Act.put,List.setIfInBounds_toArray,List.set_cons_zero,List.set_cons_succ]
 refine takeL 1 (v:=?v1) rfl (some 9) rfl (by decide) (by kernel_rfl) (by kernel_rfl) (by kernel_rfl) (by kernel_rfl) (fun _ _ _ h=>h) (Or.inl ⟨by rfl,?h1⟩) hSd ?r1
 case h1=>(intro z hz;go_simp;with_reducible rfl)
 simp only [Act.put,List.setIfInBounds_toArray,List.set_cons_zero,List.set_cons_succ]
 refine takeL 2 (v:=?v2) rfl (some 10) rfl (by decide) (by kernel_rfl) (by kernel_rfl) (by kernel_rfl) (by kernel_rfl) (fun _ _ _ h=>h) (Or.inl ⟨by rfl,?h2⟩) hSd ?r2
 case h2=>(intro z hz;go_simp;with_reducible rfl)
 simp only [Act.put,List.setIfInBounds_toArray,List.set_cons_zero,List.set_cons_succ]
 refine takeL 3 (v:=?v3) rfl (some 11) rfl (by decide) (by kernel_rfl) (by kernel_rfl) (by kernel_rfl) (by kernel_rfl) (fun _ _ _ h=>h) (Or.inl ⟨by rfl,?h3⟩) hSd ?r3
 case h3=>(intro z hz;go_simp;with_reducible rfl)
 simp only [Act.put,List.setIfInBounds_toArray,List.set_cons_zero,List.set_cons_succ]
 refine takeL 4 (v:=?v4) rfl (some 12) rfl (by decide) (by kernel_rfl) (by kernel_rfl) (by kernel_rfl) (by kernel_rfl) (fun _ _ _ h=>h) (Or.inl ⟨by rfl,?h4⟩) hSd ?r4
 case h4=>(intro z hz;obtain ⟨k1,k2,k3,k4⟩:=HS.out z hz;go_simp;with_reducible rfl)
 simp only [Act.put,List.setIfInBounds_toArray,List.set_cons_zero,List.set_cons_succ]
 refine readyL (rs:=[5]) (by kernel_rfl) (by simp) ?_
 refine ReadyL.cons rfl (fun K hK=>?_) ReadyL.nil
 refine want (by rfl) ?_
 go_simp
 refine (HC.out _).mono ?_
 rintro ev z1 ⟨rfl,hb1⟩
 have hS1:Below B y z1:=hSd.trans (below_le hb1 (Nat.le_trans hBy hSd.size))
 have O1:z1.ownsRow B 9 1 (.slice ao n cap) T.length (strs T):=own_past' (w:=yd) (own_same' HN.out.own (fun k e=>HY.out k (HN.out.own.lt k e).2)) hb1
 refine hK.out _ _ (fun _=>hS1) (fun _=>?_)
 clear hK K
 refine readyL (rs:=[6]) (by kernel_rfl) (by simp) ?_
 refine ReadyL.cons rfl (fun K hK=>?_) ReadyL.nil
 refine want (by rfl) ?_
 go_simp
 have hA1:=alloc_one z1 (.cells #[.string S] 9)
 have hS2:Below B y (z1.alloc (.cells #[.string S] 9)):=hS1.trans (below_le hA1 (Nat.le_trans hBy hS1.size))
 have O2:=O1.alloc (.cells #[.string S] 9)
 have c9:(z1.alloc (.cells #[.string S] 9)).cell? ⟨z1.heap.size,0,none⟩=some (.string (str s)):=by rw [hS];exact (Row.new z1 9 [.string S]).cell 0
 refine hK.out _ _ (fun _=>hS2) (fun _=>?_)
 clear hK K
 refine readyL (rs:=[7]) (by kernel_rfl) (by simp) ?_
 refine ReadyL.cons rfl (fun K hK=>?_) ReadyL.nil
 refine want (by rfl) ?_
 refine wpo_app9 _ _ rfl rfl O2 (Nat.le_trans hBy hS2.size) z1.heap.size 1 s rfl c9 HN.out.few ?_
 rintro v' z2 O3 hb3 ⟨ao3,n3,cap3,rfl⟩ _
 have hS3:=hS2.trans hb3
 obtain ⟨k1,k2,k3,k4⟩:=HS.out z2 hS3
 refine hK.out _ _ (fun _=>hS3) (fun _=>?_)
 clear hK K
 have HF:Hid (Stay (fun k=>k=gn∨B<=k) y (z2.setCell ⟨gn,0,none⟩ (.slice ao3 n3 cap3))/\Row (z2.setCell ⟨gn,0,none⟩ (.slice ao3 n3 cap3)) gn 28 [.slice ao3 n3 cap3]/\(z2.setCell ⟨gn,0,none⟩ (.slice ao3 n3 cap3)).ownsRow B 9 1 (.slice ao3 n3 cap3) (T ++ [s]).length (strs (T ++ [s]))):=by
  have hst:Stay (fun k=>k=gn∨B<=k) y z2:=⟨hS3.os,hS3.tape,hS3.output,hS3.size,fun k hk hn=>hS3.block k (by omega)⟩
  exact ⟨hst.set (fun _=>.inl rfl) _ _,k4.set 0 _,ownsRow_setCell_below O3 (show (⟨gn,0,none⟩:Addr).block<B from HN.out.lt) _⟩
 clear k3 k4 O1 O2 O3 c9 hA1 hS1 hS2 hS3 hb1 hb3 hSd HN HS HC HY
 refine readyL (rs:=[8]) (by kernel_rfl) (by simp) ?_
 refine ReadyL.cons rfl (fun K hK=>?_) ReadyL.nil
 refine want (by rfl) ?_
 go_simp
 refine hK.out _ _ (fun h=>absurd rfl h) (fun _=>?_)
 clear hK K
 refine doneL (by kernel_rfl) ?_ _
 go_end0
 exact ⟨rfl,HF.out.1,_,HF.out.2.1,HF.out.2.2,_,_,_,rfl⟩
theorem name1_not {y:World} (b o gn:Nat) (k:Int) (hk:k≠1) (c0:y.cell? ⟨b,o,none⟩=some (.int .i64 k)) :
  Calls Tryz.prog 45 #[.pointer (some ⟨b,o,none⟩),.pointer (some ⟨gn,0,none⟩)] y fun ev y'=>ev=.returned (.tuple #[])/\y'=y:=by
 have b1:(k == 1)=false:=by simpa using hk
 go_enter Tryz.func45,Tryz.ntmps45
 go_wp2_with fail
 go_end0
 exact ⟨rfl,rfl⟩
def letN (d:List St):List Bs:=(d.filter fun s=>decide (s.kind=1)).map St.name
theorem letN_snoc (d:List St) (s:St):letN (d ++ [s])=letN d ++ (if s.kind=1 then [s.name] else []):=by
 unfold letN
 rw [List.filter_append,List.map_append]
 congr 1
 by_cases h:s.kind=1 <;> simp [h]
theorem letN_len (d:List St):(letN d).length<=d.length:=by
 unfold letN
 rw [List.length_map]
 exact List.length_filter_le _ _
theorem lets_any {n:Nat} {K:Ctx} {w0:World} {gn B:Nat} {T0:List Bs} (hKB:K.C<=B) (hB0:B<=w0.heap.size) (hKg:K.C<=gn) {v:Value} {l:List St} (ha:Ar 32 496 (StAt n K w0) K w0 v l) (hm:T0.length+cnt n l<=10000000)
  {u:Value} (h:Nm gn B T0 w0 u) :
  Calls Tryz.prog 42 #[v,.func (.func 45) #[] #[.pointer (some ⟨gn,0,none⟩)]] w0 fun ev y'=>ev=.returned (.tuple #[])/\Stay (fun k=>k=gn∨B<=k) w0 y'/\∃ v',Nm gn B (T0 ++ letN (l.flatMap (ord n))) y' v':=by
 have hw:=walk45_all (K:=K) (w0:=w0) (c1:=.pointer (some ⟨gn,0,none⟩)) (most:=cnt n l)
  (P:=fun d y=>Stay (fun k=>k=gn∨B<=k) w0 y/\∃ v',Nm gn B (T0 ++ letN d) y v') (fun d y h=>h.1.below (Nat.le_trans hKB hB0) (fun k hk=>by omega))
  (fun d s y b o cs hP hd hc hbK hs=>by
   obtain ⟨hst,v',hn⟩:=hP
   obtain ⟨q,hs⟩:=hs
   cases q with
   | zero=>exact hs.elim
   | succ q =>
    obtain ⟨ts,ps,vs,os,vt,ve,rfl,h1,_⟩:=hs
    have c0:y.cell? ⟨b,o,none⟩=some (.int .i64 s.kind):=hc 0 (by decide)
    have c3:y.cell? ⟨b,o+3,none⟩=some (.string (str s.name)):=hc 3 (by decide)
    have hk:=hn.few
    have hsm:=K.small
    have hlen:=letN_len d
    rw [letN_snoc]
    by_cases hk1:s.kind=1
    ·rw [if_pos hk1,← List.append_assoc]
     rw [hk1] at c0
     refine (name1_let hn b o s.name (by omega) (by omega) c0 c3).mono ?_
     rintro _ z ⟨rfl,h2,v2,h3,h4,h5⟩
     have hsz:=h2.size
     have hBn:=hn.B
     refine ⟨rfl,hst.trans h2,v2,h3,h4,hn.lt,by omega,?_,h5⟩
     simp only [List.length_append,List.length_cons,List.length_nil]
     omega
    ·rw [if_neg hk1,List.append_nil]
     refine (name1_not b o gn s.kind hk1 c0).mono ?_
     rintro _ z ⟨rfl,rfl⟩
     exact ⟨rfl,hst,v',hn⟩)
  n v l [] w0 ha ⟨Stay.refl _ _,u,by simpa [letN] using h⟩ (by simp)
 refine hw.mono ?_
 rintro _ _ ⟨rfl,h1,v',h2⟩
 exact ⟨rfl,h1,v',by simpa using h2⟩

def namesF (n:Nat) (x:Fnc):List Bs:=x.params.map Fld.name ++ letN (x.body.flatMap (ord n))
set_option maxHeartbeats 8000000 in
set_option maxRecDepth 20000 in
theorem names_any {n:Nat} {K:Ctx} {w:World} (hC:K.C<=w.heap.size) {x:Fnc} {cs:List Value} (hx:FncAt n K w cs x) (hm:x.params.length+cnt n x.body<=10000000) :
  Calls Tryz.prog 21 #[.agg cs.toArray] w fun ev w'=>∃ v,ev=.returned v/\Below w.heap.size w w'/\w'.ownsRow w.heap.size 9 1 v (namesF n x).length (strs (namesF n x)):=by
 have hsm:=K.small
 obtain ⟨v2,v3,ts,v8,rfl,hl,hli,hpa,hre,hbo⟩:=hx
 obtain ⟨t2,m2,d2,t3,m3,d3,rfl⟩:=hre.open
 obtain ⟨lp,lc,rfl⟩:=hli.form
 obtain ⟨pp,pc,e3⟩:=hpa.form
 obtain ⟨bp,bc,e8⟩:=hbo.form
 subst e3 e8
 obtain ⟨_,_,e,hpc,hpb,hPA⟩:=hpa.shape
 injection e with e1 _ e2
 subst e1 e2
 have hl9:x.params.length<=9223372036854775807:=by omega
 have hA:=alloc_two w (.cells #[.bool x.pub,.string (str x.name),.slice lp x.lives.length lc,.slice pp x.params.length pc,.int .i64 x.result.kind,.string (str x.result.name),.slice t2 m2 d2,.slice t3 m3 d3,.slice bp x.body.length bc,.int .i64 x.pos] 40) (.cells #[.slice none 0 0] 28)
 have hKA:=below_le hA hC
 obtain ⟨w1,hw1⟩:∃ w1,w1=((w.alloc (.cells #[.bool x.pub,.string (str x.name),.slice lp x.lives.length lc,.slice pp x.params.length pc,.int .i64 x.result.kind,.string (str x.result.name),.slice t2 m2 d2,.slice t3 m3 d3,.slice bp x.body.length bc,.int .i64 x.pos] 40)).alloc (.cells #[.slice none 0 0] 28)):=⟨_,rfl⟩
 have hsz1:w1.heap.size=w.heap.size+2:=by rw [hw1,size_alloc,size_alloc]
 have r1:Row w1 (w.heap.size+1) 28 [.slice none 0 0]:=by
  have:=Row.new (w.alloc (.cells #[.bool x.pub,.string (str x.name),.slice lp x.lives.length lc,.slice pp x.params.length pc,.int .i64 x.result.kind,.string (str x.result.name),.slice t2 m2 d2,.slice t3 m3 d3,.slice bp x.body.length bc,.int .i64 x.pos] 40)) 28 [.slice none 0 0]
  rw [size_alloc] at this
  rw [hw1];exact this
 have rf:Row w1 w.heap.size 40 [.bool x.pub,.string (str x.name),.slice lp x.lives.length lc,.slice pp x.params.length pc,.int .i64 x.result.kind,.string (str x.result.name),.slice t2 m2 d2,.slice t3 m3 d3,.slice bp x.body.length bc,.int .i64 x.pos]:=by rw [hw1];exact (Row.new w 40 _).alloc _
 have hb1:Below w.heap.size w w1:=by rw [hw1];exact hA
 have hKC1:=below_le hb1 hC
 have HP:Hid (∀ i (h:i<x.params.length) (y:World),Below K.C w y->∃ b o,pp=some ⟨b,o,none⟩/\∃ cs,cs.length=6/\y.rangeAt b (o+i * 6) cs/\FldAt K y cs x.params[i]):=by
  intro i h y hy
  obtain ⟨b,o,e,hbC,cs,hl,hcs,hx⟩:=hPA i h
  refine ⟨b,o,e,cs,hl,fun j u hj=>?_,hx.below hy⟩
  have hj':j<6:=by rw [← hl];exact (List.getElem?_eq_some_iff.1 hj).1
  rw [hy.cell (p:=⟨b,o+i * 6+j,none⟩) hbC,hcs j hj']
  exact hj
 have N0:Hid (Nm (w.heap.size+1) (w.heap.size+2) [] w1 (.slice none 0 0)):=⟨r1,World.ownsRow_nil _ _ _ _,by omega,by omega,by simp,_,_,_,rfl⟩
 have HL:Hid (∀ (y:World) (T:List Bs) (u:Value),Stay (fun k=>k=w.heap.size+1∨w.heap.size+2<=k) w1 y->Nm (w.heap.size+1) (w.heap.size+2) T y u->T.length+cnt n x.body<=10000000 ->
   Calls Tryz.prog 42 #[.slice bp x.body.length bc,.func (.func 45) #[] #[.pointer (some ⟨w.heap.size+1,0,none⟩)]] y fun ev y'=>ev=.returned (.tuple #[])/\Stay (fun k=>k=w.heap.size+1∨w.heap.size+2<=k) w1 y'/\∃ v',Nm (w.heap.size+1) (w.heap.size+2) (T ++ letN (x.body.flatMap (ord n))) y' v'):=by
  intro y T u hst hn hT
  have hKy:Below K.C w y:=hKC1.trans (hst.below (by omega) (fun k hk=>by omega))
  refine (lets_any (n:=n) (K:=K) (by omega) hn.B (by omega) (hbo.mono hKy fun _ _ _ q=>q.below hKy) hT hn).mono ?_
  rintro _ _ ⟨rfl,h2,h3⟩
  exact ⟨rfl,hst.trans h2,h3⟩
 have HF:Hid (∀ y,Stay (fun k=>k=w.heap.size+1∨w.heap.size+2<=k) w1 y->Row y w.heap.size 40 [.bool x.pub,.string (str x.name),.slice lp x.lives.length lc,.slice pp x.params.length pc,.int .i64 x.result.kind,.string (str x.result.name),.slice t2 m2 d2,.slice t3 m3 d3,.slice bp x.body.length bc,.int .i64 x.pos]/\Below w.heap.size w y/\Below K.C w y):=by
  intro y hst
  refine ⟨hst.row rf (by omega),hb1.trans (hst.below (by omega) (fun k hk=>by omega)),hKC1.trans (hst.below (by omega) (fun k hk=>by omega))⟩
 have HM:Hid (x.params.length+cnt n x.body<=10000000):=hm
 have AW:Aside (w1=((w.alloc (.cells #[.bool x.pub,.string (str x.name),.slice lp x.lives.length lc,.slice pp x.params.length pc,.int .i64 x.result.kind,.string (str x.result.name),.slice t2 m2 d2,.slice t3 m3 d3,.slice bp x.body.length bc,.int .i64 x.pos] 40)).alloc (.cells #[.slice none 0 0] 28))):=hw1
 have HS1:Hid (w1.heap.size=w.heap.size+2):=hsz1
 have HSm:Hid (K.B<=140737488355328):=hsm
 clear hw1 hm hli hpa hre hbo hPA hA hKA r1 rf hb1 hKC1 hsz1 hsm hl
 have ho:namesF n x=x.params.map Fld.name ++ letN (x.body.flatMap (ord n)):=rfl
 rw [ho]
 generalize hLN:letN (x.body.flatMap (ord n))=LN at *
 clear hLN ho
 generalize hcn:cnt n x.body=cn at *
 clear hcn
 generalize x.pub=pb,str x.name=nm1,x.lives.length=l1,x.result.kind=rk,str x.result.name=rn1,x.body.length=l3,x.pos=ps at *
 have hmf:=hmf0
 go_enter Tryz.func21,Tryz.ntmps21
 go_wp2_with fail
 refine wp_at_world AW.out ?_
 go_loopw [9] (fun i wr=>∃ k:Nat,k<=x.params.length/\i=.int .i64 k/\Stay (fun k=>k=w.heap.size+1∨w.heap.size+2<=k) w1 wr/\∃ v,Nm (w.heap.size+1) (w.heap.size+2) ((x.params.take k).map Fld.name) wr v) (fun i _=>x.params.length - (intOf i).toNat)
 case atStart=>exact ⟨0,by omega,rfl,Stay.refl _ _,_,N0.out⟩
 case round =>
  obtain ⟨k,hk,rfl,hst,v,hn⟩:=hrel
  have HST:=hid0 hst
  have HN:=hid0 hn
  obtain ⟨ao,n4,cap,hv⟩:=hn.form
  subst hv
  clear hst hn N0
  by_cases h3:k<x.params.length
  ·obtain ⟨b,o,e,cs,hl,hr,hx⟩:=HP.out k h3 wr (HF.out wr HST.out).2.2
   subst e
   have hi:Hid ((Tryz.prog.info? 51).map (·.size)=some cs.length):=by show _=_;rw [hl];kernel_rfl
   have hi':Hid ((Tryz.prog.info? 51).map (·.size)=some cs.toArray.size):=by show _=_;rw [List.size_toArray];exact hi.out
   have hl':Hid (6=cs.toArray.size):=by show _=_;rw [List.size_toArray];exact hl.symm
   have h1:Hid (cs.toArray.all (·.oneCell')=true):=one_mem hx.one
   have hR:Hid (wr.rangeAt b (o+k * 6) cs):=hr
   have i1:(k:Int)<(x.params.length:Int):=by omega
   have hnl:(x.params[k]).name.length<=K.B/\cs[1]?=some (.string (str (x.params[k]).name)):=by
    obtain ⟨ts,rfl,h,_⟩:=hx
    exact ⟨h,rfl⟩
   have HC:Hid (∀ z,Calls Tryz.prog 44 #[.string (str (x.params[k]).name)] z fun ev w'=>ev=.returned (.string (str (x.params[k]).name))/\Below z.heap.size z w'):=fun z=>clone_any _ (by have:=HSm.out;omega) z
   have hAl:=alloc_one wr (.cells cs.toArray 51)
   have hRy:=HN.out.row.alloc (.cells cs.toArray 51)
   have hOy:=HN.out.own.alloc (.cells cs.toArray 51)
   have hBy:w.heap.size+2<=(wr.alloc (.cells cs.toArray 51)).heap.size:=Nat.le_trans HN.out.B hAl.size
   have hcy:(wr.alloc (.cells cs.toArray 51)).cell? ⟨wr.heap.size,1,none⟩=some (.string (str (x.params[k]).name)):=((Row.new wr 51 cs).cell 1).trans hnl.2
   obtain ⟨y,hy⟩:∃ y,y=wr.alloc (.cells cs.toArray 51):=⟨_,rfl⟩
   have AY:Aside (y=wr.alloc (.cells cs.toArray 51)):=hy
   rw [← hy] at hRy hOy hBy hcy
   have hsty:Stay (fun k=>k=w.heap.size+1∨w.heap.size+2<=k) w1 y:=by rw [hy];exact HST.out.alloc _
   have hlto:∀ q,(Value.slice ao n4 cap).ownBlock=some q->q<wr.heap.size:=fun q e=>(HN.out.own.lt q e).2
   have hsy:wr.heap.size<y.heap.size:=by rw [hy,size_alloc];omega
   clear hy hnl hx hl hr HP hAl
   have HS:Hid (∀ z,Below (w.heap.size+2) y z->z.cell? ⟨w.heap.size+1,0,none⟩=some (.slice ao n4 cap)/\z.frozen? ⟨w.heap.size+1,0,none⟩=false/\Row z (w.heap.size+1) 28 [.slice ao n4 cap]):=by
    intro z hz
    have r:=hRy.below hz (by omega)
    exact ⟨r.cell 0,r.fz 0,r⟩
   generalize hSS:str (x.params[k]).name=S at *
   go_wp2_with (first|(refine wpList_load_mid rfl 51 (.tmp 11) rfl b (o+k * 6) rfl cs _ hR.out Tryz.underlying51 rfl hi.out ?_)|(refine store_new rfl 51 (.tmp 5) (.tmp 12) rfl cs.toArray _ 51 rfl rfl hi'.out hl'.out h1.out ?_))
   refine wp_at_world AY.out ?_
   refine beginL (fun z=>Below (w.heap.size+2) y z/\z.cell? ⟨wr.heap.size,1,none⟩=some (.string S)) 6 (by kernel_rfl) ⟨(Below.refl _ _).drew,hcy⟩ (fun hSd=>?_)
   have HY:Hid (∀ q,q<y.heap.size->y.drew.heap[q]?=y.heap[q]?):=fun _ _=>rfl
   have HYs:Hid (y.drew.heap.size=y.heap.size):=rfl
   generalize y.drew=yd at *
   refine takeL 0 (v:=?v0) rfl (some 13) rfl (by decide) (by kernel_rfl) (by kernel_rfl) (by kernel_rfl) (by kernel_rfl) (fun _ _ _ h=>h) (Or.inl ⟨by rfl,?h0⟩) hSd ?r0
   case h0=>(intro z hz;obtain ⟨k1,k2,k4⟩:=HS.out z hz.1;go_simp;with_reducible rfl)
   simp only [Act.put,List.setIfInBounds_toArray,List.set_cons_zero,List.set_cons_succ]
   refine takeL 1 (v:=?v1) rfl (some 14) rfl (by decide) (by kernel_rfl) (by kernel_rfl) (by kernel_rfl) (by kernel_rfl) (fun _ _ _ h=>h) (Or.inl ⟨by rfl,?h1⟩) hSd ?r1
   case h1=>(intro z hz;go_simp;with_reducible rfl)
   simp only [Act.put,List.setIfInBounds_toArray,List.set_cons_zero,List.set_cons_succ]
   refine takeL 2 (v:=?v2) rfl (some 15) rfl (by decide) (by kernel_rfl) (by kernel_rfl) (by kernel_rfl) (by kernel_rfl) (fun _ _ _ h=>h) (Or.inl ⟨by rfl,?h2⟩) hSd ?r2
   case h2=>(intro z hz;have k5:=hz.2;go_simp;with_reducible rfl)
   simp only [Act.put,List.setIfInBounds_toArray,List.set_cons_zero,List.set_cons_succ]
   refine readyL (rs:=[3]) (by kernel_rfl) (by simp) ?_
   refine ReadyL.cons rfl (fun K hK=>?_) ReadyL.nil
   refine want (by rfl) ?_
   go_simp
   refine (HC.out _).mono ?_
   rintro ev z1 ⟨rfl,hb1⟩
   have hBd:w.heap.size+2<=yd.heap.size:=Nat.le_trans hBy hSd.1.size
   have hwd:wr.heap.size<yd.heap.size:=by have:=HYs.out;omega
   have hS1:Below (w.heap.size+2) y z1:=hSd.1.trans (below_le hb1 hBd)
   have cS1:z1.cell? ⟨wr.heap.size,1,none⟩=some (.string S):=by rw [hb1.cell (p:=⟨wr.heap.size,1,none⟩) hwd];exact hSd.2
   have O1:z1.ownsRow (w.heap.size+2) 9 1 (.slice ao n4 cap) ((x.params.take k).map Fld.name).length (strs ((x.params.take k).map Fld.name)):=own_past' (w:=yd) (own_same' hOy (fun q e=>HY.out q (hOy.lt q e).2)) hb1
   have hw1z:wr.heap.size<z1.heap.size:=Nat.lt_of_lt_of_le hwd hb1.size
   refine hK.out _ _ (fun _=>⟨hS1,cS1⟩) (fun _=>?_)
   clear hK K
   refine readyL (rs:=[4]) (by kernel_rfl) (by simp) ?_
   refine ReadyL.cons rfl (fun K hK=>?_) ReadyL.nil
   refine want (by rfl) ?_
   go_simp
   have hA1:=alloc_one z1 (.cells #[.string S] 9)
   have hS2:Below (w.heap.size+2) y (z1.alloc (.cells #[.string S] 9)):=hS1.trans (below_le hA1 (Nat.le_trans hBd hb1.size))
   have cS2:(z1.alloc (.cells #[.string S] 9)).cell? ⟨wr.heap.size,1,none⟩=some (.string S):=by rw [hA1.cell (p:=⟨wr.heap.size,1,none⟩) hw1z];exact cS1
   have O2:=O1.alloc (.cells #[.string S] 9)
   have c9:(z1.alloc (.cells #[.string S] 9)).cell? ⟨z1.heap.size,0,none⟩=some (.string (str (x.params[k]).name)):=by rw [hSS];exact (Row.new z1 9 [.string S]).cell 0
   refine hK.out _ _ (fun _=>⟨hS2,cS2⟩) (fun _=>?_)
   clear hK K
   refine readyL (rs:=[5]) (by kernel_rfl) (by simp) ?_
   refine ReadyL.cons rfl (fun K hK=>?_) ReadyL.nil
   refine want (by rfl) ?_
   refine wpo_app9 _ _ rfl rfl O2 (Nat.le_trans (Nat.le_trans hBd hb1.size) hA1.size) z1.heap.size 1 (x.params[k]).name rfl c9 HN.out.few ?_
   rintro v' z2 O3 hb3 ⟨ao3,n3,cap3,rfl⟩ hgr
   have hS3:=hS2.trans hb3
   have cS3:z2.cell? ⟨wr.heap.size,1,none⟩=some (.string S):=hgr.cell cS2 (fun e=>Nat.lt_irrefl _ (hlto wr.heap.size e.symm))
   obtain ⟨k1,k2,k4⟩:=HS.out z2 hS3
   refine hK.out _ _ (fun _=>⟨hS3,cS3⟩) (fun _=>?_)
   clear hK K
   have HFn:Hid (Stay (fun k=>k=w.heap.size+1∨w.heap.size+2<=k) w1 (z2.setCell ⟨w.heap.size+1,0,none⟩ (.slice ao3 n3 cap3))/\Nm (w.heap.size+1) (w.heap.size+2) ((x.params.take (k+1)).map Fld.name) (z2.setCell ⟨w.heap.size+1,0,none⟩ (.slice ao3 n3 cap3)) (.slice ao3 n3 cap3)):=by
    have hst:Stay (fun k=>k=w.heap.size+1∨w.heap.size+2<=k) y z2:=⟨hS3.os,hS3.tape,hS3.output,hS3.size,fun q hq hn=>hS3.block q (by omega)⟩
    have e1:(x.params.take (k+1)).map Fld.name=(x.params.take k).map Fld.name ++ [(x.params[k]).name]:=by
     rw [List.take_add_one,List.getElem?_eq_getElem h3,List.map_append];rfl
    have hfin:Stay (fun k=>k=w.heap.size+1∨w.heap.size+2<=k) w1 (z2.setCell ⟨w.heap.size+1,0,none⟩ (.slice ao3 n3 cap3)):=(hsty.trans hst).set (fun _=>.inl rfl) _ _
    refine ⟨hfin,k4.set 0 _,?_,by omega,?_,?_,_,_,_,rfl⟩
    ·rw [e1]
     exact ownsRow_setCell_below O3 (show (⟨w.heap.size+1,0,none⟩:Addr).block<w.heap.size+2 from by show w.heap.size+1<w.heap.size+2;omega) _
    ·have:=hfin.size;have:=HS1.out;omega
    ·have:=HM.out;rw [List.length_map,List.length_take];omega
   clear k4 O1 O2 O3 c9 hA1 hS1 hS2 hS3 hb1 hb3 hSd HN HS HC HY cS1 cS2 cS3 hgr HYs hOy hRy hcy hsty hlto
   refine readyL (rs:=[6]) (by kernel_rfl) (by simp) ?_
   refine ReadyL.cons rfl (fun K hK=>?_) ReadyL.nil
   refine want (by rfl) ?_
   go_simp
   refine hK.out _ _ (fun h=>absurd rfl h) (fun _=>?_)
   clear hK K
   refine doneL (by kernel_rfl) ?_ _
   go_wp2_with fail
   go_roundw
   case rel=>exact ⟨k+1,by omega,by go_num,HFn.out.1,_,HFn.out.2⟩
   case measure=>simp [intOf];omega
  ·have hfull:x.params.take k=x.params:=List.take_of_length_le (by omega)
   have i1:¬ (k:Int)<(x.params.length:Int):=by omega
   obtain ⟨rfw,hbw,_⟩:=HF.out wr HST.out
   have c8:wr.cell? ⟨w.heap.size,8,none⟩=some (.slice bp l3 bc):=rfw.cell 8
   have D:Hid (Calls Tryz.prog 42 #[.slice bp l3 bc,.func (.func 45) #[] #[.pointer (some ⟨w.heap.size+1,0,none⟩)]] wr fun ev y'=>ev=.returned (.tuple #[])/\Stay (fun k=>k=w.heap.size+1∨w.heap.size+2<=k) w1 y'/\∃ v',Nm (w.heap.size+1) (w.heap.size+2) (x.params.map Fld.name ++ LN) y' v'):=by
    have:=HL.out wr _ _ HST.out HN.out (by rw [hfull,List.length_map];exact HM.out)
    rw [hfull] at this
    exact this
   clear hfull HL HN HP rfw
   go_wp2_with fail
   refine D.out.mono ?_
   rintro ev w2 ⟨rfl,hs2,v2,n2⟩
   obtain ⟨_,hb2,_⟩:=HF.out w2 hs2
   have c2:w2.cell? ⟨w.heap.size+1,0,none⟩=some v2:=n2.row.cell 0
   have hown:=own_mono n2.own (B':=w.heap.size) (by omega)
   obtain ⟨ao9,n9,cap9,e9⟩:=n2.form
   subst e9
   clear n2 hs2 D HF
   go_wp2_with fail
   go_ret
   exact ⟨_,rfl,hb2,hown⟩
end Go.Proofs.YtjenmmkamhplkaaGreat
