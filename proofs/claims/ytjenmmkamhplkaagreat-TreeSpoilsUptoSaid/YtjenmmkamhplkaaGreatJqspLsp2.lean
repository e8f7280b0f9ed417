/- Proved: for every crate and number of bulk at most 1048576 together, TreeSpoils answers true and leaves its arguments as they were. -/
import Derived.Test.YtjenmmkamhplkaaGreatJqspSpq12
import Derived.Test.YtjenmmkamhplkaaGreatQqspSpq0
import Derived.Test.YtjenmmkamhplkaaGreatJqspVal3
namespace Go.Proofs.YtjenmmkamhplkaaGreat
open Go.RowKit
theorem spoils_walk {n:Nat} {K:Ctx} {w:World} (he:Env K w) (hB:5<=K.B) {c:Crt} {cs:List Value} (hx:CrtAt n K w cs c) (how:Int) (hcn:∀ f∈c.funcs,cnt n f.body<=4611686018427387904) :
  Calls Tryz.prog 6 #[.agg cs.toArray,.int .i64 how] w fun ev w'=>ev=.returned (.bool true)/\Below w.heap.size w w':=by
 by_cases hG:GrtC n c
 ·exact sp_gr he hx how hcn hG
 have hls:c.structs.length<=300:=Nat.le_of_not_lt fun h=>hG (.inl h)
 have hlf:c.funcs.length<=300:=Nat.le_of_not_lt fun h=>hG (.inr (.inl h))
 by_cases hM:MayCrt n c
 ·by_cases h0:c.funcs.length=0
  ·exact sp_front he hx how hcn false true ⟨fun h=>(by cases h),fun h=>absurd h hG⟩ ⟨fun _=>hM,fun _=>rfl⟩ (.inr (.inr (.inl h0))) (by omega) (by omega)
  by_cases h1:250<c.structs.length+c.funcs.length
  ·exact sp_front he hx how hcn false true ⟨fun h=>(by cases h),fun h=>absurd h hG⟩ ⟨fun _=>hM,fun _=>rfl⟩ (.inr (.inr (.inr h1))) (by omega) (by omega)
  have P:Pre n K w c (c.funcs[0]'(by omega)):=⟨he,hM,hG,hcn,⟨by omega,rfl⟩,by omega,hB⟩
  generalize c.funcs[0]'(by omega)=x at P
  by_cases a1:1900<x.body.length
  ·exact sp_m P hx how (.inl (by omega))
  by_cases a2:1900<cw n x.body
  ·exact sp_m P hx how (.inr (.inl ⟨by omega,a2⟩))
  by_cases a3:60<x.params.length
  ·exact sp_m P hx how (.inr (.inr ⟨by omega,a2,by omega⟩))
  have r1:-6<how.tmod 6:=Int.lt_tmod_of_pos how (by decide)
  have r2:how.tmod 6<6:=Int.tmod_lt_of_pos how (by decide)
  have r3:(how.tmod 6+6).tmod 6=(how.tmod 6+6) % 6:=Int.tmod_eq_emod_of_nonneg (by omega)
  have hw:IntKind.i64.wrap (how.tmod 6+6)=how.tmod 6+6:=by rw [IntKind.wrap_i64];omega
  have hk:(how.tmod 6+6).tmod 6=0∨(how.tmod 6+6).tmod 6=1∨(how.tmod 6+6).tmod 6=2∨(how.tmod 6+6).tmod 6=3∨(how.tmod 6+6).tmod 6=4∨(how.tmod 6+6).tmod 6=5:=by omega
  rcases hk with hk|hk|hk|hk|hk|hk
  ·exact sp_qA P hx how _ hw (.inl hk) (by omega) (by omega) (by omega)
  ·exact sp_qB P hx how _ hw (.inl hk) (by omega) (by omega) (by omega)
  ·exact sp_qA P hx how _ hw (.inr (.inl hk)) (by omega) (by omega) (by omega)
  ·exact sp_qA P hx how _ hw (.inr (.inr (.inl hk))) (by omega) (by omega) (by omega)
  ·exact sp_qB P hx how _ hw (.inr hk) (by omega) (by omega) (by omega)
  ·exact sp_qA P hx how _ hw (.inr (.inr (.inr hk))) (by omega) (by omega) (by omega)
 ·exact sp_front he hx how hcn false false ⟨fun h=>(by cases h),fun h=>absurd h hG⟩ ⟨fun h=>(by cases h),fun h=>absurd h hM⟩ (.inr (.inl rfl)) (by omega) (by omega)

open Go.ChangeShapes Go.WideShapes Go.ChangeAt Go.RowKit
set_option maxRecDepth 100000 in
theorem spoils_lifted (os:Os) (started:os.Started) (H:Type) (enc:TypeId × Value->H) (F:Stop.Interp) :
  ReturnsInHanded {} Tryz.checked os 6 .any ((Rows.OpenSpec.upto Rows.treeSpoilsSpec).pre6 enc Tryz.prog Tryz.f6 Rows.treeSpoilsUptoRow.domain false) (((Rows.OpenSpec.upto Rows.treeSpoilsSpec).at F).post enc Tryz.prog Tryz.f6 false true false false):=by
 refine returnsInHanded_of_cond_shaped (C:=Tryz.checked) (s:=Rows.OpenSpec.upto Rows.treeSpoilsSpec) (k:=Rows.uptoSmall) rfl Tryz.ownKn started (by kernel_rfl) Tryz.func6
  (OpenSpec.witness (enc:=enc) (C:=Tryz.checked) (s:=Rows.OpenSpec.upto Rows.treeSpoilsSpec) (k:=Rows.uptoSmall) rfl false ⟨#[],#[.agg #[.slice none 0 0,.slice none 0 0],.int .i64 0],[]⟩ 8 (by kernel_rfl) (by kernel_rfl) (by kernel_rfl)
   (x:=([.agg [.nil,.nil],.lit (.int .i64 0)],[],[])) (by kernel_rfl) rfl (by kernel_rfl)) ?_
 intro W base args ds gs before hval0 hW hk hwt hsh
 have hval:∀ (j:Nat) t v,Tryz.f6.params[j]?=some t->args[j]?=some v->Value.okWide Tryz.prog W .any base t v:=hval0
 have hW':=hW
 obtain ⟨p,q,hA0,hV,rfl,hfz,hnd⟩:=hW
 have hA:DataW.TrodAll enc Tryz.prog W 0 (fun _=>true) true Tryz.f6.params.toList args.toList ds p:=hA0
 rw [Tryz.params6] at hA hval
 obtain ⟨v0,vs0,d0,ds0,p0,q0,hargs,rfl,rfl,h0,r0⟩:=trodAll_cons hA
 obtain ⟨v1,vs1,d1,ds1,p1,q1,rfl,rfl,rfl,h1,r1⟩:=trodAll_cons r0
 obtain ⟨rfl,rfl,rfl⟩:=trodAll_nil r1
 obtain rfl:args=#[v0,v1]:=by cases args;simp_all
 obtain ⟨rfl,rfl⟩:=trodVars_none hV
 have hb:Rows.uptoBulkAll ([d0,d1] ++ [])<=1048576:=of_decide_eq_true hk
 have hb0:Rows.uptoBulk d0<=1048576:=by
  simp only [List.append_nil,Rows.uptoBulkAll] at hb
  omega
 have hw0:∀ n∈DataW.weightsEach Tryz.prog (Tryz.f6.params.toList ++ (Rows.OpenSpec.upto Rows.treeSpoilsSpec).bare.plain.varTypes Tryz.prog) ([d0,d1] ++ []),n<=reachBytes:=by
  intro n hn
  have:=List.all_eq_true.1 hwt n hn
  simpa using this
 have g0:Sml 25 d0:=⟨fun n hn=>hw0 n (DataW.weights_mem_each (j:=0) (t:=25) (by rw [Tryz.params6];rfl) rfl n hn),hb0⟩
 obtain ⟨i1,rfl,rfl,rfl,hw1⟩:=open_int Tryz.underlying3 (hval 1 3 v1 rfl rfl) h1
 obtain ⟨n0,c0,a,e0,k0,hcn⟩:=open_crtN (K:=smlK W.heap.size) gd_sml (Nat.le_refl _) (hval 0 25 v0 rfl rfl) h0 g0
 clear hA0 hval0
 have hlt0:∀ x∈p0,x.block<W.heap.size:=fun x hx=>hW'.lt x (by simp [hx])
 have hml:=maxLen_cell hsh
 have hpos:0<W.heap.size:=by
  obtain ⟨m,hm⟩:=hml
  exact World.block_lt_of_cell? W ⟨0,0,none⟩ hm
 have hwalk:Calls Tryz.prog 6 #[v0,.int .i64 i1] W fun ev w'=>ev=.returned (.bool true)/\Below W.heap.size W w':=by
  rw [e0]
  exact spoils_walk (n:=n0) (K:=smlK W.heap.size) ⟨Nat.le_refl _,hpos,hml,Nat.le_refl _⟩ (show 5<=1048576 by decide) k0 i1 (fun f hf=>Nat.le_trans (hcn f hf n0) (Nat.le_trans hb0 (by decide)))
 refine hwalk.mono fun e W' ⟨he,hB⟩=>?_
 subst he
 refine ⟨_,rfl,_,_,_,[],p0 ++ ([] ++ []),[],hW',?_,?_,?_,hB.frame _,fun h=>by cases h⟩
 ·exact trodAll_cons_mk (shut_bool Tryz.underlying4 _) trodAll_mk0
 ·exact trodAll_cons_mk (Below.trod Tryz.laidAll (by kernel_rfl) (of_decide_eq_true (by kernel_rfl)) h0 hB hlt0) (trodAll_cons_mk (shut_int Tryz.underlying3 hw1) trodAll_mk0)
 ·rfl
theorem spoils_holds:Rows.TreeSpoilsUptoSaid :=
 OpenClaim.holds_of_cond 6 Tryz.f6 rfl rfl rfl rfl rfl rfl rfl ⟨rfl,rfl,rfl,rfl,rfl⟩ rfl rfl rfl rfl rfl (by kernel_rfl) Tryz.func6 (by kernel_rfl)
  (of_decide_eq_true (by kernel_rfl)) (by unfold Func.isWrapper;rw [if_neg (of_decide_eq_false (by kernel_rfl))];exact ⟨rfl,rfl⟩)
  (fun os started H enc _ F=>spoils_lifted os started H enc F)
end Go.Proofs.YtjenmmkamhplkaaGreat
