/- Part of the proof. -/
import Derived.Test.YtjenmmkamhplkaaGreatJqspMfd2
import Derived.HandedShaped
import Derived.Test.YtjenmmkamhplkaaGreatJqspSub5
import Derived.Test.YtjenmmkamhplkaaGreatQqspSmt
namespace Go.Proofs.YtjenmmkamhplkaaGreat
open Go.ChangeShapes Go.WideShapes Go.ChangeAt Go.RowKit
theorem weightsAll_mem {H:Type} {P:Program} {e:TypeId}:∀ {l:List (DataW H)} {d:DataW H},d∈l->∀ n∈d.weights P e,n∈DataW.weightsAll P e l
 | [],_,h,_,_=>by cases h
 | x :: l,d,h,n,hn=>by
  unfold DataW.weightsAll
  rcases List.mem_cons.1 h with rfl|h
  ·exact List.mem_append_left _ hn
  ·exact List.mem_append_right _ (weightsAll_mem h n hn)
def Rch {H:Type} (t:TypeId) (d:DataW H):Prop:=∀ n∈d.weights Tryz.prog t,n<=reachBytes
theorem rch_row {H:Type} {t e:TypeId} {els sp:List (DataW H)} (h:Rch t (.slice els sp)) (hu:Tryz.prog.underlying t=some (.slice e)):els.length * Tryz.prog.bytesOf e<=140737488355328/\∀ d∈els,Rch e d:=by
 unfold Rch at h ⊢
 unfold DataW.weights at h
 simp only [hu] at h
 refine ⟨?_,fun d hd n hn=>h n (List.mem_cons_of_mem _ (List.mem_append_left _ (weightsAll_mem hd n hn)))⟩
 have h1:=h _ (List.mem_cons_self)
 have h2:els.length * Tryz.prog.bytesOf e<=(els.length+sp.length) * Tryz.prog.bytesOf e:=Nat.mul_le_mul_right _ (by omega)
 have h3:reachBytes<=140737488355328:=by decide
 omega
theorem rch_part {H:Type} {t:TypeId} {fs:Array Field} {ps:List (DataW H)} (h:Rch t (.agg ps)) (hu:Tryz.prog.underlying t=some (.struct fs)) (i:Nat) (f:Field) (d:DataW H) (hf:fs[i]?=some f) (hd:ps[i]?=some d):Rch f.type d:=by
 unfold Rch at h ⊢
 unfold DataW.weights at h
 simp only [hu] at h
 intro n hn
 refine h n (DataW.weights_mem_each (j:=i) (t:=f.type) ?_ hd n hn)
 simp [hf]
def reachK (C:Nat):Ctx:=⟨C,reachBytes,by decide⟩
section
variable {H:Type} {enc:TypeId × Value->H} {W:World} {base:Nat} {v:Value} {d:DataW H} {p:List MemPlace}
end
theorem maxLen_cell {W:World} (h:W.ShapedOpen Tryz.prog):∃ m,W.cell? ⟨0,0,none⟩=some (.int .i64 m) :=
 Go.Proofs.cell_of_shapedOpen_int (g:=0) (zero:=#[.int .i64 0]) (t:=3) h (of_decide_eq_true (by kernel_rfl)) (by kernel_rfl) rfl (by kernel_rfl) (by kernel_rfl) Tryz.underlying3
theorem Tryz.laidAll:laidOutB Tryz.prog=true:=by kernel_rfl
theorem Tryz.ownKn:ownKnob Tryz.prog.godebug=none:=by kernel_rfl
end Go.Proofs.YtjenmmkamhplkaaGreat

namespace Go.Proofs.YtjenmmkamhplkaaGreat
open Go.RowKit
def ops1 (f:Func):List Oper:=match f.body with
 | some (.seq _ (.seq (.region _ ops _) _))=>ops.toList
 | _=>[]
def lexTo (md:Region.Mode) (ops:Array Oper):Nat->Nat->Array Bool->Bool
 | 0,_,_=>true
 | s+1,k,listed=>(Region.ready md ops listed).contains k && Region.free md ops listed k && lexTo md ops s (k+1) (listed.setIfInBounds k true)
def listedTo:Nat->Nat->Array Bool->Array Bool
 | 0,_,listed=>listed
 | s+1,k,listed=>listedTo s (k+1) (listed.setIfInBounds k true)
theorem lex_split (md:Region.Mode) (ops:Array Oper):∀ (s f k:Nat) (listed:Array Bool),lexTo md ops s k listed=true->Region.lexFrom md ops f (k+s) (listedTo s k listed)=true->Region.lexFrom md ops (f+s) k listed=true
 | 0,f,k,listed,_,h=>h
 | s+1,f,k,listed,h1,h2=>by
  simp only [lexTo,Bool.and_eq_true] at h1
  simp only [listedTo] at h2
  have h3:=lex_split md ops s f (k+1) _ h1.2 (by rw [Nat.add_right_comm,Nat.add_assoc];exact h2)
  show Region.lexFrom md ops (f+s+1) k listed=true
  simp only [Region.lexFrom,Bool.and_eq_true]
  exact ⟨h1.1,h3⟩
theorem listed_split:∀ (s r k:Nat) (listed:Array Bool),listedTo r (k+s) (listedTo s k listed)=listedTo (s+r) k listed
 | 0,r,k,listed=>by simp [listedTo]
 | s+1,r,k,listed=>by
  have:=listed_split s r (k+1) (listed.setIfInBounds k true)
  rw [show s+1+r=(s+r)+1 by omega]
  simp only [listedTo]
  rw [← this,Nat.add_right_comm,Nat.add_assoc]
theorem lex75_0:lexTo .any (ops1 Tryz.f75).toArray 8 0 (listedTo 0 0 (Array.replicate 112 false))=true:=by kernel_rfl
theorem lex75_8:lexTo .any (ops1 Tryz.f75).toArray 8 8 (listedTo 8 0 (Array.replicate 112 false))=true:=by kernel_rfl
theorem lex75_16:lexTo .any (ops1 Tryz.f75).toArray 8 16 (listedTo 16 0 (Array.replicate 112 false))=true:=by kernel_rfl
theorem lex75_24:lexTo .any (ops1 Tryz.f75).toArray 8 24 (listedTo 24 0 (Array.replicate 112 false))=true:=by kernel_rfl
theorem lex75_32:lexTo .any (ops1 Tryz.f75).toArray 8 32 (listedTo 32 0 (Array.replicate 112 false))=true:=by kernel_rfl
theorem lex75_40:lexTo .any (ops1 Tryz.f75).toArray 8 40 (listedTo 40 0 (Array.replicate 112 false))=true:=by kernel_rfl
theorem lex75_48:lexTo .any (ops1 Tryz.f75).toArray 8 48 (listedTo 48 0 (Array.replicate 112 false))=true:=by kernel_rfl
theorem lex75_56:lexTo .any (ops1 Tryz.f75).toArray 8 56 (listedTo 56 0 (Array.replicate 112 false))=true:=by kernel_rfl
theorem lex75_64:lexTo .any (ops1 Tryz.f75).toArray 8 64 (listedTo 64 0 (Array.replicate 112 false))=true:=by kernel_rfl
theorem lex75_72:lexTo .any (ops1 Tryz.f75).toArray 8 72 (listedTo 72 0 (Array.replicate 112 false))=true:=by kernel_rfl
theorem lex75_80:lexTo .any (ops1 Tryz.f75).toArray 8 80 (listedTo 80 0 (Array.replicate 112 false))=true:=by kernel_rfl
theorem lex75_88:lexTo .any (ops1 Tryz.f75).toArray 8 88 (listedTo 88 0 (Array.replicate 112 false))=true:=by kernel_rfl
theorem lex75_96:lexTo .any (ops1 Tryz.f75).toArray 8 96 (listedTo 96 0 (Array.replicate 112 false))=true:=by kernel_rfl
theorem lex75_104:lexTo .any (ops1 Tryz.f75).toArray 8 104 (listedTo 104 0 (Array.replicate 112 false))=true:=by kernel_rfl
theorem lex75_end:Region.lexFrom .any (ops1 Tryz.f75).toArray 0 112 (listedTo 112 0 (Array.replicate 112 false))=true:=by kernel_rfl
theorem lex75_from104:Region.lexFrom .any (ops1 Tryz.f75).toArray 8 104 (listedTo 104 0 (Array.replicate 112 false))=true :=
 lex_split .any (ops1 Tryz.f75).toArray 8 0 104 (listedTo 104 0 (Array.replicate 112 false)) lex75_104 (by have h:=listed_split 104 8 0 (Array.replicate 112 false);rw [Nat.zero_add] at h;rw [h];exact lex75_end)
theorem lex75_from96:Region.lexFrom .any (ops1 Tryz.f75).toArray 16 96 (listedTo 96 0 (Array.replicate 112 false))=true :=
 lex_split .any (ops1 Tryz.f75).toArray 8 8 96 (listedTo 96 0 (Array.replicate 112 false)) lex75_96 (by have h:=listed_split 96 8 0 (Array.replicate 112 false);rw [Nat.zero_add] at h;rw [h];exact lex75_from104)
theorem lex75_from88:Region.lexFrom .any (ops1 Tryz.f75).toArray 24 88 (listedTo 88 0 (Array.replicate 112 false))=true :=
 lex_split .any (ops1 Tryz.f75).toArray 8 16 88 (listedTo 88 0 (Array.replicate 112 false)) lex75_88 (by have h:=listed_split 88 8 0 (Array.replicate 112 false);rw [Nat.zero_add] at h;rw [h];exact lex75_from96)
theorem lex75_from80:Region.lexFrom .any (ops1 Tryz.f75).toArray 32 80 (listedTo 80 0 (Array.replicate 112 false))=true :=
 lex_split .any (ops1 Tryz.f75).toArray 8 24 80 (listedTo 80 0 (Array.replicate 112 false)) lex75_80 (by have h:=listed_split 80 8 0 (Array.replicate 112 false);rw [Nat.zero_add] at h;rw [h];exact lex75_from88)
theorem lex75_from72:Region.lexFrom .any (ops1 Tryz.f75).toArray 40 72 (listedTo 72 0 (Array.replicate 112 false))=true :=
 lex_split .any (ops1 Tryz.f75).toArray 8 32 72 (listedTo 72 0 (Array.replicate 112 false)) lex75_72 (by have h:=listed_split 72 8 0 (Array.replicate 112 false);rw [Nat.zero_add] at h;rw [h];exact lex75_from80)
theorem lex75_from64:Region.lexFrom .any (ops1 Tryz.f75).toArray 48 64 (listedTo 64 0 (Array.replicate 112 false))=true :=
 lex_split .any (ops1 Tryz.f75).toArray 8 40 64 (listedTo 64 0 (Array.replicate 112 false)) lex75_64 (by have h:=listed_split 64 8 0 (Array.replicate 112 false);rw [Nat.zero_add] at h;rw [h];exact lex75_from72)
theorem lex75_from56:Region.lexFrom .any (ops1 Tryz.f75).toArray 56 56 (listedTo 56 0 (Array.replicate 112 false))=true :=
 lex_split .any (ops1 Tryz.f75).toArray 8 48 56 (listedTo 56 0 (Array.replicate 112 false)) lex75_56 (by have h:=listed_split 56 8 0 (Array.replicate 112 false);rw [Nat.zero_add] at h;rw [h];exact lex75_from64)
theorem lex75_from48:Region.lexFrom .any (ops1 Tryz.f75).toArray 64 48 (listedTo 48 0 (Array.replicate 112 false))=true :=
 lex_split .any (ops1 Tryz.f75).toArray 8 56 48 (listedTo 48 0 (Array.replicate 112 false)) lex75_48 (by have h:=listed_split 48 8 0 (Array.replicate 112 false);rw [Nat.zero_add] at h;rw [h];exact lex75_from56)
theorem lex75_from40:Region.lexFrom .any (ops1 Tryz.f75).toArray 72 40 (listedTo 40 0 (Array.replicate 112 false))=true :=
 lex_split .any (ops1 Tryz.f75).toArray 8 64 40 (listedTo 40 0 (Array.replicate 112 false)) lex75_40 (by have h:=listed_split 40 8 0 (Array.replicate 112 false);rw [Nat.zero_add] at h;rw [h];exact lex75_from48)
theorem lex75_from32:Region.lexFrom .any (ops1 Tryz.f75).toArray 80 32 (listedTo 32 0 (Array.replicate 112 false))=true :=
 lex_split .any (ops1 Tryz.f75).toArray 8 72 32 (listedTo 32 0 (Array.replicate 112 false)) lex75_32 (by have h:=listed_split 32 8 0 (Array.replicate 112 false);rw [Nat.zero_add] at h;rw [h];exact lex75_from40)
theorem lex75_from24:Region.lexFrom .any (ops1 Tryz.f75).toArray 88 24 (listedTo 24 0 (Array.replicate 112 false))=true :=
 lex_split .any (ops1 Tryz.f75).toArray 8 80 24 (listedTo 24 0 (Array.replicate 112 false)) lex75_24 (by have h:=listed_split 24 8 0 (Array.replicate 112 false);rw [Nat.zero_add] at h;rw [h];exact lex75_from32)
theorem lex75_from16:Region.lexFrom .any (ops1 Tryz.f75).toArray 96 16 (listedTo 16 0 (Array.replicate 112 false))=true :=
 lex_split .any (ops1 Tryz.f75).toArray 8 88 16 (listedTo 16 0 (Array.replicate 112 false)) lex75_16 (by have h:=listed_split 16 8 0 (Array.replicate 112 false);rw [Nat.zero_add] at h;rw [h];exact lex75_from24)
theorem lex75_from8:Region.lexFrom .any (ops1 Tryz.f75).toArray 104 8 (listedTo 8 0 (Array.replicate 112 false))=true :=
 lex_split .any (ops1 Tryz.f75).toArray 8 96 8 (listedTo 8 0 (Array.replicate 112 false)) lex75_8 (by have h:=listed_split 8 8 0 (Array.replicate 112 false);rw [Nat.zero_add] at h;rw [h];exact lex75_from16)
theorem lex75_from0:Region.lexFrom .any (ops1 Tryz.f75).toArray 112 0 (listedTo 0 0 (Array.replicate 112 false))=true :=
 lex_split .any (ops1 Tryz.f75).toArray 8 104 0 (listedTo 0 0 (Array.replicate 112 false)) lex75_0 (by have h:=listed_split 0 8 0 (Array.replicate 112 false);rw [Nat.zero_add] at h;rw [h];exact lex75_from8)
theorem lex75_size:(ops1 Tryz.f75).toArray.size=112:=by kernel_rfl
theorem lex75_sel:Region.noSelect (ops1 Tryz.f75).toArray=true:=by kernel_rfl
theorem lex75:Region.lexB .any (ops1 Tryz.f75).toArray=true:=by
 unfold Region.lexB
 rw [lex75_sel,lex75_size,Bool.true_and]
 exact lex75_from0
theorem lex100:Region.lexB .any (ops1 Tryz.f100).toArray=true:=by kernel_rfl
theorem lex37:Region.lexB .any (ops1 Tryz.f37).toArray=true:=by kernel_rfl
end Go.Proofs.YtjenmmkamhplkaaGreat

namespace Go.Proofs.YtjenmmkamhplkaaGreat
open Go.RowKit
set_option maxHeartbeats 8000000 in
set_option maxRecDepth 20000 in
theorem sameValue_any  
  {K:Ctx} {w:World} {x y:Va} {b o b' o':Nat} {cs cs':List Value} (hc:∀ j,j<15->w.cell? ⟨b,o+j,none⟩=cs[j]?) (hc':∀ j,j<15->w.cell? ⟨b',o'+j,none⟩=cs'[j]?)
  (hx:VaAt K w cs x) (hy:VaAt K w cs' y) (B:Bool) (hB:B=true↔x=y) :
  Calls Tryz.prog 100 #[.pointer (some ⟨b,o,none⟩),.pointer (some ⟨b',o',none⟩)] w fun ev w'=>ev=.returned (.bool B)/\∃ m,w'=w.drewN m:=by
 obtain ⟨xa,xb,ps,vn,va,rfl,h1,h2,h3,hl1,h4,h5⟩:=id hx
 obtain ⟨ya,yb,qs,un,ua,rfl,g1,g2,g3,hl2,g4,g5⟩:=id hy
 have l1:=h1.len
 have l2:=h2.len
 have l3:=h3.len
 have m1:=g1.len
 have m2:=g2.len
 have m3:=g3.len
 have p1:=part_at hc [.int .i64 x.kind] xa (xb ++ (.int .i64 x.op :: (ps ++ [.string (str x.name),vn,va]))) (k:=1) (n:=4) rfl l1 (by decide) rfl
 have p2:=part_at hc' [.int .i64 y.kind] ya (yb ++ (.int .i64 y.op :: (qs ++ [.string (str y.name),un,ua]))) (k:=1) (n:=4) rfl m1 (by decide) rfl
 have p3:=part_at hc (.int .i64 x.kind :: xa) xb (.int .i64 x.op :: (ps ++ [.string (str x.name),vn,va])) (k:=5) (n:=4) (by simp [l1]) l2 (by decide) (by simp)
 have p4:=part_at hc' (.int .i64 y.kind :: ya) yb (.int .i64 y.op :: (qs ++ [.string (str y.name),un,ua])) (k:=5) (n:=4) (by simp [m1]) m2 (by decide) (by simp)
 have p5:=part_at hc (.int .i64 x.kind :: (xa ++ xb)) [.int .i64 x.op] (ps ++ [.string (str x.name),vn,va]) (k:=9) (n:=1) (by simp [l1,l2]) rfl (by decide) (by simp) 0 (by decide)
 have p6:=part_at hc' (.int .i64 y.kind :: (ya ++ yb)) [.int .i64 y.op] (qs ++ [.string (str y.name),un,ua]) (k:=9) (n:=1) (by simp [m1,m2]) rfl (by decide) (by simp) 0 (by decide)
 have p7:=part_at hc (.int .i64 x.kind :: (xa ++ (xb ++ [.int .i64 x.op]))) ps [.string (str x.name),vn,va] (k:=10) (n:=2) (by simp [l1,l2]) l3 (by decide) (by simp)
 have p8:=part_at hc' (.int .i64 y.kind :: (ya ++ (yb ++ [.int .i64 y.op]))) qs [.string (str y.name),un,ua] (k:=10) (n:=2) (by simp [m1,m2]) m3 (by decide) (by simp)
 have p9:=part_at hc (.int .i64 x.kind :: (xa ++ (xb ++ (.int .i64 x.op :: ps)))) [.string (str x.name),vn,va] [] (k:=12) (n:=3) (by simp [l1,l2,l3]) rfl (by decide) (by simp)
 have pa:=part_at hc' (.int .i64 y.kind :: (ya ++ (yb ++ (.int .i64 y.op :: qs)))) [.string (str y.name),un,ua] [] (k:=12) (n:=3) (by simp [m1,m2,m3]) rfl (by decide) (by simp)
 have c0:w.cell? ⟨b,o,none⟩=some (.int .i64 x.kind):=hc 0 (by decide)
 have d0:w.cell? ⟨b',o',none⟩=some (.int .i64 y.kind):=hc' 0 (by decide)
 have c1:w.cell? ⟨b,o+9,none⟩=some (.int .i64 x.op):=p5
 have d1:w.cell? ⟨b',o'+9,none⟩=some (.int .i64 y.op):=p6
 have c2:w.cell? ⟨b,o+12,none⟩=some (.string (str x.name)):=p9 0 (by decide)
 have d2:w.cell? ⟨b',o'+12,none⟩=some (.string (str y.name)):=pa 0 (by decide)
 have c6:w.cell? ⟨b,o+13,none⟩=some vn:=p9 1 (by decide)
 have d6:w.cell? ⟨b',o'+13,none⟩=some un:=pa 1 (by decide)
 have c7:w.cell? ⟨b,o+14,none⟩=some va:=p9 2 (by decide)
 have d7:w.cell? ⟨b',o'+14,none⟩=some ua:=pa 2 (by decide)
 have HB:Hid (B=true↔x=y):=hB
 clear hB
 have q0:(x.kind == y.kind)=true↔x.kind=y.kind:=beq_iff_eq
 have q1:(x.op == y.op)=true↔x.op=y.op:=beq_iff_eq
 have q2:((str x.name).toList == (str y.name).toList)=true↔x.name=y.name:=by rw [str_beq];exact decide_eq_true_iff
 have q3:Hid (∀ (B:Bool),(B=true↔x.a=y.a)->∀ n,Calls Tryz.prog 101 #[.pointer (some ⟨b,o+1,none⟩),.pointer (some ⟨b',o'+1,none⟩)] (w.drewN n) fun ev w'=>ev=.returned (.bool B)/\∃ m,w'=(w.drewN n).drewN m):=by
  intro B hB n
  exact sameOper_any (w:=w.drewN n) p1 p2 (h1.below (Below.drewN _ _ _)) (g1.below (Below.drewN _ _ _)) B hB
 have q4:Hid (∀ (B:Bool),(B=true↔x.b=y.b)->∀ n,Calls Tryz.prog 101 #[.pointer (some ⟨b,o+5,none⟩),.pointer (some ⟨b',o'+5,none⟩)] (w.drewN n) fun ev w'=>ev=.returned (.bool B)/\∃ m,w'=(w.drewN n).drewN m):=by
  intro B hB n
  exact sameOper_any (w:=w.drewN n) p3 p4 (h2.below (Below.drewN _ _ _)) (g2.below (Below.drewN _ _ _)) B hB
 have q5:Hid (∀ (B:Bool),(B=true↔x.place=y.place)->∀ n,Calls Tryz.prog 99 #[.pointer (some ⟨b,o+10,none⟩),.pointer (some ⟨b',o'+10,none⟩)] (w.drewN n) fun ev w'=>ev=.returned (.bool B)/\∃ m,w'=(w.drewN n).drewN m):=by
  intro B hB n
  exact samePlace_any (w:=w.drewN n) p7 p8 (h3.below (Below.drewN _ _ _)) (g3.below (Below.drewN _ _ _)) B hB
 have q6:Hid (∀ (B:Bool),(B=true↔x.names=y.names)->∀ n,Calls Tryz.prog 69 #[vn,un] (w.drewN n) fun ev w'=>ev=.returned (.bool B)/\∃ m,w'=(w.drewN n).drewN m):=by
  intro B hB n
  exact equal_any (h4.below (Below.drewN _ _ _)) (g4.below (Below.drewN _ _ _)) B hB
 have q7:Hid (∀ (B:Bool),(B=true↔x.args=y.args)->∀ n,Calls Tryz.prog 124 #[va,ua,.func (.func 101) #[] #[]] (w.drewN n) fun ev w'=>ev=.returned (.bool B)/\∃ m,w'=(w.drewN n).drewN m):=by
  intro B hB n
  exact sameOpers_of (fun _ _ _ _ _ _ _ _ m B hc hc' hx hy hB=>sameOper_any (K:=K) (w:=(w.drewN n).drewN m) hc hc' (hx.below (Below.drewN _ _ _)) (hy.below (Below.drewN _ _ _)) B hB) (h5.mono (Below.drewN _ _ _) fun _ _ _ h=>h.below (Below.drewN _ _ _)) (g5.mono (Below.drewN _ _ _) fun _ _ _ h=>h.below (Below.drewN _ _ _)) B hB
 clear hc hc'
 by_cases e0:x.kind=y.kind
 rotate_left
 ·have HF:Hid (B=false):=by
   show B=false
   cases hB:B
   ·rfl
   ·exact absurd (congrArg Va.kind (HB.out.1 hB)) e0
  replace q0:=Bool.eq_false_iff.2 (fun h=>e0 (q0.1 h))
  clear HB q1 q2 q3 q4 q5 q6 q7 e0 hx hy c1 d1 c2 d2 c6 d6 c7 d7 h1 h2 h3 h4 h5 g1 g2 g3 g4 g5 hl1 hl2 l1 l2 l3 m1 m2 m3 p1 p2 p3 p4 p5 p6 p7 p8 p9 pa
  generalize x.kind=s0,y.kind=t0 at *
  go_enter Tryz.func100,Tryz.ntmps100
  go_wp2_with fail
  refine wp_region_quiet_lit (by kernel_rfl) lex100 ?_
  simp only [List.append_eq,List.cons_append,List.nil_append]
  repeat (go_big_quiet_step (fail))
  refine wpQuiet_nil ?_
  intro _ hw'
  obtain ⟨nq,hw''⟩:=hw'
  subst hw''
  go_wp2_with fail
  go_ret
  exact ⟨by rw [HF.out];rfl,_,rfl⟩
 by_cases e1:x.op=y.op
 rotate_left
 ·have HF:Hid (B=false):=by
   show B=false
   cases hB:B
   ·rfl
   ·exact absurd (congrArg Va.op (HB.out.1 hB)) e1
  replace q0:=q0.2 e0
  replace q1:=Bool.eq_false_iff.2 (fun h=>e1 (q1.1 h))
  clear HB q2 q3 q4 q5 q6 q7 e0 e1 hx hy c2 d2 c6 d6 c7 d7 h1 h2 h3 h4 h5 g1 g2 g3 g4 g5 hl1 hl2 l1 l2 l3 m1 m2 m3 p1 p2 p3 p4 p5 p6 p7 p8 p9 pa
  generalize x.kind=s0,y.kind=t0,x.op=s1,y.op=t1 at *
  go_enter Tryz.func100,Tryz.ntmps100
  go_wp2_with fail
  refine wp_region_quiet_lit (by kernel_rfl) lex100 ?_
  simp only [List.append_eq,List.cons_append,List.nil_append]
  repeat (go_big_quiet_step (fail))
  refine wpQuiet_nil ?_
  intro _ hw'
  obtain ⟨nq,hw''⟩:=hw'
  subst hw''
  go_wp2_with fail
  go_ret
  exact ⟨by rw [HF.out];rfl,_,rfl⟩
 by_cases e2:x.name=y.name
 rotate_left
 ·have HF:Hid (B=false):=by
   show B=false
   cases hB:B
   ·rfl
   ·exact absurd (congrArg Va.name (HB.out.1 hB)) e2
  replace q0:=q0.2 e0
  replace q1:=q1.2 e1
  replace q2:=Bool.eq_false_iff.2 (fun h=>e2 (q2.1 h))
  clear HB q3 q4 q5 q6 q7 e0 e1 e2 hx hy c6 d6 c7 d7 h1 h2 h3 h4 h5 g1 g2 g3 g4 g5 hl1 hl2 l1 l2 l3 m1 m2 m3 p1 p2 p3 p4 p5 p6 p7 p8 p9 pa
  generalize x.kind=s0,y.kind=t0,x.op=s1,y.op=t1,str x.name=s2,str y.name=t2 at *
  go_enter Tryz.func100,Tryz.ntmps100
  go_wp2_with fail
  refine wp_region_quiet_lit (by kernel_rfl) lex100 ?_
  simp only [List.append_eq,List.cons_append,List.nil_append]
  repeat (go_big_quiet_step (fail))
  refine wpQuiet_nil ?_
  intro _ hw'
  obtain ⟨nq,hw''⟩:=hw'
  subst hw''
  go_wp2_with fail
  go_ret
  exact ⟨by rw [HF.out];rfl,_,rfl⟩
 by_cases e3:x.a=y.a
 rotate_left
 ·have HF:Hid (B=false):=by
   show B=false
   cases hB:B
   ·rfl
   ·exact absurd (congrArg Va.a (HB.out.1 hB)) e3
  replace q0:=q0.2 e0
  replace q1:=q1.2 e1
  replace q2:=q2.2 e2
  have r3:=hid0 (q3.out false ⟨fun h=>(by cases h),fun h=>absurd h e3⟩)
  clear HB q3 q4 q5 q6 q7 e0 e1 e2 e3 hx hy c6 d6 c7 d7 h1 h2 h3 h4 h5 g1 g2 g3 g4 g5 hl1 hl2 l1 l2 l3 m1 m2 m3 p1 p2 p3 p4 p5 p6 p7 p8 p9 pa
  generalize x.kind=s0,y.kind=t0,x.op=s1,y.op=t1,str x.name=s2,str y.name=t2 at *
  go_enter Tryz.func100,Tryz.ntmps100
  go_wp2_with fail
  refine wp_region_quiet_lit (by kernel_rfl) lex100 ?_
  simp only [List.append_eq,List.cons_append,List.nil_append]
  iterate 38 (go_big_quiet_step (fail))
  go_big_quiet_step (exact Calls.quiet_of (r3.out _))
  repeat (go_big_quiet_step (fail))
  refine wpQuiet_nil ?_
  intro _ hw'
  obtain ⟨nq,hw''⟩:=hw'
  subst hw''
  go_wp2_with fail
  go_ret
  exact ⟨by rw [HF.out];rfl,_,rfl⟩
 by_cases e4:x.b=y.b
 rotate_left
 ·have HF:Hid (B=false):=by
   show B=false
   cases hB:B
   ·rfl
   ·exact absurd (congrArg Va.b (HB.out.1 hB)) e4
  replace q0:=q0.2 e0
  replace q1:=q1.2 e1
  replace q2:=q2.2 e2
  have r3:=hid0 (q3.out true ⟨fun _=>e3,fun _=>rfl⟩)
  have r4:=hid0 (q4.out false ⟨fun h=>(by cases h),fun h=>absurd h e4⟩)
  clear HB q3 q4 q5 q6 q7 e0 e1 e2 e3 e4 hx hy c6 d6 c7 d7 h1 h2 h3 h4 h5 g1 g2 g3 g4 g5 hl1 hl2 l1 l2 l3 m1 m2 m3 p1 p2 p3 p4 p5 p6 p7 p8 p9 pa
  generalize x.kind=s0,y.kind=t0,x.op=s1,y.op=t1,str x.name=s2,str y.name=t2 at *
  go_enter Tryz.func100,Tryz.ntmps100
  go_wp2_with fail
  refine wp_region_quiet_lit (by kernel_rfl) lex100 ?_
  simp only [List.append_eq,List.cons_append,List.nil_append]
  iterate 38 (go_big_quiet_step (fail))
  go_big_quiet_step (exact Calls.quiet_of (r3.out _))
  iterate 8 (go_big_quiet_step (fail))
  go_big_quiet_step (exact Calls.quiet_of (r4.out _))
  repeat (go_big_quiet_step (fail))
  refine wpQuiet_nil ?_
  intro _ hw'
  obtain ⟨nq,hw''⟩:=hw'
  subst hw''
  go_wp2_with fail
  go_ret
  exact ⟨by rw [HF.out];rfl,_,rfl⟩
 by_cases e5:x.place=y.place
 rotate_left
 ·have HF:Hid (B=false):=by
   show B=false
   cases hB:B
   ·rfl
   ·exact absurd (congrArg Va.place (HB.out.1 hB)) e5
  replace q0:=q0.2 e0
  replace q1:=q1.2 e1
  replace q2:=q2.2 e2
  have r3:=hid0 (q3.out true ⟨fun _=>e3,fun _=>rfl⟩)
  have r4:=hid0 (q4.out true ⟨fun _=>e4,fun _=>rfl⟩)
  have r5:=hid0 (q5.out false ⟨fun h=>(by cases h),fun h=>absurd h e5⟩)
  clear HB q3 q4 q5 q6 q7 e0 e1 e2 e3 e4 e5 hx hy c6 d6 c7 d7 h1 h2 h3 h4 h5 g1 g2 g3 g4 g5 hl1 hl2 l1 l2 l3 m1 m2 m3 p1 p2 p3 p4 p5 p6 p7 p8 p9 pa
  generalize x.kind=s0,y.kind=t0,x.op=s1,y.op=t1,str x.name=s2,str y.name=t2 at *
  go_enter Tryz.func100,Tryz.ntmps100
  go_wp2_with fail
  refine wp_region_quiet_lit (by kernel_rfl) lex100 ?_
  simp only [List.append_eq,List.cons_append,List.nil_append]
  iterate 38 (go_big_quiet_step (fail))
  go_big_quiet_step (exact Calls.quiet_of (r3.out _))
  iterate 8 (go_big_quiet_step (fail))
  go_big_quiet_step (exact Calls.quiet_of (r4.out _))
  iterate 8 (go_big_quiet_step (fail))
  go_big_quiet_step (exact Calls.quiet_of (r5.out _))
  repeat (go_big_quiet_step (fail))
  refine wpQuiet_nil ?_
  intro _ hw'
  obtain ⟨nq,hw''⟩:=hw'
  subst hw''
  go_wp2_with fail
  go_ret
  exact ⟨by rw [HF.out];rfl,_,rfl⟩
 by_cases e6:x.names=y.names
 rotate_left
 ·have HF:Hid (B=false):=by
   show B=false
   cases hB:B
   ·rfl
   ·exact absurd (congrArg Va.names (HB.out.1 hB)) e6
  replace q0:=q0.2 e0
  replace q1:=q1.2 e1
  replace q2:=q2.2 e2
  have r3:=hid0 (q3.out true ⟨fun _=>e3,fun _=>rfl⟩)
  have r4:=hid0 (q4.out true ⟨fun _=>e4,fun _=>rfl⟩)
  have r5:=hid0 (q5.out true ⟨fun _=>e5,fun _=>rfl⟩)
  have r6:=hid0 (q6.out false ⟨fun h=>(by cases h),fun h=>absurd h e6⟩)
  clear HB q3 q4 q5 q6 q7 e0 e1 e2 e3 e4 e5 e6 hx hy c7 d7 h1 h2 h3 h4 h5 g1 g2 g3 g4 g5 hl1 hl2 l1 l2 l3 m1 m2 m3 p1 p2 p3 p4 p5 p6 p7 p8 p9 pa
  generalize x.kind=s0,y.kind=t0,x.op=s1,y.op=t1,str x.name=s2,str y.name=t2 at *
  go_enter Tryz.func100,Tryz.ntmps100
  go_wp2_with fail
  refine wp_region_quiet_lit (by kernel_rfl) lex100 ?_
  simp only [List.append_eq,List.cons_append,List.nil_append]
  iterate 38 (go_big_quiet_step (fail))
  go_big_quiet_step (exact Calls.quiet_of (r3.out _))
  iterate 8 (go_big_quiet_step (fail))
  go_big_quiet_step (exact Calls.quiet_of (r4.out _))
  iterate 8 (go_big_quiet_step (fail))
  go_big_quiet_step (exact Calls.quiet_of (r5.out _))
  iterate 10 (go_big_quiet_step (fail))
  go_big_quiet_step (exact Calls.quiet_of (r6.out _))
  repeat (go_big_quiet_step (fail))
  refine wpQuiet_nil ?_
  intro _ hw'
  obtain ⟨nq,hw''⟩:=hw'
  subst hw''
  go_wp2_with fail
  go_ret
  exact ⟨by rw [HF.out];rfl,_,rfl⟩
 by_cases e7:x.args=y.args
 rotate_left
 ·have HF:Hid (B=false):=by
   show B=false
   cases hB:B
   ·rfl
   ·exact absurd (congrArg Va.args (HB.out.1 hB)) e7
  replace q0:=q0.2 e0
  replace q1:=q1.2 e1
  replace q2:=q2.2 e2
  have r3:=hid0 (q3.out true ⟨fun _=>e3,fun _=>rfl⟩)
  have r4:=hid0 (q4.out true ⟨fun _=>e4,fun _=>rfl⟩)
  have r5:=hid0 (q5.out true ⟨fun _=>e5,fun _=>rfl⟩)
  have r6:=hid0 (q6.out true ⟨fun _=>e6,fun _=>rfl⟩)
  have r7:=hid0 (q7.out false ⟨fun h=>(by cases h),fun h=>absurd h e7⟩)
  clear HB q3 q4 q5 q6 q7 e0 e1 e2 e3 e4 e5 e6 e7 hx hy  h1 h2 h3 h4 h5 g1 g2 g3 g4 g5 hl1 hl2 l1 l2 l3 m1 m2 m3 p1 p2 p3 p4 p5 p6 p7 p8 p9 pa
  generalize x.kind=s0,y.kind=t0,x.op=s1,y.op=t1,str x.name=s2,str y.name=t2 at *
  go_enter Tryz.func100,Tryz.ntmps100
  go_wp2_with fail
  refine wp_region_quiet_lit (by kernel_rfl) lex100 ?_
  simp only [List.append_eq,List.cons_append,List.nil_append]
  iterate 38 (go_big_quiet_step (fail))
  go_big_quiet_step (exact Calls.quiet_of (r3.out _))
  iterate 8 (go_big_quiet_step (fail))
  go_big_quiet_step (exact Calls.quiet_of (r4.out _))
  iterate 8 (go_big_quiet_step (fail))
  go_big_quiet_step (exact Calls.quiet_of (r5.out _))
  iterate 10 (go_big_quiet_step (fail))
  go_big_quiet_step (exact Calls.quiet_of (r6.out _))
  iterate 10 (go_big_quiet_step (fail))
  go_big_quiet_step (exact Calls.quiet_of (r7.out _))
  repeat (go_big_quiet_step (fail))
  refine wpQuiet_nil ?_
  intro _ hw'
  obtain ⟨nq,hw''⟩:=hw'
  subst hw''
  go_wp2_with fail
  go_ret
  exact ⟨by rw [HF.out];rfl,_,rfl⟩
 have HF:Hid (B=true):=by
  refine HB.out.2 ?_
  clear q0 q1 q2 q3 q4 q5 q6 q7 HB hx hy c0 d0 c1 d1 c2 d2 c6 d6 c7 d7 h1 h2 h3 h4 h5 g1 g2 g3 g4 g5 hl1 hl2 l1 l2 l3 m1 m2 m3 p1 p2 p3 p4 p5 p6 p7 p8 p9 pa
  cases x;cases y;simp only at e0 e1 e2 e3 e4 e5 e6 e7;subst e0 e1 e2 e3 e4 e5 e6 e7;rfl
 replace q0:=q0.2 e0
 replace q1:=q1.2 e1
 replace q2:=q2.2 e2
 have r3:=hid0 (q3.out true ⟨fun _=>e3,fun _=>rfl⟩)
 have r4:=hid0 (q4.out true ⟨fun _=>e4,fun _=>rfl⟩)
 have r5:=hid0 (q5.out true ⟨fun _=>e5,fun _=>rfl⟩)
 have r6:=hid0 (q6.out true ⟨fun _=>e6,fun _=>rfl⟩)
 have r7:=hid0 (q7.out true ⟨fun _=>e7,fun _=>rfl⟩)
 clear HB q3 q4 q5 q6 q7 e0 e1 e2 e3 e4 e5 e6 e7 hx hy  h1 h2 h3 h4 h5 g1 g2 g3 g4 g5 hl1 hl2 l1 l2 l3 m1 m2 m3 p1 p2 p3 p4 p5 p6 p7 p8 p9 pa
 generalize x.kind=s0,y.kind=t0,x.op=s1,y.op=t1,str x.name=s2,str y.name=t2 at *
 go_enter Tryz.func100,Tryz.ntmps100
 go_wp2_with fail
 refine wp_region_quiet_lit (by kernel_rfl) lex100 ?_
 simp only [List.append_eq,List.cons_append,List.nil_append]
 iterate 38 (go_big_quiet_step (fail))
 go_big_quiet_step (exact Calls.quiet_of (r3.out _))
 iterate 8 (go_big_quiet_step (fail))
 go_big_quiet_step (exact Calls.quiet_of (r4.out _))
 iterate 8 (go_big_quiet_step (fail))
 go_big_quiet_step (exact Calls.quiet_of (r5.out _))
 iterate 10 (go_big_quiet_step (fail))
 go_big_quiet_step (exact Calls.quiet_of (r6.out _))
 iterate 10 (go_big_quiet_step (fail))
 go_big_quiet_step (exact Calls.quiet_of (r7.out _))
 repeat (go_big_quiet_step (fail))
 refine wpQuiet_nil ?_
 intro _ hw'
 obtain ⟨nq,hw''⟩:=hw'
 subst hw''
 go_wp2_with fail
 go_ret
 exact ⟨by rw [HF.out];rfl,_,rfl⟩
end Go.Proofs.YtjenmmkamhplkaaGreat
