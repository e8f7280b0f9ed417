/- Part of the proof. -/
import Derived.Test.YtjenmmkamhplkaaGreatJqspYge4
import Derived.Test.YtjenmmkamhplkaaGreatJqspYfb4
import Derived.Test.YtjenmmkamhplkaaGreatJqspYff2
import Derived.Test.YtjenmmkamhplkaaGreatJqspYfh4
namespace Go.Proofs.YtjenmmkamhplkaaGreat
open Go.RowKit
set_option maxHeartbeats 16000000
set_option maxRecDepth 20000
def rest2:Code->Code
 | .seq _ (.seq _ t)=>t
 | c=>c
def rest3:Code->Code
 | .seq _ (.seq _ (.seq _ t))=>t
 | c=>c
theorem split_glue {s x:St} {okP:Prop} {sub:List St->Prop} {ok th ot bz b1 b2:Bool} (hs:Split s x okP th ot) (hok:ok=true↔okP) (hbz:bz=true↔x=St.bare 0 0) (hb1:b1=true↔sub s.thn) (hb2:b2=true↔sub s.els) :
  (ok=true/\bz=true/\(th=false->s.thn.length=0)/\(ot=false->s.els.length=0)/\(th=true->b1=true)/\(ot=true->b2=true))↔StOk sub s:=by
 rw [hs sub,hok,hbz,hb1,hb2]
 simp only [List.length_eq_zero_iff]
theorem same77 {n:Nat} {K:Ctx} {w:World} (he:Env K w) {x:St} {xs:List Value} (hx:∀ W,Below w.heap.size w W->StAt (n+1) K W xs x) (hl:xs.length=32) (bz:Bool) (hbz:bz=true↔x=St.bare 0 0) :
  ∀ (W:World) (a1 a2:Nat),Below w.heap.size w W->Row W a1 49 xs->Row W a2 49 (stCells 0 0)->Calls Tryz.prog 77 #[.slice (some ⟨a1,0,none⟩) 1 1,.slice (some ⟨a2,0,none⟩) 1 1] W (Rb bz W):=by
 intro W a1 a2 hW r1 r2
 have hC:K.C<=W.heap.size:=Nat.le_trans he.C hW.size
 refine xstmts_any (n+1) (K:=K.up W.heap.size) (LX:=[x]) (LY:=[St.bare 0 0]) (Nat.le_refl _) ⟨_,1,rfl,Nat.le_refl _,(by simp),fun i hi=>?_⟩ ⟨_,1,rfl,Nat.le_refl _,(by simp),fun i hi=>?_⟩ bz (by rw [hbz];simp)
 ·obtain rfl:i=0:=by simpa using hi
  exact ⟨a1,0,rfl,r1.lt,xs,hl,fun j _=>by rw [Nat.zero_mul,Nat.zero_add];exact r1.cell j,(hx W hW).up hC⟩
 ·obtain rfl:i=0:=by simpa using hi
  exact ⟨a2,0,rfl,r2.lt,stCells 0 0,rfl,fun j _=>by rw [Nat.zero_mul,Nat.zero_add];exact r2.cell j,st_zero n _ W 0 0⟩
theorem tl_end {Q:Exit->Act->World->Prop} {w W0:World} {g gx:Nat} {cs xs:List Value} {pt pe:Option Addr} {nt ct ne ce:Nat} {d:Int} (hd0:0<=d) (hd1:d<=64) (hS:Sst w g gx cs xs W0) (hl:xs.length=32) (hvt:cs[30]?=some (.slice pt nt ct)) (hve:cs[31]?=some (.slice pe ne ce)) {ok th ot bz b1 b2:Bool}
  (hto:ot=true->th=true) (h77:A77 w xs bz)
  (h1:A59 w (.slice pt nt ct) d b1)
  (h2:A59 w (.slice pe ne ce) d b2)
  {u0 u2 u3 u4 u5 T7 U8 k3 k4 k5 k6 k7 k8 k9 l0 l1 l2 l3 l4 l5 l6 l7 l8 l9 m0 m1 m2 m3 m4 m5 m6 m7 m8 m9 n0 n1 n2 n3 n4 n5 n6 n7 n8 n9 o4 o5 o6 o7 o8 o9 p2 p3 p4 p5 p6 p7 p9 q0 q1 q2 q3 q4 q5 q6 q7 q8 q9 r0 r3 r4 r5 r6 r7 r8 r9 s0 s1 s2 s3 s4 s5 s6 s7 s8 s9 t4 t5 t6 t7 t8 t9 u1 w0 w1 S7 S8 S9 T0 T1 T2 T3 T4 T5 T6 T8 T9 U0 U1 U2 U3 U4 U5 U6 U7 U9 V0 V1 V2 V3 V4 V5 V6 V7 V8 V9 W4 W5 W6 W7 W8 W9 X0 X1 X2 X3 X4 X5 X6 X7 X8 X9 Y0 Y1 Y2 Y3 Y4 Y5 Y6 Y7 Y8 Y9 Z0 Z1 Z2 Z3 Z4 Z5 Z6 Z7 Z8 Z9 a0 a3 a4 a5 a6 a7 a8 a9:Value}
  (hN:(ok=true/\bz=true/\(th=false->nt=0)/\(ot=false->ne=0)/\(th=true->b1=true)/\(ot=true->b2=true))->∀ (W':World) (z6 z7 z8 z9 b0 b3 b4 b5 b6 b7 b8 R5 R6 R7 R8 R9 S0 S4 S5 S6 b9 c0 c3 c4 c5 c6 c7 c8 c9 d0 d1 d2 d3 d4 d5 d6 d7 d8 d9 e0 e1 e2 e3 e4 e5 e6 e7 e8 e9 f0 f1 f2 f3 f4 f5 f6 f7 f8 f9 g0 g1 g2 g3 g4 g5 g6 g7 g8 g9 i0 i1 i2 i3 i4 i5 i6 i7 i8 i9 j0 j1 j2 j3 j4 j5 j6 j7 j8 j9 k0 k1 k2 C3 C4 C5 C6 C7 C8 C9 D0 D1 D2 D3 D4 D5 D6 D7 D8 D9 E0 E1 E2 E3 E4 E5 E6 E7 E8 E9 F0 F1 F2 F3 F4 F5 F6 F7 F8 F9 G0 G1 G2 G3 G4 G5 G6 G7 G8 G9 H0 H1 H2 H3 H4 H5 H6 H7 H8 H9 I0 I1 I2 I3 I4 I5 I6 I7 I8 I9 J0 J1 J2 J3 J4 J5 J6 J7:Value),Below w.heap.size w W'->Q .normal { tmps:=#[u0,.int .i64 d,u2,u3,u4,u5,z6,z7,z8,z9,b0,T7,U8,b3,b4,b5,b6,b7,b8,R5,R6,R7,R8,R9,S0,S4,S5,S6,b9,c0,c3,c4,c5,c6,c7,c8,c9,d0,d1,d2,d3,d4,d5,d6,d7,d8,d9,e0,e1,e2,e3,e4,e5,e6,e7,e8,e9,f0,f1,f2,f3,f4,f5,f6,f7,f8,f9,g0,g1,g2,g3,g4,g5,g6,g7,g8,g9,i0,i1,i2,i3,i4,i5,i6,i7,i8,i9,j0,j1,j2,j3,j4,j5,j6,j7,j8,j9,k0,k1,k2,C3,C4,C5,C6,C7,C8,C9,D0,D1,D2,D3,D4,D5,D6,D7,D8,D9,E0,E1,E2,E3,E4,E5,E6,E7,E8,E9,F0,F1,F2,F3,F4,F5,F6,F7,F8,F9,G0,G1,G2,G3,G4,G5,G6,G7,G8,G9,H0,H1,H2,H3,H4,H5,H6,H7,H8,H9,I0,I1,I2,I3,I4,I5,I6,I7,I8,I9,J0,J1,J2,J3,J4,J5,J6,J7],defers:=[] } W')
  (hR:¬ (ok=true/\bz=true/\(th=false->nt=0)/\(ot=false->ne=0)/\(th=true->b1=true)/\(ot=true->b2=true))->∀ (W':World) (z6 z7 z8 z9 b0 b3 b4 b5 b6 b7 b8 R5 R6 R7 R8 R9 S0 S4 S5 S6 b9 c0 c3 c4 c5 c6 c7 c8 c9 d0 d1 d2 d3 d4 d5 d6 d7 d8 d9 e0 e1 e2 e3 e4 e5 e6 e7 e8 e9 f0 f1 f2 f3 f4 f5 f6 f7 f8 f9 g0 g1 g2 g3 g4 g5 g6 g7 g8 g9 i0 i1 i2 i3 i4 i5 i6 i7 i8 i9 j0 j1 j2 j3 j4 j5 j6 j7 j8 j9 k0 k1 k2 C3 C4 C5 C6 C7 C8 C9 D0 D1 D2 D3 D4 D5 D6 D7 D8 D9 E0 E1 E2 E3 E4 E5 E6 E7 E8 E9 F0 F1 F2 F3 F4 F5 F6 F7 F8 F9 G0 G1 G2 G3 G4 G5 G6 G7 G8 G9 H0 H1 H2 H3 H4 H5 H6 H7 H8 H9 I0 I1 I2 I3 I4 I5 I6 I7 I8 I9 J0 J1 J2 J3 J4 J5 J6 J7:Value),Below w.heap.size w W'->Q .ret { tmps:=#[u0,.int .i64 d,u2,u3,.bool false,u5,z6,z7,z8,z9,b0,T7,U8,b3,b4,b5,b6,b7,b8,R5,R6,R7,R8,R9,S0,S4,S5,S6,b9,c0,c3,c4,c5,c6,c7,c8,c9,d0,d1,d2,d3,d4,d5,d6,d7,d8,d9,e0,e1,e2,e3,e4,e5,e6,e7,e8,e9,f0,f1,f2,f3,f4,f5,f6,f7,f8,f9,g0,g1,g2,g3,g4,g5,g6,g7,g8,g9,i0,i1,i2,i3,i4,i5,i6,i7,i8,i9,j0,j1,j2,j3,j4,j5,j6,j7,j8,j9,k0,k1,k2,C3,C4,C5,C6,C7,C8,C9,D0,D1,D2,D3,D4,D5,D6,D7,D8,D9,E0,E1,E2,E3,E4,E5,E6,E7,E8,E9,F0,F1,F2,F3,F4,F5,F6,F7,F8,F9,G0,G1,G2,G3,G4,G5,G6,G7,G8,G9,H0,H1,H2,H3,H4,H5,H6,H7,H8,H9,I0,I1,I2,I3,I4,I5,I6,I7,I8,I9,J0,J1,J2,J3,J4,J5,J6,J7],defers:=[] } W') :
  Code.wp Tryz.prog (past6 (innerB ((Tryz.f59.body.bind (blockAt 1)).getD .skip))) Q { tmps:=#[u0,.int .i64 d,u2,u3,u4,u5,.pointer (some ⟨g,0,none⟩),.pointer (some ⟨gx,0,none⟩),.bool ok,.bool th,.bool ot,T7,U8,k3,k4,k5,k6,k7,k8,k9,l0,l1,l2,l3,l4,l5,l6,l7,l8,l9,m0,m1,m2,m3,m4,m5,m6,m7,m8,m9,n0,n1,n2,n3,n4,n5,n6,n7,n8,n9,o4,o5,o6,o7,o8,o9,p2,p3,p4,p5,p6,p7,p9,q0,q1,q2,q3,q4,q5,q6,q7,q8,q9,r0,r3,r4,r5,r6,r7,r8,r9,s0,s1,s2,s3,s4,s5,s6,s7,s8,s9,t4,t5,t6,t7,t8,t9,u1,w0,w1,S7,S8,S9,T0,T1,T2,T3,T4,T5,T6,T8,T9,U0,U1,U2,U3,U4,U5,U6,U7,U9,V0,V1,V2,V3,V4,V5,V6,V7,V8,V9,W4,W5,W6,W7,W8,W9,X0,X1,X2,X3,X4,X5,X6,X7,X8,X9,Y0,Y1,Y2,Y3,Y4,Y5,Y6,Y7,Y8,Y9,Z0,Z1,Z2,Z3,Z4,Z5,Z6,Z7,Z8,Z9,a0,a3,a4,a5,a6,a7,a8,a9],defers:=[] } W0 :=
 tl_any hd0 hd1 hS hl hvt hve hto h77 h1 h2 (fun hC _ _ _ _ _ _ _ _ _ _ _ _ _ _ _ _ _ _ _ _ _ _ _ _ _ _ _ _ _ _ _ _ _ _ _ _ _ _ _ _ _ _ _ _ _ _ _ _ _ _ _ _ _ h=>hN hC _ _ _ _ _ _ _ _ _ _ _ _ _ _ _ _ _ _ _ _ _ _ _ _ _ _ _ _ _ _ _ _ _ _ _ _ _ _ _ _ _ _ _ _ _ _ _ _ _ _ _ _ _ _ _ _ _ _ _ _ _ _ _ _ _ _ _ _ _ _ _ _ _ _ _ _ _ _ _ _ _ _ _ _ _ _ _ _ _ _ _ _ _ _ _ _ _ _ _ _ _ _ _ _ _ _ _ _ _ _ _ _ _ _ _ _ _ _ _ _ _ _ _ _ _ _ _ _ _ _ _ _ _ _ _ _ _ _ _ _ _ _ _ _ _ _ _ _ _ _ _ _ _ _ _ _ _ _ _ _ _ _ _ _ _ _ _ _ h) (fun hC _ _ _ _ _ _ _ _ _ _ _ _ _ _ _ _ _ _ _ _ _ _ _ _ _ _ _ _ _ _ _ _ _ _ _ _ _ _ _ _ _ _ _ _ _ _ _ _ _ _ _ _ _ h=>hR hC _ _ _ _ _ _ _ _ _ _ _ _ _ _ _ _ _ _ _ _ _ _ _ _ _ _ _ _ _ _ _ _ _ _ _ _ _ _ _ _ _ _ _ _ _ _ _ _ _ _ _ _ _ _ _ _ _ _ _ _ _ _ _ _ _ _ _ _ _ _ _ _ _ _ _ _ _ _ _ _ _ _ _ _ _ _ _ _ _ _ _ _ _ _ _ _ _ _ _ _ _ _ _ _ _ _ _ _ _ _ _ _ _ _ _ _ _ _ _ _ _ _ _ _ _ _ _ _ _ _ _ _ _ _ _ _ _ _ _ _ _ _ _ _ _ _ _ _ _ _ _ _ _ _ _ _ _ _ _ _ _ _ _ _ _ _ _ _ h)
theorem round59 {n m:Nat} {K:Ctx} {Q:Exit->Act->World->Prop} {w W0:World} (he:Env K w) {d:Int} (hd0:0<=d) (hd1:d<=64)
  (IH:∀ W,Below w.heap.size w W->∀ {v:Value} {l:List St},Ar 32 496 (StAt n K W) K W v l->∀ B:Bool,(B=true↔MayBlk m l)->Calls Tryz.prog 59 #[v,.int .i64 (d+1)] W (Rb B W))
  (hw:Below w.heap.size w W0) {b o k nn cap:Nat} {cs:List Value} {s:St} (hkn:k<nn) (hc:W0.rangeAt b (o+k * 32) cs) (hl:cs.length=32) (hx:StAt (n+1) K w cs s) {u2 u3 u4 u6 u7 u8 u9 w2 T7 U8 k3 k4 k5 k6 k7 k8 k9 l0 l1 l2 l3 l4 l5 l6 l7 l8 l9 m0 m1 m2 m3 m4 m5 m6 m7 m8 m9 n0 n1 n2 n3 n4 n5 n6 n7 n8 n9 o4 o5 o6 o7 o8 o9 p2 p3 p4 p5 p6 p7 p9 q0 q1 q2 q3 q4 q5 q6 q7 q8 q9 r0 r3 r4 r5 r6 r7 r8 r9 s0 s1 s2 s3 s4 s5 s6 s7 s8 s9 t4 t5 t6 t7 t8 t9 u1 w0 w1 S7 S8 S9 T0 T1 T2 T3 T4 T5 T6 T8 T9 U0 U1 U2 U3 U4 U5 U6 U7 U9 V0 V1 V2 V3 V4 V5 V6 V7 V8 V9 W4 W5 W6 W7 W8 W9 X0 X1 X2 X3 X4 X5 X6 X7 X8 X9 Y0 Y1 Y2 Y3 Y4 Y5 Y6 Y7 Y8 Y9 Z0 Z1 Z2 Z3 Z4 Z5 Z6 Z7 Z8 Z9 a0 a3 a4 a5 a6 a7 a8 a9:Value}
  (hN:StOk (MayBlk m) s->∀ (W':World) (z6 z7 z8 z9 b0 b3 b4 b5 b6 b7 b8 R5 R6 R7 R8 R9 S0 S4 S5 S6 b9 c0 c3 c4 c5 c6 c7 c8 c9 d0 d1 d2 d3 d4 d5 d6 d7 d8 d9 e0 e1 e2 e3 e4 e5 e6 e7 e8 e9 f0 f1 f2 f3 f4 f5 f6 f7 f8 f9 g0 g1 g2 g3 g4 g5 g6 g7 g8 g9 i0 i1 i2 i3 i4 i5 i6 i7 i8 i9 j0 j1 j2 j3 j4 j5 j6 j7 j8 j9 k0 k1 k2 C3 C4 C5 C6 C7 C8 C9 D0 D1 D2 D3 D4 D5 D6 D7 D8 D9 E0 E1 E2 E3 E4 E5 E6 E7 E8 E9 F0 F1 F2 F3 F4 F5 F6 F7 F8 F9 G0 G1 G2 G3 G4 G5 G6 G7 G8 G9 H0 H1 H2 H3 H4 H5 H6 H7 H8 H9 I0 I1 I2 I3 I4 I5 I6 I7 I8 I9 J0 J1 J2 J3 J4 J5 J6 J7:Value),Below w.heap.size w W'->Q .normal { tmps:=#[.slice (some ⟨b,o,none⟩) nn cap,.int .i64 d,u2,u3,u4,.int .i64 (k:Int),z6,z7,z8,z9,b0,T7,U8,b3,b4,b5,b6,b7,b8,R5,R6,R7,R8,R9,S0,S4,S5,S6,b9,c0,c3,c4,c5,c6,c7,c8,c9,d0,d1,d2,d3,d4,d5,d6,d7,d8,d9,e0,e1,e2,e3,e4,e5,e6,e7,e8,e9,f0,f1,f2,f3,f4,f5,f6,f7,f8,f9,g0,g1,g2,g3,g4,g5,g6,g7,g8,g9,i0,i1,i2,i3,i4,i5,i6,i7,i8,i9,j0,j1,j2,j3,j4,j5,j6,j7,j8,j9,k0,k1,k2,C3,C4,C5,C6,C7,C8,C9,D0,D1,D2,D3,D4,D5,D6,D7,D8,D9,E0,E1,E2,E3,E4,E5,E6,E7,E8,E9,F0,F1,F2,F3,F4,F5,F6,F7,F8,F9,G0,G1,G2,G3,G4,G5,G6,G7,G8,G9,H0,H1,H2,H3,H4,H5,H6,H7,H8,H9,I0,I1,I2,I3,I4,I5,I6,I7,I8,I9,J0,J1,J2,J3,J4,J5,J6,J7],defers:=[] } W')
  (hR:¬ StOk (MayBlk m) s->∀ (W':World) (z6 z7 z8 z9 b0 b3 b4 b5 b6 b7 b8 R5 R6 R7 R8 R9 S0 S4 S5 S6 b9 c0 c3 c4 c5 c6 c7 c8 c9 d0 d1 d2 d3 d4 d5 d6 d7 d8 d9 e0 e1 e2 e3 e4 e5 e6 e7 e8 e9 f0 f1 f2 f3 f4 f5 f6 f7 f8 f9 g0 g1 g2 g3 g4 g5 g6 g7 g8 g9 i0 i1 i2 i3 i4 i5 i6 i7 i8 i9 j0 j1 j2 j3 j4 j5 j6 j7 j8 j9 k0 k1 k2 C3 C4 C5 C6 C7 C8 C9 D0 D1 D2 D3 D4 D5 D6 D7 D8 D9 E0 E1 E2 E3 E4 E5 E6 E7 E8 E9 F0 F1 F2 F3 F4 F5 F6 F7 F8 F9 G0 G1 G2 G3 G4 G5 G6 G7 G8 G9 H0 H1 H2 H3 H4 H5 H6 H7 H8 H9 I0 I1 I2 I3 I4 I5 I6 I7 I8 I9 J0 J1 J2 J3 J4 J5 J6 J7:Value),Below w.heap.size w W'->Q .ret { tmps:=#[.slice (some ⟨b,o,none⟩) nn cap,.int .i64 d,u2,u3,.bool false,.int .i64 (k:Int),z6,z7,z8,z9,b0,T7,U8,b3,b4,b5,b6,b7,b8,R5,R6,R7,R8,R9,S0,S4,S5,S6,b9,c0,c3,c4,c5,c6,c7,c8,c9,d0,d1,d2,d3,d4,d5,d6,d7,d8,d9,e0,e1,e2,e3,e4,e5,e6,e7,e8,e9,f0,f1,f2,f3,f4,f5,f6,f7,f8,f9,g0,g1,g2,g3,g4,g5,g6,g7,g8,g9,i0,i1,i2,i3,i4,i5,i6,i7,i8,i9,j0,j1,j2,j3,j4,j5,j6,j7,j8,j9,k0,k1,k2,C3,C4,C5,C6,C7,C8,C9,D0,D1,D2,D3,D4,D5,D6,D7,D8,D9,E0,E1,E2,E3,E4,E5,E6,E7,E8,E9,F0,F1,F2,F3,F4,F5,F6,F7,F8,F9,G0,G1,G2,G3,G4,G5,G6,G7,G8,G9,H0,H1,H2,H3,H4,H5,H6,H7,H8,H9,I0,I1,I2,I3,I4,I5,I6,I7,I8,I9,J0,J1,J2,J3,J4,J5,J6,J7],defers:=[] } W') :
  Code.wp Tryz.prog (innerB ((Tryz.f59.body.bind (blockAt 1)).getD .skip)) Q { tmps:=#[.slice (some ⟨b,o,none⟩) nn cap,.int .i64 d,u2,u3,u4,.int .i64 (k:Int),u6,u7,u8,u9,w2,T7,U8,k3,k4,k5,k6,k7,k8,k9,l0,l1,l2,l3,l4,l5,l6,l7,l8,l9,m0,m1,m2,m3,m4,m5,m6,m7,m8,m9,n0,n1,n2,n3,n4,n5,n6,n7,n8,n9,o4,o5,o6,o7,o8,o9,p2,p3,p4,p5,p6,p7,p9,q0,q1,q2,q3,q4,q5,q6,q7,q8,q9,r0,r3,r4,r5,r6,r7,r8,r9,s0,s1,s2,s3,s4,s5,s6,s7,s8,s9,t4,t5,t6,t7,t8,t9,u1,w0,w1,S7,S8,S9,T0,T1,T2,T3,T4,T5,T6,T8,T9,U0,U1,U2,U3,U4,U5,U6,U7,U9,V0,V1,V2,V3,V4,V5,V6,V7,V8,V9,W4,W5,W6,W7,W8,W9,X0,X1,X2,X3,X4,X5,X6,X7,X8,X9,Y0,Y1,Y2,Y3,Y4,Y5,Y6,Y7,Y8,Y9,Z0,Z1,Z2,Z3,Z4,Z5,Z6,Z7,Z8,Z9,a0,a3,a4,a5,a6,a7,a8,a9],defers:=[] } W0:=by
 have hone:=all_one hx.one
 obtain ⟨ts,ps,vs,os,vt,ve,ec,hnl,kt,kp,kv,ko,h6,h7⟩:=hx
 obtain ⟨t0,t1,t2,t3,rfl⟩:=list4 kt.len
 obtain ⟨p0,p1,rfl⟩:=list2 kp.len
 obtain ⟨v0,v1,v2,v3,v4,v5,v6,v7,v8,v9,R0,R1,R2,R3,R4,rfl⟩:=list15 kv.len
 obtain ⟨o0,o1,o2,o3,rfl⟩:=list4 ko.len
 obtain ⟨pt,ct,rfl⟩:=h6.form
 obtain ⟨pe,ce,rfl⟩:=h7.form
 simp only [List.cons_append,List.nil_append] at ec
 subst ec
 have hK:∀ W,Below w.heap.size w W->Below K.C w W:=fun W hW=>below_le hW he.C
 have cN:∀ W,Below w.heap.size w W->Calls Tryz.prog 26 #[.string (str s.name)] W (Rb (nameB s.name) W):=fun W _=>xname_any s.name (Nat.le_trans hnl (Nat.le_trans he.B (by omega))) W
 obtain ⟨bt,hbt⟩:=pbool (MayTy 64 s.ty)
 have cT:∀ W,Below w.heap.size w W->Calls Tryz.prog 58 #[.agg #[t0,t1,t2,t3],.int .i64 1] W (Rb bt W):=fun W hW=>by
  obtain ⟨Nt,kt'⟩:=kt.below (hK W hW)
  exact xty_any 64 (he.below (hK W hW)) (d:=1) rfl kt' bt hbt
 obtain ⟨bp,hbp⟩:=pbool (MayPl s.place)
 have cP:∀ W,Below w.heap.size w W->Calls Tryz.prog 92 #[.agg #[p0,p1]] W (Rb bp W):=fun W hW=>xplaceMay_any (he.below (hK W hW)) (kp.below (hK W hW)) bp hbp
 obtain ⟨bv,hbv⟩:=pbool (MayVa s.val)
 have cV:∀ W,Below w.heap.size w W->Calls Tryz.prog 93 #[.agg #[v0,v1,v2,v3,v4,v5,v6,v7,v8,v9,R0,R1,R2,R3,R4]] W (Rb bv W):=fun W hW=>xval_any (he.below (hK W hW)) (kv.below (hK W hW)) bv hbv
 obtain ⟨bo,hbo⟩:=pbool (MayOpr s.cond)
 have cO:∀ W,Below w.heap.size w W->Calls Tryz.prog 94 #[.agg #[o0,o1,o2,o3]] W (Rb bo W):=fun W hW=>xoperMay_any (he.below (hK W hW)) (ko.below (hK W hW)) bo hbo
 obtain ⟨b1,hb1⟩:=pbool (MayBlk m s.thn)
 have c1:∀ W,Below w.heap.size w W->Calls Tryz.prog 59 #[.slice pt s.thn.length ct,.int .i64 (d+1)] W (Rb b1 W):=fun W hW=>IH W hW (h6.mono (hK W hW) fun _ _ _ h=>h.below (hK W hW)) b1 hb1
 obtain ⟨b2,hb2⟩:=pbool (MayBlk m s.els)
 have c2:∀ W,Below w.heap.size w W->Calls Tryz.prog 59 #[.slice pe s.els.length ce,.int .i64 (d+1)] W (Rb b2 W):=fun W hW=>IH W hW (h7.mono (hK W hW) fun _ _ _ h=>h.below (hK W hW)) b2 hb2
 have hv0:v0=.int .i64 s.val.kind:=by
  obtain ⟨_,_,_,_,_,e,_⟩:=kv
  exact (List.cons.inj e).1
 have HN:=hid hN
 have HR:=hid hR
 clear hN hR
 show Code.wp Tryz.prog (first2 (rest2 (innerB ((Tryz.f59.body.bind (blockAt 1)).getD .skip))) (innerB ((Tryz.f59.body.bind (blockAt 1)).getD .skip))) Q _ _
 refine p67 hw hkn hc hone hl ?_
 intro W1 g gx R5 R6 R7 R8 R9 S1
 show Code.wp Tryz.prog (third (rest3 (innerB ((Tryz.f59.body.bind (blockAt 1)).getD .skip))) (innerB ((Tryz.f59.body.bind (blockAt 1)).getD .skip))) Q _ _
 refine p8 S1 ?_
 intro W2 S0 S4 S5 S6 S2
 show Code.wp Tryz.prog (next3 (past6 (innerB ((Tryz.f59.body.bind (blockAt 1)).getD .skip))) (innerB ((Tryz.f59.body.bind (blockAt 1)).getD .skip))) Q _ _
 clear hc hone hl hkn S1
 by_cases h1:s.kind=1
 ·cases hh:s.has with
  | false =>
   rw [hh] at S2
   have hxs:∀ W,Below w.heap.size w W->StAt (n+1) K W [.int .i64 0,.int .i64 0,.bool false,.string ⟨#[]⟩,.int .i64 0,.string ⟨#[]⟩,.slice none 0 0,.slice none 0 0,.bool false,p0,p1,v0,v1,v2,v3,v4,v5,v6,v7,v8,v9,R0,R1,R2,R3,R4,o0,o1,o2,o3,.slice none 0 0,.slice none 0 0] { s.z with mu:=false,name:=[],ty:=Ty.zero }:=fun W hW=>by
    have e:s.has=false:=hh
    refine ⟨tyCells 0,_,_,_,_,_,?_,by simp,⟨1,_,_,rfl,by simp [Ty.zero],nil_ar,nil_ar⟩,kp.below (hK W hW),kv.below (hK W hW),ko.below (hK W hW),nil_ar,nil_ar⟩
    simp only [St.z,e]
    rfl
   obtain ⟨bz,hbz⟩:=pbool ({ s.z with mu:=false,name:=[],ty:=Ty.zero }=St.bare 0 0)
   refine fr_1 S2 h1 cN cT ?_
   intro W3 J8 J9 K0 K1 K2 K3 K4 K5 K6 K7 K8 K9 L0 L1 L2 L3 L4 L5 L6 L7 L8 L9 M0 M1 M2 M3 M4 M5 M6 M7 M8 M9 N0 N1 N2 N3 N4 N5 N6 N7 N8 N9 O0 O1 O2 O3 O4 O5 O6 O7 O8 O9 P0 P1 P2 P3 P4 P5 P6 P7 P8 P9 Q0 Q1 Q2 Q3 Q4 Q5 Q6 Q7 Q8 Q9 A0 A1 A2 A3 A4 A5 A6 A7 A8 A9 B0 B1 B2 B3 B4 B5 B6 B7 B8 B9 C0 C1 C2 S3
   have G:=split_glue (ok:=nameB s.name && bt) (b1:=b1) (b2:=b2) (sp_1 h1 hh) (by rw [Bool.and_eq_true,hbt]) hbz hb1 hb2
   exact tl_end hd0 hd1 S3 rfl rfl rfl (fun h=>(by cases h)) (same77 he hxs rfl bz hbz) c1 c2 (fun hC=>HN.out (G.1 hC)) (fun hC=>HR.out fun h'=>hC (G.2 h'))
  | true =>
   rw [hh] at S2
   have hxs:∀ W,Below w.heap.size w W->StAt (n+1) K W [.int .i64 0,.int .i64 0,.bool false,.string ⟨#[]⟩,.int .i64 0,.string ⟨#[]⟩,.slice none 0 0,.slice none 0 0,.bool false,p0,p1,.int .i64 0,.int .i64 0,.int .i64 0,.string ⟨#[]⟩,.slice none 0 0,.int .i64 0,.int .i64 0,.string ⟨#[]⟩,.slice none 0 0,.int .i64 0,.string ⟨#[]⟩,.slice none 0 0,.string ⟨#[]⟩,.slice none 0 0,.slice none 0 0,o0,o1,o2,o3,.slice none 0 0,.slice none 0 0] { s.z with mu:=false,name:=[],ty:=Ty.zero,val:=Va.zero,has:=false }:=fun W hW=>⟨tyCells 0,_,vaCells 0,_,_,_,rfl,by simp,⟨1,_,_,rfl,by simp [Ty.zero],nil_ar,nil_ar⟩,kp.below (hK W hW),va_zero K W 0,ko.below (hK W hW),nil_ar,nil_ar⟩
   obtain ⟨bz,hbz⟩:=pbool ({ s.z with mu:=false,name:=[],ty:=Ty.zero,val:=Va.zero,has:=false }=St.bare 0 0)
   refine fr_1v S2 h1 cN cT cV ?_
   intro W3 J8 J9 K0 K1 K2 K3 K4 K5 K6 K7 K8 K9 L0 L1 L2 L3 L4 L5 L6 L7 L8 L9 M0 M1 M2 M3 M4 M5 M6 M7 M8 M9 N0 N1 N2 N3 N4 N5 N6 N7 N8 N9 O0 O1 O2 O3 O4 O5 O6 O7 O8 O9 P0 P1 P2 P3 P4 P5 P6 P7 P8 P9 Q0 Q1 Q2 Q3 Q4 Q5 Q6 Q7 Q8 Q9 A0 A1 A2 A3 A4 A5 A6 A7 A8 A9 B0 B1 B2 B3 B4 B5 B6 B7 B8 B9 C0 C1 C2 S3
   have G:=split_glue (ok:=nameB s.name && (bt && bv)) (b1:=b1) (b2:=b2) (sp_1v h1 hh) (by rw [Bool.and_eq_true,Bool.and_eq_true,hbt,hbv]) hbz hb1 hb2
   exact tl_end hd0 hd1 S3 rfl rfl rfl (fun h=>(by cases h)) (same77 he hxs rfl bz hbz) c1 c2 (fun hC=>HN.out (G.1 hC)) (fun hC=>HR.out fun h'=>hC (G.2 h'))
 by_cases h2:s.kind=2
 ·have hxs:∀ W,Below w.heap.size w W->StAt (n+1) K W [.int .i64 0,.int .i64 0,.bool s.mu,.string (str s.name),t0,t1,t2,t3,.bool s.has,.string ⟨#[]⟩,.slice none 0 0,.int .i64 0,.int .i64 0,.int .i64 0,.string ⟨#[]⟩,.slice none 0 0,.int .i64 0,.int .i64 0,.string ⟨#[]⟩,.slice none 0 0,.int .i64 0,.string ⟨#[]⟩,.slice none 0 0,.string ⟨#[]⟩,.slice none 0 0,.slice none 0 0,o0,o1,o2,o3,.slice none 0 0,.slice none 0 0] { s.z with place:=Pl.zero,val:=Va.zero }:=fun W hW=>⟨_,plCells,vaCells 0,_,_,_,rfl,hnl,kt.below (hK W hW),pl_zero K W,va_zero K W 0,ko.below (hK W hW),nil_ar,nil_ar⟩
  obtain ⟨bz,hbz⟩:=pbool ({ s.z with place:=Pl.zero,val:=Va.zero }=St.bare 0 0)
  refine fr_2 S2 h2 cP cV ?_
  intro W3 J8 J9 K0 K1 K2 K3 K4 K5 K6 K7 K8 K9 L0 L1 L2 L3 L4 L5 L6 L7 L8 L9 M0 M1 M2 M3 M4 M5 M6 M7 M8 M9 N0 N1 N2 N3 N4 N5 N6 N7 N8 N9 O0 O1 O2 O3 O4 O5 O6 O7 O8 O9 P0 P1 P2 P3 P4 P5 P6 P7 P8 P9 Q0 Q1 Q2 Q3 Q4 Q5 Q6 Q7 Q8 Q9 A0 A1 A2 A3 A4 A5 A6 A7 A8 A9 B0 B1 B2 B3 B4 B5 B6 B7 B8 B9 C0 C1 C2 S3
  have G:=split_glue (ok:=bp && bv) (b1:=b1) (b2:=b2) (sp_2 h2) (by rw [Bool.and_eq_true,hbp,hbv]) hbz hb1 hb2
  exact tl_end hd0 hd1 S3 rfl rfl rfl (fun h=>(by cases h)) (same77 he hxs rfl bz hbz) c1 c2 (fun hC=>HN.out (G.1 hC)) (fun hC=>HR.out fun h'=>hC (G.2 h'))
 by_cases h3:s.kind=3
 ·have hxs:∀ W,Below w.heap.size w W->StAt (n+1) K W [.int .i64 0,.int .i64 0,.bool s.mu,.string (str s.name),t0,t1,t2,t3,.bool s.has,p0,p1,.int .i64 0,.int .i64 0,.int .i64 0,.string ⟨#[]⟩,.slice none 0 0,.int .i64 0,.int .i64 0,.string ⟨#[]⟩,.slice none 0 0,.int .i64 0,.string ⟨#[]⟩,.slice none 0 0,.string ⟨#[]⟩,.slice none 0 0,.slice none 0 0,o0,o1,o2,o3,.slice none 0 0,.slice none 0 0] { s.z with val:=Va.zero }:=fun W hW=>⟨_,_,vaCells 0,_,_,_,rfl,hnl,kt.below (hK W hW),kp.below (hK W hW),va_zero K W 0,ko.below (hK W hW),nil_ar,nil_ar⟩
  obtain ⟨bz,hbz⟩:=pbool ({ s.z with val:=Va.zero }=St.bare 0 0)
  refine fr_3 S2 h3 hv0 cV ?_
  intro W3 J8 J9 K0 K1 K2 K3 K4 K5 K6 K7 K8 K9 L0 L1 L2 L3 L4 L5 L6 L7 L8 L9 M0 M1 M2 M3 M4 M5 M6 M7 M8 M9 N0 N1 N2 N3 N4 N5 N6 N7 N8 N9 O0 O1 O2 O3 O4 O5 O6 O7 O8 O9 P0 P1 P2 P3 P4 P5 P6 P7 P8 P9 Q0 Q1 Q2 Q3 Q4 Q5 Q6 Q7 Q8 Q9 A0 A1 A2 A3 A4 A5 A6 A7 A8 A9 B0 B1 B2 B3 B4 B5 B6 B7 B8 B9 C0 C1 C2 S3
  have G:=split_glue (ok:=bv && (s.val.kind == 6)) (b1:=b1) (b2:=b2) (sp_3 h3) (by rw [Bool.and_eq_true,hbv,beq_iff_eq]) hbz hb1 hb2
  exact tl_end hd0 hd1 S3 rfl rfl rfl (fun h=>(by cases h)) (same77 he hxs rfl bz hbz) c1 c2 (fun hC=>HN.out (G.1 hC)) (fun hC=>HR.out fun h'=>hC (G.2 h'))
 by_cases h4:s.kind=4
 ·have hxs:∀ W,Below w.heap.size w W->StAt (n+1) K W [.int .i64 0,.int .i64 0,.bool s.mu,.string (str s.name),t0,t1,t2,t3,.bool false,p0,p1,v0,v1,v2,v3,v4,v5,v6,v7,v8,v9,R0,R1,R2,R3,R4,.int .i64 0,.int .i64 0,.string ⟨#[]⟩,.slice none 0 0,.slice none 0 0,.slice none 0 0] { s.z with cond:=Opr.zero,has:=false }:=fun W hW=>⟨_,_,_,oprCells,_,_,rfl,hnl,kt.below (hK W hW),kp.below (hK W hW),kv.below (hK W hW),opr_zero K W,nil_ar,nil_ar⟩
  obtain ⟨bz,hbz⟩:=pbool ({ s.z with cond:=Opr.zero,has:=false }=St.bare 0 0)
  refine fr_4 S2 h4 cO ?_
  intro W3 J8 J9 K0 K1 K2 K3 K4 K5 K6 K7 K8 K9 L0 L1 L2 L3 L4 L5 L6 L7 L8 L9 M0 M1 M2 M3 M4 M5 M6 M7 M8 M9 N0 N1 N2 N3 N4 N5 N6 N7 N8 N9 O0 O1 O2 O3 O4 O5 O6 O7 O8 O9 P0 P1 P2 P3 P4 P5 P6 P7 P8 P9 Q0 Q1 Q2 Q3 Q4 Q5 Q6 Q7 Q8 Q9 A0 A1 A2 A3 A4 A5 A6 A7 A8 A9 B0 B1 B2 B3 B4 B5 B6 B7 B8 B9 C0 C1 C2 S3
  have G:=split_glue (ok:=bo) (b1:=b1) (b2:=b2) (sp_4 h4) (by rw [hbo]) hbz hb1 hb2
  exact tl_end hd0 hd1 S3 rfl rfl rfl (fun _=>rfl) (same77 he hxs rfl bz hbz) c1 c2 (fun hC=>HN.out (G.1 hC)) (fun hC=>HR.out fun h'=>hC (G.2 h'))
 by_cases h5:s.kind=5
 ·have hxs:∀ W,Below w.heap.size w W->StAt (n+1) K W [.int .i64 0,.int .i64 0,.bool s.mu,.string (str s.name),t0,t1,t2,t3,.bool s.has,p0,p1,v0,v1,v2,v3,v4,v5,v6,v7,v8,v9,R0,R1,R2,R3,R4,.int .i64 0,.int .i64 0,.string ⟨#[]⟩,.slice none 0 0,.slice none 0 0,.slice none 0 0] { s.z with cond:=Opr.zero }:=fun W hW=>⟨_,_,_,oprCells,_,_,rfl,hnl,kt.below (hK W hW),kp.below (hK W hW),kv.below (hK W hW),opr_zero K W,nil_ar,nil_ar⟩
  obtain ⟨bz,hbz⟩:=pbool ({ s.z with cond:=Opr.zero }=St.bare 0 0)
  refine fr_5 S2 h5 cO ?_
  intro W3 J8 J9 K0 K1 K2 K3 K4 K5 K6 K7 K8 K9 L0 L1 L2 L3 L4 L5 L6 L7 L8 L9 M0 M1 M2 M3 M4 M5 M6 M7 M8 M9 N0 N1 N2 N3 N4 N5 N6 N7 N8 N9 O0 O1 O2 O3 O4 O5 O6 O7 O8 O9 P0 P1 P2 P3 P4 P5 P6 P7 P8 P9 Q0 Q1 Q2 Q3 Q4 Q5 Q6 Q7 Q8 Q9 A0 A1 A2 A3 A4 A5 A6 A7 A8 A9 B0 B1 B2 B3 B4 B5 B6 B7 B8 B9 C0 C1 C2 S3
  have G:=split_glue (ok:=bo) (b1:=b1) (b2:=b2) (sp_5 h5) (by rw [hbo]) hbz hb1 hb2
  exact tl_end hd0 hd1 S3 rfl rfl rfl (fun h=>(by cases h)) (same77 he hxs rfl bz hbz) c1 c2 (fun hC=>HN.out (G.1 hC)) (fun hC=>HR.out fun h'=>hC (G.2 h'))
 by_cases h6k:s.kind=6
 ·have hxs:∀ W,Below w.heap.size w W->StAt (n+1) K W [.int .i64 0,.int .i64 0,.bool s.mu,.string (str s.name),t0,t1,t2,t3,.bool s.has,p0,p1,v0,v1,v2,v3,v4,v5,v6,v7,v8,v9,R0,R1,R2,R3,R4,o0,o1,o2,o3,.slice none 0 0,.slice none 0 0] s.z:=fun W hW=>⟨_,_,_,_,_,_,rfl,hnl,kt.below (hK W hW),kp.below (hK W hW),kv.below (hK W hW),ko.below (hK W hW),nil_ar,nil_ar⟩
  obtain ⟨bz,hbz⟩:=pbool (s.z=St.bare 0 0)
  refine fr_6 S2 h6k ?_
  intro W3 J8 J9 K0 K1 K2 K3 K4 K5 K6 K7 K8 K9 L0 L1 L2 L3 L4 L5 L6 L7 L8 L9 M0 M1 M2 M3 M4 M5 M6 M7 M8 M9 N0 N1 N2 N3 N4 N5 N6 N7 N8 N9 O0 O1 O2 O3 O4 O5 O6 O7 O8 O9 P0 P1 P2 P3 P4 P5 P6 P7 P8 P9 Q0 Q1 Q2 Q3 Q4 Q5 Q6 Q7 Q8 Q9 A0 A1 A2 A3 A4 A5 A6 A7 A8 A9 B0 B1 B2 B3 B4 B5 B6 B7 B8 B9 C0 C1 C2 S3
  have G:=split_glue (ok:=true) (b1:=b1) (b2:=b2) (sp_67 (.inl h6k)) (by simp) hbz hb1 hb2
  exact tl_end hd0 hd1 S3 rfl rfl rfl (fun h=>(by cases h)) (same77 he hxs rfl bz hbz) c1 c2 (fun hC=>HN.out (G.1 hC)) (fun hC=>HR.out fun h'=>hC (G.2 h'))
 by_cases h7k:s.kind=7
 ·have hxs:∀ W,Below w.heap.size w W->StAt (n+1) K W [.int .i64 0,.int .i64 0,.bool s.mu,.string (str s.name),t0,t1,t2,t3,.bool s.has,p0,p1,v0,v1,v2,v3,v4,v5,v6,v7,v8,v9,R0,R1,R2,R3,R4,o0,o1,o2,o3,.slice none 0 0,.slice none 0 0] s.z:=fun W hW=>⟨_,_,_,_,_,_,rfl,hnl,kt.below (hK W hW),kp.below (hK W hW),kv.below (hK W hW),ko.below (hK W hW),nil_ar,nil_ar⟩
  obtain ⟨bz,hbz⟩:=pbool (s.z=St.bare 0 0)
  refine fr_7 S2 h7k ?_
  intro W3 J8 J9 K0 K1 K2 K3 K4 K5 K6 K7 K8 K9 L0 L1 L2 L3 L4 L5 L6 L7 L8 L9 M0 M1 M2 M3 M4 M5 M6 M7 M8 M9 N0 N1 N2 N3 N4 N5 N6 N7 N8 N9 O0 O1 O2 O3 O4 O5 O6 O7 O8 O9 P0 P1 P2 P3 P4 P5 P6 P7 P8 P9 Q0 Q1 Q2 Q3 Q4 Q5 Q6 Q7 Q8 Q9 A0 A1 A2 A3 A4 A5 A6 A7 A8 A9 B0 B1 B2 B3 B4 B5 B6 B7 B8 B9 C0 C1 C2 S3
  have G:=split_glue (ok:=true) (b1:=b1) (b2:=b2) (sp_67 (.inr h7k)) (by simp) hbz hb1 hb2
  exact tl_end hd0 hd1 S3 rfl rfl rfl (fun h=>(by cases h)) (same77 he hxs rfl bz hbz) c1 c2 (fun hC=>HN.out (G.1 hC)) (fun hC=>HR.out fun h'=>hC (G.2 h'))
 by_cases h8:s.kind=8
 ·have hxs:∀ W,Below w.heap.size w W->StAt (n+1) K W [.int .i64 0,.int .i64 0,.bool s.mu,.string (str s.name),t0,t1,t2,t3,.bool s.has,p0,p1,v0,v1,v2,v3,v4,v5,v6,v7,v8,v9,R0,R1,R2,R3,R4,o0,o1,o2,o3,.slice none 0 0,.slice none 0 0] s.z:=fun W hW=>⟨_,_,_,_,_,_,rfl,hnl,kt.below (hK W hW),kp.below (hK W hW),kv.below (hK W hW),ko.below (hK W hW),nil_ar,nil_ar⟩
  obtain ⟨bz,hbz⟩:=pbool (s.z=St.bare 0 0)
  refine fr_8 S2 h8 ?_
  intro W3 J8 J9 K0 K1 K2 K3 K4 K5 K6 K7 K8 K9 L0 L1 L2 L3 L4 L5 L6 L7 L8 L9 M0 M1 M2 M3 M4 M5 M6 M7 M8 M9 N0 N1 N2 N3 N4 N5 N6 N7 N8 N9 O0 O1 O2 O3 O4 O5 O6 O7 O8 O9 P0 P1 P2 P3 P4 P5 P6 P7 P8 P9 Q0 Q1 Q2 Q3 Q4 Q5 Q6 Q7 Q8 Q9 A0 A1 A2 A3 A4 A5 A6 A7 A8 A9 B0 B1 B2 B3 B4 B5 B6 B7 B8 B9 C0 C1 C2 S3
  have G:=split_glue (ok:=true) (b1:=b1) (b2:=b2) (sp_89 (.inl h8)) (by simp) hbz hb1 hb2
  exact tl_end hd0 hd1 S3 rfl rfl rfl (fun h=>(by cases h)) (same77 he hxs rfl bz hbz) c1 c2 (fun hC=>HN.out (G.1 hC)) (fun hC=>HR.out fun h'=>hC (G.2 h'))
 by_cases h9:s.kind=9
 ·have hxs:∀ W,Below w.heap.size w W->StAt (n+1) K W [.int .i64 0,.int .i64 0,.bool s.mu,.string (str s.name),t0,t1,t2,t3,.bool s.has,p0,p1,v0,v1,v2,v3,v4,v5,v6,v7,v8,v9,R0,R1,R2,R3,R4,o0,o1,o2,o3,.slice none 0 0,.slice none 0 0] s.z:=fun W hW=>⟨_,_,_,_,_,_,rfl,hnl,kt.below (hK W hW),kp.below (hK W hW),kv.below (hK W hW),ko.below (hK W hW),nil_ar,nil_ar⟩
  obtain ⟨bz,hbz⟩:=pbool (s.z=St.bare 0 0)
  refine fr_9 S2 h9 ?_
  intro W3 J8 J9 K0 K1 K2 K3 K4 K5 K6 K7 K8 K9 L0 L1 L2 L3 L4 L5 L6 L7 L8 L9 M0 M1 M2 M3 M4 M5 M6 M7 M8 M9 N0 N1 N2 N3 N4 N5 N6 N7 N8 N9 O0 O1 O2 O3 O4 O5 O6 O7 O8 O9 P0 P1 P2 P3 P4 P5 P6 P7 P8 P9 Q0 Q1 Q2 Q3 Q4 Q5 Q6 Q7 Q8 Q9 A0 A1 A2 A3 A4 A5 A6 A7 A8 A9 B0 B1 B2 B3 B4 B5 B6 B7 B8 B9 C0 C1 C2 S3
  have G:=split_glue (ok:=true) (b1:=b1) (b2:=b2) (sp_89 (.inr h9)) (by simp) hbz hb1 hb2
  exact tl_end hd0 hd1 S3 rfl rfl rfl (fun h=>(by cases h)) (same77 he hxs rfl bz hbz) c1 c2 (fun hC=>HN.out (G.1 hC)) (fun hC=>HR.out fun h'=>hC (G.2 h'))
 by_cases h10:s.kind=10
 ·cases hh:s.has with
  | false =>
   rw [hh] at S2
   have hxs:∀ W,Below w.heap.size w W->StAt (n+1) K W [.int .i64 0,.int .i64 0,.bool s.mu,.string (str s.name),t0,t1,t2,t3,.bool false,p0,p1,v0,v1,v2,v3,v4,v5,v6,v7,v8,v9,R0,R1,R2,R3,R4,o0,o1,o2,o3,.slice none 0 0,.slice none 0 0] s.z:=fun W hW=>by
    have e:s.has=false:=hh
    refine ⟨_,_,_,_,_,_,?_,hnl,kt.below (hK W hW),kp.below (hK W hW),kv.below (hK W hW),ko.below (hK W hW),nil_ar,nil_ar⟩
    simp only [St.z,e]
    rfl
   obtain ⟨bz,hbz⟩:=pbool (s.z=St.bare 0 0)
   refine fr_10 S2 h10 ?_
   intro W3 J8 J9 K0 K1 K2 K3 K4 K5 K6 K7 K8 K9 L0 L1 L2 L3 L4 L5 L6 L7 L8 L9 M0 M1 M2 M3 M4 M5 M6 M7 M8 M9 N0 N1 N2 N3 N4 N5 N6 N7 N8 N9 O0 O1 O2 O3 O4 O5 O6 O7 O8 O9 P0 P1 P2 P3 P4 P5 P6 P7 P8 P9 Q0 Q1 Q2 Q3 Q4 Q5 Q6 Q7 Q8 Q9 A0 A1 A2 A3 A4 A5 A6 A7 A8 A9 B0 B1 B2 B3 B4 B5 B6 B7 B8 B9 C0 C1 C2 S3
   have G:=split_glue (ok:=true) (b1:=b1) (b2:=b2) (sp_10 h10 hh) (by simp) hbz hb1 hb2
   exact tl_end hd0 hd1 S3 rfl rfl rfl (fun h=>(by cases h)) (same77 he hxs rfl bz hbz) c1 c2 (fun hC=>HN.out (G.1 hC)) (fun hC=>HR.out fun h'=>hC (G.2 h'))
  | true =>
   rw [hh] at S2
   have hxs:∀ W,Below w.heap.size w W->StAt (n+1) K W [.int .i64 0,.int .i64 0,.bool s.mu,.string (str s.name),t0,t1,t2,t3,.bool false,p0,p1,.int .i64 0,.int .i64 0,.int .i64 0,.string ⟨#[]⟩,.slice none 0 0,.int .i64 0,.int .i64 0,.string ⟨#[]⟩,.slice none 0 0,.int .i64 0,.string ⟨#[]⟩,.slice none 0 0,.string ⟨#[]⟩,.slice none 0 0,.slice none 0 0,o0,o1,o2,o3,.slice none 0 0,.slice none 0 0] { s.z with val:=Va.zero,has:=false }:=fun W hW=>⟨_,_,vaCells 0,_,_,_,rfl,hnl,kt.below (hK W hW),kp.below (hK W hW),va_zero K W 0,ko.below (hK W hW),nil_ar,nil_ar⟩
   obtain ⟨bz,hbz⟩:=pbool ({ s.z with val:=Va.zero,has:=false }=St.bare 0 0)
   refine fr_10v S2 h10 cV ?_
   intro W3 J8 J9 K0 K1 K2 K3 K4 K5 K6 K7 K8 K9 L0 L1 L2 L3 L4 L5 L6 L7 L8 L9 M0 M1 M2 M3 M4 M5 M6 M7 M8 M9 N0 N1 N2 N3 N4 N5 N6 N7 N8 N9 O0 O1 O2 O3 O4 O5 O6 O7 O8 O9 P0 P1 P2 P3 P4 P5 P6 P7 P8 P9 Q0 Q1 Q2 Q3 Q4 Q5 Q6 Q7 Q8 Q9 A0 A1 A2 A3 A4 A5 A6 A7 A8 A9 B0 B1 B2 B3 B4 B5 B6 B7 B8 B9 C0 C1 C2 S3
   have G:=split_glue (ok:=bv) (b1:=b1) (b2:=b2) (sp_10v h10 hh) (by rw [hbv]) hbz hb1 hb2
   exact tl_end hd0 hd1 S3 rfl rfl rfl (fun h=>(by cases h)) (same77 he hxs rfl bz hbz) c1 c2 (fun hC=>HN.out (G.1 hC)) (fun hC=>HR.out fun h'=>hC (G.2 h'))
 by_cases h11:s.kind=11
 ·have hxs:∀ W,Below w.heap.size w W->StAt (n+1) K W [.int .i64 0,.int .i64 0,.bool s.mu,.string (str s.name),t0,t1,t2,t3,.bool s.has,.string ⟨#[]⟩,.slice none 0 0,v0,v1,v2,v3,v4,v5,v6,v7,v8,v9,R0,R1,R2,R3,R4,o0,o1,o2,o3,.slice none 0 0,.slice none 0 0] { s.z with place:=Pl.zero }:=fun W hW=>⟨_,plCells,_,_,_,_,rfl,hnl,kt.below (hK W hW),pl_zero K W,kv.below (hK W hW),ko.below (hK W hW),nil_ar,nil_ar⟩
  obtain ⟨bz,hbz⟩:=pbool ({ s.z with place:=Pl.zero }=St.bare 0 0)
  refine fr_11 S2 h11 cP ?_
  intro W3 J8 J9 K0 K1 K2 K3 K4 K5 K6 K7 K8 K9 L0 L1 L2 L3 L4 L5 L6 L7 L8 L9 M0 M1 M2 M3 M4 M5 M6 M7 M8 M9 N0 N1 N2 N3 N4 N5 N6 N7 N8 N9 O0 O1 O2 O3 O4 O5 O6 O7 O8 O9 P0 P1 P2 P3 P4 P5 P6 P7 P8 P9 Q0 Q1 Q2 Q3 Q4 Q5 Q6 Q7 Q8 Q9 A0 A1 A2 A3 A4 A5 A6 A7 A8 A9 B0 B1 B2 B3 B4 B5 B6 B7 B8 B9 C0 C1 C2 S3
  have G:=split_glue (ok:=bp) (b1:=b1) (b2:=b2) (sp_11 h11) (by rw [hbp]) hbz hb1 hb2
  exact tl_end hd0 hd1 S3 rfl rfl rfl (fun h=>(by cases h)) (same77 he hxs rfl bz hbz) c1 c2 (fun hC=>HN.out (G.1 hC)) (fun hC=>HR.out fun h'=>hC (G.2 h'))
 have hno:¬ (1<=s.kind/\s.kind<=11):=by omega
 exact fr_0 S2 hno (fun W' J8 J9 K0 K1 K2 K3 K4 K5 K6 K7 K8 K9 L0 L1 L2 L3 L4 L5 L6 L7 L8 L9 M0 M1 M2 M3 M4 M5 M6 M7 M8 M9 N0 N1 N2 N3 N4 N5 N6 N7 N8 N9 O0 O1 O2 O3 O4 O5 O6 O7 O8 O9 P0 P1 P2 P3 P4 P5 P6 P7 P8 P9 Q0 Q1 Q2 Q3 Q4 Q5 Q6 Q7 Q8 Q9 A0 A1 A2 A3 A4 A5 A6 A7 A8 A9 B0 B1 B2 B3 B4 B5 B6 B7 B8 B9 C0 C1 C2 h=>HR.out (ok_none hno) _ _ _ _ _ _ _ _ _ _ _ _ _ _ _ _ _ _ _ _ _ _ _ _ _ _ _ _ _ _ _ _ _ _ _ _ _ _ _ _ _ _ _ _ _ _ _ _ _ _ _ _ _ _ _ _ _ _ _ _ _ _ _ _ _ _ _ _ _ _ _ _ _ _ _ _ _ _ _ _ _ _ _ _ _ _ _ _ _ _ _ _ _ _ _ _ _ _ _ _ _ _ _ _ _ _ _ _ _ _ _ _ _ _ _ _ _ _ _ _ _ _ _ _ _ _ _ _ _ _ _ _ _ _ _ _ _ _ _ _ _ _ _ _ _ _ _ _ _ _ _ _ _ _ _ _ _ _ _ _ _ _ _ _ _ _ _ _ h.2.1)
end Go.Proofs.YtjenmmkamhplkaaGreat
