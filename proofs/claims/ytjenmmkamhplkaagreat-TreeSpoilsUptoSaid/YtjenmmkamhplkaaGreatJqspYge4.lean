/- Part of the proof. -/
import Derived.Test.YtjenmmkamhplkaaGreatJqspYf02
import Derived.Test.YtjenmmkamhplkaaGreatJqspFew4
import Derived.Test.YtjenmmkamhplkaaGreatJqspYgb3
namespace Go.Proofs.YtjenmmkamhplkaaGreat
open Go.RowKit
set_option maxHeartbeats 16000000 in
set_option maxRecDepth 20000 in
theorem tl_k {Q:Exit->Act->World->Prop} {w W0:World} {g gx:Nat} {cs xs:List Value} {pt pe:Option Addr} {nt ct ne ce:Nat} {d:Int} (hd0:0<=d) (hd1:d<=64) (hS:Sst w g gx cs xs W0) (hl:xs.length=32) (hvt:cs[30]?=some (.slice pt nt ct)) (hve:cs[31]?=some (.slice pe ne ce)) 
  (h77:A77 w xs true)
  (h1:A59 w (.slice pt nt ct) d true)
  (h2:A59 w (.slice pe ne ce) d true)
  {u0 u2 u3 u4 u5 M9 N0 N1 N2 N3 N4 N5 N6 N7 N8 N9 O0 O1 O2 O3 O4 O5 O6 O7 O8 O9 P0 P1 P2 P3 P4 P5 P6 P7 P8 P9 Q0 Q1 Q2 Q3 Q4 Q5 Q6 Q7 Q8 Q9 R0 R3 R4 R5 R6 R7 R8 R9 S6 S7 S8 S9 T0 T1 T2 T3 T4 T5 T6 T7 T8 T9 U0 U1 U2 U3 U4 U5 U6 U7 U8 U9 V0 V1 V2 V3 V4 V5 V6 V7 V8 V9 W1 W2 W3 W4 W5 W6 A0 A1 A2 A3 A4 A5 A6 A7 A8 A9 B0 B1 B2 B3 B4 B5 B6 B7 B8 B9 C0 C1 C2 C3 C4 C5 C6 C7 C8 C9 D0 D1 D2 D3 D4 D5 D6 D7 D8 D9 E0 E1 E2 E3 E4 E5 E6 E7 E8 E9 F0 F1 F2 F3 F4 F5 F6 F7 F8 F9 G0 G1 G2 G3 G4 G5 G6 G7 G8 G9 H0 H3 H4 H5 H6:Value}
  (hQ:∀ (W':World) (H7 H8 H9 I0 I1 I2 I3 I4 I5 I6 I7 I8 I9 J0 J1 J2 J3 J4 J5 J6 J7 J8 J9 K0 K1 K2 K3 K4 K5 K6 K7 K8 K9 L0 L1 L2 L3 L4 L5 L6 L7 L8 L9 M0 M1 M2 M3 M4 M5 M6 M7 M8:Value),Below w.heap.size w W'->Q .normal { tmps:=#[u0,.int .i64 d,u2,u3,u4,u5,.pointer (some ⟨g,0,none⟩),.pointer (some ⟨gx,0,none⟩),.bool true,.bool true,.bool true,M9,N0,N1,N2,N3,N4,N5,N6,N7,N8,N9,O0,O1,O2,O3,O4,O5,O6,O7,O8,O9,P0,P1,P2,P3,P4,P5,P6,P7,P8,P9,Q0,Q1,Q2,Q3,Q4,Q5,Q6,Q7,Q8,Q9,R0,R3,R4,R5,R6,R7,R8,R9,S6,S7,S8,S9,T0,T1,T2,T3,T4,T5,T6,T7,T8,T9,U0,U1,U2,U3,U4,U5,U6,U7,U8,U9,V0,V1,V2,V3,V4,V5,V6,V7,V8,V9,W1,W2,W3,W4,W5,W6,A0,A1,A2,A3,A4,A5,A6,A7,A8,A9,B0,B1,B2,B3,B4,B5,B6,B7,B8,B9,C0,C1,C2,H7,H8,H9,I0,I1,I2,I3,I4,I5,I6,I7,I8,I9,J0,J1,J2,J3,J4,J5,J6,J7,J8,J9,K0,K1,K2,K3,K4,K5,K6,K7,K8,K9,L0,L1,L2,L3,L4,L5,L6,L7,L8,L9,M0,M1,M2,M3,M4,M5,M6,M7,M8],defers:=[] } W') :
  Code.wp Tryz.prog (past6 (innerB ((Tryz.f59.body.bind (blockAt 1)).getD .skip))) Q { tmps:=#[u0,.int .i64 d,u2,u3,u4,u5,.pointer (some ⟨g,0,none⟩),.pointer (some ⟨gx,0,none⟩),.bool true,.bool true,.bool true,M9,N0,N1,N2,N3,N4,N5,N6,N7,N8,N9,O0,O1,O2,O3,O4,O5,O6,O7,O8,O9,P0,P1,P2,P3,P4,P5,P6,P7,P8,P9,Q0,Q1,Q2,Q3,Q4,Q5,Q6,Q7,Q8,Q9,R0,R3,R4,R5,R6,R7,R8,R9,S6,S7,S8,S9,T0,T1,T2,T3,T4,T5,T6,T7,T8,T9,U0,U1,U2,U3,U4,U5,U6,U7,U8,U9,V0,V1,V2,V3,V4,V5,V6,V7,V8,V9,W1,W2,W3,W4,W5,W6,A0,A1,A2,A3,A4,A5,A6,A7,A8,A9,B0,B1,B2,B3,B4,B5,B6,B7,B8,B9,C0,C1,C2,C3,C4,C5,C6,C7,C8,C9,D0,D1,D2,D3,D4,D5,D6,D7,D8,D9,E0,E1,E2,E3,E4,E5,E6,E7,E8,E9,F0,F1,F2,F3,F4,F5,F6,F7,F8,F9,G0,G1,G2,G3,G4,G5,G6,G7,G8,G9,H0,H3,H4,H5,H6],defers:=[] } W0:=by
 have HQ:=hid hQ
 have S0:=hid hS
 have H77:=hid h77
 have H1:=hid h1
 have H2:=hid h2
 have HL:=hid hl
 have HT:=hid hvt
 have HE:=hid hve
 have hi:(Tryz.prog.info? 49).map (·.size)=some xs.length:=by rw [hl];kernel_rfl
 have HI:=hid hi
 clear hi
 have hd2:IntKind.i64.wrap (d+1)=d+1:=wrap_small (by omega) (by omega)
 clear hQ hS h77 h1 h2 hl hvt hve
 conv=>arg 2;whnf
 dsimp only
 have rg:=hid S0.out.2.2.2.range
 go_wp2_with (first|(refine load_midG rfl 49 (.tmp 7) rfl gx 0 rfl xs _ rg.out Tryz.underlying49 rfl HI.out ?_)|(refine bsliceG rfl 38 49 32 496 (stCells 0 0) (.tmp 126) rfl Tryz.underlying38 Tryz.info49z (by decide) (by decide) xs HL.out rfl ?_;intro w1 r1 b1 l1;have R1:=hid r1;have S1:=hid (S0.out.call b1);clear r1 b1 l1)|(refine bsliceG rfl 38 49 32 496 (stCells 0 0) (.tmp 128) rfl Tryz.underlying38 Tryz.info49z (by decide) (by decide) (stCells 0 0) rfl rfl ?_;intro w2 r2 b2 l2;have R2:=hid r2;have S2:=hid (S1.out.call b2);have R1':=hid (R1.out.below b2 R1.out.lt);clear r2 b2 l2))
 refine (H77.out _ _ _ S2.out.2.1 R1'.out R2.out).mono ?_
 rintro _ w3 ⟨rfl,b3⟩
 have S3:=hid (S2.out.call b3)
 clear b3 R1 R1' R2 rg H77 HI HL
 have g30:w3.cell? ⟨g,30,none⟩=some (.slice pt nt ct):=(S3.out.2.2.1.cell 30).trans HT.out
 have g31:w3.cell? ⟨g,31,none⟩=some (.slice pe ne ce):=(S3.out.2.2.1.cell 31).trans HE.out
 go_wp2_with fail
 refine (H1.out _ S3.out.2.1).mono ?_
 rintro _ w4 ⟨rfl,b4⟩
 have S4:=hid (S3.out.call b4)
 clear b4 g30 g31 H1
 have g30:w4.cell? ⟨g,30,none⟩=some (.slice pt nt ct):=(S4.out.2.2.1.cell 30).trans HT.out
 have g31:w4.cell? ⟨g,31,none⟩=some (.slice pe ne ce):=(S4.out.2.2.1.cell 31).trans HE.out
 go_wp2_with fail
 refine (H2.out _ S4.out.2.1).mono ?_
 rintro _ w5 ⟨rfl,b5⟩
 have S5:=hid (S4.out.call b5)
 clear b5 g30 g31 H2
 go_wp2_with fail
 exact HQ.out _ _ _ _ _ _ _ _ _ _ _ _ _ _ _ _ _ _ _ _ _ _ _ _ _ _ _ _ _ _ _ _ _ _ _ _ _ _ _ _ _ _ _ _ _ _ _ _ _ _ _ _ _ S5.out.2.1

set_option maxHeartbeats 4000000 in
set_option maxRecDepth 20000 in
theorem tl_any {Q:Exit->Act->World->Prop} {w W0:World} {g gx:Nat} {cs xs:List Value} {pt pe:Option Addr} {nt ct ne ce:Nat} {d:Int} (hd0:0<=d) (hd1:d<=64) (hS:Sst w g gx cs xs W0) (hl:xs.length=32) (hvt:cs[30]?=some (.slice pt nt ct)) (hve:cs[31]?=some (.slice pe ne ce)) {ok th ot bz b1 b2:Bool}
  (hto:ot=true->th=true) (h77:A77 w xs bz)
  (h1:A59 w (.slice pt nt ct) d b1)
  (h2:A59 w (.slice pe ne ce) d b2)
  {u0 u2 u3 u4 u5 H5 H6 I4 J5 K6 L7 M8 N4 N5 N6 N7 N8 N9 O0 O1 O2 O3 O4 O5 O6 O7 O8 O9 P0 P1 P2 P3 P4 P5 P6 P7 P8 P9 Q0 Q1 Q2 Q3 Q4 Q5 Q6 Q7 Q8 Q9 R0 R1 R2 R3 R4 R5 R6 R7 R8 R9 S0 S1 S2 S3 S4 S5 S6 S7 S8 S9 T0 T1 T2 T3 T4 T5 T6 T7 T8 T9 U0 U1 U2 U3 U4 U5 U6 U7 U8 U9 V0 V1 V2 V3 V4 V5 F2 F3 F4 F5 F6 F7 F8 F9 G0 G1 G2 G3 G4 G5 G6 G7 G8 G9 H0 H1 H2 H3 H4 H7 H8 H9 I0 I1 I2 I3 I5 I6 I7 I8 I9 J0 J1 J2 J3 J4 J6 J7 J8 J9 K0 K1 K2 K3 K4 K5 K7 K8 K9 L0 L1 L2 L3 L4 L5 L6 L8 L9 M0 M1 M2 M3 M4 M5 M6 M7 M9 N0 N1 N2 N3:Value}
  (hN:(ok=true/\bz=true/\(th=false->nt=0)/\(ot=false->ne=0)/\(th=true->b1=true)/\(ot=true->b2=true))->∀ (W':World) (A0 A1 A2 A3 A4 A5 A6 A7 A8 A9 B0 B1 B2 B3 B4 B5 B6 B7 B8 B9 C0 C1 C2 C3 C4 C5 C6 C7 C8 C9 D0 D1 D2 D3 D4 D5 D6 D7 D8 D9 E0 E1 E2 E3 E4 E5 E6 E7 E8 E9 F0 F1:Value),Below w.heap.size w W'->Q .normal { tmps:=#[u0,.int .i64 d,u2,u3,u4,u5,.pointer (some ⟨g,0,none⟩),.pointer (some ⟨gx,0,none⟩),.bool ok,.bool th,.bool ot,H5,H6,I4,J5,K6,L7,M8,N4,N5,N6,N7,N8,N9,O0,O1,O2,O3,O4,O5,O6,O7,O8,O9,P0,P1,P2,P3,P4,P5,P6,P7,P8,P9,Q0,Q1,Q2,Q3,Q4,Q5,Q6,Q7,Q8,Q9,R0,R1,R2,R3,R4,R5,R6,R7,R8,R9,S0,S1,S2,S3,S4,S5,S6,S7,S8,S9,T0,T1,T2,T3,T4,T5,T6,T7,T8,T9,U0,U1,U2,U3,U4,U5,U6,U7,U8,U9,V0,V1,V2,V3,V4,V5,F2,F3,F4,F5,F6,F7,F8,F9,G0,G1,G2,G3,G4,G5,G6,G7,G8,G9,H0,H1,H2,H3,H4,A0,A1,A2,A3,A4,A5,A6,A7,A8,A9,B0,B1,B2,B3,B4,B5,B6,B7,B8,B9,C0,C1,C2,C3,C4,C5,C6,C7,C8,C9,D0,D1,D2,D3,D4,D5,D6,D7,D8,D9,E0,E1,E2,E3,E4,E5,E6,E7,E8,E9,F0,F1],defers:=[] } W')
  (hR:¬ (ok=true/\bz=true/\(th=false->nt=0)/\(ot=false->ne=0)/\(th=true->b1=true)/\(ot=true->b2=true))->∀ (W':World) (A0 A1 A2 A3 A4 A5 A6 A7 A8 A9 B0 B1 B2 B3 B4 B5 B6 B7 B8 B9 C0 C1 C2 C3 C4 C5 C6 C7 C8 C9 D0 D1 D2 D3 D4 D5 D6 D7 D8 D9 E0 E1 E2 E3 E4 E5 E6 E7 E8 E9 F0 F1:Value),Below w.heap.size w W'->Q .ret { tmps:=#[u0,.int .i64 d,u2,u3,.bool false,u5,.pointer (some ⟨g,0,none⟩),.pointer (some ⟨gx,0,none⟩),.bool ok,.bool th,.bool ot,H5,H6,I4,J5,K6,L7,M8,N4,N5,N6,N7,N8,N9,O0,O1,O2,O3,O4,O5,O6,O7,O8,O9,P0,P1,P2,P3,P4,P5,P6,P7,P8,P9,Q0,Q1,Q2,Q3,Q4,Q5,Q6,Q7,Q8,Q9,R0,R1,R2,R3,R4,R5,R6,R7,R8,R9,S0,S1,S2,S3,S4,S5,S6,S7,S8,S9,T0,T1,T2,T3,T4,T5,T6,T7,T8,T9,U0,U1,U2,U3,U4,U5,U6,U7,U8,U9,V0,V1,V2,V3,V4,V5,F2,F3,F4,F5,F6,F7,F8,F9,G0,G1,G2,G3,G4,G5,G6,G7,G8,G9,H0,H1,H2,H3,H4,A0,A1,A2,A3,A4,A5,A6,A7,A8,A9,B0,B1,B2,B3,B4,B5,B6,B7,B8,B9,C0,C1,C2,C3,C4,C5,C6,C7,C8,C9,D0,D1,D2,D3,D4,D5,D6,D7,D8,D9,E0,E1,E2,E3,E4,E5,E6,E7,E8,E9,F0,F1],defers:=[] } W') :
  Code.wp Tryz.prog (past6 (innerB ((Tryz.f59.body.bind (blockAt 1)).getD .skip))) Q { tmps:=#[u0,.int .i64 d,u2,u3,u4,u5,.pointer (some ⟨g,0,none⟩),.pointer (some ⟨gx,0,none⟩),.bool ok,.bool th,.bool ot,H5,H6,I4,J5,K6,L7,M8,N4,N5,N6,N7,N8,N9,O0,O1,O2,O3,O4,O5,O6,O7,O8,O9,P0,P1,P2,P3,P4,P5,P6,P7,P8,P9,Q0,Q1,Q2,Q3,Q4,Q5,Q6,Q7,Q8,Q9,R0,R1,R2,R3,R4,R5,R6,R7,R8,R9,S0,S1,S2,S3,S4,S5,S6,S7,S8,S9,T0,T1,T2,T3,T4,T5,T6,T7,T8,T9,U0,U1,U2,U3,U4,U5,U6,U7,U8,U9,V0,V1,V2,V3,V4,V5,F2,F3,F4,F5,F6,F7,F8,F9,G0,G1,G2,G3,G4,G5,G6,G7,G8,G9,H0,H1,H2,H3,H4,H7,H8,H9,I0,I1,I2,I3,I5,I6,I7,I8,I9,J0,J1,J2,J3,J4,J6,J7,J8,J9,K0,K1,K2,K3,K4,K5,K7,K8,K9,L0,L1,L2,L3,L4,L5,L6,L8,L9,M0,M1,M2,M3,M4,M5,M6,M7,M9,N0,N1,N2,N3],defers:=[] } W0:=by
 cases ok with
 | false=>exact tl_a hd0 hd1 hS hl hvt hve h77 h1 h2 (fun W' A0 A1 A2 A3 A4 A5 A6 A7 A8 A9 B0 B1 B2 B3 B4 B5 B6 B7 B8 B9 C0 C1 C2 C3 C4 C5 C6 C7 C8 C9 D0 D1 D2 D3 D4 D5 D6 D7 D8 D9 E0 E1 E2 E3 E4 E5 E6 E7 E8 E9 F0 F1 h=>hR (fun h'=>by cases h'.1) _ _ _ _ _ _ _ _ _ _ _ _ _ _ _ _ _ _ _ _ _ _ _ _ _ _ _ _ _ _ _ _ _ _ _ _ _ _ _ _ _ _ _ _ _ _ _ _ _ _ _ _ _ h)
 | true =>
 cases bz with
 | false=>exact tl_b hd0 hd1 hS hl hvt hve h77 h1 h2 (fun W' A0 A1 A2 A3 A4 A5 A6 A7 A8 A9 B0 B1 B2 B3 B4 B5 B6 B7 B8 B9 C0 C1 C2 C3 C4 C5 C6 C7 C8 C9 D0 D1 D2 D3 D4 D5 D6 D7 D8 D9 E0 E1 E2 E3 E4 E5 E6 E7 E8 E9 F0 F1 h=>hR (fun h'=>by cases h'.2.1) _ _ _ _ _ _ _ _ _ _ _ _ _ _ _ _ _ _ _ _ _ _ _ _ _ _ _ _ _ _ _ _ _ _ _ _ _ _ _ _ _ _ _ _ _ _ _ _ _ _ _ _ _ h)
 | true =>
 cases th with
 | false =>
  cases ot with
  | true=>cases hto rfl
  | false =>
  by_cases ht:(0:Int)<(nt:Int)
  ·exact tl_c hd0 hd1 hS hl hvt hve ht h77 h1 h2 (fun W' A0 A1 A2 A3 A4 A5 A6 A7 A8 A9 B0 B1 B2 B3 B4 B5 B6 B7 B8 B9 C0 C1 C2 C3 C4 C5 C6 C7 C8 C9 D0 D1 D2 D3 D4 D5 D6 D7 D8 D9 E0 E1 E2 E3 E4 E5 E6 E7 E8 E9 F0 F1 h=>hR (fun h'=>by have:=h'.2.2.1 rfl;omega) _ _ _ _ _ _ _ _ _ _ _ _ _ _ _ _ _ _ _ _ _ _ _ _ _ _ _ _ _ _ _ _ _ _ _ _ _ _ _ _ _ _ _ _ _ _ _ _ _ _ _ _ _ h)
  by_cases he:(0:Int)<(ne:Int)
  ·exact tl_d hd0 hd1 hS hl hvt hve ht he h77 h1 h2 (fun W' A0 A1 A2 A3 A4 A5 A6 A7 A8 A9 B0 B1 B2 B3 B4 B5 B6 B7 B8 B9 C0 C1 C2 C3 C4 C5 C6 C7 C8 C9 D0 D1 D2 D3 D4 D5 D6 D7 D8 D9 E0 E1 E2 E3 E4 E5 E6 E7 E8 E9 F0 F1 h=>hR (fun h'=>by have:=h'.2.2.2.1 rfl;omega) _ _ _ _ _ _ _ _ _ _ _ _ _ _ _ _ _ _ _ _ _ _ _ _ _ _ _ _ _ _ _ _ _ _ _ _ _ _ _ _ _ _ _ _ _ _ _ _ _ _ _ _ _ h)
  ·exact tl_e hd0 hd1 hS hl hvt hve ht he h77 h1 h2 (fun W' A0 A1 A2 A3 A4 A5 A6 A7 A8 A9 B0 B1 B2 B3 B4 B5 B6 B7 B8 B9 C0 C1 C2 C3 C4 C5 C6 C7 C8 C9 D0 D1 D2 D3 D4 D5 D6 D7 D8 D9 E0 E1 E2 E3 E4 E5 E6 E7 E8 E9 F0 F1 h=>hN ⟨rfl,rfl,fun _=>(by omega),fun _=>(by omega),fun h=>(by cases h),fun h=>(by cases h)⟩ _ _ _ _ _ _ _ _ _ _ _ _ _ _ _ _ _ _ _ _ _ _ _ _ _ _ _ _ _ _ _ _ _ _ _ _ _ _ _ _ _ _ _ _ _ _ _ _ _ _ _ _ _ h)
 | true =>
  cases ot with
  | false =>
   by_cases he:(0:Int)<(ne:Int)
   ·exact tl_f hd0 hd1 hS hl hvt hve he h77 h1 h2 (fun W' A0 A1 A2 A3 A4 A5 A6 A7 A8 A9 B0 B1 B2 B3 B4 B5 B6 B7 B8 B9 C0 C1 C2 C3 C4 C5 C6 C7 C8 C9 D0 D1 D2 D3 D4 D5 D6 D7 D8 D9 E0 E1 E2 E3 E4 E5 E6 E7 E8 E9 F0 F1 h=>hR (fun h'=>by have:=h'.2.2.2.1 rfl;omega) _ _ _ _ _ _ _ _ _ _ _ _ _ _ _ _ _ _ _ _ _ _ _ _ _ _ _ _ _ _ _ _ _ _ _ _ _ _ _ _ _ _ _ _ _ _ _ _ _ _ _ _ _ h)
   cases b1 with
   | false=>exact tl_g hd0 hd1 hS hl hvt hve he h77 h1 h2 (fun W' A0 A1 A2 A3 A4 A5 A6 A7 A8 A9 B0 B1 B2 B3 B4 B5 B6 B7 B8 B9 C0 C1 C2 C3 C4 C5 C6 C7 C8 C9 D0 D1 D2 D3 D4 D5 D6 D7 D8 D9 E0 E1 E2 E3 E4 E5 E6 E7 E8 E9 F0 F1 h=>hR (fun h'=>by cases h'.2.2.2.2.1 rfl) _ _ _ _ _ _ _ _ _ _ _ _ _ _ _ _ _ _ _ _ _ _ _ _ _ _ _ _ _ _ _ _ _ _ _ _ _ _ _ _ _ _ _ _ _ _ _ _ _ _ _ _ _ h)
   | true=>exact tl_h hd0 hd1 hS hl hvt hve he h77 h1 h2 (fun W' A0 A1 A2 A3 A4 A5 A6 A7 A8 A9 B0 B1 B2 B3 B4 B5 B6 B7 B8 B9 C0 C1 C2 C3 C4 C5 C6 C7 C8 C9 D0 D1 D2 D3 D4 D5 D6 D7 D8 D9 E0 E1 E2 E3 E4 E5 E6 E7 E8 E9 F0 F1 h=>hN ⟨rfl,rfl,fun h=>(by cases h),fun _=>(by omega),fun _=>rfl,fun h=>(by cases h)⟩ _ _ _ _ _ _ _ _ _ _ _ _ _ _ _ _ _ _ _ _ _ _ _ _ _ _ _ _ _ _ _ _ _ _ _ _ _ _ _ _ _ _ _ _ _ _ _ _ _ _ _ _ _ h)
  | true =>
   cases b1 with
   | false=>exact tl_i hd0 hd1 hS hl hvt hve h77 h1 h2 (fun W' A0 A1 A2 A3 A4 A5 A6 A7 A8 A9 B0 B1 B2 B3 B4 B5 B6 B7 B8 B9 C0 C1 C2 C3 C4 C5 C6 C7 C8 C9 D0 D1 D2 D3 D4 D5 D6 D7 D8 D9 E0 E1 E2 E3 E4 E5 E6 E7 E8 E9 F0 F1 h=>hR (fun h'=>by cases h'.2.2.2.2.1 rfl) _ _ _ _ _ _ _ _ _ _ _ _ _ _ _ _ _ _ _ _ _ _ _ _ _ _ _ _ _ _ _ _ _ _ _ _ _ _ _ _ _ _ _ _ _ _ _ _ _ _ _ _ _ h)
   | true =>
   cases b2 with
   | false=>exact tl_j hd0 hd1 hS hl hvt hve h77 h1 h2 (fun W' A0 A1 A2 A3 A4 A5 A6 A7 A8 A9 B0 B1 B2 B3 B4 B5 B6 B7 B8 B9 C0 C1 C2 C3 C4 C5 C6 C7 C8 C9 D0 D1 D2 D3 D4 D5 D6 D7 D8 D9 E0 E1 E2 E3 E4 E5 E6 E7 E8 E9 F0 F1 h=>hR (fun h'=>by cases h'.2.2.2.2.2 rfl) _ _ _ _ _ _ _ _ _ _ _ _ _ _ _ _ _ _ _ _ _ _ _ _ _ _ _ _ _ _ _ _ _ _ _ _ _ _ _ _ _ _ _ _ _ _ _ _ _ _ _ _ _ h)
   | true=>exact tl_k hd0 hd1 hS hl hvt hve h77 h1 h2 (fun W' A0 A1 A2 A3 A4 A5 A6 A7 A8 A9 B0 B1 B2 B3 B4 B5 B6 B7 B8 B9 C0 C1 C2 C3 C4 C5 C6 C7 C8 C9 D0 D1 D2 D3 D4 D5 D6 D7 D8 D9 E0 E1 E2 E3 E4 E5 E6 E7 E8 E9 F0 F1 h=>hN ⟨rfl,rfl,fun h=>(by cases h),fun h=>(by cases h),fun _=>rfl,fun _=>rfl⟩ _ _ _ _ _ _ _ _ _ _ _ _ _ _ _ _ _ _ _ _ _ _ _ _ _ _ _ _ _ _ _ _ _ _ _ _ _ _ _ _ _ _ _ _ _ _ _ _ _ _ _ _ _ h)

def St.z (s:St):St:={ s with kind:=0,pos:=0,thn:=[],els:=[] }
def Split (s x:St) (ok:Prop) (th ot:Bool):Prop:=∀ sub:List St->Prop,StOk sub s↔(ok/\x=St.bare 0 0/\(th=false->s.thn=[])/\(ot=false->s.els=[])/\(th=true->sub s.thn)/\(ot=true->sub s.els))
theorem sp_1 {s:St} (h:s.kind=1) (hh:s.has=false):Split s { s.z with mu:=false,name:=[],ty:=Ty.zero } (nameB s.name=true/\MayTy 64 s.ty) false false:=by
 intro sub
 rw [ok_let h]
 cases s
 simp only [St.z,St.bare,St.mk.injEq] at *
 constructor
 ·rintro h
  simp_all
 ·rintro h
  simp_all
theorem sp_1v {s:St} (h:s.kind=1) (hh:s.has=true):Split s { s.z with mu:=false,name:=[],ty:=Ty.zero,val:=Va.zero,has:=false } (nameB s.name=true/\MayTy 64 s.ty/\MayVa s.val) false false:=by
 intro sub
 rw [ok_let h]
 cases s
 simp only [St.z,St.bare,St.mk.injEq] at *
 constructor
 ·rintro h
  simp_all
 ·rintro h
  simp_all
theorem sp_2 {s:St} (h:s.kind=2):Split s { s.z with place:=Pl.zero,val:=Va.zero } (MayPl s.place/\MayVa s.val) false false:=by
 intro sub
 rw [ok_set h]
 cases s
 simp only [St.z,St.bare,St.mk.injEq] at *
 constructor
 ·rintro h
  simp_all
 ·rintro h
  simp_all
theorem sp_3 {s:St} (h:s.kind=3):Split s { s.z with val:=Va.zero } (MayVa s.val/\s.val.kind=6) false false:=by
 intro sub
 rw [ok_call h,MayCal]
 cases s
 simp only [St.z,St.bare,St.mk.injEq] at *
 constructor
 ·rintro h
  simp_all
 ·rintro h
  simp_all
theorem sp_4 {s:St} (h:s.kind=4):Split s { s.z with cond:=Opr.zero,has:=false } (MayOpr s.cond) true s.has:=by
 intro sub
 rw [ok_iff h]
 cases s
 simp only [St.z,St.bare,St.mk.injEq] at *
 constructor
 ·rintro h
  simp_all
 ·rintro h
  simp_all
theorem sp_5 {s:St} (h:s.kind=5):Split s { s.z with cond:=Opr.zero } (MayOpr s.cond) true false:=by
 intro sub
 rw [ok_whl h]
 cases s
 simp only [St.z,St.bare,St.mk.injEq] at *
 constructor
 ·rintro h
  simp_all
 ·rintro h
  simp_all
theorem sp_67 {s:St} (h:s.kind=6∨s.kind=7):Split s s.z (True) true false:=by
 intro sub
 rw [ok_loop h]
 cases s
 simp only [St.z,St.bare,St.mk.injEq] at *
 constructor
 ·rintro h
  simp_all
 ·rintro h
  simp_all
theorem sp_89 {s:St} (h:s.kind=8∨s.kind=9):Split s s.z (True) false false:=by
 intro sub
 rw [ok_brk h]
 cases s
 simp only [St.z,St.bare,St.mk.injEq] at *
 constructor
 ·rintro h
  simp_all
 ·rintro h
  simp_all
theorem sp_10 {s:St} (h:s.kind=10) (hh:s.has=false):Split s s.z (True) false false:=by
 intro sub
 rw [ok_ret h]
 cases s
 simp only [St.z,St.bare,St.mk.injEq] at *
 constructor
 ·rintro h
  simp_all
 ·rintro h
  simp_all
theorem sp_10v {s:St} (h:s.kind=10) (hh:s.has=true):Split s { s.z with val:=Va.zero,has:=false } (MayVa s.val) false false:=by
 intro sub
 rw [ok_ret h]
 cases s
 simp only [St.z,St.bare,St.mk.injEq] at *
 constructor
 ·rintro h
  simp_all
 ·rintro h
  simp_all
theorem sp_11 {s:St} (h:s.kind=11):Split s { s.z with place:=Pl.zero } (MayPl s.place) false false:=by
 intro sub
 rw [ok_drop h]
 cases s
 simp only [St.z,St.bare,St.mk.injEq] at *
 constructor
 ·rintro h
  simp_all
 ·rintro h
  simp_all

set_option maxHeartbeats 16000000 in
set_option maxRecDepth 20000 in
theorem fr_1 {Q:Exit->Act->World->Prop} {t:Code} {w W0:World} {g gx:Nat} {kd ps:Int} {mu:Bool} {nm:ByteArray} {t0 t1 t2 t3 p0 p1 v0 v1 v2 v3 v4 v5 v6 v7 v8 v9 F2 F3 F4 F5 F6 o0 o1 o2 o3 vt ve:Value} (hS:Sst w g gx [.int .i64 kd,.int .i64 ps,.bool mu,.string nm,t0,t1,t2,t3,.bool false,p0,p1,v0,v1,v2,v3,v4,v5,v6,v7,v8,v9,F2,F3,F4,F5,F6,o0,o1,o2,o3,vt,ve] [.int .i64 0,.int .i64 0,.bool mu,.string nm,t0,t1,t2,t3,.bool false,p0,p1,v0,v1,v2,v3,v4,v5,v6,v7,v8,v9,F2,F3,F4,F5,F6,o0,o1,o2,o3,.slice none 0 0,.slice none 0 0] W0) (hk:kd=1)
  { bn bt:Bool} (hN:∀ W,Below w.heap.size w W->Calls Tryz.prog 26 #[.string nm] W (Rb bn W)) (hT:∀ W,Below w.heap.size w W->Calls Tryz.prog 58 #[.agg #[t0,t1,t2,t3],.int .i64 1] W (Rb bt W)) {u0 u1 u2 u3 u4 u5 u8 u9 M0 K3 K4 K5 K6 K7 K8 K9 L0 L1 L2 L3 L4 L5 L6 L7 L8 L9 M1 M2 M3 M4 M5 M6 M7 M8 M9 N0 N1 N2 N3 N4 N5 N6 N7 N8 N9 O0 O1 O2 O3 O4 O5 O6 O7 O8 O9 P0 P1 P2 P3 P4 P5 P6 P7 P8 P9 Q0 Q1 Q2 Q3 Q4 Q5 Q6 Q7 Q8 Q9 R0 R1 R2 R3 R4 R5 R6 R7 R8 R9 S6 S7 S8 S9 T0 T1 T2 T3 T4 T5 T6 T7 T8 F7 F8 F9 G0 G1 G2 G3 G4 G5 G6 G7 G8 G9 H0 H1 H2 H3 H4 H5 H6 H7 H8 H9 A0 A1 A2 A3 A4 A5 A6 A7 A8 A9 B0 B1 B2 B3 B4 B5 B6 B7 B8 B9 C0 C1 C2 C3 C4 C5 C6 C7 C8 C9 D0 D1 D2 D3 D4 D5 D6 D7 D8 D9 E0 E1 E2 E3 E4 E5 E6 E7 E8 E9 F0 F1:Value}
  (hQ:∀ (W':World) (T9 U0 U1 U2 U3 U4 U5 U6 U7 U8 U9 V0 V1 V2 V3 V4 V5 V6 V7 V8 V9 W1 W2 W3 W4 W5 W6 W7 W8 W9 X0 X1 X2 X3 X4 X5 X6 X7 X8 X9 Y0 Y1 Y2 Y3 Y4 Y5 Y6 Y7 Y8 Y9 Z0 Z1 Z2 Z3 Z4 Z5 Z6 Z7 Z8 Z9 a0 a1 a2 a3 a4 a5 a6 a7 a8 a9 b0 b3 I0 I1 I2 I3 I4 I5 I6 I7 I8 I9 J0 J1 J2 J3 J4 J5 J6 J7 J8 J9 K0 K1 K2:Value),Sst w g gx [.int .i64 kd,.int .i64 ps,.bool mu,.string nm,t0,t1,t2,t3,.bool false,p0,p1,v0,v1,v2,v3,v4,v5,v6,v7,v8,v9,F2,F3,F4,F5,F6,o0,o1,o2,o3,vt,ve] [.int .i64 0,.int .i64 0,.bool false,.string ⟨#[]⟩,.int .i64 0,.string ⟨#[]⟩,.slice none 0 0,.slice none 0 0,.bool false,p0,p1,v0,v1,v2,v3,v4,v5,v6,v7,v8,v9,F2,F3,F4,F5,F6,o0,o1,o2,o3,.slice none 0 0,.slice none 0 0] W'->t.wp Tryz.prog Q { tmps:=#[u0,u1,u2,u3,u4,u5,.pointer (some ⟨g,0,none⟩),.pointer (some ⟨gx,0,none⟩),.bool (bn && bt),.bool false,.bool false,K3,K4,K5,K6,K7,K8,K9,L0,L1,L2,L3,L4,L5,L6,L7,L8,L9,T9,U0,U1,U2,U3,U4,U5,U6,U7,U8,U9,V0,V1,V2,V3,V4,V5,V6,V7,V8,V9,W1,W2,W3,W4,W5,W6,W7,W8,W9,X0,X1,X2,X3,X4,X5,X6,X7,X8,X9,Y0,Y1,Y2,Y3,Y4,Y5,Y6,Y7,Y8,Y9,Z0,Z1,Z2,Z3,Z4,Z5,Z6,Z7,Z8,Z9,a0,a1,a2,a3,a4,a5,a6,a7,a8,a9,b0,b3,I0,I1,I2,I3,I4,I5,I6,I7,I8,I9,J0,J1,J2,J3,J4,J5,J6,J7,J8,J9,K0,K1,K2,A0,A1,A2,A3,A4,A5,A6,A7,A8,A9,B0,B1,B2,B3,B4,B5,B6,B7,B8,B9,C0,C1,C2,C3,C4,C5,C6,C7,C8,C9,D0,D1,D2,D3,D4,D5,D6,D7,D8,D9,E0,E1,E2,E3,E4,E5,E6,E7,E8,E9,F0,F1],defers:=[] } W') :
  Code.wp Tryz.prog (next3 t (innerB ((Tryz.f59.body.bind (blockAt 1)).getD .skip))) Q { tmps:=#[u0,u1,u2,u3,u4,u5,.pointer (some ⟨g,0,none⟩),.pointer (some ⟨gx,0,none⟩),u8,u9,M0,K3,K4,K5,K6,K7,K8,K9,L0,L1,L2,L3,L4,L5,L6,L7,L8,L9,M1,M2,M3,M4,M5,M6,M7,M8,M9,N0,N1,N2,N3,N4,N5,N6,N7,N8,N9,O0,O1,O2,O3,O4,O5,O6,O7,O8,O9,P0,P1,P2,P3,P4,P5,P6,P7,P8,P9,Q0,Q1,Q2,Q3,Q4,Q5,Q6,Q7,Q8,Q9,R0,R1,R2,R3,R4,R5,R6,R7,R8,R9,S6,S7,S8,S9,T0,T1,T2,T3,T4,T5,T6,T7,T8,F7,F8,F9,G0,G1,G2,G3,G4,G5,G6,G7,G8,G9,H0,H1,H2,H3,H4,H5,H6,H7,H8,H9,A0,A1,A2,A3,A4,A5,A6,A7,A8,A9,B0,B1,B2,B3,B4,B5,B6,B7,B8,B9,C0,C1,C2,C3,C4,C5,C6,C7,C8,C9,D0,D1,D2,D3,D4,D5,D6,D7,D8,D9,E0,E1,E2,E3,E4,E5,E6,E7,E8,E9,F0,F1],defers:=[] } W0:=by
 have HQ:=hid hQ
 have S0:=hid hS
 clear hQ hS
 have HN:=hid hN
 clear hN
 have HT:=hid hT
 clear hT
 have k1:(kd == 1)=true:=by rw [hk];rfl
 have k2:(kd == 2)=false:=by rw [hk];rfl
 have k3:(kd == 3)=false:=by rw [hk];rfl
 have k4:(kd == 4)=false:=by rw [hk];rfl
 have k5:(kd == 5)=false:=by rw [hk];rfl
 have k6:(kd == 6)=false:=by rw [hk];rfl
 have k7:(kd == 7)=false:=by rw [hk];rfl
 have k8:(kd == 8)=false:=by rw [hk];rfl
 have k9:(kd == 9)=false:=by rw [hk];rfl
 have k10:(kd == 10)=false:=by rw [hk];rfl
 have k11:(kd == 11)=false:=by rw [hk];rfl
 clear hk
 conv=>arg 2;whnf
 dsimp only
 have c0:W0.cell? ⟨g,0,none⟩=some (.int .i64 kd):=S0.out.2.2.1.cell 0
 have d3:W0.cell? ⟨g,3,none⟩=some (.string nm):=S0.out.2.2.1.cell 3
 go_wp2_with fail
 refine (HN.out _ S0.out.2.1).mono ?_
 rintro _ w1 ⟨rfl,b1⟩
 have S1:=hid (S0.out.call b1)
 clear b1
 clear c0 d3
 cases bn with
 | false =>
  have e2:w1.cell? ⟨gx,2,none⟩=some (.bool mu):=S1.out.2.2.2.cell 2
  have e2z:=S1.out.2.2.2.fz 2
  have S2:=hid (S1.out.set 2 (.bool false))
  have e3:(w1.setCell ⟨gx,2,none⟩ (.bool false)).cell? ⟨gx,3,none⟩=some (.string nm):=S2.out.2.2.2.cell 3
  have e3z:=S2.out.2.2.2.fz 3
  have S3:=hid (S2.out.set 3 (.string ⟨#[]⟩))
  go_wp2_with (refine store_midL rfl 31 (.tmp 43) (.tmp 40) rfl gx 49 4 [.int .i64 0,.int .i64 0,.bool false,.string ⟨#[]⟩] [t0,t1,t2,t3] [.int .i64 0,.string ⟨#[]⟩,.slice none 0 0,.slice none 0 0] _ S3.out.2.2.2 rfl rfl rfl rfl (by kernel_rfl) onT ?_;intro w4 r4 s4;have S4:=hid (Sst.stay S3.out s4 r4);clear r4 s4;have c0:w4.cell? ⟨g,0,none⟩=some (.int .i64 kd):=S4.out.2.2.1.cell 0;have c8:w4.cell? ⟨g,8,none⟩=some (.bool false):=S4.out.2.2.1.cell 8;skip)
  exact HQ.out _ _ _ _ _ _ _ _ _ _ _ _ _ _ _ _ _ _ _ _ _ _ _ _ _ _ _ _ _ _ _ _ _ _ _ _ _ _ _ _ _ _ _ _ _ _ _ _ _ _ _ _ _ _ _ _ _ _ _ _ _ _ _ _ _ _ _ _ _ _ _ _ _ _ _ _ _ _ _ _ _ _ _ _ _ _ _ _ _ _ _ _ _ _ _ _ S4.out
 | true =>
  have d4_0:w1.cell? ⟨g,4,none⟩=some (t0):=S1.out.2.2.1.cell 4
  have d4_1:w1.cell? ⟨g,4+1,none⟩=some (t1):=S1.out.2.2.1.cell 5
  have d4_2:w1.cell? ⟨g,4+2,none⟩=some (t2):=S1.out.2.2.1.cell 6
  have d4_3:w1.cell? ⟨g,4+3,none⟩=some (t3):=S1.out.2.2.1.cell 7
  go_wp2_with fail
  refine (HT.out _ S1.out.2.1).mono ?_
  rintro _ w2 ⟨rfl,b2⟩
  have S2:=hid (S1.out.call b2)
  clear b2
  clear d4_0 d4_1 d4_2 d4_3
  have e2:w2.cell? ⟨gx,2,none⟩=some (.bool mu):=S2.out.2.2.2.cell 2
  have e2z:=S2.out.2.2.2.fz 2
  have S3:=hid (S2.out.set 2 (.bool false))
  have e3:(w2.setCell ⟨gx,2,none⟩ (.bool false)).cell? ⟨gx,3,none⟩=some (.string nm):=S3.out.2.2.2.cell 3
  have e3z:=S3.out.2.2.2.fz 3
  have S4:=hid (S3.out.set 3 (.string ⟨#[]⟩))
  go_wp2_with (refine store_midL rfl 31 (.tmp 43) (.tmp 40) rfl gx 49 4 [.int .i64 0,.int .i64 0,.bool false,.string ⟨#[]⟩] [t0,t1,t2,t3] [.int .i64 0,.string ⟨#[]⟩,.slice none 0 0,.slice none 0 0] _ S4.out.2.2.2 rfl rfl rfl rfl (by kernel_rfl) onT ?_;intro w5 r5 s5;have S5:=hid (Sst.stay S4.out s5 r5);clear r5 s5;have c0:w5.cell? ⟨g,0,none⟩=some (.int .i64 kd):=S5.out.2.2.1.cell 0;have c8:w5.cell? ⟨g,8,none⟩=some (.bool false):=S5.out.2.2.1.cell 8;skip)
  exact HQ.out _ _ _ _ _ _ _ _ _ _ _ _ _ _ _ _ _ _ _ _ _ _ _ _ _ _ _ _ _ _ _ _ _ _ _ _ _ _ _ _ _ _ _ _ _ _ _ _ _ _ _ _ _ _ _ _ _ _ _ _ _ _ _ _ _ _ _ _ _ _ _ _ _ _ _ _ _ _ _ _ _ _ _ _ _ _ _ _ _ _ _ _ _ _ _ _ S5.out
end Go.Proofs.YtjenmmkamhplkaaGreat
