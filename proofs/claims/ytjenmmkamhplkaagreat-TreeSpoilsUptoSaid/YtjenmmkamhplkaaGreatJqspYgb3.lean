/- Part of the proof. -/
import Derived.Test.YtjenmmkamhplkaaGreatJqspYf02
import Derived.Test.YtjenmmkamhplkaaGreatJqspFew4
namespace Go.Proofs.YtjenmmkamhplkaaGreat
open Go.RowKit
set_option maxHeartbeats 16000000
set_option maxRecDepth 20000
theorem tl_d {Q:Exit->Act->World->Prop} {w W0:World} {g gx:Nat} {cs xs:List Value} {pt pe:Option Addr} {nt ct ne ce:Nat} {d:Int} (hd0:0<=d) (hd1:d<=64) (hS:Sst w g gx cs xs W0) (hl:xs.length=32) (hvt:cs[30]?=some (.slice pt nt ct)) (hve:cs[31]?=some (.slice pe ne ce)) {b1 b2:Bool}
  (ht:¬ (0:Int)<(nt:Int)) (he:(0:Int)<(ne:Int)) (h77:A77 w xs true)
  (h1:A59 w (.slice pt nt ct) d b1)
  (h2:A59 w (.slice pe ne ce) d b2)
  {u0 u2 u3 u4 u5 M9 N0 N1 N2 N3 N4 N5 N6 N7 N8 N9 O0 O1 O2 O3 O4 O5 O6 O7 O8 O9 P0 P1 P2 P3 P4 P5 P6 P7 P8 P9 Q0 Q1 Q2 Q3 Q4 Q5 Q6 Q7 Q8 Q9 R0 R3 R4 R5 R6 R7 R8 R9 S4 S5 S6 S7 S8 S9 T0 T1 T2 T3 T4 T5 T6 T7 T8 T9 U0 U1 U2 U3 U4 U5 U6 U7 U8 U9 V0 V1 V2 V3 V4 V5 V6 V7 V8 V9 W1 W2 W3 W4 A0 A1 A2 A3 A4 A5 A6 A7 A8 A9 B0 B1 B2 B3 B4 B5 B6 B7 B8 B9 C0 C1 C2 C3 C4 C5 C6 C7 C8 C9 D0 D1 D2 D3 D4 D5 D6 D7 D8 D9 E0 E1 E2 E3 E4 E5 E6 E7 E8 E9 F0 F1 F2 F3 F4 F5 F6 F7 F8 F9 G0 G1 G2 G3 G4 G5 G6 G7 G8 G9 H0 H3 H4 H5 H6:Value}
  (hQ:∀ (W':World) (H7 H8 H9 I0 I1 I2 I3 I4 I5 I6 I7 I8 I9 J0 J1 J2 J3 J4 J5 J6 J7 J8 J9 K0 K1 K2 K3 K4 K5 K6 K7 K8 K9 L0 L1 L2 L3 L4 L5 L6 L7 L8 L9 M0 M1 M2 M3 M4 M5 M6 M7 M8:Value),Below w.heap.size w W'->Q .ret { tmps:=#[u0,.int .i64 d,u2,u3,.bool false,u5,.pointer (some ⟨g,0,none⟩),.pointer (some ⟨gx,0,none⟩),.bool true,.bool false,.bool false,M9,N0,N1,N2,N3,N4,N5,N6,N7,N8,N9,O0,O1,O2,O3,O4,O5,O6,O7,O8,O9,P0,P1,P2,P3,P4,P5,P6,P7,P8,P9,Q0,Q1,Q2,Q3,Q4,Q5,Q6,Q7,Q8,Q9,R0,R3,R4,R5,R6,R7,R8,R9,S4,S5,S6,S7,S8,S9,T0,T1,T2,T3,T4,T5,T6,T7,T8,T9,U0,U1,U2,U3,U4,U5,U6,U7,U8,U9,V0,V1,V2,V3,V4,V5,V6,V7,V8,V9,W1,W2,W3,W4,A0,A1,A2,A3,A4,A5,A6,A7,A8,A9,B0,B1,B2,B3,B4,B5,B6,B7,B8,B9,C0,C1,C2,H7,H8,H9,I0,I1,I2,I3,I4,I5,I6,I7,I8,I9,J0,J1,J2,J3,J4,J5,J6,J7,J8,J9,K0,K1,K2,K3,K4,K5,K6,K7,K8,K9,L0,L1,L2,L3,L4,L5,L6,L7,L8,L9,M0,M1,M2,M3,M4,M5,M6,M7,M8],defers:=[] } W') :
  Code.wp Tryz.prog (past6 (innerB ((Tryz.f59.body.bind (blockAt 1)).getD .skip))) Q { tmps:=#[u0,.int .i64 d,u2,u3,u4,u5,.pointer (some ⟨g,0,none⟩),.pointer (some ⟨gx,0,none⟩),.bool true,.bool false,.bool false,M9,N0,N1,N2,N3,N4,N5,N6,N7,N8,N9,O0,O1,O2,O3,O4,O5,O6,O7,O8,O9,P0,P1,P2,P3,P4,P5,P6,P7,P8,P9,Q0,Q1,Q2,Q3,Q4,Q5,Q6,Q7,Q8,Q9,R0,R3,R4,R5,R6,R7,R8,R9,S4,S5,S6,S7,S8,S9,T0,T1,T2,T3,T4,T5,T6,T7,T8,T9,U0,U1,U2,U3,U4,U5,U6,U7,U8,U9,V0,V1,V2,V3,V4,V5,V6,V7,V8,V9,W1,W2,W3,W4,A0,A1,A2,A3,A4,A5,A6,A7,A8,A9,B0,B1,B2,B3,B4,B5,B6,B7,B8,B9,C0,C1,C2,C3,C4,C5,C6,C7,C8,C9,D0,D1,D2,D3,D4,D5,D6,D7,D8,D9,E0,E1,E2,E3,E4,E5,E6,E7,E8,E9,F0,F1,F2,F3,F4,F5,F6,F7,F8,F9,G0,G1,G2,G3,G4,G5,G6,G7,G8,G9,H0,H3,H4,H5,H6],defers:=[] } W0:=by
 have HQ:=hid hQ
 have S0:=hid hS
 have H77:=hid h77
 have H1:=hid h1
 have H2:=hid h2
 have HL:=hid hl
 have HT:=hid hvt
 have HE:=hid hve
 have hi:(Tryz.prog.info? 49).map (·.size)=some xs.length:=by rw [hl];kernel_rfl
 have HI:=hid hi
 clear hi
 have hd2:IntKind.i64.wrap (d+1)=d+1:=wrap_small (by omega) (by omega)
 clear hQ hS h77 h1 h2 hl hvt hve
 conv=>arg 2;whnf
 dsimp only
 have rg:=hid S0.out.2.2.2.range
 go_wp2_with (first|(refine load_midG rfl 49 (.tmp 7) rfl gx 0 rfl xs _ rg.out Tryz.underlying49 rfl HI.out ?_)|(refine bsliceG rfl 38 49 32 496 (stCells 0 0) (.tmp 126) rfl Tryz.underlying38 Tryz.info49z (by decide) (by decide) xs HL.out rfl ?_;intro w1 r1 b1 l1;have R1:=hid r1;have S1:=hid (S0.out.call b1);clear r1 b1 l1)|(refine bsliceG rfl 38 49 32 496 (stCells 0 0) (.tmp 128) rfl Tryz.underlying38 Tryz.info49z (by decide) (by decide) (stCells 0 0) rfl rfl ?_;intro w2 r2 b2 l2;have R2:=hid r2;have S2:=hid (S1.out.call b2);have R1':=hid (R1.out.below b2 R1.out.lt);clear r2 b2 l2))
 refine (H77.out _ _ _ S2.out.2.1 R1'.out R2.out).mono ?_
 rintro _ w3 ⟨rfl,b3⟩
 have S3:=hid (S2.out.call b3)
 clear b3 R1 R1' R2 rg H77 HI HL
 have g30:w3.cell? ⟨g,30,none⟩=some (.slice pt nt ct):=(S3.out.2.2.1.cell 30).trans HT.out
 have g31:w3.cell? ⟨g,31,none⟩=some (.slice pe ne ce):=(S3.out.2.2.1.cell 31).trans HE.out
 go_wp2_with fail
 exact HQ.out _ _ _ _ _ _ _ _ _ _ _ _ _ _ _ _ _ _ _ _ _ _ _ _ _ _ _ _ _ _ _ _ _ _ _ _ _ _ _ _ _ _ _ _ _ _ _ _ _ _ _ _ _ S3.out.2.1
theorem tl_e {Q:Exit->Act->World->Prop} {w W0:World} {g gx:Nat} {cs xs:List Value} {pt pe:Option Addr} {nt ct ne ce:Nat} {d:Int} (hd0:0<=d) (hd1:d<=64) (hS:Sst w g gx cs xs W0) (hl:xs.length=32) (hvt:cs[30]?=some (.slice pt nt ct)) (hve:cs[31]?=some (.slice pe ne ce)) {b1 b2:Bool}
  (ht:¬ (0:Int)<(nt:Int)) (he:¬ (0:Int)<(ne:Int)) (h77:A77 w xs true)
  (h1:A59 w (.slice pt nt ct) d b1)
  (h2:A59 w (.slice pe ne ce) d b2)
  {u0 u2 u3 u4 u5 M9 N0 N1 N2 N3 N4 N5 N6 N7 N8 N9 O0 O1 O2 O3 O4 O5 O6 O7 O8 O9 P0 P1 P2 P3 P4 P5 P6 P7 P8 P9 Q0 Q1 Q2 Q3 Q4 Q5 Q6 Q7 Q8 Q9 R0 R3 R4 R5 R6 R7 R8 R9 S4 S5 S6 S7 S8 S9 T0 T1 T2 T3 T4 T5 T6 T7 T8 T9 U0 U1 U2 U3 U4 U5 U6 U7 U8 U9 V0 V1 V2 V3 V4 V5 V6 V7 V8 V9 W1 W2 W3 W4 A0 A1 A2 A3 A4 A5 A6 A7 A8 A9 B0 B1 B2 B3 B4 B5 B6 B7 B8 B9 C0 C1 C2 C3 C4 C5 C6 C7 C8 C9 D0 D1 D2 D3 D4 D5 D6 D7 D8 D9 E0 E1 E2 E3 E4 E5 E6 E7 E8 E9 F0 F1 F2 F3 F4 F5 F6 F7 F8 F9 G0 G1 G2 G3 G4 G5 G6 G7 G8 G9 H0 H3 H4 H5 H6:Value}
  (hQ:∀ (W':World) (H7 H8 H9 I0 I1 I2 I3 I4 I5 I6 I7 I8 I9 J0 J1 J2 J3 J4 J5 J6 J7 J8 J9 K0 K1 K2 K3 K4 K5 K6 K7 K8 K9 L0 L1 L2 L3 L4 L5 L6 L7 L8 L9 M0 M1 M2 M3 M4 M5 M6 M7 M8:Value),Below w.heap.size w W'->Q .normal { tmps:=#[u0,.int .i64 d,u2,u3,u4,u5,.pointer (some ⟨g,0,none⟩),.pointer (some ⟨gx,0,none⟩),.bool true,.bool false,.bool false,M9,N0,N1,N2,N3,N4,N5,N6,N7,N8,N9,O0,O1,O2,O3,O4,O5,O6,O7,O8,O9,P0,P1,P2,P3,P4,P5,P6,P7,P8,P9,Q0,Q1,Q2,Q3,Q4,Q5,Q6,Q7,Q8,Q9,R0,R3,R4,R5,R6,R7,R8,R9,S4,S5,S6,S7,S8,S9,T0,T1,T2,T3,T4,T5,T6,T7,T8,T9,U0,U1,U2,U3,U4,U5,U6,U7,U8,U9,V0,V1,V2,V3,V4,V5,V6,V7,V8,V9,W1,W2,W3,W4,A0,A1,A2,A3,A4,A5,A6,A7,A8,A9,B0,B1,B2,B3,B4,B5,B6,B7,B8,B9,C0,C1,C2,H7,H8,H9,I0,I1,I2,I3,I4,I5,I6,I7,I8,I9,J0,J1,J2,J3,J4,J5,J6,J7,J8,J9,K0,K1,K2,K3,K4,K5,K6,K7,K8,K9,L0,L1,L2,L3,L4,L5,L6,L7,L8,L9,M0,M1,M2,M3,M4,M5,M6,M7,M8],defers:=[] } W') :
  Code.wp Tryz.prog (past6 (innerB ((Tryz.f59.body.bind (blockAt 1)).getD .skip))) Q { tmps:=#[u0,.int .i64 d,u2,u3,u4,u5,.pointer (some ⟨g,0,none⟩),.pointer (some ⟨gx,0,none⟩),.bool true,.bool false,.bool false,M9,N0,N1,N2,N3,N4,N5,N6,N7,N8,N9,O0,O1,O2,O3,O4,O5,O6,O7,O8,O9,P0,P1,P2,P3,P4,P5,P6,P7,P8,P9,Q0,Q1,Q2,Q3,Q4,Q5,Q6,Q7,Q8,Q9,R0,R3,R4,R5,R6,R7,R8,R9,S4,S5,S6,S7,S8,S9,T0,T1,T2,T3,T4,T5,T6,T7,T8,T9,U0,U1,U2,U3,U4,U5,U6,U7,U8,U9,V0,V1,V2,V3,V4,V5,V6,V7,V8,V9,W1,W2,W3,W4,A0,A1,A2,A3,A4,A5,A6,A7,A8,A9,B0,B1,B2,B3,B4,B5,B6,B7,B8,B9,C0,C1,C2,C3,C4,C5,C6,C7,C8,C9,D0,D1,D2,D3,D4,D5,D6,D7,D8,D9,E0,E1,E2,E3,E4,E5,E6,E7,E8,E9,F0,F1,F2,F3,F4,F5,F6,F7,F8,F9,G0,G1,G2,G3,G4,G5,G6,G7,G8,G9,H0,H3,H4,H5,H6],defers:=[] } W0:=by
 have HQ:=hid hQ
 have S0:=hid hS
 have H77:=hid h77
 have H1:=hid h1
 have H2:=hid h2
 have HL:=hid hl
 have HT:=hid hvt
 have HE:=hid hve
 have hi:(Tryz.prog.info? 49).map (·.size)=some xs.length:=by rw [hl];kernel_rfl
 have HI:=hid hi
 clear hi
 have hd2:IntKind.i64.wrap (d+1)=d+1:=wrap_small (by omega) (by omega)
 clear hQ hS h77 h1 h2 hl hvt hve
 conv=>arg 2;whnf
 dsimp only
 have rg:=hid S0.out.2.2.2.range
 go_wp2_with (first|(refine load_midG rfl 49 (.tmp 7) rfl gx 0 rfl xs _ rg.out Tryz.underlying49 rfl HI.out ?_)|(refine bsliceG rfl 38 49 32 496 (stCells 0 0) (.tmp 126) rfl Tryz.underlying38 Tryz.info49z (by decide) (by decide) xs HL.out rfl ?_;intro w1 r1 b1 l1;have R1:=hid r1;have S1:=hid (S0.out.call b1);clear r1 b1 l1)|(refine bsliceG rfl 38 49 32 496 (stCells 0 0) (.tmp 128) rfl Tryz.underlying38 Tryz.info49z (by decide) (by decide) (stCells 0 0) rfl rfl ?_;intro w2 r2 b2 l2;have R2:=hid r2;have S2:=hid (S1.out.call b2);have R1':=hid (R1.out.below b2 R1.out.lt);clear r2 b2 l2))
 refine (H77.out _ _ _ S2.out.2.1 R1'.out R2.out).mono ?_
 rintro _ w3 ⟨rfl,b3⟩
 have S3:=hid (S2.out.call b3)
 clear b3 R1 R1' R2 rg H77 HI HL
 have g30:w3.cell? ⟨g,30,none⟩=some (.slice pt nt ct):=(S3.out.2.2.1.cell 30).trans HT.out
 have g31:w3.cell? ⟨g,31,none⟩=some (.slice pe ne ce):=(S3.out.2.2.1.cell 31).trans HE.out
 go_wp2_with fail
 exact HQ.out _ _ _ _ _ _ _ _ _ _ _ _ _ _ _ _ _ _ _ _ _ _ _ _ _ _ _ _ _ _ _ _ _ _ _ _ _ _ _ _ _ _ _ _ _ _ _ _ _ _ _ _ _ S3.out.2.1
theorem tl_f {Q:Exit->Act->World->Prop} {w W0:World} {g gx:Nat} {cs xs:List Value} {pt pe:Option Addr} {nt ct ne ce:Nat} {d:Int} (hd0:0<=d) (hd1:d<=64) (hS:Sst w g gx cs xs W0) (hl:xs.length=32) (hvt:cs[30]?=some (.slice pt nt ct)) (hve:cs[31]?=some (.slice pe ne ce)) {b1 b2:Bool}
  (he:(0:Int)<(ne:Int)) (h77:A77 w xs true)
  (h1:A59 w (.slice pt nt ct) d b1)
  (h2:A59 w (.slice pe ne ce) d b2)
  {u0 u2 u3 u4 u5 M9 N0 N1 N2 N3 N4 N5 N6 N7 N8 N9 O0 O1 O2 O3 O4 O5 O6 O7 O8 O9 P0 P1 P2 P3 P4 P5 P6 P7 P8 P9 Q0 Q1 Q2 Q3 Q4 Q5 Q6 Q7 Q8 Q9 R0 R3 R4 R5 R6 R7 R8 R9 S4 S5 S6 S7 S8 S9 T0 T1 T2 T3 T4 T5 T6 T7 T8 T9 U0 U1 U2 U3 U4 U5 U6 U7 U8 U9 V0 V1 V2 V3 V4 V5 V6 V7 V8 V9 W1 W2 W3 W4 A0 A1 A2 A3 A4 A5 A6 A7 A8 A9 B0 B1 B2 B3 B4 B5 B6 B7 B8 B9 C0 C1 C2 C3 C4 C5 C6 C7 C8 C9 D0 D1 D2 D3 D4 D5 D6 D7 D8 D9 E0 E1 E2 E3 E4 E5 E6 E7 E8 E9 F0 F1 F2 F3 F4 F5 F6 F7 F8 F9 G0 G1 G2 G3 G4 G5 G6 G7 G8 G9 H0 H3 H4 H5 H6:Value}
  (hQ:∀ (W':World) (H7 H8 H9 I0 I1 I2 I3 I4 I5 I6 I7 I8 I9 J0 J1 J2 J3 J4 J5 J6 J7 J8 J9 K0 K1 K2 K3 K4 K5 K6 K7 K8 K9 L0 L1 L2 L3 L4 L5 L6 L7 L8 L9 M0 M1 M2 M3 M4 M5 M6 M7 M8:Value),Below w.heap.size w W'->Q .ret { tmps:=#[u0,.int .i64 d,u2,u3,.bool false,u5,.pointer (some ⟨g,0,none⟩),.pointer (some ⟨gx,0,none⟩),.bool true,.bool true,.bool false,M9,N0,N1,N2,N3,N4,N5,N6,N7,N8,N9,O0,O1,O2,O3,O4,O5,O6,O7,O8,O9,P0,P1,P2,P3,P4,P5,P6,P7,P8,P9,Q0,Q1,Q2,Q3,Q4,Q5,Q6,Q7,Q8,Q9,R0,R3,R4,R5,R6,R7,R8,R9,S4,S5,S6,S7,S8,S9,T0,T1,T2,T3,T4,T5,T6,T7,T8,T9,U0,U1,U2,U3,U4,U5,U6,U7,U8,U9,V0,V1,V2,V3,V4,V5,V6,V7,V8,V9,W1,W2,W3,W4,A0,A1,A2,A3,A4,A5,A6,A7,A8,A9,B0,B1,B2,B3,B4,B5,B6,B7,B8,B9,C0,C1,C2,H7,H8,H9,I0,I1,I2,I3,I4,I5,I6,I7,I8,I9,J0,J1,J2,J3,J4,J5,J6,J7,J8,J9,K0,K1,K2,K3,K4,K5,K6,K7,K8,K9,L0,L1,L2,L3,L4,L5,L6,L7,L8,L9,M0,M1,M2,M3,M4,M5,M6,M7,M8],defers:=[] } W') :
  Code.wp Tryz.prog (past6 (innerB ((Tryz.f59.body.bind (blockAt 1)).getD .skip))) Q { tmps:=#[u0,.int .i64 d,u2,u3,u4,u5,.pointer (some ⟨g,0,none⟩),.pointer (some ⟨gx,0,none⟩),.bool true,.bool true,.bool false,M9,N0,N1,N2,N3,N4,N5,N6,N7,N8,N9,O0,O1,O2,O3,O4,O5,O6,O7,O8,O9,P0,P1,P2,P3,P4,P5,P6,P7,P8,P9,Q0,Q1,Q2,Q3,Q4,Q5,Q6,Q7,Q8,Q9,R0,R3,R4,R5,R6,R7,R8,R9,S4,S5,S6,S7,S8,S9,T0,T1,T2,T3,T4,T5,T6,T7,T8,T9,U0,U1,U2,U3,U4,U5,U6,U7,U8,U9,V0,V1,V2,V3,V4,V5,V6,V7,V8,V9,W1,W2,W3,W4,A0,A1,A2,A3,A4,A5,A6,A7,A8,A9,B0,B1,B2,B3,B4,B5,B6,B7,B8,B9,C0,C1,C2,C3,C4,C5,C6,C7,C8,C9,D0,D1,D2,D3,D4,D5,D6,D7,D8,D9,E0,E1,E2,E3,E4,E5,E6,E7,E8,E9,F0,F1,F2,F3,F4,F5,F6,F7,F8,F9,G0,G1,G2,G3,G4,G5,G6,G7,G8,G9,H0,H3,H4,H5,H6],defers:=[] } W0:=by
 have HQ:=hid hQ
 have S0:=hid hS
 have H77:=hid h77
 have H1:=hid h1
 have H2:=hid h2
 have HL:=hid hl
 have HT:=hid hvt
 have HE:=hid hve
 have hi:(Tryz.prog.info? 49).map (·.size)=some xs.length:=by rw [hl];kernel_rfl
 have HI:=hid hi
 clear hi
 have hd2:IntKind.i64.wrap (d+1)=d+1:=wrap_small (by omega) (by omega)
 clear hQ hS h77 h1 h2 hl hvt hve
 conv=>arg 2;whnf
 dsimp only
 have rg:=hid S0.out.2.2.2.range
 go_wp2_with (first|(refine load_midG rfl 49 (.tmp 7) rfl gx 0 rfl xs _ rg.out Tryz.underlying49 rfl HI.out ?_)|(refine bsliceG rfl 38 49 32 496 (stCells 0 0) (.tmp 126) rfl Tryz.underlying38 Tryz.info49z (by decide) (by decide) xs HL.out rfl ?_;intro w1 r1 b1 l1;have R1:=hid r1;have S1:=hid (S0.out.call b1);clear r1 b1 l1)|(refine bsliceG rfl 38 49 32 496 (stCells 0 0) (.tmp 128) rfl Tryz.underlying38 Tryz.info49z (by decide) (by decide) (stCells 0 0) rfl rfl ?_;intro w2 r2 b2 l2;have R2:=hid r2;have S2:=hid (S1.out.call b2);have R1':=hid (R1.out.below b2 R1.out.lt);clear r2 b2 l2))
 refine (H77.out _ _ _ S2.out.2.1 R1'.out R2.out).mono ?_
 rintro _ w3 ⟨rfl,b3⟩
 have S3:=hid (S2.out.call b3)
 clear b3 R1 R1' R2 rg H77 HI HL
 have g30:w3.cell? ⟨g,30,none⟩=some (.slice pt nt ct):=(S3.out.2.2.1.cell 30).trans HT.out
 have g31:w3.cell? ⟨g,31,none⟩=some (.slice pe ne ce):=(S3.out.2.2.1.cell 31).trans HE.out
 go_wp2_with fail
 exact HQ.out _ _ _ _ _ _ _ _ _ _ _ _ _ _ _ _ _ _ _ _ _ _ _ _ _ _ _ _ _ _ _ _ _ _ _ _ _ _ _ _ _ _ _ _ _ _ _ _ _ _ _ _ _ S3.out.2.1

set_option maxHeartbeats 16000000
set_option maxRecDepth 20000
theorem tl_g {Q:Exit->Act->World->Prop} {w W0:World} {g gx:Nat} {cs xs:List Value} {pt pe:Option Addr} {nt ct ne ce:Nat} {d:Int} (hd0:0<=d) (hd1:d<=64) (hS:Sst w g gx cs xs W0) (hl:xs.length=32) (hvt:cs[30]?=some (.slice pt nt ct)) (hve:cs[31]?=some (.slice pe ne ce)) {b2:Bool}
  (he:¬ (0:Int)<(ne:Int)) (h77:A77 w xs true)
  (h1:A59 w (.slice pt nt ct) d false)
  (h2:A59 w (.slice pe ne ce) d b2)
  {u0 u2 u3 u4 u5 M9 N0 N1 N2 N3 N4 N5 N6 N7 N8 N9 O0 O1 O2 O3 O4 O5 O6 O7 O8 O9 P0 P1 P2 P3 P4 P5 P6 P7 P8 P9 Q0 Q1 Q2 Q3 Q4 Q5 Q6 Q7 Q8 Q9 R0 R3 R4 R5 R6 R7 R8 R9 S5 S6 S7 S8 S9 T0 T1 T2 T3 T4 T5 T6 T7 T8 T9 U0 U1 U2 U3 U4 U5 U6 U7 U8 U9 V0 V1 V2 V3 V4 V5 V6 V7 V8 V9 W1 W2 W3 W4 W5 A0 A1 A2 A3 A4 A5 A6 A7 A8 A9 B0 B1 B2 B3 B4 B5 B6 B7 B8 B9 C0 C1 C2 C3 C4 C5 C6 C7 C8 C9 D0 D1 D2 D3 D4 D5 D6 D7 D8 D9 E0 E1 E2 E3 E4 E5 E6 E7 E8 E9 F0 F1 F2 F3 F4 F5 F6 F7 F8 F9 G0 G1 G2 G3 G4 G5 G6 G7 G8 G9 H0 H3 H4 H5 H6:Value}
  (hQ:∀ (W':World) (H7 H8 H9 I0 I1 I2 I3 I4 I5 I6 I7 I8 I9 J0 J1 J2 J3 J4 J5 J6 J7 J8 J9 K0 K1 K2 K3 K4 K5 K6 K7 K8 K9 L0 L1 L2 L3 L4 L5 L6 L7 L8 L9 M0 M1 M2 M3 M4 M5 M6 M7 M8:Value),Below w.heap.size w W'->Q .ret { tmps:=#[u0,.int .i64 d,u2,u3,.bool false,u5,.pointer (some ⟨g,0,none⟩),.pointer (some ⟨gx,0,none⟩),.bool true,.bool true,.bool false,M9,N0,N1,N2,N3,N4,N5,N6,N7,N8,N9,O0,O1,O2,O3,O4,O5,O6,O7,O8,O9,P0,P1,P2,P3,P4,P5,P6,P7,P8,P9,Q0,Q1,Q2,Q3,Q4,Q5,Q6,Q7,Q8,Q9,R0,R3,R4,R5,R6,R7,R8,R9,S5,S6,S7,S8,S9,T0,T1,T2,T3,T4,T5,T6,T7,T8,T9,U0,U1,U2,U3,U4,U5,U6,U7,U8,U9,V0,V1,V2,V3,V4,V5,V6,V7,V8,V9,W1,W2,W3,W4,W5,A0,A1,A2,A3,A4,A5,A6,A7,A8,A9,B0,B1,B2,B3,B4,B5,B6,B7,B8,B9,C0,C1,C2,H7,H8,H9,I0,I1,I2,I3,I4,I5,I6,I7,I8,I9,J0,J1,J2,J3,J4,J5,J6,J7,J8,J9,K0,K1,K2,K3,K4,K5,K6,K7,K8,K9,L0,L1,L2,L3,L4,L5,L6,L7,L8,L9,M0,M1,M2,M3,M4,M5,M6,M7,M8],defers:=[] } W') :
  Code.wp Tryz.prog (past6 (innerB ((Tryz.f59.body.bind (blockAt 1)).getD .skip))) Q { tmps:=#[u0,.int .i64 d,u2,u3,u4,u5,.pointer (some ⟨g,0,none⟩),.pointer (some ⟨gx,0,none⟩),.bool true,.bool true,.bool false,M9,N0,N1,N2,N3,N4,N5,N6,N7,N8,N9,O0,O1,O2,O3,O4,O5,O6,O7,O8,O9,P0,P1,P2,P3,P4,P5,P6,P7,P8,P9,Q0,Q1,Q2,Q3,Q4,Q5,Q6,Q7,Q8,Q9,R0,R3,R4,R5,R6,R7,R8,R9,S5,S6,S7,S8,S9,T0,T1,T2,T3,T4,T5,T6,T7,T8,T9,U0,U1,U2,U3,U4,U5,U6,U7,U8,U9,V0,V1,V2,V3,V4,V5,V6,V7,V8,V9,W1,W2,W3,W4,W5,A0,A1,A2,A3,A4,A5,A6,A7,A8,A9,B0,B1,B2,B3,B4,B5,B6,B7,B8,B9,C0,C1,C2,C3,C4,C5,C6,C7,C8,C9,D0,D1,D2,D3,D4,D5,D6,D7,D8,D9,E0,E1,E2,E3,E4,E5,E6,E7,E8,E9,F0,F1,F2,F3,F4,F5,F6,F7,F8,F9,G0,G1,G2,G3,G4,G5,G6,G7,G8,G9,H0,H3,H4,H5,H6],defers:=[] } W0:=by
 have HQ:=hid hQ
 have S0:=hid hS
 have H77:=hid h77
 have H1:=hid h1
 have H2:=hid h2
 have HL:=hid hl
 have HT:=hid hvt
 have HE:=hid hve
 have hi:(Tryz.prog.info? 49).map (·.size)=some xs.length:=by rw [hl];kernel_rfl
 have HI:=hid hi
 clear hi
 have hd2:IntKind.i64.wrap (d+1)=d+1:=wrap_small (by omega) (by omega)
 clear hQ hS h77 h1 h2 hl hvt hve
 conv=>arg 2;whnf
 dsimp only
 have rg:=hid S0.out.2.2.2.range
 go_wp2_with (first|(refine load_midG rfl 49 (.tmp 7) rfl gx 0 rfl xs _ rg.out Tryz.underlying49 rfl HI.out ?_)|(refine bsliceG rfl 38 49 32 496 (stCells 0 0) (.tmp 126) rfl Tryz.underlying38 Tryz.info49z (by decide) (by decide) xs HL.out rfl ?_;intro w1 r1 b1 l1;have R1:=hid r1;have S1:=hid (S0.out.call b1);clear r1 b1 l1)|(refine bsliceG rfl 38 49 32 496 (stCells 0 0) (.tmp 128) rfl Tryz.underlying38 Tryz.info49z (by decide) (by decide) (stCells 0 0) rfl rfl ?_;intro w2 r2 b2 l2;have R2:=hid r2;have S2:=hid (S1.out.call b2);have R1':=hid (R1.out.below b2 R1.out.lt);clear r2 b2 l2))
 refine (H77.out _ _ _ S2.out.2.1 R1'.out R2.out).mono ?_
 rintro _ w3 ⟨rfl,b3⟩
 have S3:=hid (S2.out.call b3)
 clear b3 R1 R1' R2 rg H77 HI HL
 have g30:w3.cell? ⟨g,30,none⟩=some (.slice pt nt ct):=(S3.out.2.2.1.cell 30).trans HT.out
 have g31:w3.cell? ⟨g,31,none⟩=some (.slice pe ne ce):=(S3.out.2.2.1.cell 31).trans HE.out
 go_wp2_with fail
 refine (H1.out _ S3.out.2.1).mono ?_
 rintro _ w4 ⟨rfl,b4⟩
 have S4:=hid (S3.out.call b4)
 clear b4 g30 g31 H1
 go_wp2_with fail
 exact HQ.out _ _ _ _ _ _ _ _ _ _ _ _ _ _ _ _ _ _ _ _ _ _ _ _ _ _ _ _ _ _ _ _ _ _ _ _ _ _ _ _ _ _ _ _ _ _ _ _ _ _ _ _ _ S4.out.2.1
theorem tl_h {Q:Exit->Act->World->Prop} {w W0:World} {g gx:Nat} {cs xs:List Value} {pt pe:Option Addr} {nt ct ne ce:Nat} {d:Int} (hd0:0<=d) (hd1:d<=64) (hS:Sst w g gx cs xs W0) (hl:xs.length=32) (hvt:cs[30]?=some (.slice pt nt ct)) (hve:cs[31]?=some (.slice pe ne ce)) {b2:Bool}
  (he:¬ (0:Int)<(ne:Int)) (h77:A77 w xs true)
  (h1:A59 w (.slice pt nt ct) d true)
  (h2:A59 w (.slice pe ne ce) d b2)
  {u0 u2 u3 u4 u5 M9 N0 N1 N2 N3 N4 N5 N6 N7 N8 N9 O0 O1 O2 O3 O4 O5 O6 O7 O8 O9 P0 P1 P2 P3 P4 P5 P6 P7 P8 P9 Q0 Q1 Q2 Q3 Q4 Q5 Q6 Q7 Q8 Q9 R0 R3 R4 R5 R6 R7 R8 R9 S5 S6 S7 S8 S9 T0 T1 T2 T3 T4 T5 T6 T7 T8 T9 U0 U1 U2 U3 U4 U5 U6 U7 U8 U9 V0 V1 V2 V3 V4 V5 V6 V7 V8 V9 W1 W2 W3 W4 W5 A0 A1 A2 A3 A4 A5 A6 A7 A8 A9 B0 B1 B2 B3 B4 B5 B6 B7 B8 B9 C0 C1 C2 C3 C4 C5 C6 C7 C8 C9 D0 D1 D2 D3 D4 D5 D6 D7 D8 D9 E0 E1 E2 E3 E4 E5 E6 E7 E8 E9 F0 F1 F2 F3 F4 F5 F6 F7 F8 F9 G0 G1 G2 G3 G4 G5 G6 G7 G8 G9 H0 H3 H4 H5 H6:Value}
  (hQ:∀ (W':World) (H7 H8 H9 I0 I1 I2 I3 I4 I5 I6 I7 I8 I9 J0 J1 J2 J3 J4 J5 J6 J7 J8 J9 K0 K1 K2 K3 K4 K5 K6 K7 K8 K9 L0 L1 L2 L3 L4 L5 L6 L7 L8 L9 M0 M1 M2 M3 M4 M5 M6 M7 M8:Value),Below w.heap.size w W'->Q .normal { tmps:=#[u0,.int .i64 d,u2,u3,u4,u5,.pointer (some ⟨g,0,none⟩),.pointer (some ⟨gx,0,none⟩),.bool true,.bool true,.bool false,M9,N0,N1,N2,N3,N4,N5,N6,N7,N8,N9,O0,O1,O2,O3,O4,O5,O6,O7,O8,O9,P0,P1,P2,P3,P4,P5,P6,P7,P8,P9,Q0,Q1,Q2,Q3,Q4,Q5,Q6,Q7,Q8,Q9,R0,R3,R4,R5,R6,R7,R8,R9,S5,S6,S7,S8,S9,T0,T1,T2,T3,T4,T5,T6,T7,T8,T9,U0,U1,U2,U3,U4,U5,U6,U7,U8,U9,V0,V1,V2,V3,V4,V5,V6,V7,V8,V9,W1,W2,W3,W4,W5,A0,A1,A2,A3,A4,A5,A6,A7,A8,A9,B0,B1,B2,B3,B4,B5,B6,B7,B8,B9,C0,C1,C2,H7,H8,H9,I0,I1,I2,I3,I4,I5,I6,I7,I8,I9,J0,J1,J2,J3,J4,J5,J6,J7,J8,J9,K0,K1,K2,K3,K4,K5,K6,K7,K8,K9,L0,L1,L2,L3,L4,L5,L6,L7,L8,L9,M0,M1,M2,M3,M4,M5,M6,M7,M8],defers:=[] } W') :
  Code.wp Tryz.prog (past6 (innerB ((Tryz.f59.body.bind (blockAt 1)).getD .skip))) Q { tmps:=#[u0,.int .i64 d,u2,u3,u4,u5,.pointer (some ⟨g,0,none⟩),.pointer (some ⟨gx,0,none⟩),.bool true,.bool true,.bool false,M9,N0,N1,N2,N3,N4,N5,N6,N7,N8,N9,O0,O1,O2,O3,O4,O5,O6,O7,O8,O9,P0,P1,P2,P3,P4,P5,P6,P7,P8,P9,Q0,Q1,Q2,Q3,Q4,Q5,Q6,Q7,Q8,Q9,R0,R3,R4,R5,R6,R7,R8,R9,S5,S6,S7,S8,S9,T0,T1,T2,T3,T4,T5,T6,T7,T8,T9,U0,U1,U2,U3,U4,U5,U6,U7,U8,U9,V0,V1,V2,V3,V4,V5,V6,V7,V8,V9,W1,W2,W3,W4,W5,A0,A1,A2,A3,A4,A5,A6,A7,A8,A9,B0,B1,B2,B3,B4,B5,B6,B7,B8,B9,C0,C1,C2,C3,C4,C5,C6,C7,C8,C9,D0,D1,D2,D3,D4,D5,D6,D7,D8,D9,E0,E1,E2,E3,E4,E5,E6,E7,E8,E9,F0,F1,F2,F3,F4,F5,F6,F7,F8,F9,G0,G1,G2,G3,G4,G5,G6,G7,G8,G9,H0,H3,H4,H5,H6],defers:=[] } W0:=by
 have HQ:=hid hQ
 have S0:=hid hS
 have H77:=hid h77
 have H1:=hid h1
 have H2:=hid h2
 have HL:=hid hl
 have HT:=hid hvt
 have HE:=hid hve
 have hi:(Tryz.prog.info? 49).map (·.size)=some xs.length:=by rw [hl];kernel_rfl
 have HI:=hid hi
 clear hi
 have hd2:IntKind.i64.wrap (d+1)=d+1:=wrap_small (by omega) (by omega)
 clear hQ hS h77 h1 h2 hl hvt hve
 conv=>arg 2;whnf
 dsimp only
 have rg:=hid S0.out.2.2.2.range
 go_wp2_with (first|(refine load_midG rfl 49 (.tmp 7) rfl gx 0 rfl xs _ rg.out Tryz.underlying49 rfl HI.out ?_)|(refine bsliceG rfl 38 49 32 496 (stCells 0 0) (.tmp 126) rfl Tryz.underlying38 Tryz.info49z (by decide) (by decide) xs HL.out rfl ?_;intro w1 r1 b1 l1;have R1:=hid r1;have S1:=hid (S0.out.call b1);clear r1 b1 l1)|(refine bsliceG rfl 38 49 32 496 (stCells 0 0) (.tmp 128) rfl Tryz.underlying38 Tryz.info49z (by decide) (by decide) (stCells 0 0) rfl rfl ?_;intro w2 r2 b2 l2;have R2:=hid r2;have S2:=hid (S1.out.call b2);have R1':=hid (R1.out.below b2 R1.out.lt);clear r2 b2 l2))
 refine (H77.out _ _ _ S2.out.2.1 R1'.out R2.out).mono ?_
 rintro _ w3 ⟨rfl,b3⟩
 have S3:=hid (S2.out.call b3)
 clear b3 R1 R1' R2 rg H77 HI HL
 have g30:w3.cell? ⟨g,30,none⟩=some (.slice pt nt ct):=(S3.out.2.2.1.cell 30).trans HT.out
 have g31:w3.cell? ⟨g,31,none⟩=some (.slice pe ne ce):=(S3.out.2.2.1.cell 31).trans HE.out
 go_wp2_with fail
 refine (H1.out _ S3.out.2.1).mono ?_
 rintro _ w4 ⟨rfl,b4⟩
 have S4:=hid (S3.out.call b4)
 clear b4 g30 g31 H1
 go_wp2_with fail
 exact HQ.out _ _ _ _ _ _ _ _ _ _ _ _ _ _ _ _ _ _ _ _ _ _ _ _ _ _ _ _ _ _ _ _ _ _ _ _ _ _ _ _ _ _ _ _ _ _ _ _ _ _ _ _ _ S4.out.2.1

set_option maxHeartbeats 16000000
set_option maxRecDepth 20000
theorem tl_i {Q:Exit->Act->World->Prop} {w W0:World} {g gx:Nat} {cs xs:List Value} {pt pe:Option Addr} {nt ct ne ce:Nat} {d:Int} (hd0:0<=d) (hd1:d<=64) (hS:Sst w g gx cs xs W0) (hl:xs.length=32) (hvt:cs[30]?=some (.slice pt nt ct)) (hve:cs[31]?=some (.slice pe ne ce)) {b2:Bool}
  (h77:A77 w xs true)
  (h1:A59 w (.slice pt nt ct) d false)
  (h2:A59 w (.slice pe ne ce) d b2)
  {u0 u2 u3 u4 u5 M9 N0 N1 N2 N3 N4 N5 N6 N7 N8 N9 O0 O1 O2 O3 O4 O5 O6 O7 O8 O9 P0 P1 P2 P3 P4 P5 P6 P7 P8 P9 Q0 Q1 Q2 Q3 Q4 Q5 Q6 Q7 Q8 Q9 R0 R3 R4 R5 R6 R7 R8 R9 S6 S7 S8 S9 T0 T1 T2 T3 T4 T5 T6 T7 T8 T9 U0 U1 U2 U3 U4 U5 U6 U7 U8 U9 V0 V1 V2 V3 V4 V5 V6 V7 V8 V9 W1 W2 W3 W4 W5 W6 A0 A1 A2 A3 A4 A5 A6 A7 A8 A9 B0 B1 B2 B3 B4 B5 B6 B7 B8 B9 C0 C1 C2 C3 C4 C5 C6 C7 C8 C9 D0 D1 D2 D3 D4 D5 D6 D7 D8 D9 E0 E1 E2 E3 E4 E5 E6 E7 E8 E9 F0 F1 F2 F3 F4 F5 F6 F7 F8 F9 G0 G1 G2 G3 G4 G5 G6 G7 G8 G9 H0 H3 H4 H5 H6:Value}
  (hQ:∀ (W':World) (H7 H8 H9 I0 I1 I2 I3 I4 I5 I6 I7 I8 I9 J0 J1 J2 J3 J4 J5 J6 J7 J8 J9 K0 K1 K2 K3 K4 K5 K6 K7 K8 K9 L0 L1 L2 L3 L4 L5 L6 L7 L8 L9 M0 M1 M2 M3 M4 M5 M6 M7 M8:Value),Below w.heap.size w W'->Q .ret { tmps:=#[u0,.int .i64 d,u2,u3,.bool false,u5,.pointer (some ⟨g,0,none⟩),.pointer (some ⟨gx,0,none⟩),.bool true,.bool true,.bool true,M9,N0,N1,N2,N3,N4,N5,N6,N7,N8,N9,O0,O1,O2,O3,O4,O5,O6,O7,O8,O9,P0,P1,P2,P3,P4,P5,P6,P7,P8,P9,Q0,Q1,Q2,Q3,Q4,Q5,Q6,Q7,Q8,Q9,R0,R3,R4,R5,R6,R7,R8,R9,S6,S7,S8,S9,T0,T1,T2,T3,T4,T5,T6,T7,T8,T9,U0,U1,U2,U3,U4,U5,U6,U7,U8,U9,V0,V1,V2,V3,V4,V5,V6,V7,V8,V9,W1,W2,W3,W4,W5,W6,A0,A1,A2,A3,A4,A5,A6,A7,A8,A9,B0,B1,B2,B3,B4,B5,B6,B7,B8,B9,C0,C1,C2,H7,H8,H9,I0,I1,I2,I3,I4,I5,I6,I7,I8,I9,J0,J1,J2,J3,J4,J5,J6,J7,J8,J9,K0,K1,K2,K3,K4,K5,K6,K7,K8,K9,L0,L1,L2,L3,L4,L5,L6,L7,L8,L9,M0,M1,M2,M3,M4,M5,M6,M7,M8],defers:=[] } W') :
  Code.wp Tryz.prog (past6 (innerB ((Tryz.f59.body.bind (blockAt 1)).getD .skip))) Q { tmps:=#[u0,.int .i64 d,u2,u3,u4,u5,.pointer (some ⟨g,0,none⟩),.pointer (some ⟨gx,0,none⟩),.bool true,.bool true,.bool true,M9,N0,N1,N2,N3,N4,N5,N6,N7,N8,N9,O0,O1,O2,O3,O4,O5,O6,O7,O8,O9,P0,P1,P2,P3,P4,P5,P6,P7,P8,P9,Q0,Q1,Q2,Q3,Q4,Q5,Q6,Q7,Q8,Q9,R0,R3,R4,R5,R6,R7,R8,R9,S6,S7,S8,S9,T0,T1,T2,T3,T4,T5,T6,T7,T8,T9,U0,U1,U2,U3,U4,U5,U6,U7,U8,U9,V0,V1,V2,V3,V4,V5,V6,V7,V8,V9,W1,W2,W3,W4,W5,W6,A0,A1,A2,A3,A4,A5,A6,A7,A8,A9,B0,B1,B2,B3,B4,B5,B6,B7,B8,B9,C0,C1,C2,C3,C4,C5,C6,C7,C8,C9,D0,D1,D2,D3,D4,D5,D6,D7,D8,D9,E0,E1,E2,E3,E4,E5,E6,E7,E8,E9,F0,F1,F2,F3,F4,F5,F6,F7,F8,F9,G0,G1,G2,G3,G4,G5,G6,G7,G8,G9,H0,H3,H4,H5,H6],defers:=[] } W0:=by
 have HQ:=hid hQ
 have S0:=hid hS
 have H77:=hid h77
 have H1:=hid h1
 have H2:=hid h2
 have HL:=hid hl
 have HT:=hid hvt
 have HE:=hid hve
 have hi:(Tryz.prog.info? 49).map (·.size)=some xs.length:=by rw [hl];kernel_rfl
 have HI:=hid hi
 clear hi
 have hd2:IntKind.i64.wrap (d+1)=d+1:=wrap_small (by omega) (by omega)
 clear hQ hS h77 h1 h2 hl hvt hve
 conv=>arg 2;whnf
 dsimp only
 have rg:=hid S0.out.2.2.2.range
 go_wp2_with (first|(refine load_midG rfl 49 (.tmp 7) rfl gx 0 rfl xs _ rg.out Tryz.underlying49 rfl HI.out ?_)|(refine bsliceG rfl 38 49 32 496 (stCells 0 0) (.tmp 126) rfl Tryz.underlying38 Tryz.info49z (by decide) (by decide) xs HL.out rfl ?_;intro w1 r1 b1 l1;have R1:=hid r1;have S1:=hid (S0.out.call b1);clear r1 b1 l1)|(refine bsliceG rfl 38 49 32 496 (stCells 0 0) (.tmp 128) rfl Tryz.underlying38 Tryz.info49z (by decide) (by decide) (stCells 0 0) rfl rfl ?_;intro w2 r2 b2 l2;have R2:=hid r2;have S2:=hid (S1.out.call b2);have R1':=hid (R1.out.below b2 R1.out.lt);clear r2 b2 l2))
 refine (H77.out _ _ _ S2.out.2.1 R1'.out R2.out).mono ?_
 rintro _ w3 ⟨rfl,b3⟩
 have S3:=hid (S2.out.call b3)
 clear b3 R1 R1' R2 rg H77 HI HL
 have g30:w3.cell? ⟨g,30,none⟩=some (.slice pt nt ct):=(S3.out.2.2.1.cell 30).trans HT.out
 have g31:w3.cell? ⟨g,31,none⟩=some (.slice pe ne ce):=(S3.out.2.2.1.cell 31).trans HE.out
 go_wp2_with fail
 refine (H1.out _ S3.out.2.1).mono ?_
 rintro _ w4 ⟨rfl,b4⟩
 have S4:=hid (S3.out.call b4)
 clear b4 g30 g31 H1
 go_wp2_with fail
 exact HQ.out _ _ _ _ _ _ _ _ _ _ _ _ _ _ _ _ _ _ _ _ _ _ _ _ _ _ _ _ _ _ _ _ _ _ _ _ _ _ _ _ _ _ _ _ _ _ _ _ _ _ _ _ _ S4.out.2.1
theorem tl_j {Q:Exit->Act->World->Prop} {w W0:World} {g gx:Nat} {cs xs:List Value} {pt pe:Option Addr} {nt ct ne ce:Nat} {d:Int} (hd0:0<=d) (hd1:d<=64) (hS:Sst w g gx cs xs W0) (hl:xs.length=32) (hvt:cs[30]?=some (.slice pt nt ct)) (hve:cs[31]?=some (.slice pe ne ce)) 
  (h77:A77 w xs true)
  (h1:A59 w (.slice pt nt ct) d true)
  (h2:A59 w (.slice pe ne ce) d false)
  {u0 u2 u3 u4 u5 M9 N0 N1 N2 N3 N4 N5 N6 N7 N8 N9 O0 O1 O2 O3 O4 O5 O6 O7 O8 O9 P0 P1 P2 P3 P4 P5 P6 P7 P8 P9 Q0 Q1 Q2 Q3 Q4 Q5 Q6 Q7 Q8 Q9 R0 R3 R4 R5 R6 R7 R8 R9 S6 S7 S8 S9 T0 T1 T2 T3 T4 T5 T6 T7 T8 T9 U0 U1 U2 U3 U4 U5 U6 U7 U8 U9 V0 V1 V2 V3 V4 V5 V6 V7 V8 V9 W1 W2 W3 W4 W5 W6 A0 A1 A2 A3 A4 A5 A6 A7 A8 A9 B0 B1 B2 B3 B4 B5 B6 B7 B8 B9 C0 C1 C2 C3 C4 C5 C6 C7 C8 C9 D0 D1 D2 D3 D4 D5 D6 D7 D8 D9 E0 E1 E2 E3 E4 E5 E6 E7 E8 E9 F0 F1 F2 F3 F4 F5 F6 F7 F8 F9 G0 G1 G2 G3 G4 G5 G6 G7 G8 G9 H0 H3 H4 H5 H6:Value}
  (hQ:∀ (W':World) (H7 H8 H9 I0 I1 I2 I3 I4 I5 I6 I7 I8 I9 J0 J1 J2 J3 J4 J5 J6 J7 J8 J9 K0 K1 K2 K3 K4 K5 K6 K7 K8 K9 L0 L1 L2 L3 L4 L5 L6 L7 L8 L9 M0 M1 M2 M3 M4 M5 M6 M7 M8:Value),Below w.heap.size w W'->Q .ret { tmps:=#[u0,.int .i64 d,u2,u3,.bool false,u5,.pointer (some ⟨g,0,none⟩),.pointer (some ⟨gx,0,none⟩),.bool true,.bool true,.bool true,M9,N0,N1,N2,N3,N4,N5,N6,N7,N8,N9,O0,O1,O2,O3,O4,O5,O6,O7,O8,O9,P0,P1,P2,P3,P4,P5,P6,P7,P8,P9,Q0,Q1,Q2,Q3,Q4,Q5,Q6,Q7,Q8,Q9,R0,R3,R4,R5,R6,R7,R8,R9,S6,S7,S8,S9,T0,T1,T2,T3,T4,T5,T6,T7,T8,T9,U0,U1,U2,U3,U4,U5,U6,U7,U8,U9,V0,V1,V2,V3,V4,V5,V6,V7,V8,V9,W1,W2,W3,W4,W5,W6,A0,A1,A2,A3,A4,A5,A6,A7,A8,A9,B0,B1,B2,B3,B4,B5,B6,B7,B8,B9,C0,C1,C2,H7,H8,H9,I0,I1,I2,I3,I4,I5,I6,I7,I8,I9,J0,J1,J2,J3,J4,J5,J6,J7,J8,J9,K0,K1,K2,K3,K4,K5,K6,K7,K8,K9,L0,L1,L2,L3,L4,L5,L6,L7,L8,L9,M0,M1,M2,M3,M4,M5,M6,M7,M8],defers:=[] } W') :
  Code.wp Tryz.prog (past6 (innerB ((Tryz.f59.body.bind (blockAt 1)).getD .skip))) Q { tmps:=#[u0,.int .i64 d,u2,u3,u4,u5,.pointer (some ⟨g,0,none⟩),.pointer (some ⟨gx,0,none⟩),.bool true,.bool true,.bool true,M9,N0,N1,N2,N3,N4,N5,N6,N7,N8,N9,O0,O1,O2,O3,O4,O5,O6,O7,O8,O9,P0,P1,P2,P3,P4,P5,P6,P7,P8,P9,Q0,Q1,Q2,Q3,Q4,Q5,Q6,Q7,Q8,Q9,R0,R3,R4,R5,R6,R7,R8,R9,S6,S7,S8,S9,T0,T1,T2,T3,T4,T5,T6,T7,T8,T9,U0,U1,U2,U3,U4,U5,U6,U7,U8,U9,V0,V1,V2,V3,V4,V5,V6,V7,V8,V9,W1,W2,W3,W4,W5,W6,A0,A1,A2,A3,A4,A5,A6,A7,A8,A9,B0,B1,B2,B3,B4,B5,B6,B7,B8,B9,C0,C1,C2,C3,C4,C5,C6,C7,C8,C9,D0,D1,D2,D3,D4,D5,D6,D7,D8,D9,E0,E1,E2,E3,E4,E5,E6,E7,E8,E9,F0,F1,F2,F3,F4,F5,F6,F7,F8,F9,G0,G1,G2,G3,G4,G5,G6,G7,G8,G9,H0,H3,H4,H5,H6],defers:=[] } W0:=by
 have HQ:=hid hQ
 have S0:=hid hS
 have H77:=hid h77
 have H1:=hid h1
 have H2:=hid h2
 have HL:=hid hl
 have HT:=hid hvt
 have HE:=hid hve
 have hi:(Tryz.prog.info? 49).map (·.size)=some xs.length:=by rw [hl];kernel_rfl
 have HI:=hid hi
 clear hi
 have hd2:IntKind.i64.wrap (d+1)=d+1:=wrap_small (by omega) (by omega)
 clear hQ hS h77 h1 h2 hl hvt hve
 conv=>arg 2;whnf
 dsimp only
 have rg:=hid S0.out.2.2.2.range
 go_wp2_with (first|(refine load_midG rfl 49 (.tmp 7) rfl gx 0 rfl xs _ rg.out Tryz.underlying49 rfl HI.out ?_)|(refine bsliceG rfl 38 49 32 496 (stCells 0 0) (.tmp 126) rfl Tryz.underlying38 Tryz.info49z (by decide) (by decide) xs HL.out rfl ?_;intro w1 r1 b1 l1;have R1:=hid r1;have S1:=hid (S0.out.call b1);clear r1 b1 l1)|(refine bsliceG rfl 38 49 32 496 (stCells 0 0) (.tmp 128) rfl Tryz.underlying38 Tryz.info49z (by decide) (by decide) (stCells 0 0) rfl rfl ?_;intro w2 r2 b2 l2;have R2:=hid r2;have S2:=hid (S1.out.call b2);have R1':=hid (R1.out.below b2 R1.out.lt);clear r2 b2 l2))
 refine (H77.out _ _ _ S2.out.2.1 R1'.out R2.out).mono ?_
 rintro _ w3 ⟨rfl,b3⟩
 have S3:=hid (S2.out.call b3)
 clear b3 R1 R1' R2 rg H77 HI HL
 have g30:w3.cell? ⟨g,30,none⟩=some (.slice pt nt ct):=(S3.out.2.2.1.cell 30).trans HT.out
 have g31:w3.cell? ⟨g,31,none⟩=some (.slice pe ne ce):=(S3.out.2.2.1.cell 31).trans HE.out
 go_wp2_with fail
 refine (H1.out _ S3.out.2.1).mono ?_
 rintro _ w4 ⟨rfl,b4⟩
 have S4:=hid (S3.out.call b4)
 clear b4 g30 g31 H1
 have g30:w4.cell? ⟨g,30,none⟩=some (.slice pt nt ct):=(S4.out.2.2.1.cell 30).trans HT.out
 have g31:w4.cell? ⟨g,31,none⟩=some (.slice pe ne ce):=(S4.out.2.2.1.cell 31).trans HE.out
 go_wp2_with fail
 refine (H2.out _ S4.out.2.1).mono ?_
 rintro _ w5 ⟨rfl,b5⟩
 have S5:=hid (S4.out.call b5)
 clear b5 g30 g31 H2
 go_wp2_with fail
 exact HQ.out _ _ _ _ _ _ _ _ _ _ _ _ _ _ _ _ _ _ _ _ _ _ _ _ _ _ _ _ _ _ _ _ _ _ _ _ _ _ _ _ _ _ _ _ _ _ _ _ _ _ _ _ _ S5.out.2.1
end Go.Proofs.YtjenmmkamhplkaaGreat
