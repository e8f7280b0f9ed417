/- Part of the proof. -/
import Derived.Test.YtjenmmkamhplkaaGreatJqspYf02
namespace Go.Proofs.YtjenmmkamhplkaaGreat
open Go.RowKit
set_option maxHeartbeats 16000000
set_option maxRecDepth 20000
theorem fr_6 {Q:Exit->Act->World->Prop} {t:Code} {w W0:World} {g gx:Nat} {kd ps:Int} {mu has:Bool} {nm:ByteArray} {t0 t1 t2 t3 p0 p1 v0 v1 v2 v3 v4 v5 v6 v7 v8 v9 F2 F3 F4 F5 F6 o0 o1 o2 o3 vt ve:Value} (hS:Sst w g gx [.int .i64 kd,.int .i64 ps,.bool mu,.string nm,t0,t1,t2,t3,.bool has,p0,p1,v0,v1,v2,v3,v4,v5,v6,v7,v8,v9,F2,F3,F4,F5,F6,o0,o1,o2,o3,vt,ve] [.int .i64 0,.int .i64 0,.bool mu,.string nm,t0,t1,t2,t3,.bool has,p0,p1,v0,v1,v2,v3,v4,v5,v6,v7,v8,v9,F2,F3,F4,F5,F6,o0,o1,o2,o3,.slice none 0 0,.slice none 0 0] W0) (hk:kd=6)
   {u0 u1 u2 u3 u4 u5 u8 u9 M0 K3 K4 K5 K6 K7 K8 K9 L0 L1 L2 L3 L4 L5 L6 L7 L8 L9 M1 M2 M3 M4 M5 M6 M7 M8 M9 N0 N1 N2 N3 N4 N5 N6 N7 N8 N9 O0 O1 O2 O3 O4 O5 O6 O7 O8 O9 P0 P1 P2 P3 P4 P5 P6 P7 P8 P9 Q0 Q1 Q2 Q3 Q4 Q5 Q6 Q7 Q8 Q9 R0 R1 R2 R3 R4 R5 R6 R7 R8 R9 S1 S2 S3 S4 S5 S6 S7 S8 S9 T0 T1 T2 T3 F7 F8 F9 G0 G1 G2 G3 G4 G5 G6 G7 G8 G9 H0 H1 H2 H3 H4 H5 H6 H7 H8 H9 A0 A1 A2 A3 A4 A5 A6 A7 A8 A9 B0 B1 B2 B3 B4 B5 B6 B7 B8 B9 C0 C1 C2 C3 C4 C5 C6 C7 C8 C9 D0 D1 D2 D3 D4 D5 D6 D7 D8 D9 E0 E1 E2 E3 E4 E5 E6 E7 E8 E9 F0 F1:Value}
  (hQ:∀ (W':World) (T4 T5 T6 T7 T8 T9 U0 U1 U2 U3 U4 U5 U6 U7 U8 U9 V0 V1 V2 V3 V4 V5 V6 V7 V8 V9 W1 W2 W3 W4 W5 W6 W7 W8 W9 X0 X1 X2 X3 X4 X5 X6 X7 X8 X9 Y0 Y1 Y2 Y3 Y4 Y5 Y6 Y7 Y8 Y9 Z0 Z1 Z2 Z3 Z4 Z5 Z6 Z7 Z8 Z9 a0 a1 a2 a3 a4 a5 a6 I0 I1 I2 I3 I4 I5 I6 I7 I8 I9 J0 J1 J2 J3 J4 J5 J6 J7 J8 J9 K0 K1 K2:Value),Sst w g gx [.int .i64 kd,.int .i64 ps,.bool mu,.string nm,t0,t1,t2,t3,.bool has,p0,p1,v0,v1,v2,v3,v4,v5,v6,v7,v8,v9,F2,F3,F4,F5,F6,o0,o1,o2,o3,vt,ve] [.int .i64 0,.int .i64 0,.bool mu,.string nm,t0,t1,t2,t3,.bool has,p0,p1,v0,v1,v2,v3,v4,v5,v6,v7,v8,v9,F2,F3,F4,F5,F6,o0,o1,o2,o3,.slice none 0 0,.slice none 0 0] W'->t.wp Tryz.prog Q { tmps:=#[u0,u1,u2,u3,u4,u5,.pointer (some ⟨g,0,none⟩),.pointer (some ⟨gx,0,none⟩),.bool (true),.bool true,.bool false,K3,K4,K5,K6,K7,K8,K9,L0,L1,L2,L3,L4,L5,L6,L7,L8,L9,T4,T5,T6,T7,T8,T9,U0,U1,U2,U3,U4,U5,U6,U7,U8,U9,V0,V1,V2,V3,V4,V5,V6,V7,V8,V9,W1,W2,W3,W4,W5,W6,W7,W8,W9,X0,X1,X2,X3,X4,X5,X6,X7,X8,X9,Y0,Y1,Y2,Y3,Y4,Y5,Y6,Y7,Y8,Y9,Z0,Z1,Z2,Z3,Z4,Z5,Z6,Z7,Z8,Z9,a0,a1,a2,a3,a4,a5,a6,I0,I1,I2,I3,I4,I5,I6,I7,I8,I9,J0,J1,J2,J3,J4,J5,J6,J7,J8,J9,K0,K1,K2,A0,A1,A2,A3,A4,A5,A6,A7,A8,A9,B0,B1,B2,B3,B4,B5,B6,B7,B8,B9,C0,C1,C2,C3,C4,C5,C6,C7,C8,C9,D0,D1,D2,D3,D4,D5,D6,D7,D8,D9,E0,E1,E2,E3,E4,E5,E6,E7,E8,E9,F0,F1],defers:=[] } W') :
  Code.wp Tryz.prog (next3 t (innerB ((Tryz.f59.body.bind (blockAt 1)).getD .skip))) Q { tmps:=#[u0,u1,u2,u3,u4,u5,.pointer (some ⟨g,0,none⟩),.pointer (some ⟨gx,0,none⟩),u8,u9,M0,K3,K4,K5,K6,K7,K8,K9,L0,L1,L2,L3,L4,L5,L6,L7,L8,L9,M1,M2,M3,M4,M5,M6,M7,M8,M9,N0,N1,N2,N3,N4,N5,N6,N7,N8,N9,O0,O1,O2,O3,O4,O5,O6,O7,O8,O9,P0,P1,P2,P3,P4,P5,P6,P7,P8,P9,Q0,Q1,Q2,Q3,Q4,Q5,Q6,Q7,Q8,Q9,R0,R1,R2,R3,R4,R5,R6,R7,R8,R9,S1,S2,S3,S4,S5,S6,S7,S8,S9,T0,T1,T2,T3,F7,F8,F9,G0,G1,G2,G3,G4,G5,G6,G7,G8,G9,H0,H1,H2,H3,H4,H5,H6,H7,H8,H9,A0,A1,A2,A3,A4,A5,A6,A7,A8,A9,B0,B1,B2,B3,B4,B5,B6,B7,B8,B9,C0,C1,C2,C3,C4,C5,C6,C7,C8,C9,D0,D1,D2,D3,D4,D5,D6,D7,D8,D9,E0,E1,E2,E3,E4,E5,E6,E7,E8,E9,F0,F1],defers:=[] } W0:=by
 have HQ:=hid hQ
 have S0:=hid hS
 clear hQ hS
 have k1:(kd == 1)=false:=by rw [hk];rfl
 have k2:(kd == 2)=false:=by rw [hk];rfl
 have k3:(kd == 3)=false:=by rw [hk];rfl
 have k4:(kd == 4)=false:=by rw [hk];rfl
 have k5:(kd == 5)=false:=by rw [hk];rfl
 have k6:(kd == 6)=true:=by rw [hk];rfl
 have k7:(kd == 7)=false:=by rw [hk];rfl
 have k8:(kd == 8)=false:=by rw [hk];rfl
 have k9:(kd == 9)=false:=by rw [hk];rfl
 have k10:(kd == 10)=false:=by rw [hk];rfl
 have k11:(kd == 11)=false:=by rw [hk];rfl
 clear hk
 conv=>arg 2;whnf
 dsimp only
 have c0:W0.cell? ⟨g,0,none⟩=some (.int .i64 kd):=S0.out.2.2.1.cell 0
 go_wp2_with fail
 exact HQ.out _ _ _ _ _ _ _ _ _ _ _ _ _ _ _ _ _ _ _ _ _ _ _ _ _ _ _ _ _ _ _ _ _ _ _ _ _ _ _ _ _ _ _ _ _ _ _ _ _ _ _ _ _ _ _ _ _ _ _ _ _ _ _ _ _ _ _ _ _ _ _ _ _ _ _ _ _ _ _ _ _ _ _ _ _ _ _ _ _ _ _ _ _ _ _ _ S0.out
theorem fr_7 {Q:Exit->Act->World->Prop} {t:Code} {w W0:World} {g gx:Nat} {kd ps:Int} {mu has:Bool} {nm:ByteArray} {t0 t1 t2 t3 p0 p1 v0 v1 v2 v3 v4 v5 v6 v7 v8 v9 F2 F3 F4 F5 F6 o0 o1 o2 o3 vt ve:Value} (hS:Sst w g gx [.int .i64 kd,.int .i64 ps,.bool mu,.string nm,t0,t1,t2,t3,.bool has,p0,p1,v0,v1,v2,v3,v4,v5,v6,v7,v8,v9,F2,F3,F4,F5,F6,o0,o1,o2,o3,vt,ve] [.int .i64 0,.int .i64 0,.bool mu,.string nm,t0,t1,t2,t3,.bool has,p0,p1,v0,v1,v2,v3,v4,v5,v6,v7,v8,v9,F2,F3,F4,F5,F6,o0,o1,o2,o3,.slice none 0 0,.slice none 0 0] W0) (hk:kd=7)
   {u0 u1 u2 u3 u4 u5 u8 u9 M0 K3 K4 K5 K6 K7 K8 K9 L0 L1 L2 L3 L4 L5 L6 L7 L8 L9 M1 M2 M3 M4 M5 M6 M7 M8 M9 N0 N1 N2 N3 N4 N5 N6 N7 N8 N9 O0 O1 O2 O3 O4 O5 O6 O7 O8 O9 P0 P1 P2 P3 P4 P5 P6 P7 P8 P9 Q0 Q1 Q2 Q3 Q4 Q5 Q6 Q7 Q8 Q9 R0 R1 R2 R3 R4 R5 R6 R7 R8 R9 S1 S2 S3 S4 S5 S6 S7 S8 S9 T0 T1 T2 T3 F7 F8 F9 G0 G1 G2 G3 G4 G5 G6 G7 G8 G9 H0 H1 H2 H3 H4 H5 H6 H7 H8 H9 A0 A1 A2 A3 A4 A5 A6 A7 A8 A9 B0 B1 B2 B3 B4 B5 B6 B7 B8 B9 C0 C1 C2 C3 C4 C5 C6 C7 C8 C9 D0 D1 D2 D3 D4 D5 D6 D7 D8 D9 E0 E1 E2 E3 E4 E5 E6 E7 E8 E9 F0 F1:Value}
  (hQ:∀ (W':World) (T4 T5 T6 T7 T8 T9 U0 U1 U2 U3 U4 U5 U6 U7 U8 U9 V0 V1 V2 V3 V4 V5 V6 V7 V8 V9 W1 W2 W3 W4 W5 W6 W7 W8 W9 X0 X1 X2 X3 X4 X5 X6 X7 X8 X9 Y0 Y1 Y2 Y3 Y4 Y5 Y6 Y7 Y8 Y9 Z0 Z1 Z2 Z3 Z4 Z5 Z6 Z7 Z8 Z9 a0 a1 a2 a3 a4 a5 a6 I0 I1 I2 I3 I4 I5 I6 I7 I8 I9 J0 J1 J2 J3 J4 J5 J6 J7 J8 J9 K0 K1 K2:Value),Sst w g gx [.int .i64 kd,.int .i64 ps,.bool mu,.string nm,t0,t1,t2,t3,.bool has,p0,p1,v0,v1,v2,v3,v4,v5,v6,v7,v8,v9,F2,F3,F4,F5,F6,o0,o1,o2,o3,vt,ve] [.int .i64 0,.int .i64 0,.bool mu,.string nm,t0,t1,t2,t3,.bool has,p0,p1,v0,v1,v2,v3,v4,v5,v6,v7,v8,v9,F2,F3,F4,F5,F6,o0,o1,o2,o3,.slice none 0 0,.slice none 0 0] W'->t.wp Tryz.prog Q { tmps:=#[u0,u1,u2,u3,u4,u5,.pointer (some ⟨g,0,none⟩),.pointer (some ⟨gx,0,none⟩),.bool (true),.bool true,.bool false,K3,K4,K5,K6,K7,K8,K9,L0,L1,L2,L3,L4,L5,L6,L7,L8,L9,T4,T5,T6,T7,T8,T9,U0,U1,U2,U3,U4,U5,U6,U7,U8,U9,V0,V1,V2,V3,V4,V5,V6,V7,V8,V9,W1,W2,W3,W4,W5,W6,W7,W8,W9,X0,X1,X2,X3,X4,X5,X6,X7,X8,X9,Y0,Y1,Y2,Y3,Y4,Y5,Y6,Y7,Y8,Y9,Z0,Z1,Z2,Z3,Z4,Z5,Z6,Z7,Z8,Z9,a0,a1,a2,a3,a4,a5,a6,I0,I1,I2,I3,I4,I5,I6,I7,I8,I9,J0,J1,J2,J3,J4,J5,J6,J7,J8,J9,K0,K1,K2,A0,A1,A2,A3,A4,A5,A6,A7,A8,A9,B0,B1,B2,B3,B4,B5,B6,B7,B8,B9,C0,C1,C2,C3,C4,C5,C6,C7,C8,C9,D0,D1,D2,D3,D4,D5,D6,D7,D8,D9,E0,E1,E2,E3,E4,E5,E6,E7,E8,E9,F0,F1],defers:=[] } W') :
  Code.wp Tryz.prog (next3 t (innerB ((Tryz.f59.body.bind (blockAt 1)).getD .skip))) Q { tmps:=#[u0,u1,u2,u3,u4,u5,.pointer (some ⟨g,0,none⟩),.pointer (some ⟨gx,0,none⟩),u8,u9,M0,K3,K4,K5,K6,K7,K8,K9,L0,L1,L2,L3,L4,L5,L6,L7,L8,L9,M1,M2,M3,M4,M5,M6,M7,M8,M9,N0,N1,N2,N3,N4,N5,N6,N7,N8,N9,O0,O1,O2,O3,O4,O5,O6,O7,O8,O9,P0,P1,P2,P3,P4,P5,P6,P7,P8,P9,Q0,Q1,Q2,Q3,Q4,Q5,Q6,Q7,Q8,Q9,R0,R1,R2,R3,R4,R5,R6,R7,R8,R9,S1,S2,S3,S4,S5,S6,S7,S8,S9,T0,T1,T2,T3,F7,F8,F9,G0,G1,G2,G3,G4,G5,G6,G7,G8,G9,H0,H1,H2,H3,H4,H5,H6,H7,H8,H9,A0,A1,A2,A3,A4,A5,A6,A7,A8,A9,B0,B1,B2,B3,B4,B5,B6,B7,B8,B9,C0,C1,C2,C3,C4,C5,C6,C7,C8,C9,D0,D1,D2,D3,D4,D5,D6,D7,D8,D9,E0,E1,E2,E3,E4,E5,E6,E7,E8,E9,F0,F1],defers:=[] } W0:=by
 have HQ:=hid hQ
 have S0:=hid hS
 clear hQ hS
 have k1:(kd == 1)=false:=by rw [hk];rfl
 have k2:(kd == 2)=false:=by rw [hk];rfl
 have k3:(kd == 3)=false:=by rw [hk];rfl
 have k4:(kd == 4)=false:=by rw [hk];rfl
 have k5:(kd == 5)=false:=by rw [hk];rfl
 have k6:(kd == 6)=false:=by rw [hk];rfl
 have k7:(kd == 7)=true:=by rw [hk];rfl
 have k8:(kd == 8)=false:=by rw [hk];rfl
 have k9:(kd == 9)=false:=by rw [hk];rfl
 have k10:(kd == 10)=false:=by rw [hk];rfl
 have k11:(kd == 11)=false:=by rw [hk];rfl
 clear hk
 conv=>arg 2;whnf
 dsimp only
 have c0:W0.cell? ⟨g,0,none⟩=some (.int .i64 kd):=S0.out.2.2.1.cell 0
 go_wp2_with fail
 exact HQ.out _ _ _ _ _ _ _ _ _ _ _ _ _ _ _ _ _ _ _ _ _ _ _ _ _ _ _ _ _ _ _ _ _ _ _ _ _ _ _ _ _ _ _ _ _ _ _ _ _ _ _ _ _ _ _ _ _ _ _ _ _ _ _ _ _ _ _ _ _ _ _ _ _ _ _ _ _ _ _ _ _ _ _ _ _ _ _ _ _ _ _ _ _ _ _ _ S0.out

set_option maxHeartbeats 16000000
set_option maxRecDepth 20000
theorem fr_8 {Q:Exit->Act->World->Prop} {t:Code} {w W0:World} {g gx:Nat} {kd ps:Int} {mu has:Bool} {nm:ByteArray} {t0 t1 t2 t3 p0 p1 v0 v1 v2 v3 v4 v5 v6 v7 v8 v9 F2 F3 F4 F5 F6 o0 o1 o2 o3 vt ve:Value} (hS:Sst w g gx [.int .i64 kd,.int .i64 ps,.bool mu,.string nm,t0,t1,t2,t3,.bool has,p0,p1,v0,v1,v2,v3,v4,v5,v6,v7,v8,v9,F2,F3,F4,F5,F6,o0,o1,o2,o3,vt,ve] [.int .i64 0,.int .i64 0,.bool mu,.string nm,t0,t1,t2,t3,.bool has,p0,p1,v0,v1,v2,v3,v4,v5,v6,v7,v8,v9,F2,F3,F4,F5,F6,o0,o1,o2,o3,.slice none 0 0,.slice none 0 0] W0) (hk:kd=8)
   {u0 u1 u2 u3 u4 u5 u8 u9 M0 K3 K4 K5 K6 K7 K8 K9 L0 L1 L2 L3 L4 L5 L6 L7 L8 L9 M1 M2 M3 M4 M5 M6 M7 M8 M9 N0 N1 N2 N3 N4 N5 N6 N7 N8 N9 O0 O1 O2 O3 O4 O5 O6 O7 O8 O9 P0 P1 P2 P3 P4 P5 P6 P7 P8 P9 Q0 Q1 Q2 Q3 Q4 Q5 Q6 Q7 Q8 Q9 R0 R1 R2 R3 R4 R5 R6 R7 R8 R9 S1 S2 S3 S4 S5 S6 S7 S8 S9 T0 T1 T2 T3 F7 F8 F9 G0 G1 G2 G3 G4 G5 G6 G7 G8 G9 H0 H1 H2 H3 H4 H5 H6 H7 H8 H9 A0 A1 A2 A3 A4 A5 A6 A7 A8 A9 B0 B1 B2 B3 B4 B5 B6 B7 B8 B9 C0 C1 C2 C3 C4 C5 C6 C7 C8 C9 D0 D1 D2 D3 D4 D5 D6 D7 D8 D9 E0 E1 E2 E3 E4 E5 E6 E7 E8 E9 F0 F1:Value}
  (hQ:∀ (W':World) (T4 T5 T6 T7 T8 T9 U0 U1 U2 U3 U4 U5 U6 U7 U8 U9 V0 V1 V2 V3 V4 V5 V6 V7 V8 V9 W1 W2 W3 W4 W5 W6 W7 W8 W9 X0 X1 X2 X3 X4 X5 X6 X7 X8 X9 Y0 Y1 Y2 Y3 Y4 Y5 Y6 Y7 Y8 Y9 Z0 Z1 Z2 Z3 Z4 Z5 Z6 Z7 Z8 Z9 a0 a1 a2 a3 a4 a5 a6 I0 I1 I2 I3 I4 I5 I6 I7 I8 I9 J0 J1 J2 J3 J4 J5 J6 J7 J8 J9 K0 K1 K2:Value),Sst w g gx [.int .i64 kd,.int .i64 ps,.bool mu,.string nm,t0,t1,t2,t3,.bool has,p0,p1,v0,v1,v2,v3,v4,v5,v6,v7,v8,v9,F2,F3,F4,F5,F6,o0,o1,o2,o3,vt,ve] [.int .i64 0,.int .i64 0,.bool mu,.string nm,t0,t1,t2,t3,.bool has,p0,p1,v0,v1,v2,v3,v4,v5,v6,v7,v8,v9,F2,F3,F4,F5,F6,o0,o1,o2,o3,.slice none 0 0,.slice none 0 0] W'->t.wp Tryz.prog Q { tmps:=#[u0,u1,u2,u3,u4,u5,.pointer (some ⟨g,0,none⟩),.pointer (some ⟨gx,0,none⟩),.bool (true),.bool false,.bool false,K3,K4,K5,K6,K7,K8,K9,L0,L1,L2,L3,L4,L5,L6,L7,L8,L9,T4,T5,T6,T7,T8,T9,U0,U1,U2,U3,U4,U5,U6,U7,U8,U9,V0,V1,V2,V3,V4,V5,V6,V7,V8,V9,W1,W2,W3,W4,W5,W6,W7,W8,W9,X0,X1,X2,X3,X4,X5,X6,X7,X8,X9,Y0,Y1,Y2,Y3,Y4,Y5,Y6,Y7,Y8,Y9,Z0,Z1,Z2,Z3,Z4,Z5,Z6,Z7,Z8,Z9,a0,a1,a2,a3,a4,a5,a6,I0,I1,I2,I3,I4,I5,I6,I7,I8,I9,J0,J1,J2,J3,J4,J5,J6,J7,J8,J9,K0,K1,K2,A0,A1,A2,A3,A4,A5,A6,A7,A8,A9,B0,B1,B2,B3,B4,B5,B6,B7,B8,B9,C0,C1,C2,C3,C4,C5,C6,C7,C8,C9,D0,D1,D2,D3,D4,D5,D6,D7,D8,D9,E0,E1,E2,E3,E4,E5,E6,E7,E8,E9,F0,F1],defers:=[] } W') :
  Code.wp Tryz.prog (next3 t (innerB ((Tryz.f59.body.bind (blockAt 1)).getD .skip))) Q { tmps:=#[u0,u1,u2,u3,u4,u5,.pointer (some ⟨g,0,none⟩),.pointer (some ⟨gx,0,none⟩),u8,u9,M0,K3,K4,K5,K6,K7,K8,K9,L0,L1,L2,L3,L4,L5,L6,L7,L8,L9,M1,M2,M3,M4,M5,M6,M7,M8,M9,N0,N1,N2,N3,N4,N5,N6,N7,N8,N9,O0,O1,O2,O3,O4,O5,O6,O7,O8,O9,P0,P1,P2,P3,P4,P5,P6,P7,P8,P9,Q0,Q1,Q2,Q3,Q4,Q5,Q6,Q7,Q8,Q9,R0,R1,R2,R3,R4,R5,R6,R7,R8,R9,S1,S2,S3,S4,S5,S6,S7,S8,S9,T0,T1,T2,T3,F7,F8,F9,G0,G1,G2,G3,G4,G5,G6,G7,G8,G9,H0,H1,H2,H3,H4,H5,H6,H7,H8,H9,A0,A1,A2,A3,A4,A5,A6,A7,A8,A9,B0,B1,B2,B3,B4,B5,B6,B7,B8,B9,C0,C1,C2,C3,C4,C5,C6,C7,C8,C9,D0,D1,D2,D3,D4,D5,D6,D7,D8,D9,E0,E1,E2,E3,E4,E5,E6,E7,E8,E9,F0,F1],defers:=[] } W0:=by
 have HQ:=hid hQ
 have S0:=hid hS
 clear hQ hS
 have k1:(kd == 1)=false:=by rw [hk];rfl
 have k2:(kd == 2)=false:=by rw [hk];rfl
 have k3:(kd == 3)=false:=by rw [hk];rfl
 have k4:(kd == 4)=false:=by rw [hk];rfl
 have k5:(kd == 5)=false:=by rw [hk];rfl
 have k6:(kd == 6)=false:=by rw [hk];rfl
 have k7:(kd == 7)=false:=by rw [hk];rfl
 have k8:(kd == 8)=true:=by rw [hk];rfl
 have k9:(kd == 9)=false:=by rw [hk];rfl
 have k10:(kd == 10)=false:=by rw [hk];rfl
 have k11:(kd == 11)=false:=by rw [hk];rfl
 clear hk
 conv=>arg 2;whnf
 dsimp only
 have c0:W0.cell? ⟨g,0,none⟩=some (.int .i64 kd):=S0.out.2.2.1.cell 0
 go_wp2_with fail
 exact HQ.out _ _ _ _ _ _ _ _ _ _ _ _ _ _ _ _ _ _ _ _ _ _ _ _ _ _ _ _ _ _ _ _ _ _ _ _ _ _ _ _ _ _ _ _ _ _ _ _ _ _ _ _ _ _ _ _ _ _ _ _ _ _ _ _ _ _ _ _ _ _ _ _ _ _ _ _ _ _ _ _ _ _ _ _ _ _ _ _ _ _ _ _ _ _ _ _ S0.out
theorem fr_9 {Q:Exit->Act->World->Prop} {t:Code} {w W0:World} {g gx:Nat} {kd ps:Int} {mu has:Bool} {nm:ByteArray} {t0 t1 t2 t3 p0 p1 v0 v1 v2 v3 v4 v5 v6 v7 v8 v9 F2 F3 F4 F5 F6 o0 o1 o2 o3 vt ve:Value} (hS:Sst w g gx [.int .i64 kd,.int .i64 ps,.bool mu,.string nm,t0,t1,t2,t3,.bool has,p0,p1,v0,v1,v2,v3,v4,v5,v6,v7,v8,v9,F2,F3,F4,F5,F6,o0,o1,o2,o3,vt,ve] [.int .i64 0,.int .i64 0,.bool mu,.string nm,t0,t1,t2,t3,.bool has,p0,p1,v0,v1,v2,v3,v4,v5,v6,v7,v8,v9,F2,F3,F4,F5,F6,o0,o1,o2,o3,.slice none 0 0,.slice none 0 0] W0) (hk:kd=9)
   {u0 u1 u2 u3 u4 u5 u8 u9 M0 K3 K4 K5 K6 K7 K8 K9 L0 L1 L2 L3 L4 L5 L6 L7 L8 L9 M1 M2 M3 M4 M5 M6 M7 M8 M9 N0 N1 N2 N3 N4 N5 N6 N7 N8 N9 O0 O1 O2 O3 O4 O5 O6 O7 O8 O9 P0 P1 P2 P3 P4 P5 P6 P7 P8 P9 Q0 Q1 Q2 Q3 Q4 Q5 Q6 Q7 Q8 Q9 R0 R1 R2 R3 R4 R5 R6 R7 R8 R9 S1 S2 S3 S4 S5 S6 S7 S8 S9 T0 T1 T2 T3 F7 F8 F9 G0 G1 G2 G3 G4 G5 G6 G7 G8 G9 H0 H1 H2 H3 H4 H5 H6 H7 H8 H9 A0 A1 A2 A3 A4 A5 A6 A7 A8 A9 B0 B1 B2 B3 B4 B5 B6 B7 B8 B9 C0 C1 C2 C3 C4 C5 C6 C7 C8 C9 D0 D1 D2 D3 D4 D5 D6 D7 D8 D9 E0 E1 E2 E3 E4 E5 E6 E7 E8 E9 F0 F1:Value}
  (hQ:∀ (W':World) (T4 T5 T6 T7 T8 T9 U0 U1 U2 U3 U4 U5 U6 U7 U8 U9 V0 V1 V2 V3 V4 V5 V6 V7 V8 V9 W1 W2 W3 W4 W5 W6 W7 W8 W9 X0 X1 X2 X3 X4 X5 X6 X7 X8 X9 Y0 Y1 Y2 Y3 Y4 Y5 Y6 Y7 Y8 Y9 Z0 Z1 Z2 Z3 Z4 Z5 Z6 Z7 Z8 Z9 a0 a1 a2 a3 a4 a5 a6 I0 I1 I2 I3 I4 I5 I6 I7 I8 I9 J0 J1 J2 J3 J4 J5 J6 J7 J8 J9 K0 K1 K2:Value),Sst w g gx [.int .i64 kd,.int .i64 ps,.bool mu,.string nm,t0,t1,t2,t3,.bool has,p0,p1,v0,v1,v2,v3,v4,v5,v6,v7,v8,v9,F2,F3,F4,F5,F6,o0,o1,o2,o3,vt,ve] [.int .i64 0,.int .i64 0,.bool mu,.string nm,t0,t1,t2,t3,.bool has,p0,p1,v0,v1,v2,v3,v4,v5,v6,v7,v8,v9,F2,F3,F4,F5,F6,o0,o1,o2,o3,.slice none 0 0,.slice none 0 0] W'->t.wp Tryz.prog Q { tmps:=#[u0,u1,u2,u3,u4,u5,.pointer (some ⟨g,0,none⟩),.pointer (some ⟨gx,0,none⟩),.bool (true),.bool false,.bool false,K3,K4,K5,K6,K7,K8,K9,L0,L1,L2,L3,L4,L5,L6,L7,L8,L9,T4,T5,T6,T7,T8,T9,U0,U1,U2,U3,U4,U5,U6,U7,U8,U9,V0,V1,V2,V3,V4,V5,V6,V7,V8,V9,W1,W2,W3,W4,W5,W6,W7,W8,W9,X0,X1,X2,X3,X4,X5,X6,X7,X8,X9,Y0,Y1,Y2,Y3,Y4,Y5,Y6,Y7,Y8,Y9,Z0,Z1,Z2,Z3,Z4,Z5,Z6,Z7,Z8,Z9,a0,a1,a2,a3,a4,a5,a6,I0,I1,I2,I3,I4,I5,I6,I7,I8,I9,J0,J1,J2,J3,J4,J5,J6,J7,J8,J9,K0,K1,K2,A0,A1,A2,A3,A4,A5,A6,A7,A8,A9,B0,B1,B2,B3,B4,B5,B6,B7,B8,B9,C0,C1,C2,C3,C4,C5,C6,C7,C8,C9,D0,D1,D2,D3,D4,D5,D6,D7,D8,D9,E0,E1,E2,E3,E4,E5,E6,E7,E8,E9,F0,F1],defers:=[] } W') :
  Code.wp Tryz.prog (next3 t (innerB ((Tryz.f59.body.bind (blockAt 1)).getD .skip))) Q { tmps:=#[u0,u1,u2,u3,u4,u5,.pointer (some ⟨g,0,none⟩),.pointer (some ⟨gx,0,none⟩),u8,u9,M0,K3,K4,K5,K6,K7,K8,K9,L0,L1,L2,L3,L4,L5,L6,L7,L8,L9,M1,M2,M3,M4,M5,M6,M7,M8,M9,N0,N1,N2,N3,N4,N5,N6,N7,N8,N9,O0,O1,O2,O3,O4,O5,O6,O7,O8,O9,P0,P1,P2,P3,P4,P5,P6,P7,P8,P9,Q0,Q1,Q2,Q3,Q4,Q5,Q6,Q7,Q8,Q9,R0,R1,R2,R3,R4,R5,R6,R7,R8,R9,S1,S2,S3,S4,S5,S6,S7,S8,S9,T0,T1,T2,T3,F7,F8,F9,G0,G1,G2,G3,G4,G5,G6,G7,G8,G9,H0,H1,H2,H3,H4,H5,H6,H7,H8,H9,A0,A1,A2,A3,A4,A5,A6,A7,A8,A9,B0,B1,B2,B3,B4,B5,B6,B7,B8,B9,C0,C1,C2,C3,C4,C5,C6,C7,C8,C9,D0,D1,D2,D3,D4,D5,D6,D7,D8,D9,E0,E1,E2,E3,E4,E5,E6,E7,E8,E9,F0,F1],defers:=[] } W0:=by
 have HQ:=hid hQ
 have S0:=hid hS
 clear hQ hS
 have k1:(kd == 1)=false:=by rw [hk];rfl
 have k2:(kd == 2)=false:=by rw [hk];rfl
 have k3:(kd == 3)=false:=by rw [hk];rfl
 have k4:(kd == 4)=false:=by rw [hk];rfl
 have k5:(kd == 5)=false:=by rw [hk];rfl
 have k6:(kd == 6)=false:=by rw [hk];rfl
 have k7:(kd == 7)=false:=by rw [hk];rfl
 have k8:(kd == 8)=false:=by rw [hk];rfl
 have k9:(kd == 9)=true:=by rw [hk];rfl
 have k10:(kd == 10)=false:=by rw [hk];rfl
 have k11:(kd == 11)=false:=by rw [hk];rfl
 clear hk
 conv=>arg 2;whnf
 dsimp only
 have c0:W0.cell? ⟨g,0,none⟩=some (.int .i64 kd):=S0.out.2.2.1.cell 0
 go_wp2_with fail
 exact HQ.out _ _ _ _ _ _ _ _ _ _ _ _ _ _ _ _ _ _ _ _ _ _ _ _ _ _ _ _ _ _ _ _ _ _ _ _ _ _ _ _ _ _ _ _ _ _ _ _ _ _ _ _ _ _ _ _ _ _ _ _ _ _ _ _ _ _ _ _ _ _ _ _ _ _ _ _ _ _ _ _ _ _ _ _ _ _ _ _ _ _ _ _ _ _ _ _ S0.out
end Go.Proofs.YtjenmmkamhplkaaGreat
