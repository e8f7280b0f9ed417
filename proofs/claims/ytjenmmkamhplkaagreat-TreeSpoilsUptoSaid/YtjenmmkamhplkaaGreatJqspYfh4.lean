/- Part of the proof. -/
import Derived.Test.YtjenmmkamhplkaaGreatJqspYf02
namespace Go.Proofs.YtjenmmkamhplkaaGreat
open Go.RowKit
set_option maxHeartbeats 16000000
set_option maxRecDepth 20000
theorem fr_10 {Q:Exit->Act->World->Prop} {t:Code} {w W0:World} {g gx:Nat} {kd ps:Int} {mu:Bool} {nm:ByteArray} {t0 t1 t2 t3 p0 p1 v0 v1 v2 v3 v4 v5 v6 v7 v8 v9 A0 A1 A2 A3 A4 o0 o1 o2 o3 vt ve:Value} (hS:Sst w g gx [.int .i64 kd,.int .i64 ps,.bool mu,.string nm,t0,t1,t2,t3,.bool false,p0,p1,v0,v1,v2,v3,v4,v5,v6,v7,v8,v9,A0,A1,A2,A3,A4,o0,o1,o2,o3,vt,ve] [.int .i64 0,.int .i64 0,.bool mu,.string nm,t0,t1,t2,t3,.bool false,p0,p1,v0,v1,v2,v3,v4,v5,v6,v7,v8,v9,A0,A1,A2,A3,A4,o0,o1,o2,o3,.slice none 0 0,.slice none 0 0] W0) (hk:kd=10)
   {u0 u1 u2 u3 u4 u5 u8 u9 M0 K3 K4 K5 K6 K7 K8 K9 L0 L1 L2 L3 L4 L5 L6 L7 L8 L9 M1 M2 M3 M4 M5 M6 M7 M8 M9 N0 N1 N2 N3 N4 N5 N6 N7 N8 N9 O0 O1 O2 O3 O4 O5 O6 O7 O8 O9 P0 P1 P2 P3 P4 P5 P6 P7 P8 P9 Q0 Q1 Q2 Q3 Q4 Q5 Q6 Q7 Q8 Q9 R0 R1 R2 R3 R4 R5 R6 R7 R8 R9 S4 S5 S6 S7 S8 S9 T0 T1 T2 T3 T4 T5 T6 F7 F8 F9 G0 G1 G2 G3 G4 G5 G6 G7 G8 G9 H0 H1 H2 H3 H4 H5 H6 H7 H8 H9 A5 A6 A7 A8 A9 B0 B1 B2 B3 B4 B5 B6 B7 B8 B9 C0 C1 C2 C3 C4 C5 C6 C7 C8 C9 D0 D1 D2 D3 D4 D5 D6 D7 D8 D9 E0 E1 E2 E3 E4 E5 E6 E7 E8 E9 F0 F1 F2 F3 F4 F5 F6:Value}
  (hQ:∀ (W':World) (T7 T8 T9 U0 U1 U2 U3 U4 U5 U6 U7 U8 U9 V0 V1 V2 V3 V4 V5 V6 V7 V8 V9 W1 W2 W3 W4 W5 W6 W7 W8 W9 X0 X1 X2 X3 X4 X5 X6 X7 X8 X9 Y0 Y1 Y2 Y3 Y4 Y5 Y6 Y7 Y8 Y9 Z0 Z1 Z2 Z3 Z4 Z5 Z6 Z7 Z8 Z9 a0 a1 a2 a3 a4 a5 a6 a7 a8 a9 I0 I1 I2 I3 I4 I5 I6 I7 I8 I9 J0 J1 J2 J3 J4 J5 J6 J7 J8 J9 K0 K1 K2:Value),Sst w g gx [.int .i64 kd,.int .i64 ps,.bool mu,.string nm,t0,t1,t2,t3,.bool false,p0,p1,v0,v1,v2,v3,v4,v5,v6,v7,v8,v9,A0,A1,A2,A3,A4,o0,o1,o2,o3,vt,ve] [.int .i64 0,.int .i64 0,.bool mu,.string nm,t0,t1,t2,t3,.bool false,p0,p1,v0,v1,v2,v3,v4,v5,v6,v7,v8,v9,A0,A1,A2,A3,A4,o0,o1,o2,o3,.slice none 0 0,.slice none 0 0] W'->t.wp Tryz.prog Q { tmps:=#[u0,u1,u2,u3,u4,u5,.pointer (some ⟨g,0,none⟩),.pointer (some ⟨gx,0,none⟩),.bool (true),.bool false,.bool false,K3,K4,K5,K6,K7,K8,K9,L0,L1,L2,L3,L4,L5,L6,L7,L8,L9,T7,T8,T9,U0,U1,U2,U3,U4,U5,U6,U7,U8,U9,V0,V1,V2,V3,V4,V5,V6,V7,V8,V9,W1,W2,W3,W4,W5,W6,W7,W8,W9,X0,X1,X2,X3,X4,X5,X6,X7,X8,X9,Y0,Y1,Y2,Y3,Y4,Y5,Y6,Y7,Y8,Y9,Z0,Z1,Z2,Z3,Z4,Z5,Z6,Z7,Z8,Z9,a0,a1,a2,a3,a4,a5,a6,a7,a8,a9,I0,I1,I2,I3,I4,I5,I6,I7,I8,I9,J0,J1,J2,J3,J4,J5,J6,J7,J8,J9,K0,K1,K2,A5,A6,A7,A8,A9,B0,B1,B2,B3,B4,B5,B6,B7,B8,B9,C0,C1,C2,C3,C4,C5,C6,C7,C8,C9,D0,D1,D2,D3,D4,D5,D6,D7,D8,D9,E0,E1,E2,E3,E4,E5,E6,E7,E8,E9,F0,F1,F2,F3,F4,F5,F6],defers:=[] } W') :
  Code.wp Tryz.prog (next3 t (innerB ((Tryz.f59.body.bind (blockAt 1)).getD .skip))) Q { tmps:=#[u0,u1,u2,u3,u4,u5,.pointer (some ⟨g,0,none⟩),.pointer (some ⟨gx,0,none⟩),u8,u9,M0,K3,K4,K5,K6,K7,K8,K9,L0,L1,L2,L3,L4,L5,L6,L7,L8,L9,M1,M2,M3,M4,M5,M6,M7,M8,M9,N0,N1,N2,N3,N4,N5,N6,N7,N8,N9,O0,O1,O2,O3,O4,O5,O6,O7,O8,O9,P0,P1,P2,P3,P4,P5,P6,P7,P8,P9,Q0,Q1,Q2,Q3,Q4,Q5,Q6,Q7,Q8,Q9,R0,R1,R2,R3,R4,R5,R6,R7,R8,R9,S4,S5,S6,S7,S8,S9,T0,T1,T2,T3,T4,T5,T6,F7,F8,F9,G0,G1,G2,G3,G4,G5,G6,G7,G8,G9,H0,H1,H2,H3,H4,H5,H6,H7,H8,H9,A5,A6,A7,A8,A9,B0,B1,B2,B3,B4,B5,B6,B7,B8,B9,C0,C1,C2,C3,C4,C5,C6,C7,C8,C9,D0,D1,D2,D3,D4,D5,D6,D7,D8,D9,E0,E1,E2,E3,E4,E5,E6,E7,E8,E9,F0,F1,F2,F3,F4,F5,F6],defers:=[] } W0:=by
 have HQ:=hid hQ
 have S0:=hid hS
 clear hQ hS
 have k1:(kd == 1)=false:=by rw [hk];rfl
 have k2:(kd == 2)=false:=by rw [hk];rfl
 have k3:(kd == 3)=false:=by rw [hk];rfl
 have k4:(kd == 4)=false:=by rw [hk];rfl
 have k5:(kd == 5)=false:=by rw [hk];rfl
 have k6:(kd == 6)=false:=by rw [hk];rfl
 have k7:(kd == 7)=false:=by rw [hk];rfl
 have k8:(kd == 8)=false:=by rw [hk];rfl
 have k9:(kd == 9)=false:=by rw [hk];rfl
 have k10:(kd == 10)=true:=by rw [hk];rfl
 have k11:(kd == 11)=false:=by rw [hk];rfl
 clear hk
 conv=>arg 2;whnf
 dsimp only
 have c0:W0.cell? ⟨g,0,none⟩=some (.int .i64 kd):=S0.out.2.2.1.cell 0
 have c8:W0.cell? ⟨g,8,none⟩=some (.bool false):=S0.out.2.2.1.cell 8
 go_wp2_with fail
 exact HQ.out _ _ _ _ _ _ _ _ _ _ _ _ _ _ _ _ _ _ _ _ _ _ _ _ _ _ _ _ _ _ _ _ _ _ _ _ _ _ _ _ _ _ _ _ _ _ _ _ _ _ _ _ _ _ _ _ _ _ _ _ _ _ _ _ _ _ _ _ _ _ _ _ _ _ _ _ _ _ _ _ _ _ _ _ _ _ _ _ _ _ _ _ _ _ _ _ S0.out
theorem fr_10v {Q:Exit->Act->World->Prop} {t:Code} {w W0:World} {g gx:Nat} {kd ps:Int} {mu:Bool} {nm:ByteArray} {t0 t1 t2 t3 p0 p1 v0 v1 v2 v3 v4 v5 v6 v7 v8 v9 A0 A1 A2 A3 A4 o0 o1 o2 o3 vt ve:Value} (hS:Sst w g gx [.int .i64 kd,.int .i64 ps,.bool mu,.string nm,t0,t1,t2,t3,.bool true,p0,p1,v0,v1,v2,v3,v4,v5,v6,v7,v8,v9,A0,A1,A2,A3,A4,o0,o1,o2,o3,vt,ve] [.int .i64 0,.int .i64 0,.bool mu,.string nm,t0,t1,t2,t3,.bool true,p0,p1,v0,v1,v2,v3,v4,v5,v6,v7,v8,v9,A0,A1,A2,A3,A4,o0,o1,o2,o3,.slice none 0 0,.slice none 0 0] W0) (hk:kd=10)
  { bv:Bool} (hV:∀ W,Below w.heap.size w W->Calls Tryz.prog 93 #[.agg #[v0,v1,v2,v3,v4,v5,v6,v7,v8,v9,A0,A1,A2,A3,A4]] W (Rb bv W)) {u0 u1 u2 u3 u4 u5 u8 u9 M0 K3 K4 K5 K6 K7 K8 K9 L0 L1 L2 L3 L4 L5 L6 L7 L8 L9 M1 M2 M3 M4 M5 M6 M7 M8 M9 N0 N1 N2 N3 N4 N5 N6 N7 N8 N9 O0 O1 O2 O3 O4 O5 O6 O7 O8 O9 P0 P1 P2 P3 P4 P5 P6 P7 P8 P9 Q0 Q1 Q2 Q3 Q4 Q5 Q6 Q7 Q8 Q9 R0 R1 R2 R3 R4 R5 R6 R7 R8 R9 S4 S5 S6 S7 S8 S9 T0 T1 T2 T3 T4 T5 T6 F7 F8 F9 G0 G1 G2 G3 G4 G5 G6 G7 G8 G9 H0 H1 H2 H3 H4 H5 H6 H7 H8 H9 A5 A6 A7 A8 A9 B0 B1 B2 B3 B4 B5 B6 B7 B8 B9 C0 C1 C2 C3 C4 C5 C6 C7 C8 C9 D0 D1 D2 D3 D4 D5 D6 D7 D8 D9 E0 E1 E2 E3 E4 E5 E6 E7 E8 E9 F0 F1 F2 F3 F4 F5 F6:Value}
  (hQ:∀ (W':World) (T7 T8 T9 U0 U1 U2 U3 U4 U5 U6 U7 U8 U9 V0 V1 V2 V3 V4 V5 V6 V7 V8 V9 W1 W2 W3 W4 W5 W6 W7 W8 W9 X0 X1 X2 X3 X4 X5 X6 X7 X8 X9 Y0 Y1 Y2 Y3 Y4 Y5 Y6 Y7 Y8 Y9 Z0 Z1 Z2 Z3 Z4 Z5 Z6 Z7 Z8 Z9 a0 a1 a2 a3 a4 a5 a6 a7 a8 a9 I0 I1 I2 I3 I4 I5 I6 I7 I8 I9 J0 J1 J2 J3 J4 J5 J6 J7 J8 J9 K0 K1 K2:Value),Sst w g gx [.int .i64 kd,.int .i64 ps,.bool mu,.string nm,t0,t1,t2,t3,.bool true,p0,p1,v0,v1,v2,v3,v4,v5,v6,v7,v8,v9,A0,A1,A2,A3,A4,o0,o1,o2,o3,vt,ve] [.int .i64 0,.int .i64 0,.bool mu,.string nm,t0,t1,t2,t3,.bool false,p0,p1,.int .i64 0,.int .i64 0,.int .i64 0,.string ⟨#[]⟩,.slice none 0 0,.int .i64 0,.int .i64 0,.string ⟨#[]⟩,.slice none 0 0,.int .i64 0,.string ⟨#[]⟩,.slice none 0 0,.string ⟨#[]⟩,.slice none 0 0,.slice none 0 0,o0,o1,o2,o3,.slice none 0 0,.slice none 0 0] W'->t.wp Tryz.prog Q { tmps:=#[u0,u1,u2,u3,u4,u5,.pointer (some ⟨g,0,none⟩),.pointer (some ⟨gx,0,none⟩),.bool (bv),.bool false,.bool false,K3,K4,K5,K6,K7,K8,K9,L0,L1,L2,L3,L4,L5,L6,L7,L8,L9,T7,T8,T9,U0,U1,U2,U3,U4,U5,U6,U7,U8,U9,V0,V1,V2,V3,V4,V5,V6,V7,V8,V9,W1,W2,W3,W4,W5,W6,W7,W8,W9,X0,X1,X2,X3,X4,X5,X6,X7,X8,X9,Y0,Y1,Y2,Y3,Y4,Y5,Y6,Y7,Y8,Y9,Z0,Z1,Z2,Z3,Z4,Z5,Z6,Z7,Z8,Z9,a0,a1,a2,a3,a4,a5,a6,a7,a8,a9,I0,I1,I2,I3,I4,I5,I6,I7,I8,I9,J0,J1,J2,J3,J4,J5,J6,J7,J8,J9,K0,K1,K2,A5,A6,A7,A8,A9,B0,B1,B2,B3,B4,B5,B6,B7,B8,B9,C0,C1,C2,C3,C4,C5,C6,C7,C8,C9,D0,D1,D2,D3,D4,D5,D6,D7,D8,D9,E0,E1,E2,E3,E4,E5,E6,E7,E8,E9,F0,F1,F2,F3,F4,F5,F6],defers:=[] } W') :
  Code.wp Tryz.prog (next3 t (innerB ((Tryz.f59.body.bind (blockAt 1)).getD .skip))) Q { tmps:=#[u0,u1,u2,u3,u4,u5,.pointer (some ⟨g,0,none⟩),.pointer (some ⟨gx,0,none⟩),u8,u9,M0,K3,K4,K5,K6,K7,K8,K9,L0,L1,L2,L3,L4,L5,L6,L7,L8,L9,M1,M2,M3,M4,M5,M6,M7,M8,M9,N0,N1,N2,N3,N4,N5,N6,N7,N8,N9,O0,O1,O2,O3,O4,O5,O6,O7,O8,O9,P0,P1,P2,P3,P4,P5,P6,P7,P8,P9,Q0,Q1,Q2,Q3,Q4,Q5,Q6,Q7,Q8,Q9,R0,R1,R2,R3,R4,R5,R6,R7,R8,R9,S4,S5,S6,S7,S8,S9,T0,T1,T2,T3,T4,T5,T6,F7,F8,F9,G0,G1,G2,G3,G4,G5,G6,G7,G8,G9,H0,H1,H2,H3,H4,H5,H6,H7,H8,H9,A5,A6,A7,A8,A9,B0,B1,B2,B3,B4,B5,B6,B7,B8,B9,C0,C1,C2,C3,C4,C5,C6,C7,C8,C9,D0,D1,D2,D3,D4,D5,D6,D7,D8,D9,E0,E1,E2,E3,E4,E5,E6,E7,E8,E9,F0,F1,F2,F3,F4,F5,F6],defers:=[] } W0:=by
 have HQ:=hid hQ
 have S0:=hid hS
 clear hQ hS
 have HV:=hid hV
 clear hV
 have k1:(kd == 1)=false:=by rw [hk];rfl
 have k2:(kd == 2)=false:=by rw [hk];rfl
 have k3:(kd == 3)=false:=by rw [hk];rfl
 have k4:(kd == 4)=false:=by rw [hk];rfl
 have k5:(kd == 5)=false:=by rw [hk];rfl
 have k6:(kd == 6)=false:=by rw [hk];rfl
 have k7:(kd == 7)=false:=by rw [hk];rfl
 have k8:(kd == 8)=false:=by rw [hk];rfl
 have k9:(kd == 9)=false:=by rw [hk];rfl
 have k10:(kd == 10)=true:=by rw [hk];rfl
 have k11:(kd == 11)=false:=by rw [hk];rfl
 clear hk
 conv=>arg 2;whnf
 dsimp only
 have c0:W0.cell? ⟨g,0,none⟩=some (.int .i64 kd):=S0.out.2.2.1.cell 0
 have c8:W0.cell? ⟨g,8,none⟩=some (.bool true):=S0.out.2.2.1.cell 8
 have rg:Hid (W0.rangeAt g 11 [v0,v1,v2,v3,v4,v5,v6,v7,v8,v9,A0,A1,A2,A3,A4]):=S0.out.2.2.1.midr [.int .i64 kd,.int .i64 ps,.bool mu,.string nm,t0,t1,t2,t3,.bool true,p0,p1] [v0,v1,v2,v3,v4,v5,v6,v7,v8,v9,A0,A1,A2,A3,A4] [o0,o1,o2,o3,vt,ve] 11 rfl rfl
 go_wp2_with (refine load_midG rfl 47 (.tmp 116) rfl g 11 rfl _ _ rg.out Tryz.underlying47 rfl (by kernel_rfl) ?_)
 refine (HV.out _ S0.out.2.1).mono ?_
 rintro _ w1 ⟨rfl,b1⟩
 have S1:=hid (S0.out.call b1)
 clear b1
 clear c0 c8 rg
 go_wp2_with (refine store_midL rfl 47 (.tmp 121) (.tmp 120) rfl gx 49 11 [.int .i64 0,.int .i64 0,.bool mu,.string nm,t0,t1,t2,t3,.bool true,p0,p1] [v0,v1,v2,v3,v4,v5,v6,v7,v8,v9,A0,A1,A2,A3,A4] [.int .i64 0,.int .i64 0,.int .i64 0,.string ⟨#[]⟩,.slice none 0 0,.int .i64 0,.int .i64 0,.string ⟨#[]⟩,.slice none 0 0,.int .i64 0,.string ⟨#[]⟩,.slice none 0 0,.string ⟨#[]⟩,.slice none 0 0,.slice none 0 0] _ S1.out.2.2.2 rfl rfl rfl rfl (by kernel_rfl) onV ?_;intro w2 r2 s2;have S2:=hid (Sst.stay S1.out s2 r2);clear r2 s2;have e8:w2.cell? ⟨gx,8,none⟩=some (.bool true):=S2.out.2.2.2.cell 8;have e8z:=S2.out.2.2.2.fz 8;have S3:=hid (S2.out.set 8 (.bool false)))
 exact HQ.out _ _ _ _ _ _ _ _ _ _ _ _ _ _ _ _ _ _ _ _ _ _ _ _ _ _ _ _ _ _ _ _ _ _ _ _ _ _ _ _ _ _ _ _ _ _ _ _ _ _ _ _ _ _ _ _ _ _ _ _ _ _ _ _ _ _ _ _ _ _ _ _ _ _ _ _ _ _ _ _ _ _ _ _ _ _ _ _ _ _ _ _ _ _ _ _ S3.out

set_option maxHeartbeats 16000000 in
set_option maxRecDepth 20000 in
theorem fr_11 {Q:Exit->Act->World->Prop} {t:Code} {w W0:World} {g gx:Nat} {kd ps:Int} {mu has:Bool} {nm:ByteArray} {t0 t1 t2 t3 p0 p1 v0 v1 v2 v3 v4 v5 v6 v7 v8 v9 F2 F3 F4 F5 F6 o0 o1 o2 o3 vt ve:Value} (hS:Sst w g gx [.int .i64 kd,.int .i64 ps,.bool mu,.string nm,t0,t1,t2,t3,.bool has,p0,p1,v0,v1,v2,v3,v4,v5,v6,v7,v8,v9,F2,F3,F4,F5,F6,o0,o1,o2,o3,vt,ve] [.int .i64 0,.int .i64 0,.bool mu,.string nm,t0,t1,t2,t3,.bool has,p0,p1,v0,v1,v2,v3,v4,v5,v6,v7,v8,v9,F2,F3,F4,F5,F6,o0,o1,o2,o3,.slice none 0 0,.slice none 0 0] W0) (hk:kd=11)
  { bp:Bool} (hP:∀ W,Below w.heap.size w W->Calls Tryz.prog 92 #[.agg #[p0,p1]] W (Rb bp W)) {u0 u1 u2 u3 u4 u5 u8 u9 M0 K3 K4 K5 K6 K7 K8 K9 L0 L1 L2 L3 L4 L5 L6 L7 L8 L9 M1 M2 M3 M4 M5 M6 M7 M8 M9 N0 N1 N2 N3 N4 N5 N6 N7 N8 N9 O0 O1 O2 O3 O4 O5 O6 O7 O8 O9 P0 P1 P2 P3 P4 P5 P6 P7 P8 P9 Q0 Q1 Q2 Q3 Q4 Q5 Q6 Q7 Q8 Q9 R0 R1 R2 R3 R4 R5 R6 R7 R8 R9 S3 S4 S5 S6 S7 S8 S9 T0 T1 T2 T3 T4 T5 F7 F8 F9 G0 G1 G2 G3 G4 G5 G6 G7 G8 G9 H0 H1 H2 H3 H4 H5 H6 H7 H8 H9 A0 A1 A2 A3 A4 A5 A6 A7 A8 A9 B0 B1 B2 B3 B4 B5 B6 B7 B8 B9 C0 C1 C2 C3 C4 C5 C6 C7 C8 C9 D0 D1 D2 D3 D4 D5 D6 D7 D8 D9 E0 E1 E2 E3 E4 E5 E6 E7 E8 E9 F0 F1:Value}
  (hQ:∀ (W':World) (T6 T7 T8 T9 U0 U1 U2 U3 U4 U5 U6 U7 U8 U9 V0 V1 V2 V3 V4 V5 V6 V7 V8 V9 W1 W2 W3 W4 W5 W6 W7 W8 W9 X0 X1 X2 X3 X4 X5 X6 X7 X8 X9 Y0 Y1 Y2 Y3 Y4 Y5 Y6 Y7 Y8 Y9 Z0 Z1 Z2 Z3 Z4 Z5 Z6 Z7 Z8 Z9 a0 a1 a2 a3 a4 a5 a6 a7 a8 I0 I1 I2 I3 I4 I5 I6 I7 I8 I9 J0 J1 J2 J3 J4 J5 J6 J7 J8 J9 K0 K1 K2:Value),Sst w g gx [.int .i64 kd,.int .i64 ps,.bool mu,.string nm,t0,t1,t2,t3,.bool has,p0,p1,v0,v1,v2,v3,v4,v5,v6,v7,v8,v9,F2,F3,F4,F5,F6,o0,o1,o2,o3,vt,ve] [.int .i64 0,.int .i64 0,.bool mu,.string nm,t0,t1,t2,t3,.bool has,.string ⟨#[]⟩,.slice none 0 0,v0,v1,v2,v3,v4,v5,v6,v7,v8,v9,F2,F3,F4,F5,F6,o0,o1,o2,o3,.slice none 0 0,.slice none 0 0] W'->t.wp Tryz.prog Q { tmps:=#[u0,u1,u2,u3,u4,u5,.pointer (some ⟨g,0,none⟩),.pointer (some ⟨gx,0,none⟩),.bool (bp),.bool false,.bool false,K3,K4,K5,K6,K7,K8,K9,L0,L1,L2,L3,L4,L5,L6,L7,L8,L9,T6,T7,T8,T9,U0,U1,U2,U3,U4,U5,U6,U7,U8,U9,V0,V1,V2,V3,V4,V5,V6,V7,V8,V9,W1,W2,W3,W4,W5,W6,W7,W8,W9,X0,X1,X2,X3,X4,X5,X6,X7,X8,X9,Y0,Y1,Y2,Y3,Y4,Y5,Y6,Y7,Y8,Y9,Z0,Z1,Z2,Z3,Z4,Z5,Z6,Z7,Z8,Z9,a0,a1,a2,a3,a4,a5,a6,a7,a8,I0,I1,I2,I3,I4,I5,I6,I7,I8,I9,J0,J1,J2,J3,J4,J5,J6,J7,J8,J9,K0,K1,K2,A0,A1,A2,A3,A4,A5,A6,A7,A8,A9,B0,B1,B2,B3,B4,B5,B6,B7,B8,B9,C0,C1,C2,C3,C4,C5,C6,C7,C8,C9,D0,D1,D2,D3,D4,D5,D6,D7,D8,D9,E0,E1,E2,E3,E4,E5,E6,E7,E8,E9,F0,F1],defers:=[] } W') :
  Code.wp Tryz.prog (next3 t (innerB ((Tryz.f59.body.bind (blockAt 1)).getD .skip))) Q { tmps:=#[u0,u1,u2,u3,u4,u5,.pointer (some ⟨g,0,none⟩),.pointer (some ⟨gx,0,none⟩),u8,u9,M0,K3,K4,K5,K6,K7,K8,K9,L0,L1,L2,L3,L4,L5,L6,L7,L8,L9,M1,M2,M3,M4,M5,M6,M7,M8,M9,N0,N1,N2,N3,N4,N5,N6,N7,N8,N9,O0,O1,O2,O3,O4,O5,O6,O7,O8,O9,P0,P1,P2,P3,P4,P5,P6,P7,P8,P9,Q0,Q1,Q2,Q3,Q4,Q5,Q6,Q7,Q8,Q9,R0,R1,R2,R3,R4,R5,R6,R7,R8,R9,S3,S4,S5,S6,S7,S8,S9,T0,T1,T2,T3,T4,T5,F7,F8,F9,G0,G1,G2,G3,G4,G5,G6,G7,G8,G9,H0,H1,H2,H3,H4,H5,H6,H7,H8,H9,A0,A1,A2,A3,A4,A5,A6,A7,A8,A9,B0,B1,B2,B3,B4,B5,B6,B7,B8,B9,C0,C1,C2,C3,C4,C5,C6,C7,C8,C9,D0,D1,D2,D3,D4,D5,D6,D7,D8,D9,E0,E1,E2,E3,E4,E5,E6,E7,E8,E9,F0,F1],defers:=[] } W0:=by
 have HQ:=hid hQ
 have S0:=hid hS
 clear hQ hS
 have HP:=hid hP
 clear hP
 have k1:(kd == 1)=false:=by rw [hk];rfl
 have k2:(kd == 2)=false:=by rw [hk];rfl
 have k3:(kd == 3)=false:=by rw [hk];rfl
 have k4:(kd == 4)=false:=by rw [hk];rfl
 have k5:(kd == 5)=false:=by rw [hk];rfl
 have k6:(kd == 6)=false:=by rw [hk];rfl
 have k7:(kd == 7)=false:=by rw [hk];rfl
 have k8:(kd == 8)=false:=by rw [hk];rfl
 have k9:(kd == 9)=false:=by rw [hk];rfl
 have k10:(kd == 10)=false:=by rw [hk];rfl
 have k11:(kd == 11)=true:=by rw [hk];rfl
 clear hk
 conv=>arg 2;whnf
 dsimp only
 have c0:W0.cell? ⟨g,0,none⟩=some (.int .i64 kd):=S0.out.2.2.1.cell 0
 have d9_0:W0.cell? ⟨g,9,none⟩=some (p0):=S0.out.2.2.1.cell 9
 have d9_1:W0.cell? ⟨g,9+1,none⟩=some (p1):=S0.out.2.2.1.cell 10
 go_wp2_with fail
 refine (HP.out _ S0.out.2.1).mono ?_
 rintro _ w1 ⟨rfl,b1⟩
 have S1:=hid (S0.out.call b1)
 clear b1
 clear c0 d9_0 d9_1
 go_wp2_with (refine store_midL rfl 42 (.tmp 101) (.tmp 100) rfl gx 49 9 [.int .i64 0,.int .i64 0,.bool mu,.string nm,t0,t1,t2,t3,.bool has] [p0,p1] [.string ⟨#[]⟩,.slice none 0 0] _ S1.out.2.2.2 rfl rfl rfl rfl (by kernel_rfl) onP ?_;intro w2 r2 s2;have S2:=hid (Sst.stay S1.out s2 r2);clear r2 s2;have c0:w2.cell? ⟨g,0,none⟩=some (.int .i64 kd):=S2.out.2.2.1.cell 0)
 exact HQ.out _ _ _ _ _ _ _ _ _ _ _ _ _ _ _ _ _ _ _ _ _ _ _ _ _ _ _ _ _ _ _ _ _ _ _ _ _ _ _ _ _ _ _ _ _ _ _ _ _ _ _ _ _ _ _ _ _ _ _ _ _ _ _ _ _ _ _ _ _ _ _ _ _ _ _ _ _ _ _ _ _ _ _ _ _ _ _ _ _ _ _ _ _ _ _ _ S2.out

set_option maxHeartbeats 16000000 in
set_option maxRecDepth 20000 in
theorem fr_0 {Q:Exit->Act->World->Prop} {t:Code} {w W0:World} {g gx:Nat} {kd ps:Int} {mu has:Bool} {nm:ByteArray} {t0 t1 t2 t3 p0 p1 v0 v1 v2 v3 v4 v5 v6 v7 v8 v9 F2 F3 F4 F5 F6 o0 o1 o2 o3 vt ve:Value} (hS:Sst w g gx [.int .i64 kd,.int .i64 ps,.bool mu,.string nm,t0,t1,t2,t3,.bool has,p0,p1,v0,v1,v2,v3,v4,v5,v6,v7,v8,v9,F2,F3,F4,F5,F6,o0,o1,o2,o3,vt,ve] [.int .i64 0,.int .i64 0,.bool mu,.string nm,t0,t1,t2,t3,.bool has,p0,p1,v0,v1,v2,v3,v4,v5,v6,v7,v8,v9,F2,F3,F4,F5,F6,o0,o1,o2,o3,.slice none 0 0,.slice none 0 0] W0) (hk:¬ (1<=kd/\kd<=11))
   {u0 u1 u2 u3 u4 u5 u8 u9 M0 K3 K4 K5 K6 K7 K8 K9 L0 L1 L2 L3 L4 L5 L6 L7 L8 L9 M1 M2 M3 M4 M5 M6 M7 M8 M9 N0 N1 N2 N3 N4 N5 N6 N7 N8 N9 O0 O1 O2 O3 O4 O5 O6 O7 O8 O9 P0 P1 P2 P3 P4 P5 P6 P7 P8 P9 Q0 Q1 Q2 Q3 Q4 Q5 Q6 Q7 Q8 Q9 R0 R1 R2 R3 R4 R5 R6 R7 R8 R9 S1 S2 S3 S4 S5 S6 S7 S8 S9 T0 T1 T2 T3 F7 F8 F9 G0 G1 G2 G3 G4 G5 G6 G7 G8 G9 H0 H1 H2 H3 H4 H5 H6 H7 H8 H9 A0 A1 A2 A3 A4 A5 A6 A7 A8 A9 B0 B1 B2 B3 B4 B5 B6 B7 B8 B9 C0 C1 C2 C3 C4 C5 C6 C7 C8 C9 D0 D1 D2 D3 D4 D5 D6 D7 D8 D9 E0 E1 E2 E3 E4 E5 E6 E7 E8 E9 F0 F1:Value}
  (hQ:∀ (W':World) (T4 T5 T6 T7 T8 T9 U0 U1 U2 U3 U4 U5 U6 U7 U8 U9 V0 V1 V2 V3 V4 V5 V6 V7 V8 V9 W1 W2 W3 W4 W5 W6 W7 W8 W9 X0 X1 X2 X3 X4 X5 X6 X7 X8 X9 Y0 Y1 Y2 Y3 Y4 Y5 Y6 Y7 Y8 Y9 Z0 Z1 Z2 Z3 Z4 Z5 Z6 Z7 Z8 Z9 a0 a1 a2 a3 a4 a5 a6 I0 I1 I2 I3 I4 I5 I6 I7 I8 I9 J0 J1 J2 J3 J4 J5 J6 J7 J8 J9 K0 K1 K2:Value),Sst w g gx [.int .i64 kd,.int .i64 ps,.bool mu,.string nm,t0,t1,t2,t3,.bool has,p0,p1,v0,v1,v2,v3,v4,v5,v6,v7,v8,v9,F2,F3,F4,F5,F6,o0,o1,o2,o3,vt,ve] [.int .i64 0,.int .i64 0,.bool mu,.string nm,t0,t1,t2,t3,.bool has,p0,p1,v0,v1,v2,v3,v4,v5,v6,v7,v8,v9,F2,F3,F4,F5,F6,o0,o1,o2,o3,.slice none 0 0,.slice none 0 0] W'->Q .ret { tmps:=#[u0,u1,u2,u3,.bool false,u5,.pointer (some ⟨g,0,none⟩),.pointer (some ⟨gx,0,none⟩),.bool true,.bool false,.bool false,K3,K4,K5,K6,K7,K8,K9,L0,L1,L2,L3,L4,L5,L6,L7,L8,L9,T4,T5,T6,T7,T8,T9,U0,U1,U2,U3,U4,U5,U6,U7,U8,U9,V0,V1,V2,V3,V4,V5,V6,V7,V8,V9,W1,W2,W3,W4,W5,W6,W7,W8,W9,X0,X1,X2,X3,X4,X5,X6,X7,X8,X9,Y0,Y1,Y2,Y3,Y4,Y5,Y6,Y7,Y8,Y9,Z0,Z1,Z2,Z3,Z4,Z5,Z6,Z7,Z8,Z9,a0,a1,a2,a3,a4,a5,a6,I0,I1,I2,I3,I4,I5,I6,I7,I8,I9,J0,J1,J2,J3,J4,J5,J6,J7,J8,J9,K0,K1,K2,A0,A1,A2,A3,A4,A5,A6,A7,A8,A9,B0,B1,B2,B3,B4,B5,B6,B7,B8,B9,C0,C1,C2,C3,C4,C5,C6,C7,C8,C9,D0,D1,D2,D3,D4,D5,D6,D7,D8,D9,E0,E1,E2,E3,E4,E5,E6,E7,E8,E9,F0,F1],defers:=[] } W') :
  Code.wp Tryz.prog (next3 t (innerB ((Tryz.f59.body.bind (blockAt 1)).getD .skip))) Q { tmps:=#[u0,u1,u2,u3,u4,u5,.pointer (some ⟨g,0,none⟩),.pointer (some ⟨gx,0,none⟩),u8,u9,M0,K3,K4,K5,K6,K7,K8,K9,L0,L1,L2,L3,L4,L5,L6,L7,L8,L9,M1,M2,M3,M4,M5,M6,M7,M8,M9,N0,N1,N2,N3,N4,N5,N6,N7,N8,N9,O0,O1,O2,O3,O4,O5,O6,O7,O8,O9,P0,P1,P2,P3,P4,P5,P6,P7,P8,P9,Q0,Q1,Q2,Q3,Q4,Q5,Q6,Q7,Q8,Q9,R0,R1,R2,R3,R4,R5,R6,R7,R8,R9,S1,S2,S3,S4,S5,S6,S7,S8,S9,T0,T1,T2,T3,F7,F8,F9,G0,G1,G2,G3,G4,G5,G6,G7,G8,G9,H0,H1,H2,H3,H4,H5,H6,H7,H8,H9,A0,A1,A2,A3,A4,A5,A6,A7,A8,A9,B0,B1,B2,B3,B4,B5,B6,B7,B8,B9,C0,C1,C2,C3,C4,C5,C6,C7,C8,C9,D0,D1,D2,D3,D4,D5,D6,D7,D8,D9,E0,E1,E2,E3,E4,E5,E6,E7,E8,E9,F0,F1],defers:=[] } W0:=by
 have HQ:=hid hQ
 have S0:=hid hS
 clear hQ hS
 have k1:(kd == 1)=false:=by simp;omega
 have k2:(kd == 2)=false:=by simp;omega
 have k3:(kd == 3)=false:=by simp;omega
 have k4:(kd == 4)=false:=by simp;omega
 have k5:(kd == 5)=false:=by simp;omega
 have k6:(kd == 6)=false:=by simp;omega
 have k7:(kd == 7)=false:=by simp;omega
 have k8:(kd == 8)=false:=by simp;omega
 have k9:(kd == 9)=false:=by simp;omega
 have k10:(kd == 10)=false:=by simp;omega
 have k11:(kd == 11)=false:=by simp;omega
 clear hk
 conv=>arg 2;whnf
 dsimp only
 have c0:W0.cell? ⟨g,0,none⟩=some (.int .i64 kd):=S0.out.2.2.1.cell 0
 go_wp2_with fail
 exact HQ.out _ _ _ _ _ _ _ _ _ _ _ _ _ _ _ _ _ _ _ _ _ _ _ _ _ _ _ _ _ _ _ _ _ _ _ _ _ _ _ _ _ _ _ _ _ _ _ _ _ _ _ _ _ _ _ _ _ _ _ _ _ _ _ _ _ _ _ _ _ _ _ _ _ _ _ _ _ _ _ _ _ _ _ _ _ _ _ _ _ _ _ _ _ _ _ _ S0.out

set_option maxHeartbeats 16000000 in
set_option maxRecDepth 20000 in
theorem fr_1v {Q:Exit->Act->World->Prop} {t:Code} {w W0:World} {g gx:Nat} {kd ps:Int} {mu:Bool} {nm:ByteArray} {t0 t1 t2 t3 p0 p1 v0 v1 v2 v3 v4 v5 v6 v7 v8 v9 A0 A1 A2 A3 A4 o0 o1 o2 o3 vt ve:Value} (hS:Sst w g gx [.int .i64 kd,.int .i64 ps,.bool mu,.string nm,t0,t1,t2,t3,.bool true,p0,p1,v0,v1,v2,v3,v4,v5,v6,v7,v8,v9,A0,A1,A2,A3,A4,o0,o1,o2,o3,vt,ve] [.int .i64 0,.int .i64 0,.bool mu,.string nm,t0,t1,t2,t3,.bool true,p0,p1,v0,v1,v2,v3,v4,v5,v6,v7,v8,v9,A0,A1,A2,A3,A4,o0,o1,o2,o3,.slice none 0 0,.slice none 0 0] W0) (hk:kd=1)
  { bn bt bv:Bool} (hN:∀ W,Below w.heap.size w W->Calls Tryz.prog 26 #[.string nm] W (Rb bn W)) (hT:∀ W,Below w.heap.size w W->Calls Tryz.prog 58 #[.agg #[t0,t1,t2,t3],.int .i64 1] W (Rb bt W)) (hV:∀ W,Below w.heap.size w W->Calls Tryz.prog 93 #[.agg #[v0,v1,v2,v3,v4,v5,v6,v7,v8,v9,A0,A1,A2,A3,A4]] W (Rb bv W)) {u0 u1 u2 u3 u4 u5 u8 u9 M0 K3 K4 K5 K6 K7 K8 K9 L0 L1 L2 L3 L4 L5 L6 L7 L8 L9 M1 M2 M3 M4 M5 M6 M7 M8 M9 N0 N1 N2 N3 N4 N5 N6 N7 N8 N9 O0 O1 O2 O3 O4 O5 O6 O7 O8 O9 P0 P1 P2 P3 P4 P5 P6 P7 P8 P9 Q0 Q1 Q2 Q3 Q4 Q5 Q6 Q7 Q8 Q9 R0 R1 R2 R3 R4 R5 R6 R7 R8 R9 S9 T0 T1 T2 T3 T4 T5 T6 T7 T8 T9 U0 U1 F7 F8 F9 G0 G1 G2 G3 G4 G5 G6 G7 G8 G9 H0 H1 H2 H3 H4 H5 H6 H7 H8 H9 A5 A6 A7 A8 A9 B0 B1 B2 B3 B4 B5 B6 B7 B8 B9 C0 C1 C2 C3 C4 C5 C6 C7 C8 C9 D0 D1 D2 D3 D4 D5 D6 D7 D8 D9 E0 E1 E2 E3 E4 E5 E6 E7 E8 E9 F0 F1 F2 F3 F4 F5 F6:Value}
  (hQ:∀ (W':World) (U2 U3 U4 U5 U6 U7 U8 U9 V0 V1 V2 V3 V4 V5 V6 V7 V8 V9 W1 W2 W3 W4 W5 W6 W7 W8 W9 X0 X1 X2 X3 X4 X5 X6 X7 X8 X9 Y0 Y1 Y2 Y3 Y4 Y5 Y6 Y7 Y8 Y9 Z0 Z1 Z2 Z3 Z4 Z5 Z6 Z7 Z8 Z9 a0 a1 a2 a3 a4 a5 a6 a7 a8 a9 b0 b3 b4 b5 b7 I0 I1 I2 I3 I4 I5 I6 I7 I8 I9 J0 J1 J2 J3 J4 J5 J6 J7 J8 J9 K0 K1 K2:Value),Sst w g gx [.int .i64 kd,.int .i64 ps,.bool mu,.string nm,t0,t1,t2,t3,.bool true,p0,p1,v0,v1,v2,v3,v4,v5,v6,v7,v8,v9,A0,A1,A2,A3,A4,o0,o1,o2,o3,vt,ve] [.int .i64 0,.int .i64 0,.bool false,.string ⟨#[]⟩,.int .i64 0,.string ⟨#[]⟩,.slice none 0 0,.slice none 0 0,.bool false,p0,p1,.int .i64 0,.int .i64 0,.int .i64 0,.string ⟨#[]⟩,.slice none 0 0,.int .i64 0,.int .i64 0,.string ⟨#[]⟩,.slice none 0 0,.int .i64 0,.string ⟨#[]⟩,.slice none 0 0,.string ⟨#[]⟩,.slice none 0 0,.slice none 0 0,o0,o1,o2,o3,.slice none 0 0,.slice none 0 0] W'->t.wp Tryz.prog Q { tmps:=#[u0,u1,u2,u3,u4,u5,.pointer (some ⟨g,0,none⟩),.pointer (some ⟨gx,0,none⟩),.bool (bn && (bt && bv)),.bool false,.bool false,K3,K4,K5,K6,K7,K8,K9,L0,L1,L2,L3,L4,L5,L6,L7,L8,L9,U2,U3,U4,U5,U6,U7,U8,U9,V0,V1,V2,V3,V4,V5,V6,V7,V8,V9,W1,W2,W3,W4,W5,W6,W7,W8,W9,X0,X1,X2,X3,X4,X5,X6,X7,X8,X9,Y0,Y1,Y2,Y3,Y4,Y5,Y6,Y7,Y8,Y9,Z0,Z1,Z2,Z3,Z4,Z5,Z6,Z7,Z8,Z9,a0,a1,a2,a3,a4,a5,a6,a7,a8,a9,b0,b3,b4,b5,b7,I0,I1,I2,I3,I4,I5,I6,I7,I8,I9,J0,J1,J2,J3,J4,J5,J6,J7,J8,J9,K0,K1,K2,A5,A6,A7,A8,A9,B0,B1,B2,B3,B4,B5,B6,B7,B8,B9,C0,C1,C2,C3,C4,C5,C6,C7,C8,C9,D0,D1,D2,D3,D4,D5,D6,D7,D8,D9,E0,E1,E2,E3,E4,E5,E6,E7,E8,E9,F0,F1,F2,F3,F4,F5,F6],defers:=[] } W') :
  Code.wp Tryz.prog (next3 t (innerB ((Tryz.f59.body.bind (blockAt 1)).getD .skip))) Q { tmps:=#[u0,u1,u2,u3,u4,u5,.pointer (some ⟨g,0,none⟩),.pointer (some ⟨gx,0,none⟩),u8,u9,M0,K3,K4,K5,K6,K7,K8,K9,L0,L1,L2,L3,L4,L5,L6,L7,L8,L9,M1,M2,M3,M4,M5,M6,M7,M8,M9,N0,N1,N2,N3,N4,N5,N6,N7,N8,N9,O0,O1,O2,O3,O4,O5,O6,O7,O8,O9,P0,P1,P2,P3,P4,P5,P6,P7,P8,P9,Q0,Q1,Q2,Q3,Q4,Q5,Q6,Q7,Q8,Q9,R0,R1,R2,R3,R4,R5,R6,R7,R8,R9,S9,T0,T1,T2,T3,T4,T5,T6,T7,T8,T9,U0,U1,F7,F8,F9,G0,G1,G2,G3,G4,G5,G6,G7,G8,G9,H0,H1,H2,H3,H4,H5,H6,H7,H8,H9,A5,A6,A7,A8,A9,B0,B1,B2,B3,B4,B5,B6,B7,B8,B9,C0,C1,C2,C3,C4,C5,C6,C7,C8,C9,D0,D1,D2,D3,D4,D5,D6,D7,D8,D9,E0,E1,E2,E3,E4,E5,E6,E7,E8,E9,F0,F1,F2,F3,F4,F5,F6],defers:=[] } W0:=by
 have HQ:=hid hQ
 have S0:=hid hS
 clear hQ hS
 have HN:=hid hN
 clear hN
 have HT:=hid hT
 clear hT
 have HV:=hid hV
 clear hV
 have k1:(kd == 1)=true:=by rw [hk];rfl
 have k2:(kd == 2)=false:=by rw [hk];rfl
 have k3:(kd == 3)=false:=by rw [hk];rfl
 have k4:(kd == 4)=false:=by rw [hk];rfl
 have k5:(kd == 5)=false:=by rw [hk];rfl
 have k6:(kd == 6)=false:=by rw [hk];rfl
 have k7:(kd == 7)=false:=by rw [hk];rfl
 have k8:(kd == 8)=false:=by rw [hk];rfl
 have k9:(kd == 9)=false:=by rw [hk];rfl
 have k10:(kd == 10)=false:=by rw [hk];rfl
 have k11:(kd == 11)=false:=by rw [hk];rfl
 clear hk
 conv=>arg 2;whnf
 dsimp only
 have c0:W0.cell? ⟨g,0,none⟩=some (.int .i64 kd):=S0.out.2.2.1.cell 0
 have d3:W0.cell? ⟨g,3,none⟩=some (.string nm):=S0.out.2.2.1.cell 3
 go_wp2_with fail
 refine (HN.out _ S0.out.2.1).mono ?_
 rintro _ w1 ⟨rfl,b1⟩
 have S1:=hid (S0.out.call b1)
 clear b1
 clear c0 d3
 cases bn with
 | false =>
  have e2:w1.cell? ⟨gx,2,none⟩=some (.bool mu):=S1.out.2.2.2.cell 2
  have e2z:=S1.out.2.2.2.fz 2
  have S2:=hid (S1.out.set 2 (.bool false))
  have e3:(w1.setCell ⟨gx,2,none⟩ (.bool false)).cell? ⟨gx,3,none⟩=some (.string nm):=S2.out.2.2.2.cell 3
  have e3z:=S2.out.2.2.2.fz 3
  have S3:=hid (S2.out.set 3 (.string ⟨#[]⟩))
  go_wp2_with (first|(refine store_midL rfl 31 (.tmp 43) (.tmp 40) rfl gx 49 4 [.int .i64 0,.int .i64 0,.bool false,.string ⟨#[]⟩] [t0,t1,t2,t3] [.int .i64 0,.string ⟨#[]⟩,.slice none 0 0,.slice none 0 0] _ S3.out.2.2.2 rfl rfl rfl rfl (by kernel_rfl) onT ?_;intro w4 r4 s4;have S4:=hid (Sst.stay S3.out s4 r4);clear r4 s4;have c0:w4.cell? ⟨g,0,none⟩=some (.int .i64 kd):=S4.out.2.2.1.cell 0;have c8:w4.cell? ⟨g,8,none⟩=some (.bool true):=S4.out.2.2.1.cell 8;skip)|(refine store_midL rfl 47 (.tmp 121) (.tmp 120) rfl gx 49 11 [.int .i64 0,.int .i64 0,.bool false,.string ⟨#[]⟩,.int .i64 0,.string ⟨#[]⟩,.slice none 0 0,.slice none 0 0,.bool true,p0,p1] [v0,v1,v2,v3,v4,v5,v6,v7,v8,v9,A0,A1,A2,A3,A4] [.int .i64 0,.int .i64 0,.int .i64 0,.string ⟨#[]⟩,.slice none 0 0,.int .i64 0,.int .i64 0,.string ⟨#[]⟩,.slice none 0 0,.int .i64 0,.string ⟨#[]⟩,.slice none 0 0,.string ⟨#[]⟩,.slice none 0 0,.slice none 0 0] _ S4.out.2.2.2 rfl rfl rfl rfl (by kernel_rfl) onV ?_;intro w5 r5 s5;have S5:=hid (Sst.stay S4.out s5 r5);clear r5 s5;have e8:w5.cell? ⟨gx,8,none⟩=some (.bool true):=S5.out.2.2.2.cell 8;have e8z:=S5.out.2.2.2.fz 8;have S6:=hid (S5.out.set 8 (.bool false))))
  exact HQ.out _ _ _ _ _ _ _ _ _ _ _ _ _ _ _ _ _ _ _ _ _ _ _ _ _ _ _ _ _ _ _ _ _ _ _ _ _ _ _ _ _ _ _ _ _ _ _ _ _ _ _ _ _ _ _ _ _ _ _ _ _ _ _ _ _ _ _ _ _ _ _ _ _ _ _ _ _ _ _ _ _ _ _ _ _ _ _ _ _ _ _ _ _ _ _ _ S6.out
 | true =>
  have d4_0:w1.cell? ⟨g,4,none⟩=some (t0):=S1.out.2.2.1.cell 4
  have d4_1:w1.cell? ⟨g,4+1,none⟩=some (t1):=S1.out.2.2.1.cell 5
  have d4_2:w1.cell? ⟨g,4+2,none⟩=some (t2):=S1.out.2.2.1.cell 6
  have d4_3:w1.cell? ⟨g,4+3,none⟩=some (t3):=S1.out.2.2.1.cell 7
  go_wp2_with fail
  refine (HT.out _ S1.out.2.1).mono ?_
  rintro _ w2 ⟨rfl,b2⟩
  have S2:=hid (S1.out.call b2)
  clear b2
  clear d4_0 d4_1 d4_2 d4_3
  cases bt with
  | false =>
   have e2:w2.cell? ⟨gx,2,none⟩=some (.bool mu):=S2.out.2.2.2.cell 2
   have e2z:=S2.out.2.2.2.fz 2
   have S3:=hid (S2.out.set 2 (.bool false))
   have e3:(w2.setCell ⟨gx,2,none⟩ (.bool false)).cell? ⟨gx,3,none⟩=some (.string nm):=S3.out.2.2.2.cell 3
   have e3z:=S3.out.2.2.2.fz 3
   have S4:=hid (S3.out.set 3 (.string ⟨#[]⟩))
   go_wp2_with (first|(refine store_midL rfl 31 (.tmp 43) (.tmp 40) rfl gx 49 4 [.int .i64 0,.int .i64 0,.bool false,.string ⟨#[]⟩] [t0,t1,t2,t3] [.int .i64 0,.string ⟨#[]⟩,.slice none 0 0,.slice none 0 0] _ S4.out.2.2.2 rfl rfl rfl rfl (by kernel_rfl) onT ?_;intro w5 r5 s5;have S5:=hid (Sst.stay S4.out s5 r5);clear r5 s5;have c0:w5.cell? ⟨g,0,none⟩=some (.int .i64 kd):=S5.out.2.2.1.cell 0;have c8:w5.cell? ⟨g,8,none⟩=some (.bool true):=S5.out.2.2.1.cell 8;skip)|(refine store_midL rfl 47 (.tmp 121) (.tmp 120) rfl gx 49 11 [.int .i64 0,.int .i64 0,.bool false,.string ⟨#[]⟩,.int .i64 0,.string ⟨#[]⟩,.slice none 0 0,.slice none 0 0,.bool true,p0,p1] [v0,v1,v2,v3,v4,v5,v6,v7,v8,v9,A0,A1,A2,A3,A4] [.int .i64 0,.int .i64 0,.int .i64 0,.string ⟨#[]⟩,.slice none 0 0,.int .i64 0,.int .i64 0,.string ⟨#[]⟩,.slice none 0 0,.int .i64 0,.string ⟨#[]⟩,.slice none 0 0,.string ⟨#[]⟩,.slice none 0 0,.slice none 0 0] _ S5.out.2.2.2 rfl rfl rfl rfl (by kernel_rfl) onV ?_;intro w6 r6 s6;have S6:=hid (Sst.stay S5.out s6 r6);clear r6 s6;have e8:w6.cell? ⟨gx,8,none⟩=some (.bool true):=S6.out.2.2.2.cell 8;have e8z:=S6.out.2.2.2.fz 8;have S7:=hid (S6.out.set 8 (.bool false))))
   exact HQ.out _ _ _ _ _ _ _ _ _ _ _ _ _ _ _ _ _ _ _ _ _ _ _ _ _ _ _ _ _ _ _ _ _ _ _ _ _ _ _ _ _ _ _ _ _ _ _ _ _ _ _ _ _ _ _ _ _ _ _ _ _ _ _ _ _ _ _ _ _ _ _ _ _ _ _ _ _ _ _ _ _ _ _ _ _ _ _ _ _ _ _ _ _ _ _ _ S7.out
  | true =>
   have e2:w2.cell? ⟨gx,2,none⟩=some (.bool mu):=S2.out.2.2.2.cell 2
   have e2z:=S2.out.2.2.2.fz 2
   have S3:=hid (S2.out.set 2 (.bool false))
   have e3:(w2.setCell ⟨gx,2,none⟩ (.bool false)).cell? ⟨gx,3,none⟩=some (.string nm):=S3.out.2.2.2.cell 3
   have e3z:=S3.out.2.2.2.fz 3
   have S4:=hid (S3.out.set 3 (.string ⟨#[]⟩))
   go_wp2_with (first|(refine store_midL rfl 31 (.tmp 43) (.tmp 40) rfl gx 49 4 [.int .i64 0,.int .i64 0,.bool false,.string ⟨#[]⟩] [t0,t1,t2,t3] [.int .i64 0,.string ⟨#[]⟩,.slice none 0 0,.slice none 0 0] _ S4.out.2.2.2 rfl rfl rfl rfl (by kernel_rfl) onT ?_;intro w5 r5 s5;have S5:=hid (Sst.stay S4.out s5 r5);clear r5 s5;have c0:w5.cell? ⟨g,0,none⟩=some (.int .i64 kd):=S5.out.2.2.1.cell 0;have c8:w5.cell? ⟨g,8,none⟩=some (.bool true):=S5.out.2.2.1.cell 8;have rg:Hid (w5.rangeAt g 11 [v0,v1,v2,v3,v4,v5,v6,v7,v8,v9,A0,A1,A2,A3,A4]):=S5.out.2.2.1.midr [.int .i64 kd,.int .i64 ps,.bool mu,.string nm,t0,t1,t2,t3,.bool true,p0,p1] [v0,v1,v2,v3,v4,v5,v6,v7,v8,v9,A0,A1,A2,A3,A4] [o0,o1,o2,o3,vt,ve] 11 rfl rfl)|(refine load_midG rfl 47 (.tmp 116) rfl g 11 rfl _ _ rg.out Tryz.underlying47 rfl (by kernel_rfl) ?_))
   refine (HV.out _ S5.out.2.1).mono ?_
   rintro _ w6 ⟨rfl,b6⟩
   have S6:=hid (S5.out.call b6)
   clear b6
   clear rg c0 c8
   go_wp2_with (refine store_midL rfl 47 (.tmp 121) (.tmp 120) rfl gx 49 11 [.int .i64 0,.int .i64 0,.bool false,.string ⟨#[]⟩,.int .i64 0,.string ⟨#[]⟩,.slice none 0 0,.slice none 0 0,.bool true,p0,p1] [v0,v1,v2,v3,v4,v5,v6,v7,v8,v9,A0,A1,A2,A3,A4] [.int .i64 0,.int .i64 0,.int .i64 0,.string ⟨#[]⟩,.slice none 0 0,.int .i64 0,.int .i64 0,.string ⟨#[]⟩,.slice none 0 0,.int .i64 0,.string ⟨#[]⟩,.slice none 0 0,.string ⟨#[]⟩,.slice none 0 0,.slice none 0 0] _ S6.out.2.2.2 rfl rfl rfl rfl (by kernel_rfl) onV ?_;intro w7 r7 s7;have S7:=hid (Sst.stay S6.out s7 r7);clear r7 s7;have e8:w7.cell? ⟨gx,8,none⟩=some (.bool true):=S7.out.2.2.2.cell 8;have e8z:=S7.out.2.2.2.fz 8;have S8:=hid (S7.out.set 8 (.bool false)))
   exact HQ.out _ _ _ _ _ _ _ _ _ _ _ _ _ _ _ _ _ _ _ _ _ _ _ _ _ _ _ _ _ _ _ _ _ _ _ _ _ _ _ _ _ _ _ _ _ _ _ _ _ _ _ _ _ _ _ _ _ _ _ _ _ _ _ _ _ _ _ _ _ _ _ _ _ _ _ _ _ _ _ _ _ _ _ _ _ _ _ _ _ _ _ _ _ _ _ _ S8.out
end Go.Proofs.YtjenmmkamhplkaaGreat
