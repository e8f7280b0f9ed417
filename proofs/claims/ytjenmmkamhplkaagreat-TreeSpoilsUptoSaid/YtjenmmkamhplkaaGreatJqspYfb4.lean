/- Part of the proof. -/
import Derived.Test.YtjenmmkamhplkaaGreatJqspYf02
namespace Go.Proofs.YtjenmmkamhplkaaGreat
open Go.RowKit
set_option maxHeartbeats 16000000 in
set_option maxRecDepth 20000 in
theorem fr_2 {Q:Exit->Act->World->Prop} {t:Code} {w W0:World} {g gx:Nat} {kd ps:Int} {mu has:Bool} {nm:ByteArray} {t0 t1 t2 t3 p0 p1 v0 v1 v2 v3 v4 v5 v6 v7 v8 v9 A0 A1 A2 A3 A4 o0 o1 o2 o3 vt ve:Value} (hS:Sst w g gx [.int .i64 kd,.int .i64 ps,.bool mu,.string nm,t0,t1,t2,t3,.bool has,p0,p1,v0,v1,v2,v3,v4,v5,v6,v7,v8,v9,A0,A1,A2,A3,A4,o0,o1,o2,o3,vt,ve] [.int .i64 0,.int .i64 0,.bool mu,.string nm,t0,t1,t2,t3,.bool has,p0,p1,v0,v1,v2,v3,v4,v5,v6,v7,v8,v9,A0,A1,A2,A3,A4,o0,o1,o2,o3,.slice none 0 0,.slice none 0 0] W0) (hk:kd=2)
  { bp bv:Bool} (hP:∀ W,Below w.heap.size w W->Calls Tryz.prog 92 #[.agg #[p0,p1]] W (Rb bp W)) (hV:∀ W,Below w.heap.size w W->Calls Tryz.prog 93 #[.agg #[v0,v1,v2,v3,v4,v5,v6,v7,v8,v9,A0,A1,A2,A3,A4]] W (Rb bv W)) {u0 u1 u2 u3 u4 u5 u8 u9 M0 K3 K4 K5 K6 K7 K8 K9 L0 L1 L2 L3 L4 L5 L6 L7 L8 L9 M1 M2 M3 M4 M5 M6 M7 M8 M9 N0 N1 N2 N3 N4 N5 N6 N7 N8 N9 O0 O1 O2 O3 O4 O5 O6 O7 O8 O9 P0 P1 P2 P3 P4 P5 P6 P7 P8 P9 Q0 Q1 Q2 Q3 Q4 Q5 Q6 Q7 Q8 Q9 R0 R1 R2 R3 R4 R5 R6 R7 R8 R9 S5 S6 S7 S8 S9 T0 T1 T2 T3 T4 T5 T6 T7 F7 F8 F9 G0 G1 G2 G3 G4 G5 G6 G7 G8 G9 H0 H1 H2 H3 H4 H5 H6 H7 H8 H9 A5 A6 A7 A8 A9 B0 B1 B2 B3 B4 B5 B6 B7 B8 B9 C0 C1 C2 C3 C4 C5 C6 C7 C8 C9 D0 D1 D2 D3 D4 D5 D6 D7 D8 D9 E0 E1 E2 E3 E4 E5 E6 E7 E8 E9 F0 F1 F2 F3 F4 F5 F6:Value}
  (hQ:∀ (W':World) (T8 T9 U0 U1 U2 U3 U4 U5 U6 U7 U8 U9 V0 V1 V2 V3 V4 V5 V6 V7 V8 V9 W1 W2 W3 W4 W5 W6 W7 W8 W9 X0 X1 X2 X3 X4 X5 X6 X7 X8 X9 Y0 Y1 Y2 Y3 Y4 Y5 Y6 Y7 Y8 Y9 Z0 Z1 Z2 Z3 Z4 Z5 Z6 Z7 Z8 Z9 a0 a1 a2 a3 a4 a5 a6 a7 a8 a9 b0 I0 I1 I2 I3 I4 I5 I6 I7 I8 I9 J0 J1 J2 J3 J4 J5 J6 J7 J8 J9 K0 K1 K2:Value),Sst w g gx [.int .i64 kd,.int .i64 ps,.bool mu,.string nm,t0,t1,t2,t3,.bool has,p0,p1,v0,v1,v2,v3,v4,v5,v6,v7,v8,v9,A0,A1,A2,A3,A4,o0,o1,o2,o3,vt,ve] [.int .i64 0,.int .i64 0,.bool mu,.string nm,t0,t1,t2,t3,.bool has,.string ⟨#[]⟩,.slice none 0 0,.int .i64 0,.int .i64 0,.int .i64 0,.string ⟨#[]⟩,.slice none 0 0,.int .i64 0,.int .i64 0,.string ⟨#[]⟩,.slice none 0 0,.int .i64 0,.string ⟨#[]⟩,.slice none 0 0,.string ⟨#[]⟩,.slice none 0 0,.slice none 0 0,o0,o1,o2,o3,.slice none 0 0,.slice none 0 0] W'->t.wp Tryz.prog Q { tmps:=#[u0,u1,u2,u3,u4,u5,.pointer (some ⟨g,0,none⟩),.pointer (some ⟨gx,0,none⟩),.bool (bp && bv),.bool false,.bool false,K3,K4,K5,K6,K7,K8,K9,L0,L1,L2,L3,L4,L5,L6,L7,L8,L9,T8,T9,U0,U1,U2,U3,U4,U5,U6,U7,U8,U9,V0,V1,V2,V3,V4,V5,V6,V7,V8,V9,W1,W2,W3,W4,W5,W6,W7,W8,W9,X0,X1,X2,X3,X4,X5,X6,X7,X8,X9,Y0,Y1,Y2,Y3,Y4,Y5,Y6,Y7,Y8,Y9,Z0,Z1,Z2,Z3,Z4,Z5,Z6,Z7,Z8,Z9,a0,a1,a2,a3,a4,a5,a6,a7,a8,a9,b0,I0,I1,I2,I3,I4,I5,I6,I7,I8,I9,J0,J1,J2,J3,J4,J5,J6,J7,J8,J9,K0,K1,K2,A5,A6,A7,A8,A9,B0,B1,B2,B3,B4,B5,B6,B7,B8,B9,C0,C1,C2,C3,C4,C5,C6,C7,C8,C9,D0,D1,D2,D3,D4,D5,D6,D7,D8,D9,E0,E1,E2,E3,E4,E5,E6,E7,E8,E9,F0,F1,F2,F3,F4,F5,F6],defers:=[] } W') :
  Code.wp Tryz.prog (next3 t (innerB ((Tryz.f59.body.bind (blockAt 1)).getD .skip))) Q { tmps:=#[u0,u1,u2,u3,u4,u5,.pointer (some ⟨g,0,none⟩),.pointer (some ⟨gx,0,none⟩),u8,u9,M0,K3,K4,K5,K6,K7,K8,K9,L0,L1,L2,L3,L4,L5,L6,L7,L8,L9,M1,M2,M3,M4,M5,M6,M7,M8,M9,N0,N1,N2,N3,N4,N5,N6,N7,N8,N9,O0,O1,O2,O3,O4,O5,O6,O7,O8,O9,P0,P1,P2,P3,P4,P5,P6,P7,P8,P9,Q0,Q1,Q2,Q3,Q4,Q5,Q6,Q7,Q8,Q9,R0,R1,R2,R3,R4,R5,R6,R7,R8,R9,S5,S6,S7,S8,S9,T0,T1,T2,T3,T4,T5,T6,T7,F7,F8,F9,G0,G1,G2,G3,G4,G5,G6,G7,G8,G9,H0,H1,H2,H3,H4,H5,H6,H7,H8,H9,A5,A6,A7,A8,A9,B0,B1,B2,B3,B4,B5,B6,B7,B8,B9,C0,C1,C2,C3,C4,C5,C6,C7,C8,C9,D0,D1,D2,D3,D4,D5,D6,D7,D8,D9,E0,E1,E2,E3,E4,E5,E6,E7,E8,E9,F0,F1,F2,F3,F4,F5,F6],defers:=[] } W0:=by
 have HQ:=hid hQ
 have S0:=hid hS
 clear hQ hS
 have HP:=hid hP
 clear hP
 have HV:=hid hV
 clear hV
 have k1:(kd == 1)=false:=by rw [hk];rfl
 have k2:(kd == 2)=true:=by rw [hk];rfl
 have k3:(kd == 3)=false:=by rw [hk];rfl
 have k4:(kd == 4)=false:=by rw [hk];rfl
 have k5:(kd == 5)=false:=by rw [hk];rfl
 have k6:(kd == 6)=false:=by rw [hk];rfl
 have k7:(kd == 7)=false:=by rw [hk];rfl
 have k8:(kd == 8)=false:=by rw [hk];rfl
 have k9:(kd == 9)=false:=by rw [hk];rfl
 have k10:(kd == 10)=false:=by rw [hk];rfl
 have k11:(kd == 11)=false:=by rw [hk];rfl
 clear hk
 conv=>arg 2;whnf
 dsimp only
 have c0:W0.cell? ⟨g,0,none⟩=some (.int .i64 kd):=S0.out.2.2.1.cell 0
 have d9_0:W0.cell? ⟨g,9,none⟩=some (p0):=S0.out.2.2.1.cell 9
 have d9_1:W0.cell? ⟨g,9+1,none⟩=some (p1):=S0.out.2.2.1.cell 10
 go_wp2_with fail
 refine (HP.out _ S0.out.2.1).mono ?_
 rintro _ w1 ⟨rfl,b1⟩
 have S1:=hid (S0.out.call b1)
 clear b1
 clear c0 d9_0 d9_1
 cases bp with
 | false =>
  go_wp2_with (first|(refine store_midL rfl 42 (.tmp 56) (.tmp 54) rfl gx 49 9 [.int .i64 0,.int .i64 0,.bool mu,.string nm,t0,t1,t2,t3,.bool has] [p0,p1] [.string ⟨#[]⟩,.slice none 0 0] _ S1.out.2.2.2 rfl rfl rfl rfl (by kernel_rfl) onP ?_;intro w2 r2 s2;have S2:=hid (Sst.stay S1.out s2 r2);clear r2 s2;skip)|(refine store_midL rfl 47 (.tmp 57) (.tmp 55) rfl gx 49 11 [.int .i64 0,.int .i64 0,.bool mu,.string nm,t0,t1,t2,t3,.bool has,.string ⟨#[]⟩,.slice none 0 0] [v0,v1,v2,v3,v4,v5,v6,v7,v8,v9,A0,A1,A2,A3,A4] [.int .i64 0,.int .i64 0,.int .i64 0,.string ⟨#[]⟩,.slice none 0 0,.int .i64 0,.int .i64 0,.string ⟨#[]⟩,.slice none 0 0,.int .i64 0,.string ⟨#[]⟩,.slice none 0 0,.string ⟨#[]⟩,.slice none 0 0,.slice none 0 0] _ S2.out.2.2.2 rfl rfl rfl rfl (by kernel_rfl) onV ?_;intro w3 r3 s3;have S3:=hid (Sst.stay S2.out s3 r3);clear r3 s3;have c0:w3.cell? ⟨g,0,none⟩=some (.int .i64 kd):=S3.out.2.2.1.cell 0))
  exact HQ.out _ _ _ _ _ _ _ _ _ _ _ _ _ _ _ _ _ _ _ _ _ _ _ _ _ _ _ _ _ _ _ _ _ _ _ _ _ _ _ _ _ _ _ _ _ _ _ _ _ _ _ _ _ _ _ _ _ _ _ _ _ _ _ _ _ _ _ _ _ _ _ _ _ _ _ _ _ _ _ _ _ _ _ _ _ _ _ _ _ _ _ _ _ _ _ _ S3.out
 | true =>
  have rg:Hid (w1.rangeAt g 11 [v0,v1,v2,v3,v4,v5,v6,v7,v8,v9,A0,A1,A2,A3,A4]):=S1.out.2.2.1.midr [.int .i64 kd,.int .i64 ps,.bool mu,.string nm,t0,t1,t2,t3,.bool has,p0,p1] [v0,v1,v2,v3,v4,v5,v6,v7,v8,v9,A0,A1,A2,A3,A4] [o0,o1,o2,o3,vt,ve] 11 rfl rfl
  go_wp2_with (refine load_midG rfl 47 (.tmp 50) rfl g 11 rfl _ _ rg.out Tryz.underlying47 rfl (by kernel_rfl) ?_)
  refine (HV.out _ S1.out.2.1).mono ?_
  rintro _ w2 ⟨rfl,b2⟩
  have S2:=hid (S1.out.call b2)
  clear b2
  clear rg
  go_wp2_with (first|(refine store_midL rfl 42 (.tmp 56) (.tmp 54) rfl gx 49 9 [.int .i64 0,.int .i64 0,.bool mu,.string nm,t0,t1,t2,t3,.bool has] [p0,p1] [.string ⟨#[]⟩,.slice none 0 0] _ S2.out.2.2.2 rfl rfl rfl rfl (by kernel_rfl) onP ?_;intro w3 r3 s3;have S3:=hid (Sst.stay S2.out s3 r3);clear r3 s3;skip)|(refine store_midL rfl 47 (.tmp 57) (.tmp 55) rfl gx 49 11 [.int .i64 0,.int .i64 0,.bool mu,.string nm,t0,t1,t2,t3,.bool has,.string ⟨#[]⟩,.slice none 0 0] [v0,v1,v2,v3,v4,v5,v6,v7,v8,v9,A0,A1,A2,A3,A4] [.int .i64 0,.int .i64 0,.int .i64 0,.string ⟨#[]⟩,.slice none 0 0,.int .i64 0,.int .i64 0,.string ⟨#[]⟩,.slice none 0 0,.int .i64 0,.string ⟨#[]⟩,.slice none 0 0,.string ⟨#[]⟩,.slice none 0 0,.slice none 0 0] _ S3.out.2.2.2 rfl rfl rfl rfl (by kernel_rfl) onV ?_;intro w4 r4 s4;have S4:=hid (Sst.stay S3.out s4 r4);clear r4 s4;have c0:w4.cell? ⟨g,0,none⟩=some (.int .i64 kd):=S4.out.2.2.1.cell 0))
  exact HQ.out _ _ _ _ _ _ _ _ _ _ _ _ _ _ _ _ _ _ _ _ _ _ _ _ _ _ _ _ _ _ _ _ _ _ _ _ _ _ _ _ _ _ _ _ _ _ _ _ _ _ _ _ _ _ _ _ _ _ _ _ _ _ _ _ _ _ _ _ _ _ _ _ _ _ _ _ _ _ _ _ _ _ _ _ _ _ _ _ _ _ _ _ _ _ _ _ S4.out

set_option maxHeartbeats 16000000 in
set_option maxRecDepth 20000 in
theorem fr_3 {Q:Exit->Act->World->Prop} {t:Code} {w W0:World} {g gx:Nat} {kd ps:Int} {mu has:Bool} {nm:ByteArray} {t0 t1 t2 t3 p0 p1 v0 v1 v2 v3 v4 v5 v6 v7 v8 v9 A0 A1 A2 A3 A4 o0 o1 o2 o3 vt ve:Value} (hS:Sst w g gx [.int .i64 kd,.int .i64 ps,.bool mu,.string nm,t0,t1,t2,t3,.bool has,p0,p1,v0,v1,v2,v3,v4,v5,v6,v7,v8,v9,A0,A1,A2,A3,A4,o0,o1,o2,o3,vt,ve] [.int .i64 0,.int .i64 0,.bool mu,.string nm,t0,t1,t2,t3,.bool has,p0,p1,v0,v1,v2,v3,v4,v5,v6,v7,v8,v9,A0,A1,A2,A3,A4,o0,o1,o2,o3,.slice none 0 0,.slice none 0 0] W0) (hk:kd=3) {vk:Int} (hv0:v0=.int .i64 vk)
  { bv:Bool} (hV:∀ W,Below w.heap.size w W->Calls Tryz.prog 93 #[.agg #[v0,v1,v2,v3,v4,v5,v6,v7,v8,v9,A0,A1,A2,A3,A4]] W (Rb bv W)) {u0 u1 u2 u3 u4 u5 u8 u9 M0 K3 K4 K5 K6 K7 K8 K9 L0 L1 L2 L3 L4 L5 L6 L7 L8 L9 M1 M2 M3 M4 M5 M6 M7 M8 M9 N0 N1 N2 N3 N4 N5 N6 N7 N8 N9 O0 O1 O2 O3 O4 O5 O6 O7 O8 O9 P0 P1 P2 P3 P4 P5 P6 P7 P8 P9 Q0 Q1 Q2 Q3 Q4 Q5 Q6 Q7 Q8 Q9 R0 R1 R2 R3 R4 R5 R6 R7 R8 R9 S3 S4 S5 S6 S7 S8 S9 T0 T1 T2 T3 T4 T5 F7 F8 F9 G0 G1 G2 G3 G4 G5 G6 G7 G8 G9 H0 H1 H2 H3 H4 H5 H6 H7 H8 H9 A5 A6 A7 A8 A9 B0 B1 B2 B3 B4 B5 B6 B7 B8 B9 C0 C1 C2 C3 C4 C5 C6 C7 C8 C9 D0 D1 D2 D3 D4 D5 D6 D7 D8 D9 E0 E1 E2 E3 E4 E5 E6 E7 E8 E9 F0 F1 F2 F3 F4 F5 F6:Value}
  (hQ:∀ (W':World) (T6 T7 T8 T9 U0 U1 U2 U3 U4 U5 U6 U7 U8 U9 V0 V1 V2 V3 V4 V5 V6 V7 V8 V9 W1 W2 W3 W4 W5 W6 W7 W8 W9 X0 X1 X2 X3 X4 X5 X6 X7 X8 X9 Y0 Y1 Y2 Y3 Y4 Y5 Y6 Y7 Y8 Y9 Z0 Z1 Z2 Z3 Z4 Z5 Z6 Z7 Z8 Z9 a0 a1 a2 a3 a4 a5 a6 a7 a8 I0 I1 I2 I3 I4 I5 I6 I7 I8 I9 J0 J1 J2 J3 J4 J5 J6 J7 J8 J9 K0 K1 K2:Value),Sst w g gx [.int .i64 kd,.int .i64 ps,.bool mu,.string nm,t0,t1,t2,t3,.bool has,p0,p1,v0,v1,v2,v3,v4,v5,v6,v7,v8,v9,A0,A1,A2,A3,A4,o0,o1,o2,o3,vt,ve] [.int .i64 0,.int .i64 0,.bool mu,.string nm,t0,t1,t2,t3,.bool has,p0,p1,.int .i64 0,.int .i64 0,.int .i64 0,.string ⟨#[]⟩,.slice none 0 0,.int .i64 0,.int .i64 0,.string ⟨#[]⟩,.slice none 0 0,.int .i64 0,.string ⟨#[]⟩,.slice none 0 0,.string ⟨#[]⟩,.slice none 0 0,.slice none 0 0,o0,o1,o2,o3,.slice none 0 0,.slice none 0 0] W'->t.wp Tryz.prog Q { tmps:=#[u0,u1,u2,u3,u4,u5,.pointer (some ⟨g,0,none⟩),.pointer (some ⟨gx,0,none⟩),.bool (bv && (vk == 6)),.bool false,.bool false,K3,K4,K5,K6,K7,K8,K9,L0,L1,L2,L3,L4,L5,L6,L7,L8,L9,T6,T7,T8,T9,U0,U1,U2,U3,U4,U5,U6,U7,U8,U9,V0,V1,V2,V3,V4,V5,V6,V7,V8,V9,W1,W2,W3,W4,W5,W6,W7,W8,W9,X0,X1,X2,X3,X4,X5,X6,X7,X8,X9,Y0,Y1,Y2,Y3,Y4,Y5,Y6,Y7,Y8,Y9,Z0,Z1,Z2,Z3,Z4,Z5,Z6,Z7,Z8,Z9,a0,a1,a2,a3,a4,a5,a6,a7,a8,I0,I1,I2,I3,I4,I5,I6,I7,I8,I9,J0,J1,J2,J3,J4,J5,J6,J7,J8,J9,K0,K1,K2,A5,A6,A7,A8,A9,B0,B1,B2,B3,B4,B5,B6,B7,B8,B9,C0,C1,C2,C3,C4,C5,C6,C7,C8,C9,D0,D1,D2,D3,D4,D5,D6,D7,D8,D9,E0,E1,E2,E3,E4,E5,E6,E7,E8,E9,F0,F1,F2,F3,F4,F5,F6],defers:=[] } W') :
  Code.wp Tryz.prog (next3 t (innerB ((Tryz.f59.body.bind (blockAt 1)).getD .skip))) Q { tmps:=#[u0,u1,u2,u3,u4,u5,.pointer (some ⟨g,0,none⟩),.pointer (some ⟨gx,0,none⟩),u8,u9,M0,K3,K4,K5,K6,K7,K8,K9,L0,L1,L2,L3,L4,L5,L6,L7,L8,L9,M1,M2,M3,M4,M5,M6,M7,M8,M9,N0,N1,N2,N3,N4,N5,N6,N7,N8,N9,O0,O1,O2,O3,O4,O5,O6,O7,O8,O9,P0,P1,P2,P3,P4,P5,P6,P7,P8,P9,Q0,Q1,Q2,Q3,Q4,Q5,Q6,Q7,Q8,Q9,R0,R1,R2,R3,R4,R5,R6,R7,R8,R9,S3,S4,S5,S6,S7,S8,S9,T0,T1,T2,T3,T4,T5,F7,F8,F9,G0,G1,G2,G3,G4,G5,G6,G7,G8,G9,H0,H1,H2,H3,H4,H5,H6,H7,H8,H9,A5,A6,A7,A8,A9,B0,B1,B2,B3,B4,B5,B6,B7,B8,B9,C0,C1,C2,C3,C4,C5,C6,C7,C8,C9,D0,D1,D2,D3,D4,D5,D6,D7,D8,D9,E0,E1,E2,E3,E4,E5,E6,E7,E8,E9,F0,F1,F2,F3,F4,F5,F6],defers:=[] } W0:=by
 have HQ:=hid hQ
 have S0:=hid hS
 clear hQ hS
 have HV:=hid hV
 clear hV
 have k1:(kd == 1)=false:=by rw [hk];rfl
 have k2:(kd == 2)=false:=by rw [hk];rfl
 have k3:(kd == 3)=true:=by rw [hk];rfl
 have k4:(kd == 4)=false:=by rw [hk];rfl
 have k5:(kd == 5)=false:=by rw [hk];rfl
 have k6:(kd == 6)=false:=by rw [hk];rfl
 have k7:(kd == 7)=false:=by rw [hk];rfl
 have k8:(kd == 8)=false:=by rw [hk];rfl
 have k9:(kd == 9)=false:=by rw [hk];rfl
 have k10:(kd == 10)=false:=by rw [hk];rfl
 have k11:(kd == 11)=false:=by rw [hk];rfl
 clear hk
 conv=>arg 2;whnf
 dsimp only
 have c0:W0.cell? ⟨g,0,none⟩=some (.int .i64 kd):=S0.out.2.2.1.cell 0
 have HV0:=hid hv0
 clear hv0
 have rg:Hid (W0.rangeAt g 11 [v0,v1,v2,v3,v4,v5,v6,v7,v8,v9,A0,A1,A2,A3,A4]):=S0.out.2.2.1.midr [.int .i64 kd,.int .i64 ps,.bool mu,.string nm,t0,t1,t2,t3,.bool has,p0,p1] [v0,v1,v2,v3,v4,v5,v6,v7,v8,v9,A0,A1,A2,A3,A4] [o0,o1,o2,o3,vt,ve] 11 rfl rfl
 go_wp2_with (refine load_midG rfl 47 (.tmp 60) rfl g 11 rfl _ _ rg.out Tryz.underlying47 rfl (by kernel_rfl) ?_)
 refine (HV.out _ S0.out.2.1).mono ?_
 rintro _ w1 ⟨rfl,b1⟩
 have S1:=hid (S0.out.call b1)
 clear b1
 clear c0 rg
 cases bv with
 | false =>
  go_wp2_with (refine store_midL rfl 47 (.tmp 70) (.tmp 69) rfl gx 49 11 [.int .i64 0,.int .i64 0,.bool mu,.string nm,t0,t1,t2,t3,.bool has,p0,p1] [v0,v1,v2,v3,v4,v5,v6,v7,v8,v9,A0,A1,A2,A3,A4] [.int .i64 0,.int .i64 0,.int .i64 0,.string ⟨#[]⟩,.slice none 0 0,.int .i64 0,.int .i64 0,.string ⟨#[]⟩,.slice none 0 0,.int .i64 0,.string ⟨#[]⟩,.slice none 0 0,.string ⟨#[]⟩,.slice none 0 0,.slice none 0 0] _ S1.out.2.2.2 rfl rfl rfl rfl (by kernel_rfl) onV ?_;intro w2 r2 s2;have S2:=hid (Sst.stay S1.out s2 r2);clear r2 s2;have c0:w2.cell? ⟨g,0,none⟩=some (.int .i64 kd):=S2.out.2.2.1.cell 0)
  exact HQ.out _ _ _ _ _ _ _ _ _ _ _ _ _ _ _ _ _ _ _ _ _ _ _ _ _ _ _ _ _ _ _ _ _ _ _ _ _ _ _ _ _ _ _ _ _ _ _ _ _ _ _ _ _ _ _ _ _ _ _ _ _ _ _ _ _ _ _ _ _ _ _ _ _ _ _ _ _ _ _ _ _ _ _ _ _ _ _ _ _ _ _ _ _ _ _ _ S2.out
 | true =>
  have d11:w1.cell? ⟨g,11,none⟩=some (.int .i64 vk):=by rw [← HV0.out];exact S1.out.2.2.1.cell 11
  clear HV0
  go_wp2_with (refine store_midL rfl 47 (.tmp 70) (.tmp 69) rfl gx 49 11 [.int .i64 0,.int .i64 0,.bool mu,.string nm,t0,t1,t2,t3,.bool has,p0,p1] [v0,v1,v2,v3,v4,v5,v6,v7,v8,v9,A0,A1,A2,A3,A4] [.int .i64 0,.int .i64 0,.int .i64 0,.string ⟨#[]⟩,.slice none 0 0,.int .i64 0,.int .i64 0,.string ⟨#[]⟩,.slice none 0 0,.int .i64 0,.string ⟨#[]⟩,.slice none 0 0,.string ⟨#[]⟩,.slice none 0 0,.slice none 0 0] _ S1.out.2.2.2 rfl rfl rfl rfl (by kernel_rfl) onV ?_;intro w2 r2 s2;have S2:=hid (Sst.stay S1.out s2 r2);clear r2 s2;have c0:w2.cell? ⟨g,0,none⟩=some (.int .i64 kd):=S2.out.2.2.1.cell 0)
  exact HQ.out _ _ _ _ _ _ _ _ _ _ _ _ _ _ _ _ _ _ _ _ _ _ _ _ _ _ _ _ _ _ _ _ _ _ _ _ _ _ _ _ _ _ _ _ _ _ _ _ _ _ _ _ _ _ _ _ _ _ _ _ _ _ _ _ _ _ _ _ _ _ _ _ _ _ _ _ _ _ _ _ _ _ _ _ _ _ _ _ _ _ _ _ _ _ _ _ S2.out

set_option maxHeartbeats 16000000 in
set_option maxRecDepth 20000 in
theorem fr_4 {Q:Exit->Act->World->Prop} {t:Code} {w W0:World} {g gx:Nat} {kd ps:Int} {mu has:Bool} {nm:ByteArray} {t0 t1 t2 t3 p0 p1 v0 v1 v2 v3 v4 v5 v6 v7 v8 v9 A0 A1 A2 A3 A4 o0 o1 o2 o3 vt ve:Value} (hS:Sst w g gx [.int .i64 kd,.int .i64 ps,.bool mu,.string nm,t0,t1,t2,t3,.bool has,p0,p1,v0,v1,v2,v3,v4,v5,v6,v7,v8,v9,A0,A1,A2,A3,A4,o0,o1,o2,o3,vt,ve] [.int .i64 0,.int .i64 0,.bool mu,.string nm,t0,t1,t2,t3,.bool has,p0,p1,v0,v1,v2,v3,v4,v5,v6,v7,v8,v9,A0,A1,A2,A3,A4,o0,o1,o2,o3,.slice none 0 0,.slice none 0 0] W0) (hk:kd=4)
  { bo:Bool} (hO:∀ W,Below w.heap.size w W->Calls Tryz.prog 94 #[.agg #[o0,o1,o2,o3]] W (Rb bo W)) {u0 u1 u2 u3 u4 u5 u8 u9 M4 K7 K8 K9 L0 L1 L2 L3 L4 L5 L6 L7 L8 L9 M0 M1 M2 M3 M5 M6 M7 M8 M9 N0 N1 N2 N3 N4 N5 N6 N7 N8 N9 O0 O1 O2 O3 O4 O5 O6 O7 O8 O9 P0 P1 P2 P3 P4 P5 P6 P7 P8 P9 Q0 Q1 Q2 Q3 Q4 Q5 Q6 Q7 Q8 Q9 R0 R1 R2 R3 R4 R5 R6 R7 R8 R9 S4 S5 S6 S7 S8 S9 T0 T1 T2 T3 T4 T5 T6 T7 T8 T9 U0 G1 G2 G3 G4 G5 G6 G7 G8 G9 H0 H1 H2 H3 H4 H5 H6 H7 H8 H9 I0 I1 I2 I3 A5 A6 A7 A8 A9 B0 B1 B2 B3 B4 B5 B6 B7 B8 B9 C0 C1 C2 C3 C4 C5 C6 C7 C8 C9 D0 D1 D2 D3 D4 D5 D6 D7 D8 D9 E2 E3 E4 E5 E6 E7 E8 E9 F2 F3 F4 F5 F6 F7 F8 F9 G0:Value}
  (hQ:∀ (W':World) (U1 U2 U3 U4 U5 U6 U7 U8 U9 V0 V1 V2 V3 V4 V5 V6 V7 V8 V9 W1 W2 W3 W4 W5 W6 W7 W8 W9 X0 X1 X2 X3 X4 X5 X6 X7 X8 X9 Y0 Y1 Y2 Y3 Y4 Y5 Y6 Y7 Y8 Y9 Z0 Z1 Z2 Z3 Z4 Z5 Z6 Z7 Z8 Z9 a0 a1 a2 a3 a4 a5 a6 a7 a8 a9 b0 b1 b2 b3 I4 I5 I6 I7 I8 I9 J0 J1 J2 J3 J4 J5 J6 J7 J8 J9 K0 K1 K2 K3 K4 K5 K6:Value),Sst w g gx [.int .i64 kd,.int .i64 ps,.bool mu,.string nm,t0,t1,t2,t3,.bool has,p0,p1,v0,v1,v2,v3,v4,v5,v6,v7,v8,v9,A0,A1,A2,A3,A4,o0,o1,o2,o3,vt,ve] [.int .i64 0,.int .i64 0,.bool mu,.string nm,t0,t1,t2,t3,.bool false,p0,p1,v0,v1,v2,v3,v4,v5,v6,v7,v8,v9,A0,A1,A2,A3,A4,.int .i64 0,.int .i64 0,.string ⟨#[]⟩,.slice none 0 0,.slice none 0 0,.slice none 0 0] W'->t.wp Tryz.prog Q { tmps:=#[u0,u1,u2,u3,u4,u5,.pointer (some ⟨g,0,none⟩),.pointer (some ⟨gx,0,none⟩),.bool (bo),.bool true,.bool has,K7,K8,K9,L0,L1,L2,L3,L4,L5,L6,L7,L8,L9,M0,M1,M2,M3,U1,U2,U3,U4,U5,U6,U7,U8,U9,V0,V1,V2,V3,V4,V5,V6,V7,V8,V9,W1,W2,W3,W4,W5,W6,W7,W8,W9,X0,X1,X2,X3,X4,X5,X6,X7,X8,X9,Y0,Y1,Y2,Y3,Y4,Y5,Y6,Y7,Y8,Y9,Z0,Z1,Z2,Z3,Z4,Z5,Z6,Z7,Z8,Z9,a0,a1,a2,a3,a4,a5,a6,a7,a8,a9,b0,b1,b2,b3,I4,I5,I6,I7,I8,I9,J0,J1,J2,J3,J4,J5,J6,J7,J8,J9,K0,K1,K2,K3,K4,K5,K6,A5,A6,A7,A8,A9,B0,B1,B2,B3,B4,B5,B6,B7,B8,B9,C0,C1,C2,C3,C4,C5,C6,C7,C8,C9,D0,D1,D2,D3,D4,D5,D6,D7,D8,D9,E2,E3,E4,E5,E6,E7,E8,E9,F2,F3,F4,F5,F6,F7,F8,F9,G0],defers:=[] } W') :
  Code.wp Tryz.prog (next3 t (innerB ((Tryz.f59.body.bind (blockAt 1)).getD .skip))) Q { tmps:=#[u0,u1,u2,u3,u4,u5,.pointer (some ⟨g,0,none⟩),.pointer (some ⟨gx,0,none⟩),u8,u9,M4,K7,K8,K9,L0,L1,L2,L3,L4,L5,L6,L7,L8,L9,M0,M1,M2,M3,M5,M6,M7,M8,M9,N0,N1,N2,N3,N4,N5,N6,N7,N8,N9,O0,O1,O2,O3,O4,O5,O6,O7,O8,O9,P0,P1,P2,P3,P4,P5,P6,P7,P8,P9,Q0,Q1,Q2,Q3,Q4,Q5,Q6,Q7,Q8,Q9,R0,R1,R2,R3,R4,R5,R6,R7,R8,R9,S4,S5,S6,S7,S8,S9,T0,T1,T2,T3,T4,T5,T6,T7,T8,T9,U0,G1,G2,G3,G4,G5,G6,G7,G8,G9,H0,H1,H2,H3,H4,H5,H6,H7,H8,H9,I0,I1,I2,I3,A5,A6,A7,A8,A9,B0,B1,B2,B3,B4,B5,B6,B7,B8,B9,C0,C1,C2,C3,C4,C5,C6,C7,C8,C9,D0,D1,D2,D3,D4,D5,D6,D7,D8,D9,E2,E3,E4,E5,E6,E7,E8,E9,F2,F3,F4,F5,F6,F7,F8,F9,G0],defers:=[] } W0:=by
 have HQ:=hid hQ
 have S0:=hid hS
 clear hQ hS
 have HO:=hid hO
 clear hO
 have k1:(kd == 1)=false:=by rw [hk];rfl
 have k2:(kd == 2)=false:=by rw [hk];rfl
 have k3:(kd == 3)=false:=by rw [hk];rfl
 have k4:(kd == 4)=true:=by rw [hk];rfl
 have k5:(kd == 5)=false:=by rw [hk];rfl
 have k6:(kd == 6)=false:=by rw [hk];rfl
 have k7:(kd == 7)=false:=by rw [hk];rfl
 have k8:(kd == 8)=false:=by rw [hk];rfl
 have k9:(kd == 9)=false:=by rw [hk];rfl
 have k10:(kd == 10)=false:=by rw [hk];rfl
 have k11:(kd == 11)=false:=by rw [hk];rfl
 clear hk
 conv=>arg 2;whnf
 dsimp only
 have c0:W0.cell? ⟨g,0,none⟩=some (.int .i64 kd):=S0.out.2.2.1.cell 0
 obtain ⟨SP,hSP⟩:∃ SP:World->Prop,SP=Sst w g gx [.int .i64 kd,.int .i64 ps,.bool mu,.string nm,t0,t1,t2,t3,.bool has,p0,p1,v0,v1,v2,v3,v4,v5,v6,v7,v8,v9,A0,A1,A2,A3,A4,o0,o1,o2,o3,vt,ve] [.int .i64 0,.int .i64 0,.bool mu,.string nm,t0,t1,t2,t3,.bool has,p0,p1,v0,v1,v2,v3,v4,v5,v6,v7,v8,v9,A0,A1,A2,A3,A4,o0,o1,o2,o3,.slice none 0 0,.slice none 0 0]:=⟨_,rfl⟩
 have SC:Hid (∀ z,SP z->z.cell? ⟨g,26,none⟩=some o0/\z.cell? ⟨g,26+1,none⟩=some o1/\z.cell? ⟨g,26+2,none⟩=some o2/\z.cell? ⟨g,26+3,none⟩=some o3/\z.cell? ⟨g,8,none⟩=some (.bool has)):=by
  intro z hz
  rw [hSP] at hz
  exact ⟨hz.2.2.1.cell 26,hz.2.2.1.cell 27,hz.2.2.1.cell 28,hz.2.2.1.cell 29,hz.2.2.1.cell 8⟩
 have D:Hid (∀ z,(SP z/\z.cell? ⟨g,26,none⟩=some o0/\z.cell? ⟨g,26+1,none⟩=some o1/\z.cell? ⟨g,26+2,none⟩=some o2/\z.cell? ⟨g,26+3,none⟩=some o3/\z.cell? ⟨g,8,none⟩=some (.bool has))->Calls Tryz.prog 94 #[.agg #[o0,o1,o2,o3]] z fun ev z'=>ev=.returned (.bool bo)/\(SP z'/\z'.cell? ⟨g,26,none⟩=some o0/\z'.cell? ⟨g,26+1,none⟩=some o1/\z'.cell? ⟨g,26+2,none⟩=some o2/\z'.cell? ⟨g,26+3,none⟩=some o3/\z'.cell? ⟨g,8,none⟩=some (.bool has))):=by
  intro z hz
  have h1:=hz.1
  rw [hSP] at h1
  refine (HO.out z h1.2.1).mono ?_
  rintro _ z' ⟨rfl,hb⟩
  have h2:SP z':=by rw [hSP];exact h1.call hb
  exact ⟨rfl,h2,SC.out z' h2⟩
 have E0:SP W0:=by rw [hSP];exact S0.out
 have E1:SP (W0.drew):=by rw [hSP];exact S0.out.call ((Below.refl _ _).drew)
 have F0:=And.intro E0 (SC.out W0 E0)
 have F1:=And.intro E1 (SC.out _ E1)
 have SBK:Hid (∀ z,SP z->Sst w g gx [.int .i64 kd,.int .i64 ps,.bool mu,.string nm,t0,t1,t2,t3,.bool has,p0,p1,v0,v1,v2,v3,v4,v5,v6,v7,v8,v9,A0,A1,A2,A3,A4,o0,o1,o2,o3,vt,ve] [.int .i64 0,.int .i64 0,.bool mu,.string nm,t0,t1,t2,t3,.bool has,p0,p1,v0,v1,v2,v3,v4,v5,v6,v7,v8,v9,A0,A1,A2,A3,A4,o0,o1,o2,o3,.slice none 0 0,.slice none 0 0] z):=fun z hz=>by rw [hSP] at hz;exact hz
 clear SC hSP HO E0 E1
 go_wp2_with fail
 go_region_held3 (fun z=>SP z/\z.cell? ⟨g,26,none⟩=some o0/\z.cell? ⟨g,26+1,none⟩=some o1/\z.cell? ⟨g,26+2,none⟩=some o2/\z.cell? ⟨g,26+3,none⟩=some o3/\z.cell? ⟨g,8,none⟩=some (.bool has)) (assumption) (first|(go_at_call 94;refine (D.out _ (by assumption)).mono ?_;rintro _ w1 ⟨rfl,hS1⟩))
 have S1:=hid (SBK.out _ hS1.1)
 clear D SBK F0 F1 hS1 c0
 go_wp2_with (refine store_midL rfl 44 (.tmp 79) (.tmp 78) rfl gx 49 26 [.int .i64 0,.int .i64 0,.bool mu,.string nm,t0,t1,t2,t3,.bool has,p0,p1,v0,v1,v2,v3,v4,v5,v6,v7,v8,v9,A0,A1,A2,A3,A4] [o0,o1,o2,o3] [.int .i64 0,.int .i64 0,.string ⟨#[]⟩,.slice none 0 0] _ S1.out.2.2.2 rfl rfl rfl rfl (by kernel_rfl) onO ?_;intro w2 r2 s2;have S2:=hid (Sst.stay S1.out s2 r2);clear r2 s2;have e8:w2.cell? ⟨gx,8,none⟩=some (.bool has):=S2.out.2.2.2.cell 8;have e8z:=S2.out.2.2.2.fz 8;have S3:=hid (S2.out.set 8 (.bool false));have k0:(w2.setCell ⟨gx,8,none⟩ (.bool false)).cell? ⟨g,0,none⟩=some (.int .i64 kd):=S3.out.2.2.1.cell 0)
 exact HQ.out _ _ _ _ _ _ _ _ _ _ _ _ _ _ _ _ _ _ _ _ _ _ _ _ _ _ _ _ _ _ _ _ _ _ _ _ _ _ _ _ _ _ _ _ _ _ _ _ _ _ _ _ _ _ _ _ _ _ _ _ _ _ _ _ _ _ _ _ _ _ _ _ _ _ _ _ _ _ _ _ _ _ _ _ _ _ _ _ _ _ _ _ _ _ _ _ S3.out

set_option maxHeartbeats 16000000 in
set_option maxRecDepth 20000 in
theorem fr_5 {Q:Exit->Act->World->Prop} {t:Code} {w W0:World} {g gx:Nat} {kd ps:Int} {mu has:Bool} {nm:ByteArray} {t0 t1 t2 t3 p0 p1 v0 v1 v2 v3 v4 v5 v6 v7 v8 v9 F2 F3 F4 F5 F6 o0 o1 o2 o3 vt ve:Value} (hS:Sst w g gx [.int .i64 kd,.int .i64 ps,.bool mu,.string nm,t0,t1,t2,t3,.bool has,p0,p1,v0,v1,v2,v3,v4,v5,v6,v7,v8,v9,F2,F3,F4,F5,F6,o0,o1,o2,o3,vt,ve] [.int .i64 0,.int .i64 0,.bool mu,.string nm,t0,t1,t2,t3,.bool has,p0,p1,v0,v1,v2,v3,v4,v5,v6,v7,v8,v9,F2,F3,F4,F5,F6,o0,o1,o2,o3,.slice none 0 0,.slice none 0 0] W0) (hk:kd=5)
  { bo:Bool} (hO:∀ W,Below w.heap.size w W->Calls Tryz.prog 94 #[.agg #[o0,o1,o2,o3]] W (Rb bo W)) {u0 u1 u2 u3 u4 u5 u8 u9 M0 K3 K4 K5 K6 K7 K8 K9 L0 L1 L2 L3 L4 L5 L6 L7 L8 L9 M1 M2 M3 M4 M5 M6 M7 M8 M9 N0 N1 N2 N3 N4 N5 N6 N7 N8 N9 O0 O1 O2 O3 O4 O5 O6 O7 O8 O9 P0 P1 P2 P3 P4 P5 P6 P7 P8 P9 Q0 Q1 Q2 Q3 Q4 Q5 Q6 Q7 Q8 Q9 R0 R1 R2 R3 R4 R5 R6 R7 R8 R9 S3 S4 S5 S6 S7 S8 S9 T0 T1 T2 T3 T4 T5 F7 F8 F9 G0 G1 G2 G3 G4 G5 G6 G7 G8 G9 H0 H1 H2 H3 H4 H5 H6 H7 H8 H9 A0 A1 A2 A3 A4 A5 A6 A7 A8 A9 B0 B1 B2 B3 B4 B5 B6 B7 B8 B9 C0 C1 C2 C3 C4 C5 C6 C7 C8 C9 D0 D1 D2 D3 D4 D5 D6 D7 D8 D9 E0 E1 E2 E3 E4 E5 E6 E7 E8 E9 F0 F1:Value}
  (hQ:∀ (W':World) (T6 T7 T8 T9 U0 U1 U2 U3 U4 U5 U6 U7 U8 U9 V0 V1 V2 V3 V4 V5 V6 V7 V8 V9 W1 W2 W3 W4 W5 W6 W7 W8 W9 X0 X1 X2 X3 X4 X5 X6 X7 X8 X9 Y0 Y1 Y2 Y3 Y4 Y5 Y6 Y7 Y8 Y9 Z0 Z1 Z2 Z3 Z4 Z5 Z6 Z7 Z8 Z9 a0 a1 a2 a3 a4 a5 a6 a7 a8 I0 I1 I2 I3 I4 I5 I6 I7 I8 I9 J0 J1 J2 J3 J4 J5 J6 J7 J8 J9 K0 K1 K2:Value),Sst w g gx [.int .i64 kd,.int .i64 ps,.bool mu,.string nm,t0,t1,t2,t3,.bool has,p0,p1,v0,v1,v2,v3,v4,v5,v6,v7,v8,v9,F2,F3,F4,F5,F6,o0,o1,o2,o3,vt,ve] [.int .i64 0,.int .i64 0,.bool mu,.string nm,t0,t1,t2,t3,.bool has,p0,p1,v0,v1,v2,v3,v4,v5,v6,v7,v8,v9,F2,F3,F4,F5,F6,.int .i64 0,.int .i64 0,.string ⟨#[]⟩,.slice none 0 0,.slice none 0 0,.slice none 0 0] W'->t.wp Tryz.prog Q { tmps:=#[u0,u1,u2,u3,u4,u5,.pointer (some ⟨g,0,none⟩),.pointer (some ⟨gx,0,none⟩),.bool (bo),.bool true,.bool false,K3,K4,K5,K6,K7,K8,K9,L0,L1,L2,L3,L4,L5,L6,L7,L8,L9,T6,T7,T8,T9,U0,U1,U2,U3,U4,U5,U6,U7,U8,U9,V0,V1,V2,V3,V4,V5,V6,V7,V8,V9,W1,W2,W3,W4,W5,W6,W7,W8,W9,X0,X1,X2,X3,X4,X5,X6,X7,X8,X9,Y0,Y1,Y2,Y3,Y4,Y5,Y6,Y7,Y8,Y9,Z0,Z1,Z2,Z3,Z4,Z5,Z6,Z7,Z8,Z9,a0,a1,a2,a3,a4,a5,a6,a7,a8,I0,I1,I2,I3,I4,I5,I6,I7,I8,I9,J0,J1,J2,J3,J4,J5,J6,J7,J8,J9,K0,K1,K2,A0,A1,A2,A3,A4,A5,A6,A7,A8,A9,B0,B1,B2,B3,B4,B5,B6,B7,B8,B9,C0,C1,C2,C3,C4,C5,C6,C7,C8,C9,D0,D1,D2,D3,D4,D5,D6,D7,D8,D9,E0,E1,E2,E3,E4,E5,E6,E7,E8,E9,F0,F1],defers:=[] } W') :
  Code.wp Tryz.prog (next3 t (innerB ((Tryz.f59.body.bind (blockAt 1)).getD .skip))) Q { tmps:=#[u0,u1,u2,u3,u4,u5,.pointer (some ⟨g,0,none⟩),.pointer (some ⟨gx,0,none⟩),u8,u9,M0,K3,K4,K5,K6,K7,K8,K9,L0,L1,L2,L3,L4,L5,L6,L7,L8,L9,M1,M2,M3,M4,M5,M6,M7,M8,M9,N0,N1,N2,N3,N4,N5,N6,N7,N8,N9,O0,O1,O2,O3,O4,O5,O6,O7,O8,O9,P0,P1,P2,P3,P4,P5,P6,P7,P8,P9,Q0,Q1,Q2,Q3,Q4,Q5,Q6,Q7,Q8,Q9,R0,R1,R2,R3,R4,R5,R6,R7,R8,R9,S3,S4,S5,S6,S7,S8,S9,T0,T1,T2,T3,T4,T5,F7,F8,F9,G0,G1,G2,G3,G4,G5,G6,G7,G8,G9,H0,H1,H2,H3,H4,H5,H6,H7,H8,H9,A0,A1,A2,A3,A4,A5,A6,A7,A8,A9,B0,B1,B2,B3,B4,B5,B6,B7,B8,B9,C0,C1,C2,C3,C4,C5,C6,C7,C8,C9,D0,D1,D2,D3,D4,D5,D6,D7,D8,D9,E0,E1,E2,E3,E4,E5,E6,E7,E8,E9,F0,F1],defers:=[] } W0:=by
 have HQ:=hid hQ
 have S0:=hid hS
 clear hQ hS
 have HO:=hid hO
 clear hO
 have k1:(kd == 1)=false:=by rw [hk];rfl
 have k2:(kd == 2)=false:=by rw [hk];rfl
 have k3:(kd == 3)=false:=by rw [hk];rfl
 have k4:(kd == 4)=false:=by rw [hk];rfl
 have k5:(kd == 5)=true:=by rw [hk];rfl
 have k6:(kd == 6)=false:=by rw [hk];rfl
 have k7:(kd == 7)=false:=by rw [hk];rfl
 have k8:(kd == 8)=false:=by rw [hk];rfl
 have k9:(kd == 9)=false:=by rw [hk];rfl
 have k10:(kd == 10)=false:=by rw [hk];rfl
 have k11:(kd == 11)=false:=by rw [hk];rfl
 clear hk
 conv=>arg 2;whnf
 dsimp only
 have c0:W0.cell? ⟨g,0,none⟩=some (.int .i64 kd):=S0.out.2.2.1.cell 0
 have d26_0:W0.cell? ⟨g,26,none⟩=some (o0):=S0.out.2.2.1.cell 26
 have d26_1:W0.cell? ⟨g,26+1,none⟩=some (o1):=S0.out.2.2.1.cell 27
 have d26_2:W0.cell? ⟨g,26+2,none⟩=some (o2):=S0.out.2.2.1.cell 28
 have d26_3:W0.cell? ⟨g,26+3,none⟩=some (o3):=S0.out.2.2.1.cell 29
 go_wp2_with fail
 refine (HO.out _ S0.out.2.1).mono ?_
 rintro _ w1 ⟨rfl,b1⟩
 have S1:=hid (S0.out.call b1)
 clear b1
 clear c0 d26_0 d26_1 d26_2 d26_3
 go_wp2_with (refine store_midL rfl 44 (.tmp 87) (.tmp 86) rfl gx 49 26 [.int .i64 0,.int .i64 0,.bool mu,.string nm,t0,t1,t2,t3,.bool has,p0,p1,v0,v1,v2,v3,v4,v5,v6,v7,v8,v9,F2,F3,F4,F5,F6] [o0,o1,o2,o3] [.int .i64 0,.int .i64 0,.string ⟨#[]⟩,.slice none 0 0] _ S1.out.2.2.2 rfl rfl rfl rfl (by kernel_rfl) onO ?_;intro w2 r2 s2;have S2:=hid (Sst.stay S1.out s2 r2);clear r2 s2;have c0:w2.cell? ⟨g,0,none⟩=some (.int .i64 kd):=S2.out.2.2.1.cell 0)
 exact HQ.out _ _ _ _ _ _ _ _ _ _ _ _ _ _ _ _ _ _ _ _ _ _ _ _ _ _ _ _ _ _ _ _ _ _ _ _ _ _ _ _ _ _ _ _ _ _ _ _ _ _ _ _ _ _ _ _ _ _ _ _ _ _ _ _ _ _ _ _ _ _ _ _ _ _ _ _ _ _ _ _ _ _ _ _ _ _ _ _ _ _ _ _ _ _ _ _ S2.out
end Go.Proofs.YtjenmmkamhplkaaGreat
