/- Part of the proof. -/
import Derived.Test.YtjenmmkamhplkaaGreatQqspXs7
namespace Go.Proofs.YtjenmmkamhplkaaGreat
open Go.RowKit
set_option maxHeartbeats 8000000 in
set_option maxRecDepth 20000 in
theorem s77_0 {Q:Exit->Act->World->Prop} (W0:World) (gx gy:Nat) (csx csy:List Value) (R1:Row W0 gx 49 csx) (R2:Row W0 gy 49 csy) (x0 y0:Int) (kx0:csx[0]?=some (.int .i64 x0)) (ky0:csy[0]?=some (.int .i64 y0)) (p0:(x0 != y0)=true) (u0 u1 u2 u3 u4 u5 u8 u9 B5 B6 B7 B8 B9 C0 C1 C2 C3 C4 C5 C6 C7 C8 C9 D0 D1 D2 D3 D4 D5 D6 D7 D8 D9 E0 E1 E2 E3 E4 E5 E6 E7 E8 E9 F0 F1 F2 F3 F4 F5 F6 F7 F8 F9 G0 G1 G2 G3 G4 G5 G6 G7 G8 G9 H0 H1 H2 H3 H4 H5 H6 H7 H8 H9 I0 I1 I2 I3 I4 I5 I6 I7 I8 I9 J0 J1 J2 J3 J4 J5 J6 J7 J8 J9 K0 K1 K2 K3 K4 A0 A1 A2 A3 A4 A5 A6 A7:Value) (hQ:∀ (K5 K6 K7 K8 K9 L0 L1 L2 L3 L4 L5 L6 L7 L8 L9 M0 M1 M2 M3 M4 M5 M6 M7 M8 M9 N0 N1 N2 N3 N4 N5 N6 N7 N8 N9 O0 O1 O2 O3 O4 O5 O6 O7 O8 O9 P0 P1 P2 P3 P4 P5 P6 P7 P8 P9 Q0 Q1 Q2 Q3 Q4 Q5 Q6 Q7 Q8 Q9 R0 R3 R4 R5 R6 R7 R8 R9 A8 A9 B0 B1 B2 B3 B4:Value) (w':World),Below W0.heap.size W0 w'->Q .normal { tmps:=#[u0,u1,u2,u3,u4,u5,.pointer (some ⟨gx,0,none⟩),.pointer (some ⟨gy,0,none⟩),u8,u9,B5,B6,B7,B8,B9,C0,C1,C2,C3,C4,C5,C6,C7,C8,C9,D0,D1,K5,K6,K7,K8,K9,L0,L1,L2,L3,L4,L5,L6,L7,L8,L9,M0,M1,M2,M3,M4,M5,M6,M7,M8,M9,N0,N1,N2,N3,N4,N5,N6,N7,N8,N9,O0,O1,O2,O3,O4,O5,O6,O7,O8,O9,P0,P1,P2,P3,P4,P5,P6,P7,P8,P9,Q0,Q1,Q2,Q3,Q4,Q5,Q6,Q7,Q8,Q9,R0,R3,R4,R5,R6,R7,R8,R9,A8,A9,B0,B1,B2,B3,B4,.bool true],defers:=[] } w') :
  reg77.wp Tryz.prog Q { tmps:=#[u0,u1,u2,u3,u4,u5,.pointer (some ⟨gx,0,none⟩),.pointer (some ⟨gy,0,none⟩),u8,u9,B5,B6,B7,B8,B9,C0,C1,C2,C3,C4,C5,C6,C7,C8,C9,D0,D1,D2,D3,D4,D5,D6,D7,D8,D9,E0,E1,E2,E3,E4,E5,E6,E7,E8,E9,F0,F1,F2,F3,F4,F5,F6,F7,F8,F9,G0,G1,G2,G3,G4,G5,G6,G7,G8,G9,H0,H1,H2,H3,H4,H5,H6,H7,H8,H9,I0,I1,I2,I3,I4,I5,I6,I7,I8,I9,J0,J1,J2,J3,J4,J5,J6,J7,J8,J9,K0,K1,K2,K3,K4,A0,A1,A2,A3,A4,A5,A6,A7],defers:=[] } W0:=by
 have HQ:=hid hQ
 clear hQ
 refine flat77 ?_
 have HS:Hid (∀ W,Below W0.heap.size W0 W->Row W gx 49 csx/\Row W gy 49 csy):=fun W h=>⟨R1.below h R1.lt,R2.below h R2.lt⟩
 clear R1 R2
 have hW:Below W0.heap.size W0 W0:=Below.refl _ _
 obtain ⟨rwx,rwy⟩:=HS.out W0 hW
 have fx0:=(rwx.cell 0).trans kx0
 have fy0:=(rwy.cell 0).trans ky0
 clear rwx rwy kx0 ky0
 go_wp2_with fail
 exact HQ.out _ _ _ _ _ _ _ _ _ _ _ _ _ _ _ _ _ _ _ _ _ _ _ _ _ _ _ _ _ _ _ _ _ _ _ _ _ _ _ _ _ _ _ _ _ _ _ _ _ _ _ _ _ _ _ _ _ _ _ _ _ _ _ _ _ _ _ _ _ _ _ _ _ _ _ _ _ _ _ _ _ hW

set_option maxHeartbeats 8000000 in
set_option maxRecDepth 20000 in
theorem s77_1 {Q:Exit->Act->World->Prop} (W0:World) (gx gy:Nat) (csx csy:List Value) (R1:Row W0 gx 49 csx) (R2:Row W0 gy 49 csy) (x0 y0:Int) (x1 y1:Int) (kx0:csx[0]?=some (.int .i64 x0)) (ky0:csy[0]?=some (.int .i64 y0)) (kx1:csx[1]?=some (.int .i64 x1)) (ky1:csy[1]?=some (.int .i64 y1)) (p0:(x0 != y0)=false) (p1:(x1 != y1)=true) (u0 u1 u2 u3 u4 u5 u8 u9 B5 B6 B7 B8 B9 C0 C1 C2 C3 C4 C5 C6 C7 C8 C9 D0 D1 D2 D3 D4 D5 D6 D7 D8 D9 E0 E1 E2 E3 E4 E5 E6 E7 E8 E9 F0 F1 F2 F3 F4 F5 F6 F7 F8 F9 G0 G1 G2 G3 G4 G5 G6 G7 G8 G9 H0 H1 H2 H3 H4 H5 H6 H7 H8 H9 I0 I1 I2 I3 I4 I5 I6 I7 I8 I9 J0 J1 J2 J3 J4 J5 J6 J7 J8 J9 K0 K1 K2 K3 K4 A0 A1 A2 A3 A4 A5 A6 A7:Value) (hQ:∀ (K5 K6 K7 K8 K9 L0 L1 L2 L3 L4 L5 L6 L7 L8 L9 M0 M1 M2 M3 M4 M5 M6 M7 M8 M9 N0 N1 N2 N3 N4 N5 N6 N7 N8 N9 O0 O1 O2 O3 O4 O5 O6 O7 O8 O9 P0 P1 P2 P3 P4 P5 P6 P7 P8 P9 Q0 Q1 Q2 Q3 Q4 Q5 Q6 Q7 Q8 Q9 R0 R3 R4 R5 R6 R7 R8 R9 A8 A9 B0 B1 B2 B3 B4:Value) (w':World),Below W0.heap.size W0 w'->Q .normal { tmps:=#[u0,u1,u2,u3,u4,u5,.pointer (some ⟨gx,0,none⟩),.pointer (some ⟨gy,0,none⟩),u8,u9,B5,B6,B7,B8,B9,C0,C1,C2,C3,C4,C5,C6,C7,C8,C9,D0,D1,K5,K6,K7,K8,K9,L0,L1,L2,L3,L4,L5,L6,L7,L8,L9,M0,M1,M2,M3,M4,M5,M6,M7,M8,M9,N0,N1,N2,N3,N4,N5,N6,N7,N8,N9,O0,O1,O2,O3,O4,O5,O6,O7,O8,O9,P0,P1,P2,P3,P4,P5,P6,P7,P8,P9,Q0,Q1,Q2,Q3,Q4,Q5,Q6,Q7,Q8,Q9,R0,R3,R4,R5,R6,R7,R8,R9,A8,A9,B0,B1,B2,B3,B4,.bool true],defers:=[] } w') :
  reg77.wp Tryz.prog Q { tmps:=#[u0,u1,u2,u3,u4,u5,.pointer (some ⟨gx,0,none⟩),.pointer (some ⟨gy,0,none⟩),u8,u9,B5,B6,B7,B8,B9,C0,C1,C2,C3,C4,C5,C6,C7,C8,C9,D0,D1,D2,D3,D4,D5,D6,D7,D8,D9,E0,E1,E2,E3,E4,E5,E6,E7,E8,E9,F0,F1,F2,F3,F4,F5,F6,F7,F8,F9,G0,G1,G2,G3,G4,G5,G6,G7,G8,G9,H0,H1,H2,H3,H4,H5,H6,H7,H8,H9,I0,I1,I2,I3,I4,I5,I6,I7,I8,I9,J0,J1,J2,J3,J4,J5,J6,J7,J8,J9,K0,K1,K2,K3,K4,A0,A1,A2,A3,A4,A5,A6,A7],defers:=[] } W0:=by
 have HQ:=hid hQ
 clear hQ
 refine flat77 ?_
 have HS:Hid (∀ W,Below W0.heap.size W0 W->Row W gx 49 csx/\Row W gy 49 csy):=fun W h=>⟨R1.below h R1.lt,R2.below h R2.lt⟩
 clear R1 R2
 have hW:Below W0.heap.size W0 W0:=Below.refl _ _
 obtain ⟨rwx,rwy⟩:=HS.out W0 hW
 have fx0:=(rwx.cell 0).trans kx0
 have fy0:=(rwy.cell 0).trans ky0
 have fx1:=(rwx.cell 1).trans kx1
 have fy1:=(rwy.cell 1).trans ky1
 clear rwx rwy kx0 ky0 kx1 ky1
 go_wp2_with fail
 exact HQ.out _ _ _ _ _ _ _ _ _ _ _ _ _ _ _ _ _ _ _ _ _ _ _ _ _ _ _ _ _ _ _ _ _ _ _ _ _ _ _ _ _ _ _ _ _ _ _ _ _ _ _ _ _ _ _ _ _ _ _ _ _ _ _ _ _ _ _ _ _ _ _ _ _ _ _ _ _ _ _ _ _ hW

set_option maxHeartbeats 8000000 in
set_option maxRecDepth 20000 in
theorem s77_2 {Q:Exit->Act->World->Prop} (W0:World) (gx gy:Nat) (csx csy:List Value) (R1:Row W0 gx 49 csx) (R2:Row W0 gy 49 csy) (x0 y0:Int) (x1 y1:Int) (x2 y2:Bool) (kx0:csx[0]?=some (.int .i64 x0)) (ky0:csy[0]?=some (.int .i64 y0)) (kx1:csx[1]?=some (.int .i64 x1)) (ky1:csy[1]?=some (.int .i64 y1)) (kx2:csx[2]?=some (.bool x2)) (ky2:csy[2]?=some (.bool y2)) (p0:(x0 != y0)=false) (p1:(x1 != y1)=false) (p2:(x2 != y2)=true) (u0 u1 u2 u3 u4 u5 u8 u9 B5 B6 B7 B8 B9 C0 C1 C2 C3 C4 C5 C6 C7 C8 C9 D0 D1 D2 D3 D4 D5 D6 D7 D8 D9 E0 E1 E2 E3 E4 E5 E6 E7 E8 E9 F0 F1 F2 F3 F4 F5 F6 F7 F8 F9 G0 G1 G2 G3 G4 G5 G6 G7 G8 G9 H0 H1 H2 H3 H4 H5 H6 H7 H8 H9 I0 I1 I2 I3 I4 I5 I6 I7 I8 I9 J0 J1 J2 J3 J4 J5 J6 J7 J8 J9 K0 K1 K2 K3 K4 A0 A1 A2 A3 A4 A5 A6 A7:Value) (hQ:∀ (K5 K6 K7 K8 K9 L0 L1 L2 L3 L4 L5 L6 L7 L8 L9 M0 M1 M2 M3 M4 M5 M6 M7 M8 M9 N0 N1 N2 N3 N4 N5 N6 N7 N8 N9 O0 O1 O2 O3 O4 O5 O6 O7 O8 O9 P0 P1 P2 P3 P4 P5 P6 P7 P8 P9 Q0 Q1 Q2 Q3 Q4 Q5 Q6 Q7 Q8 Q9 R0 R3 R4 R5 R6 R7 R8 R9 A8 A9 B0 B1 B2 B3 B4:Value) (w':World),Below W0.heap.size W0 w'->Q .normal { tmps:=#[u0,u1,u2,u3,u4,u5,.pointer (some ⟨gx,0,none⟩),.pointer (some ⟨gy,0,none⟩),u8,u9,B5,B6,B7,B8,B9,C0,C1,C2,C3,C4,C5,C6,C7,C8,C9,D0,D1,K5,K6,K7,K8,K9,L0,L1,L2,L3,L4,L5,L6,L7,L8,L9,M0,M1,M2,M3,M4,M5,M6,M7,M8,M9,N0,N1,N2,N3,N4,N5,N6,N7,N8,N9,O0,O1,O2,O3,O4,O5,O6,O7,O8,O9,P0,P1,P2,P3,P4,P5,P6,P7,P8,P9,Q0,Q1,Q2,Q3,Q4,Q5,Q6,Q7,Q8,Q9,R0,R3,R4,R5,R6,R7,R8,R9,A8,A9,B0,B1,B2,B3,B4,.bool true],defers:=[] } w') :
  reg77.wp Tryz.prog Q { tmps:=#[u0,u1,u2,u3,u4,u5,.pointer (some ⟨gx,0,none⟩),.pointer (some ⟨gy,0,none⟩),u8,u9,B5,B6,B7,B8,B9,C0,C1,C2,C3,C4,C5,C6,C7,C8,C9,D0,D1,D2,D3,D4,D5,D6,D7,D8,D9,E0,E1,E2,E3,E4,E5,E6,E7,E8,E9,F0,F1,F2,F3,F4,F5,F6,F7,F8,F9,G0,G1,G2,G3,G4,G5,G6,G7,G8,G9,H0,H1,H2,H3,H4,H5,H6,H7,H8,H9,I0,I1,I2,I3,I4,I5,I6,I7,I8,I9,J0,J1,J2,J3,J4,J5,J6,J7,J8,J9,K0,K1,K2,K3,K4,A0,A1,A2,A3,A4,A5,A6,A7],defers:=[] } W0:=by
 have HQ:=hid hQ
 clear hQ
 refine flat77 ?_
 have p2a:=(bne_of p2).1
 have p2b:=(bne_of p2).2
 have HS:Hid (∀ W,Below W0.heap.size W0 W->Row W gx 49 csx/\Row W gy 49 csy):=fun W h=>⟨R1.below h R1.lt,R2.below h R2.lt⟩
 clear R1 R2
 have hW:Below W0.heap.size W0 W0:=Below.refl _ _
 obtain ⟨rwx,rwy⟩:=HS.out W0 hW
 have fx0:=(rwx.cell 0).trans kx0
 have fy0:=(rwy.cell 0).trans ky0
 have fx1:=(rwx.cell 1).trans kx1
 have fy1:=(rwy.cell 1).trans ky1
 have fx2:=(rwx.cell 2).trans kx2
 have fy2:=(rwy.cell 2).trans ky2
 clear rwx rwy kx0 ky0 kx1 ky1 kx2 ky2
 go_wp2_with fail
 exact HQ.out _ _ _ _ _ _ _ _ _ _ _ _ _ _ _ _ _ _ _ _ _ _ _ _ _ _ _ _ _ _ _ _ _ _ _ _ _ _ _ _ _ _ _ _ _ _ _ _ _ _ _ _ _ _ _ _ _ _ _ _ _ _ _ _ _ _ _ _ _ _ _ _ _ _ _ _ _ _ _ _ _ hW

set_option maxHeartbeats 8000000 in
set_option maxRecDepth 20000 in
theorem s77_3 {Q:Exit->Act->World->Prop} (W0:World) (gx gy:Nat) (csx csy:List Value) (R1:Row W0 gx 49 csx) (R2:Row W0 gy 49 csy) (x0 y0:Int) (x1 y1:Int) (x2 y2:Bool) (x3 y3:ByteArray) (kx0:csx[0]?=some (.int .i64 x0)) (ky0:csy[0]?=some (.int .i64 y0)) (kx1:csx[1]?=some (.int .i64 x1)) (ky1:csy[1]?=some (.int .i64 y1)) (kx2:csx[2]?=some (.bool x2)) (ky2:csy[2]?=some (.bool y2)) (kx3:csx[3]?=some (.string x3)) (ky3:csy[3]?=some (.string y3)) (p0:(x0 != y0)=false) (p1:(x1 != y1)=false) (p2:(x2 != y2)=false) (p3:(x3.toList == y3.toList)=false) (u0 u1 u2 u3 u4 u5 u8 u9 B5 B6 B7 B8 B9 C0 C1 C2 C3 C4 C5 C6 C7 C8 C9 D0 D1 D2 D3 D4 D5 D6 D7 D8 D9 E0 E1 E2 E3 E4 E5 E6 E7 E8 E9 F0 F1 F2 F3 F4 F5 F6 F7 F8 F9 G0 G1 G2 G3 G4 G5 G6 G7 G8 G9 H0 H1 H2 H3 H4 H5 H6 H7 H8 H9 I0 I1 I2 I3 I4 I5 I6 I7 I8 I9 J0 J1 J2 J3 J4 J5 J6 J7 J8 J9 K0 K1 K2 K3 K4 A0 A1 A2 A3 A4 A5 A6 A7:Value) (hQ:∀ (K5 K6 K7 K8 K9 L0 L1 L2 L3 L4 L5 L6 L7 L8 L9 M0 M1 M2 M3 M4 M5 M6 M7 M8 M9 N0 N1 N2 N3 N4 N5 N6 N7 N8 N9 O0 O1 O2 O3 O4 O5 O6 O7 O8 O9 P0 P1 P2 P3 P4 P5 P6 P7 P8 P9 Q0 Q1 Q2 Q3 Q4 Q5 Q6 Q7 Q8 Q9 R0 R3 R4 R5 R6 R7 R8 R9 A8 A9 B0 B1 B2 B3 B4:Value) (w':World),Below W0.heap.size W0 w'->Q .normal { tmps:=#[u0,u1,u2,u3,u4,u5,.pointer (some ⟨gx,0,none⟩),.pointer (some ⟨gy,0,none⟩),u8,u9,B5,B6,B7,B8,B9,C0,C1,C2,C3,C4,C5,C6,C7,C8,C9,D0,D1,K5,K6,K7,K8,K9,L0,L1,L2,L3,L4,L5,L6,L7,L8,L9,M0,M1,M2,M3,M4,M5,M6,M7,M8,M9,N0,N1,N2,N3,N4,N5,N6,N7,N8,N9,O0,O1,O2,O3,O4,O5,O6,O7,O8,O9,P0,P1,P2,P3,P4,P5,P6,P7,P8,P9,Q0,Q1,Q2,Q3,Q4,Q5,Q6,Q7,Q8,Q9,R0,R3,R4,R5,R6,R7,R8,R9,A8,A9,B0,B1,B2,B3,B4,.bool true],defers:=[] } w') :
  reg77.wp Tryz.prog Q { tmps:=#[u0,u1,u2,u3,u4,u5,.pointer (some ⟨gx,0,none⟩),.pointer (some ⟨gy,0,none⟩),u8,u9,B5,B6,B7,B8,B9,C0,C1,C2,C3,C4,C5,C6,C7,C8,C9,D0,D1,D2,D3,D4,D5,D6,D7,D8,D9,E0,E1,E2,E3,E4,E5,E6,E7,E8,E9,F0,F1,F2,F3,F4,F5,F6,F7,F8,F9,G0,G1,G2,G3,G4,G5,G6,G7,G8,G9,H0,H1,H2,H3,H4,H5,H6,H7,H8,H9,I0,I1,I2,I3,I4,I5,I6,I7,I8,I9,J0,J1,J2,J3,J4,J5,J6,J7,J8,J9,K0,K1,K2,K3,K4,A0,A1,A2,A3,A4,A5,A6,A7],defers:=[] } W0:=by
 have HQ:=hid hQ
 clear hQ
 refine flat77 ?_
 have p2a:=(bne_of p2).1
 have p2b:=(bne_of p2).2
 have HS:Hid (∀ W,Below W0.heap.size W0 W->Row W gx 49 csx/\Row W gy 49 csy):=fun W h=>⟨R1.below h R1.lt,R2.below h R2.lt⟩
 clear R1 R2
 have hW:Below W0.heap.size W0 W0:=Below.refl _ _
 obtain ⟨rwx,rwy⟩:=HS.out W0 hW
 have fx0:=(rwx.cell 0).trans kx0
 have fy0:=(rwy.cell 0).trans ky0
 have fx1:=(rwx.cell 1).trans kx1
 have fy1:=(rwy.cell 1).trans ky1
 have fx2:=(rwx.cell 2).trans kx2
 have fy2:=(rwy.cell 2).trans ky2
 have fx3:=(rwx.cell 3).trans kx3
 have fy3:=(rwy.cell 3).trans ky3
 clear rwx rwy kx0 ky0 kx1 ky1 kx2 ky2 kx3 ky3
 go_wp2_with fail
 exact HQ.out _ _ _ _ _ _ _ _ _ _ _ _ _ _ _ _ _ _ _ _ _ _ _ _ _ _ _ _ _ _ _ _ _ _ _ _ _ _ _ _ _ _ _ _ _ _ _ _ _ _ _ _ _ _ _ _ _ _ _ _ _ _ _ _ _ _ _ _ _ _ _ _ _ _ _ _ _ _ _ _ _ hW

set_option maxHeartbeats 8000000 in
set_option maxRecDepth 20000 in
theorem s77_4 {Q:Exit->Act->World->Prop} (W0:World) (gx gy:Nat) (csx csy:List Value) (R1:Row W0 gx 49 csx) (R2:Row W0 gy 49 csy) (x0 y0:Int) (x1 y1:Int) (x2 y2:Bool) (x3 y3:ByteArray) (x4 y4:Bool) (kx0:csx[0]?=some (.int .i64 x0)) (ky0:csy[0]?=some (.int .i64 y0)) (kx1:csx[1]?=some (.int .i64 x1)) (ky1:csy[1]?=some (.int .i64 y1)) (kx2:csx[2]?=some (.bool x2)) (ky2:csy[2]?=some (.bool y2)) (kx3:csx[3]?=some (.string x3)) (ky3:csy[3]?=some (.string y3)) (kx8:csx[8]?=some (.bool x4)) (ky8:csy[8]?=some (.bool y4)) (p0:(x0 != y0)=false) (p1:(x1 != y1)=false) (p2:(x2 != y2)=false) (p3:(x3.toList == y3.toList)=true) (p4:(x4 != y4)=true) (u0 u1 u2 u3 u4 u5 u8 u9 B5 B6 B7 B8 B9 C0 C1 C2 C3 C4 C5 C6 C7 C8 C9 D0 D1 D2 D3 D4 D5 D6 D7 D8 D9 E0 E1 E2 E3 E4 E5 E6 E7 E8 E9 F0 F1 F2 F3 F4 F5 F6 F7 F8 F9 G0 G1 G2 G3 G4 G5 G6 G7 G8 G9 H0 H1 H2 H3 H4 H5 H6 H7 H8 H9 I0 I1 I2 I3 I4 I5 I6 I7 I8 I9 J0 J1 J2 J3 J4 J5 J6 J7 J8 J9 K0 K1 K2 K3 K4 A0 A1 A2 A3 A4 A5 A6 A7:Value) (hQ:∀ (K5 K6 K7 K8 K9 L0 L1 L2 L3 L4 L5 L6 L7 L8 L9 M0 M1 M2 M3 M4 M5 M6 M7 M8 M9 N0 N1 N2 N3 N4 N5 N6 N7 N8 N9 O0 O1 O2 O3 O4 O5 O6 O7 O8 O9 P0 P1 P2 P3 P4 P5 P6 P7 P8 P9 Q0 Q1 Q2 Q3 Q4 Q5 Q6 Q7 Q8 Q9 R0 R3 R4 R5 R6 R7 R8 R9 A8 A9 B0 B1 B2 B3 B4:Value) (w':World),Below W0.heap.size W0 w'->Q .normal { tmps:=#[u0,u1,u2,u3,u4,u5,.pointer (some ⟨gx,0,none⟩),.pointer (some ⟨gy,0,none⟩),u8,u9,B5,B6,B7,B8,B9,C0,C1,C2,C3,C4,C5,C6,C7,C8,C9,D0,D1,K5,K6,K7,K8,K9,L0,L1,L2,L3,L4,L5,L6,L7,L8,L9,M0,M1,M2,M3,M4,M5,M6,M7,M8,M9,N0,N1,N2,N3,N4,N5,N6,N7,N8,N9,O0,O1,O2,O3,O4,O5,O6,O7,O8,O9,P0,P1,P2,P3,P4,P5,P6,P7,P8,P9,Q0,Q1,Q2,Q3,Q4,Q5,Q6,Q7,Q8,Q9,R0,R3,R4,R5,R6,R7,R8,R9,A8,A9,B0,B1,B2,B3,B4,.bool true],defers:=[] } w') :
  reg77.wp Tryz.prog Q { tmps:=#[u0,u1,u2,u3,u4,u5,.pointer (some ⟨gx,0,none⟩),.pointer (some ⟨gy,0,none⟩),u8,u9,B5,B6,B7,B8,B9,C0,C1,C2,C3,C4,C5,C6,C7,C8,C9,D0,D1,D2,D3,D4,D5,D6,D7,D8,D9,E0,E1,E2,E3,E4,E5,E6,E7,E8,E9,F0,F1,F2,F3,F4,F5,F6,F7,F8,F9,G0,G1,G2,G3,G4,G5,G6,G7,G8,G9,H0,H1,H2,H3,H4,H5,H6,H7,H8,H9,I0,I1,I2,I3,I4,I5,I6,I7,I8,I9,J0,J1,J2,J3,J4,J5,J6,J7,J8,J9,K0,K1,K2,K3,K4,A0,A1,A2,A3,A4,A5,A6,A7],defers:=[] } W0:=by
 have HQ:=hid hQ
 clear hQ
 refine flat77 ?_
 have p2a:=(bne_of p2).1
 have p2b:=(bne_of p2).2
 have p4a:=(bne_of p4).1
 have p4b:=(bne_of p4).2
 have HS:Hid (∀ W,Below W0.heap.size W0 W->Row W gx 49 csx/\Row W gy 49 csy):=fun W h=>⟨R1.below h R1.lt,R2.below h R2.lt⟩
 clear R1 R2
 have hW:Below W0.heap.size W0 W0:=Below.refl _ _
 obtain ⟨rwx,rwy⟩:=HS.out W0 hW
 have fx0:=(rwx.cell 0).trans kx0
 have fy0:=(rwy.cell 0).trans ky0
 have fx1:=(rwx.cell 1).trans kx1
 have fy1:=(rwy.cell 1).trans ky1
 have fx2:=(rwx.cell 2).trans kx2
 have fy2:=(rwy.cell 2).trans ky2
 have fx3:=(rwx.cell 3).trans kx3
 have fy3:=(rwy.cell 3).trans ky3
 have fx8:=(rwx.cell 8).trans kx8
 have fy8:=(rwy.cell 8).trans ky8
 clear rwx rwy kx0 ky0 kx1 ky1 kx2 ky2 kx3 ky3 kx8 ky8
 go_wp2_with fail
 exact HQ.out _ _ _ _ _ _ _ _ _ _ _ _ _ _ _ _ _ _ _ _ _ _ _ _ _ _ _ _ _ _ _ _ _ _ _ _ _ _ _ _ _ _ _ _ _ _ _ _ _ _ _ _ _ _ _ _ _ _ _ _ _ _ _ _ _ _ _ _ _ _ _ _ _ _ _ _ _ _ _ _ _ hW

set_option maxHeartbeats 8000000 in
set_option maxRecDepth 20000 in
theorem s77_5 {Q:Exit->Act->World->Prop} (W0:World) (gx gy:Nat) (csx csy:List Value) (R1:Row W0 gx 49 csx) (R2:Row W0 gy 49 csy) (x0 y0:Int) (x1 y1:Int) (x2 y2:Bool) (x3 y3:ByteArray) (x4 y4:Bool) (xc4 yc4 xc5 yc5 xc6 yc6 xc7 yc7:Value) (kx0:csx[0]?=some (.int .i64 x0)) (ky0:csy[0]?=some (.int .i64 y0)) (kx1:csx[1]?=some (.int .i64 x1)) (ky1:csy[1]?=some (.int .i64 y1)) (kx2:csx[2]?=some (.bool x2)) (ky2:csy[2]?=some (.bool y2)) (kx3:csx[3]?=some (.string x3)) (ky3:csy[3]?=some (.string y3)) (kx8:csx[8]?=some (.bool x4)) (ky8:csy[8]?=some (.bool y4)) (kx4:csx[4]?=some (xc4)) (ky4:csy[4]?=some (yc4)) (kx5:csx[5]?=some (xc5)) (ky5:csy[5]?=some (yc5)) (kx6:csx[6]?=some (xc6)) (ky6:csy[6]?=some (yc6)) (kx7:csx[7]?=some (xc7)) (ky7:csy[7]?=some (yc7)) (p0:(x0 != y0)=false) (p1:(x1 != y1)=false) (p2:(x2 != y2)=false) (p3:(x3.toList == y3.toList)=true) (p4:(x4 != y4)=false) (r5:∀ W,Below W0.heap.size W0 W->Calls Tryz.prog 16 #[.agg #[xc4,xc5,xc6,xc7],.agg #[yc4,yc5,yc6,yc7]] W fun ev w'=>ev=.returned (.bool false)/\Below W0.heap.size W0 w') (u0 u1 u2 u3 u4 u5 u8 u9 B5 B6 B7 B8 B9 C0 C1 C2 C3 C4 C5 C6 C7 C8 C9 D0 D1 D2 D3 D4 D5 D6 D7 D8 D9 E0 E1 E2 E3 E4 E5 E6 E7 E8 E9 F0 F1 F2 F3 F4 F5 F6 F7 F8 F9 G0 G1 G2 G3 G4 G5 G6 G7 G8 G9 H0 H1 H2 H3 H4 H6 H7 H8 H9 I0 I1 I2 I3 I4 I5 I6 I7 I8 I9 J0 J1 J2 J3 J4 J5 J6 J7 J8 J9 K0 K1 K2 K3 K4 K5 A0 A1 A2 A3 A4 A5 A6 A7:Value) (hQ:∀ (K6 K7 K8 K9 L0 L1 L2 L3 L4 L5 L6 L7 L8 L9 M0 M1 M2 M3 M4 M5 M6 M7 M8 M9 N0 N1 N2 N3 N4 N5 N6 N7 N8 N9 O0 O1 O2 O3 O4 O5 O6 O7 O8 O9 P0 P1 P2 P3 P4 P5 P6 P7 P8 P9 Q0 Q1 Q2 Q3 Q4 Q5 Q6 Q7 Q8 Q9 R0 R3 R4 R5 R6 R7 R8 R9 S0 A8 A9 B0 B1 B2 B3 B4:Value) (w':World),Below W0.heap.size W0 w'->Q .normal { tmps:=#[u0,u1,u2,u3,u4,u5,.pointer (some ⟨gx,0,none⟩),.pointer (some ⟨gy,0,none⟩),u8,u9,B5,B6,B7,B8,B9,C0,C1,C2,C3,C4,C5,C6,C7,C8,C9,D0,D1,K6,K7,K8,K9,L0,L1,L2,L3,L4,L5,L6,L7,L8,L9,M0,M1,M2,M3,M4,M5,M6,M7,M8,M9,N0,N1,N2,N3,N4,N5,N6,N7,N8,N9,O0,O1,O2,O3,O4,O5,O6,O7,O8,O9,P0,P1,P2,P3,P4,P5,P6,P7,P8,P9,Q0,Q1,Q2,Q3,Q4,Q5,Q6,Q7,Q8,Q9,R0,R3,R4,R5,R6,R7,R8,R9,S0,A8,A9,B0,B1,B2,B3,B4,.bool true],defers:=[] } w') :
  reg77.wp Tryz.prog Q { tmps:=#[u0,u1,u2,u3,u4,u5,.pointer (some ⟨gx,0,none⟩),.pointer (some ⟨gy,0,none⟩),u8,u9,B5,B6,B7,B8,B9,C0,C1,C2,C3,C4,C5,C6,C7,C8,C9,D0,D1,D2,D3,D4,D5,D6,D7,D8,D9,E0,E1,E2,E3,E4,E5,E6,E7,E8,E9,F0,F1,F2,F3,F4,F5,F6,F7,F8,F9,G0,G1,G2,G3,G4,G5,G6,G7,G8,G9,H0,H1,H2,H3,H4,H6,H7,H8,H9,I0,I1,I2,I3,I4,I5,I6,I7,I8,I9,J0,J1,J2,J3,J4,J5,J6,J7,J8,J9,K0,K1,K2,K3,K4,K5,A0,A1,A2,A3,A4,A5,A6,A7],defers:=[] } W0:=by
 have HQ:=hid hQ
 clear hQ
 refine flat77 ?_
 have p2a:=(bne_of p2).1
 have p2b:=(bne_of p2).2
 have p4a:=(bne_of p4).1
 have p4b:=(bne_of p4).2
 have H5:=hid r5
 clear r5
 have HS:Hid (∀ W,Below W0.heap.size W0 W->Row W gx 49 csx/\Row W gy 49 csy):=fun W h=>⟨R1.below h R1.lt,R2.below h R2.lt⟩
 clear R1 R2
 have hW:Below W0.heap.size W0 W0:=Below.refl _ _
 obtain ⟨rwx,rwy⟩:=HS.out W0 hW
 have fx0:=(rwx.cell 0).trans kx0
 have fy0:=(rwy.cell 0).trans ky0
 have fx1:=(rwx.cell 1).trans kx1
 have fy1:=(rwy.cell 1).trans ky1
 have fx2:=(rwx.cell 2).trans kx2
 have fy2:=(rwy.cell 2).trans ky2
 have fx3:=(rwx.cell 3).trans kx3
 have fy3:=(rwy.cell 3).trans ky3
 have fx8:=(rwx.cell 8).trans kx8
 have fy8:=(rwy.cell 8).trans ky8
 have fx4:=(rwx.cell 4).trans kx4
 have fy4:=(rwy.cell 4).trans ky4
 have fx5:=(rwx.cell 5).trans kx5
 have fy5:=(rwy.cell 5).trans ky5
 have fx6:=(rwx.cell 6).trans kx6
 have fy6:=(rwy.cell 6).trans ky6
 have fx7:=(rwx.cell 7).trans kx7
 have fy7:=(rwy.cell 7).trans ky7
 clear rwx rwy kx0 ky0 kx1 ky1 kx2 ky2 kx3 ky3 kx8 ky8 kx4 ky4 kx5 ky5 kx6 ky6 kx7 ky7
 go_wp2_with fail
 refine (H5.out _ hW).mono ?_
 rintro _ W5 ⟨rfl,hb5⟩
 clear fx0 fy0 fx1 fy1 fx2 fy2 fx3 fy3 fx8 fy8 fx4 fy4 fx5 fy5 fx6 fy6 fx7 fy7 H5
 go_wp2_with fail
 exact HQ.out _ _ _ _ _ _ _ _ _ _ _ _ _ _ _ _ _ _ _ _ _ _ _ _ _ _ _ _ _ _ _ _ _ _ _ _ _ _ _ _ _ _ _ _ _ _ _ _ _ _ _ _ _ _ _ _ _ _ _ _ _ _ _ _ _ _ _ _ _ _ _ _ _ _ _ _ _ _ _ _ _ hb5

set_option maxHeartbeats 8000000 in
set_option maxRecDepth 20000 in
theorem s77_6 {Q:Exit->Act->World->Prop} (W0:World) (gx gy:Nat) (csx csy:List Value) (R1:Row W0 gx 49 csx) (R2:Row W0 gy 49 csy) (x0 y0:Int) (x1 y1:Int) (x2 y2:Bool) (x3 y3:ByteArray) (x4 y4:Bool) (xc4 yc4 xc5 yc5 xc6 yc6 xc7 yc7:Value) (xc9 yc9 xc10 yc10:Value) (kx0:csx[0]?=some (.int .i64 x0)) (ky0:csy[0]?=some (.int .i64 y0)) (kx1:csx[1]?=some (.int .i64 x1)) (ky1:csy[1]?=some (.int .i64 y1)) (kx2:csx[2]?=some (.bool x2)) (ky2:csy[2]?=some (.bool y2)) (kx3:csx[3]?=some (.string x3)) (ky3:csy[3]?=some (.string y3)) (kx8:csx[8]?=some (.bool x4)) (ky8:csy[8]?=some (.bool y4)) (kx4:csx[4]?=some (xc4)) (ky4:csy[4]?=some (yc4)) (kx5:csx[5]?=some (xc5)) (ky5:csy[5]?=some (yc5)) (kx6:csx[6]?=some (xc6)) (ky6:csy[6]?=some (yc6)) (kx7:csx[7]?=some (xc7)) (ky7:csy[7]?=some (yc7)) (kx9:csx[9]?=some (xc9)) (ky9:csy[9]?=some (yc9)) (kx10:csx[10]?=some (xc10)) (ky10:csy[10]?=some (yc10)) (p0:(x0 != y0)=false) (p1:(x1 != y1)=false) (p2:(x2 != y2)=false) (p3:(x3.toList == y3.toList)=true) (p4:(x4 != y4)=false) (r5:∀ W,Below W0.heap.size W0 W->Calls Tryz.prog 16 #[.agg #[xc4,xc5,xc6,xc7],.agg #[yc4,yc5,yc6,yc7]] W fun ev w'=>ev=.returned (.bool true)/\Below W0.heap.size W0 w') (r6:∀ W,Below W0.heap.size W0 W->Calls Tryz.prog 102 #[.agg #[xc9,xc10],.agg #[yc9,yc10]] W fun ev w'=>ev=.returned (.bool false)/\Below W0.heap.size W0 w') (u0 u1 u2 u3 u4 u5 u8 u9 B5 B6 B7 B8 B9 C0 C1 C2 C3 C4 C5 C6 C7 C8 C9 D0 D1 D2 D3 D4 D5 D6 D7 D8 D9 E0 E1 E2 E3 E4 E5 E6 E7 E8 E9 F0 F1 F2 F3 F4 F5 F6 F7 F8 F9 G0 G1 G2 G3 G4 G5 G6 G7 G8 G9 H0 H1 H2 H3 H4 H7 H8 H9 I0 I1 I2 I3 I4 I5 I6 I7 I8 I9 J0 J1 J2 J3 J4 J5 J6 J7 J8 J9 K0 K1 K2 K3 K4 K5 K6 A0 A1 A2 A3 A4 A5 A6 A7:Value) (hQ:∀ (K7 K8 K9 L0 L1 L2 L3 L4 L5 L6 L7 L8 L9 M0 M1 M2 M3 M4 M5 M6 M7 M8 M9 N0 N1 N2 N3 N4 N5 N6 N7 N8 N9 O0 O1 O2 O3 O4 O5 O6 O7 O8 O9 P0 P1 P2 P3 P4 P5 P6 P7 P8 P9 Q0 Q1 Q2 Q3 Q4 Q5 Q6 Q7 Q8 Q9 R0 R3 R4 R5 R6 R7 R8 R9 S0 S1 A8 A9 B0 B1 B2 B3 B4:Value) (w':World),Below W0.heap.size W0 w'->Q .normal { tmps:=#[u0,u1,u2,u3,u4,u5,.pointer (some ⟨gx,0,none⟩),.pointer (some ⟨gy,0,none⟩),u8,u9,B5,B6,B7,B8,B9,C0,C1,C2,C3,C4,C5,C6,C7,C8,C9,D0,D1,K7,K8,K9,L0,L1,L2,L3,L4,L5,L6,L7,L8,L9,M0,M1,M2,M3,M4,M5,M6,M7,M8,M9,N0,N1,N2,N3,N4,N5,N6,N7,N8,N9,O0,O1,O2,O3,O4,O5,O6,O7,O8,O9,P0,P1,P2,P3,P4,P5,P6,P7,P8,P9,Q0,Q1,Q2,Q3,Q4,Q5,Q6,Q7,Q8,Q9,R0,R3,R4,R5,R6,R7,R8,R9,S0,S1,A8,A9,B0,B1,B2,B3,B4,.bool true],defers:=[] } w') :
  reg77.wp Tryz.prog Q { tmps:=#[u0,u1,u2,u3,u4,u5,.pointer (some ⟨gx,0,none⟩),.pointer (some ⟨gy,0,none⟩),u8,u9,B5,B6,B7,B8,B9,C0,C1,C2,C3,C4,C5,C6,C7,C8,C9,D0,D1,D2,D3,D4,D5,D6,D7,D8,D9,E0,E1,E2,E3,E4,E5,E6,E7,E8,E9,F0,F1,F2,F3,F4,F5,F6,F7,F8,F9,G0,G1,G2,G3,G4,G5,G6,G7,G8,G9,H0,H1,H2,H3,H4,H7,H8,H9,I0,I1,I2,I3,I4,I5,I6,I7,I8,I9,J0,J1,J2,J3,J4,J5,J6,J7,J8,J9,K0,K1,K2,K3,K4,K5,K6,A0,A1,A2,A3,A4,A5,A6,A7],defers:=[] } W0:=by
 have HQ:=hid hQ
 clear hQ
 refine flat77 ?_
 have p2a:=(bne_of p2).1
 have p2b:=(bne_of p2).2
 have p4a:=(bne_of p4).1
 have p4b:=(bne_of p4).2
 have H5:=hid r5
 have H6:=hid r6
 clear r5 r6
 have HS:Hid (∀ W,Below W0.heap.size W0 W->Row W gx 49 csx/\Row W gy 49 csy):=fun W h=>⟨R1.below h R1.lt,R2.below h R2.lt⟩
 clear R1 R2
 have hW:Below W0.heap.size W0 W0:=Below.refl _ _
 obtain ⟨rwx,rwy⟩:=HS.out W0 hW
 have fx0:=(rwx.cell 0).trans kx0
 have fy0:=(rwy.cell 0).trans ky0
 have fx1:=(rwx.cell 1).trans kx1
 have fy1:=(rwy.cell 1).trans ky1
 have fx2:=(rwx.cell 2).trans kx2
 have fy2:=(rwy.cell 2).trans ky2
 have fx3:=(rwx.cell 3).trans kx3
 have fy3:=(rwy.cell 3).trans ky3
 have fx8:=(rwx.cell 8).trans kx8
 have fy8:=(rwy.cell 8).trans ky8
 have fx4:=(rwx.cell 4).trans kx4
 have fy4:=(rwy.cell 4).trans ky4
 have fx5:=(rwx.cell 5).trans kx5
 have fy5:=(rwy.cell 5).trans ky5
 have fx6:=(rwx.cell 6).trans kx6
 have fy6:=(rwy.cell 6).trans ky6
 have fx7:=(rwx.cell 7).trans kx7
 have fy7:=(rwy.cell 7).trans ky7
 clear rwx rwy kx0 ky0 kx1 ky1 kx2 ky2 kx3 ky3 kx8 ky8 kx4 ky4 kx5 ky5 kx6 ky6 kx7 ky7
 go_wp2_with fail
 refine (H5.out _ hW).mono ?_
 rintro _ W5 ⟨rfl,hb5⟩
 clear fx0 fy0 fx1 fy1 fx2 fy2 fx3 fy3 fx8 fy8 fx4 fy4 fx5 fy5 fx6 fy6 fx7 fy7 H5
 obtain ⟨rwx,rwy⟩:=HS.out W5 hb5
 have fx9:=(rwx.cell 9).trans kx9
 have fy9:=(rwy.cell 9).trans ky9
 have fx10:=(rwx.cell 10).trans kx10
 have fy10:=(rwy.cell 10).trans ky10
 clear rwx rwy kx9 ky9 kx10 ky10
 go_wp2_with fail
 refine (H6.out _ hb5).mono ?_
 rintro _ W6 ⟨rfl,hb6⟩
 clear fx9 fy9 fx10 fy10 H6
 go_wp2_with fail
 exact HQ.out _ _ _ _ _ _ _ _ _ _ _ _ _ _ _ _ _ _ _ _ _ _ _ _ _ _ _ _ _ _ _ _ _ _ _ _ _ _ _ _ _ _ _ _ _ _ _ _ _ _ _ _ _ _ _ _ _ _ _ _ _ _ _ _ _ _ _ _ _ _ _ _ _ _ _ _ _ _ _ _ _ hb6
end Go.Proofs.YtjenmmkamhplkaaGreat
