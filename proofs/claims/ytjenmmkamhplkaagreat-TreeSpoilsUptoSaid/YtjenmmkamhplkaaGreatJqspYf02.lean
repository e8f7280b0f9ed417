/- Part of the proof. -/
import Derived.Test.YtjenmmkamhplkaaGreatJqspYv64
import Derived.Test.YtjenmmkamhplkaaGreatQqspXss
import Derived.Test.YtjenmmkamhplkaaGreatJqspFew4
namespace Go.Proofs.YtjenmmkamhplkaaGreat
open Go.RowKit
set_option maxHeartbeats 8000000
set_option maxRecDepth 20000
def blockAt (n:Nat):Code->Option Code
 | .block m c=>if m=n then some (.block m c) else blockAt n c
 | .seq a b=>match blockAt n a with
  | some c=>some c
  | none=>blockAt n b
 | .loop c=>blockAt n c
 | .cond _ a b=>match blockAt n a with
  | some c=>some c
  | none=>blockAt n b
 | _=>none
def innerB:Code->Code
 | .block _ c=>c
 | c=>c
def first2 (t:Code):Code->Code
 | .seq a (.seq b _)=>.seq a (.seq b t)
 | c=>c
def third (t:Code):Code->Code
 | .seq _ (.seq _ (.seq c _))=>.seq c t
 | c=>c
def next3 (t:Code):Code->Code
 | .seq _ (.seq _ (.seq _ (.seq a (.seq b (.seq c _)))))=>.seq a (.seq b (.seq c t))
 | c=>c
def past6:Code->Code
 | .seq _ (.seq _ (.seq _ (.seq _ (.seq _ (.seq _ t)))))=>t
 | c=>c
def Sst (w:World) (g gx:Nat) (cs xs:List Value) (W:World):Prop:=(w.heap.size<=g/\g<gx)/\Below w.heap.size w W/\Row W g 49 cs/\Row W gx 49 xs
theorem Sst.call {w W W':World} {g gx:Nat} {cs xs:List Value} (h:Sst w g gx cs xs W) (hb:Below W.heap.size W W'):Sst w g gx cs xs W' :=
 ⟨h.1,h.2.1.trans (below_le hb h.2.1.size),h.2.2.1.below hb h.2.2.1.lt,h.2.2.2.below hb h.2.2.2.lt⟩
theorem Sst.stay {w W W':World} {g gx:Nat} {cs xs ys:List Value} (h:Sst w g gx cs xs W) (hs:Stay (fun k=>k=gx) W W') (hr:Row W' gx 49 ys):Sst w g gx cs ys W' :=
 ⟨h.1,h.2.1.trans (hs.below h.2.1.size (fun k hk=>by have:=h.1;omega)),hs.rowNe h.2.2.1 (by have:=h.1;omega),hr⟩
theorem Sst.set {w W:World} {g gx:Nat} {cs xs:List Value} (h:Sst w g gx cs xs W) (j:Nat) (v:Value):Sst w g gx cs (xs.set j v) (W.setCell ⟨gx,j,none⟩ v) :=
 h.stay (Stay.set (X:=fun k=>k=gx) (Stay.refl _ _) (fun _=>rfl) j v) (h.2.2.2.set j v)
theorem onT:[Value.int .i64 0,.string ⟨#[]⟩,.slice none 0 0,.slice none 0 0].toArray.all (·.oneCell')=true:=all_one (by repeat (first|exact ones_nil|refine ones_cons rfl ?_))
theorem onP:[Value.string ⟨#[]⟩,.slice none 0 0].toArray.all (·.oneCell')=true:=all_one (by repeat (first|exact ones_nil|refine ones_cons rfl ?_))
theorem onO:[Value.int .i64 0,.int .i64 0,.string ⟨#[]⟩,.slice none 0 0].toArray.all (·.oneCell')=true:=all_one (by repeat (first|exact ones_nil|refine ones_cons rfl ?_))
theorem onV:[Value.int .i64 0,.int .i64 0,.int .i64 0,.string ⟨#[]⟩,.slice none 0 0,.int .i64 0,.int .i64 0,.string ⟨#[]⟩,.slice none 0 0,.int .i64 0,.string ⟨#[]⟩,.slice none 0 0,.string ⟨#[]⟩,.slice none 0 0,.slice none 0 0].toArray.all (·.oneCell')=true:=all_one (by repeat (first|exact ones_nil|refine ones_cons rfl ?_))
def A26 (w:World) (nm:ByteArray) (b:Bool):Prop:=∀ W,Below w.heap.size w W->Calls Tryz.prog 26 #[.string nm] W (Rb b W)
def A1 (w:World) (f:Nat) (cs:List Value) (b:Bool):Prop:=∀ W,Below w.heap.size w W->Calls Tryz.prog f #[.agg cs.toArray] W (Rb b W)
def A59 (w:World) (v:Value) (d:Int) (b:Bool):Prop:=∀ W,Below w.heap.size w W->Calls Tryz.prog 59 #[v,.int .i64 (d+1)] W (Rb b W)
def A77 (w:World) (xs:List Value) (b:Bool):Prop:=∀ (W:World) (a1 a2:Nat),Below w.heap.size w W->Row W a1 49 xs->Row W a2 49 (stCells 0 0)->Calls Tryz.prog 77 #[.slice (some ⟨a1,0,none⟩) 1 1,.slice (some ⟨a2,0,none⟩) 1 1] W (Rb b W)
theorem pbool (p:Prop):∃ B:Bool,B=true↔p:=by
 by_cases h:p
 ·exact ⟨true,fun _=>h,fun _=>rfl⟩
 ·exact ⟨false,fun h'=>absurd h' (by decide),fun h'=>absurd h' h⟩
theorem Row.midr {w:World} {g t:Nat} {L:List Value} (h:Row w g t L) (A cs R:List Value) (off:Nat) (hA:A.length=off) (e:L=A ++ (cs ++ R)):w.rangeAt g off cs:=by
 intro j v hj
 rw [h.cell (off+j),e,List.getElem?_append_right (by omega),show off+j - A.length=j by omega]
 rw [List.getElem?_append_left (List.getElem?_eq_some_iff.1 hj).1]
 exact hj
theorem p67 {Q:Exit->Act->World->Prop} {t:Code} {w W0:World} (hw:Below w.heap.size w W0) {b o k n cap:Nat} {cs:List Value} (hkn:k<n) (hc:W0.rangeAt b (o+k * 32) cs) (h1:cs.toArray.all (·.oneCell')=true) (hl:cs.length=32)
  {u1 u2 u3 u4 u6 u7 u8 u9 H7 H8 H9 I0 I1 I2 I3 I4 I5 P8 P9 Q0 Q1 Q2 Q3 Q4 Q5 Q6 I6 I7 I8 I9 J0 J1 J2 J3 J4 J5 J6 J7 J8 J9 K0 K1 K2 K3 K4 K5 K6 K7 K8 K9 L0 L1 L2 L3 L4 L5 L6 L7 L8 L9 M0 M1 M2 M3 M4 M5 M6 M7 M8 M9 N0 N1 N2 N3 N4 N5 N6 N7 N8 N9 O0 O1 O2 O3 O4 O5 O6 O7 O8 O9 P0 P1 P2 P3 P4 P5 P6 P7 A0 A2 A3 A4 A5 A6 A7 A8 A9 B0 B1 B2 B3 B4 B5 B6 B7 B8 B9 C0 C1 C2 C3 C4 C5 C6 C7 C8 C9 D0 D1 D2 D3 D4 D5 D6 D7 D8 D9 E0 E1 E2 E3 E4 E5 E6 E7 E8 E9 F0 F1 F2 F3 F4 F5 F6 F7 F8 F9 G0 G1 G2 G3 G4 G5 G6 G7 G8 G9 H0 H2 H3 H4 H5 H6:Value}
  (hQ:∀ (W':World) (g gx:Nat) (R2 R3 R4 R5 R6:Value),Sst w g gx cs cs W'->t.wp Tryz.prog Q { tmps:=#[.slice (some ⟨b,o,none⟩) n cap,u1,u2,u3,u4,.int .i64 (k:Int),.pointer (some ⟨g,0,none⟩),.pointer (some ⟨gx,0,none⟩),u8,u9,H7,H8,H9,I0,I1,I2,I3,I4,I5,R2,R3,R4,R5,R6,Q3,Q4,Q5,Q6,I6,I7,I8,I9,J0,J1,J2,J3,J4,J5,J6,J7,J8,J9,K0,K1,K2,K3,K4,K5,K6,K7,K8,K9,L0,L1,L2,L3,L4,L5,L6,L7,L8,L9,M0,M1,M2,M3,M4,M5,M6,M7,M8,M9,N0,N1,N2,N3,N4,N5,N6,N7,N8,N9,O0,O1,O2,O3,O4,O5,O6,O7,O8,O9,P0,P1,P2,P3,P4,P5,P6,P7,A0,A2,A3,A4,A5,A6,A7,A8,A9,B0,B1,B2,B3,B4,B5,B6,B7,B8,B9,C0,C1,C2,C3,C4,C5,C6,C7,C8,C9,D0,D1,D2,D3,D4,D5,D6,D7,D8,D9,E0,E1,E2,E3,E4,E5,E6,E7,E8,E9,F0,F1,F2,F3,F4,F5,F6,F7,F8,F9,G0,G1,G2,G3,G4,G5,G6,G7,G8,G9,H0,H2,H3,H4,H5,H6],defers:=[] } W') :
  Code.wp Tryz.prog (first2 t (innerB ((Tryz.f59.body.bind (blockAt 1)).getD .skip))) Q { tmps:=#[.slice (some ⟨b,o,none⟩) n cap,u1,u2,u3,u4,.int .i64 (k:Int),u6,u7,u8,u9,H7,H8,H9,I0,I1,I2,I3,I4,I5,P8,P9,Q0,Q1,Q2,Q3,Q4,Q5,Q6,I6,I7,I8,I9,J0,J1,J2,J3,J4,J5,J6,J7,J8,J9,K0,K1,K2,K3,K4,K5,K6,K7,K8,K9,L0,L1,L2,L3,L4,L5,L6,L7,L8,L9,M0,M1,M2,M3,M4,M5,M6,M7,M8,M9,N0,N1,N2,N3,N4,N5,N6,N7,N8,N9,O0,O1,O2,O3,O4,O5,O6,O7,O8,O9,P0,P1,P2,P3,P4,P5,P6,P7,A0,A2,A3,A4,A5,A6,A7,A8,A9,B0,B1,B2,B3,B4,B5,B6,B7,B8,B9,C0,C1,C2,C3,C4,C5,C6,C7,C8,C9,D0,D1,D2,D3,D4,D5,D6,D7,D8,D9,E0,E1,E2,E3,E4,E5,E6,E7,E8,E9,F0,F1,F2,F3,F4,F5,F6,F7,F8,F9,G0,G1,G2,G3,G4,G5,G6,G7,G8,G9,H0,H2,H3,H4,H5,H6],defers:=[] } W0:=by
 have HQ:=hid hQ
 have HW:=hid hw
 have H1:=hid h1
 have HC:=hid hc
 have i1:(k:Int)<(n:Int):=by omega
 clear hQ hw h1 hc
 have hi:(Tryz.prog.info? 49).map (·.size)=some cs.length:=by rw [hl];kernel_rfl
 have hi2:(Tryz.prog.info? 49).map (·.size)=some cs.toArray.size:=by rw [List.size_toArray,hl];kernel_rfl
 have hz:(32:Nat)=cs.toArray.size:=by rw [List.size_toArray,hl]
 have HI:=hid hi
 have HI2:=hid hi2
 have HZ:=hid hz
 clear hl hi hi2 hz
 conv=>arg 2;whnf
 dsimp only
 go_wp2_with (first|(refine load_midG rfl 49 (.tmp 21) rfl b (o+k * 32) rfl cs _ HC.out Tryz.underlying49 rfl HI.out ?_)|(refine store_newL rfl 49 (.tmp 6) (.tmp 22) rfl cs _ 49 rfl rfl HI2.out HZ.out H1.out ?_;intro w1 r1 b1;have R1x:=hid r1;have B1x:=hid b1;have rg:=hid r1.range;clear r1 b1)|(refine load_midG rfl 49 (.tmp 6) rfl W0.heap.size 0 rfl cs _ rg.out Tryz.underlying49 rfl HI.out ?_)|(refine store_newL rfl 49 (.tmp 7) (.tmp 23) rfl cs _ 49 rfl rfl HI2.out HZ.out H1.out ?_;intro w2 r2 b2;have RB2:=hid (And.intro r2 b2);have HS8:Hid (Sst w W0.heap.size w1.heap.size cs cs w2):=⟨⟨HW.out.size,R1x.out.lt⟩,HW.out.trans ((below_le B1x.out HW.out.size).trans (below_le RB2.out.2 (Nat.le_trans HW.out.size B1x.out.size))),R1x.out.below RB2.out.2 R1x.out.lt,RB2.out.1⟩;clear r2 b2 rg HC))
 exact HQ.out _ _ _ _ _ _ _ _ HS8.out
theorem p8 {Q:Exit->Act->World->Prop} {t:Code} {w W0:World} {g gx:Nat}
  {kd ps:Int} {mu has:Bool} {nm:ByteArray} {t0 t1 t2 t3 p0 p1 v0 v1 v2 v3 v4 v5 v6 v7 v8 v9 Q7 Q8 Q9 R0 R1 o0 o1 o2 o3:Value} {pt pe:Option Addr} {nt ct ne ce:Nat} (hS:Sst w g gx [.int .i64 kd,.int .i64 ps,.bool mu,.string nm,t0,t1,t2,t3,.bool has,p0,p1,v0,v1,v2,v3,v4,v5,v6,v7,v8,v9,Q7,Q8,Q9,R0,R1,o0,o1,o2,o3,.slice pt nt ct,.slice pe ne ce] [.int .i64 kd,.int .i64 ps,.bool mu,.string nm,t0,t1,t2,t3,.bool has,p0,p1,v0,v1,v2,v3,v4,v5,v6,v7,v8,v9,Q7,Q8,Q9,R0,R1,o0,o1,o2,o3,.slice pt nt ct,.slice pe ne ce] W0)
  {u0 u1 u2 u3 u4 u5 u8 u9 H7 H8 H9 I0 I1 I2 I3 I4 I5 P8 P9 Q0 Q1 Q2 Q3 Q4 Q5 Q6 I6 I7 I8 I9 J0 J1 J2 J3 J4 J5 J6 J7 J8 J9 K0 K1 K2 K3 K4 K5 K6 K7 K8 K9 L0 L1 L2 L3 L4 L5 L6 L7 L8 L9 M0 M1 M2 M3 M4 M5 M6 M7 M8 M9 N0 N1 N2 N3 N4 N5 N6 N7 N8 N9 O0 O1 O2 O3 O4 O5 O6 O7 O8 O9 P0 P1 P2 P3 P4 P5 P6 P7 A0 A2 A3 A4 A5 A6 A7 A8 A9 B0 B1 B2 B3 B4 B5 B6 B7 B8 B9 C0 C1 C2 C3 C4 C5 C6 C7 C8 C9 D0 D1 D2 D3 D4 D5 D6 D7 D8 D9 E0 E1 E2 E3 E4 E5 E6 E7 E8 E9 F0 F1 F2 F3 F4 F5 F6 F7 F8 F9 G0 G1 G2 G3 G4 G5 G6 G7 G8 G9 H0 H2 H3 H4 H5 H6:Value}
  (hQ:∀ (W':World) (R7 R8 R9 S5:Value),Sst w g gx [.int .i64 kd,.int .i64 ps,.bool mu,.string nm,t0,t1,t2,t3,.bool has,p0,p1,v0,v1,v2,v3,v4,v5,v6,v7,v8,v9,Q7,Q8,Q9,R0,R1,o0,o1,o2,o3,.slice pt nt ct,.slice pe ne ce] [.int .i64 0,.int .i64 0,.bool mu,.string nm,t0,t1,t2,t3,.bool has,p0,p1,v0,v1,v2,v3,v4,v5,v6,v7,v8,v9,Q7,Q8,Q9,R0,R1,o0,o1,o2,o3,.slice none 0 0,.slice none 0 0] W'->t.wp Tryz.prog Q { tmps:=#[u0,u1,u2,u3,u4,u5,.pointer (some ⟨g,0,none⟩),.pointer (some ⟨gx,0,none⟩),u8,u9,H7,H8,H9,I0,I1,I2,I3,I4,I5,P8,P9,Q0,Q1,Q2,R7,R8,R9,S5,I6,I7,I8,I9,J0,J1,J2,J3,J4,J5,J6,J7,J8,J9,K0,K1,K2,K3,K4,K5,K6,K7,K8,K9,L0,L1,L2,L3,L4,L5,L6,L7,L8,L9,M0,M1,M2,M3,M4,M5,M6,M7,M8,M9,N0,N1,N2,N3,N4,N5,N6,N7,N8,N9,O0,O1,O2,O3,O4,O5,O6,O7,O8,O9,P0,P1,P2,P3,P4,P5,P6,P7,A0,A2,A3,A4,A5,A6,A7,A8,A9,B0,B1,B2,B3,B4,B5,B6,B7,B8,B9,C0,C1,C2,C3,C4,C5,C6,C7,C8,C9,D0,D1,D2,D3,D4,D5,D6,D7,D8,D9,E0,E1,E2,E3,E4,E5,E6,E7,E8,E9,F0,F1,F2,F3,F4,F5,F6,F7,F8,F9,G0,G1,G2,G3,G4,G5,G6,G7,G8,G9,H0,H2,H3,H4,H5,H6],defers:=[] } W') :
  Code.wp Tryz.prog (third t (innerB ((Tryz.f59.body.bind (blockAt 1)).getD .skip))) Q { tmps:=#[u0,u1,u2,u3,u4,u5,.pointer (some ⟨g,0,none⟩),.pointer (some ⟨gx,0,none⟩),u8,u9,H7,H8,H9,I0,I1,I2,I3,I4,I5,P8,P9,Q0,Q1,Q2,Q3,Q4,Q5,Q6,I6,I7,I8,I9,J0,J1,J2,J3,J4,J5,J6,J7,J8,J9,K0,K1,K2,K3,K4,K5,K6,K7,K8,K9,L0,L1,L2,L3,L4,L5,L6,L7,L8,L9,M0,M1,M2,M3,M4,M5,M6,M7,M8,M9,N0,N1,N2,N3,N4,N5,N6,N7,N8,N9,O0,O1,O2,O3,O4,O5,O6,O7,O8,O9,P0,P1,P2,P3,P4,P5,P6,P7,A0,A2,A3,A4,A5,A6,A7,A8,A9,B0,B1,B2,B3,B4,B5,B6,B7,B8,B9,C0,C1,C2,C3,C4,C5,C6,C7,C8,C9,D0,D1,D2,D3,D4,D5,D6,D7,D8,D9,E0,E1,E2,E3,E4,E5,E6,E7,E8,E9,F0,F1,F2,F3,F4,F5,F6,F7,F8,F9,G0,G1,G2,G3,G4,G5,G6,G7,G8,G9,H0,H2,H3,H4,H5,H6],defers:=[] } W0:=by
 have HQ:=hid hQ
 have S0:=hid hS
 clear hQ hS
 have S1:=hid (S0.out.set 0 (.int .i64 0))
 have S2:=hid (S1.out.set 1 (.int .i64 0))
 have S3:=hid (S2.out.set 30 (.slice none 0 0))
 have S4:=hid (S3.out.set 31 (.slice none 0 0))
 have e1:W0.cell? ⟨gx,0,none⟩=some (.int .i64 kd):=S0.out.2.2.2.cell 0
 have e2:=S0.out.2.2.2.fz 0
 have e3:(W0.setCell ⟨gx,0,none⟩ (.int .i64 0)).cell? ⟨gx,1,none⟩=some (.int .i64 ps):=S1.out.2.2.2.cell 1
 have e4:=S1.out.2.2.2.fz 1
 have e5:((W0.setCell ⟨gx,0,none⟩ (.int .i64 0)).setCell ⟨gx,1,none⟩ (.int .i64 0)).cell? ⟨gx,30,none⟩=some (.slice pt nt ct):=S2.out.2.2.2.cell 30
 have e6:=S2.out.2.2.2.fz 30
 have e7:(((W0.setCell ⟨gx,0,none⟩ (.int .i64 0)).setCell ⟨gx,1,none⟩ (.int .i64 0)).setCell ⟨gx,30,none⟩ (.slice none 0 0)).cell? ⟨gx,31,none⟩=some (.slice pe ne ce):=S3.out.2.2.2.cell 31
 have e8:=S3.out.2.2.2.fz 31
 conv=>arg 2;whnf
 dsimp only
 go_wp2_with fail
 exact HQ.out _ _ _ _ _ S4.out

set_option maxHeartbeats 16000000
set_option maxRecDepth 20000
theorem tl_a {Q:Exit->Act->World->Prop} {w W0:World} {g gx:Nat} {cs xs:List Value} {pt pe:Option Addr} {nt ct ne ce:Nat} {d:Int} (hd0:0<=d) (hd1:d<=64) (hS:Sst w g gx cs xs W0) (hl:xs.length=32) (hvt:cs[30]?=some (.slice pt nt ct)) (hve:cs[31]?=some (.slice pe ne ce)) {th ot bz b1 b2:Bool}
  (h77:A77 w xs bz)
  (h1:A59 w (.slice pt nt ct) d b1)
  (h2:A59 w (.slice pe ne ce) d b2)
  {u0 u2 u3 u4 u5 M9 N0 N1 N2 N3 N4 N5 N6 N7 N8 N9 O0 O1 O2 O3 O4 O5 O6 O7 O8 O9 P0 P1 P2 P3 P4 P5 P6 P7 P8 P9 Q0 Q1 Q2 Q3 Q4 Q5 Q6 Q7 Q8 Q9 R0 R3 R4 R5 R6 R7 R8 R9 S4 S5 S6 S7 S8 S9 T0 T1 T2 T3 T4 T5 T6 T7 T8 T9 U0 U1 U2 U3 U4 U5 U6 U7 U8 U9 V0 V1 V2 V3 V4 V5 V6 V7 V8 V9 W1 W2 W3 W4 A0 A1 A2 A3 A4 A5 A6 A7 A8 A9 B0 B1 B2 B3 B4 B5 B6 B7 B8 B9 C0 C1 C2 C3 C4 C5 C6 C7 C8 C9 D0 D1 D2 D3 D4 D5 D6 D7 D8 D9 E0 E1 E2 E3 E4 E5 E6 E7 E8 E9 F0 F1 F2 F3 F4 F5 F6 F7 F8 F9 G0 G1 G2 G3 G4 G5 G6 G7 G8 G9 H0 H3 H4 H5 H6:Value}
  (hQ:∀ (W':World) (H7 H8 H9 I0 I1 I2 I3 I4 I5 I6 I7 I8 I9 J0 J1 J2 J3 J4 J5 J6 J7 J8 J9 K0 K1 K2 K3 K4 K5 K6 K7 K8 K9 L0 L1 L2 L3 L4 L5 L6 L7 L8 L9 M0 M1 M2 M3 M4 M5 M6 M7 M8:Value),Below w.heap.size w W'->Q .ret { tmps:=#[u0,.int .i64 d,u2,u3,.bool false,u5,.pointer (some ⟨g,0,none⟩),.pointer (some ⟨gx,0,none⟩),.bool false,.bool th,.bool ot,M9,N0,N1,N2,N3,N4,N5,N6,N7,N8,N9,O0,O1,O2,O3,O4,O5,O6,O7,O8,O9,P0,P1,P2,P3,P4,P5,P6,P7,P8,P9,Q0,Q1,Q2,Q3,Q4,Q5,Q6,Q7,Q8,Q9,R0,R3,R4,R5,R6,R7,R8,R9,S4,S5,S6,S7,S8,S9,T0,T1,T2,T3,T4,T5,T6,T7,T8,T9,U0,U1,U2,U3,U4,U5,U6,U7,U8,U9,V0,V1,V2,V3,V4,V5,V6,V7,V8,V9,W1,W2,W3,W4,A0,A1,A2,A3,A4,A5,A6,A7,A8,A9,B0,B1,B2,B3,B4,B5,B6,B7,B8,B9,C0,C1,C2,H7,H8,H9,I0,I1,I2,I3,I4,I5,I6,I7,I8,I9,J0,J1,J2,J3,J4,J5,J6,J7,J8,J9,K0,K1,K2,K3,K4,K5,K6,K7,K8,K9,L0,L1,L2,L3,L4,L5,L6,L7,L8,L9,M0,M1,M2,M3,M4,M5,M6,M7,M8],defers:=[] } W') :
  Code.wp Tryz.prog (past6 (innerB ((Tryz.f59.body.bind (blockAt 1)).getD .skip))) Q { tmps:=#[u0,.int .i64 d,u2,u3,u4,u5,.pointer (some ⟨g,0,none⟩),.pointer (some ⟨gx,0,none⟩),.bool false,.bool th,.bool ot,M9,N0,N1,N2,N3,N4,N5,N6,N7,N8,N9,O0,O1,O2,O3,O4,O5,O6,O7,O8,O9,P0,P1,P2,P3,P4,P5,P6,P7,P8,P9,Q0,Q1,Q2,Q3,Q4,Q5,Q6,Q7,Q8,Q9,R0,R3,R4,R5,R6,R7,R8,R9,S4,S5,S6,S7,S8,S9,T0,T1,T2,T3,T4,T5,T6,T7,T8,T9,U0,U1,U2,U3,U4,U5,U6,U7,U8,U9,V0,V1,V2,V3,V4,V5,V6,V7,V8,V9,W1,W2,W3,W4,A0,A1,A2,A3,A4,A5,A6,A7,A8,A9,B0,B1,B2,B3,B4,B5,B6,B7,B8,B9,C0,C1,C2,C3,C4,C5,C6,C7,C8,C9,D0,D1,D2,D3,D4,D5,D6,D7,D8,D9,E0,E1,E2,E3,E4,E5,E6,E7,E8,E9,F0,F1,F2,F3,F4,F5,F6,F7,F8,F9,G0,G1,G2,G3,G4,G5,G6,G7,G8,G9,H0,H3,H4,H5,H6],defers:=[] } W0:=by
 have HQ:=hid hQ
 have S0:=hid hS
 have H77:=hid h77
 have H1:=hid h1
 have H2:=hid h2
 have HL:=hid hl
 have HT:=hid hvt
 have HE:=hid hve
 have hi:(Tryz.prog.info? 49).map (·.size)=some xs.length:=by rw [hl];kernel_rfl
 have HI:=hid hi
 clear hi
 have hd2:IntKind.i64.wrap (d+1)=d+1:=wrap_small (by omega) (by omega)
 clear hQ hS h77 h1 h2 hl hvt hve
 conv=>arg 2;whnf
 dsimp only
 go_wp2_with fail
 exact HQ.out _ _ _ _ _ _ _ _ _ _ _ _ _ _ _ _ _ _ _ _ _ _ _ _ _ _ _ _ _ _ _ _ _ _ _ _ _ _ _ _ _ _ _ _ _ _ _ _ _ _ _ _ _ S0.out.2.1
theorem tl_b {Q:Exit->Act->World->Prop} {w W0:World} {g gx:Nat} {cs xs:List Value} {pt pe:Option Addr} {nt ct ne ce:Nat} {d:Int} (hd0:0<=d) (hd1:d<=64) (hS:Sst w g gx cs xs W0) (hl:xs.length=32) (hvt:cs[30]?=some (.slice pt nt ct)) (hve:cs[31]?=some (.slice pe ne ce)) {th ot b1 b2:Bool}
  (h77:A77 w xs false)
  (h1:A59 w (.slice pt nt ct) d b1)
  (h2:A59 w (.slice pe ne ce) d b2)
  {u0 u2 u3 u4 u5 M9 N0 N1 N2 N3 N4 N5 N6 N7 N8 N9 O0 O1 O2 O3 O4 O5 O6 O7 O8 O9 P0 P1 P2 P3 P4 P5 P6 P7 P8 P9 Q0 Q1 Q2 Q3 Q4 Q5 Q6 Q7 Q8 Q9 R0 R3 R4 R5 R6 R7 R8 R9 S4 S5 S6 S7 S8 S9 T0 T1 T2 T3 T4 T5 T6 T7 T8 T9 U0 U1 U2 U3 U4 U5 U6 U7 U8 U9 V0 V1 V2 V3 V4 V5 V6 V7 V8 V9 W1 W2 W3 W4 A0 A1 A2 A3 A4 A5 A6 A7 A8 A9 B0 B1 B2 B3 B4 B5 B6 B7 B8 B9 C0 C1 C2 C3 C4 C5 C6 C7 C8 C9 D0 D1 D2 D3 D4 D5 D6 D7 D8 D9 E0 E1 E2 E3 E4 E5 E6 E7 E8 E9 F0 F1 F2 F3 F4 F5 F6 F7 F8 F9 G0 G1 G2 G3 G4 G5 G6 G7 G8 G9 H0 H3 H4 H5 H6:Value}
  (hQ:∀ (W':World) (H7 H8 H9 I0 I1 I2 I3 I4 I5 I6 I7 I8 I9 J0 J1 J2 J3 J4 J5 J6 J7 J8 J9 K0 K1 K2 K3 K4 K5 K6 K7 K8 K9 L0 L1 L2 L3 L4 L5 L6 L7 L8 L9 M0 M1 M2 M3 M4 M5 M6 M7 M8:Value),Below w.heap.size w W'->Q .ret { tmps:=#[u0,.int .i64 d,u2,u3,.bool false,u5,.pointer (some ⟨g,0,none⟩),.pointer (some ⟨gx,0,none⟩),.bool true,.bool th,.bool ot,M9,N0,N1,N2,N3,N4,N5,N6,N7,N8,N9,O0,O1,O2,O3,O4,O5,O6,O7,O8,O9,P0,P1,P2,P3,P4,P5,P6,P7,P8,P9,Q0,Q1,Q2,Q3,Q4,Q5,Q6,Q7,Q8,Q9,R0,R3,R4,R5,R6,R7,R8,R9,S4,S5,S6,S7,S8,S9,T0,T1,T2,T3,T4,T5,T6,T7,T8,T9,U0,U1,U2,U3,U4,U5,U6,U7,U8,U9,V0,V1,V2,V3,V4,V5,V6,V7,V8,V9,W1,W2,W3,W4,A0,A1,A2,A3,A4,A5,A6,A7,A8,A9,B0,B1,B2,B3,B4,B5,B6,B7,B8,B9,C0,C1,C2,H7,H8,H9,I0,I1,I2,I3,I4,I5,I6,I7,I8,I9,J0,J1,J2,J3,J4,J5,J6,J7,J8,J9,K0,K1,K2,K3,K4,K5,K6,K7,K8,K9,L0,L1,L2,L3,L4,L5,L6,L7,L8,L9,M0,M1,M2,M3,M4,M5,M6,M7,M8],defers:=[] } W') :
  Code.wp Tryz.prog (past6 (innerB ((Tryz.f59.body.bind (blockAt 1)).getD .skip))) Q { tmps:=#[u0,.int .i64 d,u2,u3,u4,u5,.pointer (some ⟨g,0,none⟩),.pointer (some ⟨gx,0,none⟩),.bool true,.bool th,.bool ot,M9,N0,N1,N2,N3,N4,N5,N6,N7,N8,N9,O0,O1,O2,O3,O4,O5,O6,O7,O8,O9,P0,P1,P2,P3,P4,P5,P6,P7,P8,P9,Q0,Q1,Q2,Q3,Q4,Q5,Q6,Q7,Q8,Q9,R0,R3,R4,R5,R6,R7,R8,R9,S4,S5,S6,S7,S8,S9,T0,T1,T2,T3,T4,T5,T6,T7,T8,T9,U0,U1,U2,U3,U4,U5,U6,U7,U8,U9,V0,V1,V2,V3,V4,V5,V6,V7,V8,V9,W1,W2,W3,W4,A0,A1,A2,A3,A4,A5,A6,A7,A8,A9,B0,B1,B2,B3,B4,B5,B6,B7,B8,B9,C0,C1,C2,C3,C4,C5,C6,C7,C8,C9,D0,D1,D2,D3,D4,D5,D6,D7,D8,D9,E0,E1,E2,E3,E4,E5,E6,E7,E8,E9,F0,F1,F2,F3,F4,F5,F6,F7,F8,F9,G0,G1,G2,G3,G4,G5,G6,G7,G8,G9,H0,H3,H4,H5,H6],defers:=[] } W0:=by
 have HQ:=hid hQ
 have S0:=hid hS
 have H77:=hid h77
 have H1:=hid h1
 have H2:=hid h2
 have HL:=hid hl
 have HT:=hid hvt
 have HE:=hid hve
 have hi:(Tryz.prog.info? 49).map (·.size)=some xs.length:=by rw [hl];kernel_rfl
 have HI:=hid hi
 clear hi
 have hd2:IntKind.i64.wrap (d+1)=d+1:=wrap_small (by omega) (by omega)
 clear hQ hS h77 h1 h2 hl hvt hve
 conv=>arg 2;whnf
 dsimp only
 have rg:=hid S0.out.2.2.2.range
 go_wp2_with (first|(refine load_midG rfl 49 (.tmp 7) rfl gx 0 rfl xs _ rg.out Tryz.underlying49 rfl HI.out ?_)|(refine bsliceG rfl 38 49 32 496 (stCells 0 0) (.tmp 126) rfl Tryz.underlying38 Tryz.info49z (by decide) (by decide) xs HL.out rfl ?_;intro w1 r1 b1 l1;have R1:=hid r1;have S1:=hid (S0.out.call b1);clear r1 b1 l1)|(refine bsliceG rfl 38 49 32 496 (stCells 0 0) (.tmp 128) rfl Tryz.underlying38 Tryz.info49z (by decide) (by decide) (stCells 0 0) rfl rfl ?_;intro w2 r2 b2 l2;have R2:=hid r2;have S2:=hid (S1.out.call b2);have R1':=hid (R1.out.below b2 R1.out.lt);clear r2 b2 l2))
 refine (H77.out _ _ _ S2.out.2.1 R1'.out R2.out).mono ?_
 rintro _ w3 ⟨rfl,b3⟩
 have S3:=hid (S2.out.call b3)
 clear b3 R1 R1' R2 rg H77 HI HL
 go_wp2_with fail
 exact HQ.out _ _ _ _ _ _ _ _ _ _ _ _ _ _ _ _ _ _ _ _ _ _ _ _ _ _ _ _ _ _ _ _ _ _ _ _ _ _ _ _ _ _ _ _ _ _ _ _ _ _ _ _ _ S3.out.2.1
theorem tl_c {Q:Exit->Act->World->Prop} {w W0:World} {g gx:Nat} {cs xs:List Value} {pt pe:Option Addr} {nt ct ne ce:Nat} {d:Int} (hd0:0<=d) (hd1:d<=64) (hS:Sst w g gx cs xs W0) (hl:xs.length=32) (hvt:cs[30]?=some (.slice pt nt ct)) (hve:cs[31]?=some (.slice pe ne ce)) {ot b1 b2:Bool}
  (ht:(0:Int)<(nt:Int)) (h77:A77 w xs true)
  (h1:A59 w (.slice pt nt ct) d b1)
  (h2:A59 w (.slice pe ne ce) d b2)
  {u0 u2 u3 u4 u5 M9 N0 N1 N2 N3 N4 N5 N6 N7 N8 N9 O0 O1 O2 O3 O4 O5 O6 O7 O8 O9 P0 P1 P2 P3 P4 P5 P6 P7 P8 P9 Q0 Q1 Q2 Q3 Q4 Q5 Q6 Q7 Q8 Q9 R0 R3 R4 R5 R6 R7 R8 R9 S4 S5 S6 S7 S8 S9 T0 T1 T2 T3 T4 T5 T6 T7 T8 T9 U0 U1 U2 U3 U4 U5 U6 U7 U8 U9 V0 V1 V2 V3 V4 V5 V6 V7 V8 V9 W1 W2 W3 W4 A0 A1 A2 A3 A4 A5 A6 A7 A8 A9 B0 B1 B2 B3 B4 B5 B6 B7 B8 B9 C0 C1 C2 C3 C4 C5 C6 C7 C8 C9 D0 D1 D2 D3 D4 D5 D6 D7 D8 D9 E0 E1 E2 E3 E4 E5 E6 E7 E8 E9 F0 F1 F2 F3 F4 F5 F6 F7 F8 F9 G0 G1 G2 G3 G4 G5 G6 G7 G8 G9 H0 H3 H4 H5 H6:Value}
  (hQ:∀ (W':World) (H7 H8 H9 I0 I1 I2 I3 I4 I5 I6 I7 I8 I9 J0 J1 J2 J3 J4 J5 J6 J7 J8 J9 K0 K1 K2 K3 K4 K5 K6 K7 K8 K9 L0 L1 L2 L3 L4 L5 L6 L7 L8 L9 M0 M1 M2 M3 M4 M5 M6 M7 M8:Value),Below w.heap.size w W'->Q .ret { tmps:=#[u0,.int .i64 d,u2,u3,.bool false,u5,.pointer (some ⟨g,0,none⟩),.pointer (some ⟨gx,0,none⟩),.bool true,.bool false,.bool ot,M9,N0,N1,N2,N3,N4,N5,N6,N7,N8,N9,O0,O1,O2,O3,O4,O5,O6,O7,O8,O9,P0,P1,P2,P3,P4,P5,P6,P7,P8,P9,Q0,Q1,Q2,Q3,Q4,Q5,Q6,Q7,Q8,Q9,R0,R3,R4,R5,R6,R7,R8,R9,S4,S5,S6,S7,S8,S9,T0,T1,T2,T3,T4,T5,T6,T7,T8,T9,U0,U1,U2,U3,U4,U5,U6,U7,U8,U9,V0,V1,V2,V3,V4,V5,V6,V7,V8,V9,W1,W2,W3,W4,A0,A1,A2,A3,A4,A5,A6,A7,A8,A9,B0,B1,B2,B3,B4,B5,B6,B7,B8,B9,C0,C1,C2,H7,H8,H9,I0,I1,I2,I3,I4,I5,I6,I7,I8,I9,J0,J1,J2,J3,J4,J5,J6,J7,J8,J9,K0,K1,K2,K3,K4,K5,K6,K7,K8,K9,L0,L1,L2,L3,L4,L5,L6,L7,L8,L9,M0,M1,M2,M3,M4,M5,M6,M7,M8],defers:=[] } W') :
  Code.wp Tryz.prog (past6 (innerB ((Tryz.f59.body.bind (blockAt 1)).getD .skip))) Q { tmps:=#[u0,.int .i64 d,u2,u3,u4,u5,.pointer (some ⟨g,0,none⟩),.pointer (some ⟨gx,0,none⟩),.bool true,.bool false,.bool ot,M9,N0,N1,N2,N3,N4,N5,N6,N7,N8,N9,O0,O1,O2,O3,O4,O5,O6,O7,O8,O9,P0,P1,P2,P3,P4,P5,P6,P7,P8,P9,Q0,Q1,Q2,Q3,Q4,Q5,Q6,Q7,Q8,Q9,R0,R3,R4,R5,R6,R7,R8,R9,S4,S5,S6,S7,S8,S9,T0,T1,T2,T3,T4,T5,T6,T7,T8,T9,U0,U1,U2,U3,U4,U5,U6,U7,U8,U9,V0,V1,V2,V3,V4,V5,V6,V7,V8,V9,W1,W2,W3,W4,A0,A1,A2,A3,A4,A5,A6,A7,A8,A9,B0,B1,B2,B3,B4,B5,B6,B7,B8,B9,C0,C1,C2,C3,C4,C5,C6,C7,C8,C9,D0,D1,D2,D3,D4,D5,D6,D7,D8,D9,E0,E1,E2,E3,E4,E5,E6,E7,E8,E9,F0,F1,F2,F3,F4,F5,F6,F7,F8,F9,G0,G1,G2,G3,G4,G5,G6,G7,G8,G9,H0,H3,H4,H5,H6],defers:=[] } W0:=by
 have HQ:=hid hQ
 have S0:=hid hS
 have H77:=hid h77
 have H1:=hid h1
 have H2:=hid h2
 have HL:=hid hl
 have HT:=hid hvt
 have HE:=hid hve
 have hi:(Tryz.prog.info? 49).map (·.size)=some xs.length:=by rw [hl];kernel_rfl
 have HI:=hid hi
 clear hi
 have hd2:IntKind.i64.wrap (d+1)=d+1:=wrap_small (by omega) (by omega)
 clear hQ hS h77 h1 h2 hl hvt hve
 conv=>arg 2;whnf
 dsimp only
 have rg:=hid S0.out.2.2.2.range
 go_wp2_with (first|(refine load_midG rfl 49 (.tmp 7) rfl gx 0 rfl xs _ rg.out Tryz.underlying49 rfl HI.out ?_)|(refine bsliceG rfl 38 49 32 496 (stCells 0 0) (.tmp 126) rfl Tryz.underlying38 Tryz.info49z (by decide) (by decide) xs HL.out rfl ?_;intro w1 r1 b1 l1;have R1:=hid r1;have S1:=hid (S0.out.call b1);clear r1 b1 l1)|(refine bsliceG rfl 38 49 32 496 (stCells 0 0) (.tmp 128) rfl Tryz.underlying38 Tryz.info49z (by decide) (by decide) (stCells 0 0) rfl rfl ?_;intro w2 r2 b2 l2;have R2:=hid r2;have S2:=hid (S1.out.call b2);have R1':=hid (R1.out.below b2 R1.out.lt);clear r2 b2 l2))
 refine (H77.out _ _ _ S2.out.2.1 R1'.out R2.out).mono ?_
 rintro _ w3 ⟨rfl,b3⟩
 have S3:=hid (S2.out.call b3)
 clear b3 R1 R1' R2 rg H77 HI HL
 have g30:w3.cell? ⟨g,30,none⟩=some (.slice pt nt ct):=(S3.out.2.2.1.cell 30).trans HT.out
 have g31:w3.cell? ⟨g,31,none⟩=some (.slice pe ne ce):=(S3.out.2.2.1.cell 31).trans HE.out
 go_wp2_with fail
 exact HQ.out _ _ _ _ _ _ _ _ _ _ _ _ _ _ _ _ _ _ _ _ _ _ _ _ _ _ _ _ _ _ _ _ _ _ _ _ _ _ _ _ _ _ _ _ _ _ _ _ _ _ _ _ _ S3.out.2.1
end Go.Proofs.YtjenmmkamhplkaaGreat
