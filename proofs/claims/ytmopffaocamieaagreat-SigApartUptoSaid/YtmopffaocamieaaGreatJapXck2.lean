/-
  The texts Xck, Xcl, joined.
-/
import Derived.Test.YtmopffaocamieaaGreatQapXs7
namespace Go.Proofs.YtmopffaocamieaaGreat
open Go.RowKit
set_option maxHeartbeats 8000000 in
set_option maxRecDepth 20000 in
theorem s77_10 {Q : Exit → Act → World → Prop} (W0 : World) (gx gy : Nat) (csx csy : List Value) (R1 : Row W0 gx 114 csx) (R2 : Row W0 gy 114 csy) (x0 y0 : Int) (x1 y1 : Int) (x2 y2 : Bool) (x3 y3 : ByteArray) (x4 y4 : Bool) (xc4 yc4 xc5 yc5 xc6 yc6 xc7 yc7 : Value) (xc9 yc9 xc10 yc10 : Value) (xc11 yc11 xc12 yc12 xc13 yc13 xc14 yc14 xc15 yc15 xc16 yc16 xc17 yc17 xc18 yc18 xc19 yc19 xc20 yc20 xc21 yc21 xc22 yc22 xc23 yc23 xc24 yc24 xc25 yc25 : Value) (xc26 yc26 xc27 yc27 xc28 yc28 xc29 yc29 : Value) (xc30 yc30 : Value) (xc31 yc31 : Value) (kx0 : csx[0]? = some (.int .i64 x0)) (ky0 : csy[0]? = some (.int .i64 y0)) (kx1 : csx[1]? = some (.int .i64 x1)) (ky1 : csy[1]? = some (.int .i64 y1)) (kx2 : csx[2]? = some (.bool x2)) (ky2 : csy[2]? = some (.bool y2)) (kx3 : csx[3]? = some (.string x3)) (ky3 : csy[3]? = some (.string y3)) (kx8 : csx[8]? = some (.bool x4)) (ky8 : csy[8]? = some (.bool y4)) (kx4 : csx[4]? = some (xc4)) (ky4 : csy[4]? = some (yc4)) (kx5 : csx[5]? = some (xc5)) (ky5 : csy[5]? = some (yc5)) (kx6 : csx[6]? = some (xc6)) (ky6 : csy[6]? = some (yc6)) (kx7 : csx[7]? = some (xc7)) (ky7 : csy[7]? = some (yc7)) (kx9 : csx[9]? = some (xc9)) (ky9 : csy[9]? = some (yc9)) (kx10 : csx[10]? = some (xc10)) (ky10 : csy[10]? = some (yc10)) (kx11 : csx[11]? = some (xc11)) (ky11 : csy[11]? = some (yc11)) (kx12 : csx[12]? = some (xc12)) (ky12 : csy[12]? = some (yc12)) (kx13 : csx[13]? = some (xc13)) (ky13 : csy[13]? = some (yc13)) (kx14 : csx[14]? = some (xc14)) (ky14 : csy[14]? = some (yc14)) (kx15 : csx[15]? = some (xc15)) (ky15 : csy[15]? = some (yc15)) (kx16 : csx[16]? = some (xc16)) (ky16 : csy[16]? = some (yc16)) (kx17 : csx[17]? = some (xc17)) (ky17 : csy[17]? = some (yc17)) (kx18 : csx[18]? = some (xc18)) (ky18 : csy[18]? = some (yc18)) (kx19 : csx[19]? = some (xc19)) (ky19 : csy[19]? = some (yc19)) (kx20 : csx[20]? = some (xc20)) (ky20 : csy[20]? = some (yc20)) (kx21 : csx[21]? = some (xc21)) (ky21 : csy[21]? = some (yc21)) (kx22 : csx[22]? = some (xc22)) (ky22 : csy[22]? = some (yc22)) (kx23 : csx[23]? = some (xc23)) (ky23 : csy[23]? = some (yc23)) (kx24 : csx[24]? = some (xc24)) (ky24 : csy[24]? = some (yc24)) (kx25 : csx[25]? = some (xc25)) (ky25 : csy[25]? = some (yc25)) (kx26 : csx[26]? = some (xc26)) (ky26 : csy[26]? = some (yc26)) (kx27 : csx[27]? = some (xc27)) (ky27 : csy[27]? = some (yc27)) (kx28 : csx[28]? = some (xc28)) (ky28 : csy[28]? = some (yc28)) (kx29 : csx[29]? = some (xc29)) (ky29 : csy[29]? = some (yc29)) (kx30 : csx[30]? = some (xc30)) (ky30 : csy[30]? = some (yc30)) (kx31 : csx[31]? = some (xc31)) (ky31 : csy[31]? = some (yc31)) (p0 : (x0 != y0) = false) (p1 : (x1 != y1) = false) (p2 : (x2 != y2) = false) (p3 : (x3.toList == y3.toList) = true) (p4 : (x4 != y4) = false) (r5 : ∀ W, Below W0.heap.size W0 W → Calls Tryz.prog 99 #[.agg #[xc4, xc5, xc6, xc7], .agg #[yc4, yc5, yc6, yc7]] W fun ev w' => ev = .returned (.bool true) ∧ Below W0.heap.size W0 w') (r6 : ∀ W, Below W0.heap.size W0 W → Calls Tryz.prog 159 #[.agg #[xc9, xc10], .agg #[yc9, yc10]] W fun ev w' => ev = .returned (.bool true) ∧ Below W0.heap.size W0 w') (r7 : ∀ W, Below W0.heap.size W0 W → Calls Tryz.prog 160 #[.agg #[xc11, xc12, xc13, xc14, xc15, xc16, xc17, xc18, xc19, xc20, xc21, xc22, xc23, xc24, xc25], .agg #[yc11, yc12, yc13, yc14, yc15, yc16, yc17, yc18, yc19, yc20, yc21, yc22, yc23, yc24, yc25]] W fun ev w' => ev = .returned (.bool true) ∧ Below W0.heap.size W0 w') (r8 : ∀ W, Below W0.heap.size W0 W → Calls Tryz.prog 161 #[.agg #[xc26, xc27, xc28, xc29], .agg #[yc26, yc27, yc28, yc29]] W fun ev w' => ev = .returned (.bool true) ∧ Below W0.heap.size W0 w') (r9 : ∀ W, Below W0.heap.size W0 W → Calls Tryz.prog 112 #[xc30, yc30] W fun ev w' => ev = .returned (.bool true) ∧ Below W0.heap.size W0 w') (r10 : ∀ W, Below W0.heap.size W0 W → Calls Tryz.prog 112 #[xc31, yc31] W fun ev w' => ev = .returned (.bool false) ∧ Below W0.heap.size W0 w') (sx30 : ∃ p n m, xc30 = .slice p n m) (sy30 : ∃ p n m, yc30 = .slice p n m) (sx31 : ∃ p n m, xc31 = .slice p n m) (sy31 : ∃ p n m, yc31 = .slice p n m) (u0 u1 u2 u3 u4 u5 u8 u9 u10 u11 u12 u13 u14 u15 u16 u17 u18 u19 u20 u21 u22 u23 u24 u25 u26 u27 u28 u29 u30 u31 u32 u33 u34 u35 u36 u37 u38 u39 u40 u41 u42 u43 u44 u45 u46 u47 u48 u49 u50 u51 u52 u53 u54 u55 u56 u57 u58 u59 u60 u61 u62 u63 u64 u65 u66 u67 u68 u69 u70 u71 u72 u73 u74 u75 u76 u77 u78 u79 u80 u81 u82 u83 u84 u85 u86 u87 u88 u89 u90 u91 u92 u93 u94 u95 u96 u97 u98 u99 u100 u101 u102 u103 u104 u105 u106 u107 : Value) (hQ : ∀ (v27 v28 v29 v30 v31 v32 v33 v34 v35 v36 v37 v38 v39 v40 v41 v42 v43 v44 v45 v46 v47 v48 v49 v50 v51 v52 v53 v54 v55 v56 v57 v58 v59 v60 v61 v62 v63 v64 v65 v66 v67 v68 v69 v70 v71 v72 v73 v74 v75 v76 v77 v78 v79 v80 v81 v82 v83 v84 v85 v86 v87 v88 v89 v90 v91 v92 v93 v94 v95 v96 v97 v98 v99 v100 v101 v102 v103 v104 v105 v106 : Value) (w' : World), Below W0.heap.size W0 w' → Q .normal { tmps := #[u0, u1, u2, u3, u4, u5, .pointer (some ⟨gx, 0, none⟩), .pointer (some ⟨gy, 0, none⟩), u8, u9, u10, u11, u12, u13, u14, u15, u16, u17, u18, u19, u20, u21, u22, u23, u24, u25, u26, v27, v28, v29, v30, v31, v32, v33, v34, v35, v36, v37, v38, v39, v40, v41, v42, v43, v44, v45, v46, v47, v48, v49, v50, v51, v52, v53, v54, v55, v56, v57, v58, v59, v60, v61, v62, v63, v64, v65, v66, v67, v68, v69, v70, v71, v72, v73, v74, v75, v76, v77, v78, v79, v80, v81, v82, v83, v84, v85, v86, v87, v88, v89, v90, v91, v92, v93, v94, v95, v96, v97, v98, v99, v100, v101, v102, v103, v104, v105, v106, .bool true], defers := [] } w') :
    reg77.wp Tryz.prog Q { tmps := #[u0, u1, u2, u3, u4, u5, .pointer (some ⟨gx, 0, none⟩), .pointer (some ⟨gy, 0, none⟩), u8, u9, u10, u11, u12, u13, u14, u15, u16, u17, u18, u19, u20, u21, u22, u23, u24, u25, u26, u27, u28, u29, u30, u31, u32, u33, u34, u35, u36, u37, u38, u39, u40, u41, u42, u43, u44, u45, u46, u47, u48, u49, u50, u51, u52, u53, u54, u55, u56, u57, u58, u59, u60, u61, u62, u63, u64, u65, u66, u67, u68, u69, u70, u71, u72, u73, u74, u75, u76, u77, u78, u79, u80, u81, u82, u83, u84, u85, u86, u87, u88, u89, u90, u91, u92, u93, u94, u95, u96, u97, u98, u99, u100, u101, u102, u103, u104, u105, u106, u107], defers := [] } W0 := by
  have HQ := hid hQ
  clear hQ
  refine flat77 ?_
  have p2a := (bne_of p2).1
  have p2b := (bne_of p2).2
  have p4a := (bne_of p4).1
  have p4b := (bne_of p4).2
  have H5 := hid r5
  have H6 := hid r6
  have H7 := hid r7
  have H8 := hid r8
  have H9 := hid r9
  have H10 := hid r10
  clear r5 r6 r7 r8 r9 r10
  obtain ⟨p30, n30, m30, e30⟩ := sx30
  obtain ⟨p30', n30', m30', e30'⟩ := sy30
  subst e30 e30'
  obtain ⟨p31, n31, m31, e31⟩ := sx31
  obtain ⟨p31', n31', m31', e31'⟩ := sy31
  subst e31 e31'
  have HS : Hid (∀ W, Below W0.heap.size W0 W → Row W gx 114 csx ∧ Row W gy 114 csy) := fun W h => ⟨R1.below h R1.lt, R2.below h R2.lt⟩
  clear R1 R2
  have hW : Below W0.heap.size W0 W0 := Below.refl _ _
  obtain ⟨rwx, rwy⟩ := HS.out W0 hW
  have fx0 := (rwx.cell 0).trans kx0
  have fy0 := (rwy.cell 0).trans ky0
  have fx1 := (rwx.cell 1).trans kx1
  have fy1 := (rwy.cell 1).trans ky1
  have fx2 := (rwx.cell 2).trans kx2
  have fy2 := (rwy.cell 2).trans ky2
  have fx3 := (rwx.cell 3).trans kx3
  have fy3 := (rwy.cell 3).trans ky3
  have fx8 := (rwx.cell 8).trans kx8
  have fy8 := (rwy.cell 8).trans ky8
  have fx4 := (rwx.cell 4).trans kx4
  have fy4 := (rwy.cell 4).trans ky4
  have fx5 := (rwx.cell 5).trans kx5
  have fy5 := (rwy.cell 5).trans ky5
  have fx6 := (rwx.cell 6).trans kx6
  have fy6 := (rwy.cell 6).trans ky6
  have fx7 := (rwx.cell 7).trans kx7
  have fy7 := (rwy.cell 7).trans ky7
  clear rwx rwy kx0 ky0 kx1 ky1 kx2 ky2 kx3 ky3 kx8 ky8 kx4 ky4 kx5 ky5 kx6 ky6 kx7 ky7
  go_wp2_with fail
  refine (H5.out _ hW).mono ?_
  rintro _ W5 ⟨rfl, hb5⟩
  clear fx0 fy0 fx1 fy1 fx2 fy2 fx3 fy3 fx8 fy8 fx4 fy4 fx5 fy5 fx6 fy6 fx7 fy7 H5
  obtain ⟨rwx, rwy⟩ := HS.out W5 hb5
  have fx9 := (rwx.cell 9).trans kx9
  have fy9 := (rwy.cell 9).trans ky9
  have fx10 := (rwx.cell 10).trans kx10
  have fy10 := (rwy.cell 10).trans ky10
  clear rwx rwy kx9 ky9 kx10 ky10
  go_wp2_with fail
  refine (H6.out _ hb5).mono ?_
  rintro _ W6 ⟨rfl, hb6⟩
  clear fx9 fy9 fx10 fy10 H6
  obtain ⟨rwx, rwy⟩ := HS.out W6 hb6
  have fx11 := (rwx.cell 11).trans kx11
  have fy11 := (rwy.cell 11).trans ky11
  have fx12 := (rwx.cell 12).trans kx12
  have fy12 := (rwy.cell 12).trans ky12
  have fx13 := (rwx.cell 13).trans kx13
  have fy13 := (rwy.cell 13).trans ky13
  have fx14 := (rwx.cell 14).trans kx14
  have fy14 := (rwy.cell 14).trans ky14
  have fx15 := (rwx.cell 15).trans kx15
  have fy15 := (rwy.cell 15).trans ky15
  have fx16 := (rwx.cell 16).trans kx16
  have fy16 := (rwy.cell 16).trans ky16
  have fx17 := (rwx.cell 17).trans kx17
  have fy17 := (rwy.cell 17).trans ky17
  have fx18 := (rwx.cell 18).trans kx18
  have fy18 := (rwy.cell 18).trans ky18
  have fx19 := (rwx.cell 19).trans kx19
  have fy19 := (rwy.cell 19).trans ky19
  have fx20 := (rwx.cell 20).trans kx20
  have fy20 := (rwy.cell 20).trans ky20
  have fx21 := (rwx.cell 21).trans kx21
  have fy21 := (rwy.cell 21).trans ky21
  have fx22 := (rwx.cell 22).trans kx22
  have fy22 := (rwy.cell 22).trans ky22
  have fx23 := (rwx.cell 23).trans kx23
  have fy23 := (rwy.cell 23).trans ky23
  have fx24 := (rwx.cell 24).trans kx24
  have fy24 := (rwy.cell 24).trans ky24
  have fx25 := (rwx.cell 25).trans kx25
  have fy25 := (rwy.cell 25).trans ky25
  clear rwx rwy kx11 ky11 kx12 ky12 kx13 ky13 kx14 ky14 kx15 ky15 kx16 ky16 kx17 ky17 kx18 ky18 kx19 ky19 kx20 ky20 kx21 ky21 kx22 ky22 kx23 ky23 kx24 ky24 kx25 ky25
  go_wp2_with fail
  refine (H7.out _ hb6).mono ?_
  rintro _ W7 ⟨rfl, hb7⟩
  clear fx11 fy11 fx12 fy12 fx13 fy13 fx14 fy14 fx15 fy15 fx16 fy16 fx17 fy17 fx18 fy18 fx19 fy19 fx20 fy20 fx21 fy21 fx22 fy22 fx23 fy23 fx24 fy24 fx25 fy25 H7
  obtain ⟨rwx, rwy⟩ := HS.out W7 hb7
  have fx26 := (rwx.cell 26).trans kx26
  have fy26 := (rwy.cell 26).trans ky26
  have fx27 := (rwx.cell 27).trans kx27
  have fy27 := (rwy.cell 27).trans ky27
  have fx28 := (rwx.cell 28).trans kx28
  have fy28 := (rwy.cell 28).trans ky28
  have fx29 := (rwx.cell 29).trans kx29
  have fy29 := (rwy.cell 29).trans ky29
  clear rwx rwy kx26 ky26 kx27 ky27 kx28 ky28 kx29 ky29
  go_wp2_with fail
  refine (H8.out _ hb7).mono ?_
  rintro _ W8 ⟨rfl, hb8⟩
  clear fx26 fy26 fx27 fy27 fx28 fy28 fx29 fy29 H8
  obtain ⟨rwx, rwy⟩ := HS.out W8 hb8
  have fx30 := (rwx.cell 30).trans kx30
  have fy30 := (rwy.cell 30).trans ky30
  clear rwx rwy kx30 ky30
  go_wp2_with fail
  refine (H9.out _ hb8).mono ?_
  rintro _ W9 ⟨rfl, hb9⟩
  clear fx30 fy30 H9
  obtain ⟨rwx, rwy⟩ := HS.out W9 hb9
  have fx31 := (rwx.cell 31).trans kx31
  have fy31 := (rwy.cell 31).trans ky31
  clear rwx rwy kx31 ky31
  go_wp2_with fail
  refine (H10.out _ hb9).mono ?_
  rintro _ W10 ⟨rfl, hb10⟩
  clear fx31 fy31 H10
  go_wp2_with fail
  exact HQ.out _ _ _ _ _ _ _ _ _ _ _ _ _ _ _ _ _ _ _ _ _ _ _ _ _ _ _ _ _ _ _ _ _ _ _ _ _ _ _ _ _ _ _ _ _ _ _ _ _ _ _ _ _ _ _ _ _ _ _ _ _ _ _ _ _ _ _ _ _ _ _ _ _ _ _ _ _ _ _ _ _ hb10
end Go.Proofs.YtmopffaocamieaaGreat

namespace Go.Proofs.YtmopffaocamieaaGreat
open Go.RowKit
set_option maxHeartbeats 8000000 in
set_option maxRecDepth 20000 in
theorem s77_11 {Q : Exit → Act → World → Prop} (W0 : World) (gx gy : Nat) (csx csy : List Value) (R1 : Row W0 gx 114 csx) (R2 : Row W0 gy 114 csy) (x0 y0 : Int) (x1 y1 : Int) (x2 y2 : Bool) (x3 y3 : ByteArray) (x4 y4 : Bool) (xc4 yc4 xc5 yc5 xc6 yc6 xc7 yc7 : Value) (xc9 yc9 xc10 yc10 : Value) (xc11 yc11 xc12 yc12 xc13 yc13 xc14 yc14 xc15 yc15 xc16 yc16 xc17 yc17 xc18 yc18 xc19 yc19 xc20 yc20 xc21 yc21 xc22 yc22 xc23 yc23 xc24 yc24 xc25 yc25 : Value) (xc26 yc26 xc27 yc27 xc28 yc28 xc29 yc29 : Value) (xc30 yc30 : Value) (xc31 yc31 : Value) (kx0 : csx[0]? = some (.int .i64 x0)) (ky0 : csy[0]? = some (.int .i64 y0)) (kx1 : csx[1]? = some (.int .i64 x1)) (ky1 : csy[1]? = some (.int .i64 y1)) (kx2 : csx[2]? = some (.bool x2)) (ky2 : csy[2]? = some (.bool y2)) (kx3 : csx[3]? = some (.string x3)) (ky3 : csy[3]? = some (.string y3)) (kx8 : csx[8]? = some (.bool x4)) (ky8 : csy[8]? = some (.bool y4)) (kx4 : csx[4]? = some (xc4)) (ky4 : csy[4]? = some (yc4)) (kx5 : csx[5]? = some (xc5)) (ky5 : csy[5]? = some (yc5)) (kx6 : csx[6]? = some (xc6)) (ky6 : csy[6]? = some (yc6)) (kx7 : csx[7]? = some (xc7)) (ky7 : csy[7]? = some (yc7)) (kx9 : csx[9]? = some (xc9)) (ky9 : csy[9]? = some (yc9)) (kx10 : csx[10]? = some (xc10)) (ky10 : csy[10]? = some (yc10)) (kx11 : csx[11]? = some (xc11)) (ky11 : csy[11]? = some (yc11)) (kx12 : csx[12]? = some (xc12)) (ky12 : csy[12]? = some (yc12)) (kx13 : csx[13]? = some (xc13)) (ky13 : csy[13]? = some (yc13)) (kx14 : csx[14]? = some (xc14)) (ky14 : csy[14]? = some (yc14)) (kx15 : csx[15]? = some (xc15)) (ky15 : csy[15]? = some (yc15)) (kx16 : csx[16]? = some (xc16)) (ky16 : csy[16]? = some (yc16)) (kx17 : csx[17]? = some (xc17)) (ky17 : csy[17]? = some (yc17)) (kx18 : csx[18]? = some (xc18)) (ky18 : csy[18]? = some (yc18)) (kx19 : csx[19]? = some (xc19)) (ky19 : csy[19]? = some (yc19)) (kx20 : csx[20]? = some (xc20)) (ky20 : csy[20]? = some (yc20)) (kx21 : csx[21]? = some (xc21)) (ky21 : csy[21]? = some (yc21)) (kx22 : csx[22]? = some (xc22)) (ky22 : csy[22]? = some (yc22)) (kx23 : csx[23]? = some (xc23)) (ky23 : csy[23]? = some (yc23)) (kx24 : csx[24]? = some (xc24)) (ky24 : csy[24]? = some (yc24)) (kx25 : csx[25]? = some (xc25)) (ky25 : csy[25]? = some (yc25)) (kx26 : csx[26]? = some (xc26)) (ky26 : csy[26]? = some (yc26)) (kx27 : csx[27]? = some (xc27)) (ky27 : csy[27]? = some (yc27)) (kx28 : csx[28]? = some (xc28)) (ky28 : csy[28]? = some (yc28)) (kx29 : csx[29]? = some (xc29)) (ky29 : csy[29]? = some (yc29)) (kx30 : csx[30]? = some (xc30)) (ky30 : csy[30]? = some (yc30)) (kx31 : csx[31]? = some (xc31)) (ky31 : csy[31]? = some (yc31)) (p0 : (x0 != y0) = false) (p1 : (x1 != y1) = false) (p2 : (x2 != y2) = false) (p3 : (x3.toList == y3.toList) = true) (p4 : (x4 != y4) = false) (r5 : ∀ W, Below W0.heap.size W0 W → Calls Tryz.prog 99 #[.agg #[xc4, xc5, xc6, xc7], .agg #[yc4, yc5, yc6, yc7]] W fun ev w' => ev = .returned (.bool true) ∧ Below W0.heap.size W0 w') (r6 : ∀ W, Below W0.heap.size W0 W → Calls Tryz.prog 159 #[.agg #[xc9, xc10], .agg #[yc9, yc10]] W fun ev w' => ev = .returned (.bool true) ∧ Below W0.heap.size W0 w') (r7 : ∀ W, Below W0.heap.size W0 W → Calls Tryz.prog 160 #[.agg #[xc11, xc12, xc13, xc14, xc15, xc16, xc17, xc18, xc19, xc20, xc21, xc22, xc23, xc24, xc25], .agg #[yc11, yc12, yc13, yc14, yc15, yc16, yc17, yc18, yc19, yc20, yc21, yc22, yc23, yc24, yc25]] W fun ev w' => ev = .returned (.bool true) ∧ Below W0.heap.size W0 w') (r8 : ∀ W, Below W0.heap.size W0 W → Calls Tryz.prog 161 #[.agg #[xc26, xc27, xc28, xc29], .agg #[yc26, yc27, yc28, yc29]] W fun ev w' => ev = .returned (.bool true) ∧ Below W0.heap.size W0 w') (r9 : ∀ W, Below W0.heap.size W0 W → Calls Tryz.prog 112 #[xc30, yc30] W fun ev w' => ev = .returned (.bool true) ∧ Below W0.heap.size W0 w') (r10 : ∀ W, Below W0.heap.size W0 W → Calls Tryz.prog 112 #[xc31, yc31] W fun ev w' => ev = .returned (.bool true) ∧ Below W0.heap.size W0 w') (sx30 : ∃ p n m, xc30 = .slice p n m) (sy30 : ∃ p n m, yc30 = .slice p n m) (sx31 : ∃ p n m, xc31 = .slice p n m) (sy31 : ∃ p n m, yc31 = .slice p n m) (u0 u1 u2 u3 u4 u5 u8 u9 u10 u11 u12 u13 u14 u15 u16 u17 u18 u19 u20 u21 u22 u23 u24 u25 u26 u27 u28 u29 u30 u31 u32 u33 u34 u35 u36 u37 u38 u39 u40 u41 u42 u43 u44 u45 u46 u47 u48 u49 u50 u51 u52 u53 u54 u55 u56 u57 u58 u59 u60 u61 u62 u63 u64 u65 u66 u67 u68 u69 u70 u71 u72 u73 u74 u75 u76 u77 u78 u79 u80 u81 u82 u83 u84 u85 u86 u87 u88 u89 u90 u91 u92 u93 u94 u95 u96 u97 u98 u99 u100 u101 u102 u103 u104 u105 u106 u107 : Value) (hQ : ∀ (v27 v28 v29 v30 v31 v32 v33 v34 v35 v36 v37 v38 v39 v40 v41 v42 v43 v44 v45 v46 v47 v48 v49 v50 v51 v52 v53 v54 v55 v56 v57 v58 v59 v60 v61 v62 v63 v64 v65 v66 v67 v68 v69 v70 v71 v72 v73 v74 v75 v76 v77 v78 v79 v80 v81 v82 v83 v84 v85 v86 v87 v88 v89 v90 v91 v92 v93 v94 v95 v96 v97 v98 v99 v100 v101 v102 v103 v104 v105 v106 : Value) (w' : World), Below W0.heap.size W0 w' → Q .normal { tmps := #[u0, u1, u2, u3, u4, u5, .pointer (some ⟨gx, 0, none⟩), .pointer (some ⟨gy, 0, none⟩), u8, u9, u10, u11, u12, u13, u14, u15, u16, u17, u18, u19, u20, u21, u22, u23, u24, u25, u26, v27, v28, v29, v30, v31, v32, v33, v34, v35, v36, v37, v38, v39, v40, v41, v42, v43, v44, v45, v46, v47, v48, v49, v50, v51, v52, v53, v54, v55, v56, v57, v58, v59, v60, v61, v62, v63, v64, v65, v66, v67, v68, v69, v70, v71, v72, v73, v74, v75, v76, v77, v78, v79, v80, v81, v82, v83, v84, v85, v86, v87, v88, v89, v90, v91, v92, v93, v94, v95, v96, v97, v98, v99, v100, v101, v102, v103, v104, v105, v106, .bool false], defers := [] } w') :
    reg77.wp Tryz.prog Q { tmps := #[u0, u1, u2, u3, u4, u5, .pointer (some ⟨gx, 0, none⟩), .pointer (some ⟨gy, 0, none⟩), u8, u9, u10, u11, u12, u13, u14, u15, u16, u17, u18, u19, u20, u21, u22, u23, u24, u25, u26, u27, u28, u29, u30, u31, u32, u33, u34, u35, u36, u37, u38, u39, u40, u41, u42, u43, u44, u45, u46, u47, u48, u49, u50, u51, u52, u53, u54, u55, u56, u57, u58, u59, u60, u61, u62, u63, u64, u65, u66, u67, u68, u69, u70, u71, u72, u73, u74, u75, u76, u77, u78, u79, u80, u81, u82, u83, u84, u85, u86, u87, u88, u89, u90, u91, u92, u93, u94, u95, u96, u97, u98, u99, u100, u101, u102, u103, u104, u105, u106, u107], defers := [] } W0 := by
  have HQ := hid hQ
  clear hQ
  refine flat77 ?_
  have p2a := (bne_of p2).1
  have p2b := (bne_of p2).2
  have p4a := (bne_of p4).1
  have p4b := (bne_of p4).2
  have H5 := hid r5
  have H6 := hid r6
  have H7 := hid r7
  have H8 := hid r8
  have H9 := hid r9
  have H10 := hid r10
  clear r5 r6 r7 r8 r9 r10
  obtain ⟨p30, n30, m30, e30⟩ := sx30
  obtain ⟨p30', n30', m30', e30'⟩ := sy30
  subst e30 e30'
  obtain ⟨p31, n31, m31, e31⟩ := sx31
  obtain ⟨p31', n31', m31', e31'⟩ := sy31
  subst e31 e31'
  have HS : Hid (∀ W, Below W0.heap.size W0 W → Row W gx 114 csx ∧ Row W gy 114 csy) := fun W h => ⟨R1.below h R1.lt, R2.below h R2.lt⟩
  clear R1 R2
  have hW : Below W0.heap.size W0 W0 := Below.refl _ _
  obtain ⟨rwx, rwy⟩ := HS.out W0 hW
  have fx0 := (rwx.cell 0).trans kx0
  have fy0 := (rwy.cell 0).trans ky0
  have fx1 := (rwx.cell 1).trans kx1
  have fy1 := (rwy.cell 1).trans ky1
  have fx2 := (rwx.cell 2).trans kx2
  have fy2 := (rwy.cell 2).trans ky2
  have fx3 := (rwx.cell 3).trans kx3
  have fy3 := (rwy.cell 3).trans ky3
  have fx8 := (rwx.cell 8).trans kx8
  have fy8 := (rwy.cell 8).trans ky8
  have fx4 := (rwx.cell 4).trans kx4
  have fy4 := (rwy.cell 4).trans ky4
  have fx5 := (rwx.cell 5).trans kx5
  have fy5 := (rwy.cell 5).trans ky5
  have fx6 := (rwx.cell 6).trans kx6
  have fy6 := (rwy.cell 6).trans ky6
  have fx7 := (rwx.cell 7).trans kx7
  have fy7 := (rwy.cell 7).trans ky7
  clear rwx rwy kx0 ky0 kx1 ky1 kx2 ky2 kx3 ky3 kx8 ky8 kx4 ky4 kx5 ky5 kx6 ky6 kx7 ky7
  go_wp2_with fail
  refine (H5.out _ hW).mono ?_
  rintro _ W5 ⟨rfl, hb5⟩
  clear fx0 fy0 fx1 fy1 fx2 fy2 fx3 fy3 fx8 fy8 fx4 fy4 fx5 fy5 fx6 fy6 fx7 fy7 H5
  obtain ⟨rwx, rwy⟩ := HS.out W5 hb5
  have fx9 := (rwx.cell 9).trans kx9
  have fy9 := (rwy.cell 9).trans ky9
  have fx10 := (rwx.cell 10).trans kx10
  have fy10 := (rwy.cell 10).trans ky10
  clear rwx rwy kx9 ky9 kx10 ky10
  go_wp2_with fail
  refine (H6.out _ hb5).mono ?_
  rintro _ W6 ⟨rfl, hb6⟩
  clear fx9 fy9 fx10 fy10 H6
  obtain ⟨rwx, rwy⟩ := HS.out W6 hb6
  have fx11 := (rwx.cell 11).trans kx11
  have fy11 := (rwy.cell 11).trans ky11
  have fx12 := (rwx.cell 12).trans kx12
  have fy12 := (rwy.cell 12).trans ky12
  have fx13 := (rwx.cell 13).trans kx13
  have fy13 := (rwy.cell 13).trans ky13
  have fx14 := (rwx.cell 14).trans kx14
  have fy14 := (rwy.cell 14).trans ky14
  have fx15 := (rwx.cell 15).trans kx15
  have fy15 := (rwy.cell 15).trans ky15
  have fx16 := (rwx.cell 16).trans kx16
  have fy16 := (rwy.cell 16).trans ky16
  have fx17 := (rwx.cell 17).trans kx17
  have fy17 := (rwy.cell 17).trans ky17
  have fx18 := (rwx.cell 18).trans kx18
  have fy18 := (rwy.cell 18).trans ky18
  have fx19 := (rwx.cell 19).trans kx19
  have fy19 := (rwy.cell 19).trans ky19
  have fx20 := (rwx.cell 20).trans kx20
  have fy20 := (rwy.cell 20).trans ky20
  have fx21 := (rwx.cell 21).trans kx21
  have fy21 := (rwy.cell 21).trans ky21
  have fx22 := (rwx.cell 22).trans kx22
  have fy22 := (rwy.cell 22).trans ky22
  have fx23 := (rwx.cell 23).trans kx23
  have fy23 := (rwy.cell 23).trans ky23
  have fx24 := (rwx.cell 24).trans kx24
  have fy24 := (rwy.cell 24).trans ky24
  have fx25 := (rwx.cell 25).trans kx25
  have fy25 := (rwy.cell 25).trans ky25
  clear rwx rwy kx11 ky11 kx12 ky12 kx13 ky13 kx14 ky14 kx15 ky15 kx16 ky16 kx17 ky17 kx18 ky18 kx19 ky19 kx20 ky20 kx21 ky21 kx22 ky22 kx23 ky23 kx24 ky24 kx25 ky25
  go_wp2_with fail
  refine (H7.out _ hb6).mono ?_
  rintro _ W7 ⟨rfl, hb7⟩
  clear fx11 fy11 fx12 fy12 fx13 fy13 fx14 fy14 fx15 fy15 fx16 fy16 fx17 fy17 fx18 fy18 fx19 fy19 fx20 fy20 fx21 fy21 fx22 fy22 fx23 fy23 fx24 fy24 fx25 fy25 H7
  obtain ⟨rwx, rwy⟩ := HS.out W7 hb7
  have fx26 := (rwx.cell 26).trans kx26
  have fy26 := (rwy.cell 26).trans ky26
  have fx27 := (rwx.cell 27).trans kx27
  have fy27 := (rwy.cell 27).trans ky27
  have fx28 := (rwx.cell 28).trans kx28
  have fy28 := (rwy.cell 28).trans ky28
  have fx29 := (rwx.cell 29).trans kx29
  have fy29 := (rwy.cell 29).trans ky29
  clear rwx rwy kx26 ky26 kx27 ky27 kx28 ky28 kx29 ky29
  go_wp2_with fail
  refine (H8.out _ hb7).mono ?_
  rintro _ W8 ⟨rfl, hb8⟩
  clear fx26 fy26 fx27 fy27 fx28 fy28 fx29 fy29 H8
  obtain ⟨rwx, rwy⟩ := HS.out W8 hb8
  have fx30 := (rwx.cell 30).trans kx30
  have fy30 := (rwy.cell 30).trans ky30
  clear rwx rwy kx30 ky30
  go_wp2_with fail
  refine (H9.out _ hb8).mono ?_
  rintro _ W9 ⟨rfl, hb9⟩
  clear fx30 fy30 H9
  obtain ⟨rwx, rwy⟩ := HS.out W9 hb9
  have fx31 := (rwx.cell 31).trans kx31
  have fy31 := (rwy.cell 31).trans ky31
  clear rwx rwy kx31 ky31
  go_wp2_with fail
  refine (H10.out _ hb9).mono ?_
  rintro _ W10 ⟨rfl, hb10⟩
  clear fx31 fy31 H10
  go_wp2_with fail
  exact HQ.out _ _ _ _ _ _ _ _ _ _ _ _ _ _ _ _ _ _ _ _ _ _ _ _ _ _ _ _ _ _ _ _ _ _ _ _ _ _ _ _ _ _ _ _ _ _ _ _ _ _ _ _ _ _ _ _ _ _ _ _ _ _ _ _ _ _ _ _ _ _ _ _ _ _ _ _ _ _ _ _ _ hb10
end Go.Proofs.YtmopffaocamieaaGreat
