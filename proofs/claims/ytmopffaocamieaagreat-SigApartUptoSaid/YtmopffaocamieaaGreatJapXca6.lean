/-
  The texts Xca, Xcb, Xcc, Xcd, Xce, Xcf, joined.
-/
import Derived.Test.YtmopffaocamieaaGreatQapXs7
namespace Go.Proofs.YtmopffaocamieaaGreat
open Go.RowKit
set_option maxHeartbeats 8000000 in
set_option maxRecDepth 20000 in
theorem s77_0 {Q : Exit → Act → World → Prop} (W0 : World) (gx gy : Nat) (csx csy : List Value) (R1 : Row W0 gx 114 csx) (R2 : Row W0 gy 114 csy) (x0 y0 : Int) (kx0 : csx[0]? = some (.int .i64 x0)) (ky0 : csy[0]? = some (.int .i64 y0)) (p0 : (x0 != y0) = true) (u0 u1 u2 u3 u4 u5 u8 u9 u10 u11 u12 u13 u14 u15 u16 u17 u18 u19 u20 u21 u22 u23 u24 u25 u26 u27 u28 u29 u30 u31 u32 u33 u34 u35 u36 u37 u38 u39 u40 u41 u42 u43 u44 u45 u46 u47 u48 u49 u50 u51 u52 u53 u54 u55 u56 u57 u58 u59 u60 u61 u62 u63 u64 u65 u66 u67 u68 u69 u70 u71 u72 u73 u74 u75 u76 u77 u78 u79 u80 u81 u82 u83 u84 u85 u86 u87 u88 u89 u90 u91 u92 u93 u94 u95 u96 u97 u98 u99 u100 u101 u102 u103 u104 u105 u106 u107 : Value) (hQ : ∀ (v27 v28 v29 v30 v31 v32 v33 v34 v35 v36 v37 v38 v39 v40 v41 v42 v43 v44 v45 v46 v47 v48 v49 v50 v51 v52 v53 v54 v55 v56 v57 v58 v59 v60 v61 v62 v63 v64 v65 v66 v67 v68 v69 v70 v71 v72 v73 v74 v75 v76 v77 v78 v79 v80 v81 v82 v83 v84 v85 v86 v87 v88 v89 v90 v91 v92 v93 v94 v95 v96 v97 v98 v99 v100 v101 v102 v103 v104 v105 v106 : Value) (w' : World), Below W0.heap.size W0 w' → Q .normal { tmps := #[u0, u1, u2, u3, u4, u5, .pointer (some ⟨gx, 0, none⟩), .pointer (some ⟨gy, 0, none⟩), u8, u9, u10, u11, u12, u13, u14, u15, u16, u17, u18, u19, u20, u21, u22, u23, u24, u25, u26, v27, v28, v29, v30, v31, v32, v33, v34, v35, v36, v37, v38, v39, v40, v41, v42, v43, v44, v45, v46, v47, v48, v49, v50, v51, v52, v53, v54, v55, v56, v57, v58, v59, v60, v61, v62, v63, v64, v65, v66, v67, v68, v69, v70, v71, v72, v73, v74, v75, v76, v77, v78, v79, v80, v81, v82, v83, v84, v85, v86, v87, v88, v89, v90, v91, v92, v93, v94, v95, v96, v97, v98, v99, v100, v101, v102, v103, v104, v105, v106, .bool true], defers := [] } w') :
    reg77.wp Tryz.prog Q { tmps := #[u0, u1, u2, u3, u4, u5, .pointer (some ⟨gx, 0, none⟩), .pointer (some ⟨gy, 0, none⟩), u8, u9, u10, u11, u12, u13, u14, u15, u16, u17, u18, u19, u20, u21, u22, u23, u24, u25, u26, u27, u28, u29, u30, u31, u32, u33, u34, u35, u36, u37, u38, u39, u40, u41, u42, u43, u44, u45, u46, u47, u48, u49, u50, u51, u52, u53, u54, u55, u56, u57, u58, u59, u60, u61, u62, u63, u64, u65, u66, u67, u68, u69, u70, u71, u72, u73, u74, u75, u76, u77, u78, u79, u80, u81, u82, u83, u84, u85, u86, u87, u88, u89, u90, u91, u92, u93, u94, u95, u96, u97, u98, u99, u100, u101, u102, u103, u104, u105, u106, u107], defers := [] } W0 := by
  have HQ := hid hQ
  clear hQ
  refine flat77 ?_
  have HS : Hid (∀ W, Below W0.heap.size W0 W → Row W gx 114 csx ∧ Row W gy 114 csy) := fun W h => ⟨R1.below h R1.lt, R2.below h R2.lt⟩
  clear R1 R2
  have hW : Below W0.heap.size W0 W0 := Below.refl _ _
  obtain ⟨rwx, rwy⟩ := HS.out W0 hW
  have fx0 := (rwx.cell 0).trans kx0
  have fy0 := (rwy.cell 0).trans ky0
  clear rwx rwy kx0 ky0
  go_wp2_with fail
  exact HQ.out _ _ _ _ _ _ _ _ _ _ _ _ _ _ _ _ _ _ _ _ _ _ _ _ _ _ _ _ _ _ _ _ _ _ _ _ _ _ _ _ _ _ _ _ _ _ _ _ _ _ _ _ _ _ _ _ _ _ _ _ _ _ _ _ _ _ _ _ _ _ _ _ _ _ _ _ _ _ _ _ _ hW
end Go.Proofs.YtmopffaocamieaaGreat

namespace Go.Proofs.YtmopffaocamieaaGreat
open Go.RowKit
set_option maxHeartbeats 8000000 in
set_option maxRecDepth 20000 in
theorem s77_1 {Q : Exit → Act → World → Prop} (W0 : World) (gx gy : Nat) (csx csy : List Value) (R1 : Row W0 gx 114 csx) (R2 : Row W0 gy 114 csy) (x0 y0 : Int) (x1 y1 : Int) (kx0 : csx[0]? = some (.int .i64 x0)) (ky0 : csy[0]? = some (.int .i64 y0)) (kx1 : csx[1]? = some (.int .i64 x1)) (ky1 : csy[1]? = some (.int .i64 y1)) (p0 : (x0 != y0) = false) (p1 : (x1 != y1) = true) (u0 u1 u2 u3 u4 u5 u8 u9 u10 u11 u12 u13 u14 u15 u16 u17 u18 u19 u20 u21 u22 u23 u24 u25 u26 u27 u28 u29 u30 u31 u32 u33 u34 u35 u36 u37 u38 u39 u40 u41 u42 u43 u44 u45 u46 u47 u48 u49 u50 u51 u52 u53 u54 u55 u56 u57 u58 u59 u60 u61 u62 u63 u64 u65 u66 u67 u68 u69 u70 u71 u72 u73 u74 u75 u76 u77 u78 u79 u80 u81 u82 u83 u84 u85 u86 u87 u88 u89 u90 u91 u92 u93 u94 u95 u96 u97 u98 u99 u100 u101 u102 u103 u104 u105 u106 u107 : Value) (hQ : ∀ (v27 v28 v29 v30 v31 v32 v33 v34 v35 v36 v37 v38 v39 v40 v41 v42 v43 v44 v45 v46 v47 v48 v49 v50 v51 v52 v53 v54 v55 v56 v57 v58 v59 v60 v61 v62 v63 v64 v65 v66 v67 v68 v69 v70 v71 v72 v73 v74 v75 v76 v77 v78 v79 v80 v81 v82 v83 v84 v85 v86 v87 v88 v89 v90 v91 v92 v93 v94 v95 v96 v97 v98 v99 v100 v101 v102 v103 v104 v105 v106 : Value) (w' : World), Below W0.heap.size W0 w' → Q .normal { tmps := #[u0, u1, u2, u3, u4, u5, .pointer (some ⟨gx, 0, none⟩), .pointer (some ⟨gy, 0, none⟩), u8, u9, u10, u11, u12, u13, u14, u15, u16, u17, u18, u19, u20, u21, u22, u23, u24, u25, u26, v27, v28, v29, v30, v31, v32, v33, v34, v35, v36, v37, v38, v39, v40, v41, v42, v43, v44, v45, v46, v47, v48, v49, v50, v51, v52, v53, v54, v55, v56, v57, v58, v59, v60, v61, v62, v63, v64, v65, v66, v67, v68, v69, v70, v71, v72, v73, v74, v75, v76, v77, v78, v79, v80, v81, v82, v83, v84, v85, v86, v87, v88, v89, v90, v91, v92, v93, v94, v95, v96, v97, v98, v99, v100, v101, v102, v103, v104, v105, v106, .bool true], defers := [] } w') :
    reg77.wp Tryz.prog Q { tmps := #[u0, u1, u2, u3, u4, u5, .pointer (some ⟨gx, 0, none⟩), .pointer (some ⟨gy, 0, none⟩), u8, u9, u10, u11, u12, u13, u14, u15, u16, u17, u18, u19, u20, u21, u22, u23, u24, u25, u26, u27, u28, u29, u30, u31, u32, u33, u34, u35, u36, u37, u38, u39, u40, u41, u42, u43, u44, u45, u46, u47, u48, u49, u50, u51, u52, u53, u54, u55, u56, u57, u58, u59, u60, u61, u62, u63, u64, u65, u66, u67, u68, u69, u70, u71, u72, u73, u74, u75, u76, u77, u78, u79, u80, u81, u82, u83, u84, u85, u86, u87, u88, u89, u90, u91, u92, u93, u94, u95, u96, u97, u98, u99, u100, u101, u102, u103, u104, u105, u106, u107], defers := [] } W0 := by
  have HQ := hid hQ
  clear hQ
  refine flat77 ?_
  have HS : Hid (∀ W, Below W0.heap.size W0 W → Row W gx 114 csx ∧ Row W gy 114 csy) := fun W h => ⟨R1.below h R1.lt, R2.below h R2.lt⟩
  clear R1 R2
  have hW : Below W0.heap.size W0 W0 := Below.refl _ _
  obtain ⟨rwx, rwy⟩ := HS.out W0 hW
  have fx0 := (rwx.cell 0).trans kx0
  have fy0 := (rwy.cell 0).trans ky0
  have fx1 := (rwx.cell 1).trans kx1
  have fy1 := (rwy.cell 1).trans ky1
  clear rwx rwy kx0 ky0 kx1 ky1
  go_wp2_with fail
  exact HQ.out _ _ _ _ _ _ _ _ _ _ _ _ _ _ _ _ _ _ _ _ _ _ _ _ _ _ _ _ _ _ _ _ _ _ _ _ _ _ _ _ _ _ _ _ _ _ _ _ _ _ _ _ _ _ _ _ _ _ _ _ _ _ _ _ _ _ _ _ _ _ _ _ _ _ _ _ _ _ _ _ _ hW
end Go.Proofs.YtmopffaocamieaaGreat

namespace Go.Proofs.YtmopffaocamieaaGreat
open Go.RowKit
set_option maxHeartbeats 8000000 in
set_option maxRecDepth 20000 in
theorem s77_2 {Q : Exit → Act → World → Prop} (W0 : World) (gx gy : Nat) (csx csy : List Value) (R1 : Row W0 gx 114 csx) (R2 : Row W0 gy 114 csy) (x0 y0 : Int) (x1 y1 : Int) (x2 y2 : Bool) (kx0 : csx[0]? = some (.int .i64 x0)) (ky0 : csy[0]? = some (.int .i64 y0)) (kx1 : csx[1]? = some (.int .i64 x1)) (ky1 : csy[1]? = some (.int .i64 y1)) (kx2 : csx[2]? = some (.bool x2)) (ky2 : csy[2]? = some (.bool y2)) (p0 : (x0 != y0) = false) (p1 : (x1 != y1) = false) (p2 : (x2 != y2) = true) (u0 u1 u2 u3 u4 u5 u8 u9 u10 u11 u12 u13 u14 u15 u16 u17 u18 u19 u20 u21 u22 u23 u24 u25 u26 u27 u28 u29 u30 u31 u32 u33 u34 u35 u36 u37 u38 u39 u40 u41 u42 u43 u44 u45 u46 u47 u48 u49 u50 u51 u52 u53 u54 u55 u56 u57 u58 u59 u60 u61 u62 u63 u64 u65 u66 u67 u68 u69 u70 u71 u72 u73 u74 u75 u76 u77 u78 u79 u80 u81 u82 u83 u84 u85 u86 u87 u88 u89 u90 u91 u92 u93 u94 u95 u96 u97 u98 u99 u100 u101 u102 u103 u104 u105 u106 u107 : Value) (hQ : ∀ (v27 v28 v29 v30 v31 v32 v33 v34 v35 v36 v37 v38 v39 v40 v41 v42 v43 v44 v45 v46 v47 v48 v49 v50 v51 v52 v53 v54 v55 v56 v57 v58 v59 v60 v61 v62 v63 v64 v65 v66 v67 v68 v69 v70 v71 v72 v73 v74 v75 v76 v77 v78 v79 v80 v81 v82 v83 v84 v85 v86 v87 v88 v89 v90 v91 v92 v93 v94 v95 v96 v97 v98 v99 v100 v101 v102 v103 v104 v105 v106 : Value) (w' : World), Below W0.heap.size W0 w' → Q .normal { tmps := #[u0, u1, u2, u3, u4, u5, .pointer (some ⟨gx, 0, none⟩), .pointer (some ⟨gy, 0, none⟩), u8, u9, u10, u11, u12, u13, u14, u15, u16, u17, u18, u19, u20, u21, u22, u23, u24, u25, u26, v27, v28, v29, v30, v31, v32, v33, v34, v35, v36, v37, v38, v39, v40, v41, v42, v43, v44, v45, v46, v47, v48, v49, v50, v51, v52, v53, v54, v55, v56, v57, v58, v59, v60, v61, v62, v63, v64, v65, v66, v67, v68, v69, v70, v71, v72, v73, v74, v75, v76, v77, v78, v79, v80, v81, v82, v83, v84, v85, v86, v87, v88, v89, v90, v91, v92, v93, v94, v95, v96, v97, v98, v99, v100, v101, v102, v103, v104, v105, v106, .bool true], defers := [] } w') :
    reg77.wp Tryz.prog Q { tmps := #[u0, u1, u2, u3, u4, u5, .pointer (some ⟨gx, 0, none⟩), .pointer (some ⟨gy, 0, none⟩), u8, u9, u10, u11, u12, u13, u14, u15, u16, u17, u18, u19, u20, u21, u22, u23, u24, u25, u26, u27, u28, u29, u30, u31, u32, u33, u34, u35, u36, u37, u38, u39, u40, u41, u42, u43, u44, u45, u46, u47, u48, u49, u50, u51, u52, u53, u54, u55, u56, u57, u58, u59, u60, u61, u62, u63, u64, u65, u66, u67, u68, u69, u70, u71, u72, u73, u74, u75, u76, u77, u78, u79, u80, u81, u82, u83, u84, u85, u86, u87, u88, u89, u90, u91, u92, u93, u94, u95, u96, u97, u98, u99, u100, u101, u102, u103, u104, u105, u106, u107], defers := [] } W0 := by
  have HQ := hid hQ
  clear hQ
  refine flat77 ?_
  have p2a := (bne_of p2).1
  have p2b := (bne_of p2).2
  have HS : Hid (∀ W, Below W0.heap.size W0 W → Row W gx 114 csx ∧ Row W gy 114 csy) := fun W h => ⟨R1.below h R1.lt, R2.below h R2.lt⟩
  clear R1 R2
  have hW : Below W0.heap.size W0 W0 := Below.refl _ _
  obtain ⟨rwx, rwy⟩ := HS.out W0 hW
  have fx0 := (rwx.cell 0).trans kx0
  have fy0 := (rwy.cell 0).trans ky0
  have fx1 := (rwx.cell 1).trans kx1
  have fy1 := (rwy.cell 1).trans ky1
  have fx2 := (rwx.cell 2).trans kx2
  have fy2 := (rwy.cell 2).trans ky2
  clear rwx rwy kx0 ky0 kx1 ky1 kx2 ky2
  go_wp2_with fail
  exact HQ.out _ _ _ _ _ _ _ _ _ _ _ _ _ _ _ _ _ _ _ _ _ _ _ _ _ _ _ _ _ _ _ _ _ _ _ _ _ _ _ _ _ _ _ _ _ _ _ _ _ _ _ _ _ _ _ _ _ _ _ _ _ _ _ _ _ _ _ _ _ _ _ _ _ _ _ _ _ _ _ _ _ hW
end Go.Proofs.YtmopffaocamieaaGreat

namespace Go.Proofs.YtmopffaocamieaaGreat
open Go.RowKit
set_option maxHeartbeats 8000000 in
set_option maxRecDepth 20000 in
theorem s77_3 {Q : Exit → Act → World → Prop} (W0 : World) (gx gy : Nat) (csx csy : List Value) (R1 : Row W0 gx 114 csx) (R2 : Row W0 gy 114 csy) (x0 y0 : Int) (x1 y1 : Int) (x2 y2 : Bool) (x3 y3 : ByteArray) (kx0 : csx[0]? = some (.int .i64 x0)) (ky0 : csy[0]? = some (.int .i64 y0)) (kx1 : csx[1]? = some (.int .i64 x1)) (ky1 : csy[1]? = some (.int .i64 y1)) (kx2 : csx[2]? = some (.bool x2)) (ky2 : csy[2]? = some (.bool y2)) (kx3 : csx[3]? = some (.string x3)) (ky3 : csy[3]? = some (.string y3)) (p0 : (x0 != y0) = false) (p1 : (x1 != y1) = false) (p2 : (x2 != y2) = false) (p3 : (x3.toList == y3.toList) = false) (u0 u1 u2 u3 u4 u5 u8 u9 u10 u11 u12 u13 u14 u15 u16 u17 u18 u19 u20 u21 u22 u23 u24 u25 u26 u27 u28 u29 u30 u31 u32 u33 u34 u35 u36 u37 u38 u39 u40 u41 u42 u43 u44 u45 u46 u47 u48 u49 u50 u51 u52 u53 u54 u55 u56 u57 u58 u59 u60 u61 u62 u63 u64 u65 u66 u67 u68 u69 u70 u71 u72 u73 u74 u75 u76 u77 u78 u79 u80 u81 u82 u83 u84 u85 u86 u87 u88 u89 u90 u91 u92 u93 u94 u95 u96 u97 u98 u99 u100 u101 u102 u103 u104 u105 u106 u107 : Value) (hQ : ∀ (v27 v28 v29 v30 v31 v32 v33 v34 v35 v36 v37 v38 v39 v40 v41 v42 v43 v44 v45 v46 v47 v48 v49 v50 v51 v52 v53 v54 v55 v56 v57 v58 v59 v60 v61 v62 v63 v64 v65 v66 v67 v68 v69 v70 v71 v72 v73 v74 v75 v76 v77 v78 v79 v80 v81 v82 v83 v84 v85 v86 v87 v88 v89 v90 v91 v92 v93 v94 v95 v96 v97 v98 v99 v100 v101 v102 v103 v104 v105 v106 : Value) (w' : World), Below W0.heap.size W0 w' → Q .normal { tmps := #[u0, u1, u2, u3, u4, u5, .pointer (some ⟨gx, 0, none⟩), .pointer (some ⟨gy, 0, none⟩), u8, u9, u10, u11, u12, u13, u14, u15, u16, u17, u18, u19, u20, u21, u22, u23, u24, u25, u26, v27, v28, v29, v30, v31, v32, v33, v34, v35, v36, v37, v38, v39, v40, v41, v42, v43, v44, v45, v46, v47, v48, v49, v50, v51, v52, v53, v54, v55, v56, v57, v58, v59, v60, v61, v62, v63, v64, v65, v66, v67, v68, v69, v70, v71, v72, v73, v74, v75, v76, v77, v78, v79, v80, v81, v82, v83, v84, v85, v86, v87, v88, v89, v90, v91, v92, v93, v94, v95, v96, v97, v98, v99, v100, v101, v102, v103, v104, v105, v106, .bool true], defers := [] } w') :
    reg77.wp Tryz.prog Q { tmps := #[u0, u1, u2, u3, u4, u5, .pointer (some ⟨gx, 0, none⟩), .pointer (some ⟨gy, 0, none⟩), u8, u9, u10, u11, u12, u13, u14, u15, u16, u17, u18, u19, u20, u21, u22, u23, u24, u25, u26, u27, u28, u29, u30, u31, u32, u33, u34, u35, u36, u37, u38, u39, u40, u41, u42, u43, u44, u45, u46, u47, u48, u49, u50, u51, u52, u53, u54, u55, u56, u57, u58, u59, u60, u61, u62, u63, u64, u65, u66, u67, u68, u69, u70, u71, u72, u73, u74, u75, u76, u77, u78, u79, u80, u81, u82, u83, u84, u85, u86, u87, u88, u89, u90, u91, u92, u93, u94, u95, u96, u97, u98, u99, u100, u101, u102, u103, u104, u105, u106, u107], defers := [] } W0 := by
  have HQ := hid hQ
  clear hQ
  refine flat77 ?_
  have p2a := (bne_of p2).1
  have p2b := (bne_of p2).2
  have HS : Hid (∀ W, Below W0.heap.size W0 W → Row W gx 114 csx ∧ Row W gy 114 csy) := fun W h => ⟨R1.below h R1.lt, R2.below h R2.lt⟩
  clear R1 R2
  have hW : Below W0.heap.size W0 W0 := Below.refl _ _
  obtain ⟨rwx, rwy⟩ := HS.out W0 hW
  have fx0 := (rwx.cell 0).trans kx0
  have fy0 := (rwy.cell 0).trans ky0
  have fx1 := (rwx.cell 1).trans kx1
  have fy1 := (rwy.cell 1).trans ky1
  have fx2 := (rwx.cell 2).trans kx2
  have fy2 := (rwy.cell 2).trans ky2
  have fx3 := (rwx.cell 3).trans kx3
  have fy3 := (rwy.cell 3).trans ky3
  clear rwx rwy kx0 ky0 kx1 ky1 kx2 ky2 kx3 ky3
  go_wp2_with fail
  exact HQ.out _ _ _ _ _ _ _ _ _ _ _ _ _ _ _ _ _ _ _ _ _ _ _ _ _ _ _ _ _ _ _ _ _ _ _ _ _ _ _ _ _ _ _ _ _ _ _ _ _ _ _ _ _ _ _ _ _ _ _ _ _ _ _ _ _ _ _ _ _ _ _ _ _ _ _ _ _ _ _ _ _ hW
end Go.Proofs.YtmopffaocamieaaGreat

namespace Go.Proofs.YtmopffaocamieaaGreat
open Go.RowKit
set_option maxHeartbeats 8000000 in
set_option maxRecDepth 20000 in
theorem s77_4 {Q : Exit → Act → World → Prop} (W0 : World) (gx gy : Nat) (csx csy : List Value) (R1 : Row W0 gx 114 csx) (R2 : Row W0 gy 114 csy) (x0 y0 : Int) (x1 y1 : Int) (x2 y2 : Bool) (x3 y3 : ByteArray) (x4 y4 : Bool) (kx0 : csx[0]? = some (.int .i64 x0)) (ky0 : csy[0]? = some (.int .i64 y0)) (kx1 : csx[1]? = some (.int .i64 x1)) (ky1 : csy[1]? = some (.int .i64 y1)) (kx2 : csx[2]? = some (.bool x2)) (ky2 : csy[2]? = some (.bool y2)) (kx3 : csx[3]? = some (.string x3)) (ky3 : csy[3]? = some (.string y3)) (kx8 : csx[8]? = some (.bool x4)) (ky8 : csy[8]? = some (.bool y4)) (p0 : (x0 != y0) = false) (p1 : (x1 != y1) = false) (p2 : (x2 != y2) = false) (p3 : (x3.toList == y3.toList) = true) (p4 : (x4 != y4) = true) (u0 u1 u2 u3 u4 u5 u8 u9 u10 u11 u12 u13 u14 u15 u16 u17 u18 u19 u20 u21 u22 u23 u24 u25 u26 u27 u28 u29 u30 u31 u32 u33 u34 u35 u36 u37 u38 u39 u40 u41 u42 u43 u44 u45 u46 u47 u48 u49 u50 u51 u52 u53 u54 u55 u56 u57 u58 u59 u60 u61 u62 u63 u64 u65 u66 u67 u68 u69 u70 u71 u72 u73 u74 u75 u76 u77 u78 u79 u80 u81 u82 u83 u84 u85 u86 u87 u88 u89 u90 u91 u92 u93 u94 u95 u96 u97 u98 u99 u100 u101 u102 u103 u104 u105 u106 u107 : Value) (hQ : ∀ (v27 v28 v29 v30 v31 v32 v33 v34 v35 v36 v37 v38 v39 v40 v41 v42 v43 v44 v45 v46 v47 v48 v49 v50 v51 v52 v53 v54 v55 v56 v57 v58 v59 v60 v61 v62 v63 v64 v65 v66 v67 v68 v69 v70 v71 v72 v73 v74 v75 v76 v77 v78 v79 v80 v81 v82 v83 v84 v85 v86 v87 v88 v89 v90 v91 v92 v93 v94 v95 v96 v97 v98 v99 v100 v101 v102 v103 v104 v105 v106 : Value) (w' : World), Below W0.heap.size W0 w' → Q .normal { tmps := #[u0, u1, u2, u3, u4, u5, .pointer (some ⟨gx, 0, none⟩), .pointer (some ⟨gy, 0, none⟩), u8, u9, u10, u11, u12, u13, u14, u15, u16, u17, u18, u19, u20, u21, u22, u23, u24, u25, u26, v27, v28, v29, v30, v31, v32, v33, v34, v35, v36, v37, v38, v39, v40, v41, v42, v43, v44, v45, v46, v47, v48, v49, v50, v51, v52, v53, v54, v55, v56, v57, v58, v59, v60, v61, v62, v63, v64, v65, v66, v67, v68, v69, v70, v71, v72, v73, v74, v75, v76, v77, v78, v79, v80, v81, v82, v83, v84, v85, v86, v87, v88, v89, v90, v91, v92, v93, v94, v95, v96, v97, v98, v99, v100, v101, v102, v103, v104, v105, v106, .bool true], defers := [] } w') :
    reg77.wp Tryz.prog Q { tmps := #[u0, u1, u2, u3, u4, u5, .pointer (some ⟨gx, 0, none⟩), .pointer (some ⟨gy, 0, none⟩), u8, u9, u10, u11, u12, u13, u14, u15, u16, u17, u18, u19, u20, u21, u22, u23, u24, u25, u26, u27, u28, u29, u30, u31, u32, u33, u34, u35, u36, u37, u38, u39, u40, u41, u42, u43, u44, u45, u46, u47, u48, u49, u50, u51, u52, u53, u54, u55, u56, u57, u58, u59, u60, u61, u62, u63, u64, u65, u66, u67, u68, u69, u70, u71, u72, u73, u74, u75, u76, u77, u78, u79, u80, u81, u82, u83, u84, u85, u86, u87, u88, u89, u90, u91, u92, u93, u94, u95, u96, u97, u98, u99, u100, u101, u102, u103, u104, u105, u106, u107], defers := [] } W0 := by
  have HQ := hid hQ
  clear hQ
  refine flat77 ?_
  have p2a := (bne_of p2).1
  have p2b := (bne_of p2).2
  have p4a := (bne_of p4).1
  have p4b := (bne_of p4).2
  have HS : Hid (∀ W, Below W0.heap.size W0 W → Row W gx 114 csx ∧ Row W gy 114 csy) := fun W h => ⟨R1.below h R1.lt, R2.below h R2.lt⟩
  clear R1 R2
  have hW : Below W0.heap.size W0 W0 := Below.refl _ _
  obtain ⟨rwx, rwy⟩ := HS.out W0 hW
  have fx0 := (rwx.cell 0).trans kx0
  have fy0 := (rwy.cell 0).trans ky0
  have fx1 := (rwx.cell 1).trans kx1
  have fy1 := (rwy.cell 1).trans ky1
  have fx2 := (rwx.cell 2).trans kx2
  have fy2 := (rwy.cell 2).trans ky2
  have fx3 := (rwx.cell 3).trans kx3
  have fy3 := (rwy.cell 3).trans ky3
  have fx8 := (rwx.cell 8).trans kx8
  have fy8 := (rwy.cell 8).trans ky8
  clear rwx rwy kx0 ky0 kx1 ky1 kx2 ky2 kx3 ky3 kx8 ky8
  go_wp2_with fail
  exact HQ.out _ _ _ _ _ _ _ _ _ _ _ _ _ _ _ _ _ _ _ _ _ _ _ _ _ _ _ _ _ _ _ _ _ _ _ _ _ _ _ _ _ _ _ _ _ _ _ _ _ _ _ _ _ _ _ _ _ _ _ _ _ _ _ _ _ _ _ _ _ _ _ _ _ _ _ _ _ _ _ _ _ hW
end Go.Proofs.YtmopffaocamieaaGreat

namespace Go.Proofs.YtmopffaocamieaaGreat
open Go.RowKit
set_option maxHeartbeats 8000000 in
set_option maxRecDepth 20000 in
theorem s77_5 {Q : Exit → Act → World → Prop} (W0 : World) (gx gy : Nat) (csx csy : List Value) (R1 : Row W0 gx 114 csx) (R2 : Row W0 gy 114 csy) (x0 y0 : Int) (x1 y1 : Int) (x2 y2 : Bool) (x3 y3 : ByteArray) (x4 y4 : Bool) (xc4 yc4 xc5 yc5 xc6 yc6 xc7 yc7 : Value) (kx0 : csx[0]? = some (.int .i64 x0)) (ky0 : csy[0]? = some (.int .i64 y0)) (kx1 : csx[1]? = some (.int .i64 x1)) (ky1 : csy[1]? = some (.int .i64 y1)) (kx2 : csx[2]? = some (.bool x2)) (ky2 : csy[2]? = some (.bool y2)) (kx3 : csx[3]? = some (.string x3)) (ky3 : csy[3]? = some (.string y3)) (kx8 : csx[8]? = some (.bool x4)) (ky8 : csy[8]? = some (.bool y4)) (kx4 : csx[4]? = some (xc4)) (ky4 : csy[4]? = some (yc4)) (kx5 : csx[5]? = some (xc5)) (ky5 : csy[5]? = some (yc5)) (kx6 : csx[6]? = some (xc6)) (ky6 : csy[6]? = some (yc6)) (kx7 : csx[7]? = some (xc7)) (ky7 : csy[7]? = some (yc7)) (p0 : (x0 != y0) = false) (p1 : (x1 != y1) = false) (p2 : (x2 != y2) = false) (p3 : (x3.toList == y3.toList) = true) (p4 : (x4 != y4) = false) (r5 : ∀ W, Below W0.heap.size W0 W → Calls Tryz.prog 99 #[.agg #[xc4, xc5, xc6, xc7], .agg #[yc4, yc5, yc6, yc7]] W fun ev w' => ev = .returned (.bool false) ∧ Below W0.heap.size W0 w') (u0 u1 u2 u3 u4 u5 u8 u9 u10 u11 u12 u13 u14 u15 u16 u17 u18 u19 u20 u21 u22 u23 u24 u25 u26 u27 u28 u29 u30 u31 u32 u33 u34 u35 u36 u37 u38 u39 u40 u41 u42 u43 u44 u45 u46 u47 u48 u49 u50 u51 u52 u53 u54 u55 u56 u57 u58 u59 u60 u61 u62 u63 u64 u65 u66 u67 u68 u69 u70 u71 u72 u73 u74 u75 u76 u77 u78 u79 u80 u81 u82 u83 u84 u85 u86 u87 u88 u89 u90 u91 u92 u93 u94 u95 u96 u97 u98 u99 u100 u101 u102 u103 u104 u105 u106 u107 : Value) (hQ : ∀ (v27 v28 v29 v30 v31 v32 v33 v34 v35 v36 v37 v38 v39 v40 v41 v42 v43 v44 v45 v46 v47 v48 v49 v50 v51 v52 v53 v54 v55 v56 v57 v58 v59 v60 v61 v62 v63 v64 v65 v66 v67 v68 v69 v70 v71 v72 v73 v74 v75 v76 v77 v78 v79 v80 v81 v82 v83 v84 v85 v86 v87 v88 v89 v90 v91 v92 v93 v94 v95 v96 v97 v98 v99 v100 v101 v102 v103 v104 v105 v106 : Value) (w' : World), Below W0.heap.size W0 w' → Q .normal { tmps := #[u0, u1, u2, u3, u4, u5, .pointer (some ⟨gx, 0, none⟩), .pointer (some ⟨gy, 0, none⟩), u8, u9, u10, u11, u12, u13, u14, u15, u16, u17, u18, u19, u20, u21, u22, u23, u24, u25, u26, v27, v28, v29, v30, v31, v32, v33, v34, v35, v36, v37, v38, v39, v40, v41, v42, v43, v44, v45, v46, v47, v48, v49, v50, v51, v52, v53, v54, v55, v56, v57, v58, v59, v60, v61, v62, v63, v64, v65, v66, v67, v68, v69, v70, v71, v72, v73, v74, v75, v76, v77, v78, v79, v80, v81, v82, v83, v84, v85, v86, v87, v88, v89, v90, v91, v92, v93, v94, v95, v96, v97, v98, v99, v100, v101, v102, v103, v104, v105, v106, .bool true], defers := [] } w') :
    reg77.wp Tryz.prog Q { tmps := #[u0, u1, u2, u3, u4, u5, .pointer (some ⟨gx, 0, none⟩), .pointer (some ⟨gy, 0, none⟩), u8, u9, u10, u11, u12, u13, u14, u15, u16, u17, u18, u19, u20, u21, u22, u23, u24, u25, u26, u27, u28, u29, u30, u31, u32, u33, u34, u35, u36, u37, u38, u39, u40, u41, u42, u43, u44, u45, u46, u47, u48, u49, u50, u51, u52, u53, u54, u55, u56, u57, u58, u59, u60, u61, u62, u63, u64, u65, u66, u67, u68, u69, u70, u71, u72, u73, u74, u75, u76, u77, u78, u79, u80, u81, u82, u83, u84, u85, u86, u87, u88, u89, u90, u91, u92, u93, u94, u95, u96, u97, u98, u99, u100, u101, u102, u103, u104, u105, u106, u107], defers := [] } W0 := by
  have HQ := hid hQ
  clear hQ
  refine flat77 ?_
  have p2a := (bne_of p2).1
  have p2b := (bne_of p2).2
  have p4a := (bne_of p4).1
  have p4b := (bne_of p4).2
  have H5 := hid r5
  clear r5
  have HS : Hid (∀ W, Below W0.heap.size W0 W → Row W gx 114 csx ∧ Row W gy 114 csy) := fun W h => ⟨R1.below h R1.lt, R2.below h R2.lt⟩
  clear R1 R2
  have hW : Below W0.heap.size W0 W0 := Below.refl _ _
  obtain ⟨rwx, rwy⟩ := HS.out W0 hW
  have fx0 := (rwx.cell 0).trans kx0
  have fy0 := (rwy.cell 0).trans ky0
  have fx1 := (rwx.cell 1).trans kx1
  have fy1 := (rwy.cell 1).trans ky1
  have fx2 := (rwx.cell 2).trans kx2
  have fy2 := (rwy.cell 2).trans ky2
  have fx3 := (rwx.cell 3).trans kx3
  have fy3 := (rwy.cell 3).trans ky3
  have fx8 := (rwx.cell 8).trans kx8
  have fy8 := (rwy.cell 8).trans ky8
  have fx4 := (rwx.cell 4).trans kx4
  have fy4 := (rwy.cell 4).trans ky4
  have fx5 := (rwx.cell 5).trans kx5
  have fy5 := (rwy.cell 5).trans ky5
  have fx6 := (rwx.cell 6).trans kx6
  have fy6 := (rwy.cell 6).trans ky6
  have fx7 := (rwx.cell 7).trans kx7
  have fy7 := (rwy.cell 7).trans ky7
  clear rwx rwy kx0 ky0 kx1 ky1 kx2 ky2 kx3 ky3 kx8 ky8 kx4 ky4 kx5 ky5 kx6 ky6 kx7 ky7
  go_wp2_with fail
  refine (H5.out _ hW).mono ?_
  rintro _ W5 ⟨rfl, hb5⟩
  clear fx0 fy0 fx1 fy1 fx2 fy2 fx3 fy3 fx8 fy8 fx4 fy4 fx5 fy5 fx6 fy6 fx7 fy7 H5
  go_wp2_with fail
  exact HQ.out _ _ _ _ _ _ _ _ _ _ _ _ _ _ _ _ _ _ _ _ _ _ _ _ _ _ _ _ _ _ _ _ _ _ _ _ _ _ _ _ _ _ _ _ _ _ _ _ _ _ _ _ _ _ _ _ _ _ _ _ _ _ _ _ _ _ _ _ _ _ _ _ _ _ _ _ _ _ _ _ _ hb5
end Go.Proofs.YtmopffaocamieaaGreat
