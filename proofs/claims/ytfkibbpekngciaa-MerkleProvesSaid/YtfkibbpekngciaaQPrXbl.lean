/-
  The document's own Sum: all its blocks.
-/
import Derived.Test.YtfkibbpekngciaaQPrXhd
import Derived.Test.YtfkibbpekngciaaQPrXsc
import Derived.Test.YtfkibbpekngciaaQPrXrn
import Derived.Test.YtfkibbpekngciaaQPrXpl
namespace Go.Proofs.Ytfkibbpekngciaa
open Go.RowKit

/-- Where the document's Sum stands between two blocks. -/
structure ZRel (w : World) (gh gk b len : Nat) (L : List UInt8) (s : St) (wr : World) : Prop where
  h : Row wr gh 64 (u32s s.list)
  k : Row wr gk 65 (u32s kay)
  c : ∀ i, i < len → wr.cell? ⟨b, i, none⟩ = some (.int .u8 ((L.getD i 0).toNat : Int))
  grown : w.grownBy wr (some gh)
theorem ZRel.next {w wr W1 W2 W3 W4 W5 W6 : World} {gh gk b len gw gv : Nat} {L : List UInt8} {s r : St} (h : ZRel w gh gk b len L s wr) (hgk : gk < wr.heap.size) (hb : b < wr.heap.size) (n1 : gk ≠ gh) (n2 : b ≠ gh) (hgw : gw = wr.heap.size) (hgv : gv = wr.heap.size + 1)
    (b1 : Below wr.heap.size wr W1) (o2 : Only gw W1 W2) (o3 : Only gw W2 W3) (b4 : Below W3.heap.size W3 W4) (hs3 : wr.heap.size ≤ W3.heap.size) (o5 : Only gv W4 W5) (o6 : Only gh W5 W6) (hh : Row W6 gh 64 (u32s r.list)) : ZRel w gh gk b len L r W6 := by
  have key : ∀ k, k < wr.heap.size → k ≠ gh → W6.heap[k]? = wr.heap[k]? := fun k hk hne => by
    rw [o6.block k hne, o5.block k (by omega), b4.block k (by omega), o3.block k (by omega), o2.block k (by omega), b1.block k hk]
  have hgr : wr.grownBy W6 (some gh) := by
    refine ⟨?_, ?_, ?_, ?_, fun k hk hne => key k hk (fun e => hne (by rw [e]))⟩
    · rw [o6.os, o5.os, b4.os, o3.os, o2.os, b1.os]
    · rw [o6.tape, o5.tape, b4.tape, o3.tape, o2.tape, b1.tape]
    · rw [o6.output, o5.output, b4.output, o3.output, o2.output, b1.output]
    · have := b4.size
      have e6 := o6.size
      have e5 := o5.size
      omega
  refine ⟨hh, ⟨by rw [key gk hgk n1]; exact h.k.heap⟩, fun i hi => ?_, h.grown.trans hgr⟩
  rw [World.cell?_of_block (a := ⟨b, i, none⟩) (key b hb n2)]
  exact h.c i hi

attribute [local go_sem ↓] Go.wp_at_zero Go.wp_at_succ
set_option maxHeartbeats 8000000 in
set_option maxRecDepth 20000 in
theorem x_blocks (K : Act → World → Prop) (b len cap gh gk m : Nat) (L : List UInt8) (s : St) (w : World) (c0 c1 c2 c4 c5 c9 c10 c11 c12 c13 c14 c15 c16 c17 c18 c19 c20 c21 c22 c23 c24 c25 c26 c27 c28 c29 c30 c31 c32 c33 c34 c35 c36 c37 c38 c39 c40 c41 c42 c43 c44 c45 c46 c47 c48 c49 c50 c51 c52 c53 c54 c55 c56 c57 c58 c59 c60 c61 c62 c63 c64 c65 c66 c67 c68 c69 c70 c71 c72 c73 c74 c75 c76 c77 c78 c79 c80 c81 c82 c83 c84 c85 c86 c87 c88 c89 c90 c91 c92 c93 c94 c95 c96 c97 c98 c99 c100 c101 c102 c103 c104 c105 c106 c107 c108 c109 c110 c111 c112 c113 c114 c115 c116 c117 c118 c119 c120 c121 c122 c123 c124 c125 c126 c127 c128 c129 c130 c131 c132 c133 c134 c135 c136 c137 c138 c139 c140 c141 c142 c143 c144 c145 c146 c147 c148 c149 c150 c151 c152 c153 c154 c155 c156 c157 c158 c159 c160 c161 c162 c163 c164 c165 c166 c167 c168 c169 c170 c171 c172 c173 c174 c175 c176 c177 c178 c179 c180 c181 c182 c183 c184 c185 c186 c187 c188 c189 c190 c191 c192 c193 c194 c195 c196 c197 c198 c199 c200 c201 c202 c203 c204 c205 c206 c207 c208 c209 c210 c211 c212 c213 c214 c215 c216 c217 c218 c219 c220 c221 c222 c223 c224 c225 c226 c227 c228 c229 c230 c231 c232 c233 c234 c235 c236 c237 c238 c239 c240 c241 : Value)
    (hL : L.length = len) (hm : len = 64 * m) (hmax : len ≤ 10000000) (n1 : gk ≠ gh) (n2 : b ≠ gh) (hgb : b < w.heap.size) (hz : ZRel w gh gk b len L s w)
    (hexit : ∀ (u8 u9 u10 u11 u12 u13 u14 u15 u16 u17 u18 u19 u20 u21 u56 u57 u58 u59 u60 u61 u62 u63 u64 u65 u66 u67 u68 u69 u70 u71 u72 u73 u74 u75 u76 u77 u78 u79 u80 u81 u82 u83 u84 u85 u86 u87 u88 u89 u90 u91 u92 u93 u94 u95 u96 u97 u98 u99 u100 u101 u102 u103 u104 u105 u106 u107 u108 u109 u110 u111 u112 u113 u114 u115 u116 u117 u118 u119 u120 u121 u122 u123 u124 u125 u126 u127 u128 u129 u130 u131 u132 u133 u134 u135 u136 u137 u138 u139 u140 u141 u142 u143 u144 u145 u146 u147 u148 u149 u150 u151 u152 u153 u154 u155 u156 u157 u158 u159 u160 u161 u162 u163 u164 u165 u166 u167 u168 u169 u170 u171 u172 u173 u174 u175 u176 u177 u178 u179 u180 u181 u182 u183 u184 u185 u186 u187 u188 u189 u190 u191 u192 u193 u194 u195 u196 u197 u198 u199 u200 u201 u202 u203 u204 u205 u206 u207 u208 u209 u210 u211 u212 u213 u214 u215 u216 u217 u218 u219 u220 u221 u222 u223 : Value) (w' : World), ZRel w gh gk b len L (mixes s L m) w' → K ⟨#[c0, c1, c2, .slice (some ⟨b, 0, none⟩) len cap, c4, c5, .pointer (some ⟨gh, 0, none⟩), .pointer (some ⟨gk, 0, none⟩), u8, u9, u10, u11, u12, u13, u14, u15, u16, u17, u18, u19, u20, u21, c22, c23, c24, c25, c26, c27, c28, c29, c30, c31, c32, c33, c34, c35, c36, c37, c38, c39, c40, c41, c42, c43, c44, c45, c46, c47, c48, c49, c50, c51, c52, c53, c54, c55, u56, u57, u58, u59, u60, u61, u62, u63, u64, u65, u66, u67, u68, u69, u70, u71, u72, u73, u74, u75, u76, u77, u78, u79, u80, u81, u82, u83, u84, u85, u86, u87, u88, u89, u90, u91, u92, u93, u94, u95, u96, u97, u98, u99, u100, u101, u102, u103, u104, u105, u106, u107, u108, u109, u110, u111, u112, u113, u114, u115, u116, u117, u118, u119, u120, u121, u122, u123, u124, u125, u126, u127, u128, u129, u130, u131, u132, u133, u134, u135, u136, u137, u138, u139, u140, u141, u142, u143, u144, u145, u146, u147, u148, u149, u150, u151, u152, u153, u154, u155, u156, u157, u158, u159, u160, u161, u162, u163, u164, u165, u166, u167, u168, u169, u170, u171, u172, u173, u174, u175, u176, u177, u178, u179, u180, u181, u182, u183, u184, u185, u186, u187, u188, u189, u190, u191, u192, u193, u194, u195, u196, u197, u198, u199, u200, u201, u202, u203, u204, u205, u206, u207, u208, u209, u210, u211, u212, u213, u214, u215, u216, u217, u218, u219, u220, u221, u222, u223, c224, c225, c226, c227, c228, c229, c230, c231, c232, c233, c234, c235, c236, c237, c238, c239, c240, c241], []⟩ w') :
    Code.wp Try.prog (inner ((Try.f22.body.bind (blockAt 4)).getD .skip)) (Exit.inBlock 4 (Exit.then K (fun _ _ _ => False))) ⟨#[c0, c1, c2, .slice (some ⟨b, 0, none⟩) len cap, c4, c5, .pointer (some ⟨gh, 0, none⟩), .pointer (some ⟨gk, 0, none⟩), .int .i64 0, c9, c10, c11, c12, c13, c14, c15, c16, c17, c18, c19, c20, c21, c22, c23, c24, c25, c26, c27, c28, c29, c30, c31, c32, c33, c34, c35, c36, c37, c38, c39, c40, c41, c42, c43, c44, c45, c46, c47, c48, c49, c50, c51, c52, c53, c54, c55, c56, c57, c58, c59, c60, c61, c62, c63, c64, c65, c66, c67, c68, c69, c70, c71, c72, c73, c74, c75, c76, c77, c78, c79, c80, c81, c82, c83, c84, c85, c86, c87, c88, c89, c90, c91, c92, c93, c94, c95, c96, c97, c98, c99, c100, c101, c102, c103, c104, c105, c106, c107, c108, c109, c110, c111, c112, c113, c114, c115, c116, c117, c118, c119, c120, c121, c122, c123, c124, c125, c126, c127, c128, c129, c130, c131, c132, c133, c134, c135, c136, c137, c138, c139, c140, c141, c142, c143, c144, c145, c146, c147, c148, c149, c150, c151, c152, c153, c154, c155, c156, c157, c158, c159, c160, c161, c162, c163, c164, c165, c166, c167, c168, c169, c170, c171, c172, c173, c174, c175, c176, c177, c178, c179, c180, c181, c182, c183, c184, c185, c186, c187, c188, c189, c190, c191, c192, c193, c194, c195, c196, c197, c198, c199, c200, c201, c202, c203, c204, c205, c206, c207, c208, c209, c210, c211, c212, c213, c214, c215, c216, c217, c218, c219, c220, c221, c222, c223, c224, c225, c226, c227, c228, c229, c230, c231, c232, c233, c234, c235, c236, c237, c238, c239, c240, c241], []⟩ w := by
  conv => arg 2; whnf
  have HE : Hid _ := hexit
  have HI : Hid (ZRel w gh gk b len L (mixes s L 0) w) := hz
  have HM : Hid (len = 64 * m) := hm
  clear hexit hz hm
  dsimp only
  go_loopw [8] (fun i wr => ∃ q : Nat, q ≤ m ∧ i = .int .i64 (64 * q : Nat) ∧ ZRel w gh gk b len L (mixes s L q) wr) (fun i _ => len - (intOf i).toNat)
  case atStart => exact ⟨0, by omega, rfl, HI.out⟩
  case round =>
    obtain ⟨q, hq, rfl, hZ⟩ := hrel
    clear HI
    by_cases hq3 : q < m
    · have hgbr : b < wr.heap.size := Nat.lt_of_lt_of_le hgb hZ.grown.size
      have hg1 := hZ.h.lt
      have hg2 := hZ.k.lt
      have h64 : 64 * q + 64 ≤ len := by have := HM.out; omega
      have HN : Hid (∀ y, ZRel w gh gk b len L (mixes s L (q + 1)) y → ∃ q2 : Nat, q2 ≤ m ∧ Value.int .i64 (((64 * q : Nat) : Int) + 64) = .int .i64 ((64 * q2 : Nat) : Int) ∧ ZRel w gh gk b len L (mixes s L q2) y) := fun y hy => ⟨q + 1, by omega, by congr 1, hy⟩
      have e1 : mixes s L (q + 1) = plus (mixes s L q) (rnds (mixes s L q) (ext (heads (L.drop (64 * q)) 16) 48) 64) := rfl
      rw [e1] at HN
      clear e1
      generalize mixes s L q = z at *
      generalize hat : 64 * q = at_ at *
      have AZ : Aside (ZRel w gh gk b len L z wr) := hZ
      have R1 : Hid (Row (wr.alloc (.cells (u32s (pad 64 [])).toArray 65)) wr.heap.size 65 (u32s (pad 64 []))) := Row.new wr 65 _
      have B1 : Hid (Below wr.heap.size wr (wr.alloc (.cells (u32s (pad 64 [])).toArray 65))) := (Below.refl _ _).alloc (Nat.le_refl _) _
      have C1 : Hid (∀ i, i < len → (wr.alloc (.cells (u32s (pad 64 [])).toArray 65)).cell? ⟨b, i, none⟩ = some (.int .u8 ((L.getD i 0).toNat : Int))) := fun i hi => by rw [B1.out.cell (p := ⟨b, i, none⟩) hgbr]; exact hZ.c i hi
      obtain ⟨W1, hW1⟩ : ∃ W, W = wr.alloc (.cells (u32s (pad 64 [])).toArray 65) := ⟨_, rfl⟩
      have AW : Aside (W1 = wr.alloc (.cells (u32s (pad 64 [])).toArray 65)) := hW1
      rw [← hW1] at R1 B1 C1
      clear hZ hW1
      have l1 : (at_ : Int) < (len : Int) := by omega
      have hW1s : W1.heap.size = wr.heap.size + 1 := by rw [AW.out]; simp
      go_wp2_with fail
      refine wp_world AW.out ?_
      clear AW
      refine Code.wp_mono (in_mono (fun _ _ h => h)) (x_heads _ b len cap at_ wr.heap.size L W1 _ _ _ _ _ _ _ _ _ _ _ _ _ _ _ _ _ _ _ _ _ _ _ _ _ _ _ _ _ _ _ _ _ _ _ _ _ _ _ _ _ _ _ _ _ _ _ _ _ _ _ _ _ _ _ _ _ _ _ _ _ _ _ _ _ _ _ _ _ _ _ _ _ _ _ _ _ _ _ _ _ _ _ _ _ _ _ _ _ _ _ _ _ _ _ _ _ _ _ _ _ _ _ _ _ _ _ _ _ _ _ _ _ _ _ _ _ _ _ _ _ _ _ _ _ _ _ _ _ _ _ _ _ _ _ _ _ _ _ _ _ _ _ _ _ _ _ _ _ _ _ _ _ _ _ _ _ _ _ _ _ _ _ _ _ _ _ _ _ _ _ _ _ _ _ _ _ _ _ _ _ _ _ _ _ _ _ _ _ _ _ _ _ _ _ _ _ _ _ _ _ _ _ _ _ _ _ _ _ _ _ _ _ _ _ _ _ _ _ _ _ _ _ _ _ _ _ _ _ _ _ _ _ _ _ _ _ _ hL h64 hmax (by omega) C1.out R1.out ?_)
      intro v10 v11 v62 v63 v64 v65 v66 v67 v68 v69 v70 v71 v72 v73 v74 v75 v76 v77 v78 v79 v80 v81 v82 v83 v84 v85 v86 W2 hO2 hR2
      have HO2 : Hid _ := hO2
      have HR2 : Hid _ := hR2
      clear hO2 hR2 R1 C1
      go_wp2_with fail
      refine Code.wp_mono (in_mono (fun _ _ h => h)) (x_sched _ wr.heap.size (heads (L.drop at_) 16) W2 _ _ _ _ _ _ _ _ _ _ _ _ _ _ _ _ _ _ _ _ _ _ _ _ _ _ _ _ _ _ _ _ _ _ _ _ _ _ _ _ _ _ _ _ _ _ _ _ _ _ _ _ _ _ _ _ _ _ _ _ _ _ _ _ _ _ _ _ _ _ _ _ _ _ _ _ _ _ _ _ _ _ _ _ _ _ _ _ _ _ _ _ _ _ _ _ _ _ _ _ _ _ _ _ _ _ _ _ _ _ _ _ _ _ _ _ _ _ _ _ _ _ _ _ _ _ _ _ _ _ _ _ _ _ _ _ _ _ _ _ _ _ _ _ _ _ _ _ _ _ _ _ _ _ _ _ _ _ _ _ _ _ _ _ _ _ _ _ _ _ _ _ _ _ _ _ _ _ _ _ _ _ _ _ _ _ _ _ _ _ _ _ _ _ _ _ _ _ _ _ _ _ _ _ _ _ _ _ _ _ _ _ _ _ _ _ _ _ _ _ _ _ _ _ _ _ _ _ _ _ _ _ _ _ _ _ _ _ _ _ (heads_len _ _) HR2.out ?_)
      intro v12 v13 v14 v87 v88 v89 v90 v91 v92 v93 v94 v95 v96 v97 v98 v99 v100 v101 v102 v103 v104 v105 v106 v107 v108 v109 v110 v111 v112 v113 v114 v115 v116 v117 v118 v119 v120 v121 v122 v123 v124 v125 v126 v127 W3 hO3 hR3
      have HO3 : Hid _ := hO3
      have HR3 : Hid _ := hR3
      have hs3 : wr.heap.size + 1 ≤ W3.heap.size := hR3.lt
      have H3 : Row W3 gh 64 (u32s z.list) := hO3.row (HO2.out.row (AZ.out.h.below B1.out hg1) (by omega)) (by omega)
      have K3 : Hid (Row W3 gk 65 (u32s kay)) := hO3.row (HO2.out.row (AZ.out.k.below B1.out hg2) (by omega)) (by omega)
      clear hO3 hR3 HR2
      have hlen3 : W3.heap.size = wr.heap.size + 1 := by rw [HO3.out.size, HO2.out.size, hW1s]
      obtain ⟨za, zb, zc, zd, ze, zf, zg, zh⟩ := z
      have p0 : W3.cell? ⟨gh, 0, none⟩ = some (.int .u32 za) := H3.cell 0
      have p1 : W3.cell? ⟨gh, 1, none⟩ = some (.int .u32 zb) := H3.cell 1
      have p2 : W3.cell? ⟨gh, 2, none⟩ = some (.int .u32 zc) := H3.cell 2
      have p3 : W3.cell? ⟨gh, 3, none⟩ = some (.int .u32 zd) := H3.cell 3
      have p4 : W3.cell? ⟨gh, 4, none⟩ = some (.int .u32 ze) := H3.cell 4
      have p5 : W3.cell? ⟨gh, 5, none⟩ = some (.int .u32 zf) := H3.cell 5
      have p6 : W3.cell? ⟨gh, 6, none⟩ = some (.int .u32 zg) := H3.cell 6
      have p7 : W3.cell? ⟨gh, 7, none⟩ = some (.int .u32 zh) := H3.cell 7
      obtain ⟨W4, hW4⟩ : ∃ W, W = W3.alloc (.cells (u32s (St.mk za zb zc zd ze zf zg zh).list).toArray 64) := ⟨_, rfl⟩
      have AW4 : Aside (W4 = W3.alloc (.cells (u32s (St.mk za zb zc zd ze zf zg zh).list).toArray 64)) := hW4
      have B4 : Hid (Below W3.heap.size W3 W4) := by rw [hW4]; exact (Below.refl _ _).alloc (Nat.le_refl _) _
      have V4 : Hid (Row W4 (wr.heap.size + 1) 64 (u32s (St.mk za zb zc zd ze zf zg zh).list)) := by
        have := Row.new W3 64 (u32s (St.mk za zb zc zd ze zf zg zh).list)
        rw [hlen3] at this
        rw [hW4]; exact this
      have HH4 : Hid (Row W4 gh 64 (u32s (St.mk za zb zc zd ze zf zg zh).list)) := H3.below B4.out H3.lt
      have HK4 : Hid (Row W4 gk 65 (u32s kay)) := K3.out.below B4.out K3.out.lt
      have HX4 : Hid (Row W4 wr.heap.size 65 (u32s (ext (heads (L.drop at_) 16) 48))) := HR3.out.below B4.out HR3.out.lt
      clear hW4 H3 K3 HR3
      go_wp2_with fail
      refine wp_world AW4.out ?_
      clear AW4 p0 p1 p2 p3 p4 p5 p6 p7
      refine Code.wp_mono (in_mono (fun _ _ h => h)) (x_rounds _ gk wr.heap.size (wr.heap.size + 1) ⟨za, zb, zc, zd, ze, zf, zg, zh⟩ (ext (heads (L.drop at_) 16) 48) W4 _ _ _ _ _ _ _ _ _ _ _ _ _ _ _ _ _ _ _ _ _ _ _ _ _ _ _ _ _ _ _ _ _ _ _ _ _ _ _ _ _ _ _ _ _ _ _ _ _ _ _ _ _ _ _ _ _ _ _ _ _ _ _ _ _ _ _ _ _ _ _ _ _ _ _ _ _ _ _ _ _ _ _ _ _ _ _ _ _ _ _ _ _ _ _ _ _ _ _ _ _ _ _ _ _ _ _ _ _ _ _ _ _ _ _ _ _ _ _ _ _ _ _ _ _ _ _ _ _ _ _ _ _ _ _ _ _ _ _ _ _ _ _ _ _ _ _ _ _ _ _ _ _ _ _ _ _ _ _ _ _ _ _ _ _ _ _ _ _ _ _ _ _ _ _ _ _ _ _ _ _ _ _ _ _ _ _ _ _ _ _ _ _ _ _ _ _ _ _ _ _ _ _ _ _ _ _ _ _ _ _ _ _ _ _ _ _ _ _ _ _ _ _ _ _ _ _ _ _ _ _ _ _ _ _ _ _ _ (by rw [ext_len, heads_len]) (by omega) (by omega) HK4.out HX4.out V4.out ?_)
      intro v16 v17 v18 v19 v20 v129 v130 v131 v132 v133 v134 v135 v136 v137 v138 v139 v140 v141 v142 v143 v144 v145 v146 v147 v148 v149 v150 v151 v152 v153 v154 v155 v156 v157 v158 v159 v160 v161 v162 v163 v164 v165 v166 v167 v168 v169 v170 v171 v172 v173 v174 v175 v176 v177 v178 v179 v180 v181 v182 v183 v184 v185 v186 v187 v188 v189 v190 v191 v192 v193 v194 v195 v196 v197 v198 v199 v200 v201 v202 v203 v204 v205 v206 v207 v208 v209 v210 W5 hO5 hR5
      have HO5 : Hid _ := hO5
      have HR5 : Hid _ := hR5
      have HH5 : Hid (Row W5 gh 64 (u32s (St.mk za zb zc zd ze zf zg zh).list)) := hO5.row HH4.out (by omega)
      clear hO5 hR5 HX4 HK4 V4 HH4
      go_wp2_with fail
      refine Code.wp_mono (in_mono (fun _ _ h => h)) (x_plus _ gh (wr.heap.size + 1) ⟨za, zb, zc, zd, ze, zf, zg, zh⟩ _ W5 _ _ _ _ _ _ _ _ _ _ _ _ _ _ _ _ _ _ _ _ _ _ _ _ _ _ _ _ _ _ _ _ _ _ _ _ _ _ _ _ _ _ _ _ _ _ _ _ _ _ _ _ _ _ _ _ _ _ _ _ _ _ _ _ _ _ _ _ _ _ _ _ _ _ _ _ _ _ _ _ _ _ _ _ _ _ _ _ _ _ _ _ _ _ _ _ _ _ _ _ _ _ _ _ _ _ _ _ _ _ _ _ _ _ _ _ _ _ _ _ _ _ _ _ _ _ _ _ _ _ _ _ _ _ _ _ _ _ _ _ _ _ _ _ _ _ _ _ _ _ _ _ _ _ _ _ _ _ _ _ _ _ _ _ _ _ _ _ _ _ _ _ _ _ _ _ _ _ _ _ _ _ _ _ _ _ _ _ _ _ _ _ _ _ _ _ _ _ _ _ _ _ _ _ _ _ _ _ _ _ _ _ _ _ _ _ _ _ _ _ _ _ _ _ _ _ _ _ _ _ _ _ _ _ _ _ _ _ _ (by omega) HH5.out HR5.out ?_)
      intro v21 v211 v212 v213 v214 v215 v216 v217 v218 v219 v220 v221 v222 v223 W6 hO6 hR6
      have HZ : Hid _ := HN.out W6 (AZ.out.next hg2 hgbr n1 n2 rfl rfl B1.out HO2.out HO3.out B4.out (by omega) HO5.out hO6 hR6)
      clear hO6 hR6 HN AZ B1 HO2 HO3 B4 HO5 HR5 HH5
      go_wp2_with fail
      go_roundw
      case rel => exact HZ.out
      case measure => simp [intOf]; omega
    · have hR4 : ZRel w gh gk b len L (mixes s L m) wr := by
        obtain rfl : q = m := by omega
        exact hZ
      have AR : Aside (ZRel w gh gk b len L (mixes s L m) wr) := hR4
      have l1 : ((64 * q : Nat) : Int) = (len : Int) := by have := HM.out; omega
      rw [l1]
      clear hZ hR4 l1
      go_wp2_with fail
      exact HE.out _ _ _ _ _ _ _ _ _ _ _ _ _ _ _ _ _ _ _ _ _ _ _ _ _ _ _ _ _ _ _ _ _ _ _ _ _ _ _ _ _ _ _ _ _ _ _ _ _ _ _ _ _ _ _ _ _ _ _ _ _ _ _ _ _ _ _ _ _ _ _ _ _ _ _ _ _ _ _ _ _ _ _ _ _ _ _ _ _ _ _ _ _ _ _ _ _ _ _ _ _ _ _ _ _ _ _ _ _ _ _ _ _ _ _ _ _ _ _ _ _ _ _ _ _ _ _ _ _ _ _ _ _ _ _ _ _ _ _ _ _ _ _ _ _ _ _ _ _ _ _ _ _ _ _ _ _ _ _ _ _ _ _ _ _ _ _ _ _ _ _ _ _ _ _ _ _ _ _ _ _ _ _ AR.out
end Go.Proofs.Ytfkibbpekngciaa
