/-
  The document's own Sum: four bytes into one word.
-/
import Derived.Test.YtfkibbpekngciaaQPrXcm
namespace Go.Proofs.Ytfkibbpekngciaa
open Go.RowKit

attribute [local go_sem ↓] Go.wp_at_zero Go.wp_at_succ
set_option maxHeartbeats 8000000 in
set_option maxRecDepth 20000 in
theorem x_j (K : Act → World → Prop) (b len cap at_ t gw : Nat) (L : List UInt8) (R : List Int) (w : World) (c0 c1 c2 c4 c5 c6 c7 c12 c13 c14 c15 c16 c17 c18 c19 c20 c21 c22 c23 c24 c25 c26 c27 c28 c29 c30 c31 c32 c33 c34 c35 c36 c37 c38 c39 c40 c41 c42 c43 c44 c45 c46 c47 c48 c49 c50 c51 c52 c53 c54 c55 c56 c57 c58 c59 c60 c61 c62 c63 c64 c65 c66 c67 c68 c69 c70 c71 c72 c73 c74 c75 c76 c77 c78 c79 c80 c81 c82 c83 c84 c85 c86 c87 c88 c89 c90 c91 c92 c93 c94 c95 c96 c97 c98 c99 c100 c101 c102 c103 c104 c105 c106 c107 c108 c109 c110 c111 c112 c113 c114 c115 c116 c117 c118 c119 c120 c121 c122 c123 c124 c125 c126 c127 c128 c129 c130 c131 c132 c133 c134 c135 c136 c137 c138 c139 c140 c141 c142 c143 c144 c145 c146 c147 c148 c149 c150 c151 c152 c153 c154 c155 c156 c157 c158 c159 c160 c161 c162 c163 c164 c165 c166 c167 c168 c169 c170 c171 c172 c173 c174 c175 c176 c177 c178 c179 c180 c181 c182 c183 c184 c185 c186 c187 c188 c189 c190 c191 c192 c193 c194 c195 c196 c197 c198 c199 c200 c201 c202 c203 c204 c205 c206 c207 c208 c209 c210 c211 c212 c213 c214 c215 c216 c217 c218 c219 c220 c221 c222 c223 c224 c225 c226 c227 c228 c229 c230 c231 c232 c233 c234 c235 c236 c237 c238 c239 c240 c241 : Value)
    (hL : L.length = len) (ht : t < 16) (hlen : at_ + 64 ≤ len) (hmax : len ≤ 10000000) (hR : R.length = 64) (h0 : R.set t 0 = R) (hne : b ≠ gw)
    (hc : ∀ i, i < len → w.cell? ⟨b, i, none⟩ = some (.int .u8 ((L.getD i 0).toNat : Int))) (hrow : Row w gw 65 (u32s R))
    (hexit : ∀ (u11 u66 u67 u68 u69 u70 u71 u72 u73 u74 u75 u76 u77 u78 u79 u80 u81 u82 u83 u84 u85 u86 : Value) (w' : World), Only gw w w' → Row w' gw 65 (u32s (R.set t (pk L (at_ + 4 * t) 4))) → K ⟨#[c0, c1, c2, .slice (some ⟨b, 0, none⟩) len cap, c4, c5, c6, c7, .int .i64 (at_ : Int), .pointer (some ⟨gw, 0, none⟩), .int .i64 (t : Int), u11, c12, c13, c14, c15, c16, c17, c18, c19, c20, c21, c22, c23, c24, c25, c26, c27, c28, c29, c30, c31, c32, c33, c34, c35, c36, c37, c38, c39, c40, c41, c42, c43, c44, c45, c46, c47, c48, c49, c50, c51, c52, c53, c54, c55, c56, c57, c58, c59, c60, c61, c62, c63, c64, c65, u66, u67, u68, u69, u70, u71, u72, u73, u74, u75, u76, u77, u78, u79, u80, u81, u82, u83, u84, u85, u86, c87, c88, c89, c90, c91, c92, c93, c94, c95, c96, c97, c98, c99, c100, c101, c102, c103, c104, c105, c106, c107, c108, c109, c110, c111, c112, c113, c114, c115, c116, c117, c118, c119, c120, c121, c122, c123, c124, c125, c126, c127, c128, c129, c130, c131, c132, c133, c134, c135, c136, c137, c138, c139, c140, c141, c142, c143, c144, c145, c146, c147, c148, c149, c150, c151, c152, c153, c154, c155, c156, c157, c158, c159, c160, c161, c162, c163, c164, c165, c166, c167, c168, c169, c170, c171, c172, c173, c174, c175, c176, c177, c178, c179, c180, c181, c182, c183, c184, c185, c186, c187, c188, c189, c190, c191, c192, c193, c194, c195, c196, c197, c198, c199, c200, c201, c202, c203, c204, c205, c206, c207, c208, c209, c210, c211, c212, c213, c214, c215, c216, c217, c218, c219, c220, c221, c222, c223, c224, c225, c226, c227, c228, c229, c230, c231, c232, c233, c234, c235, c236, c237, c238, c239, c240, c241], []⟩ w') :
    Code.wp Try.prog (inner ((Try.f22.body.bind (blockAt 8)).getD .skip)) (Exit.inBlock 8 (Exit.then K (fun _ _ _ => False))) ⟨#[c0, c1, c2, .slice (some ⟨b, 0, none⟩) len cap, c4, c5, c6, c7, .int .i64 (at_ : Int), .pointer (some ⟨gw, 0, none⟩), .int .i64 (t : Int), .int .i64 0, c12, c13, c14, c15, c16, c17, c18, c19, c20, c21, c22, c23, c24, c25, c26, c27, c28, c29, c30, c31, c32, c33, c34, c35, c36, c37, c38, c39, c40, c41, c42, c43, c44, c45, c46, c47, c48, c49, c50, c51, c52, c53, c54, c55, c56, c57, c58, c59, c60, c61, c62, c63, c64, c65, c66, c67, c68, c69, c70, c71, c72, c73, c74, c75, c76, c77, c78, c79, c80, c81, c82, c83, c84, c85, c86, c87, c88, c89, c90, c91, c92, c93, c94, c95, c96, c97, c98, c99, c100, c101, c102, c103, c104, c105, c106, c107, c108, c109, c110, c111, c112, c113, c114, c115, c116, c117, c118, c119, c120, c121, c122, c123, c124, c125, c126, c127, c128, c129, c130, c131, c132, c133, c134, c135, c136, c137, c138, c139, c140, c141, c142, c143, c144, c145, c146, c147, c148, c149, c150, c151, c152, c153, c154, c155, c156, c157, c158, c159, c160, c161, c162, c163, c164, c165, c166, c167, c168, c169, c170, c171, c172, c173, c174, c175, c176, c177, c178, c179, c180, c181, c182, c183, c184, c185, c186, c187, c188, c189, c190, c191, c192, c193, c194, c195, c196, c197, c198, c199, c200, c201, c202, c203, c204, c205, c206, c207, c208, c209, c210, c211, c212, c213, c214, c215, c216, c217, c218, c219, c220, c221, c222, c223, c224, c225, c226, c227, c228, c229, c230, c231, c232, c233, c234, c235, c236, c237, c238, c239, c240, c241], []⟩ w := by
  conv => arg 2; whnf
  have HC : Hid (∀ i, i < len → w.cell? ⟨b, i, none⟩ = some (.int .u8 ((L.getD i 0).toNat : Int))) := hc
  have HE : Hid _ := hexit
  have HI : Hid (Row w gw 65 (u32s (R.set t (pk L (at_ + 4 * t) 0)))) := by show Row _ _ _ _; rw [pk, h0]; exact hrow
  clear hc hexit hrow
  dsimp only
  go_loopw [11] (fun i wr => ∃ j : Nat, j ≤ 4 ∧ i = .int .i64 j ∧ Only gw w wr ∧ Row wr gw 65 (u32s (R.set t (pk L (at_ + 4 * t) j)))) (fun i _ => 4 - (intOf i).toNat)
  case atStart => exact ⟨0, by omega, rfl, Only.refl _ _, HI.out⟩
  case round =>
    obtain ⟨j, hj, rfl, hO, hr⟩ := hrel
    clear HI
    by_cases hj3 : j < 4
    · have q0 : wr.cell? ⟨gw, t, none⟩ = some (.int .u32 (pk L (at_ + 4 * t) j)) := by
        rw [hr.cell t, u32s_get _ _ (by simp; omega)]
        simp [List.getD, show t < R.length by omega]
      have q1 := hr.fz t
      have q2 : wr.cell? ⟨b, at_ + 4 * t + j, none⟩ = some (.int .u8 ((L.getD (at_ + 4 * t + j) 0).toNat : Int)) := (hO.cell hne).trans (HC.out _ (by omega))
      have HN : Hid (Only gw w (wr.setCell ⟨gw, t, none⟩ (.int .u32 (pk L (at_ + 4 * t) (j + 1)))) ∧ Row (wr.setCell ⟨gw, t, none⟩ (.int .u32 (pk L (at_ + 4 * t) (j + 1)))) gw 65 (u32s (R.set t (pk L (at_ + 4 * t) (j + 1))))) := by
        refine ⟨hO.set _, ?_⟩
        have := hr.set t (.int .u32 (pk L (at_ + 4 * t) (j + 1)))
        rw [← u32s_set, List.set_set] at this
        exact this
      have e1 : pk L (at_ + 4 * t) (j + 1) = bits .or .u32 (pk L (at_ + 4 * t) j * 256 % 4294967296) ((L.getD (at_ + 4 * t + j) 0).toNat : Int) := rfl
      rw [e1] at HN
      have hx := (L.getD (at_ + 4 * t + j) 0).toNat_lt
      have HE2 : Hid (∀ y, (Only gw w y ∧ Row y gw 65 (u32s (R.set t (bits .or .u32 (pk L (at_ + 4 * t) j * 256 % 4294967296) ((L.getD (at_ + 4 * t + j) 0).toNat : Int))))) → ∃ m : Nat, m ≤ 4 ∧ Value.int .i64 ((j : Int) + 1) = .int .i64 m ∧ Only gw w y ∧ Row y gw 65 (u32s (R.set t (pk L (at_ + 4 * t) m)))) := fun y hy => ⟨j + 1, by omega, by go_num, hy⟩
      clear e1 hO hr HC HE
      generalize pk L (at_ + 4 * t) j = pj at *
      generalize (L.getD (at_ + 4 * t + j) 0).toNat = x at *
      obtain ⟨idx, hidx⟩ : ∃ idx : Nat, idx = at_ + 4 * t + j := ⟨_, rfl⟩
      have i1 : IntKind.i64.wrap ((at_ : Int) + 4 * (t : Int)) = (at_ : Int) + 4 * (t : Int) := by rw [IntKind.wrap_i64]; omega
      have i2 : IntKind.i64.wrap ((at_ : Int) + 4 * (t : Int) + (j : Int)) = (idx : Int) := by rw [IntKind.wrap_i64]; omega
      have i3 : (idx : Int) < (len : Int) := by omega
      have i4 : (t : Int) < 64 := by omega
      have i5 : IntKind.i64.wrap (4 * (t : Int)) = 4 * (t : Int) := by rw [IntKind.wrap_i64]; omega
      have m0 : IntKind.u32.wrap (x : Int) = x := by rw [IntKind.wrap_u32]; omega
      have hne' : gw ≠ b := fun e => hne e.symm
      rw [← hidx] at q2
      clear hidx hL
      go_wp2_with fail
      go_region_with (fail)
      all_goals
        go_wp2_with fail
        go_roundw
        case rel => exact HE2.out _ ⟨HN.out.1.drew, HN.out.2.drew⟩
        case measure => simp [intOf]; omega
    · have hR4 : Row wr gw 65 (u32s (R.set t (pk L (at_ + 4 * t) 4))) := by
        obtain rfl : j = 4 := by omega
        exact hr
      have AO : Aside (Only gw w wr) := hO
      have AR : Aside (Row wr gw 65 (u32s (R.set t (pk L (at_ + 4 * t) 4)))) := hR4
      clear hO hr hR4 HC
      go_wp2_with fail
      exact HE.out _ _ _ _ _ _ _ _ _ _ _ _ _ _ _ _ _ _ _ _ _ _ _ AO.out AR.out
end Go.Proofs.Ytfkibbpekngciaa
