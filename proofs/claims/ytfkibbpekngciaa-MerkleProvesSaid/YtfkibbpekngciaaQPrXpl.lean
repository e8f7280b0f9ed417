/-
  The document's own Sum: the letters grow.
-/
import Derived.Test.YtfkibbpekngciaaQPrXcm
namespace Go.Proofs.Ytfkibbpekngciaa
open Go.RowKit

attribute [local go_sem ↓] Go.wp_at_zero Go.wp_at_succ
set_option maxHeartbeats 8000000 in
set_option maxRecDepth 20000 in
theorem x_plus (K : Act → World → Prop) (gh gv : Nat) (s r : St) (w : World) (c0 c1 c2 c3 c4 c5 c7 c8 c9 c10 c11 c12 c13 c14 c16 c17 c18 c19 c20 c22 c23 c24 c25 c26 c27 c28 c29 c30 c31 c32 c33 c34 c35 c36 c37 c38 c39 c40 c41 c42 c43 c44 c45 c46 c47 c48 c49 c50 c51 c52 c53 c54 c55 c56 c57 c58 c59 c60 c61 c62 c63 c64 c65 c66 c67 c68 c69 c70 c71 c72 c73 c74 c75 c76 c77 c78 c79 c80 c81 c82 c83 c84 c85 c86 c87 c88 c89 c90 c91 c92 c93 c94 c95 c96 c97 c98 c99 c100 c101 c102 c103 c104 c105 c106 c107 c108 c109 c110 c111 c112 c113 c114 c115 c116 c117 c118 c119 c120 c121 c122 c123 c124 c125 c126 c127 c128 c129 c130 c131 c132 c133 c134 c135 c136 c137 c138 c139 c140 c141 c142 c143 c144 c145 c146 c147 c148 c149 c150 c151 c152 c153 c154 c155 c156 c157 c158 c159 c160 c161 c162 c163 c164 c165 c166 c167 c168 c169 c170 c171 c172 c173 c174 c175 c176 c177 c178 c179 c180 c181 c182 c183 c184 c185 c186 c187 c188 c189 c190 c191 c192 c193 c194 c195 c196 c197 c198 c199 c200 c201 c202 c203 c204 c205 c206 c207 c208 c209 c210 c211 c212 c213 c214 c215 c216 c217 c218 c219 c220 c221 c222 c223 c224 c225 c226 c227 c228 c229 c230 c231 c232 c233 c234 c235 c236 c237 c238 c239 c240 c241 : Value)
    (hne : gh ≠ gv) (hh : Row w gh 64 (u32s s.list)) (hv : Row w gv 64 (u32s r.list))
    (hexit : ∀ (u21 u211 u212 u213 u214 u215 u216 u217 u218 u219 u220 u221 u222 u223 : Value) (w' : World), Only gh w w' → Row w' gh 64 (u32s (plus s r).list) → K ⟨#[c0, c1, c2, c3, c4, c5, .pointer (some ⟨gh, 0, none⟩), c7, c8, c9, c10, c11, c12, c13, c14, .pointer (some ⟨gv, 0, none⟩), c16, c17, c18, c19, c20, u21, c22, c23, c24, c25, c26, c27, c28, c29, c30, c31, c32, c33, c34, c35, c36, c37, c38, c39, c40, c41, c42, c43, c44, c45, c46, c47, c48, c49, c50, c51, c52, c53, c54, c55, c56, c57, c58, c59, c60, c61, c62, c63, c64, c65, c66, c67, c68, c69, c70, c71, c72, c73, c74, c75, c76, c77, c78, c79, c80, c81, c82, c83, c84, c85, c86, c87, c88, c89, c90, c91, c92, c93, c94, c95, c96, c97, c98, c99, c100, c101, c102, c103, c104, c105, c106, c107, c108, c109, c110, c111, c112, c113, c114, c115, c116, c117, c118, c119, c120, c121, c122, c123, c124, c125, c126, c127, c128, c129, c130, c131, c132, c133, c134, c135, c136, c137, c138, c139, c140, c141, c142, c143, c144, c145, c146, c147, c148, c149, c150, c151, c152, c153, c154, c155, c156, c157, c158, c159, c160, c161, c162, c163, c164, c165, c166, c167, c168, c169, c170, c171, c172, c173, c174, c175, c176, c177, c178, c179, c180, c181, c182, c183, c184, c185, c186, c187, c188, c189, c190, c191, c192, c193, c194, c195, c196, c197, c198, c199, c200, c201, c202, c203, c204, c205, c206, c207, c208, c209, c210, u211, u212, u213, u214, u215, u216, u217, u218, u219, u220, u221, u222, u223, c224, c225, c226, c227, c228, c229, c230, c231, c232, c233, c234, c235, c236, c237, c238, c239, c240, c241], []⟩ w') :
    Code.wp Try.prog (inner ((Try.f22.body.bind (blockAt 14)).getD .skip)) (Exit.inBlock 14 (Exit.then K (fun _ _ _ => False))) ⟨#[c0, c1, c2, c3, c4, c5, .pointer (some ⟨gh, 0, none⟩), c7, c8, c9, c10, c11, c12, c13, c14, .pointer (some ⟨gv, 0, none⟩), c16, c17, c18, c19, c20, .int .i64 0, c22, c23, c24, c25, c26, c27, c28, c29, c30, c31, c32, c33, c34, c35, c36, c37, c38, c39, c40, c41, c42, c43, c44, c45, c46, c47, c48, c49, c50, c51, c52, c53, c54, c55, c56, c57, c58, c59, c60, c61, c62, c63, c64, c65, c66, c67, c68, c69, c70, c71, c72, c73, c74, c75, c76, c77, c78, c79, c80, c81, c82, c83, c84, c85, c86, c87, c88, c89, c90, c91, c92, c93, c94, c95, c96, c97, c98, c99, c100, c101, c102, c103, c104, c105, c106, c107, c108, c109, c110, c111, c112, c113, c114, c115, c116, c117, c118, c119, c120, c121, c122, c123, c124, c125, c126, c127, c128, c129, c130, c131, c132, c133, c134, c135, c136, c137, c138, c139, c140, c141, c142, c143, c144, c145, c146, c147, c148, c149, c150, c151, c152, c153, c154, c155, c156, c157, c158, c159, c160, c161, c162, c163, c164, c165, c166, c167, c168, c169, c170, c171, c172, c173, c174, c175, c176, c177, c178, c179, c180, c181, c182, c183, c184, c185, c186, c187, c188, c189, c190, c191, c192, c193, c194, c195, c196, c197, c198, c199, c200, c201, c202, c203, c204, c205, c206, c207, c208, c209, c210, c211, c212, c213, c214, c215, c216, c217, c218, c219, c220, c221, c222, c223, c224, c225, c226, c227, c228, c229, c230, c231, c232, c233, c234, c235, c236, c237, c238, c239, c240, c241], []⟩ w := by
  conv => arg 2; whnf
  have HE : Hid _ := hexit
  have HI : Hid (Row w gh 64 (u32s (mid s r 0))) := hh
  have HV : Hid (Row w gv 64 (u32s r.list)) := hv
  clear hexit hh hv
  dsimp only
  go_loopw [21] (fun i wr => ∃ k : Nat, k ≤ 8 ∧ i = .int .i64 k ∧ Only gh w wr ∧ Row wr gh 64 (u32s (mid s r k))) (fun i _ => 8 - (intOf i).toNat)
  case atStart => exact ⟨0, by omega, rfl, Only.refl _ _, HI.out⟩
  case round =>
    obtain ⟨k, hk, rfl, hO, hr⟩ := hrel
    clear HI
    by_cases hk3 : k < 8
    · have q0 : wr.cell? ⟨gh, k, none⟩ = some (.int .u32 (s.list.getD k 0)) := by rw [hr.cell k, u32s_get _ _ (by rw [mid_len _ _ _ hk]; exact hk3), mid_get _ _ _ hk3]
      have q1 := hr.fz k
      have q2 : wr.cell? ⟨gv, k, none⟩ = some (.int .u32 (r.list.getD k 0)) := by
        rw [(hO.row HV.out (fun e => hne e.symm)).cell k]
        exact u32s_get _ _ hk3
      have HN : Hid (Only gh w (wr.setCell ⟨gh, k, none⟩ (.int .u32 (IntKind.u32.wrap (s.list.getD k 0 + r.list.getD k 0)))) ∧ Row (wr.setCell ⟨gh, k, none⟩ (.int .u32 (IntKind.u32.wrap (s.list.getD k 0 + r.list.getD k 0)))) gh 64 (u32s (mid s r (k + 1)))) := by
        refine ⟨hO.set _, ?_⟩
        have := hr.set k (.int .u32 (IntKind.u32.wrap (s.list.getD k 0 + r.list.getD k 0)))
        rw [← u32s_set, mid_set s r k hk3] at this
        exact this
      have HE2 : Hid (∀ y, (Only gh w y ∧ Row y gh 64 (u32s (mid s r (k + 1)))) → ∃ m : Nat, m ≤ 8 ∧ Value.int .i64 ((k : Int) + 1) = .int .i64 m ∧ Only gh w y ∧ Row y gh 64 (u32s (mid s r m))) := fun y hy => ⟨k + 1, by omega, by go_num, hy⟩
      have l1 : (k : Int) < 8 := by omega
      clear hO hr HV HE
      generalize s.list.getD k 0 = xx at *
      generalize r.list.getD k 0 = yy at *
      have hw : IntKind.u32.wrap (xx + yy) = (xx + yy) % 4294967296 := IntKind.wrap_u32 _
      have HN2 : Hid (Only gh w (wr.setCell ⟨gh, k, none⟩ (.int .u32 ((xx + yy) % 4294967296))) ∧ Row (wr.setCell ⟨gh, k, none⟩ (.int .u32 ((xx + yy) % 4294967296))) gh 64 (u32s (mid s r (k + 1)))) := by rw [hw] at HN; exact HN.out
      clear hw
      go_wp2_with fail
      go_region_with (fail)
      all_goals
        go_wp2_with fail
        go_roundw
        case rel => first | exact HE2.out _ ⟨HN.out.1.drew, HN.out.2.drew⟩ | exact HE2.out _ ⟨HN2.out.1.drew, HN2.out.2.drew⟩
        case measure => simp [intOf]; omega
    · have hR4 : Row wr gh 64 (u32s (plus s r).list) := by
        obtain rfl : k = 8 := by omega
        exact hr
      have AO : Aside (Only gh w wr) := hO
      have AR : Aside (Row wr gh 64 (u32s (plus s r).list)) := hR4
      clear hO hr hR4 HV
      go_wp2_with fail
      exact HE.out _ _ _ _ _ _ _ _ _ _ _ _ _ _ _ AO.out AR.out
end Go.Proofs.Ytfkibbpekngciaa
