/-
  The texts Xpd, Xou, joined.
-/
import Derived.Test.YtfkibbpekngciaaQPrXcm
/- The document's own Sum: the noughts. -/
namespace Go.Proofs.Ytfkibbpekngciaa
open Go.RowKit

attribute [local go_sem ↓] Go.wp_at_zero Go.wp_at_succ
set_option maxHeartbeats 8000000 in
set_option maxRecDepth 20000 in
theorem x_pad (K : Act → World → Prop) (B : Nat) (l : List UInt8) (w : World) (c0 c1 c2 c3 c4 c5 c6 c7 c8 c9 c10 c11 c12 c13 c14 c15 c16 c17 c18 c19 c20 c21 c22 c23 c24 c25 c26 c27 c28 c29 c30 c31 c32 c33 c34 c35 c36 c37 c38 c39 c40 c41 c42 c43 c44 c45 c46 c47 c48 c49 c50 c51 c52 c53 c54 c55 c56 c57 c58 c59 c60 c61 c62 c63 c64 c65 c66 c67 c68 c69 c70 c71 c72 c73 c74 c75 c76 c77 c78 c79 c80 c81 c82 c83 c84 c85 c86 c87 c88 c89 c90 c91 c92 c93 c94 c95 c96 c97 c98 c99 c100 c101 c102 c103 c104 c105 c106 c107 c108 c109 c110 c111 c112 c113 c114 c115 c116 c117 c118 c119 c120 c121 c122 c123 c124 c125 c126 c127 c128 c129 c130 c131 c132 c133 c134 c135 c136 c137 c138 c139 c140 c141 c142 c143 c144 c145 c146 c147 c148 c149 c150 c151 c152 c153 c154 c155 c156 c157 c158 c159 c160 c161 c162 c163 c164 c165 c166 c167 c168 c169 c170 c171 c172 c173 c174 c175 c176 c177 c178 c179 c180 c181 c182 c183 c184 c185 c186 c187 c188 c189 c190 c191 c192 c193 c194 c195 c196 c197 c198 c199 c200 c201 c202 c203 c204 c205 c206 c207 c208 c209 c210 c211 c212 c213 c214 c215 c216 c217 c218 c219 c220 c221 c222 c223 c224 c225 c226 c227 c228 c229 c230 c231 c232 c233 c234 c235 c236 c237 c238 c239 c240 c241 : Value)
    (hl : l.length ≤ 1000000000) (hown0 : w.ownsRow B 5 1 c3 (fill l 0).length (bys (fill l 0))) (hB0 : B ≤ w.heap.size)
    (hexit : ∀ (u3 u30 u31 u32 u33 u34 u35 u36 : Value) (w' : World), w'.ownsRow B 5 1 u3 (fill l (noughts l.length)).length (bys (fill l (noughts l.length))) → Below B w w' → K ⟨#[c0, c1, c2, u3, c4, c5, c6, c7, c8, c9, c10, c11, c12, c13, c14, c15, c16, c17, c18, c19, c20, c21, c22, c23, c24, c25, c26, c27, c28, c29, u30, u31, u32, u33, u34, u35, u36, c37, c38, c39, c40, c41, c42, c43, c44, c45, c46, c47, c48, c49, c50, c51, c52, c53, c54, c55, c56, c57, c58, c59, c60, c61, c62, c63, c64, c65, c66, c67, c68, c69, c70, c71, c72, c73, c74, c75, c76, c77, c78, c79, c80, c81, c82, c83, c84, c85, c86, c87, c88, c89, c90, c91, c92, c93, c94, c95, c96, c97, c98, c99, c100, c101, c102, c103, c104, c105, c106, c107, c108, c109, c110, c111, c112, c113, c114, c115, c116, c117, c118, c119, c120, c121, c122, c123, c124, c125, c126, c127, c128, c129, c130, c131, c132, c133, c134, c135, c136, c137, c138, c139, c140, c141, c142, c143, c144, c145, c146, c147, c148, c149, c150, c151, c152, c153, c154, c155, c156, c157, c158, c159, c160, c161, c162, c163, c164, c165, c166, c167, c168, c169, c170, c171, c172, c173, c174, c175, c176, c177, c178, c179, c180, c181, c182, c183, c184, c185, c186, c187, c188, c189, c190, c191, c192, c193, c194, c195, c196, c197, c198, c199, c200, c201, c202, c203, c204, c205, c206, c207, c208, c209, c210, c211, c212, c213, c214, c215, c216, c217, c218, c219, c220, c221, c222, c223, c224, c225, c226, c227, c228, c229, c230, c231, c232, c233, c234, c235, c236, c237, c238, c239, c240, c241], []⟩ w') :
    Code.wp Try.prog (inner ((Try.f22.body.bind (blockAt 0)).getD .skip)) (Exit.inBlock 0 (Exit.then K (fun _ _ _ => False))) ⟨#[c0, c1, c2, c3, c4, c5, c6, c7, c8, c9, c10, c11, c12, c13, c14, c15, c16, c17, c18, c19, c20, c21, c22, c23, c24, c25, c26, c27, c28, c29, c30, c31, c32, c33, c34, c35, c36, c37, c38, c39, c40, c41, c42, c43, c44, c45, c46, c47, c48, c49, c50, c51, c52, c53, c54, c55, c56, c57, c58, c59, c60, c61, c62, c63, c64, c65, c66, c67, c68, c69, c70, c71, c72, c73, c74, c75, c76, c77, c78, c79, c80, c81, c82, c83, c84, c85, c86, c87, c88, c89, c90, c91, c92, c93, c94, c95, c96, c97, c98, c99, c100, c101, c102, c103, c104, c105, c106, c107, c108, c109, c110, c111, c112, c113, c114, c115, c116, c117, c118, c119, c120, c121, c122, c123, c124, c125, c126, c127, c128, c129, c130, c131, c132, c133, c134, c135, c136, c137, c138, c139, c140, c141, c142, c143, c144, c145, c146, c147, c148, c149, c150, c151, c152, c153, c154, c155, c156, c157, c158, c159, c160, c161, c162, c163, c164, c165, c166, c167, c168, c169, c170, c171, c172, c173, c174, c175, c176, c177, c178, c179, c180, c181, c182, c183, c184, c185, c186, c187, c188, c189, c190, c191, c192, c193, c194, c195, c196, c197, c198, c199, c200, c201, c202, c203, c204, c205, c206, c207, c208, c209, c210, c211, c212, c213, c214, c215, c216, c217, c218, c219, c220, c221, c222, c223, c224, c225, c226, c227, c228, c229, c230, c231, c232, c233, c234, c235, c236, c237, c238, c239, c240, c241], []⟩ w := by
  conv => arg 2; whnf
  have HE : Hid _ := hexit
  have HO : Hid (w.ownsRow B 5 1 c3 (fill l 0).length (bys (fill l 0))) := hown0
  clear hexit hown0
  dsimp only
  go_loopw [3] (fun v wr => ∃ j : Nat, j ≤ noughts l.length ∧ wr.ownsRow B 5 1 v (fill l j).length (bys (fill l j)) ∧ Below B w wr) (fun v _ => l.length + 65 - lenV v)
  case atStart => exact ⟨0, by omega, HO.out, Below.refl _ _⟩
  case round =>
    obtain ⟨j, hj, hown, hb⟩ := hrel
    clear HO
    obtain ⟨ao2, cp2, rfl⟩ := own_shape hown
    have hfl : (fill l j).length = l.length + 1 + j := fill_len l j
    have hj64 := noughts_le l.length
    have hBw : B ≤ wr.heap.size := Nat.le_trans hB0 hb.size
    by_cases hj3 : j < noughts l.length
    · have hne := noughts_not l.length j hj3
      have hmod : ((fill l j).length : Int) % 64 ≠ 56 := by rw [hfl]; omega
      have hown1 : (wr.alloc (.cells #[.int .u8 0] 5)).ownsRow B 5 1 (.slice ao2 (fill l j).length cp2) (fill l j).length (bys (fill l j)) := own_past hown ((Below.refl _ _).alloc (Nat.le_refl _) _)
      have HB1 : Hid (Below B w (wr.alloc (.cells #[.int .u8 0] 5))) := hb.alloc hBw _
      have hB1 : B ≤ (wr.alloc (.cells #[.int .u8 0] 5)).heap.size := by simp; omega
      have hN1 := new_bytes wr 0
      have hll : (fill l j).length + 1 ≤ 100000000000000 := by omega
      have hfl' : (fill l j).length < l.length + 65 := by omega
      clear hown hb hfl HE
      have HF : Hid (fill l j ++ [0] = fill l (j + 1)) := fill_next l j
      generalize fill l j = F at *
      go_wp2_with (at_builtin; refine app_at (nw := [0]) rfl _ _ rfl rfl hown1 hB1 wr.heap.size 1 rfl hN1 hll ?_; intro v3 w3 hown3 hb3 _)
      rw [HF.out] at hown3
      go_roundw
      case rel => exact ⟨j + 1, by omega, hown3, HB1.out.trans hb3⟩
      case measure =>
        obtain ⟨ao3, cp3, rfl⟩ := own_shape hown3
        have e3 : (fill l (j + 1)).length = F.length + 1 := by rw [← HF.out]; simp
        simp [lenV]; omega
    · obtain rfl : j = noughts l.length := by omega
      have hend := noughts_end l.length
      have hmod : ((fill l (noughts l.length)).length : Int) % 64 = 56 := by rw [hfl]; omega
      have AO : Aside (wr.ownsRow B 5 1 (.slice ao2 (fill l (noughts l.length)).length cp2) (fill l (noughts l.length)).length (bys (fill l (noughts l.length)))) := hown
      have AB : Aside (Below B w wr) := hb
      clear hown hb hfl hend
      generalize fill l (noughts l.length) = F at *
      go_wp2_with fail
      exact HE.out _ _ _ _ _ _ _ _ _ AO.out AB.out
end Go.Proofs.Ytfkibbpekngciaa

/- The document's own Sum: the bytes of the sum. -/
namespace Go.Proofs.Ytfkibbpekngciaa
open Go.RowKit

theorem out_at (s : St) (m : Nat) (h : m < 32) (e : Nat) (he : e = 2 ^ (24 - 8 * (m % 4))) : ((s.bytes.getD m 0).toNat : Int) = s.list.getD (m / 4) 0 / (e : Int) % 256 := by
  have h1 := bytes_at s (m / 4) (m % 4) (by omega) (by omega)
  rw [show 4 * (m / 4) + m % 4 = m by omega] at h1
  rw [← h1]
  have h4 : m % 4 < 4 := by omega
  generalize s.list.getD (m / 4) 0 = x
  subst he
  generalize m % 4 = j at *
  rcases four4 h4 with rfl | rfl | rfl | rfl
  · exact byt_nat x 16777216
  · exact byt_nat x 65536
  · exact byt_nat x 256
  · exact byt_nat x 1

attribute [local go_sem ↓] Go.wp_at_zero Go.wp_at_succ
set_option maxHeartbeats 8000000 in
set_option maxRecDepth 20000 in
theorem x_out (K : Act → World → Prop) (gh go : Nat) (s : St) (w : World) (c0 c1 c2 c3 c4 c5 c7 c8 c9 c10 c11 c12 c13 c14 c15 c16 c17 c18 c19 c20 c21 c24 c25 c26 c27 c28 c29 c30 c31 c32 c33 c34 c35 c36 c37 c38 c39 c40 c41 c42 c43 c44 c45 c46 c47 c48 c49 c50 c51 c52 c53 c54 c55 c56 c57 c58 c59 c60 c61 c62 c63 c64 c65 c66 c67 c68 c69 c70 c71 c72 c73 c74 c75 c76 c77 c78 c79 c80 c81 c82 c83 c84 c85 c86 c87 c88 c89 c90 c91 c92 c93 c94 c95 c96 c97 c98 c99 c100 c101 c102 c103 c104 c105 c106 c107 c108 c109 c110 c111 c112 c113 c114 c115 c116 c117 c118 c119 c120 c121 c122 c123 c124 c125 c126 c127 c128 c129 c130 c131 c132 c133 c134 c135 c136 c137 c138 c139 c140 c141 c142 c143 c144 c145 c146 c147 c148 c149 c150 c151 c152 c153 c154 c155 c156 c157 c158 c159 c160 c161 c162 c163 c164 c165 c166 c167 c168 c169 c170 c171 c172 c173 c174 c175 c176 c177 c178 c179 c180 c181 c182 c183 c184 c185 c186 c187 c188 c189 c190 c191 c192 c193 c194 c195 c196 c197 c198 c199 c200 c201 c202 c203 c204 c205 c206 c207 c208 c209 c210 c211 c212 c213 c214 c215 c216 c217 c218 c219 c220 c221 c222 c223 c224 c225 c226 c227 c228 c229 c230 c231 c232 c233 c234 c235 c236 c237 c238 c239 c240 c241 : Value)
    (hne : gh ≠ go) (hh : Row w gh 64 (u32s s.list)) (ho : Row w go 26 z25)
    (hexit : ∀ (u23 u224 u225 u226 u227 u228 u229 u230 u231 u232 u233 u234 u235 u236 u237 u238 u239 u240 : Value) (w' : World), Only go w w' → Row w' go 26 (bys s.bytes) → K ⟨#[c0, c1, c2, c3, c4, c5, .pointer (some ⟨gh, 0, none⟩), c7, c8, c9, c10, c11, c12, c13, c14, c15, c16, c17, c18, c19, c20, c21, .pointer (some ⟨go, 0, none⟩), u23, c24, c25, c26, c27, c28, c29, c30, c31, c32, c33, c34, c35, c36, c37, c38, c39, c40, c41, c42, c43, c44, c45, c46, c47, c48, c49, c50, c51, c52, c53, c54, c55, c56, c57, c58, c59, c60, c61, c62, c63, c64, c65, c66, c67, c68, c69, c70, c71, c72, c73, c74, c75, c76, c77, c78, c79, c80, c81, c82, c83, c84, c85, c86, c87, c88, c89, c90, c91, c92, c93, c94, c95, c96, c97, c98, c99, c100, c101, c102, c103, c104, c105, c106, c107, c108, c109, c110, c111, c112, c113, c114, c115, c116, c117, c118, c119, c120, c121, c122, c123, c124, c125, c126, c127, c128, c129, c130, c131, c132, c133, c134, c135, c136, c137, c138, c139, c140, c141, c142, c143, c144, c145, c146, c147, c148, c149, c150, c151, c152, c153, c154, c155, c156, c157, c158, c159, c160, c161, c162, c163, c164, c165, c166, c167, c168, c169, c170, c171, c172, c173, c174, c175, c176, c177, c178, c179, c180, c181, c182, c183, c184, c185, c186, c187, c188, c189, c190, c191, c192, c193, c194, c195, c196, c197, c198, c199, c200, c201, c202, c203, c204, c205, c206, c207, c208, c209, c210, c211, c212, c213, c214, c215, c216, c217, c218, c219, c220, c221, c222, c223, u224, u225, u226, u227, u228, u229, u230, u231, u232, u233, u234, u235, u236, u237, u238, u239, u240, c241], []⟩ w') :
    Code.wp Try.prog (inner ((Try.f22.body.bind (blockAt 16)).getD .skip)) (Exit.inBlock 16 (Exit.then K (fun _ _ _ => False))) ⟨#[c0, c1, c2, c3, c4, c5, .pointer (some ⟨gh, 0, none⟩), c7, c8, c9, c10, c11, c12, c13, c14, c15, c16, c17, c18, c19, c20, c21, .pointer (some ⟨go, 0, none⟩), .int .i64 0, c24, c25, c26, c27, c28, c29, c30, c31, c32, c33, c34, c35, c36, c37, c38, c39, c40, c41, c42, c43, c44, c45, c46, c47, c48, c49, c50, c51, c52, c53, c54, c55, c56, c57, c58, c59, c60, c61, c62, c63, c64, c65, c66, c67, c68, c69, c70, c71, c72, c73, c74, c75, c76, c77, c78, c79, c80, c81, c82, c83, c84, c85, c86, c87, c88, c89, c90, c91, c92, c93, c94, c95, c96, c97, c98, c99, c100, c101, c102, c103, c104, c105, c106, c107, c108, c109, c110, c111, c112, c113, c114, c115, c116, c117, c118, c119, c120, c121, c122, c123, c124, c125, c126, c127, c128, c129, c130, c131, c132, c133, c134, c135, c136, c137, c138, c139, c140, c141, c142, c143, c144, c145, c146, c147, c148, c149, c150, c151, c152, c153, c154, c155, c156, c157, c158, c159, c160, c161, c162, c163, c164, c165, c166, c167, c168, c169, c170, c171, c172, c173, c174, c175, c176, c177, c178, c179, c180, c181, c182, c183, c184, c185, c186, c187, c188, c189, c190, c191, c192, c193, c194, c195, c196, c197, c198, c199, c200, c201, c202, c203, c204, c205, c206, c207, c208, c209, c210, c211, c212, c213, c214, c215, c216, c217, c218, c219, c220, c221, c222, c223, c224, c225, c226, c227, c228, c229, c230, c231, c232, c233, c234, c235, c236, c237, c238, c239, c240, c241], []⟩ w := by
  conv => arg 2; whnf
  have HE : Hid _ := hexit
  have hlen := St.bytes_len s
  have HI : Hid (Row w go 26 (bys (padB s.bytes 0))) := ho
  have HH : Hid (Row w gh 64 (u32s s.list)) := hh
  clear hexit ho hh
  dsimp only
  go_loopw [23] (fun i wr => ∃ m : Nat, m ≤ 32 ∧ i = .int .i64 m ∧ Only go w wr ∧ Row wr go 26 (bys (padB s.bytes m))) (fun i _ => 32 - (intOf i).toNat)
  case atStart => exact ⟨0, by omega, rfl, Only.refl _ _, HI.out⟩
  case round =>
    obtain ⟨m, hm, rfl, hO, hr⟩ := hrel
    clear HI
    by_cases hm3 : m < 32
    · have q0 : wr.cell? ⟨gh, m / 4, none⟩ = some (.int .u32 (s.list.getD (m / 4) 0)) := by
        rw [(hO.row HH.out hne).cell (m / 4)]
        exact u32s_get _ _ (by show m / 4 < 8; omega)
      have q1 := hr.fz m
      have q2 : wr.cell? ⟨go, m, none⟩ = some (.int .u8 (((padB s.bytes m).getD m 0).toNat : Int)) := by rw [hr.cell m, bys_get _ _ (by rw [padB_len _ hlen _ hm]; exact hm3)]
      have HN : Hid (Only go w (wr.setCell ⟨go, m, none⟩ (.int .u8 ((s.bytes.getD m 0).toNat : Int))) ∧ Row (wr.setCell ⟨go, m, none⟩ (.int .u8 ((s.bytes.getD m 0).toNat : Int))) go 26 (bys (padB s.bytes (m + 1)))) := by
        refine ⟨hO.set _, ?_⟩
        have := hr.set m (.int .u8 ((s.bytes.getD m 0).toNat : Int))
        rw [← bys_set, padB_set s.bytes hlen m hm3] at this
        exact this
      have HE2 : Hid (∀ y, (Only go w y ∧ Row y go 26 (bys (padB s.bytes (m + 1)))) → ∃ k : Nat, k ≤ 32 ∧ Value.int .i64 ((m : Int) + 1) = .int .i64 k ∧ Only go w y ∧ Row y go 26 (bys (padB s.bytes k))) := fun y hy => ⟨m + 1, by omega, by go_num, hy⟩
      have HX : Hid (∀ e : Nat, e = 2 ^ (24 - 8 * (m % 4)) → ((s.bytes.getD m 0).toNat : Int) = s.list.getD (m / 4) 0 / (e : Int) % 256) := fun e he => out_at s m hm3 e he
      clear hO hr HH HE
      generalize (s.bytes.getD m 0).toNat = tb at *
      generalize s.list.getD (m / 4) 0 = x at *
      generalize ((padB s.bytes m).getD m 0).toNat = old at *
      have l1 : (m : Int) < 32 := by omega
      obtain ⟨d4, hd4⟩ : ∃ d : Nat, d = m / 4 := ⟨_, rfl⟩
      rw [← hd4] at q0
      have l2 : (d4 : Int) < 8 := by omega
      have e4 : (m : Int) / 4 = (d4 : Int) := by omega
      have hcase : ((m : Int) % 4 = 0 ∧ (tb : Int) = x / 16777216 % 256) ∨ ((m : Int) % 4 = 1 ∧ (tb : Int) = x / 65536 % 256) ∨ ((m : Int) % 4 = 2 ∧ (tb : Int) = x / 256 % 256) ∨ ((m : Int) % 4 = 3 ∧ (tb : Int) = x % 256) := by
        rcases four4 (show m % 4 < 4 by omega) with hj | hj | hj | hj
        · exact .inl ⟨by omega, HX.out 16777216 (by rw [hj])⟩
        · exact .inr (.inl ⟨by omega, HX.out 65536 (by rw [hj])⟩)
        · exact .inr (.inr (.inl ⟨by omega, HX.out 256 (by rw [hj])⟩))
        · have := HX.out 1 (by rw [hj])
          exact .inr (.inr (.inr ⟨by omega, by rw [this]; simp⟩))
      clear hd4 HX
      rcases hcase with ⟨em, hx⟩ | ⟨em, hx⟩ | ⟨em, hx⟩ | ⟨em, hx⟩
      all_goals
        rw [hx] at HN
        clear hx
        go_wp2_with fail
        go_roundw
        case rel => exact HE2.out _ HN.out
        case measure => simp [intOf]; omega
    · have hR4 : Row wr go 26 (bys s.bytes) := by
        obtain rfl : m = 32 := by omega
        rw [padB_all _ hlen] at hr
        exact hr
      have AO : Aside (Only go w wr) := hO
      have AR : Aside (Row wr go 26 (bys s.bytes)) := hR4
      clear hO hr hR4 HH
      go_wp2_with fail
      exact HE.out _ _ _ _ _ _ _ _ _ _ _ _ _ _ _ _ _ _ _ AO.out AR.out
end Go.Proofs.Ytfkibbpekngciaa
