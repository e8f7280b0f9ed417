/-
  The document's own Sum: the rounds of a block.
-/
import Derived.Test.YtfkibbpekngciaaQPrXcm
namespace Go.Proofs.Ytfkibbpekngciaa
open Go.RowKit

theorem stored_row42 {w : World} {g : Nat} {s : St} (r : St) (h : Row w g 64 (u32s s.list)) : Row (stored w g r) g 64 (u32s r.list) :=
  ((((((((h.set 0 _).set 1 _).set 2 _).set 3 _).set 4 _).set 5 _).set 6 _).set 7 _)
theorem stored_only {w w' : World} {g : Nat} (r : St) (h : Only g w w') : Only g w (stored w' g r) :=
  (((((((h.set _).set _).set _).set _).set _).set _).set _).set _

attribute [local go_sem ↓] Go.wp_at_zero Go.wp_at_succ
set_option maxHeartbeats 8000000 in
set_option maxRecDepth 20000 in
theorem x_rounds (K : Act → World → Prop) (gk gw gv : Nat) (s : St) (X : List Int) (w : World) (c0 c1 c2 c3 c4 c5 c6 c8 c10 c11 c12 c13 c14 c17 c18 c19 c20 c21 c22 c23 c24 c25 c26 c27 c28 c29 c30 c31 c32 c33 c34 c35 c36 c37 c38 c39 c40 c41 c42 c43 c44 c45 c46 c47 c48 c49 c50 c51 c52 c53 c54 c55 c56 c57 c58 c59 c60 c61 c62 c63 c64 c65 c66 c67 c68 c69 c70 c71 c72 c73 c74 c75 c76 c77 c78 c79 c80 c81 c82 c83 c84 c85 c86 c87 c88 c89 c90 c91 c92 c93 c94 c95 c96 c97 c98 c99 c100 c101 c102 c103 c104 c105 c106 c107 c108 c109 c110 c111 c112 c113 c114 c115 c116 c117 c118 c119 c120 c121 c122 c123 c124 c125 c126 c127 c128 c129 c130 c131 c132 c133 c134 c135 c136 c137 c138 c139 c140 c141 c142 c143 c144 c145 c146 c147 c148 c149 c150 c151 c152 c153 c154 c155 c156 c157 c158 c159 c160 c161 c162 c163 c164 c165 c166 c167 c168 c169 c170 c171 c172 c173 c174 c175 c176 c177 c178 c179 c180 c181 c182 c183 c184 c185 c186 c187 c188 c189 c190 c191 c192 c193 c194 c195 c196 c197 c198 c199 c200 c201 c202 c203 c204 c205 c206 c207 c208 c209 c210 c211 c212 c213 c214 c215 c216 c217 c218 c219 c220 c221 c222 c223 c224 c225 c226 c227 c228 c229 c230 c231 c232 c233 c234 c235 c236 c237 c238 c239 c240 c241 : Value)
    (hX : X.length = 64) (n1 : gk ≠ gv) (n2 : gw ≠ gv) (hk0 : Row w gk 65 (u32s kay)) (hw0 : Row w gw 65 (u32s X)) (hv : Row w gv 64 (u32s s.list))
    (hexit : ∀ (u16 u17 u18 u19 u20 u129 u130 u131 u132 u133 u134 u135 u136 u137 u138 u139 u140 u141 u142 u143 u144 u145 u146 u147 u148 u149 u150 u151 u152 u153 u154 u155 u156 u157 u158 u159 u160 u161 u162 u163 u164 u165 u166 u167 u168 u169 u170 u171 u172 u173 u174 u175 u176 u177 u178 u179 u180 u181 u182 u183 u184 u185 u186 u187 u188 u189 u190 u191 u192 u193 u194 u195 u196 u197 u198 u199 u200 u201 u202 u203 u204 u205 u206 u207 u208 u209 u210 : Value) (w' : World), Only gv w w' → Row w' gv 64 (u32s (rnds s X 64).list) → K ⟨#[c0, c1, c2, c3, c4, c5, c6, .pointer (some ⟨gk, 0, none⟩), c8, .pointer (some ⟨gw, 0, none⟩), c10, c11, c12, c13, c14, .pointer (some ⟨gv, 0, none⟩), u16, u17, u18, u19, u20, c21, c22, c23, c24, c25, c26, c27, c28, c29, c30, c31, c32, c33, c34, c35, c36, c37, c38, c39, c40, c41, c42, c43, c44, c45, c46, c47, c48, c49, c50, c51, c52, c53, c54, c55, c56, c57, c58, c59, c60, c61, c62, c63, c64, c65, c66, c67, c68, c69, c70, c71, c72, c73, c74, c75, c76, c77, c78, c79, c80, c81, c82, c83, c84, c85, c86, c87, c88, c89, c90, c91, c92, c93, c94, c95, c96, c97, c98, c99, c100, c101, c102, c103, c104, c105, c106, c107, c108, c109, c110, c111, c112, c113, c114, c115, c116, c117, c118, c119, c120, c121, c122, c123, c124, c125, c126, c127, c128, u129, u130, u131, u132, u133, u134, u135, u136, u137, u138, u139, u140, u141, u142, u143, u144, u145, u146, u147, u148, u149, u150, u151, u152, u153, u154, u155, u156, u157, u158, u159, u160, u161, u162, u163, u164, u165, u166, u167, u168, u169, u170, u171, u172, u173, u174, u175, u176, u177, u178, u179, u180, u181, u182, u183, u184, u185, u186, u187, u188, u189, u190, u191, u192, u193, u194, u195, u196, u197, u198, u199, u200, u201, u202, u203, u204, u205, u206, u207, u208, u209, u210, c211, c212, c213, c214, c215, c216, c217, c218, c219, c220, c221, c222, c223, c224, c225, c226, c227, c228, c229, c230, c231, c232, c233, c234, c235, c236, c237, c238, c239, c240, c241], []⟩ w') :
    Code.wp Try.prog (inner ((Try.f22.body.bind (blockAt 12)).getD .skip)) (Exit.inBlock 12 (Exit.then K (fun _ _ _ => False))) ⟨#[c0, c1, c2, c3, c4, c5, c6, .pointer (some ⟨gk, 0, none⟩), c8, .pointer (some ⟨gw, 0, none⟩), c10, c11, c12, c13, c14, .pointer (some ⟨gv, 0, none⟩), .int .i64 0, c17, c18, c19, c20, c21, c22, c23, c24, c25, c26, c27, c28, c29, c30, c31, c32, c33, c34, c35, c36, c37, c38, c39, c40, c41, c42, c43, c44, c45, c46, c47, c48, c49, c50, c51, c52, c53, c54, c55, c56, c57, c58, c59, c60, c61, c62, c63, c64, c65, c66, c67, c68, c69, c70, c71, c72, c73, c74, c75, c76, c77, c78, c79, c80, c81, c82, c83, c84, c85, c86, c87, c88, c89, c90, c91, c92, c93, c94, c95, c96, c97, c98, c99, c100, c101, c102, c103, c104, c105, c106, c107, c108, c109, c110, c111, c112, c113, c114, c115, c116, c117, c118, c119, c120, c121, c122, c123, c124, c125, c126, c127, c128, c129, c130, c131, c132, c133, c134, c135, c136, c137, c138, c139, c140, c141, c142, c143, c144, c145, c146, c147, c148, c149, c150, c151, c152, c153, c154, c155, c156, c157, c158, c159, c160, c161, c162, c163, c164, c165, c166, c167, c168, c169, c170, c171, c172, c173, c174, c175, c176, c177, c178, c179, c180, c181, c182, c183, c184, c185, c186, c187, c188, c189, c190, c191, c192, c193, c194, c195, c196, c197, c198, c199, c200, c201, c202, c203, c204, c205, c206, c207, c208, c209, c210, c211, c212, c213, c214, c215, c216, c217, c218, c219, c220, c221, c222, c223, c224, c225, c226, c227, c228, c229, c230, c231, c232, c233, c234, c235, c236, c237, c238, c239, c240, c241], []⟩ w := by
  conv => arg 2; whnf
  have HE : Hid _ := hexit
  have HI : Hid (Row w gv 64 (u32s (rnds s X 0).list)) := hv
  have HK : Hid (Row w gk 65 (u32s kay)) := hk0
  have HW : Hid (Row w gw 65 (u32s X)) := hw0
  clear hexit hk0 hw0 hv
  dsimp only
  go_loopw [16] (fun i wr => ∃ k : Nat, k ≤ 64 ∧ i = .int .i64 k ∧ Only gv w wr ∧ Row wr gv 64 (u32s (rnds s X k).list)) (fun i _ => 64 - (intOf i).toNat)
  case atStart => exact ⟨0, by omega, rfl, Only.refl _ _, HI.out⟩
  case round =>
    obtain ⟨t, ht, rfl, hO, hr⟩ := hrel
    clear HI
    by_cases ht3 : t < 64
    · have qw : wr.cell? ⟨gw, t, none⟩ = some (.int .u32 (X.getD t 0)) := by rw [(hO.row HW.out n2).cell t, u32s_get _ _ (by omega)]
      have qk : wr.cell? ⟨gk, t, none⟩ = some (.int .u32 (kay.getD t 0)) := by rw [(hO.row HK.out n1).cell t, u32s_get _ _ (by show t < 64; omega)]
      have HN : Hid (∀ n : Nat, Only gv w (stored (wr.drewN n) gv (rnds s X (t + 1))) ∧ Row (stored (wr.drewN n) gv (rnds s X (t + 1))) gv 64 (u32s (rnds s X (t + 1)).list)) := fun n => ⟨stored_only _ (hO.drewN n), stored_row42 _ hr.drewN⟩
      have HE2 : Hid (∀ y, (Only gv w y ∧ Row y gv 64 (u32s (rnds s X (t + 1)).list)) → ∃ m : Nat, m ≤ 64 ∧ Value.int .i64 ((t : Int) + 1) = .int .i64 m ∧ Only gv w y ∧ Row y gv 64 (u32s (rnds s X m).list)) := fun y hy => ⟨t + 1, by omega, by go_num, hy⟩
      have e1 : rnds s X (t + 1) = rnd (rnds s X t) (kay.getD t 0) (X.getD t 0) := rfl
      rw [e1] at HN HE2
      generalize rnds s X t = z at *
      generalize kay.getD t 0 = kk at *
      generalize X.getD t 0 = xk at *
      obtain ⟨a, b, c, d, e, f, g, h⟩ := z
      have eR : rnd ⟨a, b, c, d, e, f, g, h⟩ kk xk = ⟨(h + S1 e + chosen e f g + kk + xk + (S0 a + majority a b c)) % 4294967296, a, b, c, (d + (h + S1 e + chosen e f g + kk + xk)) % 4294967296, e, f, g⟩ := by
        simp only [rnd, one, two, IntKind.wrap_u32, St.mk.injEq, true_and, and_true]
        constructor <;> omega
      rw [eR] at HN HE2
      clear eR
      have p0 : wr.cell? ⟨gv, 0, none⟩ = some (.int .u32 a) := hr.cell 0
      have p1 : wr.cell? ⟨gv, 1, none⟩ = some (.int .u32 b) := hr.cell 1
      have p2 : wr.cell? ⟨gv, 2, none⟩ = some (.int .u32 c) := hr.cell 2
      have p3 : wr.cell? ⟨gv, 3, none⟩ = some (.int .u32 d) := hr.cell 3
      have p4 : wr.cell? ⟨gv, 4, none⟩ = some (.int .u32 e) := hr.cell 4
      have p5 : wr.cell? ⟨gv, 5, none⟩ = some (.int .u32 f) := hr.cell 5
      have p6 : wr.cell? ⟨gv, 6, none⟩ = some (.int .u32 g) := hr.cell 6
      have p7 : wr.cell? ⟨gv, 7, none⟩ = some (.int .u32 h) := hr.cell 7
      have z0 := hr.fz 0
      have z1 := hr.fz 1
      have z2 := hr.fz 2
      have z3 := hr.fz 3
      have z4 := hr.fz 4
      have z5 := hr.fz 5
      have z6 := hr.fz 6
      have z7 := hr.fz 7
      have l1 : (t : Int) < 64 := by omega
      clear e1 hO hr HK HW HE
      go_wp2_with fail
      go_quiet (fail)
      go_wp2_with fail
      refine wp_region_held_drew (S := fun y => y.cell? ⟨gv, 7, none⟩ = some (.int .u32 h) ∧ y.cell? ⟨gv, 5, none⟩ = some (.int .u32 f) ∧ y.cell? ⟨gv, 6, none⟩ = some (.int .u32 g) ∧ y.cell? ⟨gk, t, none⟩ = some (.int .u32 kk) ∧ y.cell? ⟨gw, t, none⟩ = some (.int .u32 xk)) (by kernel_rfl) ⟨p7, p5, p6, qk, qw⟩ (fun hHeld => ?_)
      refine take_in 0 (v := ?vax0) rfl (some 137) rfl (by kernel_rfl) (by kernel_rfl) (by kernel_rfl) (fun _ _ _ h => h) (Or.inl ⟨by rfl, ?hax0⟩) (by assumption) ?rax0
      case hax0 => (intro y hy; go_simp; with_reducible rfl)
      simp only [Act.put, List.setIfInBounds_toArray, List.set_cons_zero, List.set_cons_succ]
      refine take_in 1 (v := ?vax1) rfl (some 138) rfl (by kernel_rfl) (by kernel_rfl) (by kernel_rfl) (fun _ _ _ h => h) (Or.inl ⟨by rfl, ?hax1⟩) (by assumption) ?rax1
      case hax1 => (intro y hy; go_simp; with_reducible rfl)
      simp only [Act.put, List.setIfInBounds_toArray, List.set_cons_zero, List.set_cons_succ]
      refine take_in 2 (v := ?vax2) rfl (some 139) rfl (by kernel_rfl) (by kernel_rfl) (by kernel_rfl) (fun _ _ _ h => h) (Or.inl ⟨by rfl, ?hax2⟩) (by assumption) ?rax2
      case hax2 => (intro y hy; go_simp; with_reducible rfl)
      simp only [Act.put, List.setIfInBounds_toArray, List.set_cons_zero, List.set_cons_succ]
      refine take_in 4 (v := ?vax4) rfl (some 141) rfl (by kernel_rfl) (by kernel_rfl) (by kernel_rfl) (fun _ _ _ h => h) (Or.inl ⟨by rfl, ?hax4⟩) (by assumption) ?rax4
      case hax4 => (intro y hy; go_simp; with_reducible rfl)
      simp only [Act.put, List.setIfInBounds_toArray, List.set_cons_zero, List.set_cons_succ]
      refine take_in 7 (v := ?vax7) rfl (some 144) rfl (by kernel_rfl) (by kernel_rfl) (by kernel_rfl) (fun _ _ _ h => h) (Or.inl ⟨by rfl, ?hax7⟩) (by assumption) ?rax7
      case hax7 => (intro y hy; go_simp; with_reducible rfl)
      simp only [Act.put, List.setIfInBounds_toArray, List.set_cons_zero, List.set_cons_succ]
      refine take_in 11 (v := ?vax11) rfl (some 148) rfl (by kernel_rfl) (by kernel_rfl) (by kernel_rfl) (fun _ _ _ h => h) (Or.inl ⟨by rfl, ?hax11⟩) (by assumption) ?rax11
      case hax11 => (intro y hy; go_simp; with_reducible rfl)
      simp only [Act.put, List.setIfInBounds_toArray, List.set_cons_zero, List.set_cons_succ]
      refine take_in 12 (v := ?vax12) rfl (some 149) rfl (by kernel_rfl) (by kernel_rfl) (by kernel_rfl) (fun _ _ _ h => h) (Or.inl ⟨by rfl, ?hax12⟩) (by assumption) ?rax12
      case hax12 => (intro y hy; go_simp; with_reducible rfl)
      simp only [Act.put, List.setIfInBounds_toArray, List.set_cons_zero, List.set_cons_succ]
      refine take_in 13 (v := ?vax13) rfl (some 150) rfl (by kernel_rfl) (by kernel_rfl) (by kernel_rfl) (fun _ _ _ h => h) (Or.inl ⟨by rfl, ?hax13⟩) (by assumption) ?rax13
      case hax13 => (intro y hy; go_simp; with_reducible rfl)
      simp only [Act.put, List.setIfInBounds_toArray, List.set_cons_zero, List.set_cons_succ]
      refine take_in 14 (v := ?vax14) rfl (some 151) rfl (by kernel_rfl) (by kernel_rfl) (by kernel_rfl) (fun _ _ _ h => h) (Or.inl ⟨by rfl, ?hax14⟩) (by assumption) ?rax14
      case hax14 => (intro y hy; go_simp; with_reducible rfl)
      simp only [Act.put, List.setIfInBounds_toArray, List.set_cons_zero, List.set_cons_succ]
      refine take_in 15 (v := ?vax15) rfl (some 152) rfl (by kernel_rfl) (by kernel_rfl) (by kernel_rfl) (fun _ _ _ h => h) (Or.inl ⟨by rfl, ?hax15⟩) (by assumption) ?rax15
      case hax15 => (intro y hy; go_simp; with_reducible rfl)
      simp only [Act.put, List.setIfInBounds_toArray, List.set_cons_zero, List.set_cons_succ]
      refine take_in 16 (v := ?vax16) rfl (some 153) rfl (by kernel_rfl) (by kernel_rfl) (by kernel_rfl) (fun _ _ _ h => h) (Or.inl ⟨by rfl, ?hax16⟩) (by assumption) ?rax16
      case hax16 => (intro y hy; go_simp; with_reducible rfl)
      simp only [Act.put, List.setIfInBounds_toArray, List.set_cons_zero, List.set_cons_succ]
      refine take_in 17 (v := ?vax17) rfl (some 154) rfl (by kernel_rfl) (by kernel_rfl) (by kernel_rfl) (fun _ _ _ h => h) (Or.inl ⟨by rfl, ?hax17⟩) (by assumption) ?rax17
      case hax17 => (intro y hy; go_simp; with_reducible rfl)
      simp only [Act.put, List.setIfInBounds_toArray, List.set_cons_zero, List.set_cons_succ]
      refine take_in 18 (v := ?vax18) rfl (some 155) rfl (by kernel_rfl) (by kernel_rfl) (by kernel_rfl) (fun _ _ _ h => h) (Or.inl ⟨by rfl, ?hax18⟩) (by assumption) ?rax18
      case hax18 => (intro y hy; go_simp; with_reducible rfl)
      simp only [Act.put, List.setIfInBounds_toArray, List.set_cons_zero, List.set_cons_succ]
      refine take_in 19 (v := ?vax19) rfl (some 156) rfl (by kernel_rfl) (by kernel_rfl) (by kernel_rfl) (fun _ _ _ h => h) (Or.inl ⟨by rfl, ?hax19⟩) (by assumption) ?rax19
      case hax19 => (intro y hy; go_simp; with_reducible rfl)
      simp only [Act.put, List.setIfInBounds_toArray, List.set_cons_zero, List.set_cons_succ]
      refine take_in 20 (v := ?vax20) rfl (some 157) rfl (by kernel_rfl) (by kernel_rfl) (by kernel_rfl) (fun _ _ _ h => h) (Or.inl ⟨by rfl, ?hax20⟩) (by assumption) ?rax20
      case hax20 => (intro y hy; go_simp; with_reducible rfl)
      simp only [Act.put, List.setIfInBounds_toArray, List.set_cons_zero, List.set_cons_succ]
      refine take_in 22 (v := ?vax22) rfl (some 159) rfl (by kernel_rfl) (by kernel_rfl) (by kernel_rfl) (fun _ _ _ h => h) (Or.inl ⟨by rfl, ?hax22⟩) (by assumption) ?rax22
      case hax22 => (intro y hy; go_simp; with_reducible rfl)
      simp only [Act.put, List.setIfInBounds_toArray, List.set_cons_zero, List.set_cons_succ]
      refine take_in 23 (v := ?vax23) rfl (some 160) rfl (by kernel_rfl) (by kernel_rfl) (by kernel_rfl) (fun _ _ _ h => h) (Or.inl ⟨by rfl, ?hax23⟩) (by assumption) ?rax23
      case hax23 => (intro y hy; go_simp; with_reducible rfl)
      simp only [Act.put, List.setIfInBounds_toArray, List.set_cons_zero, List.set_cons_succ]
      refine take_in 24 (v := ?vax24) rfl (some 161) rfl (by kernel_rfl) (by kernel_rfl) (by kernel_rfl) (fun _ _ _ h => h) (Or.inl ⟨by rfl, ?hax24⟩) (by assumption) ?rax24
      case hax24 => (intro y hy; go_simp; with_reducible rfl)
      simp only [Act.put, List.setIfInBounds_toArray, List.set_cons_zero, List.set_cons_succ]
      refine take_in 26 (v := ?vax26) rfl (some 163) rfl (by kernel_rfl) (by kernel_rfl) (by kernel_rfl) (fun _ _ _ h => h) (Or.inl ⟨by rfl, ?hax26⟩) (by assumption) ?rax26
      case hax26 => (intro y hy; go_simp; with_reducible rfl)
      simp only [Act.put, List.setIfInBounds_toArray, List.set_cons_zero, List.set_cons_succ]
      refine take_in 27 (v := ?vax27) rfl (some 164) rfl (by kernel_rfl) (by kernel_rfl) (by kernel_rfl) (fun _ _ _ h => h) (Or.inl ⟨by rfl, ?hax27⟩) (by assumption) ?rax27
      case hax27 => (intro y hy; go_simp; with_reducible rfl)
      simp only [Act.put, List.setIfInBounds_toArray, List.set_cons_zero, List.set_cons_succ]
      refine take_in 28 (v := ?vax28) rfl (some 165) rfl (by kernel_rfl) (by kernel_rfl) (by kernel_rfl) (fun _ _ _ h => h) (Or.inl ⟨by rfl, ?hax28⟩) (by assumption) ?rax28
      case hax28 => (intro y hy; go_simp; with_reducible rfl)
      simp only [Act.put, List.setIfInBounds_toArray, List.set_cons_zero, List.set_cons_succ]
      refine wpAnyH_ready (rs := [3]) (by kernel_rfl) (by simp) ?_
      refine AllReadyH.cons rfl (fun K hK => ?_) AllReadyH.nil
      go_simp
      go_wp2_with (go_at_call 35; refine (turn_any e 6 6 rfl (by omega) (by omega) _).mono ?_; rintro ev w6 ⟨rfl, rfl⟩)
      refine hK.out _ _ (by assumption) (fun _ => ?_)
      clear hK K
      refine wpAnyH_ready (rs := [5]) (by kernel_rfl) (by simp) ?_
      refine AllReadyH.cons rfl (fun K hK => ?_) AllReadyH.nil
      go_simp
      go_wp2_with (go_at_call 35; refine (turn_any e 11 11 rfl (by omega) (by omega) _).mono ?_; rintro ev w6 ⟨rfl, rfl⟩)
      refine hK.out _ _ (by assumption) (fun _ => ?_)
      clear hK K
      refine take_in 6 (v := ?vax6) rfl (some 143) rfl (by kernel_rfl) (by kernel_rfl) (by kernel_rfl) (fun _ _ _ h => h) (Or.inl ⟨by rfl, ?hax6⟩) (by assumption) ?rax6
      case hax6 => (intro y hy; go_simp; with_reducible rfl)
      simp only [Act.put, List.setIfInBounds_toArray, List.set_cons_zero, List.set_cons_succ]
      refine wpAnyH_ready (rs := [8]) (by kernel_rfl) (by simp) ?_
      refine AllReadyH.cons rfl (fun K hK => ?_) AllReadyH.nil
      go_simp
      go_wp2_with (go_at_call 35; refine (turn_any e 25 25 rfl (by omega) (by omega) _).mono ?_; rintro ev w6 ⟨rfl, rfl⟩)
      refine hK.out _ _ (by assumption) (fun _ => ?_)
      clear hK K
      refine take_in 9 (v := ?vax9) rfl (some 146) rfl (by kernel_rfl) (by kernel_rfl) (by kernel_rfl) (fun _ _ _ h => h) (Or.inl ⟨by rfl, ?hax9⟩) (by assumption) ?rax9
      case hax9 => (intro y hy; go_simp; with_reducible rfl)
      simp only [Act.put, List.setIfInBounds_toArray, List.set_cons_zero, List.set_cons_succ]
      refine take_in 10 (v := ?vax10) rfl (some 147) rfl (by kernel_rfl) (by kernel_rfl) (by kernel_rfl) (fun _ _ _ h => h) (Or.inl ⟨by rfl, ?hax10⟩) (by assumption) ?rax10
      case hax10 => (intro y hy; go_simp; with_reducible rfl)
      simp only [Act.put, List.setIfInBounds_toArray, List.set_cons_zero, List.set_cons_succ]
      refine take_in 21 (v := ?vax21) rfl (some 158) rfl (by kernel_rfl) (by kernel_rfl) (by kernel_rfl) (fun _ _ _ h => h) (Or.inl ⟨by rfl, ?hax21⟩) (by assumption) ?rax21
      case hax21 => (intro y hy; go_simp; with_reducible rfl)
      simp only [Act.put, List.setIfInBounds_toArray, List.set_cons_zero, List.set_cons_succ]
      refine take_in 25 (v := ?vax25) rfl (some 162) rfl (by kernel_rfl) (by kernel_rfl) (by kernel_rfl) (fun _ _ _ h => h) (Or.inl ⟨by rfl, ?hax25⟩) (by assumption) ?rax25
      case hax25 => (intro y hy; go_simp; with_reducible rfl)
      simp only [Act.put, List.setIfInBounds_toArray, List.set_cons_zero, List.set_cons_succ]
      refine take_in 29 (v := ?vax29) rfl (some 166) rfl (by kernel_rfl) (by kernel_rfl) (by kernel_rfl) (fun _ _ _ h => h) (Or.inl ⟨by rfl, ?hax29⟩) (by assumption) ?rax29
      case hax29 => (intro y hy; go_simp; with_reducible rfl)
      simp only [Act.put, List.setIfInBounds_toArray, List.set_cons_zero, List.set_cons_succ]
      refine take_in 30 (v := ?vax30) rfl (some 19) rfl (by kernel_rfl) (by kernel_rfl) (by kernel_rfl) (fun _ _ _ h => h) (Or.inl ⟨by rfl, ?hax30⟩) (by assumption) ?rax30
      case hax30 => (intro y hy; go_simp; with_reducible rfl)
      simp only [Act.put, List.setIfInBounds_toArray, List.set_cons_zero, List.set_cons_succ]
      refine wpAnyH_done (by kernel_rfl) ?_ _
      clear hHeld
      go_wp2_with fail
      refine wp_region_held_drew (S := fun y => y.cell? ⟨gv, 1, none⟩ = some (.int .u32 b) ∧ y.cell? ⟨gv, 2, none⟩ = some (.int .u32 c)) (by kernel_rfl) ⟨p1, p2⟩ (fun hHeld => ?_)
      refine take_in 0 (v := ?vbx0) rfl (some 167) rfl (by kernel_rfl) (by kernel_rfl) (by kernel_rfl) (fun _ _ _ h => h) (Or.inl ⟨by rfl, ?hbx0⟩) (by assumption) ?rbx0
      case hbx0 => (intro y hy; go_simp; with_reducible rfl)
      simp only [Act.put, List.setIfInBounds_toArray, List.set_cons_zero, List.set_cons_succ]
      refine take_in 2 (v := ?vbx2) rfl (some 169) rfl (by kernel_rfl) (by kernel_rfl) (by kernel_rfl) (fun _ _ _ h => h) (Or.inl ⟨by rfl, ?hbx2⟩) (by assumption) ?rbx2
      case hbx2 => (intro y hy; go_simp; with_reducible rfl)
      simp only [Act.put, List.setIfInBounds_toArray, List.set_cons_zero, List.set_cons_succ]
      refine take_in 5 (v := ?vbx5) rfl (some 172) rfl (by kernel_rfl) (by kernel_rfl) (by kernel_rfl) (fun _ _ _ h => h) (Or.inl ⟨by rfl, ?hbx5⟩) (by assumption) ?rbx5
      case hbx5 => (intro y hy; go_simp; with_reducible rfl)
      simp only [Act.put, List.setIfInBounds_toArray, List.set_cons_zero, List.set_cons_succ]
      refine take_in 8 (v := ?vbx8) rfl (some 175) rfl (by kernel_rfl) (by kernel_rfl) (by kernel_rfl) (fun _ _ _ h => h) (Or.inl ⟨by rfl, ?hbx8⟩) (by assumption) ?rbx8
      case hbx8 => (intro y hy; go_simp; with_reducible rfl)
      simp only [Act.put, List.setIfInBounds_toArray, List.set_cons_zero, List.set_cons_succ]
      refine take_in 9 (v := ?vbx9) rfl (some 176) rfl (by kernel_rfl) (by kernel_rfl) (by kernel_rfl) (fun _ _ _ h => h) (Or.inl ⟨by rfl, ?hbx9⟩) (by assumption) ?rbx9
      case hbx9 => (intro y hy; go_simp; with_reducible rfl)
      simp only [Act.put, List.setIfInBounds_toArray, List.set_cons_zero, List.set_cons_succ]
      refine take_in 10 (v := ?vbx10) rfl (some 177) rfl (by kernel_rfl) (by kernel_rfl) (by kernel_rfl) (fun _ _ _ h => h) (Or.inl ⟨by rfl, ?hbx10⟩) (by assumption) ?rbx10
      case hbx10 => (intro y hy; go_simp; with_reducible rfl)
      simp only [Act.put, List.setIfInBounds_toArray, List.set_cons_zero, List.set_cons_succ]
      refine take_in 11 (v := ?vbx11) rfl (some 178) rfl (by kernel_rfl) (by kernel_rfl) (by kernel_rfl) (fun _ _ _ h => h) (Or.inl ⟨by rfl, ?hbx11⟩) (by assumption) ?rbx11
      case hbx11 => (intro y hy; go_simp; with_reducible rfl)
      simp only [Act.put, List.setIfInBounds_toArray, List.set_cons_zero, List.set_cons_succ]
      refine take_in 12 (v := ?vbx12) rfl (some 179) rfl (by kernel_rfl) (by kernel_rfl) (by kernel_rfl) (fun _ _ _ h => h) (Or.inl ⟨by rfl, ?hbx12⟩) (by assumption) ?rbx12
      case hbx12 => (intro y hy; go_simp; with_reducible rfl)
      simp only [Act.put, List.setIfInBounds_toArray, List.set_cons_zero, List.set_cons_succ]
      refine take_in 13 (v := ?vbx13) rfl (some 180) rfl (by kernel_rfl) (by kernel_rfl) (by kernel_rfl) (fun _ _ _ h => h) (Or.inl ⟨by rfl, ?hbx13⟩) (by assumption) ?rbx13
      case hbx13 => (intro y hy; go_simp; with_reducible rfl)
      simp only [Act.put, List.setIfInBounds_toArray, List.set_cons_zero, List.set_cons_succ]
      refine take_in 14 (v := ?vbx14) rfl (some 181) rfl (by kernel_rfl) (by kernel_rfl) (by kernel_rfl) (fun _ _ _ h => h) (Or.inl ⟨by rfl, ?hbx14⟩) (by assumption) ?rbx14
      case hbx14 => (intro y hy; go_simp; with_reducible rfl)
      simp only [Act.put, List.setIfInBounds_toArray, List.set_cons_zero, List.set_cons_succ]
      refine take_in 15 (v := ?vbx15) rfl (some 182) rfl (by kernel_rfl) (by kernel_rfl) (by kernel_rfl) (fun _ _ _ h => h) (Or.inl ⟨by rfl, ?hbx15⟩) (by assumption) ?rbx15
      case hbx15 => (intro y hy; go_simp; with_reducible rfl)
      simp only [Act.put, List.setIfInBounds_toArray, List.set_cons_zero, List.set_cons_succ]
      refine take_in 16 (v := ?vbx16) rfl (some 183) rfl (by kernel_rfl) (by kernel_rfl) (by kernel_rfl) (fun _ _ _ h => h) (Or.inl ⟨by rfl, ?hbx16⟩) (by assumption) ?rbx16
      case hbx16 => (intro y hy; go_simp; with_reducible rfl)
      simp only [Act.put, List.setIfInBounds_toArray, List.set_cons_zero, List.set_cons_succ]
      refine take_in 17 (v := ?vbx17) rfl (some 184) rfl (by kernel_rfl) (by kernel_rfl) (by kernel_rfl) (fun _ _ _ h => h) (Or.inl ⟨by rfl, ?hbx17⟩) (by assumption) ?rbx17
      case hbx17 => (intro y hy; go_simp; with_reducible rfl)
      simp only [Act.put, List.setIfInBounds_toArray, List.set_cons_zero, List.set_cons_succ]
      refine take_in 18 (v := ?vbx18) rfl (some 185) rfl (by kernel_rfl) (by kernel_rfl) (by kernel_rfl) (fun _ _ _ h => h) (Or.inl ⟨by rfl, ?hbx18⟩) (by assumption) ?rbx18
      case hbx18 => (intro y hy; go_simp; with_reducible rfl)
      simp only [Act.put, List.setIfInBounds_toArray, List.set_cons_zero, List.set_cons_succ]
      refine take_in 19 (v := ?vbx19) rfl (some 186) rfl (by kernel_rfl) (by kernel_rfl) (by kernel_rfl) (fun _ _ _ h => h) (Or.inl ⟨by rfl, ?hbx19⟩) (by assumption) ?rbx19
      case hbx19 => (intro y hy; go_simp; with_reducible rfl)
      simp only [Act.put, List.setIfInBounds_toArray, List.set_cons_zero, List.set_cons_succ]
      refine take_in 20 (v := ?vbx20) rfl (some 187) rfl (by kernel_rfl) (by kernel_rfl) (by kernel_rfl) (fun _ _ _ h => h) (Or.inl ⟨by rfl, ?hbx20⟩) (by assumption) ?rbx20
      case hbx20 => (intro y hy; go_simp; with_reducible rfl)
      simp only [Act.put, List.setIfInBounds_toArray, List.set_cons_zero, List.set_cons_succ]
      refine take_in 21 (v := ?vbx21) rfl (some 188) rfl (by kernel_rfl) (by kernel_rfl) (by kernel_rfl) (fun _ _ _ h => h) (Or.inl ⟨by rfl, ?hbx21⟩) (by assumption) ?rbx21
      case hbx21 => (intro y hy; go_simp; with_reducible rfl)
      simp only [Act.put, List.setIfInBounds_toArray, List.set_cons_zero, List.set_cons_succ]
      refine take_in 22 (v := ?vbx22) rfl (some 189) rfl (by kernel_rfl) (by kernel_rfl) (by kernel_rfl) (fun _ _ _ h => h) (Or.inl ⟨by rfl, ?hbx22⟩) (by assumption) ?rbx22
      case hbx22 => (intro y hy; go_simp; with_reducible rfl)
      simp only [Act.put, List.setIfInBounds_toArray, List.set_cons_zero, List.set_cons_succ]
      refine wpAnyH_ready (rs := [1]) (by kernel_rfl) (by simp) ?_
      refine AllReadyH.cons rfl (fun K hK => ?_) AllReadyH.nil
      go_simp
      go_wp2_with (go_at_call 35; refine (turn_any a 2 2 rfl (by omega) (by omega) _).mono ?_; rintro ev w6 ⟨rfl, rfl⟩)
      refine hK.out _ _ (by assumption) (fun _ => ?_)
      clear hK K
      refine wpAnyH_ready (rs := [3]) (by kernel_rfl) (by simp) ?_
      refine AllReadyH.cons rfl (fun K hK => ?_) AllReadyH.nil
      go_simp
      go_wp2_with (go_at_call 35; refine (turn_any a 13 13 rfl (by omega) (by omega) _).mono ?_; rintro ev w6 ⟨rfl, rfl⟩)
      refine hK.out _ _ (by assumption) (fun _ => ?_)
      clear hK K
      refine take_in 4 (v := ?vbx4) rfl (some 171) rfl (by kernel_rfl) (by kernel_rfl) (by kernel_rfl) (fun _ _ _ h => h) (Or.inl ⟨by rfl, ?hbx4⟩) (by assumption) ?rbx4
      case hbx4 => (intro y hy; go_simp; with_reducible rfl)
      simp only [Act.put, List.setIfInBounds_toArray, List.set_cons_zero, List.set_cons_succ]
      refine wpAnyH_ready (rs := [6]) (by kernel_rfl) (by simp) ?_
      refine AllReadyH.cons rfl (fun K hK => ?_) AllReadyH.nil
      go_simp
      go_wp2_with (go_at_call 35; refine (turn_any a 22 22 rfl (by omega) (by omega) _).mono ?_; rintro ev w6 ⟨rfl, rfl⟩)
      refine hK.out _ _ (by assumption) (fun _ => ?_)
      clear hK K
      refine take_in 7 (v := ?vbx7) rfl (some 174) rfl (by kernel_rfl) (by kernel_rfl) (by kernel_rfl) (fun _ _ _ h => h) (Or.inl ⟨by rfl, ?hbx7⟩) (by assumption) ?rbx7
      case hbx7 => (intro y hy; go_simp; with_reducible rfl)
      simp only [Act.put, List.setIfInBounds_toArray, List.set_cons_zero, List.set_cons_succ]
      refine take_in 23 (v := ?vbx23) rfl (some 190) rfl (by kernel_rfl) (by kernel_rfl) (by kernel_rfl) (fun _ _ _ h => h) (Or.inl ⟨by rfl, ?hbx23⟩) (by assumption) ?rbx23
      case hbx23 => (intro y hy; go_simp; with_reducible rfl)
      simp only [Act.put, List.setIfInBounds_toArray, List.set_cons_zero, List.set_cons_succ]
      refine take_in 24 (v := ?vbx24) rfl (some 20) rfl (by kernel_rfl) (by kernel_rfl) (by kernel_rfl) (fun _ _ _ h => h) (Or.inl ⟨by rfl, ?hbx24⟩) (by assumption) ?rbx24
      case hbx24 => (intro y hy; go_simp; with_reducible rfl)
      simp only [Act.put, List.setIfInBounds_toArray, List.set_cons_zero, List.set_cons_succ]
      refine wpAnyH_done (by kernel_rfl) ?_ _
      clear hHeld
      go_wp2_with fail
      go_roundw
      case rel => exact HE2.out _ (HN.out _)
      case measure => simp [intOf]; omega
    · have hR4 : Row wr gv 64 (u32s (rnds s X 64).list) := by
        obtain rfl : t = 64 := by omega
        exact hr
      have AO : Aside (Only gv w wr) := hO
      have AR : Aside (Row wr gv 64 (u32s (rnds s X 64).list)) := hR4
      clear hO hr hR4 HK HW
      go_wp2_with fail
      exact HE.out _ _ _ _ _ _ _ _ _ _ _ _ _ _ _ _ _ _ _ _ _ _ _ _ _ _ _ _ _ _ _ _ _ _ _ _ _ _ _ _ _ _ _ _ _ _ _ _ _ _ _ _ _ _ _ _ _ _ _ _ _ _ _ _ _ _ _ _ _ _ _ _ _ _ _ _ _ _ _ _ _ _ _ _ _ _ _ _ AO.out AR.out
end Go.Proofs.Ytfkibbpekngciaa
