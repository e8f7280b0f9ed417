/-
  The document's own Sum: the words W of a block.
-/
import Derived.Test.YtfkibbpekngciaaQPrXcm
namespace Go.Proofs.Ytfkibbpekngciaa
open Go.RowKit

attribute [local go_sem ↓] Go.wp_at_zero Go.wp_at_succ
set_option maxHeartbeats 8000000 in
set_option maxRecDepth 20000 in
theorem x_sched (K : Act → World → Prop) (gw : Nat) (F : List Int) (w : World) (c0 c1 c2 c3 c4 c5 c6 c7 c8 c10 c11 c13 c14 c15 c16 c17 c18 c19 c20 c21 c22 c23 c24 c25 c26 c27 c28 c29 c30 c31 c32 c33 c34 c35 c36 c37 c38 c39 c40 c41 c42 c43 c44 c45 c46 c47 c48 c49 c50 c51 c52 c53 c54 c55 c56 c57 c58 c59 c60 c61 c62 c63 c64 c65 c66 c67 c68 c69 c70 c71 c72 c73 c74 c75 c76 c77 c78 c79 c80 c81 c82 c83 c84 c85 c86 c87 c88 c89 c90 c91 c92 c93 c94 c95 c96 c97 c98 c99 c100 c101 c102 c103 c104 c105 c106 c107 c108 c109 c110 c111 c112 c113 c114 c115 c116 c117 c118 c119 c120 c121 c122 c123 c124 c125 c126 c127 c128 c129 c130 c131 c132 c133 c134 c135 c136 c137 c138 c139 c140 c141 c142 c143 c144 c145 c146 c147 c148 c149 c150 c151 c152 c153 c154 c155 c156 c157 c158 c159 c160 c161 c162 c163 c164 c165 c166 c167 c168 c169 c170 c171 c172 c173 c174 c175 c176 c177 c178 c179 c180 c181 c182 c183 c184 c185 c186 c187 c188 c189 c190 c191 c192 c193 c194 c195 c196 c197 c198 c199 c200 c201 c202 c203 c204 c205 c206 c207 c208 c209 c210 c211 c212 c213 c214 c215 c216 c217 c218 c219 c220 c221 c222 c223 c224 c225 c226 c227 c228 c229 c230 c231 c232 c233 c234 c235 c236 c237 c238 c239 c240 c241 : Value)
    (hF : F.length = 16) (hrow : Row w gw 65 (u32s (pad 64 F)))
    (hexit : ∀ (u12 u13 u14 u87 u88 u89 u90 u91 u92 u93 u94 u95 u96 u97 u98 u99 u100 u101 u102 u103 u104 u105 u106 u107 u108 u109 u110 u111 u112 u113 u114 u115 u116 u117 u118 u119 u120 u121 u122 u123 u124 u125 u126 u127 : Value) (w' : World), Only gw w w' → Row w' gw 65 (u32s (ext F 48)) → K ⟨#[c0, c1, c2, c3, c4, c5, c6, c7, c8, .pointer (some ⟨gw, 0, none⟩), c10, c11, u12, u13, u14, c15, c16, c17, c18, c19, c20, c21, c22, c23, c24, c25, c26, c27, c28, c29, c30, c31, c32, c33, c34, c35, c36, c37, c38, c39, c40, c41, c42, c43, c44, c45, c46, c47, c48, c49, c50, c51, c52, c53, c54, c55, c56, c57, c58, c59, c60, c61, c62, c63, c64, c65, c66, c67, c68, c69, c70, c71, c72, c73, c74, c75, c76, c77, c78, c79, c80, c81, c82, c83, c84, c85, c86, u87, u88, u89, u90, u91, u92, u93, u94, u95, u96, u97, u98, u99, u100, u101, u102, u103, u104, u105, u106, u107, u108, u109, u110, u111, u112, u113, u114, u115, u116, u117, u118, u119, u120, u121, u122, u123, u124, u125, u126, u127, c128, c129, c130, c131, c132, c133, c134, c135, c136, c137, c138, c139, c140, c141, c142, c143, c144, c145, c146, c147, c148, c149, c150, c151, c152, c153, c154, c155, c156, c157, c158, c159, c160, c161, c162, c163, c164, c165, c166, c167, c168, c169, c170, c171, c172, c173, c174, c175, c176, c177, c178, c179, c180, c181, c182, c183, c184, c185, c186, c187, c188, c189, c190, c191, c192, c193, c194, c195, c196, c197, c198, c199, c200, c201, c202, c203, c204, c205, c206, c207, c208, c209, c210, c211, c212, c213, c214, c215, c216, c217, c218, c219, c220, c221, c222, c223, c224, c225, c226, c227, c228, c229, c230, c231, c232, c233, c234, c235, c236, c237, c238, c239, c240, c241], []⟩ w') :
    Code.wp Try.prog (inner ((Try.f22.body.bind (blockAt 10)).getD .skip)) (Exit.inBlock 10 (Exit.then K (fun _ _ _ => False))) ⟨#[c0, c1, c2, c3, c4, c5, c6, c7, c8, .pointer (some ⟨gw, 0, none⟩), c10, c11, .int .i64 16, c13, c14, c15, c16, c17, c18, c19, c20, c21, c22, c23, c24, c25, c26, c27, c28, c29, c30, c31, c32, c33, c34, c35, c36, c37, c38, c39, c40, c41, c42, c43, c44, c45, c46, c47, c48, c49, c50, c51, c52, c53, c54, c55, c56, c57, c58, c59, c60, c61, c62, c63, c64, c65, c66, c67, c68, c69, c70, c71, c72, c73, c74, c75, c76, c77, c78, c79, c80, c81, c82, c83, c84, c85, c86, c87, c88, c89, c90, c91, c92, c93, c94, c95, c96, c97, c98, c99, c100, c101, c102, c103, c104, c105, c106, c107, c108, c109, c110, c111, c112, c113, c114, c115, c116, c117, c118, c119, c120, c121, c122, c123, c124, c125, c126, c127, c128, c129, c130, c131, c132, c133, c134, c135, c136, c137, c138, c139, c140, c141, c142, c143, c144, c145, c146, c147, c148, c149, c150, c151, c152, c153, c154, c155, c156, c157, c158, c159, c160, c161, c162, c163, c164, c165, c166, c167, c168, c169, c170, c171, c172, c173, c174, c175, c176, c177, c178, c179, c180, c181, c182, c183, c184, c185, c186, c187, c188, c189, c190, c191, c192, c193, c194, c195, c196, c197, c198, c199, c200, c201, c202, c203, c204, c205, c206, c207, c208, c209, c210, c211, c212, c213, c214, c215, c216, c217, c218, c219, c220, c221, c222, c223, c224, c225, c226, c227, c228, c229, c230, c231, c232, c233, c234, c235, c236, c237, c238, c239, c240, c241], []⟩ w := by
  conv => arg 2; whnf
  have HE : Hid _ := hexit
  have HI : Hid (Row w gw 65 (u32s (pad 64 (ext F 0)))) := hrow
  clear hexit hrow
  dsimp only
  go_loopw [12] (fun i wr => ∃ k : Nat, k ≤ 48 ∧ i = .int .i64 (16 + k : Nat) ∧ Only gw w wr ∧ Row wr gw 65 (u32s (pad 64 (ext F k)))) (fun i _ => 64 - (intOf i).toNat)
  case atStart => exact ⟨0, by omega, rfl, Only.refl _ _, HI.out⟩
  case round =>
    obtain ⟨k, hk, rfl, hO, hr⟩ := hrel
    clear HI
    have hEL : (ext F k).length = 16 + k := by rw [ext_len, hF]
    have hcell : ∀ j, j < 64 → wr.cell? ⟨gw, j, none⟩ = some (.int .u32 ((pad 64 (ext F k)).getD j 0)) := fun j hj => by rw [hr.cell j, u32s_get _ _ (by rw [pad_len _ _ (by omega)]; exact hj)]
    by_cases hk3 : k < 48
    · have c15 := hcell (16 + k - 15) (by omega)
      have c2 := hcell (16 + k - 2) (by omega)
      have c7 := hcell (16 + k - 7) (by omega)
      have c16 := hcell (16 + k - 16) (by omega)
      have q0 := hcell (16 + k) (by omega)
      have q1 := hr.fz (16 + k)
      rw [pad_get _ _ _ (by omega)] at c15 c2 c7 c16
      have HN : Hid (Only gw w (wr.setCell ⟨gw, 16 + k, none⟩ (.int .u32 (nextW (ext F k)))) ∧ Row (wr.setCell ⟨gw, 16 + k, none⟩ (.int .u32 (nextW (ext F k)))) gw 65 (u32s (pad 64 (ext F (k + 1))))) := by
        refine ⟨hO.set _, ?_⟩
        have := hr.set (16 + k) (.int .u32 (nextW (ext F k)))
        have e := pad_set 64 (ext F k) (nextW (ext F k)) (by omega)
        rw [hEL] at e
        rw [← u32s_set, e] at this
        exact this
      rw [nextW, hEL, sm0, sm1] at HN
      generalize (ext F k).getD (16 + k - 15) 0 = x15 at *
      generalize (ext F k).getD (16 + k - 2) 0 = x2 at *
      generalize (ext F k).getD (16 + k - 7) 0 = x7 at *
      generalize (ext F k).getD (16 + k - 16) 0 = x16 at *
      generalize (pad 64 (ext F k)).getD (16 + k) 0 = xo at *
      clear hO hr hcell hEL HE
      generalize hn : 16 + k = n at *
      obtain ⟨m15, h15⟩ : ∃ m, m = n - 15 := ⟨_, rfl⟩
      obtain ⟨m2, h2⟩ : ∃ m, m = n - 2 := ⟨_, rfl⟩
      obtain ⟨m7, h7⟩ : ∃ m, m = n - 7 := ⟨_, rfl⟩
      obtain ⟨m16, h16⟩ : ∃ m, m = n - 16 := ⟨_, rfl⟩
      rw [← h15] at c15
      rw [← h2] at c2
      rw [← h7] at c7
      rw [← h16] at c16
      have e15 : IntKind.i64.wrap ((n : Int) - 15) = (m15 : Int) := by rw [IntKind.wrap_i64]; omega
      have e2 : IntKind.i64.wrap ((n : Int) - 2) = (m2 : Int) := by rw [IntKind.wrap_i64]; omega
      have e7 : IntKind.i64.wrap ((n : Int) - 7) = (m7 : Int) := by rw [IntKind.wrap_i64]; omega
      have e16 : IntKind.i64.wrap ((n : Int) - 16) = (m16 : Int) := by rw [IntKind.wrap_i64]; omega
      have l15 : (m15 : Int) < 64 := by omega
      have l2 : (m2 : Int) < 64 := by omega
      have l7 : (m7 : Int) < 64 := by omega
      have l16 : (m16 : Int) < 64 := by omega
      have ln : (n : Int) < 64 := by omega
      have d7 : m7 ≠ n := by omega
      have d16 : m16 ≠ n := by omega
      clear h15 h2 h7 h16
      have K7 : Hid (∀ (y : World) (v : Value), (y.setCell ⟨gw, n, none⟩ v).cell? ⟨gw, m7, none⟩ = y.cell? ⟨gw, m7, none⟩) := fun y v => World.cell?_setCell_other (w := y) (a := ⟨gw, n, none⟩) (b := ⟨gw, m7, none⟩) (v := v) (fun e => d7 (congrArg Addr.off e).symm)
      have K16 : Hid (∀ (y : World) (v : Value), (y.setCell ⟨gw, n, none⟩ v).cell? ⟨gw, m16, none⟩ = y.cell? ⟨gw, m16, none⟩) := fun y v => World.cell?_setCell_other (w := y) (a := ⟨gw, n, none⟩) (b := ⟨gw, m16, none⟩) (v := v) (fun e => d16 (congrArg Addr.off e).symm)
      go_wp2_with fail
      go_quiet (fail)
      go_wp2_with fail
      refine wp_region_held_drew (S := fun y => y.cell? ⟨gw, m7, none⟩ = some (.int .u32 x7) ∧ y.cell? ⟨gw, m16, none⟩ = some (.int .u32 x16)) (by kernel_rfl) ⟨c7, c16⟩ (fun hHeld => ?_)
      refine take_in 0 (v := ?vax0) rfl (some 99) rfl (by kernel_rfl) (by kernel_rfl) (by kernel_rfl) (fun _ _ _ h => h) (Or.inl ⟨by rfl, ?hax0⟩) (by assumption) ?rax0
      case hax0 => (intro y hy; go_simp; with_reducible rfl)
      simp only [Act.put, List.setIfInBounds_toArray, List.set_cons_zero, List.set_cons_succ]
      refine take_in 1 (v := ?vax1) rfl (some 100) rfl (by kernel_rfl) (by kernel_rfl) (by kernel_rfl) (fun _ _ _ h => h) (Or.inl ⟨by rfl, ?hax1⟩) (by assumption) ?rax1
      case hax1 => (intro y hy; go_simp; with_reducible rfl)
      simp only [Act.put, List.setIfInBounds_toArray, List.set_cons_zero, List.set_cons_succ]
      refine take_in 3 (v := ?vax3) rfl (some 102) rfl (by kernel_rfl) (by kernel_rfl) (by kernel_rfl) (fun _ _ _ h => h) (Or.inl ⟨by rfl, ?hax3⟩) (by assumption) ?rax3
      case hax3 => (intro y hy; go_simp; with_reducible rfl)
      simp only [Act.put, List.setIfInBounds_toArray, List.set_cons_zero, List.set_cons_succ]
      refine take_in 6 (v := ?vax6) rfl (some 105) rfl (by kernel_rfl) (by kernel_rfl) (by kernel_rfl) (fun _ _ _ h => h) (Or.inl ⟨by rfl, ?hax6⟩) (by assumption) ?rax6
      case hax6 => (intro y hy; go_simp; with_reducible rfl)
      simp only [Act.put, List.setIfInBounds_toArray, List.set_cons_zero, List.set_cons_succ]
      refine take_in 7 (v := ?vax7) rfl (some 106) rfl (by kernel_rfl) (by kernel_rfl) (by kernel_rfl) (fun _ _ _ h => h) (Or.inl ⟨by rfl, ?hax7⟩) (by assumption) ?rax7
      case hax7 => (intro y hy; go_simp; with_reducible rfl)
      simp only [Act.put, List.setIfInBounds_toArray, List.set_cons_zero, List.set_cons_succ]
      refine take_in 9 (v := ?vax9) rfl (some 108) rfl (by kernel_rfl) (by kernel_rfl) (by kernel_rfl) (fun _ _ _ h => h) (Or.inl ⟨by rfl, ?hax9⟩) (by assumption) ?rax9
      case hax9 => (intro y hy; go_simp; with_reducible rfl)
      simp only [Act.put, List.setIfInBounds_toArray, List.set_cons_zero, List.set_cons_succ]
      refine take_in 10 (v := ?vax10) rfl (some 109) rfl (by kernel_rfl) (by kernel_rfl) (by kernel_rfl) (fun _ _ _ h => h) (Or.inl ⟨by rfl, ?hax10⟩) (by assumption) ?rax10
      case hax10 => (intro y hy; go_simp; with_reducible rfl)
      simp only [Act.put, List.setIfInBounds_toArray, List.set_cons_zero, List.set_cons_succ]
      refine take_in 11 (v := ?vax11) rfl (some 110) rfl (by kernel_rfl) (by kernel_rfl) (by kernel_rfl) (fun _ _ _ h => h) (Or.inl ⟨by rfl, ?hax11⟩) (by assumption) ?rax11
      case hax11 => (intro y hy; go_simp; with_reducible rfl)
      simp only [Act.put, List.setIfInBounds_toArray, List.set_cons_zero, List.set_cons_succ]
      refine take_in 12 (v := ?vax12) rfl (some 111) rfl (by kernel_rfl) (by kernel_rfl) (by kernel_rfl) (fun _ _ _ h => h) (Or.inl ⟨by rfl, ?hax12⟩) (by assumption) ?rax12
      case hax12 => (intro y hy; go_simp; with_reducible rfl)
      simp only [Act.put, List.setIfInBounds_toArray, List.set_cons_zero, List.set_cons_succ]
      refine take_in 14 (v := ?vax14) rfl (some 113) rfl (by kernel_rfl) (by kernel_rfl) (by kernel_rfl) (fun _ _ _ h => h) (Or.inl ⟨by rfl, ?hax14⟩) (by assumption) ?rax14
      case hax14 => (intro y hy; go_simp; with_reducible rfl)
      simp only [Act.put, List.setIfInBounds_toArray, List.set_cons_zero, List.set_cons_succ]
      refine take_in 16 (v := ?vax16) rfl (some 115) rfl (by kernel_rfl) (by kernel_rfl) (by kernel_rfl) (fun _ _ _ h => h) (Or.inl ⟨by rfl, ?hax16⟩) (by assumption) ?rax16
      case hax16 => (intro y hy; go_simp; with_reducible rfl)
      simp only [Act.put, List.setIfInBounds_toArray, List.set_cons_zero, List.set_cons_succ]
      refine take_in 19 (v := ?vax19) rfl (some 118) rfl (by kernel_rfl) (by kernel_rfl) (by kernel_rfl) (fun _ _ _ h => h) (Or.inl ⟨by rfl, ?hax19⟩) (by assumption) ?rax19
      case hax19 => (intro y hy; go_simp; with_reducible rfl)
      simp only [Act.put, List.setIfInBounds_toArray, List.set_cons_zero, List.set_cons_succ]
      refine take_in 20 (v := ?vax20) rfl (some 119) rfl (by kernel_rfl) (by kernel_rfl) (by kernel_rfl) (fun _ _ _ h => h) (Or.inl ⟨by rfl, ?hax20⟩) (by assumption) ?rax20
      case hax20 => (intro y hy; go_simp; with_reducible rfl)
      simp only [Act.put, List.setIfInBounds_toArray, List.set_cons_zero, List.set_cons_succ]
      refine take_in 23 (v := ?vax23) rfl (some 122) rfl (by kernel_rfl) (by kernel_rfl) (by kernel_rfl) (fun _ _ _ h => h) (Or.inl ⟨by rfl, ?hax23⟩) (by assumption) ?rax23
      case hax23 => (intro y hy; go_simp; with_reducible rfl)
      simp only [Act.put, List.setIfInBounds_toArray, List.set_cons_zero, List.set_cons_succ]
      refine take_in 24 (v := ?vax24) rfl (some 123) rfl (by kernel_rfl) (by kernel_rfl) (by kernel_rfl) (fun _ _ _ h => h) (Or.inl ⟨by rfl, ?hax24⟩) (by assumption) ?rax24
      case hax24 => (intro y hy; go_simp; with_reducible rfl)
      simp only [Act.put, List.setIfInBounds_toArray, List.set_cons_zero, List.set_cons_succ]
      refine take_in 25 (v := ?vax25) rfl (some 124) rfl (by kernel_rfl) (by kernel_rfl) (by kernel_rfl) (fun _ _ _ h => h) (Or.inl ⟨by rfl, ?hax25⟩) (by assumption) ?rax25
      case hax25 => (intro y hy; go_simp; with_reducible rfl)
      simp only [Act.put, List.setIfInBounds_toArray, List.set_cons_zero, List.set_cons_succ]
      refine take_in 26 (v := ?vax26) rfl (some 125) rfl (by kernel_rfl) (by kernel_rfl) (by kernel_rfl) (fun _ _ _ h => h) (Or.inl ⟨by rfl, ?hax26⟩) (by assumption) ?rax26
      case hax26 => (intro y hy; go_simp; with_reducible rfl)
      simp only [Act.put, List.setIfInBounds_toArray, List.set_cons_zero, List.set_cons_succ]
      refine wpAnyH_ready (rs := [2]) (by kernel_rfl) (by simp) ?_
      refine AllReadyH.cons rfl (fun K hK => ?_) AllReadyH.nil
      go_simp
      go_wp2_with (go_at_call 35; refine (turn_any x2 17 17 rfl (by omega) (by omega) _).mono ?_; rintro ev w6 ⟨rfl, rfl⟩)
      refine hK.out _ _ (by assumption) (fun _ => ?_)
      clear hK K
      refine wpAnyH_ready (rs := [4]) (by kernel_rfl) (by simp) ?_
      refine AllReadyH.cons rfl (fun K hK => ?_) AllReadyH.nil
      go_simp
      go_wp2_with (go_at_call 35; refine (turn_any x2 19 19 rfl (by omega) (by omega) _).mono ?_; rintro ev w6 ⟨rfl, rfl⟩)
      refine hK.out _ _ (by assumption) (fun _ => ?_)
      clear hK K
      refine take_in 5 (v := ?vax5) rfl (some 104) rfl (by kernel_rfl) (by kernel_rfl) (by kernel_rfl) (fun _ _ _ h => h) (Or.inl ⟨by rfl, ?hax5⟩) (by assumption) ?rax5
      case hax5 => (intro y hy; go_simp; with_reducible rfl)
      simp only [Act.put, List.setIfInBounds_toArray, List.set_cons_zero, List.set_cons_succ]
      refine take_in 8 (v := ?vax8) rfl (some 107) rfl (by kernel_rfl) (by kernel_rfl) (by kernel_rfl) (fun _ _ _ h => h) (Or.inl ⟨by rfl, ?hax8⟩) (by assumption) ?rax8
      case hax8 => (intro y hy; go_simp; with_reducible rfl)
      simp only [Act.put, List.setIfInBounds_toArray, List.set_cons_zero, List.set_cons_succ]
      refine take_in 13 (v := ?vax13) rfl (some 112) rfl (by kernel_rfl) (by kernel_rfl) (by kernel_rfl) (fun _ _ _ h => h) (Or.inl ⟨by rfl, ?hax13⟩) (by assumption) ?rax13
      case hax13 => (intro y hy; go_simp; with_reducible rfl)
      simp only [Act.put, List.setIfInBounds_toArray, List.set_cons_zero, List.set_cons_succ]
      refine wpAnyH_ready (rs := [15]) (by kernel_rfl) (by simp) ?_
      refine AllReadyH.cons rfl (fun K hK => ?_) AllReadyH.nil
      go_simp
      go_wp2_with (go_at_call 35; refine (turn_any x15 7 7 rfl (by omega) (by omega) _).mono ?_; rintro ev w6 ⟨rfl, rfl⟩)
      refine hK.out _ _ (by assumption) (fun _ => ?_)
      clear hK K
      refine wpAnyH_ready (rs := [17]) (by kernel_rfl) (by simp) ?_
      refine AllReadyH.cons rfl (fun K hK => ?_) AllReadyH.nil
      go_simp
      go_wp2_with (go_at_call 35; refine (turn_any x15 18 18 rfl (by omega) (by omega) _).mono ?_; rintro ev w6 ⟨rfl, rfl⟩)
      refine hK.out _ _ (by assumption) (fun _ => ?_)
      clear hK K
      refine take_in 18 (v := ?vax18) rfl (some 117) rfl (by kernel_rfl) (by kernel_rfl) (by kernel_rfl) (fun _ _ _ h => h) (Or.inl ⟨by rfl, ?hax18⟩) (by assumption) ?rax18
      case hax18 => (intro y hy; go_simp; with_reducible rfl)
      simp only [Act.put, List.setIfInBounds_toArray, List.set_cons_zero, List.set_cons_succ]
      refine take_in 21 (v := ?vax21) rfl (some 120) rfl (by kernel_rfl) (by kernel_rfl) (by kernel_rfl) (fun _ _ _ h => h) (Or.inl ⟨by rfl, ?hax21⟩) (by assumption) ?rax21
      case hax21 => (intro y hy; go_simp; with_reducible rfl)
      simp only [Act.put, List.setIfInBounds_toArray, List.set_cons_zero, List.set_cons_succ]
      refine take_in 22 (v := ?vax22) rfl (some 121) rfl (by kernel_rfl) (by kernel_rfl) (by kernel_rfl) (fun _ _ _ h => h) (Or.inl ⟨by rfl, ?hax22⟩) (by assumption) ?rax22
      case hax22 => (intro y hy; go_simp; with_reducible rfl)
      simp only [Act.put, List.setIfInBounds_toArray, List.set_cons_zero, List.set_cons_succ]
      refine take_in 27 (v := ?vax27) rfl (some 126) rfl (by kernel_rfl) (by kernel_rfl) (by kernel_rfl) (fun _ _ _ h => h) (Or.inl ⟨by rfl, ?hax27⟩) (by assumption) ?rax27
      case hax27 => (intro y hy; go_simp; with_reducible rfl)
      simp only [Act.put, List.setIfInBounds_toArray, List.set_cons_zero, List.set_cons_succ]
      refine take_in 28 (v := ?vax28) rfl (some 127) rfl (by kernel_rfl) (by kernel_rfl) (by kernel_rfl) (fun _ _ _ h => h) (Or.inl ⟨by rfl, ?hax28⟩) (by assumption) ?rax28
      case hax28 => (intro y hy; go_simp; with_reducible rfl)
      simp only [Act.put, List.setIfInBounds_toArray, List.set_cons_zero, List.set_cons_succ]
      refine wpAnyH_ready (rs := [29]) (by kernel_rfl) (by simp) ?_
      refine AllReadyH.cons rfl (fun K hK => ?_) AllReadyH.nil
      go_simp
      refine hK.out _ _ ⟨(K7.out _ _).trans hHeld.1, (K16.out _ _).trans hHeld.2⟩ (fun _ => ?_)
      clear hK K
      refine wpAnyH_done (by kernel_rfl) ?_ _
      go_wp2_with fail
      go_roundw
      case rel => exact ⟨k + 1, by omega, by rw [← hn]; go_num, (HN.out.1.drewN _).drew, HN.out.2.drewN.drew⟩
      case measure => simp [intOf]; omega
    · have hR4 : Row wr gw 65 (u32s (ext F 48)) := by
        obtain rfl : k = 48 := by omega
        rw [pad_full _ _ (by omega)] at hr
        exact hr
      have AO : Aside (Only gw w wr) := hO
      have AR : Aside (Row wr gw 65 (u32s (ext F 48))) := hR4
      clear hO hr hR4 hcell hEL
      have hk48 : (16 + k : Int) = 64 := by omega
      go_wp2_with fail
      exact HE.out _ _ _ _ _ _ _ _ _ _ _ _ _ _ _ _ _ _ _ _ _ _ _ _ _ _ _ _ _ _ _ _ _ _ _ _ _ _ _ _ _ _ _ _ _ AO.out AR.out
end Go.Proofs.Ytfkibbpekngciaa
