/-
  The texts Xbt, Xma, joined.
-/
import Derived.Test.YtfkibbpekngciaaQPrXcm
/- The document's own Sum: the number of bits. -/
namespace Go.Proofs.Ytfkibbpekngciaa
open Go.RowKit

/-- The number of bits, as eight bytes. -/
def tailB (n : Nat) : List UInt8 := four ((n / 4294967296 % 4294967296 : Nat) : Int) ++ four ((n % 4294967296 : Nat) : Int)
theorem tail_take (n j : Nat) (h : j < 8) : (tailB n).take (j + 1) = (tailB n).take j ++ [(tailB n).getD j 0] := by
  have hl : (tailB n).length = 8 := rfl
  rw [List.take_add_one]
  simp [List.getD, List.getElem?_eq_getElem (show j < (tailB n).length by omega)]
theorem eight8 {k : Nat} (h : k < 8) : k = 0 ∨ k = 1 ∨ k = 2 ∨ k = 3 ∨ k = 4 ∨ k = 5 ∨ k = 6 ∨ k = 7 := by omega
theorem ofNat_int (m : Nat) (h : m < 256) : ((UInt8.ofNat m).toNat : Int) = (m : Int) := by simp; omega
set_option maxRecDepth 20000 in
theorem tail_at (n j : Nat) (h : j < 8) (hn : n < 18446744073709551616) : (((tailB n).getD j 0).toNat : Int) = (n : Int) / ((2 ^ (56 - 8 * j) : Nat) : Int) % 256 := by
  have k0 : tailB n = [byt ((n / 4294967296 % 4294967296 : Nat) : Int) 16777216, byt ((n / 4294967296 % 4294967296 : Nat) : Int) 65536, byt ((n / 4294967296 % 4294967296 : Nat) : Int) 256, byt ((n / 4294967296 % 4294967296 : Nat) : Int) 1, byt ((n % 4294967296 : Nat) : Int) 16777216, byt ((n % 4294967296 : Nat) : Int) 65536, byt ((n % 4294967296 : Nat) : Int) 256, byt ((n % 4294967296 : Nat) : Int) 1] := rfl
  rw [k0]
  rcases eight8 h with rfl | rfl | rfl | rfl | rfl | rfl | rfl | rfl <;> simp only [List.getD_cons_zero, List.getD_cons_succ] <;> rw [byt_nat] <;> simp only [Nat.reduceMul, Nat.reduceSub, Nat.reducePow] <;> omega

attribute [local go_sem ↓] Go.wp_at_zero Go.wp_at_succ
set_option maxHeartbeats 8000000 in
set_option maxRecDepth 20000 in
theorem x_bits (K : Act → World → Prop) (B n : Nat) (P : List UInt8) (w : World) (c0 c1 c2 c3 c6 c7 c8 c9 c10 c11 c12 c13 c14 c15 c16 c17 c18 c19 c20 c21 c22 c23 c24 c25 c26 c27 c28 c29 c30 c31 c32 c33 c34 c35 c36 c37 c38 c39 c40 c41 c42 c43 c44 c45 c46 c47 c48 c49 c50 c51 c52 c53 c54 c55 c56 c57 c58 c59 c60 c61 c62 c63 c64 c65 c66 c67 c68 c69 c70 c71 c72 c73 c74 c75 c76 c77 c78 c79 c80 c81 c82 c83 c84 c85 c86 c87 c88 c89 c90 c91 c92 c93 c94 c95 c96 c97 c98 c99 c100 c101 c102 c103 c104 c105 c106 c107 c108 c109 c110 c111 c112 c113 c114 c115 c116 c117 c118 c119 c120 c121 c122 c123 c124 c125 c126 c127 c128 c129 c130 c131 c132 c133 c134 c135 c136 c137 c138 c139 c140 c141 c142 c143 c144 c145 c146 c147 c148 c149 c150 c151 c152 c153 c154 c155 c156 c157 c158 c159 c160 c161 c162 c163 c164 c165 c166 c167 c168 c169 c170 c171 c172 c173 c174 c175 c176 c177 c178 c179 c180 c181 c182 c183 c184 c185 c186 c187 c188 c189 c190 c191 c192 c193 c194 c195 c196 c197 c198 c199 c200 c201 c202 c203 c204 c205 c206 c207 c208 c209 c210 c211 c212 c213 c214 c215 c216 c217 c218 c219 c220 c221 c222 c223 c224 c225 c226 c227 c228 c229 c230 c231 c232 c233 c234 c235 c236 c237 c238 c239 c240 c241 : Value)
    (hl : P.length ≤ 10000000000) (hn : n < 18446744073709551616) (hown0 : w.ownsRow B 5 1 c3 P.length (bys P)) (hB0 : B ≤ w.heap.size)
    (hexit : ∀ (u3 u5 u41 u42 u43 u44 u45 u46 u47 u48 u49 u50 u51 u52 u53 : Value) (w' : World), w'.ownsRow B 5 1 u3 (P ++ tailB n).length (bys (P ++ tailB n)) → Below B w w' → K ⟨#[c0, c1, c2, u3, .int .u64 (n : Int), u5, c6, c7, c8, c9, c10, c11, c12, c13, c14, c15, c16, c17, c18, c19, c20, c21, c22, c23, c24, c25, c26, c27, c28, c29, c30, c31, c32, c33, c34, c35, c36, c37, c38, c39, c40, u41, u42, u43, u44, u45, u46, u47, u48, u49, u50, u51, u52, u53, c54, c55, c56, c57, c58, c59, c60, c61, c62, c63, c64, c65, c66, c67, c68, c69, c70, c71, c72, c73, c74, c75, c76, c77, c78, c79, c80, c81, c82, c83, c84, c85, c86, c87, c88, c89, c90, c91, c92, c93, c94, c95, c96, c97, c98, c99, c100, c101, c102, c103, c104, c105, c106, c107, c108, c109, c110, c111, c112, c113, c114, c115, c116, c117, c118, c119, c120, c121, c122, c123, c124, c125, c126, c127, c128, c129, c130, c131, c132, c133, c134, c135, c136, c137, c138, c139, c140, c141, c142, c143, c144, c145, c146, c147, c148, c149, c150, c151, c152, c153, c154, c155, c156, c157, c158, c159, c160, c161, c162, c163, c164, c165, c166, c167, c168, c169, c170, c171, c172, c173, c174, c175, c176, c177, c178, c179, c180, c181, c182, c183, c184, c185, c186, c187, c188, c189, c190, c191, c192, c193, c194, c195, c196, c197, c198, c199, c200, c201, c202, c203, c204, c205, c206, c207, c208, c209, c210, c211, c212, c213, c214, c215, c216, c217, c218, c219, c220, c221, c222, c223, c224, c225, c226, c227, c228, c229, c230, c231, c232, c233, c234, c235, c236, c237, c238, c239, c240, c241], []⟩ w') :
    Code.wp Try.prog (inner ((Try.f22.body.bind (blockAt 2)).getD .skip)) (Exit.inBlock 2 (Exit.then K (fun _ _ _ => False))) ⟨#[c0, c1, c2, c3, .int .u64 (n : Int), .int .i64 7, c6, c7, c8, c9, c10, c11, c12, c13, c14, c15, c16, c17, c18, c19, c20, c21, c22, c23, c24, c25, c26, c27, c28, c29, c30, c31, c32, c33, c34, c35, c36, c37, c38, c39, c40, c41, c42, c43, c44, c45, c46, c47, c48, c49, c50, c51, c52, c53, c54, c55, c56, c57, c58, c59, c60, c61, c62, c63, c64, c65, c66, c67, c68, c69, c70, c71, c72, c73, c74, c75, c76, c77, c78, c79, c80, c81, c82, c83, c84, c85, c86, c87, c88, c89, c90, c91, c92, c93, c94, c95, c96, c97, c98, c99, c100, c101, c102, c103, c104, c105, c106, c107, c108, c109, c110, c111, c112, c113, c114, c115, c116, c117, c118, c119, c120, c121, c122, c123, c124, c125, c126, c127, c128, c129, c130, c131, c132, c133, c134, c135, c136, c137, c138, c139, c140, c141, c142, c143, c144, c145, c146, c147, c148, c149, c150, c151, c152, c153, c154, c155, c156, c157, c158, c159, c160, c161, c162, c163, c164, c165, c166, c167, c168, c169, c170, c171, c172, c173, c174, c175, c176, c177, c178, c179, c180, c181, c182, c183, c184, c185, c186, c187, c188, c189, c190, c191, c192, c193, c194, c195, c196, c197, c198, c199, c200, c201, c202, c203, c204, c205, c206, c207, c208, c209, c210, c211, c212, c213, c214, c215, c216, c217, c218, c219, c220, c221, c222, c223, c224, c225, c226, c227, c228, c229, c230, c231, c232, c233, c234, c235, c236, c237, c238, c239, c240, c241], []⟩ w := by
  conv => arg 2; whnf
  have HE : Hid _ := hexit
  have HO : Hid (w.ownsRow B 5 1 c3 (P ++ (tailB n).take 0).length (bys (P ++ (tailB n).take 0))) := by show World.ownsRow _ _ _ _ _ _ _; simpa using hown0
  clear hexit hown0
  dsimp only
  go_loopw [3, 5] (fun v i wr => ∃ j : Nat, j ≤ 8 ∧ i = .int .i64 (7 - (j : Int)) ∧ wr.ownsRow B 5 1 v (P ++ (tailB n).take j).length (bys (P ++ (tailB n).take j)) ∧ Below B w wr) (fun _ i _ => (intOf i + 1).toNat)
  case atStart => exact ⟨0, by omega, rfl, HO.out, Below.refl _ _⟩
  case round =>
    obtain ⟨j, hj, rfl, hown, hb⟩ := hrel
    clear HO
    obtain ⟨ao2, cp2, rfl⟩ := own_shape hown
    have hBw : B ≤ wr.heap.size := Nat.le_trans hB0 hb.size
    have hlt : ((tailB n).take j).length ≤ 8 := by have : (tailB n).length = 8 := rfl; simp; omega
    have hll : (P ++ (tailB n).take j).length + 1 ≤ 100000000000000 := by simp at hlt ⊢; omega
    by_cases hj3 : j < 8
    · have hx := tail_at n j hj3 hn
      have HT : Hid (P ++ (tailB n).take j ++ [(tailB n).getD j 0] = P ++ (tailB n).take (j + 1)) := by show _ = _; rw [tail_take n j hj3, List.append_assoc]
      generalize (tailB n).getD j 0 = tb at *
      have hown1 : (wr.alloc (.cells #[.int .u8 (tb.toNat : Int)] 5)).ownsRow B 5 1 (.slice ao2 (P ++ (tailB n).take j).length cp2) (P ++ (tailB n).take j).length (bys (P ++ (tailB n).take j)) := own_past hown ((Below.refl _ _).alloc (Nat.le_refl _) _)
      have HB1 : Hid (Below B w (wr.alloc (.cells #[.int .u8 (tb.toNat : Int)] 5))) := hb.alloc hBw _
      have hB1 : B ≤ (wr.alloc (.cells #[.int .u8 (tb.toNat : Int)] 5)).heap.size := by simp; omega
      have hN1 := new_bytes wr tb
      have HJ : Hid (∀ v3 w3, w3.ownsRow B 5 1 v3 (P ++ (tailB n).take (j + 1)).length (bys (P ++ (tailB n).take (j + 1))) → Below B w w3 → ∃ m : Nat, m ≤ 8 ∧ Value.int .i64 (7 - (j : Int) - 1) = .int .i64 (7 - (m : Int)) ∧ w3.ownsRow B 5 1 v3 (P ++ (tailB n).take m).length (bys (P ++ (tailB n).take m)) ∧ Below B w w3) := fun v3 w3 h1 h2 => ⟨j + 1, by omega, by congr 1; omega, h1, h2⟩
      clear hown hb HE hlt
      generalize P ++ (tailB n).take (j + 1) = F2 at *
      generalize P ++ (tailB n).take j = F at *
      rcases eight8 hj3 with rfl | rfl | rfl | rfl | rfl | rfl | rfl | rfl
      · have hx2 : (n : Int) / 72057594037927936 % 256 = (tb.toNat : Int) := hx.symm
        have hx3 : IntKind.u8.wrap ((n : Int) / 72057594037927936) = (tb.toNat : Int) := by rw [← hx2]; simp [IntKind.wrap, IntKind.bits, IntKind.signed]
        clear hx
        go_wp2_with (at_builtin; refine app_at (nw := [tb]) rfl _ _ rfl rfl hown1 hB1 wr.heap.size 1 rfl hN1 hll ?_; intro v3 w3 hown3 hb3 _)
        rw [HT.out] at hown3
        go_roundw
        case rel => exact HJ.out _ _ hown3 (HB1.out.trans hb3)
        case measure => simp [intOf]
      · have hx2 : (n : Int) / 281474976710656 % 256 = (tb.toNat : Int) := hx.symm
        have hx3 : IntKind.u8.wrap ((n : Int) / 281474976710656) = (tb.toNat : Int) := by rw [← hx2]; simp [IntKind.wrap, IntKind.bits, IntKind.signed]
        clear hx
        go_wp2_with (at_builtin; refine app_at (nw := [tb]) rfl _ _ rfl rfl hown1 hB1 wr.heap.size 1 rfl hN1 hll ?_; intro v3 w3 hown3 hb3 _)
        rw [HT.out] at hown3
        go_roundw
        case rel => exact HJ.out _ _ hown3 (HB1.out.trans hb3)
        case measure => simp [intOf]
      · have hx2 : (n : Int) / 1099511627776 % 256 = (tb.toNat : Int) := hx.symm
        have hx3 : IntKind.u8.wrap ((n : Int) / 1099511627776) = (tb.toNat : Int) := by rw [← hx2]; simp [IntKind.wrap, IntKind.bits, IntKind.signed]
        clear hx
        go_wp2_with (at_builtin; refine app_at (nw := [tb]) rfl _ _ rfl rfl hown1 hB1 wr.heap.size 1 rfl hN1 hll ?_; intro v3 w3 hown3 hb3 _)
        rw [HT.out] at hown3
        go_roundw
        case rel => exact HJ.out _ _ hown3 (HB1.out.trans hb3)
        case measure => simp [intOf]
      · have hx2 : (n : Int) / 4294967296 % 256 = (tb.toNat : Int) := hx.symm
        have hx3 : IntKind.u8.wrap ((n : Int) / 4294967296) = (tb.toNat : Int) := by rw [← hx2]; simp [IntKind.wrap, IntKind.bits, IntKind.signed]
        clear hx
        go_wp2_with (at_builtin; refine app_at (nw := [tb]) rfl _ _ rfl rfl hown1 hB1 wr.heap.size 1 rfl hN1 hll ?_; intro v3 w3 hown3 hb3 _)
        rw [HT.out] at hown3
        go_roundw
        case rel => exact HJ.out _ _ hown3 (HB1.out.trans hb3)
        case measure => simp [intOf]
      · have hx2 : (n : Int) / 16777216 % 256 = (tb.toNat : Int) := hx.symm
        have hx3 : IntKind.u8.wrap ((n : Int) / 16777216) = (tb.toNat : Int) := by rw [← hx2]; simp [IntKind.wrap, IntKind.bits, IntKind.signed]
        clear hx
        go_wp2_with (at_builtin; refine app_at (nw := [tb]) rfl _ _ rfl rfl hown1 hB1 wr.heap.size 1 rfl hN1 hll ?_; intro v3 w3 hown3 hb3 _)
        rw [HT.out] at hown3
        go_roundw
        case rel => exact HJ.out _ _ hown3 (HB1.out.trans hb3)
        case measure => simp [intOf]
      · have hx2 : (n : Int) / 65536 % 256 = (tb.toNat : Int) := hx.symm
        have hx3 : IntKind.u8.wrap ((n : Int) / 65536) = (tb.toNat : Int) := by rw [← hx2]; simp [IntKind.wrap, IntKind.bits, IntKind.signed]
        clear hx
        go_wp2_with (at_builtin; refine app_at (nw := [tb]) rfl _ _ rfl rfl hown1 hB1 wr.heap.size 1 rfl hN1 hll ?_; intro v3 w3 hown3 hb3 _)
        rw [HT.out] at hown3
        go_roundw
        case rel => exact HJ.out _ _ hown3 (HB1.out.trans hb3)
        case measure => simp [intOf]
      · have hx2 : (n : Int) / 256 % 256 = (tb.toNat : Int) := hx.symm
        have hx3 : IntKind.u8.wrap ((n : Int) / 256) = (tb.toNat : Int) := by rw [← hx2]; simp [IntKind.wrap, IntKind.bits, IntKind.signed]
        clear hx
        go_wp2_with (at_builtin; refine app_at (nw := [tb]) rfl _ _ rfl rfl hown1 hB1 wr.heap.size 1 rfl hN1 hll ?_; intro v3 w3 hown3 hb3 _)
        rw [HT.out] at hown3
        go_roundw
        case rel => exact HJ.out _ _ hown3 (HB1.out.trans hb3)
        case measure => simp [intOf]
      · have hx2 : (n : Int) % 256 = (tb.toNat : Int) := by rw [hx]; simp
        have hx3 : IntKind.u8.wrap ((n : Int)) = (tb.toNat : Int) := by rw [← hx2]; simp [IntKind.wrap, IntKind.bits, IntKind.signed]
        clear hx
        go_wp2_with (at_builtin; refine app_at (nw := [tb]) rfl _ _ rfl rfl hown1 hB1 wr.heap.size 1 rfl hN1 hll ?_; intro v3 w3 hown3 hb3 _)
        rw [HT.out] at hown3
        go_roundw
        case rel => exact HJ.out _ _ hown3 (HB1.out.trans hb3)
        case measure => simp [intOf]
    · obtain rfl : j = 8 := by omega
      have ht : (tailB n).take 8 = tailB n := rfl
      rw [ht] at hown
      have AO : Aside _ := hown
      have AB : Aside (Below B w wr) := hb
      clear hown hb hlt hll
      rw [ht]
      generalize P ++ tailB n = F at *
      go_wp2_with fail
      exact HE.out _ _ _ _ _ _ _ _ _ _ _ _ _ _ _ _ AO.out AB.out
end Go.Proofs.Ytfkibbpekngciaa

/- The document's own Sum and the program's: the same blocks, however they are cut. -/
namespace Go.Proofs.Ytfkibbpekngciaa
open Go.RowKit

theorem heads_same (X Y : List UInt8) (h : ∀ i, i < 64 → X.getD i 0 = Y.getD i 0) : ∀ t, t ≤ 16 → heads X t = heads Y t
  | 0, _ => rfl
  | t + 1, ht => by
    have ih := heads_same X Y h t (by omega)
    show heads X t ++ [wdAt X t] = heads Y t ++ [wdAt Y t]
    rw [ih, wdAt, wdAt, h (4 * t) (by omega), h (4 * t + 1) (by omega), h (4 * t + 2) (by omega), h (4 * t + 3) (by omega)]
theorem sched_same (X Y : List UInt8) (h : ∀ i, i < 64 → X.getD i 0 = Y.getD i 0) : sched X = sched Y := by
  unfold sched
  rw [heads_same X Y h 16 (Nat.le_refl _)]
theorem drop_getD (L : List UInt8) (n i : Nat) : (L.drop n).getD i 0 = L.getD (n + i) 0 := by simp [List.getD]
theorem mixes_left (s : St) (A B : List UInt8) (q : Nat) (hA : A.length = 64 * q) : ∀ n, n ≤ q → mixes s (A ++ B) n = mixes s A n
  | 0, _ => rfl
  | n + 1, h => by
    have ih := mixes_left s A B q hA n (by omega)
    show mixed (mixes s (A ++ B) n) (sched ((A ++ B).drop (64 * n))) = mixed (mixes s A n) (sched (A.drop (64 * n)))
    rw [ih, sched_same ((A ++ B).drop (64 * n)) (A.drop (64 * n)) (fun i hi => ?_)]
    rw [drop_getD, drop_getD]
    simp only [List.getD]
    rw [List.getElem?_append_left (by omega)]
theorem mixes_right (s : St) (A B : List UInt8) (q : Nat) (hA : A.length = 64 * q) : ∀ m, mixes s (A ++ B) (q + m) = mixes (mixes s A q) B m
  | 0 => mixes_left s A B q hA q (Nat.le_refl _)
  | m + 1 => by
    have ih := mixes_right s A B q hA m
    show mixed (mixes s (A ++ B) (q + m)) (sched ((A ++ B).drop (64 * (q + m)))) = mixed (mixes (mixes s A q) B m) (sched (B.drop (64 * m)))
    have e : (A ++ B).drop (64 * (q + m)) = B.drop (64 * m) := by
      rw [List.drop_append, List.drop_eq_nil_of_le (by omega), List.nil_append]
      congr 1
      omega
    rw [ih, e]
/-- The bytes, filled up, whole. -/
def whole (l : List UInt8) : List UInt8 := fill l (noughts l.length) ++ tailB (8 * l.length)
theorem whole_len (l : List UInt8) : (whole l).length = 64 * ((whole l).length / 64) := by
  have h := noughts_end l.length
  have e : (whole l).length = l.length + 1 + noughts l.length + 8 := by
    unfold whole
    rw [List.length_append, fill_len]; rfl
  omega
theorem whole_cut (l : List UInt8) : whole l = l.take (64 * (l.length / 64)) ++ ended (l.drop (64 * (l.length / 64))) (8 * l.length) := by
  have hn : noughts (l.drop (64 * (l.length / 64))).length = noughts l.length := by
    unfold noughts
    simp only [List.length_drop]
    omega
  unfold whole ended fill tailB
  rw [hn]
  simp only [← List.append_assoc]
  rw [List.take_append_drop]
theorem sum_whole (l : List UInt8) : sumSt l = mixes first8 (whole l) ((whole l).length / 64) := by
  have hc := whole_cut l
  have hA : (l.take (64 * (l.length / 64))).length = 64 * (l.length / 64) := by simp; omega
  have hw := whole_len l
  have hE : (ended (l.drop (64 * (l.length / 64))) (8 * l.length)).length + 64 * (l.length / 64) = (whole l).length := by rw [hc, List.length_append, hA]; omega
  have hm : (whole l).length / 64 = l.length / 64 + (ended (l.drop (64 * (l.length / 64))) (8 * l.length)).length / 64 := by omega
  rw [hm, hc, mixes_right first8 _ _ _ hA]
  rfl
end Go.Proofs.Ytfkibbpekngciaa
