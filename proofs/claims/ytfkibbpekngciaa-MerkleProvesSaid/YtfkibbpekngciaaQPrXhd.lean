/-
  The document's own Sum: the first sixteen words of a block.
-/
import Derived.Test.YtfkibbpekngciaaQPrXj
namespace Go.Proofs.Ytfkibbpekngciaa
open Go.RowKit

theorem or_join (X y i : Nat) (hX : X % 2 ^ i = 0) (hy : y < 2 ^ i) (h1 : X < 4294967296) (h2 : y < 4294967296) : bits .or .u32 (X : Int) (y : Int) = ((X + y : Nat) : Int) := by
  rw [u32_or_nat X y h1 h2, nat_join i X y hX hy]
set_option maxRecDepth 20000 in
theorem wd_nat (a b c d : UInt8) : wd a b c d = ((a.toNat * 16777216 + b.toNat * 65536 + c.toNat * 256 + d.toNat : Nat) : Int) := by
  have ha := a.toNat_lt
  have hb := b.toNat_lt
  have hc := c.toNat_lt
  have hd := d.toNat_lt
  have e1 : (a.toNat : Int) * 16777216 % 4294967296 = ((a.toNat * 16777216 : Nat) : Int) := by omega
  have e2 : (b.toNat : Int) * 65536 % 4294967296 = ((b.toNat * 65536 : Nat) : Int) := by omega
  have e3 : (c.toNat : Int) * 256 % 4294967296 = ((c.toNat * 256 : Nat) : Int) := by omega
  unfold wd
  rw [e1, e2, e3, or_join _ _ 24 (by omega) (by omega) (by omega) (by omega), or_join _ _ 16 (by omega) (by omega) (by omega) (by omega), or_join _ _ 8 (by omega) (by omega) (by omega) (by omega)]
set_option maxRecDepth 20000 in
theorem pk_wd (L : List UInt8) (o : Nat) : pk L o 4 = wd (L.getD o 0) (L.getD (o + 1) 0) (L.getD (o + 2) 0) (L.getD (o + 3) 0) := by
  rw [wd_nat]
  have ha := (L.getD o 0).toNat_lt
  have hb := (L.getD (o + 1) 0).toNat_lt
  have hc := (L.getD (o + 2) 0).toNat_lt
  have hd := (L.getD (o + 3) 0).toNat_lt
  unfold pk pk pk pk pk
  rw [Nat.add_zero]
  generalize (L.getD o 0).toNat = a at *
  generalize (L.getD (o + 1) 0).toNat = b at *
  generalize (L.getD (o + 2) 0).toNat = c at *
  generalize (L.getD (o + 3) 0).toNat = d at *
  have z : (0 : Int) * 256 % 4294967296 = ((0 : Nat) : Int) := by omega
  rw [z, or_join 0 a 8 (by omega) (by omega) (by omega) (by omega), Nat.zero_add]
  have e1 : (a : Int) * 256 % 4294967296 = ((a * 256 : Nat) : Int) := by omega
  rw [e1, or_join _ b 8 (by omega) (by omega) (by omega) (by omega)]
  have e2 : ((a * 256 + b : Nat) : Int) * 256 % 4294967296 = (((a * 256 + b) * 256 : Nat) : Int) := by omega
  rw [e2, or_join _ c 8 (by omega) (by omega) (by omega) (by omega)]
  have e3 : (((a * 256 + b) * 256 + c : Nat) : Int) * 256 % 4294967296 = ((((a * 256 + b) * 256 + c) * 256 : Nat) : Int) := by omega
  rw [e3, or_join _ d 8 (by omega) (by omega) (by omega) (by omega)]
  congr 1
  omega
theorem getD_drop (L : List UInt8) (n i : Nat) : (L.drop n).getD i 0 = L.getD (n + i) 0 := by simp [List.getD]
theorem pk_at (L : List UInt8) (at_ t : Nat) : pk L (at_ + 4 * t) 4 = wdAt (L.drop at_) t := by
  rw [pk_wd, wdAt, getD_drop, getD_drop, getD_drop, getD_drop, Nat.add_assoc, Nat.add_assoc, Nat.add_assoc]
theorem pad_zero (n : Nat) (L : List Int) (h : L.length < n) : (pad n L).set L.length 0 = pad n L := by
  rw [pad_set n L 0 h]
  unfold pad
  obtain ⟨m, hm⟩ : ∃ m, n - L.length = m + 1 := ⟨n - L.length - 1, by omega⟩
  rw [hm, List.replicate_succ, List.append_assoc, List.singleton_append]
  congr 3
  simp; omega

set_option maxHeartbeats 8000000 in
set_option maxRecDepth 20000 in
theorem x_heads (K : Act → World → Prop) (b len cap at_ gw : Nat) (L : List UInt8) (w : World) (c0 c1 c2 c4 c5 c6 c7 c11 c12 c13 c14 c15 c16 c17 c18 c19 c20 c21 c22 c23 c24 c25 c26 c27 c28 c29 c30 c31 c32 c33 c34 c35 c36 c37 c38 c39 c40 c41 c42 c43 c44 c45 c46 c47 c48 c49 c50 c51 c52 c53 c54 c55 c56 c57 c58 c59 c60 c61 c62 c63 c64 c65 c66 c67 c68 c69 c70 c71 c72 c73 c74 c75 c76 c77 c78 c79 c80 c81 c82 c83 c84 c85 c86 c87 c88 c89 c90 c91 c92 c93 c94 c95 c96 c97 c98 c99 c100 c101 c102 c103 c104 c105 c106 c107 c108 c109 c110 c111 c112 c113 c114 c115 c116 c117 c118 c119 c120 c121 c122 c123 c124 c125 c126 c127 c128 c129 c130 c131 c132 c133 c134 c135 c136 c137 c138 c139 c140 c141 c142 c143 c144 c145 c146 c147 c148 c149 c150 c151 c152 c153 c154 c155 c156 c157 c158 c159 c160 c161 c162 c163 c164 c165 c166 c167 c168 c169 c170 c171 c172 c173 c174 c175 c176 c177 c178 c179 c180 c181 c182 c183 c184 c185 c186 c187 c188 c189 c190 c191 c192 c193 c194 c195 c196 c197 c198 c199 c200 c201 c202 c203 c204 c205 c206 c207 c208 c209 c210 c211 c212 c213 c214 c215 c216 c217 c218 c219 c220 c221 c222 c223 c224 c225 c226 c227 c228 c229 c230 c231 c232 c233 c234 c235 c236 c237 c238 c239 c240 c241 : Value)
    (hL : L.length = len) (hlen : at_ + 64 ≤ len) (hmax : len ≤ 10000000) (hne : b ≠ gw)
    (hc : ∀ i, i < len → w.cell? ⟨b, i, none⟩ = some (.int .u8 ((L.getD i 0).toNat : Int))) (hrow : Row w gw 65 (u32s (pad 64 [])))
    (hexit : ∀ (u10 u11 u62 u63 u64 u65 u66 u67 u68 u69 u70 u71 u72 u73 u74 u75 u76 u77 u78 u79 u80 u81 u82 u83 u84 u85 u86 : Value) (w' : World), Only gw w w' → Row w' gw 65 (u32s (pad 64 (heads (L.drop at_) 16))) → K ⟨#[c0, c1, c2, .slice (some ⟨b, 0, none⟩) len cap, c4, c5, c6, c7, .int .i64 (at_ : Int), .pointer (some ⟨gw, 0, none⟩), u10, u11, c12, c13, c14, c15, c16, c17, c18, c19, c20, c21, c22, c23, c24, c25, c26, c27, c28, c29, c30, c31, c32, c33, c34, c35, c36, c37, c38, c39, c40, c41, c42, c43, c44, c45, c46, c47, c48, c49, c50, c51, c52, c53, c54, c55, c56, c57, c58, c59, c60, c61, u62, u63, u64, u65, u66, u67, u68, u69, u70, u71, u72, u73, u74, u75, u76, u77, u78, u79, u80, u81, u82, u83, u84, u85, u86, c87, c88, c89, c90, c91, c92, c93, c94, c95, c96, c97, c98, c99, c100, c101, c102, c103, c104, c105, c106, c107, c108, c109, c110, c111, c112, c113, c114, c115, c116, c117, c118, c119, c120, c121, c122, c123, c124, c125, c126, c127, c128, c129, c130, c131, c132, c133, c134, c135, c136, c137, c138, c139, c140, c141, c142, c143, c144, c145, c146, c147, c148, c149, c150, c151, c152, c153, c154, c155, c156, c157, c158, c159, c160, c161, c162, c163, c164, c165, c166, c167, c168, c169, c170, c171, c172, c173, c174, c175, c176, c177, c178, c179, c180, c181, c182, c183, c184, c185, c186, c187, c188, c189, c190, c191, c192, c193, c194, c195, c196, c197, c198, c199, c200, c201, c202, c203, c204, c205, c206, c207, c208, c209, c210, c211, c212, c213, c214, c215, c216, c217, c218, c219, c220, c221, c222, c223, c224, c225, c226, c227, c228, c229, c230, c231, c232, c233, c234, c235, c236, c237, c238, c239, c240, c241], []⟩ w') :
    Code.wp Try.prog (inner ((Try.f22.body.bind (blockAt 6)).getD .skip)) (Exit.inBlock 6 (Exit.then K (fun _ _ _ => False))) ⟨#[c0, c1, c2, .slice (some ⟨b, 0, none⟩) len cap, c4, c5, c6, c7, .int .i64 (at_ : Int), .pointer (some ⟨gw, 0, none⟩), .int .i64 0, c11, c12, c13, c14, c15, c16, c17, c18, c19, c20, c21, c22, c23, c24, c25, c26, c27, c28, c29, c30, c31, c32, c33, c34, c35, c36, c37, c38, c39, c40, c41, c42, c43, c44, c45, c46, c47, c48, c49, c50, c51, c52, c53, c54, c55, c56, c57, c58, c59, c60, c61, c62, c63, c64, c65, c66, c67, c68, c69, c70, c71, c72, c73, c74, c75, c76, c77, c78, c79, c80, c81, c82, c83, c84, c85, c86, c87, c88, c89, c90, c91, c92, c93, c94, c95, c96, c97, c98, c99, c100, c101, c102, c103, c104, c105, c106, c107, c108, c109, c110, c111, c112, c113, c114, c115, c116, c117, c118, c119, c120, c121, c122, c123, c124, c125, c126, c127, c128, c129, c130, c131, c132, c133, c134, c135, c136, c137, c138, c139, c140, c141, c142, c143, c144, c145, c146, c147, c148, c149, c150, c151, c152, c153, c154, c155, c156, c157, c158, c159, c160, c161, c162, c163, c164, c165, c166, c167, c168, c169, c170, c171, c172, c173, c174, c175, c176, c177, c178, c179, c180, c181, c182, c183, c184, c185, c186, c187, c188, c189, c190, c191, c192, c193, c194, c195, c196, c197, c198, c199, c200, c201, c202, c203, c204, c205, c206, c207, c208, c209, c210, c211, c212, c213, c214, c215, c216, c217, c218, c219, c220, c221, c222, c223, c224, c225, c226, c227, c228, c229, c230, c231, c232, c233, c234, c235, c236, c237, c238, c239, c240, c241], []⟩ w := by
  conv => arg 2; whnf
  have HC : Hid (∀ i, i < len → w.cell? ⟨b, i, none⟩ = some (.int .u8 ((L.getD i 0).toNat : Int))) := hc
  have HE : Hid _ := hexit
  have HI : Hid (Row w gw 65 (u32s (pad 64 (heads (L.drop at_) 0)))) := hrow
  clear hc hexit hrow
  dsimp only
  go_loopw [10] (fun i wr => ∃ t : Nat, t ≤ 16 ∧ i = .int .i64 t ∧ Only gw w wr ∧ Row wr gw 65 (u32s (pad 64 (heads (L.drop at_) t)))) (fun i _ => 16 - (intOf i).toNat)
  case atStart => exact ⟨0, by omega, rfl, Only.refl _ _, HI.out⟩
  case round =>
    obtain ⟨t, ht, rfl, hO, hr⟩ := hrel
    clear HI
    by_cases ht3 : t < 16
    · have hz := pad_zero 64 (heads (L.drop at_) t) (by rw [heads_len]; omega)
      have hs := pad_set 64 (heads (L.drop at_) t) (pk L (at_ + 4 * t) 4) (by rw [heads_len]; omega)
      rw [heads_len] at hz hs
      have hn : heads (L.drop at_) t ++ [pk L (at_ + 4 * t) 4] = heads (L.drop at_) (t + 1) := by rw [pk_at]; rfl
      rw [hn] at hs
      have HJ : Hid (∀ y, (Only gw wr y ∧ Row y gw 65 (u32s ((pad 64 (heads (L.drop at_) t)).set t (pk L (at_ + 4 * t) 4)))) → ∃ m : Nat, m ≤ 16 ∧ Value.int .i64 ((t : Int) + 1) = .int .i64 m ∧ Only gw w y ∧ Row y gw 65 (u32s (pad 64 (heads (L.drop at_) m)))) := fun y hy => ⟨t + 1, by omega, by go_num, hO.trans hy.1, by rw [← hs]; exact hy.2⟩
      have hcw : ∀ i, i < len → wr.cell? ⟨b, i, none⟩ = some (.int .u8 ((L.getD i 0).toNat : Int)) := fun i hi => (hO.cell hne).trans (HC.out i hi)
      have HL : Hid ((pad 64 (heads (L.drop at_) t)).length = 64) := pad_len 64 _ (by rw [heads_len]; omega)
      have AC : Aside (∀ i, i < len → wr.cell? ⟨b, i, none⟩ = some (.int .u8 ((L.getD i 0).toNat : Int))) := hcw
      have AR : Aside (Row wr gw 65 (u32s (pad 64 (heads (L.drop at_) t)))) := hr
      have AZ : Aside ((pad 64 (heads (L.drop at_) t)).set t 0 = pad 64 (heads (L.drop at_) t)) := hz
      clear hz hs hn hO hr hcw HC HE
      go_wp2_with fail
      refine Code.wp_mono (in_mono (fun _ _ h => h)) (x_j _ b len cap at_ t gw L (pad 64 (heads (L.drop at_) t)) wr _ _ _ _ _ _ _ _ _ _ _ _ _ _ _ _ _ _ _ _ _ _ _ _ _ _ _ _ _ _ _ _ _ _ _ _ _ _ _ _ _ _ _ _ _ _ _ _ _ _ _ _ _ _ _ _ _ _ _ _ _ _ _ _ _ _ _ _ _ _ _ _ _ _ _ _ _ _ _ _ _ _ _ _ _ _ _ _ _ _ _ _ _ _ _ _ _ _ _ _ _ _ _ _ _ _ _ _ _ _ _ _ _ _ _ _ _ _ _ _ _ _ _ _ _ _ _ _ _ _ _ _ _ _ _ _ _ _ _ _ _ _ _ _ _ _ _ _ _ _ _ _ _ _ _ _ _ _ _ _ _ _ _ _ _ _ _ _ _ _ _ _ _ _ _ _ _ _ _ _ _ _ _ _ _ _ _ _ _ _ _ _ _ _ _ _ _ _ _ _ _ _ _ _ _ _ _ _ _ _ _ _ _ _ _ _ _ _ _ _ _ _ _ _ _ _ _ _ _ _ _ _ _ _ _ _ _ hL ht3 hlen hmax HL.out AZ.out hne AC.out AR.out ?_)
      intro u11 u66 u67 u68 u69 u70 u71 u72 u73 u74 u75 u76 u77 u78 u79 u80 u81 u82 u83 u84 u85 u86 w8 hO8 hR8
      have HZ : Hid _ := HJ.out w8 ⟨hO8, hR8⟩
      clear hO8 hR8 HJ AC AR AZ HL
      go_wp2_with fail
      go_roundw
      case rel => exact HZ.out
      case measure => simp [intOf]; omega
    · have hR4 : Row wr gw 65 (u32s (pad 64 (heads (L.drop at_) 16))) := by
        obtain rfl : t = 16 := by omega
        exact hr
      have AO : Aside (Only gw w wr) := hO
      have AR : Aside (Row wr gw 65 (u32s (pad 64 (heads (L.drop at_) 16)))) := hR4
      clear hO hr hR4 HC
      go_wp2_with fail
      exact HE.out _ _ _ _ _ _ _ _ _ _ _ _ _ _ _ _ _ _ _ _ _ _ _ _ _ _ _ _ AO.out AR.out
end Go.Proofs.Ytfkibbpekngciaa
