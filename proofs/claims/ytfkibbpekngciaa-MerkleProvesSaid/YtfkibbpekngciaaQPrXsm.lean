/-
  The document's own Sum.
-/
import Derived.Test.YtfkibbpekngciaaQPrXbl
import Derived.Test.YtfkibbpekngciaaJoinXpd2xPr
import Derived.Test.YtfkibbpekngciaaJoinXbt2xPr
namespace Go.Proofs.Ytfkibbpekngciaa
open Go.RowKit

set_option maxHeartbeats 4000000 in
set_option maxRecDepth 20000 in
theorem words_any (w : World) : Calls Try.prog 34 #[] w fun ev w' => ev = .returned (.agg (u32s kay).toArray) ∧ Below w.heap.size w w' := by
  have eK : (List.map (Value.int IntKind.u32) kay).toArray = (u32s kay).toArray := rfl
  have hiK : (Try.prog.info? 65).map (·.size) = some (u32s kay).toArray.size := by kernel_rfl
  have hK64 : (u32s kay).toArray.size = 64 := rfl
  have honeK := all_one (u32s_one kay)
  generalize (u32s kay).toArray = KK at *
  go_enter Try.func34, Try.ntmps34
  go_wp2_with (first | (refine wpList_buildFlatArr rfl 65 63 64 _ rfl .u32 kay Try.underlying65 (by kernel_rfl) (by kernel_rfl) rfl ?_; rw [eK]) | (refine store_box rfl 65 _ _ rfl w.heap.size KK rfl rfl 65 _ (heap_alloc_new w _) hiK (by rw [hK64]; rfl) honeK w ((Below.refl _ w).alloc (Nat.le_refl _) _) ?_; intro w4 G4 hb4))
  refine bodyPost_ret (v := .agg KK) (results_cell_row Try.results34 _ _ w.heap.size 65 KK (0, 0) _ rfl G4 Try.underlying65 rfl hiK) rfl ⟨rfl, hb4⟩

theorem wl_world {P : Program} {ops : Array Oper} {Q : Exit → Act → World → Prop} {r : List Oper} {a : Act} {w w' : World} (e : w = w') (h : wpList P ops Q r a w) : wpList P ops Q r a w' := e ▸ h

theorem append_to {ops : Array Oper} {rest : List Oper} {o : Oper} {a : Act} {Q : Exit → Act → World → Prop} {w w0 : World} {vb : Value} {l : List UInt8} (e : w.alloc (.cells #[] 5) = w0) (N : Nat) (hN : w.heap.size = N) (hgd : o.guard = none) (s x : Operand)
    (ho : o.op = .call { callee := .builtin .append, args := #[s, x], argTypes := #[39, 39] }) (hs : a.eval s = .slice (some ⟨N, 0, none⟩) 0 0) (hx : a.eval x = vb) (hBy : Sl w vb l) (hl : l.length ≤ 1000000000000)
    (h : ∀ g cap w', w'.ownsRow N 5 1 (.slice (some ⟨g, 0, none⟩) l.length cap) l.length (bys l) → Below N w w' → wpList Try.prog ops Q rest (a.put o.dst (.slice (some ⟨g, 0, none⟩) l.length cap)) w') :
    wpList Try.prog ops Q (o :: rest) a w0 := by
  subst e hN
  exact append_by hgd s x ho hs hx hBy hl h

attribute [local go_sem ↓] Go.wp_at_zero Go.wp_at_succ
set_option maxHeartbeats 8000000 in
set_option maxRecDepth 20000 in
theorem xsum_any (w : World) (v : Value) (l : List UInt8) (h : Sl w v l) (hl : l.length ≤ 100000) :
    Calls Try.prog 22 #[v] w fun ev w' => ev = .returned (.agg (bys (sumF l)).toArray) ∧ Below w.heap.size w w' := by
  obtain ⟨ao, cp, hv⟩ : ∃ ao cp, v = .slice ao l.length cp := by
    rcases h.shape with ⟨_, rfl, rfl⟩ | ⟨b, o, cap, rfl, _⟩
    · exact ⟨_, _, rfl⟩
    · exact ⟨_, _, rfl⟩
  obtain ⟨W, hW⟩ : ∃ W, W = w.alloc (.cells z25.toArray 26) := ⟨_, rfl⟩
  have AW : Aside (W.alloc (.cells #[] 5) = (w.alloc (.cells z25.toArray 26)).alloc (.cells #[] 5)) := by show _ = _; rw [hW]
  have hWs : W.heap.size = w.heap.size + 1 := by rw [hW]; simp
  have HB : Hid (Below w.heap.size w W) := by rw [hW]; exact (Below.refl _ _).alloc (Nat.le_refl _) _
  have HR : Hid (Row W w.heap.size 26 z25) := by rw [hW]; exact Row.new w 26 z25
  have A : Aside (Sl W (.slice ao l.length cp) l) := by rw [← hv]; exact h.below (by rw [hW]; exact (Below.refl _ _).alloc (Nat.le_refl _) _)
  subst hv
  clear h hW
  have i1 : IntKind.u64.wrap (l.length : Int) = (l.length : Int) := by
    have : IntKind.u64.wrap (l.length : Int) = (l.length : Int) % 18446744073709551616 := by simp [IntKind.wrap, IntKind.bits, IntKind.signed]
    rw [this]; omega
  have hl2 : l.length ≤ 1000000000000 := by omega
  go_enter Try.func22, Try.ntmps22
  go_wp2_with (first | (at_builtin; refine append_to (w := W) AW.out (w.heap.size + 1) hWs rfl _ _ rfl rfl rfl A.out hl2 ?_; intro g gcap w1 hown1 hb1; have hs1 : w.heap.size + 1 ≤ w1.heap.size := (by have := hb1.size; omega); have hown1a : (w1.alloc (.cells #[.int .u8 128] 5)).ownsRow (w.heap.size + 1) 5 1 (.slice (some ⟨g, 0, none⟩) l.length gcap) l.length (bys l) := own_past hown1 ((Below.refl _ _).alloc (Nat.le_refl _) _); have hB1 : w.heap.size + 1 ≤ (w1.alloc (.cells #[.int .u8 128] 5)).heap.size := (by simp; omega); have HB1 : Hid (Below (w.heap.size + 1) W (w1.alloc (.cells #[.int .u8 128] 5))) := hb1.alloc hs1 _; have hN1 := new_bytes w1 128; have hll : l.length + [(128 : UInt8)].length ≤ 100000000000000 := (by simp; omega); clear hown1 hb1) | (at_builtin; refine app_at (nw := [128]) rfl _ _ rfl rfl hown1a hB1 w1.heap.size 1 rfl hN1 hll ?_; intro v2 w2 hown2 hb2 _))
  have HO2 : Hid (w2.ownsRow (w.heap.size + 1) 5 1 v2 (fill l 0).length (bys (fill l 0))) := by
    show World.ownsRow _ _ _ _ _ _ _
    have e : fill l 0 = l ++ [128] := by simp [fill]
    rw [e]; exact hown2
  have HB2 : Hid (Below (w.heap.size + 1) W w2) := HB1.out.trans hb2
  have hs2 : w.heap.size + 1 ≤ w2.heap.size := by have := HB2.out.size; omega
  clear hown1a hB1 HB1 hN1 hll hown2 hb2 A AW
  refine Code.wp_mono (in_mono (fun _ _ h => h)) (x_pad _ (w.heap.size + 1) l w2 _ _ _ _ _ _ _ _ _ _ _ _ _ _ _ _ _ _ _ _ _ _ _ _ _ _ _ _ _ _ _ _ _ _ _ _ _ _ _ _ _ _ _ _ _ _ _ _ _ _ _ _ _ _ _ _ _ _ _ _ _ _ _ _ _ _ _ _ _ _ _ _ _ _ _ _ _ _ _ _ _ _ _ _ _ _ _ _ _ _ _ _ _ _ _ _ _ _ _ _ _ _ _ _ _ _ _ _ _ _ _ _ _ _ _ _ _ _ _ _ _ _ _ _ _ _ _ _ _ _ _ _ _ _ _ _ _ _ _ _ _ _ _ _ _ _ _ _ _ _ _ _ _ _ _ _ _ _ _ _ _ _ _ _ _ _ _ _ _ _ _ _ _ _ _ _ _ _ _ _ _ _ _ _ _ _ _ _ _ _ _ _ _ _ _ _ _ _ _ _ _ _ _ _ _ _ _ _ _ _ _ _ _ _ _ _ _ _ _ _ _ _ _ _ _ _ _ _ _ _ _ _ _ _ _ _ _ _ _ _ _ _ (by omega) HO2.out hs2 ?_)
  intro v3 v30 v31 v32 v33 v34 v35 v36 w3 hown3 hb3
  have HO3 : Hid _ := hown3
  have HB3 : Hid (Below (w.heap.size + 1) W w3) := HB2.out.trans hb3
  have hs3 : w.heap.size + 1 ≤ w3.heap.size := Nat.le_trans hs2 hb3.size
  obtain ⟨ao3, cp3, rfl⟩ := own_shape hown3
  clear hown3 hb3 HO2 HB2
  obtain ⟨n8, hn8⟩ : ∃ n : Nat, n = 8 * l.length := ⟨_, rfl⟩
  have i2 : IntKind.u64.wrap ((l.length : Int) * 8) = (n8 : Int) := by
    have : IntKind.u64.wrap ((l.length : Int) * 8) = ((l.length : Int) * 8) % 18446744073709551616 := by simp [IntKind.wrap, IntKind.bits, IntKind.signed]
    rw [this]; omega
  have hfl : (fill l (noughts l.length)).length ≤ 10000000000 := by rw [fill_len]; have := noughts_le l.length; omega
  have hnb : n8 < 18446744073709551616 := by omega
  have hfl2 : (fill l (noughts l.length)).length ≤ 200000 := by rw [fill_len]; have := noughts_le l.length; omega
  have HW : Hid (fill l (noughts l.length) ++ tailB n8 = whole l) := by show _ = _; rw [hn8]; rfl
  clear hn8
  generalize fill l (noughts l.length) = P at *
  go_wp2_with fail
  refine Code.wp_mono (in_mono (fun _ _ h => h)) (x_bits _ (w.heap.size + 1) n8 P w3 _ _ _ _ _ _ _ _ _ _ _ _ _ _ _ _ _ _ _ _ _ _ _ _ _ _ _ _ _ _ _ _ _ _ _ _ _ _ _ _ _ _ _ _ _ _ _ _ _ _ _ _ _ _ _ _ _ _ _ _ _ _ _ _ _ _ _ _ _ _ _ _ _ _ _ _ _ _ _ _ _ _ _ _ _ _ _ _ _ _ _ _ _ _ _ _ _ _ _ _ _ _ _ _ _ _ _ _ _ _ _ _ _ _ _ _ _ _ _ _ _ _ _ _ _ _ _ _ _ _ _ _ _ _ _ _ _ _ _ _ _ _ _ _ _ _ _ _ _ _ _ _ _ _ _ _ _ _ _ _ _ _ _ _ _ _ _ _ _ _ _ _ _ _ _ _ _ _ _ _ _ _ _ _ _ _ _ _ _ _ _ _ _ _ _ _ _ _ _ _ _ _ _ _ _ _ _ _ _ _ _ _ _ _ _ _ _ _ _ _ _ _ _ _ _ _ _ _ _ _ _ _ _ _ _ _ _ _ _ _ hfl hnb HO3.out hs3 ?_)
  intro y3 y5 y41 y42 y43 y44 y45 y46 y47 y48 y49 y50 y51 y52 y53 w4 hown4 hb4
  rw [HW.out] at hown4
  have HB4 : Hid (Below (w.heap.size + 1) W w4) := HB3.out.trans hb4
  have hs4 : w.heap.size + 1 ≤ w4.heap.size := Nat.le_trans hs3 hb4.size
  have hwl := whole_len l
  have hwp : 0 < (whole l).length := by rw [← HW.out]; simp [tailB, four]
  have hwm : (whole l).length ≤ 10000000 := by
    rw [← HW.out, List.length_append]
    have : (tailB n8).length = 8 := rfl
    omega
  have HS : Hid (sumSt l = mixes first8 (whole l) ((whole l).length / 64)) := sum_whole l
  clear HW HO3 HB3 hb4 i1 i2 hfl hnb hfl2
  generalize whole l = L at *
  obtain ⟨g4, cap4, rfl⟩ : ∃ g4 cap4, y3 = .slice (some ⟨g4, 0, none⟩) L.length cap4 := by
    rcases hown4.2 with ⟨_, h0⟩ | ⟨g4, cap4, _, h, _⟩
    · omega
    · exact ⟨g4, cap4, h⟩
  have hg4 := hown4.lt g4 rfl
  have HC4 : Hid (∀ i, i < L.length → w4.cell? ⟨g4, i, none⟩ = some (.int .u8 ((L.getD i 0).toNat : Int))) := fun i hi => by rw [hown4.cellAt i (by omega), bys_get L i hi]
  have HR4 : Hid (Row w4 w.heap.size 26 z25) := HR.out.below HB4.out (by omega)
  have HBw4 : Hid (Below w.heap.size w w4) := HB.out.trans (HB4.out.mono (by omega))
  obtain ⟨m, hm⟩ : ∃ m, m = L.length / 64 := ⟨_, rfl⟩
  have HM : Hid (L.length = 64 * m) := by rw [hm]; exact hwl
  rw [← hm] at HS
  clear hown4 HB4 HR HB hwl hm
  have R5 : Hid (Row (w4.alloc (.cells (u32s first8.list).toArray 64)) w4.heap.size 64 (u32s first8.list)) := Row.new w4 64 _
  have B5 : Hid (Below w4.heap.size w4 (w4.alloc (.cells (u32s first8.list).toArray 64))) := (Below.refl _ _).alloc (Nat.le_refl _) _
  have C5 : Hid (Calls Try.prog 34 #[] (w4.alloc (.cells (u32s first8.list).toArray 64)) fun ev w' => ev = .returned (.agg (u32s kay).toArray) ∧ (Row w' w4.heap.size 64 (u32s first8.list) ∧ Below w4.heap.size w4 w' ∧ w4.heap.size < w'.heap.size)) := by
    refine (words_any _).mono ?_
    rintro ev w' ⟨rfl, hb⟩
    refine ⟨rfl, R5.out.below hb R5.out.lt, B5.out.trans (hb.mono B5.out.size), ?_⟩
    have := hb.size
    simp at this
    omega
  have hiK : (Try.prog.info? 65).map (·.size) = some (u32s kay).toArray.size := by kernel_rfl
  have hK64 : (u32s kay).toArray.size = 64 := rfl
  have honeK := all_one (u32s_one kay)
  have HKK : Hid (∀ (y : World) gk, y.heap[gk]? = some (.cells (u32s kay).toArray 65 (0, 0)) → Row y gk 65 (u32s kay)) := fun y gk h => ⟨h⟩
  clear R5 B5
  generalize (u32s kay).toArray = KK at *
  go_wp2_with fail
  refine C5.out.mono ?_
  rintro ev w5 ⟨rfl, hR5, hb5, hs5⟩
  have HR5 : Hid _ := hR5
  have HB5 : Hid _ := hb5
  clear C5 hR5 hb5
  go_wp2_with (refine store_box rfl 65 _ _ rfl w5.heap.size KK rfl rfl 65 _ (heap_alloc_new w5 _) hiK (by rw [hK64]; rfl) honeK w5 ((Below.refl _ w5).alloc (Nat.le_refl _) _) ?_; intro w6 G6 hb6)
  have HZ : Hid (ZRel w6 w4.heap.size w5.heap.size g4 L.length L first8 w6) := by
    refine ⟨HR5.out.below hb6 hs5, HKK.out _ _ G6, fun i hi => ?_, ⟨rfl, rfl, rfl, Nat.le_refl _, fun _ _ _ => rfl⟩⟩
    rw [hb6.cell (p := ⟨g4, i, none⟩) (by show g4 < w5.heap.size; omega), HB5.out.cell (p := ⟨g4, i, none⟩) hg4.2]
    exact HC4.out i hi
  have hs6 : w5.heap.size < w6.heap.size := (HKK.out _ _ G6).lt
  have HR6 : Hid (Row w6 w.heap.size 26 z25) := (HR4.out.below HB5.out (by omega)).below hb6 (by omega)
  have HBw6 : Hid (Below w.heap.size w w6) := (HBw4.out.trans (HB5.out.mono (by omega))).trans (hb6.mono (by omega))
  clear HC4 HR4 HBw4 HR5 HB5 hb6 G6 HKK hiK hK64 honeK
  refine Code.wp_mono (in_mono (fun _ _ h => h)) (x_blocks _ g4 L.length cap4 w4.heap.size w5.heap.size m L first8 w6 _ _ _ _ _ _ _ _ _ _ _ _ _ _ _ _ _ _ _ _ _ _ _ _ _ _ _ _ _ _ _ _ _ _ _ _ _ _ _ _ _ _ _ _ _ _ _ _ _ _ _ _ _ _ _ _ _ _ _ _ _ _ _ _ _ _ _ _ _ _ _ _ _ _ _ _ _ _ _ _ _ _ _ _ _ _ _ _ _ _ _ _ _ _ _ _ _ _ _ _ _ _ _ _ _ _ _ _ _ _ _ _ _ _ _ _ _ _ _ _ _ _ _ _ _ _ _ _ _ _ _ _ _ _ _ _ _ _ _ _ _ _ _ _ _ _ _ _ _ _ _ _ _ _ _ _ _ _ _ _ _ _ _ _ _ _ _ _ _ _ _ _ _ _ _ _ _ _ _ _ _ _ _ _ _ _ _ _ _ _ _ _ _ _ _ _ _ _ _ _ _ _ _ _ _ _ _ _ _ _ _ _ _ _ _ _ _ _ _ _ _ _ _ _ _ _ _ _ _ _ _ _ _ _ _ _ _ _ rfl HM.out hwm (by omega) (by omega) (by omega) HZ.out ?_)
  intro z8 z9 z10 z11 z12 z13 z14 z15 z16 z17 z18 z19 z20 z21 z56 z57 z58 z59 z60 z61 z62 z63 z64 z65 z66 z67 z68 z69 z70 z71 z72 z73 z74 z75 z76 z77 z78 z79 z80 z81 z82 z83 z84 z85 z86 z87 z88 z89 z90 z91 z92 z93 z94 z95 z96 z97 z98 z99 z100 z101 z102 z103 z104 z105 z106 z107 z108 z109 z110 z111 z112 z113 z114 z115 z116 z117 z118 z119 z120 z121 z122 z123 z124 z125 z126 z127 z128 z129 z130 z131 z132 z133 z134 z135 z136 z137 z138 z139 z140 z141 z142 z143 z144 z145 z146 z147 z148 z149 z150 z151 z152 z153 z154 z155 z156 z157 z158 z159 z160 z161 z162 z163 z164 z165 z166 z167 z168 z169 z170 z171 z172 z173 z174 z175 z176 z177 z178 z179 z180 z181 z182 z183 z184 z185 z186 z187 z188 z189 z190 z191 z192 z193 z194 z195 z196 z197 z198 z199 z200 z201 z202 z203 z204 z205 z206 z207 z208 z209 z210 z211 z212 z213 z214 z215 z216 z217 z218 z219 z220 z221 z222 z223 w7 hZ7
  have HH7 : Hid (Row w7 w4.heap.size 64 (u32s (sumSt l).list)) := by show Row _ _ _ _; rw [HS.out]; exact hZ7.h
  have hs7 := hZ7.grown.size
  have HR7 : Hid (Row w7 w.heap.size 26 z25) := ⟨by rw [hZ7.grown.block w.heap.size (by omega) (fun e => by have := Option.some.inj e; omega)]; exact HR6.out.heap⟩
  have HBw7 : Hid (Below w.heap.size w w7) := HBw6.out.trans (below_grown hZ7.grown (by omega) (fun k e => by have := Option.some.inj e; omega))
  clear hZ7 HZ HR6 HBw6 HS HM hwm hwp
  obtain ⟨W8, hW8⟩ : ∃ W, W = w7.alloc (.cells z25.toArray 26) := ⟨_, rfl⟩
  have AW8 : Aside (W8 = w7.alloc (.cells z25.toArray 26)) := hW8
  have B8 : Hid (Below w7.heap.size w7 W8) := by rw [hW8]; exact (Below.refl _ _).alloc (Nat.le_refl _) _
  have O8 : Hid (Row W8 w7.heap.size 26 z25) := by rw [hW8]; exact Row.new w7 26 z25
  have HH8 : Hid (Row W8 w4.heap.size 64 (u32s (sumSt l).list)) := HH7.out.below B8.out HH7.out.lt
  have HR8 : Hid (Row W8 w.heap.size 26 z25) := HR7.out.below B8.out HR7.out.lt
  have HBw8 : Hid (Below w.heap.size w W8) := HBw7.out.trans (B8.out.mono (by omega))
  clear hW8 HH7 HR7 HBw7 B8
  go_wp2_with fail
  refine wp_world AW8.out ?_
  clear AW8
  refine Code.wp_mono (in_mono (fun _ _ h => h)) (x_out _ w4.heap.size w7.heap.size (sumSt l) W8 _ _ _ _ _ _ _ _ _ _ _ _ _ _ _ _ _ _ _ _ _ _ _ _ _ _ _ _ _ _ _ _ _ _ _ _ _ _ _ _ _ _ _ _ _ _ _ _ _ _ _ _ _ _ _ _ _ _ _ _ _ _ _ _ _ _ _ _ _ _ _ _ _ _ _ _ _ _ _ _ _ _ _ _ _ _ _ _ _ _ _ _ _ _ _ _ _ _ _ _ _ _ _ _ _ _ _ _ _ _ _ _ _ _ _ _ _ _ _ _ _ _ _ _ _ _ _ _ _ _ _ _ _ _ _ _ _ _ _ _ _ _ _ _ _ _ _ _ _ _ _ _ _ _ _ _ _ _ _ _ _ _ _ _ _ _ _ _ _ _ _ _ _ _ _ _ _ _ _ _ _ _ _ _ _ _ _ _ _ _ _ _ _ _ _ _ _ _ _ _ _ _ _ _ _ _ _ _ _ _ _ _ _ _ _ _ _ _ _ _ _ _ _ _ _ _ _ _ _ _ _ _ _ _ _ _ _ _ _ (by omega) HH8.out O8.out ?_)
  intro t23 t224 t225 t226 t227 t228 t229 t230 t231 t232 t233 t234 t235 t236 t237 t238 t239 t240 w9 hO9 hR9
  have HR9 : Row w9 w.heap.size 26 z25 := hO9.row HR8.out (by omega)
  have HB9 : Below w.heap.size w w9 := HBw8.out.trans (hO9.below (by omega))
  have hlen : (sumSt l).bytes.length = 32 := St.bytes_len _
  have HF : Hid (Below w.heap.size w (w9.setRow w.heap.size (bys (sumSt l).bytes).toArray)) := below_setRow HB9 (Nat.le_refl _) _
  have hres := HR9.heap
  have hrow := hR9.heap
  have hres2 := (HR9.setRow (bys (sumSt l).bytes)).heap
  have hi : (Try.prog.info? 26).map (·.size) = some (bys (sumSt l).bytes).toArray.size := by rw [List.size_toArray, bys_len, hlen]; exact Try.info26
  have hz : z25.toArray.size = (bys (sumSt l).bytes).toArray.size := by rw [List.size_toArray, List.size_toArray, bys_len, hlen]; rfl
  have hone := all_one (bys_one (sumSt l).bytes)
  obtain ⟨Y2, hY2⟩ : ∃ Y2, Y2 = (bys (sumSt l).bytes).toArray := ⟨_, rfl⟩
  rw [← hY2] at HF hrow hres2 hi hz hone
  have HY : Hid (Y2 = (bys (sumF l)).toArray) := hY2
  clear hO9 hR9 HR9 HB9 HR8 HBw8 HH8 O8 hY2 hlen
  go_wp2_with (first | (refine wpList_load_row rfl 26 _ rfl w7.heap.size rfl 26 Y2 (0, 0) _ hrow Try.underlying26 rfl hi ?_) | (refine wpList_store_row rfl 26 _ _ rfl w.heap.size Y2 rfl rfl 26 z25.toArray hres hi hz hone ?_))
  refine bodyPost_ret (v := .agg Y2) (results_cell_row Try.results22 _ _ w.heap.size 26 Y2 (0, 0) _ rfl hres2 Try.underlying26 rfl hi) rfl ⟨by rw [HY.out], HF.out⟩
end Go.Proofs.Ytfkibbpekngciaa
