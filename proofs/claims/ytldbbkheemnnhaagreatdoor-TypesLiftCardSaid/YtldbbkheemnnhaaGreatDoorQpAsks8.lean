/-
  What a scope says of a struct that is right.
-/
import Derived.Test.YtldbbkheemnnhaaGreatDoorQpAsk8
namespace Go.Proofs.YtldbbkheemnnhaaGreatDoor
open Go.RowKit Go.Maps
theorem wpo_stR {o : Oper} {a : Act} {w : World} {K : Act -> World -> Prop} {Q : Exit -> Act -> World -> Prop} {g t : Nat} (ty : TypeId) (x y : Operand) (ho : o.op = .store ty x y) {old cs : List Value} (hx : a.eval x = .pointer (some ⟨g, 0, none⟩)) (hy : a.eval y = .agg cs.toArray) (r : Row w g t old)
  (hi : (Tryz.prog.info? ty).map (·.size) = some cs.length) (hl : old.length = cs.length) (h1 : ∀ u ∈ cs, u.oneCell' = true)
  (k : ∀ w', Row w' g t cs -> Stay (fun k => k = g) w w' -> K (a.put o.dst undef) w') : Oper.wp Tryz.prog o a w K Q := by
 refine wp_store_row ty x y ho g cs.toArray hx hy t old.toArray r.heap (by simpa using hi) (by simpa using hl) (by rw [Array.all_eq_true_iff_forall_mem]; intro v hv; exact h1 v (by simpa using hv)) (k _ (r.setRow cs) ?_)
 refine ⟨rfl, rfl, rfl, by simp [World.setRow], fun k hk hx => ?_⟩
 simp only [World.setRow, Array.getElem?_modify]
 rw [if_neg (fun e => hx e.symm)]
structure okS (L : List Sct) (d : Nat) (x : Sct) : Prop where
 pub : x.pub = false
 new : x.name ∉ L.map (·.name)
 lives : x.lives.Nodup
 few : x.lives.length <= 1000
 fields : okFs L x.lives d x.fields
 ffew : x.fields.length <= 1000
section
variable {Q : Nat -> Prop} {B : Nat} {w : World} {g b c : Nat} {L : List Sct}
set_option maxHeartbeats 16000000 in
set_option maxRecDepth 20000 in
theorem askStruct_yes {K : Ctx} (H : Scp Q B w g b c L) {cs : List Value} {x : Sct} (hx : SctAt K w cs x) (hC : K.C <= w.heap.size) (hL : ∀ x ∈ L, x.lives.length <= 1000) {d : Nat} (hok : okS L d x) :
  Calls Tryz.prog 104 #[.pointer (some ⟨g, 0, none⟩), .agg cs.toArray] w fun ev w' => ev = .returned (.int .i64 0) /\ Below w.heap.size w w' := by
 have hsm := K.small
 obtain ⟨v2, v3, rfl, hB, h2, h3⟩ := hx
 rw [hok.pub]
 have AF : Hid (∀ y, Below w.heap.size w y -> Calls Tryz.prog 135 #[.pointer (some ⟨g, 0, none⟩), v3, .agg #[.bool false, v2, .func (.func 136) #[] #[]]] y fun ev w' => ev = .returned (.int .i64 0) /\ Below y.heap.size y w') := fun y hy => askFields_yes (H.past hy) (h2.below (below_le hy hC)) (h3.mono (below_le hy hC) fun _ _ _ q => q.below (below_le hy hC)) (Nat.le_trans hC hy.size) hL hok.lives hok.few hok.fields hok.ffew
 have LK : Hid (∀ y, Below w.heap.size w y -> (Instr.lookup 118 (.map (some b)) (.string (str x.name)) true).run Tryz.prog y = .ok (.tuple #[.agg #[.bool false, .string ⟨#[]⟩, .slice none 0 0, .slice none 0 0, .int .i64 0], .bool false]) y) := H.map.no hok.new (by omega)
 obtain ⟨a2, p2, rfl⟩ := Ar.form h2
 obtain ⟨a3, p3, rfl⟩ := Ar.form h3
 have HCell := hidP (fun i (hi : i < x.lives.length) => h2.cellAt hi)
 have HN := hidP (fun i (hi : i < x.lives.length) => nodup_new hi hok.lives)
 have HT := hidP (fun i (hi : i < x.lives.length) => getD_take hi)
 have h10 := hok.few
 have HC := hidP hC
 have HA := hidP (alloc_one w (.cells #[.bool false, .string (str x.name), .slice a2 x.lives.length p2, .slice a3 x.fields.length p3, .int .i64 x.pos] 84))
 have R0 : Hid (Row (w.alloc (.cells #[.bool false, .string (str x.name), .slice a2 x.lives.length p2, .slice a3 x.fields.length p3, .int .i64 x.pos] 84)) w.heap.size 84 [.bool false, .string (str x.name), .slice a2 x.lives.length p2, .slice a3 x.fields.length p3, .int .i64 x.pos]) := Row.new w 84 _
 have RG : Hid (Row (w.alloc (.cells #[.bool false, .string (str x.name), .slice a2 x.lives.length p2, .slice a3 x.fields.length p3, .int .i64 x.pos] 84)) g 121 [.map (some b), .map (some c)]) := H.row.alloc _
 have hmm := @run_makeMap Tryz.prog
 obtain ⟨n, hnl⟩ : ∃ n, n = x.lives.length := ⟨_, rfl⟩
 rw [← hnl] at AF HCell HN HT h10 HA R0 RG ⊢
 clear H h2 h3 hok hB hnl
 generalize x.fields.length = n3 at *
 generalize str x.name = SX at *
 generalize x.pos = ps at *
 go_enter Tryz.func104, Tryz.ntmps104
 go_wp2_with fail
 generalize w.alloc (.cells #[.bool false, .string SX, .slice a2 n p2, .slice a3 n3 p3, .int .i64 ps] 84) = wA at *
 have HD : Hid (Below w.heap.size w wA.drew) := HA.out.drew
 have hS0 : Row wA.drew w.heap.size 84 [.bool false, .string SX, .slice a2 n p2, .slice a3 n3 p3, .int .i64 ps] /\ Row wA.drew g 121 [.map (some b), .map (some c)] /\ (Instr.lookup 118 (.map (some b)) (.string SX) true).run Tryz.prog wA.drew = .ok (.tuple #[.agg #[.bool false, .string ⟨#[]⟩, .slice none 0 0, .slice none 0 0, .int .i64 0], .bool false]) wA.drew := ⟨R0.out.drew, RG.out.drew, LK.out _ HD.out⟩
 clear R0 RG HA
 refine beginL (fun y => Row y w.heap.size 84 [.bool false, .string SX, .slice a2 n p2, .slice a3 n3 p3, .int .i64 ps] /\ Row y g 121 [.map (some b), .map (some c)] /\ (Instr.lookup 118 (.map (some b)) (.string SX) true).run Tryz.prog y = .ok (.tuple #[.agg #[.bool false, .string ⟨#[]⟩, .slice none 0 0, .slice none 0 0, .int .i64 0], .bool false]) y) 12 (by kernel_rfl) hS0 (fun hSS => ?_)
 refine takeL 0 (v := ?_) rfl (some 11) rfl (by decide) (by kernel_rfl) (by kernel_rfl) (by kernel_rfl) (by kernel_rfl) (fun _ _ _ h => h) (Or.inl ⟨by rfl, ?_⟩) hSS ?_
 rotate_left
 ·(intro y hy; have hk0 := hy.1.cell 0; have hk1 := hy.1.cell 1; have hj0 := hy.2.1.cell 0; have hlk := hy.2.2; simp only [List.getElem?_cons_zero, List.getElem?_cons_succ] at hk0 hk1 hj0; go_simp; with_reducible rfl)
 try simp only [Act.put]
 try simp only [List.setIfInBounds_toArray]
 try simp only [List.set_cons_succ]
 try simp only [List.set_cons_zero]
 refine takeL 1 (v := ?_) rfl (some 12) rfl (by decide) (by kernel_rfl) (by kernel_rfl) (by kernel_rfl) (by kernel_rfl) (fun _ _ _ h => h) (Or.inl ⟨by rfl, ?_⟩) hSS ?_
 rotate_left
 ·(intro y hy; have hk0 := hy.1.cell 0; have hk1 := hy.1.cell 1; have hj0 := hy.2.1.cell 0; have hlk := hy.2.2; simp only [List.getElem?_cons_zero, List.getElem?_cons_succ] at hk0 hk1 hj0; go_simp; with_reducible rfl)
 try simp only [Act.put]
 try simp only [List.setIfInBounds_toArray]
 try simp only [List.set_cons_succ]
 try simp only [List.set_cons_zero]
 refine takeL 2 (v := ?_) rfl (some 13) rfl (by decide) (by kernel_rfl) (by kernel_rfl) (by kernel_rfl) (by kernel_rfl) (fun _ _ _ h => h) (Or.inl ⟨by rfl, ?_⟩) hSS ?_
 rotate_left
 ·(intro y hy; have hk0 := hy.1.cell 0; have hk1 := hy.1.cell 1; have hj0 := hy.2.1.cell 0; have hlk := hy.2.2; simp only [List.getElem?_cons_zero, List.getElem?_cons_succ] at hk0 hk1 hj0; go_simp; with_reducible rfl)
 try simp only [Act.put]
 try simp only [List.setIfInBounds_toArray]
 try simp only [List.set_cons_succ]
 try simp only [List.set_cons_zero]
 refine takeL 3 (v := ?_) rfl (some 14) rfl (by decide) (by kernel_rfl) (by kernel_rfl) (by kernel_rfl) (by kernel_rfl) (fun _ _ _ h => h) (Or.inl ⟨by rfl, ?_⟩) hSS ?_
 rotate_left
 ·(intro y hy; have hk0 := hy.1.cell 0; have hk1 := hy.1.cell 1; have hj0 := hy.2.1.cell 0; have hlk := hy.2.2; simp only [List.getElem?_cons_zero, List.getElem?_cons_succ] at hk0 hk1 hj0; go_simp; with_reducible rfl)
 try simp only [Act.put]
 try simp only [List.setIfInBounds_toArray]
 try simp only [List.set_cons_succ]
 try simp only [List.set_cons_zero]
 refine takeL 4 (v := ?_) rfl (some 15) rfl (by decide) (by kernel_rfl) (by kernel_rfl) (by kernel_rfl) (by kernel_rfl) (fun _ _ _ h => h) (Or.inl ⟨by rfl, ?_⟩) hSS ?_
 rotate_left
 ·(intro y hy; have hk0 := hy.1.cell 0; have hk1 := hy.1.cell 1; have hj0 := hy.2.1.cell 0; have hlk := hy.2.2; simp only [List.getElem?_cons_zero, List.getElem?_cons_succ] at hk0 hk1 hj0; go_simp; with_reducible rfl)
 try simp only [Act.put]
 try simp only [List.setIfInBounds_toArray]
 try simp only [List.set_cons_succ]
 try simp only [List.set_cons_zero]
 refine takeL 5 (v := ?_) rfl (some 16) rfl (by decide) (by kernel_rfl) (by kernel_rfl) (by kernel_rfl) (by kernel_rfl) (fun _ _ _ h => h) (Or.inl ⟨by rfl, ?_⟩) hSS ?_
 rotate_left
 ·(intro y hy; have hk0 := hy.1.cell 0; have hk1 := hy.1.cell 1; have hj0 := hy.2.1.cell 0; have hlk := hy.2.2; simp only [List.getElem?_cons_zero, List.getElem?_cons_succ] at hk0 hk1 hj0; go_simp; with_reducible rfl)
 try simp only [Act.put]
 try simp only [List.setIfInBounds_toArray]
 try simp only [List.set_cons_succ]
 try simp only [List.set_cons_zero]
 refine takeL 6 (v := ?_) rfl (some 17) rfl (by decide) (by kernel_rfl) (by kernel_rfl) (by kernel_rfl) (by kernel_rfl) (fun _ _ _ h => h) (Or.inl ⟨by rfl, ?_⟩) hSS ?_
 rotate_left
 ·(intro y hy; have hk0 := hy.1.cell 0; have hk1 := hy.1.cell 1; have hj0 := hy.2.1.cell 0; have hlk := hy.2.2; simp only [List.getElem?_cons_zero, List.getElem?_cons_succ] at hk0 hk1 hj0; go_simp; with_reducible rfl)
 try simp only [Act.put]
 try simp only [List.setIfInBounds_toArray]
 try simp only [List.set_cons_succ]
 try simp only [List.set_cons_zero]
 refine takeL 7 (v := ?_) rfl (some 10) rfl (by decide) (by kernel_rfl) (by kernel_rfl) (by kernel_rfl) (by kernel_rfl) (fun _ _ _ h => h) (Or.inl ⟨by rfl, ?_⟩) hSS ?_
 rotate_left
 ·(intro y hy; have hk0 := hy.1.cell 0; have hk1 := hy.1.cell 1; have hj0 := hy.2.1.cell 0; have hlk := hy.2.2; simp only [List.getElem?_cons_zero, List.getElem?_cons_succ] at hk0 hk1 hj0; go_simp; with_reducible rfl)
 try simp only [Act.put]
 try simp only [List.setIfInBounds_toArray]
 try simp only [List.set_cons_succ]
 try simp only [List.set_cons_zero]
 refine takeL 8 (v := ?_) rfl (some 18) rfl (by decide) (by kernel_rfl) (by kernel_rfl) (by kernel_rfl) (by kernel_rfl) (fun _ _ _ h => h) (Or.inl ⟨by rfl, ?_⟩) hSS ?_
 rotate_left
 ·(intro y hy; have hk0 := hy.1.cell 0; have hk1 := hy.1.cell 1; have hj0 := hy.2.1.cell 0; have hlk := hy.2.2; simp only [List.getElem?_cons_zero, List.getElem?_cons_succ] at hk0 hk1 hj0; go_simp; with_reducible rfl)
 try simp only [Act.put]
 try simp only [List.setIfInBounds_toArray]
 try simp only [List.set_cons_succ]
 try simp only [List.set_cons_zero]
 refine takeL 9 (v := ?_) rfl (some 19) rfl (by decide) (by kernel_rfl) (by kernel_rfl) (by kernel_rfl) (by kernel_rfl) (fun _ _ _ h => h) (Or.inl ⟨by rfl, ?_⟩) hSS ?_
 rotate_left
 ·(intro y hy; have hk0 := hy.1.cell 0; have hk1 := hy.1.cell 1; have hj0 := hy.2.1.cell 0; have hlk := hy.2.2; simp only [List.getElem?_cons_zero, List.getElem?_cons_succ] at hk0 hk1 hj0; go_simp; with_reducible rfl)
 try simp only [Act.put]
 try simp only [List.setIfInBounds_toArray]
 try simp only [List.set_cons_succ]
 try simp only [List.set_cons_zero]
 refine readyL (rs := [10]) (by kernel_rfl) (by simp) ?_
 refine ReadyL.cons rfl (fun KK hK => ?_) ReadyL.nil
 refine wantR (by rfl) ?_
 go_simp
 have HD2 := hidP (HD.out.alloc HD.out.size (.cells #[.bool false, .string ⟨#[]⟩, .slice none 0 0, .slice none 0 0, .int .i64 0] 84))
 have RN : Hid (Row (wA.drew.alloc (.cells #[.bool false, .string ⟨#[]⟩, .slice none 0 0, .slice none 0 0, .int .i64 0] 84)) wA.drew.heap.size 84 [.bool false, .string ⟨#[]⟩, .slice none 0 0, .slice none 0 0, .int .i64 0]) := Row.new wA.drew 84 _
 have hSS2 := (⟨hSS.1.alloc _, hSS.2.1.alloc _, LK.out _ HD2.out⟩ : Row (wA.drew.alloc (.cells #[.bool false, .string ⟨#[]⟩, .slice none 0 0, .slice none 0 0, .int .i64 0] 84)) w.heap.size 84 [.bool false, .string SX, .slice a2 n p2, .slice a3 n3 p3, .int .i64 ps] /\ Row (wA.drew.alloc (.cells #[.bool false, .string ⟨#[]⟩, .slice none 0 0, .slice none 0 0, .int .i64 0] 84)) g 121 [.map (some b), .map (some c)] /\ (Instr.lookup 118 (.map (some b)) (.string SX) true).run Tryz.prog (wA.drew.alloc (.cells #[.bool false, .string ⟨#[]⟩, .slice none 0 0, .slice none 0 0, .int .i64 0] 84)) = .ok (.tuple #[.agg #[.bool false, .string ⟨#[]⟩, .slice none 0 0, .slice none 0 0, .int .i64 0], .bool false]) (wA.drew.alloc (.cells #[.bool false, .string ⟨#[]⟩, .slice none 0 0, .slice none 0 0, .int .i64 0] 84)))
 have hl9 := hidP hSS.1.lt
 have hl8 := hidP hSS.2.1.lt
 refine hK.out _ _ (fun _ => hSS2) (fun _ => ?_)
 clear hK KK hSS HD
 have hSS := hSS2
 clear hSS2
 try simp only [Act.put]
 try simp only [List.setIfInBounds_toArray]
 try simp only [List.set_cons_succ]
 try simp only [List.set_cons_zero]
 refine readyL (rs := [11]) (by kernel_rfl) (by simp) ?_
 refine ReadyL.cons rfl (fun KK hK => ?_) ReadyL.nil
 refine wantR (by rfl) ?_
 refine wpo_stR 84 (.tmp 5) (.tmp 18) rfl (cs := [.bool false, .string ⟨#[]⟩, .slice none 0 0, .slice none 0 0, .int .i64 0]) rfl rfl RN.out Tryz.sz84 rfl (by intro u hu; simp only [List.mem_cons, List.not_mem_nil, or_false] at hu; rcases hu with rfl | rfl | rfl | rfl | rfl <;> rfl) ?_
 intro w2 R2 S2
 have h9 := hl9.out
 have h8 := hl8.out
 have hdd : wA.drew.heap.size = wA.heap.size := rfl
 have hd2 := HD2.out.size
 have HB2 := hidP (HD2.out.trans (S2.below (C := w.heap.size) HD2.out.size (fun q hq => by omega)))
 have hSS2 := (⟨S2.row hSS.1 (by omega), S2.row hSS.2.1 (by omega), LK.out _ HB2.out⟩ : Row w2 w.heap.size 84 [.bool false, .string SX, .slice a2 n p2, .slice a3 n3 p3, .int .i64 ps] /\ Row w2 g 121 [.map (some b), .map (some c)] /\ (Instr.lookup 118 (.map (some b)) (.string SX) true).run Tryz.prog w2 = .ok (.tuple #[.agg #[.bool false, .string ⟨#[]⟩, .slice none 0 0, .slice none 0 0, .int .i64 0], .bool false]) w2)
 refine hK.out (Act.put _ none _) _ (fun _ => hSS2) (fun _ => ?_)
 clear hK KK hSS HD2 RN S2 R2 LK
 have hSS := hSS2
 clear hSS2
 try simp only [Act.put]
 try simp only [List.setIfInBounds_toArray]
 try simp only [List.set_cons_succ]
 try simp only [List.set_cons_zero]
 refine readyL (rs := [12]) (by kernel_rfl) (by simp) ?_
 refine ReadyL.cons rfl (fun KK hK => ?_) ReadyL.nil
 refine wantR (by rfl) ?_
 have hk0 := hSS.1.cell 0; have hk1 := hSS.1.cell 1; have hj0 := hSS.2.1.cell 0; have hlk := hSS.2.2; simp only [List.getElem?_cons_zero, List.getElem?_cons_succ] at hk0 hk1 hj0; go_simp
 refine hK.out _ _ (fun _ => hSS) (fun _ => ?_)
 clear hK KK
 try simp only [Act.put]
 try simp only [List.setIfInBounds_toArray]
 try simp only [List.set_cons_succ]
 try simp only [List.set_cons_zero]
 refine doneL (by kernel_rfl) ?_ _
 have R1 := hidP hSS.1
 have x2 := R1.out.cell 2
 simp only [List.getElem?_cons_zero, List.getElem?_cons_succ] at x2
 clear hSS hS0 hl9 hl8
 have HM0 : Hid (Mp (w2.alloc (.map #[] 0)) w2.heap.size (un [])) := Mp.made w2
 have hA2 := alloc_one w2 (.map #[] 0)
 have HB3 := hidP (HB2.out.trans (below_le hA2 HB2.out.size))
 have R3 := hidP (R1.out.below hA2 R1.out.lt)
 have y2 := R3.out.cell 2
 simp only [List.getElem?_cons_zero, List.getElem?_cons_succ] at y2
 have hsz2 := HB2.out.size
 have h9 := hidP (R1.out.lt)
 clear R1 hA2 HB2
 go_wp2_with fail
 go_loopw [25] (fun i wr => ∃ (k : Nat), k <= n /\ i = .int .i64 k /\ Row wr w.heap.size 84 [.bool false, .string SX, .slice a2 n p2, .slice a3 n3 p3, .int .i64 ps] /\ Mp wr w2.heap.size (un (x.lives.take k).reverse) /\ Below w.heap.size w wr) (fun i _ => n - (intOf i).toNat)
 case atStart => exact ⟨0, by omega, rfl, R3.out, HM0.out, HB3.out⟩
 case round =>
  clear R3 HM0 HB3 x2 y2
  obtain ⟨k, hk, rfl, hr, hM, hb⟩ := hrel
  by_cases h3 : k < n
  ·have l1 : (k : Int) < (n : Int) := by omega
   obtain ⟨b', o, rfl, hbC, hc, hlB⟩ := HCell.out k h3
   have hC' := HC.out
   have c0 := (hb.cell (p := ⟨b', o + k, none⟩) (show b' < w.heap.size by omega)).trans hc
   have AD := hidP (add_any hM (x.lives.getD k []) (by omega) (by rw [un_len, List.length_reverse, List.length_take]; omega) (by rw [un_keys, List.mem_reverse]; exact HN.out k h3))
   have hb' := hidP hb
   have hr' := hidP hr
   have HT1 := hidP (HT.out k h3)
   have h8 := h9.out
   clear hM hb hc hlB hr
   generalize x.lives.getD k [] = z at *
   generalize str z = SZ at *
   go_wp2_with fail
   refine AD.out.mono ?_
   rintro _ w4 ⟨rfl, hM4, hS4⟩
   have HM4 := hidP (show Mp w4 w2.heap.size (un (x.lives.take (k + 1)).reverse) by rw [HT1.out, List.reverse_append, List.reverse_singleton, List.singleton_append]; exact hM4)
   have HB4 := hidP (hb'.out.trans (hS4.below hb'.out.size (fun q hq => by omega)))
   have R4 := hidP (hS4.row hr'.out (by omega))
   clear AD hM4 hS4 hb' hr'
   go_wp2_with fail
   go_roundw
   case rel => exact ⟨k + 1, by omega, by go_num, R4.out, HM4.out, HB4.out⟩
   case measure => simp [intOf]; omega
  ·obtain rfl : k = n := by omega
   have z0 := hr.cell 0
   have z2 := hr.cell 2
   have z3 := hr.cell 3
   simp only [List.getElem?_cons_zero, List.getElem?_cons_succ] at z0 z2 z3
   have AF' := hidP (AF.out wr hb)
   have hb' := hidP hb
   clear hM hb hr AF
   go_wp2_with fail
   refine AF'.out.mono ?_
   rintro _ w5 ⟨rfl, hb5⟩
   have HB5 := hidP (hb'.out.trans (below_le hb5 hb'.out.size))
   clear AF' hb5 hb'
   go_wp2_with fail
   go_ret
   exact ⟨rfl, HB5.out⟩
end
end Go.Proofs.YtldbbkheemnnhaaGreatDoor
