/-
  Names: the parameters and lets of a function, as the program tells them.
-/
import Derived.Test.YtjenmmkamhplkaaNam
namespace Go.Proofs.Ytjenmmkamhplkaa
open Go.RowKit

/-- All names of a function. -/
def namesF (n : Nat) (x : Fnc) : List Bs := x.params.map Fld.name ++ letN (x.body.flatMap (ord n))

set_option maxHeartbeats 8000000 in
set_option maxRecDepth 20000 in
theorem names_any {n : Nat} {K : Ctx} {w : World} (hC : K.C ≤ w.heap.size) {x : Fnc} {cs : List Value} (hx : FncAt n K w cs x) (hm : x.params.length + cnt n x.body ≤ 10000000) :
    Calls Try.prog 9 #[.agg cs.toArray] w fun ev w' => ∃ v, ev = .returned v ∧ Below w.heap.size w w' ∧ w'.ownsRow w.heap.size 9 1 v (namesF n x).length (strs (namesF n x)) := by
  have hsm := K.small
  obtain ⟨v2, v3, ts, v8, rfl, hl, hli, hpa, hre, hbo⟩ := hx
  obtain ⟨t2, m2, d2, t3, m3, d3, rfl⟩ := hre.open
  obtain ⟨lp, lc, rfl⟩ := hli.form
  obtain ⟨pp, pc, e3⟩ := hpa.form
  obtain ⟨bp, bc, e8⟩ := hbo.form
  subst e3 e8
  obtain ⟨_, _, e, hpc, hpb, hPA⟩ := hpa.shape
  injection e with e1 _ e2
  subst e1 e2
  have hl9 : x.params.length ≤ 9223372036854775807 := by omega
  have hA := alloc_two w (.cells #[.bool x.pub, .string (str x.name), .slice lp x.lives.length lc, .slice pp x.params.length pc, .int .i64 x.result.kind, .string (str x.result.name), .slice t2 m2 d2, .slice t3 m3 d3, .slice bp x.body.length bc, .int .i64 x.pos] 30) (.cells #[.slice none 0 0] 24)
  have hKA := below_le hA hC
  obtain ⟨w1, hw1⟩ : ∃ w1, w1 = ((w.alloc (.cells #[.bool x.pub, .string (str x.name), .slice lp x.lives.length lc, .slice pp x.params.length pc, .int .i64 x.result.kind, .string (str x.result.name), .slice t2 m2 d2, .slice t3 m3 d3, .slice bp x.body.length bc, .int .i64 x.pos] 30)).alloc (.cells #[.slice none 0 0] 24)) := ⟨_, rfl⟩
  have hsz1 : w1.heap.size = w.heap.size + 2 := by rw [hw1, size_alloc, size_alloc]
  have r1 : Row w1 (w.heap.size + 1) 24 [.slice none 0 0] := by
    have := Row.new (w.alloc (.cells #[.bool x.pub, .string (str x.name), .slice lp x.lives.length lc, .slice pp x.params.length pc, .int .i64 x.result.kind, .string (str x.result.name), .slice t2 m2 d2, .slice t3 m3 d3, .slice bp x.body.length bc, .int .i64 x.pos] 30)) 24 [.slice none 0 0]
    rw [size_alloc] at this
    rw [hw1]; exact this
  have rf : Row w1 w.heap.size 30 [.bool x.pub, .string (str x.name), .slice lp x.lives.length lc, .slice pp x.params.length pc, .int .i64 x.result.kind, .string (str x.result.name), .slice t2 m2 d2, .slice t3 m3 d3, .slice bp x.body.length bc, .int .i64 x.pos] := by rw [hw1]; exact (Row.new w 30 _).alloc _
  have hb1 : Below w.heap.size w w1 := by rw [hw1]; exact hA
  have hKC1 := below_le hb1 hC
  have HP : Hid (∀ i (h : i < x.params.length) (y : World), Below K.C w y → ∃ b o, pp = some ⟨b, o, none⟩ ∧ ∃ cs, cs.length = 6 ∧ y.rangeAt b (o + i * 6) cs ∧ FldAt K y cs x.params[i]) := by
    intro i h y hy
    obtain ⟨b, o, e, hbC, cs, hl, hcs, hx⟩ := hPA i h
    refine ⟨b, o, e, cs, hl, fun j u hj => ?_, hx.below hy⟩
    have hj' : j < 6 := by rw [← hl]; exact (List.getElem?_eq_some_iff.1 hj).1
    rw [hy.cell (p := ⟨b, o + i * 6 + j, none⟩) hbC, hcs j hj']
    exact hj
  have N0 : Hid (Nm (w.heap.size + 1) (w.heap.size + 2) [] w1 (.slice none 0 0)) := ⟨r1, World.ownsRow_nil _ _ _ _, by omega, by omega, by simp, _, _, _, rfl⟩
  have HL : Hid (∀ (y : World) (T : List Bs) (u : Value), Stay (fun k => k = w.heap.size + 1 ∨ w.heap.size + 2 ≤ k) w1 y → Nm (w.heap.size + 1) (w.heap.size + 2) T y u → T.length + cnt n x.body ≤ 10000000 →
      Calls Try.prog 14 #[.slice bp x.body.length bc, .func (.func 17) #[] #[.pointer (some ⟨w.heap.size + 1, 0, none⟩)]] y fun ev y' => ev = .returned (.tuple #[]) ∧ Stay (fun k => k = w.heap.size + 1 ∨ w.heap.size + 2 ≤ k) w1 y' ∧ ∃ v', Nm (w.heap.size + 1) (w.heap.size + 2) (T ++ letN (x.body.flatMap (ord n))) y' v') := by
    intro y T u hst hn hT
    have hKy : Below K.C w y := hKC1.trans (hst.below (by omega) (fun k hk => by omega))
    refine (lets_any (n := n) (K := K) (by omega) hn.B (by omega) (hbo.mono hKy fun _ _ _ q => q.below hKy) hT hn).mono ?_
    rintro _ _ ⟨rfl, h2, h3⟩
    exact ⟨rfl, hst.trans h2, h3⟩
  have HF : Hid (∀ y, Stay (fun k => k = w.heap.size + 1 ∨ w.heap.size + 2 ≤ k) w1 y → Row y w.heap.size 30 [.bool x.pub, .string (str x.name), .slice lp x.lives.length lc, .slice pp x.params.length pc, .int .i64 x.result.kind, .string (str x.result.name), .slice t2 m2 d2, .slice t3 m3 d3, .slice bp x.body.length bc, .int .i64 x.pos] ∧ Below w.heap.size w y ∧ Below K.C w y) := by
    intro y hst
    refine ⟨hst.row rf (by omega), hb1.trans (hst.below (by omega) (fun k hk => by omega)), hKC1.trans (hst.below (by omega) (fun k hk => by omega))⟩
  have HM : Hid (x.params.length + cnt n x.body ≤ 10000000) := hm
  have AW : Aside (w1 = ((w.alloc (.cells #[.bool x.pub, .string (str x.name), .slice lp x.lives.length lc, .slice pp x.params.length pc, .int .i64 x.result.kind, .string (str x.result.name), .slice t2 m2 d2, .slice t3 m3 d3, .slice bp x.body.length bc, .int .i64 x.pos] 30)).alloc (.cells #[.slice none 0 0] 24))) := hw1
  have HS1 : Hid (w1.heap.size = w.heap.size + 2) := hsz1
  have HSm : Hid (K.B ≤ 140737488355328) := hsm
  clear hw1 hm hli hpa hre hbo hPA hA hKA r1 rf hb1 hKC1 hsz1 hsm hl
  have ho : namesF n x = x.params.map Fld.name ++ letN (x.body.flatMap (ord n)) := rfl
  rw [ho]
  generalize hLN : letN (x.body.flatMap (ord n)) = LN at *
  clear hLN ho
  generalize hcn : cnt n x.body = cn at *
  clear hcn
  generalize x.pub = pb at *
  generalize str x.name = nm1 at *
  generalize x.lives.length = l1 at *
  generalize x.result.kind = rk at *
  generalize str x.result.name = rn1 at *
  generalize x.body.length = l3 at *
  generalize x.pos = ps at *
  have hmf : ∀ (fn : Fn) (first cap : Array Value) (w : World), (Instr.makeFunc fn first cap).run Try.prog w = .ok (.func fn first cap) w := fun _ _ _ _ => rfl
  go_enter Try.func9, Try.ntmps9
  go_wp2_with fail
  refine wp_at_world AW.out ?_
  go_loopw [9] (fun i wr => ∃ k : Nat, k ≤ x.params.length ∧ i = .int .i64 k ∧ Stay (fun k => k = w.heap.size + 1 ∨ w.heap.size + 2 ≤ k) w1 wr ∧ ∃ v, Nm (w.heap.size + 1) (w.heap.size + 2) ((x.params.take k).map Fld.name) wr v) (fun i _ => x.params.length - (intOf i).toNat)
  case atStart => exact ⟨0, by omega, rfl, Stay.refl _ _, _, N0.out⟩
  case round =>
    obtain ⟨k, hk, rfl, hst, v, hn⟩ := hrel
    have HST : Hid (Stay (fun k => k = w.heap.size + 1 ∨ w.heap.size + 2 ≤ k) w1 wr) := hst
    have HN : Hid (Nm (w.heap.size + 1) (w.heap.size + 2) ((x.params.take k).map Fld.name) wr v) := hn
    obtain ⟨ao, n4, cap, hv⟩ := hn.form
    subst hv
    clear hst hn N0
    by_cases h3 : k < x.params.length
    · obtain ⟨b, o, e, cs, hl, hr, hx⟩ := HP.out k h3 wr (HF.out wr HST.out).2.2
      subst e
      have hi : Hid ((Try.prog.info? 52).map (·.size) = some cs.length) := by show _ = _; rw [hl]; kernel_rfl
      have hi' : Hid ((Try.prog.info? 52).map (·.size) = some cs.toArray.size) := by show _ = _; rw [List.size_toArray]; exact hi.out
      have hl' : Hid (6 = cs.toArray.size) := by show _ = _; rw [List.size_toArray]; exact hl.symm
      have h1 : Hid (cs.toArray.all (·.oneCell') = true) := one_mem hx.one
      have hR : Hid (wr.rangeAt b (o + k * 6) cs) := hr
      have i1 : (k : Int) < (x.params.length : Int) := by omega
      have hnl : (x.params[k]).name.length ≤ K.B ∧ cs[1]? = some (.string (str (x.params[k]).name)) := by
        obtain ⟨ts, rfl, h, _⟩ := hx
        exact ⟨h, rfl⟩
      have HC : Hid (∀ z, Calls Try.prog 16 #[.string (str (x.params[k]).name)] z fun ev w' => ev = .returned (.string (str (x.params[k]).name)) ∧ Below z.heap.size z w') := fun z => clone_any _ (by have := HSm.out; omega) z
      have hAl := alloc_one wr (.cells cs.toArray 52)
      have hRy := HN.out.row.alloc (.cells cs.toArray 52)
      have hOy := HN.out.own.alloc (.cells cs.toArray 52)
      have hBy : w.heap.size + 2 ≤ (wr.alloc (.cells cs.toArray 52)).heap.size := Nat.le_trans HN.out.B hAl.size
      have hcy : (wr.alloc (.cells cs.toArray 52)).cell? ⟨wr.heap.size, 1, none⟩ = some (.string (str (x.params[k]).name)) := ((Row.new wr 52 cs).cell 1).trans hnl.2
      obtain ⟨y, hy⟩ : ∃ y, y = wr.alloc (.cells cs.toArray 52) := ⟨_, rfl⟩
      have AY : Aside (y = wr.alloc (.cells cs.toArray 52)) := hy
      rw [← hy] at hRy hOy hBy hcy
      have hsty : Stay (fun k => k = w.heap.size + 1 ∨ w.heap.size + 2 ≤ k) w1 y := by rw [hy]; exact HST.out.alloc _
      have hlto : ∀ q, (Value.slice ao n4 cap).ownBlock = some q → q < wr.heap.size := fun q e => (HN.out.own.lt q e).2
      have hsy : wr.heap.size < y.heap.size := by rw [hy, size_alloc]; omega
      clear hy hnl hx hl hr HP hAl
      have HS : Hid (∀ z, Below (w.heap.size + 2) y z → z.cell? ⟨w.heap.size + 1, 0, none⟩ = some (.slice ao n4 cap) ∧ z.frozen? ⟨w.heap.size + 1, 0, none⟩ = false ∧ Row z (w.heap.size + 1) 24 [.slice ao n4 cap]) := by
        intro z hz
        have r := hRy.below hz (by omega)
        exact ⟨r.cell 0, r.fz 0, r⟩
      generalize hSS : str (x.params[k]).name = S at *
      go_wp2_with (first | (refine wpList_load_mid rfl 52 (.tmp 11) rfl b (o + k * 6) rfl cs _ hR.out Try.underlying52 rfl hi.out ?_) | (refine store_new rfl 52 (.tmp 5) (.tmp 12) rfl cs.toArray _ 52 rfl rfl hi'.out hl'.out h1.out ?_))
      refine wp_at_world AY.out ?_
      refine beginL (fun z => Below (w.heap.size + 2) y z ∧ z.cell? ⟨wr.heap.size, 1, none⟩ = some (.string S)) 6 (by kernel_rfl) ⟨(Below.refl _ _).drew, hcy⟩ (fun hSd => ?_)
      have HY : Hid (∀ q, q < y.heap.size → y.drew.heap[q]? = y.heap[q]?) := fun _ _ => rfl
      have HYs : Hid (y.drew.heap.size = y.heap.size) := rfl
      generalize y.drew = yd at *
      refine takeL 0 (v := ?v0) rfl (some 13) rfl (by decide) (by kernel_rfl) (by kernel_rfl) (by kernel_rfl) (by kernel_rfl) (fun _ _ _ h => h) (Or.inl ⟨by rfl, ?h0⟩) hSd ?r0
      case h0 => (intro z hz; obtain ⟨k1, k2, k4⟩ := HS.out z hz.1; go_simp; with_reducible rfl)
      simp only [Act.put, List.setIfInBounds_toArray, List.set_cons_zero, List.set_cons_succ]
      refine takeL 1 (v := ?v1) rfl (some 14) rfl (by decide) (by kernel_rfl) (by kernel_rfl) (by kernel_rfl) (by kernel_rfl) (fun _ _ _ h => h) (Or.inl ⟨by rfl, ?h1⟩) hSd ?r1
      case h1 => (intro z hz; go_simp; with_reducible rfl)
      simp only [Act.put, List.setIfInBounds_toArray, List.set_cons_zero, List.set_cons_succ]
      refine takeL 2 (v := ?v2) rfl (some 15) rfl (by decide) (by kernel_rfl) (by kernel_rfl) (by kernel_rfl) (by kernel_rfl) (fun _ _ _ h => h) (Or.inl ⟨by rfl, ?h2⟩) hSd ?r2
      case h2 => (intro z hz; have k5 := hz.2; go_simp; with_reducible rfl)
      simp only [Act.put, List.setIfInBounds_toArray, List.set_cons_zero, List.set_cons_succ]
      refine readyL (rs := [3]) (by kernel_rfl) (by simp) ?_
      refine ReadyL.cons rfl (fun K hK => ?_) ReadyL.nil
      refine want (by rfl) ?_
      go_simp
      refine (HC.out _).mono ?_
      rintro ev z1 ⟨rfl, hb1⟩
      have hBd : w.heap.size + 2 ≤ yd.heap.size := Nat.le_trans hBy hSd.1.size
      have hwd : wr.heap.size < yd.heap.size := by have := HYs.out; omega
      have hS1 : Below (w.heap.size + 2) y z1 := hSd.1.trans (below_le hb1 hBd)
      have cS1 : z1.cell? ⟨wr.heap.size, 1, none⟩ = some (.string S) := by rw [hb1.cell (p := ⟨wr.heap.size, 1, none⟩) hwd]; exact hSd.2
      have O1 : z1.ownsRow (w.heap.size + 2) 9 1 (.slice ao n4 cap) ((x.params.take k).map Fld.name).length (strs ((x.params.take k).map Fld.name)) := own_past' (w := yd) (own_same' hOy (fun q e => HY.out q (hOy.lt q e).2)) hb1
      have hw1z : wr.heap.size < z1.heap.size := Nat.lt_of_lt_of_le hwd hb1.size
      refine hK.out _ _ (fun _ => ⟨hS1, cS1⟩) (fun _ => ?_)
      clear hK K
      refine readyL (rs := [4]) (by kernel_rfl) (by simp) ?_
      refine ReadyL.cons rfl (fun K hK => ?_) ReadyL.nil
      refine want (by rfl) ?_
      go_simp
      have hA1 := alloc_one z1 (.cells #[.string S] 9)
      have hS2 : Below (w.heap.size + 2) y (z1.alloc (.cells #[.string S] 9)) := hS1.trans (below_le hA1 (Nat.le_trans hBd hb1.size))
      have cS2 : (z1.alloc (.cells #[.string S] 9)).cell? ⟨wr.heap.size, 1, none⟩ = some (.string S) := by rw [hA1.cell (p := ⟨wr.heap.size, 1, none⟩) hw1z]; exact cS1
      have O2 := O1.alloc (.cells #[.string S] 9)
      have c9 : (z1.alloc (.cells #[.string S] 9)).cell? ⟨z1.heap.size, 0, none⟩ = some (.string (str (x.params[k]).name)) := by rw [hSS]; exact (Row.new z1 9 [.string S]).cell 0
      refine hK.out _ _ (fun _ => ⟨hS2, cS2⟩) (fun _ => ?_)
      clear hK K
      refine readyL (rs := [5]) (by kernel_rfl) (by simp) ?_
      refine ReadyL.cons rfl (fun K hK => ?_) ReadyL.nil
      refine want (by rfl) ?_
      refine wpo_app9 _ _ rfl rfl O2 (Nat.le_trans (Nat.le_trans hBd hb1.size) hA1.size) z1.heap.size 1 (x.params[k]).name rfl c9 HN.out.few ?_
      rintro v' z2 O3 hb3 ⟨ao3, n3, cap3, rfl⟩ hgr
      have hS3 := hS2.trans hb3
      have cS3 : z2.cell? ⟨wr.heap.size, 1, none⟩ = some (.string S) := hgr.cell cS2 (fun e => Nat.lt_irrefl _ (hlto wr.heap.size e.symm))
      obtain ⟨k1, k2, k4⟩ := HS.out z2 hS3
      refine hK.out _ _ (fun _ => ⟨hS3, cS3⟩) (fun _ => ?_)
      clear hK K
      have HFn : Hid (Stay (fun k => k = w.heap.size + 1 ∨ w.heap.size + 2 ≤ k) w1 (z2.setCell ⟨w.heap.size + 1, 0, none⟩ (.slice ao3 n3 cap3)) ∧ Nm (w.heap.size + 1) (w.heap.size + 2) ((x.params.take (k + 1)).map Fld.name) (z2.setCell ⟨w.heap.size + 1, 0, none⟩ (.slice ao3 n3 cap3)) (.slice ao3 n3 cap3)) := by
        have hst : Stay (fun k => k = w.heap.size + 1 ∨ w.heap.size + 2 ≤ k) y z2 := ⟨hS3.os, hS3.tape, hS3.output, hS3.size, fun q hq hn => hS3.block q (by omega)⟩
        have e1 : (x.params.take (k + 1)).map Fld.name = (x.params.take k).map Fld.name ++ [(x.params[k]).name] := by
          rw [List.take_add_one, List.getElem?_eq_getElem h3, List.map_append]; rfl
        have hfin : Stay (fun k => k = w.heap.size + 1 ∨ w.heap.size + 2 ≤ k) w1 (z2.setCell ⟨w.heap.size + 1, 0, none⟩ (.slice ao3 n3 cap3)) := (hsty.trans hst).set (fun _ => .inl rfl) _ _
        refine ⟨hfin, k4.set 0 _, ?_, by omega, ?_, ?_, _, _, _, rfl⟩
        · rw [e1]
          exact ownsRow_setCell_below O3 (show (⟨w.heap.size + 1, 0, none⟩ : Addr).block < w.heap.size + 2 from by show w.heap.size + 1 < w.heap.size + 2; omega) _
        · have := hfin.size; have := HS1.out; omega
        · have := HM.out; rw [List.length_map, List.length_take]; omega
      clear k4 O1 O2 O3 c9 hA1 hS1 hS2 hS3 hb1 hb3 hSd HN HS HC HY cS1 cS2 cS3 hgr HYs hOy hRy hcy hsty hlto
      refine readyL (rs := [6]) (by kernel_rfl) (by simp) ?_
      refine ReadyL.cons rfl (fun K hK => ?_) ReadyL.nil
      refine want (by rfl) ?_
      go_simp
      refine hK.out _ _ (fun h => absurd rfl h) (fun _ => ?_)
      clear hK K
      refine doneL (by kernel_rfl) ?_ _
      go_wp2_with fail
      go_roundw
      case rel => exact ⟨k + 1, by omega, by go_num, HFn.out.1, _, HFn.out.2⟩
      case measure => simp [intOf]; omega
    · have hfull : x.params.take k = x.params := List.take_of_length_le (by omega)
      have i1 : ¬ (k : Int) < (x.params.length : Int) := by omega
      obtain ⟨rfw, hbw, _⟩ := HF.out wr HST.out
      have c8 : wr.cell? ⟨w.heap.size, 8, none⟩ = some (.slice bp l3 bc) := rfw.cell 8
      have D : Hid (Calls Try.prog 14 #[.slice bp l3 bc, .func (.func 17) #[] #[.pointer (some ⟨w.heap.size + 1, 0, none⟩)]] wr fun ev y' => ev = .returned (.tuple #[]) ∧ Stay (fun k => k = w.heap.size + 1 ∨ w.heap.size + 2 ≤ k) w1 y' ∧ ∃ v', Nm (w.heap.size + 1) (w.heap.size + 2) (x.params.map Fld.name ++ LN) y' v') := by
        have := HL.out wr _ _ HST.out HN.out (by rw [hfull, List.length_map]; exact HM.out)
        rw [hfull] at this
        exact this
      clear hfull HL HN HP rfw
      go_wp2_with fail
      refine D.out.mono ?_
      rintro ev w2 ⟨rfl, hs2, v2, n2⟩
      obtain ⟨_, hb2, _⟩ := HF.out w2 hs2
      have c2 : w2.cell? ⟨w.heap.size + 1, 0, none⟩ = some v2 := n2.row.cell 0
      have hown := own_mono n2.own (B' := w.heap.size) (by omega)
      obtain ⟨ao9, n9, cap9, e9⟩ := n2.form
      subst e9
      clear n2 hs2 D HF
      go_wp2_with fail
      go_ret
      exact ⟨_, rfl, hb2, hown⟩
end Go.Proofs.Ytjenmmkamhplkaa
