/-
  The texts Grt, Las, joined.
-/
import Derived.Test.YtjenmmkamhplkaaGreatJqbaXct2
import Derived.Test.YtjenmmkamhplkaaGreatJqbaSub4
namespace Go.Proofs.YtjenmmkamhplkaaGreat
open Go.RowKit
def Grt (n : Nat) (f : Fnc) : Prop := 68 < dp 70 f.body ∨ 2100 < f.body.length ∨ 2100 < cw n f.body
def GrtC (n : Nat) (c : Crt) : Prop := 300 < c.structs.length ∨ 300 < c.funcs.length ∨ ∃ f ∈ c.funcs, Grt n f
theorem Fnc.body_at {n : Nat} {K : Ctx} {w : World} {cs : List Value} {f : Fnc} (h : FncAt n K w cs f) : ∃ v, cs[8]? = some v /\ Ar 32 496 (StAt n K w) K w v f.body := by
 obtain ⟨v2, v3, ts, v8, rfl, hl, hli, hpa, hre, hbo⟩ := h
 obtain ⟨t2, m2, d2, t3, m3, d3, rfl⟩ := hre.open
 exact ⟨v8, rfl, hbo⟩
set_option maxHeartbeats 8000000 in
set_option maxRecDepth 20000 in
theorem great_any {n : Nat} {K : Ctx} {w : World} (hC : K.C <= w.heap.size) {c : Crt} {cs : List Value} (hc : CrtAt n K w cs c) (B : Bool) (hB : B = true ↔ GrtC n c) :
  Calls Tryz.prog 7 #[.agg cs.toArray] w fun ev w' => ev = .returned (.bool B) /\ Below w.heap.size w w' := by
 obtain ⟨v0, v1, rfl, h0, h1⟩ := hc
 obtain ⟨a0, c0, rfl, g0, gb0, hz⟩ := h0.shape
 clear hz
 obtain ⟨a1, c1, rfl, g1, gb1, hA⟩ := h1.shape
 have l0 : c.structs.length <= 9223372036854775807 := by omega
 have l1 : c.funcs.length <= 9223372036854775807 := by omega
 have HA : Hid (∀ i (h : i < c.funcs.length), ∃ b o v, a1 = some ⟨b, o, none⟩ /\ b < K.C /\ w.cell? ⟨b, o + i * 10 + 8, none⟩ = some v /\ Ar 32 496 (StAt n K w) K w v (c.funcs[i]).body) := by
  intro i h
  obtain ⟨b, o, e, hb, cs, hl, hcs, hx⟩ := hA i h
  obtain ⟨v, e8, hv⟩ := Fnc.body_at hx
  exact ⟨b, o, v, e, hb, by rw [hcs 8 (by omega), e8], hv⟩
 have HC : Hid (K.C <= w.heap.size) := hC
 have HQ : Hid (GrtC n c -> B = true) := fun h => hB.2 h
 have HF : Hid (¬ GrtC n c -> B = false) := fun h => by cases hb : B with | false => rfl | true => exact absurd (hB.1 hb) h
 clear hB
 clear hA h0 h1 hC gb0 gb1
 have HS : Hid (∀ m, (w.alloc (.cells #[.slice a0 c.structs.length c0, .slice a1 c.funcs.length c1] 25)).cell? ⟨w.heap.size, m, none⟩ = [Value.slice a0 c.structs.length c0, .slice a1 c.funcs.length c1][m]?) := fun m => (Row.new w 25 [.slice a0 c.structs.length c0, .slice a1 c.funcs.length c1]).cell m
 by_cases s0 : (300 : Int) < (c.structs.length : Int)
 ·have HT : Hid (GrtC n c) := .inl (by omega)
  go_enter Tryz.func7, Tryz.ntmps7
  go_wp2_with fail
  go_ret
  exact ⟨by rw [HQ.out HT.out]; rfl, alloc_one _ _⟩
 by_cases s1 : (300 : Int) < (c.funcs.length : Int)
 ·have HT : Hid (GrtC n c) := .inr (.inl (by omega))
  go_enter Tryz.func7, Tryz.ntmps7
  go_wp2_with fail
  go_ret
  exact ⟨by rw [HQ.out HT.out]; rfl, alloc_one _ _⟩
 have HN : Hid (¬ 300 < c.structs.length /\ ¬ 300 < c.funcs.length) := ⟨by omega, by omega⟩
 go_enter Tryz.func7, Tryz.ntmps7
 go_wp2_with fail
 go_loopw [3] (fun i wr => ∃ k : Nat, k <= c.funcs.length /\ i = .int .i64 k /\ (∀ j (h : j < c.funcs.length), j < k -> ¬ Grt n c.funcs[j]) /\ ∃ m, wr = (w.alloc (.cells #[.slice a0 c.structs.length c0, .slice a1 c.funcs.length c1] 25)).drewN m) (fun i _ => c.funcs.length - (intOf i).toNat)
 case atStart => exact ⟨0, by omega, rfl, fun j _ h => by omega, 0, rfl⟩
 case round =>
  obtain ⟨k, hk, rfl, hj, m, hx⟩ := hrel
  have HX := hid0 hx
  have HJ := hid0 hj
  have HB : Hid (∀ q, Below w.heap.size w (wr.drewN q)) := fun q => by rw [hx]; exact (alloc_one _ _).trans ((Below.drewN _ _ _).trans (Below.drewN _ _ _))
  have HB0 : Hid (Below w.heap.size w wr) := by show Below _ _ _; rw [hx]; exact (alloc_one _ _).trans (Below.drewN _ _ _)
  have b1 : wr.cell? ⟨w.heap.size, 1, none⟩ = some (.slice a1 c.funcs.length c1) := by rw [hx]; exact HS.out 1
  clear hj hx
  by_cases h3 : k < c.funcs.length
  ·obtain ⟨b, o, v, e, hbC, c8, hv⟩ := HA.out k h3
   subst e
   have i1 : (k : Int) < (c.funcs.length : Int) := by omega
   have c8' : wr.cell? ⟨b, o + k * 10 + 8, none⟩ = some v := by rw [HB0.out.cell (p := ⟨b, o + k * 10 + 8, none⟩) (Nat.lt_of_lt_of_le hbC HC.out)]; exact c8
   have D1 : Hid (Calls Tryz.prog 18 #[v, .int .i64 70] wr fun ev w' => ev = .returned (.int .i64 (dp 70 (c.funcs[k]).body)) /\ ∃ m', w' = wr.drewN m') := xdeep_any 70 (by decide) (n := n) (K := K) 70 (by decide) (hv.mono (below_le HB0.out HC.out) fun _ _ _ h => h.below (below_le HB0.out HC.out))
   have D2 : Hid (∀ q, Calls Tryz.prog 17 #[v] (wr.drewN q) fun ev w' => ev = .returned (.int .i64 (cw n (c.funcs[k]).body)) /\ ∃ m', w' = (wr.drewN q).drewN m') := fun q => xcount_any n (K := K) (hv.mono (below_le (HB.out q) HC.out) fun _ _ _ h => h.below (below_le (HB.out q) HC.out))
   have HG : Hid (Grt n c.funcs[k] ↔ 68 < dp 70 (c.funcs[k]).body ∨ 2100 < (c.funcs[k]).body.length ∨ 2100 < cw n (c.funcs[k]).body) := Iff.rfl
   have HT : Hid (Grt n c.funcs[k] -> GrtC n c) := fun h => .inr (.inr ⟨_, List.getElem_mem h3, h⟩)
   have HK : Hid (¬ Grt n c.funcs[k] -> ∀ j (h : j < c.funcs.length), j < k + 1 -> ¬ Grt n c.funcs[j]) := by
    intro hn j h hjk
    rcases Nat.lt_or_ge j k with hl | hl
    ·exact HJ.out j h hl
    ·obtain rfl : j = k := by omega
     exact hn
   obtain ⟨av, cv, ev⟩ := hv.form
   subst ev
   clear hv c8 HA HJ HN HS s0 s1 g0 g1
   generalize dp 70 (c.funcs[k]).body = D at D1 HG
   generalize cw n (c.funcs[k]).body = C at D2 HG
   generalize (c.funcs[k]).body.length = L at c8' D1 D2 HG
   by_cases p1 : (68 : Int) < D
   ·have hg : Hid (GrtC n c) := HT.out (HG.out.2 (.inl p1))
    clear HG HT HK
    go_wp2_with (first | (go_at_call 18; refine D1.out.mono ?_; rintro _ _ ⟨rfl, m1, rfl⟩))
    go_ret
    exact ⟨by rw [HQ.out hg.out]; rfl, HB.out _⟩
   by_cases p2 : (2100 : Int) < (L : Int)
   ·have hg : Hid (GrtC n c) := HT.out (HG.out.2 (.inr (.inl (by omega))))
    clear HG HT HK
    go_wp2_with (first | (go_at_call 18; refine D1.out.mono ?_; rintro _ _ ⟨rfl, m1, rfl⟩))
    go_ret
    exact ⟨by rw [HQ.out hg.out]; rfl, HB.out _⟩
   by_cases p3 : (2100 : Int) < C
   ·have hg : Hid (GrtC n c) := HT.out (HG.out.2 (.inr (.inr p3)))
    clear HG HT HK
    go_wp2_with (first | (go_at_call 18; refine D1.out.mono ?_; rintro _ _ ⟨rfl, m1, rfl⟩) | (go_at_call 17; refine (D2.out _).mono ?_; rintro _ _ ⟨rfl, m2, rfl⟩))
    go_ret
    exact ⟨by rw [HQ.out hg.out]; rfl, by first | exact HB.out _ | (rw [World.drewN_drewN]; exact HB.out _)⟩
   ·have hg : Hid (∀ j (h : j < c.funcs.length), j < k + 1 -> ¬ Grt n c.funcs[j]) := HK.out (fun h => by have := HG.out.1 h; omega)
    clear HG HT HK
    go_wp2_with (first | (go_at_call 18; refine D1.out.mono ?_; rintro _ _ ⟨rfl, m1, rfl⟩) | (go_at_call 17; refine (D2.out _).mono ?_; rintro _ _ ⟨rfl, m2, rfl⟩))
    go_roundw
    case rel => exact ⟨k + 1, by omega, by go_num, hg.out, _, by rw [HX.out, World.drewN_drewN]⟩
    case measure => simp [intOf]; omega
  ·have i1 : ¬ (k : Int) < (c.funcs.length : Int) := by omega
   have hg : Hid (¬ GrtC n c) := by
    rintro (h | h | ⟨f, hf, h⟩)
    ·exact HN.out.1 h
    ·exact HN.out.2 h
    ·obtain ⟨j, hj, rfl⟩ := List.getElem_of_mem hf
     exact HJ.out j hj (by omega) h
   go_wp2_with fail
   go_ret
   exact ⟨by rw [HF.out hg.out]; rfl, HB0.out⟩

section
variable {P : Program} {ops : Array Oper} {Q : Exit -> Act -> World -> Prop} {md : Region.Mode} {S : World -> Prop} {n : Nat}
def wpAnyL (P : Program) (md : Region.Mode) (ops : Array Oper) (Q : Exit -> Act -> World -> Prop) (S : World -> Prop) (n : Nat) : Nat -> Array Bool -> Act -> World -> Prop
 | 0, l, a, w => Region.ready md ops l = [] /\ Q .normal a w
 | f + 1, l, a, w => (Region.ready md ops l = [] -> Q .normal a w) /\ ∀ i ∈ Region.ready md ops l, wpOp P ops Q i (fun a' w' => (i ≠ n -> S w') /\ wpAnyL P md ops Q S n f (l.setIfInBounds i true) a' w') a w
theorem wpAny_ofL (f : Nat) : ∀ (l : Array Bool) (a : Act) (w : World), wpAnyL P md ops Q S n f l a w -> wpAny P md ops Q f l a w := by
 induction f with
 | zero => exact fun l a w h => h
 | succ f ih => exact fun l a w h => ⟨h.1, fun i hi => wpOp_mono (fun a' w' h' => ih _ _ _ h'.2) (h.2 i hi)⟩
def waits (md : Region.Mode) (ops : Array Oper) (n i : Nat) : Bool := match ops[n]? with
 | some o => o.after.toList.any fun e => Region.binds md e && e.on == i
 | none => true
theorem not_ready {l : Array Bool} {i : Nat} (hw : waits md ops n i = true) (hi : i ∈ Region.ready md ops l) : n ∉ Region.ready md ops l := by
 intro hn
 obtain ⟨_, o, ho, hall⟩ := mem_ready.1 hn
 unfold waits at hw
 rw [ho] at hw
 obtain ⟨e, he, hb⟩ := List.any_eq_true.1 hw
 rw [Bool.and_eq_true] at hb
 have h1 := hall e (by simpa using he) hb.1
 have h0 := (mem_ready.1 hi).1
 rw [beq_iff_eq.1 hb.2] at h1
 rcases Nat.lt_or_ge i l.size with h | h
 ·simp [h] at h0 h1; rw [h0] at h1; cases h1
 ·simp [Array.getElem?_eq_none h] at h1
theorem firstL {i : Nat} {oi : Oper} {v : Value} (hi : ops[i]? = some oi) (hne : i ≠ n) (hw : waits md ops n i = true) (hsel : ∀ (j : Nat) (o : Oper) cs b, ops[j]? = some o -> o.op ≠ .select cs b)
  (hQ : ∀ c a w, Q (.panic c) (a.put oi.dst v) w -> Q (.panic c) a w) (f : Nat) :
  ∀ (l : Array Bool) (a : Act) (w : World),
   (∀ j oj, ops[j]? = some oj -> j ≠ i -> l.getD j true = false -> (∀ e ∈ oj.after, Region.binds md e = true -> e.on ≠ i) -> oi.apart ops oj = true) ->
   i ∈ Region.ready md ops l -> YieldsIf P ops S oi v a -> S w ->
   wpAnyL P md ops Q S n f (l.setIfInBounds i true) (a.put oi.dst v) w -> wpAnyL P md ops Q S n (f + 1) l a w := by
 induction f with
 | zero =>
  intro l a w _ hr hy hS H
  refine ⟨fun h => (by rw [h] at hr; cases hr), fun j hj => ?_⟩
  by_cases hji : j = i
  ·subst hji
   exact hy.wpOp hi hS ⟨fun _ => hS, H⟩
  ·have h0 := ready_mono hj hji
   rw [H.1] at h0
   cases h0
 | succ f ih =>
  intro l a w hfree hr hy hS H
  refine ⟨fun h => (by rw [h] at hr; cases hr), fun j hj => ?_⟩
  by_cases hji : j = i
  ·subst hji
   exact hy.wpOp hi hS ⟨fun _ => hS, H⟩
  ·have hjn : j ≠ n := fun e => not_ready hw hr (e ▸ hj)
   obtain ⟨hjl, oj, hoj, hall⟩ := mem_ready.1 hj
   have hapart : oi.apart ops oj = true := by
    refine hfree j oj hoj hji hjl (fun e he hb heq => ?_)
    have h1 := hall e he hb
    have h0 := (mem_ready.1 hr).1
    rw [heq] at h1
    rcases Nat.lt_or_ge i l.size with h' | h'
    ·simp [h'] at h0 h1; rw [h0] at h1; cases h1
    ·simp [Array.getElem?_eq_none h'] at h1
   have hput := wpOp_putIf hoj hapart (fun cs b => hsel i oi cs b hi) (fun cs b => hsel j oj cs b hoj) hQ hy (H.2 j (ready_mono hj hji))
   refine wpOp_mono (fun a' w' h3 => ⟨fun _ => h3.2.1 hjn, ih (l.setIfInBounds j true) a' w' (fun k ok hk hki hun hno => hfree k ok hk hki ?_ hno) (ready_mono hr (Ne.symm hji)) h3.1 (h3.2.1 hjn) ?_⟩) hput
   ·by_cases hjk : j = k
    ·subst hjk; exact hjl
    ·rw [getD_set_ne true hjk] at hun; exact hun
   ·rw [Array.setIfInBounds_comm _ _ hji]
    exact h3.2.2
theorem takeL (i : Nat) {oi : Oper} {v : Value} {f : Nat} {l : Array Bool} {a : Act} {w : World} (hi : ops[i]? = some oi) (d : Option Tmp) (hd : oi.dst = d) (hne : i ≠ n) (hw : waits md ops n i = true)
  (hs : Region.noSelect ops = true) (hf : Region.free md ops l i = true) (hr : (Region.ready md ops l).contains i = true)
  (hQ : ∀ c a w, Q (.panic c) (a.put d v) w -> Q (.panic c) a w) (hy : YieldsIf P ops S oi v a) (hS : S w)
  (h : wpAnyL P md ops Q S n f (l.setIfInBounds i true) (a.put d v) w) : wpAnyL P md ops Q S n (f + 1) l a w := by
 subst hd
 exact firstL hi hne hw (Region.noSelect_spec hs) hQ f l a w (Region.free_spec hi hf) (by simpa using hr) hy hS h
def ReadyL (P : Program) (md : Region.Mode) (ops : Array Oper) (Q : Exit -> Act -> World -> Prop) (S : World -> Prop) (n f : Nat) (l : Array Bool) (a : Act) (w : World) (rs : List Nat) : Prop :=
 ∀ i ∈ rs, wpOp P ops Q i (fun a' w' => (i ≠ n -> S w') /\ wpAnyL P md ops Q S n f (l.setIfInBounds i true) a' w') a w
theorem ReadyL.nil {f : Nat} {l : Array Bool} {a : Act} {w : World} : ReadyL P md ops Q S n f l a w [] := fun _ h => by cases h
theorem ReadyL.cons {f : Nat} {l : Array Bool} {a : Act} {w : World} {i : Nat} {o : Oper} {rs : List Nat} (ho : ops[i]? = some o)
  (h : ∀ K' : Act -> World -> Prop, Shut (∀ a w, (i ≠ n -> S w) -> ((i ≠ n -> S w) -> wpAnyL P md ops Q S n f (l.setIfInBounds i true) a w) -> K' a w) -> if Region.wanted o (yielded ops a.tmps) = true then Oper.wp P o a w K' Q else K' (a.put o.dst undef) w)
  (hs : ReadyL P md ops Q S n f l a w rs) : ReadyL P md ops Q S n f l a w (i :: rs) := fun j hj => by
 rcases List.mem_cons.1 hj with rfl | hj
 ·exact wpOp_step ho (fun K' hK => h K' (fun a w hS hW => hK a w ⟨hS, hW hS⟩))
 ·exact hs j hj
theorem readyL {rs : List Nat} {f : Nat} {l : Array Bool} {a : Act} {w : World} (hr : Region.ready md ops l = rs) (hne : rs ≠ []) (h : ReadyL P md ops Q S n f l a w rs) : wpAnyL P md ops Q S n (f + 1) l a w :=
 ⟨fun h0 => absurd (hr ▸ h0) hne, hr ▸ h⟩
theorem doneL {l : Array Bool} {a : Act} {w : World} (hr : Region.ready md ops l = []) (h : Q .normal a w) : ∀ f, wpAnyL P md ops Q S n f l a w
 | 0 => ⟨hr, h⟩
 | _ + 1 => ⟨fun _ => h, by rw [hr]; simp⟩
theorem beginL {id : Nat} {a : Act} {w : World} (S : World -> Prop) (n : Nat) (hm : P.follows .mixedOrders = true) (hS : S w.drew) (h : S w.drew -> wpAnyL P .any ops Q S n ops.size (Array.replicate ops.size false) a w.drew) : (Code.region id ops true).wp P Q a w :=
 wp_region_any hm (wpAny_ofL _ _ _ _ (h hS))
end
end Go.Proofs.YtjenmmkamhplkaaGreat
