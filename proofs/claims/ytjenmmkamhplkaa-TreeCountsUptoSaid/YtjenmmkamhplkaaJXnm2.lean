/-
  The texts Xnm, Xct, joined.
-/
import Derived.Test.YtjenmmkamhplkaaXlt
import Derived.Test.YtjenmmkamhplkaaWlk
namespace Go.Proofs.Ytjenmmkamhplkaa
open Go.RowKit

theorem Ar.each {α : Type} {z bz : Nat} {P : List Value → α → Prop} {K : Ctx} {w : World} {v : Value} {l : List α} (h : Ar z bz P K w v l) {x : α} (hx : x ∈ l) : ∃ cs, P cs x := by
  obtain ⟨ao, cap, _, _, _, hA⟩ := h.shape
  obtain ⟨i, hi, rfl⟩ := List.getElem_of_mem hx
  obtain ⟨_, _, _, _, cs, _, _, hp⟩ := hA i hi
  exact ⟨cs, hp⟩
theorem ord_small {K : Ctx} {w : World} : ∀ (n : Nat) {cs : List Value} {s : St}, StAt n K w cs s → ∀ t ∈ ord n s, t.name.length ≤ K.B
  | 0, _, _, h, _, _ => h.elim
  | n + 1, _, s, h, t, ht => by
    obtain ⟨ts, ps, vs, os, vt, ve, rfl, h1, h2, h3, h4, h5, h6, h7⟩ := h
    rcases List.mem_cons.1 ht with rfl | ht
    · exact h1
    · rcases List.mem_append.1 ht with ht | ht
      · obtain ⟨u, hu, ht⟩ := List.mem_flatMap.1 ht
        obtain ⟨cs, hc⟩ := h6.each hu
        exact ord_small n hc t ht
      · obtain ⟨u, hu, ht⟩ := List.mem_flatMap.1 ht
        obtain ⟨cs, hc⟩ := h7.each hu
        exact ord_small n hc t ht
theorem names_small {n : Nat} {K : Ctx} {w : World} {x : Fnc} {cs : List Value} (hx : FncAt n K w cs x) : ∀ s ∈ namesF n x, s.length ≤ K.B := by
  obtain ⟨v2, v3, ts, v8, rfl, hl, hli, hpa, hre, hbo⟩ := hx
  intro s hs
  rcases List.mem_append.1 hs with hs | hs
  · obtain ⟨p, hp, rfl⟩ := List.mem_map.1 hs
    obtain ⟨cs, hc⟩ := hpa.each hp
    obtain ⟨_, _, h, _⟩ := hc
    exact h
  · unfold letN at hs
    obtain ⟨t, ht, rfl⟩ := List.mem_map.1 hs
    obtain ⟨u, hu, ht⟩ := List.mem_flatMap.1 (List.mem_filter.1 ht).1
    obtain ⟨cs, hc⟩ := hbo.each hu
    exact ord_small n hc t ht

set_option maxHeartbeats 8000000 in
set_option maxRecDepth 20000 in
theorem xnames_any {n : Nat} {K : Ctx} {w : World} (hC : K.C ≤ w.heap.size) {x : Fnc} {cs : List Value} (hx : FncAt n K w cs x) (hm : x.params.length + cnt n x.body ≤ 10000000) :
    Calls Try.prog 10 #[.agg cs.toArray] w fun ev w' => ∃ v, ev = .returned v ∧ Below w.heap.size w w' ∧ w'.ownsRow w.heap.size 9 1 v (namesF n x).length (strs (namesF n x)) := by
  obtain ⟨v2, v3, ts, v8, rfl, hl, hli, hpa, hre, hbo⟩ := hx
  obtain ⟨t2, m2, d2, t3, m3, d3, rfl⟩ := hre.open
  obtain ⟨lp, lc, rfl⟩ := hli.form
  obtain ⟨pp, pc, e3⟩ := hpa.form
  obtain ⟨bp, bc, e8⟩ := hbo.form
  subst e3 e8
  obtain ⟨_, _, e, hpc, hpb, hPA⟩ := hpa.shape
  injection e with e1 _ e2
  subst e1 e2
  have hl9 : x.params.length ≤ 9223372036854775807 := by omega
  obtain ⟨w1, hw1⟩ : ∃ w1, w1 = (w.alloc (.cells #[.bool x.pub, .string (str x.name), .slice lp x.lives.length lc, .slice pp x.params.length pc, .int .i64 x.result.kind, .string (str x.result.name), .slice t2 m2 d2, .slice t3 m3 d3, .slice bp x.body.length bc, .int .i64 x.pos] 30)) := ⟨_, rfl⟩
  have hb1 : Below w.heap.size w w1 := by rw [hw1]; exact alloc_one _ _
  have hsz1 : w1.heap.size = w.heap.size + 1 := by rw [hw1, size_alloc]
  have rf : Row w1 w.heap.size 30 [.bool x.pub, .string (str x.name), .slice lp x.lives.length lc, .slice pp x.params.length pc, .int .i64 x.result.kind, .string (str x.result.name), .slice t2 m2 d2, .slice t3 m3 d3, .slice bp x.body.length bc, .int .i64 x.pos] := by rw [hw1]; exact Row.new w 30 _
  have hK1 := below_le hb1 hC
  have HP : Hid (∀ i (h : i < x.params.length) (y : World), Below w1.heap.size w1 y → ∃ b o, pp = some ⟨b, o, none⟩ ∧ y.cell? ⟨b, o + i * 6 + 1, none⟩ = some (.string (str (x.params[i]).name))) := by
    intro i h y hy
    obtain ⟨b, o, e, hbC, cs, hl, hcs, hx⟩ := hPA i h
    obtain ⟨ts, rfl, _⟩ := hx
    refine ⟨b, o, e, ?_⟩
    have hbw : b < w.heap.size := Nat.lt_of_lt_of_le hbC hC
    rw [hy.cell (p := ⟨b, o + i * 6 + 1, none⟩) (by show b < _; omega), hb1.cell (p := ⟨b, o + i * 6 + 1, none⟩) hbw]
    exact hcs 1 (by decide)
  have HL : Hid (∀ y, Below w1.heap.size w1 y → Calls Try.prog 18 #[.slice bp x.body.length bc] y fun ev y' => ∃ u, ev = .returned u ∧ Below y.heap.size y y' ∧ y'.ownsRow y.heap.size 9 1 u (letN (x.body.flatMap (ord n))).length (strs (letN (x.body.flatMap (ord n))))) := by
    intro y hy
    have hKy : Below K.C w y := hK1.trans (below_le hy (Nat.le_trans hC hb1.size))
    exact xlets_any n (K := K) (Nat.le_trans hC hKy.size) (hbo.mono hKy fun _ _ _ q => q.below hKy) (by omega)
  have HF : Hid (∀ y, Below w1.heap.size w1 y → Row y w.heap.size 30 [.bool x.pub, .string (str x.name), .slice lp x.lives.length lc, .slice pp x.params.length pc, .int .i64 x.result.kind, .string (str x.result.name), .slice t2 m2 d2, .slice t3 m3 d3, .slice bp x.body.length bc, .int .i64 x.pos]) := fun y hy => rf.below hy (by omega)
  have AW : Aside (w1 = (w.alloc (.cells #[.bool x.pub, .string (str x.name), .slice lp x.lives.length lc, .slice pp x.params.length pc, .int .i64 x.result.kind, .string (str x.result.name), .slice t2 m2 d2, .slice t3 m3 d3, .slice bp x.body.length bc, .int .i64 x.pos] 30))) := hw1
  have HS1 : Hid (w1.heap.size = w.heap.size + 1) := hsz1
  have HB1 := hid0 hb1
  have ho : namesF n x = x.params.map Fld.name ++ letN (x.body.flatMap (ord n)) := rfl
  have HM : Hid (x.params.length + (letN (x.body.flatMap (ord n))).length ≤ 10000000) := by
    have h1 := letN_len (x.body.flatMap (ord n))
    rw [ords_len] at h1
    show _ ≤ _
    omega
  clear hw1 hm hli hpa hre hbo hPA hb1 rf hsz1 hl hK1
  rw [ho]
  clear ho
  generalize letN (x.body.flatMap (ord n)) = LN at *
  generalize x.pub = pb at *
  generalize str x.name = nm1 at *
  generalize x.lives.length = l1 at *
  generalize x.result.kind = rk at *
  generalize str x.result.name = rn1 at *
  generalize x.body.length = l3 at *
  generalize x.pos = ps at *
  go_enter Try.func10, Try.ntmps10
  go_wp2_with fail
  refine wp_at_world AW.out ?_
  go_loopw [3, 4] (fun a i wr => ∃ k : Nat, k ≤ x.params.length ∧ i = .int .i64 k ∧ (∃ ao m cap, a = .slice ao m cap) ∧ Below w1.heap.size w1 wr ∧ wr.ownsRow w1.heap.size 9 1 a ((x.params.take k).map Fld.name).length (strs ((x.params.take k).map Fld.name))) (fun _ i _ => x.params.length - (intOf i).toNat)
  case atStart => exact ⟨0, by omega, rfl, ⟨_, _, _, rfl⟩, Below.refl _ _, World.ownsRow_nil _ _ _ _⟩
  case round =>
    obtain ⟨k, hk, rfl, ⟨oa, om, oc, rfl⟩, hbw, how⟩ := hrel
    have HB := hid0 hbw
    have HO := hid0 how
    clear hbw how
    have rfw := HF.out wr HB.out
    have q3 : wr.cell? ⟨w.heap.size, 3, none⟩ = some (.slice pp x.params.length pc) := rfw.cell 3
    have q8 : wr.cell? ⟨w.heap.size, 8, none⟩ = some (.slice bp l3 bc) := rfw.cell 8
    clear rfw
    by_cases h3 : k < x.params.length
    · obtain ⟨b, o, e, c1⟩ := HP.out k h3 wr HB.out
      subst e
      have i1 : (k : Int) < (x.params.length : Int) := by omega
      have HF0 : Hid (((x.params.take k).map Fld.name).length + [(x.params[k]).name].length ≤ 100000000) := by
        have := HM.out
        show _ ≤ _
        rw [List.length_map, List.length_take, List.length_singleton]
        omega
      have EE : Hid ((x.params.take k).map Fld.name ++ [(x.params[k]).name] = (x.params.take (k + 1)).map Fld.name) := by
        show _ = _
        rw [List.take_add_one, List.getElem?_eq_getElem h3, List.map_append]; rfl
      generalize (x.params[k]).name = nm at *
      generalize hS : str nm = S at *
      have AS := hid0 hS
      clear hS
      have hA1 := alloc_one wr (.cells #[.string S] 9)
      have OX := hid0 (HO.out.alloc (.cells #[.string S] 9))
      have OU := hid0 (own_one wr nm S AS.out.symm)
      have BX := hid0 (HB.out.trans (below_le hA1 HB.out.size))
      clear hA1 HO HB q8
      go_wp2_with (first | (refine app9s rfl _ _ rfl rfl OX.out BX.out.size _ _ rfl OU.out HF0.out ?_; rintro v0 zA OA ha0 ⟨p0, p1, p2, rfl⟩))
      go_roundw
      case rel => exact ⟨k + 1, by omega, by go_num, ⟨_, _, _, rfl⟩, BX.out.trans ha0, own_len OA EE.out⟩
      case measure => simp [intOf]; omega
    · have i1 : ¬ (k : Int) < (x.params.length : Int) := by omega
      have hfull : x.params.take k = x.params := List.take_of_length_le (by omega)
      rw [hfull] at HO
      have HF0 : Hid ((x.params.map Fld.name).length + LN.length ≤ 100000000) := by
        have := HM.out
        show _ ≤ _
        rw [List.length_map]
        omega
      have D := hid0 (HL.out wr HB.out)
      clear hfull HL HP
      go_wp2_with fail
      refine D.out.mono ?_
      rintro ev w2 ⟨u, rfl, hb2, hu⟩
      obtain ⟨a1, n1, c1, f1⟩ := own_form hu
      subst f1
      have O2 := hid0 (own_past' HO.out hb2)
      have B2 := hid0 (HB.out.trans (below_le hb2 HB.out.size))
      clear D HO HB hb2
      go_wp2_with (first | (refine app9s rfl _ _ rfl rfl O2.out B2.out.size _ _ rfl hu HF0.out ?_; rintro v0 zA OA ha0 ⟨p0, p1, p2, rfl⟩))
      go_ret
      have e1 := HS1.out
      refine ⟨_, rfl, ?_, own_mono OA (by omega)⟩
      exact HB1.out.trans (below_le (B2.out.trans ha0) (by omega))
end Go.Proofs.Ytjenmmkamhplkaa

namespace Go.Proofs.Ytjenmmkamhplkaa
open Go.RowKit

/-- What the document's Count has come to behind k statements: it goes round at two to the sixty-fourth. -/
def cwA (f : List St → Int) (l : List St) : Nat → Int
  | 0 => l.length
  | k + 1 => match l[k]? with
    | some s => wrap64 (wrap64 (cwA f l k + f s.thn) + f s.els)
    | none => cwA f l k
def cw : Nat → List St → Int
  | 0, l => l.length
  | n + 1, l => cwA (cw n) l l.length
theorem w64_small {a : Int} (h1 : -9223372036854775808 ≤ a) (h2 : a ≤ 9223372036854775807) : wrap64 a = a := by
  unfold wrap64
  omega
theorem cwA_succ (f : List St → Int) (l : List St) (k : Nat) (h : k < l.length) : cwA f l (k + 1) = wrap64 (wrap64 (cwA f l k + f (l[k]).thn) + f (l[k]).els) := by
  show (match l[k]? with | some s => _ | none => _) = _
  rw [List.getElem?_eq_getElem h]
set_option maxHeartbeats 8000000 in
set_option maxRecDepth 20000 in
theorem xcount_any : ∀ (n : Nat) {K : Ctx} {w : World} {v : Value} {l : List St}, Ar 32 496 (StAt n K w) K w v l →
    Calls Try.prog 7 #[v] w fun ev w' => ev = .returned (.int .i64 (cw n l)) ∧ ∃ m, w' = w.drewN m
  | 0, K, w, v, l, ha => by
    obtain ⟨ao, cap, rfl, hc, hb, hA⟩ := ha.shape
    have h0 : l = [] := by
      cases l with
      | nil => rfl
      | cons x l => obtain ⟨_, _, _, _, cs, _, _, h⟩ := hA 0 (by simp); exact h.elim
    subst h0
    clear hA ha hb
    go_enter Try.func7, Try.ntmps7
    go_wp2_with fail
    go_loopw [3, 4] (fun m i wr => m = .int .i64 0 ∧ i = .int .i64 0 ∧ wr = w) (fun _ i _ => 0)
    case atStart => exact ⟨rfl, rfl, rfl⟩
    case round =>
      obtain ⟨rfl, rfl, rfl⟩ := hrel
      go_wp2_with fail
      go_ret
      exact ⟨rfl, 0, rfl⟩
  | n + 1, K, w, v, l, ha => by
    obtain ⟨ao, cap, rfl, hc, hb, hA⟩ := ha.shape
    have hl9 : l.length ≤ 9223372036854775807 := by omega
    have HA : Hid (∀ i (h : i < l.length), ∃ b o vt ve, ao = some ⟨b, o, none⟩ ∧ w.cell? ⟨b, o + i * 32 + 30, none⟩ = some vt ∧ w.cell? ⟨b, o + i * 32 + 31, none⟩ = some ve ∧
        (∀ m, Calls Try.prog 7 #[vt] (w.drewN m) fun ev w' => ev = .returned (.int .i64 (cw n (l[i]).thn)) ∧ ∃ m', w' = (w.drewN m).drewN m') ∧
        (∀ m, Calls Try.prog 7 #[ve] (w.drewN m) fun ev w' => ev = .returned (.int .i64 (cw n (l[i]).els)) ∧ ∃ m', w' = (w.drewN m).drewN m')) := by
      intro i h
      obtain ⟨b, o, e, _, cs, hl, hcs, hx⟩ := hA i h
      obtain ⟨ts, ps, vs, os, vt, ve, rfl, h1, h2, h3', h4, h5, h6, h7⟩ := id hx
      have l1 := h2.len
      have l2 := h3'.len
      have l3 := h4.len
      have l4 := h5.len
      have pb := part_at hcs (.int .i64 (l[i]).kind :: .int .i64 (l[i]).pos :: .bool (l[i]).mu :: .string (str (l[i]).name) :: (ts ++ (.bool (l[i]).has :: (ps ++ (vs ++ os))))) [vt, ve] [] (k := 30) (n := 2) (by simp [l1, l2, l3, l4]) rfl (by decide) (by simp)
      refine ⟨b, o, vt, ve, e, pb 0 (by decide), pb 1 (by decide), fun m => xcount_any n (K := K) ?_, fun m => xcount_any n (K := K) ?_⟩
      · exact h6.mono (Below.drewN _ _ _) fun _ _ _ h => h.below (Below.drewN _ _ _)
      · exact h7.mono (Below.drewN _ _ _) fun _ _ _ h => h.below (Below.drewN _ _ _)
    clear hA ha hb
    go_enter Try.func7, Try.ntmps7
    go_wp2_with fail
    go_loopw [3, 4] (fun a i wr => ∃ k : Nat, k ≤ l.length ∧ i = .int .i64 k ∧ a = .int .i64 (cwA (cw n) l k) ∧ ∃ m, wr = w.drewN m) (fun _ i _ => l.length - (intOf i).toNat)
    case atStart => exact ⟨0, by omega, rfl, rfl, 0, rfl⟩
    case round =>
      obtain ⟨k, hk, rfl, rfl, m, hx⟩ := hrel
      have HX : Hid (wr = w.drewN m) := hx
      by_cases h3 : k < l.length
      · obtain ⟨b, o, vt, ve, e, c1, c2, d1, d2⟩ := HA.out k h3
        subst e
        have i1 : (k : Int) < (l.length : Int) := by omega
        have c1' : wr.cell? ⟨b, o + k * 32 + 30, none⟩ = some vt := by rw [hx]; exact c1
        have c2' : wr.cell? ⟨b, o + k * 32 + 31, none⟩ = some ve := by rw [hx]; exact c2
        have D1 : Hid (∀ q, Calls Try.prog 7 #[vt] (wr.drewN q) fun ev w' => ev = .returned (.int .i64 (cw n (l[k]).thn)) ∧ ∃ m', w' = (wr.drewN q).drewN m') := fun q => by rw [hx, World.drewN_drewN]; exact d1 (m + q)
        have D2 : Hid (∀ q, Calls Try.prog 7 #[ve] (wr.drewN q) fun ev w' => ev = .returned (.int .i64 (cw n (l[k]).els)) ∧ ∃ m', w' = (wr.drewN q).drewN m') := fun q => by rw [hx, World.drewN_drewN]; exact d2 (m + q)
        have HS : Hid (cwA (cw n) l (k + 1) = wrap64 (wrap64 (cwA (cw n) l k + cw n (l[k]).thn) + cw n (l[k]).els)) := cwA_succ _ _ _ h3
        clear d1 d2 c1 c2 hx HA
        generalize cwA (cw n) l k = A at HS ⊢
        generalize cw n (l[k]).thn = T at D1 HS
        generalize cw n (l[k]).els = E at D2 HS
        go_wp2_with fail
        refine wp_region_quiet_lit (by kernel_rfl) (by kernel_rfl) ?_
        iterate 13 go_big_quiet_step (first | (go_at_call 7; exact Calls.quiet_of (D1.out _)))
        repeat (go_big_quiet_step (first | (go_at_call 7; exact Calls.quiet_of (D2.out _))))
        refine wpQuiet_nil ?_
        rintro _ ⟨nq, rfl⟩
        go_wp2_with fail
        go_roundw
        case rel => exact ⟨k + 1, by omega, by go_num, by rw [HS.out], _, by rw [HX.out, World.drewN_drewN]⟩
        case measure => simp [intOf]; omega
      · have i1 : ¬ (k : Int) < (l.length : Int) := by omega
        have hke : Hid (k = l.length) := by show k = l.length; omega
        clear hx
        go_wp2_with fail
        go_ret
        exact ⟨by rw [hke.out]; rfl, m, HX.out⟩

def si (n : Nat) (l : List St) : Nat := (l.map (inner n)).sum
theorem cnt_si (n : Nat) : ∀ l : List St, cnt n l = l.length + si n l
  | [] => rfl
  | s :: l => by
    have h := cnt_si n l
    simp only [cnt_cons, List.length_cons, si, List.map_cons, List.sum_cons] at h ⊢
    omega
theorem si_take (n : Nat) (l : List St) (k : Nat) (h : k < l.length) : si n (l.take (k + 1)) = si n (l.take k) + inner n l[k] := by
  rw [List.take_succ_eq_append_getElem h]
  unfold si
  rw [List.map_append, List.sum_append]
  rfl
theorem si_le (n : Nat) (l : List St) (k : Nat) : si n (l.take k) ≤ si n l := by
  have h : si n l = si n (l.take k) + si n (l.drop k) := by
    have : si n (l.take k ++ l.drop k) = si n (l.take k) + si n (l.drop k) := by unfold si; rw [List.map_append, List.sum_append]
    rwa [List.take_append_drop] at this
  omega
theorem cw_small : ∀ (n : Nat) (l : List St), cnt n l ≤ 4611686018427387904 → cw n l = cnt n l
  | 0, l, _ => by
    have : ∀ l : List St, si 0 l = 0 := by
      intro l
      induction l with
      | nil => rfl
      | cons s l ih => unfold si at ih ⊢; rw [List.map_cons, List.sum_cons, ih]; rfl
    rw [cnt_si, this]
    simp [cw]
  | n + 1, l, h => by
    have hk : ∀ k, k ≤ l.length → cwA (cw n) l k = ((l.length + si (n + 1) (l.take k) : Nat) : Int) := by
      intro k
      induction k with
      | zero => intro _; simp [cwA, si]
      | succ k ih =>
        intro hk
        have h1 := ih (by omega)
        have h2 := si_take (n + 1) l k hk
        have h3 := si_le (n + 1) l (k + 1)
        rw [cnt_si] at h
        have e := inner_succ n l[k]
        have a1 := cw_small n (l[k]).thn (by omega)
        have a2 := cw_small n (l[k]).els (by omega)
        rw [cwA_succ _ _ _ hk, h1, a1, a2, w64_small (a := ((l.length + si (n + 1) (l.take k) : Nat) : Int) + (cnt n (l[k]).thn : Int)) (by omega) (by omega), w64_small (by omega) (by omega), h2, e]
        omega
    show cwA (cw n) l l.length = _
    rw [hk _ (Nat.le_refl _), List.take_length, cnt_si]
end Go.Proofs.Ytjenmmkamhplkaa
