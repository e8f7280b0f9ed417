/-
  The texts Ssm, Xct, Xdp, Grt, joined.
-/
import Derived.Test.YtmopffaocamieaaGreatQapXsm
import Derived.Test.YtmopffaocamieaaGreatJapSn03
import Derived.Test.YtmopffaocamieaaGreatJapPrc2
namespace Go.Proofs.YtmopffaocamieaaGreat
open Go.RowKit

set_option maxHeartbeats 4000000 in
set_option maxRecDepth 20000 in
theorem ssame_any {n : Nat} {K : Ctx} {w : World} (hC : K.C ≤ w.heap.size) {x y : Crt} {u0 u1 v0 v1 : Value} (hx : CrtAt n K w [u0, u1] x) (hy : CrtAt n K w [v0, v1] y) (s t : Bs) (B : Bool) (hB : B = true ↔ (s = t ∧ x = y)) :
    Calls Tryz.prog 11 #[.agg #[.string (str s), u0, u1], .agg #[.string (str t), v0, v1]] w fun ev w' => ev = .returned (.bool B) ∧ Below w.heap.size w w' := by
  have hA := alloc_two w (.cells #[.string (str s), u0, u1] 27) (.cells #[.string (str t), v0, v1] 27)
  have hK := below_le hA hC
  have C : Hid (∀ B, (B = true ↔ x = y) → Calls Tryz.prog 27 #[.agg #[u0, u1], .agg #[v0, v1]] ((w.alloc (.cells #[.string (str s), u0, u1] 27)).alloc (.cells #[.string (str t), v0, v1] 27)) fun ev w' => ev = .returned (.bool B) ∧ Below w.heap.size w w') := fun B hB =>
    (xsame_any (K := K) (Nat.le_trans hC hA.size) (hx.below hK) (hy.below hK) B hB).mono fun _ _ q => ⟨q.1, hA.trans (q.2.mono hA.size)⟩
  have HA := hidS hA
  obtain ⟨_, _, e, q0, q1⟩ := hx
  cases e
  obtain ⟨_, _, e, r0, r1⟩ := hy
  cases e
  obtain ⟨a0, c0, rfl⟩ := q0.form
  obtain ⟨a1, c1, rfl⟩ := q1.form
  obtain ⟨b0, d0, rfl⟩ := r0.form
  obtain ⟨b1, d1, rfl⟩ := r1.form
  clear q0 q1 r0 r1 hA hK
  by_cases hst : s = t
  · subst hst
    have D := hidS (C.out B (by rw [hB]; exact ⟨fun h => h.2, fun h => ⟨rfl, h⟩⟩))
    have he : ((str s).toList == (str s).toList) = true := by simp
    clear C hB
    generalize x.structs.length = n0 at *
    generalize x.funcs.length = n1 at *
    generalize y.structs.length = n2 at *
    generalize y.funcs.length = n3 at *
    generalize str s = SS at *
    go_enter Tryz.func11, Tryz.ntmps11
    go_wp2_with fail
    refine D.out.mono ?_
    rintro _ w1 ⟨rfl, hb⟩
    go_wp2_with fail
    go_ret
    exact ⟨rfl, hb⟩
  · obtain rfl : B = false := by
      cases hb : B with
      | false => rfl
      | true => exact absurd (hB.1 hb).1 hst
    have he : ((str s).toList == (str t).toList) = false := by rw [list_str, list_str, beq_eq_false_iff_ne]; exact hst
    clear C hB hst
    generalize x.structs.length = n0 at *
    generalize x.funcs.length = n1 at *
    generalize y.structs.length = n2 at *
    generalize y.funcs.length = n3 at *
    generalize str s = SS at *
    generalize str t = TT at *
    go_enter Tryz.func11, Tryz.ntmps11
    go_wp2_with fail
    go_ret
    exact ⟨rfl, HA.out⟩
end Go.Proofs.YtmopffaocamieaaGreat

namespace Go.Proofs.YtmopffaocamieaaGreat
open Go.RowKit

/-- What the document's Count has come to behind k statements: it goes round at two to the sixty-fourth. -/
def cwA (f : List St → Int) (l : List St) : Nat → Int
  | 0 => l.length
  | k + 1 => match l[k]? with
    | some s => wrap64 (wrap64 (cwA f l k + f s.thn) + f s.els)
    | none => cwA f l k
def cw : Nat → List St → Int
  | 0, l => l.length
  | n + 1, l => cwA (cw n) l l.length
theorem w64_small {a : Int} (h1 : -9223372036854775808 ≤ a) (h2 : a ≤ 9223372036854775807) : wrap64 a = a := by
  unfold wrap64
  omega
theorem cwA_succ (f : List St → Int) (l : List St) (k : Nat) (h : k < l.length) : cwA f l (k + 1) = wrap64 (wrap64 (cwA f l k + f (l[k]).thn) + f (l[k]).els) := by
  show (match l[k]? with | some s => _ | none => _) = _
  rw [List.getElem?_eq_getElem h]
set_option maxHeartbeats 8000000 in
set_option maxRecDepth 20000 in
theorem xcount_any : ∀ (n : Nat) {K : Ctx} {w : World} {v : Value} {l : List St}, Ar 32 496 (StAt n K w) K w v l →
    Calls Tryz.prog 24 #[v] w fun ev w' => ev = .returned (.int .i64 (cw n l)) ∧ ∃ m, w' = w.drewN m
  | 0, K, w, v, l, ha => by
    obtain ⟨ao, cap, rfl, hc, hb, hA⟩ := ha.shape
    have h0 : l = [] := by
      cases l with
      | nil => rfl
      | cons x l => obtain ⟨_, _, _, _, cs, _, _, h⟩ := hA 0 (by simp); exact h.elim
    subst h0
    clear hA ha hb
    go_enter Tryz.func24, Tryz.ntmps24
    go_wp2_with fail
    go_loopw [3, 4] (fun m i wr => m = .int .i64 0 ∧ i = .int .i64 0 ∧ wr = w) (fun _ i _ => 0)
    case atStart => exact ⟨rfl, rfl, rfl⟩
    case round =>
      obtain ⟨rfl, rfl, rfl⟩ := hrel
      go_wp2_with fail
      go_ret
      exact ⟨rfl, 0, rfl⟩
  | n + 1, K, w, v, l, ha => by
    obtain ⟨ao, cap, rfl, hc, hb, hA⟩ := ha.shape
    have hl9 : l.length ≤ 9223372036854775807 := by omega
    have HA : Hid (∀ i (h : i < l.length), ∃ b o vt ve, ao = some ⟨b, o, none⟩ ∧ w.cell? ⟨b, o + i * 32 + 30, none⟩ = some vt ∧ w.cell? ⟨b, o + i * 32 + 31, none⟩ = some ve ∧
        (∀ m, Calls Tryz.prog 24 #[vt] (w.drewN m) fun ev w' => ev = .returned (.int .i64 (cw n (l[i]).thn)) ∧ ∃ m', w' = (w.drewN m).drewN m') ∧
        (∀ m, Calls Tryz.prog 24 #[ve] (w.drewN m) fun ev w' => ev = .returned (.int .i64 (cw n (l[i]).els)) ∧ ∃ m', w' = (w.drewN m).drewN m')) := by
      intro i h
      obtain ⟨b, o, e, _, cs, hl, hcs, hx⟩ := hA i h
      obtain ⟨ts, ps, vs, os, vt, ve, rfl, h1, h2, h3', h4, h5, h6, h7⟩ := id hx
      have l1 := h2.len
      have l2 := h3'.len
      have l3 := h4.len
      have l4 := h5.len
      have pb := part_at hcs (.int .i64 (l[i]).kind :: .int .i64 (l[i]).pos :: .bool (l[i]).mu :: .string (str (l[i]).name) :: (ts ++ (.bool (l[i]).has :: (ps ++ (vs ++ os))))) [vt, ve] [] (k := 30) (n := 2) (by simp [l1, l2, l3, l4]) rfl (by decide) (by simp)
      refine ⟨b, o, vt, ve, e, pb 0 (by decide), pb 1 (by decide), fun m => xcount_any n (K := K) ?_, fun m => xcount_any n (K := K) ?_⟩
      · exact h6.mono (Below.drewN _ _ _) fun _ _ _ h => h.below (Below.drewN _ _ _)
      · exact h7.mono (Below.drewN _ _ _) fun _ _ _ h => h.below (Below.drewN _ _ _)
    clear hA ha hb
    go_enter Tryz.func24, Tryz.ntmps24
    go_wp2_with fail
    go_loopw [3, 4] (fun a i wr => ∃ k : Nat, k ≤ l.length ∧ i = .int .i64 k ∧ a = .int .i64 (cwA (cw n) l k) ∧ ∃ m, wr = w.drewN m) (fun _ i _ => l.length - (intOf i).toNat)
    case atStart => exact ⟨0, by omega, rfl, rfl, 0, rfl⟩
    case round =>
      obtain ⟨k, hk, rfl, rfl, m, hx⟩ := hrel
      have HX : Hid (wr = w.drewN m) := hx
      by_cases h3 : k < l.length
      · obtain ⟨b, o, vt, ve, e, c1, c2, d1, d2⟩ := HA.out k h3
        subst e
        have i1 : (k : Int) < (l.length : Int) := by omega
        have c1' : wr.cell? ⟨b, o + k * 32 + 30, none⟩ = some vt := by rw [hx]; exact c1
        have c2' : wr.cell? ⟨b, o + k * 32 + 31, none⟩ = some ve := by rw [hx]; exact c2
        have D1 : Hid (∀ q, Calls Tryz.prog 24 #[vt] (wr.drewN q) fun ev w' => ev = .returned (.int .i64 (cw n (l[k]).thn)) ∧ ∃ m', w' = (wr.drewN q).drewN m') := fun q => by rw [hx, World.drewN_drewN]; exact d1 (m + q)
        have D2 : Hid (∀ q, Calls Tryz.prog 24 #[ve] (wr.drewN q) fun ev w' => ev = .returned (.int .i64 (cw n (l[k]).els)) ∧ ∃ m', w' = (wr.drewN q).drewN m') := fun q => by rw [hx, World.drewN_drewN]; exact d2 (m + q)
        have HS : Hid (cwA (cw n) l (k + 1) = wrap64 (wrap64 (cwA (cw n) l k + cw n (l[k]).thn) + cw n (l[k]).els)) := cwA_succ _ _ _ h3
        clear d1 d2 c1 c2 hx HA
        generalize cwA (cw n) l k = A at HS ⊢
        generalize cw n (l[k]).thn = T at D1 HS
        generalize cw n (l[k]).els = E at D2 HS
        go_wp2_with fail
        refine wp_region_quiet_lit (by kernel_rfl) (by kernel_rfl) ?_
        iterate 13 go_big_quiet_step (first | (go_at_call 24; exact Calls.quiet_of (D1.out _)))
        repeat (go_big_quiet_step (first | (go_at_call 24; exact Calls.quiet_of (D2.out _))))
        refine wpQuiet_nil ?_
        rintro _ ⟨nq, rfl⟩
        go_wp2_with fail
        go_roundw
        case rel => exact ⟨k + 1, by omega, by go_num, by rw [HS.out], _, by rw [HX.out, World.drewN_drewN]⟩
        case measure => simp [intOf]; omega
      · have i1 : ¬ (k : Int) < (l.length : Int) := by omega
        have hke : Hid (k = l.length) := by show k = l.length; omega
        clear hx
        go_wp2_with fail
        go_ret
        exact ⟨by rw [hke.out]; rfl, m, HX.out⟩

def si (n : Nat) (l : List St) : Nat := (l.map (inner n)).sum
theorem cnt_si (n : Nat) : ∀ l : List St, cnt n l = l.length + si n l
  | [] => rfl
  | s :: l => by
    have h := cnt_si n l
    simp only [cnt_cons, List.length_cons, si, List.map_cons, List.sum_cons] at h ⊢
    omega
theorem si_take (n : Nat) (l : List St) (k : Nat) (h : k < l.length) : si n (l.take (k + 1)) = si n (l.take k) + inner n l[k] := by
  rw [List.take_succ_eq_append_getElem h]
  unfold si
  rw [List.map_append, List.sum_append]
  rfl
theorem si_le (n : Nat) (l : List St) (k : Nat) : si n (l.take k) ≤ si n l := by
  have h : si n l = si n (l.take k) + si n (l.drop k) := by
    have : si n (l.take k ++ l.drop k) = si n (l.take k) + si n (l.drop k) := by unfold si; rw [List.map_append, List.sum_append]
    rwa [List.take_append_drop] at this
  omega
theorem cw_small : ∀ (n : Nat) (l : List St), cnt n l ≤ 4611686018427387904 → cw n l = cnt n l
  | 0, l, _ => by
    have : ∀ l : List St, si 0 l = 0 := by
      intro l
      induction l with
      | nil => rfl
      | cons s l ih => unfold si at ih ⊢; rw [List.map_cons, List.sum_cons, ih]; rfl
    rw [cnt_si, this]
    simp [cw]
  | n + 1, l, h => by
    have hk : ∀ k, k ≤ l.length → cwA (cw n) l k = ((l.length + si (n + 1) (l.take k) : Nat) : Int) := by
      intro k
      induction k with
      | zero => intro _; simp [cwA, si]
      | succ k ih =>
        intro hk
        have h1 := ih (by omega)
        have h2 := si_take (n + 1) l k hk
        have h3 := si_le (n + 1) l (k + 1)
        rw [cnt_si] at h
        have e := inner_succ n l[k]
        have a1 := cw_small n (l[k]).thn (by omega)
        have a2 := cw_small n (l[k]).els (by omega)
        rw [cwA_succ _ _ _ hk, h1, a1, a2, w64_small (a := ((l.length + si (n + 1) (l.take k) : Nat) : Int) + (cnt n (l[k]).thn : Int)) (by omega) (by omega), w64_small (by omega) (by omega), h2, e]
        omega
    show cwA (cw n) l l.length = _
    rw [hk _ (Nat.le_refl _), List.take_length, cnt_si]
end Go.Proofs.YtmopffaocamieaaGreat

namespace Go.Proofs.YtmopffaocamieaaGreat
open Go.RowKit

def dpA (f : List St → Int) (l : List St) : Nat → Int
  | 0 => 0
  | k + 1 => match l[k]? with
    | some s => max (max (dpA f l k) (f s.thn + 1)) (f s.els + 1)
    | none => dpA f l k
/-- How deep the statements lie, to a depth that is given. -/
def dp : Nat → List St → Int
  | 0, _ => 0
  | m + 1, l => dpA (dp m) l l.length
theorem dpA_succ (f : List St → Int) (l : List St) (k : Nat) (h : k < l.length) : dpA f l (k + 1) = max (max (dpA f l k) (f (l[k]).thn + 1)) (f (l[k]).els + 1) := by
  show (match l[k]? with | some s => _ | none => _) = _
  rw [List.getElem?_eq_getElem h]
theorem dpA_in (f : List St → Int) (m : Int) (h0 : 0 ≤ m) (hf : ∀ l, 0 ≤ f l ∧ f l ≤ m) (l : List St) : ∀ k, 0 ≤ dpA f l k ∧ dpA f l k ≤ m + 1
  | 0 => by simp only [dpA]; omega
  | k + 1 => by
    have h := dpA_in f m h0 hf l k
    rcases Nat.lt_or_ge k l.length with hk | hk
    · rw [dpA_succ f l k hk]
      have h1 := hf (l[k]).thn
      have h2 := hf (l[k]).els
      omega
    · have e : dpA f l (k + 1) = dpA f l k := by
        show (match l[k]? with | some s => _ | none => _) = _
        rw [List.getElem?_eq_none hk]
      rw [e]
      exact h
theorem max_ite (a b c : Int) : (if (if a < b then b else a) < c then c else if a < b then b else a) = max (max a b) c := by
  by_cases h : a < b
  · simp only [h, if_true]
    by_cases h' : b < c
    · simp only [h', if_true]; omega
    · simp only [h', if_false]; omega
  · simp only [h, if_false]
    by_cases h' : a < c
    · simp only [h', if_true]; omega
    · simp only [h', if_false]; omega
theorem dp_in : ∀ (m : Nat) (l : List St), 0 ≤ dp m l ∧ dp m l ≤ m
  | 0, _ => by simp [dp]
  | m + 1, l => by
    have h := dpA_in (dp m) m (by omega) (dp_in m) l l.length
    show 0 ≤ dpA (dp m) l l.length ∧ dpA (dp m) l l.length ≤ ((m + 1 : Nat) : Int)
    omega
set_option maxHeartbeats 8000000 in
set_option maxRecDepth 20000 in
theorem xdeep_any : ∀ (m : Nat), m ≤ 1000 → ∀ {n : Nat} {K : Ctx} {w : World} {v : Value} {l : List St} (M : Int), M = m → Ar 32 496 (StAt n K w) K w v l →
    Calls Tryz.prog 23 #[v, .int .i64 M] w fun ev w' => ev = .returned (.int .i64 (dp m l)) ∧ ∃ m', w' = w.drewN m'
  | 0, _, n, K, w, v, l, M, hM, ha => by
    obtain ⟨ao, cap, rfl, hc, hb, hA⟩ := ha.shape
    have M0 : ¬ 0 < M := by omega
    clear hA ha hb hM
    go_enter Tryz.func23, Tryz.ntmps23
    go_wp2_with fail
    go_loopw [5, 6] (fun m i wr => m = .int .i64 0 ∧ (∃ z : Int, i = .int .i64 z) ∧ wr = w) (fun _ i _ => 0)
    case atStart => exact ⟨rfl, ⟨0, rfl⟩, rfl⟩
    case round =>
      obtain ⟨rfl, ⟨z, rfl⟩, rfl⟩ := hrel
      by_cases h3 : z < (l.length : Int)
      · go_wp2_with fail
        go_ret
        exact ⟨rfl, 0, rfl⟩
      · go_wp2_with fail
        go_ret
        exact ⟨rfl, 0, rfl⟩
  | m + 1, hm, n, K, w, v, l, M, hM, ha => by
    obtain ⟨ao, cap, rfl, hc, hb, hA⟩ := ha.shape
    have hl9 : l.length ≤ 9223372036854775807 := by omega
    have M0 : 0 < M := by omega
    have HA : Hid (∀ i (h : i < l.length), ∃ b o vt ve, ao = some ⟨b, o, none⟩ ∧ w.cell? ⟨b, o + i * 32 + 30, none⟩ = some vt ∧ w.cell? ⟨b, o + i * 32 + 31, none⟩ = some ve ∧
        (∀ q, Calls Tryz.prog 23 #[vt, .int .i64 (M - 1)] (w.drewN q) fun ev w' => ev = .returned (.int .i64 (dp m (l[i]).thn)) ∧ ∃ m', w' = (w.drewN q).drewN m') ∧
        (∀ q, Calls Tryz.prog 23 #[ve, .int .i64 (M - 1)] (w.drewN q) fun ev w' => ev = .returned (.int .i64 (dp m (l[i]).els)) ∧ ∃ m', w' = (w.drewN q).drewN m')) := by
      intro i h
      obtain ⟨b, o, e, _, cs, hl, hcs, hx⟩ := hA i h
      cases n with
      | zero => exact hx.elim
      | succ n =>
      obtain ⟨ts, ps, vs, os, vt, ve, rfl, h1, h2, h3', h4, h5, h6, h7⟩ := id hx
      have l1 := h2.len
      have l2 := h3'.len
      have l3 := h4.len
      have l4 := h5.len
      have pb := part_at hcs (.int .i64 (l[i]).kind :: .int .i64 (l[i]).pos :: .bool (l[i]).mu :: .string (str (l[i]).name) :: (ts ++ (.bool (l[i]).has :: (ps ++ (vs ++ os))))) [vt, ve] [] (k := 30) (n := 2) (by simp [l1, l2, l3, l4]) rfl (by decide) (by simp)
      refine ⟨b, o, vt, ve, e, pb 0 (by decide), pb 1 (by decide), fun q => xdeep_any m (by omega) (n := n) (K := K) (M - 1) (by omega) ?_, fun q => xdeep_any m (by omega) (n := n) (K := K) (M - 1) (by omega) ?_⟩
      · exact h6.mono (Below.drewN _ _ _) fun _ _ _ h => h.below (Below.drewN _ _ _)
      · exact h7.mono (Below.drewN _ _ _) fun _ _ _ h => h.below (Below.drewN _ _ _)
    have HM : Hid (M = ((m + 1 : Nat) : Int)) := hM
    have wM : IntKind.i64.wrap (M - 1) = M - 1 := wrap_small (by omega) (by omega)
    clear hA ha hb hM
    go_enter Tryz.func23, Tryz.ntmps23
    go_wp2_with fail
    go_loopw [5, 6] (fun a i wr => ∃ k : Nat, k ≤ l.length ∧ i = .int .i64 k ∧ a = .int .i64 (dpA (dp m) l k) ∧ ∃ m, wr = w.drewN m) (fun _ i _ => l.length - (intOf i).toNat)
    case atStart => exact ⟨0, by omega, rfl, rfl, 0, rfl⟩
    case round =>
      obtain ⟨k, hk, rfl, rfl, p, hx⟩ := hrel
      have HX : Hid (wr = w.drewN p) := hx
      by_cases h3 : k < l.length
      · obtain ⟨b, o, vt, ve, e, c1, c2, d1, d2⟩ := HA.out k h3
        subst e
        have i1 : (k : Int) < (l.length : Int) := by omega
        have c1' : wr.cell? ⟨b, o + k * 32 + 30, none⟩ = some vt := by rw [hx]; exact c1
        have c2' : wr.cell? ⟨b, o + k * 32 + 31, none⟩ = some ve := by rw [hx]; exact c2
        have D1 : Hid (∀ q, Calls Tryz.prog 23 #[vt, .int .i64 (M - 1)] (wr.drewN q) fun ev w' => ev = .returned (.int .i64 (dp m (l[k]).thn)) ∧ ∃ m', w' = (wr.drewN q).drewN m') := fun q => by rw [hx, World.drewN_drewN]; exact d1 (p + q)
        have D2 : Hid (∀ q, Calls Tryz.prog 23 #[ve, .int .i64 (M - 1)] (wr.drewN q) fun ev w' => ev = .returned (.int .i64 (dp m (l[k]).els)) ∧ ∃ m', w' = (wr.drewN q).drewN m') := fun q => by rw [hx, World.drewN_drewN]; exact d2 (p + q)
        have HS : Hid (dpA (dp m) l (k + 1) = max (max (dpA (dp m) l k) (dp m (l[k]).thn + 1)) (dp m (l[k]).els + 1)) := dpA_succ _ _ _ h3
        have hT := dp_in m (l[k]).thn
        have hE := dp_in m (l[k]).els
        have wT : IntKind.i64.wrap (dp m (l[k]).thn + 1) = dp m (l[k]).thn + 1 := wrap_small (by omega) (by omega)
        have wE : IntKind.i64.wrap (dp m (l[k]).els + 1) = dp m (l[k]).els + 1 := wrap_small (by omega) (by omega)
        clear d1 d2 c1 c2 hx HA hT hE
        generalize dpA (dp m) l k = A at HS ⊢
        generalize dp m (l[k]).thn = T at D1 HS wT
        generalize dp m (l[k]).els = E at D2 HS wE
        go_wp2_with fail
        refine wp_region_quiet_lit (by kernel_rfl) (by kernel_rfl) ?_
        iterate 17 go_big_quiet_step (first | (go_at_call 23; exact Calls.quiet_of (D1.out _)))
        repeat (go_big_quiet_step (first | (go_at_call 23; exact Calls.quiet_of (D2.out _))))
        refine wpQuiet_nil ?_
        rintro _ ⟨nq, rfl⟩
        go_wp2_with fail
        go_roundw
        case rel => exact ⟨k + 1, by omega, by go_num, by rw [HS.out, ← max_ite], _, by rw [HX.out, World.drewN_drewN]⟩
        case measure => simp [intOf]; omega
      · have i1 : ¬ (k : Int) < (l.length : Int) := by omega
        have hke : Hid (k = l.length) := by show k = l.length; omega
        clear hx
        go_wp2_with fail
        go_ret
        exact ⟨by rw [hke.out]; rfl, p, HX.out⟩
end Go.Proofs.YtmopffaocamieaaGreat

namespace Go.Proofs.YtmopffaocamieaaGreat
open Go.RowKit

def Grt (n : Nat) (f : Fnc) : Prop := 68 < dp 70 f.body ∨ 2100 < f.body.length ∨ 2100 < cw n f.body
def GrtC (n : Nat) (c : Crt) : Prop := 300 < c.structs.length ∨ 300 < c.funcs.length ∨ ∃ f ∈ c.funcs, Grt n f
theorem Fnc.body_at {n : Nat} {K : Ctx} {w : World} {cs : List Value} {f : Fnc} (h : FncAt n K w cs f) : ∃ v, cs[8]? = some v ∧ Ar 32 496 (StAt n K w) K w v f.body := by
  obtain ⟨v2, v3, ts, v8, rfl, hl, hli, hpa, hre, hbo⟩ := h
  obtain ⟨t2, m2, d2, t3, m3, d3, rfl⟩ := hre.open
  exact ⟨v8, rfl, hbo⟩
set_option maxHeartbeats 8000000 in
set_option maxRecDepth 20000 in
theorem great_any {n : Nat} {K : Ctx} {w : World} (hC : K.C ≤ w.heap.size) {c : Crt} {cs : List Value} (hc : CrtAt n K w cs c) (B : Bool) (hB : B = true ↔ GrtC n c) :
    Calls Tryz.prog 8 #[.agg cs.toArray] w fun ev w' => ev = .returned (.bool B) ∧ Below w.heap.size w w' := by
  obtain ⟨v0, v1, rfl, h0, h1⟩ := hc
  obtain ⟨a0, c0, rfl, g0, gb0, hz⟩ := h0.shape
  clear hz
  obtain ⟨a1, c1, rfl, g1, gb1, hA⟩ := h1.shape
  have l0 : c.structs.length ≤ 9223372036854775807 := by omega
  have l1 : c.funcs.length ≤ 9223372036854775807 := by omega
  have HA : Hid (∀ i (h : i < c.funcs.length), ∃ b o v, a1 = some ⟨b, o, none⟩ ∧ b < K.C ∧ w.cell? ⟨b, o + i * 10 + 8, none⟩ = some v ∧ Ar 32 496 (StAt n K w) K w v (c.funcs[i]).body) := by
    intro i h
    obtain ⟨b, o, e, hb, cs, hl, hcs, hx⟩ := hA i h
    obtain ⟨v, e8, hv⟩ := Fnc.body_at hx
    exact ⟨b, o, v, e, hb, by rw [hcs 8 (by omega), e8], hv⟩
  have HC : Hid (K.C ≤ w.heap.size) := hC
  have HQ : Hid (GrtC n c → B = true) := fun h => hB.2 h
  have HF : Hid (¬ GrtC n c → B = false) := fun h => by cases hb : B with | false => rfl | true => exact absurd (hB.1 hb) h
  clear hB
  clear hA h0 h1 hC gb0 gb1
  have HS : Hid (∀ m, (w.alloc (.cells #[.slice a0 c.structs.length c0, .slice a1 c.funcs.length c1] 25)).cell? ⟨w.heap.size, m, none⟩ = [Value.slice a0 c.structs.length c0, .slice a1 c.funcs.length c1][m]?) := fun m => (Row.new w 25 [.slice a0 c.structs.length c0, .slice a1 c.funcs.length c1]).cell m
  by_cases s0 : (300 : Int) < (c.structs.length : Int)
  · have HT : Hid (GrtC n c) := .inl (by omega)
    go_enter Tryz.func8, Tryz.ntmps8
    go_wp2_with fail
    go_ret
    exact ⟨by rw [HQ.out HT.out]; rfl, alloc_one _ _⟩
  by_cases s1 : (300 : Int) < (c.funcs.length : Int)
  · have HT : Hid (GrtC n c) := .inr (.inl (by omega))
    go_enter Tryz.func8, Tryz.ntmps8
    go_wp2_with fail
    go_ret
    exact ⟨by rw [HQ.out HT.out]; rfl, alloc_one _ _⟩
  have HN : Hid (¬ 300 < c.structs.length ∧ ¬ 300 < c.funcs.length) := ⟨by omega, by omega⟩
  go_enter Tryz.func8, Tryz.ntmps8
  go_wp2_with fail
  go_loopw [3] (fun i wr => ∃ k : Nat, k ≤ c.funcs.length ∧ i = .int .i64 k ∧ (∀ j (h : j < c.funcs.length), j < k → ¬ Grt n c.funcs[j]) ∧ ∃ m, wr = (w.alloc (.cells #[.slice a0 c.structs.length c0, .slice a1 c.funcs.length c1] 25)).drewN m) (fun i _ => c.funcs.length - (intOf i).toNat)
  case atStart => exact ⟨0, by omega, rfl, fun j _ h => by omega, 0, rfl⟩
  case round =>
    obtain ⟨k, hk, rfl, hj, m, hx⟩ := hrel
    have HX : Hid (wr = (w.alloc (.cells #[.slice a0 c.structs.length c0, .slice a1 c.funcs.length c1] 25)).drewN m) := hx
    have HJ : Hid (∀ j (h : j < c.funcs.length), j < k → ¬ Grt n c.funcs[j]) := hj
    have HB : Hid (∀ q, Below w.heap.size w (wr.drewN q)) := fun q => by rw [hx]; exact (alloc_one _ _).trans ((Below.drewN _ _ _).trans (Below.drewN _ _ _))
    have HB0 : Hid (Below w.heap.size w wr) := by show Below _ _ _; rw [hx]; exact (alloc_one _ _).trans (Below.drewN _ _ _)
    have b1 : wr.cell? ⟨w.heap.size, 1, none⟩ = some (.slice a1 c.funcs.length c1) := by rw [hx]; exact HS.out 1
    clear hj hx
    by_cases h3 : k < c.funcs.length
    · obtain ⟨b, o, v, e, hbC, c8, hv⟩ := HA.out k h3
      subst e
      have i1 : (k : Int) < (c.funcs.length : Int) := by omega
      have c8' : wr.cell? ⟨b, o + k * 10 + 8, none⟩ = some v := by rw [HB0.out.cell (p := ⟨b, o + k * 10 + 8, none⟩) (Nat.lt_of_lt_of_le hbC HC.out)]; exact c8
      have D1 : Hid (Calls Tryz.prog 23 #[v, .int .i64 70] wr fun ev w' => ev = .returned (.int .i64 (dp 70 (c.funcs[k]).body)) ∧ ∃ m', w' = wr.drewN m') := xdeep_any 70 (by decide) (n := n) (K := K) 70 (by decide) (hv.mono (below_le HB0.out HC.out) fun _ _ _ h => h.below (below_le HB0.out HC.out))
      have D2 : Hid (∀ q, Calls Tryz.prog 24 #[v] (wr.drewN q) fun ev w' => ev = .returned (.int .i64 (cw n (c.funcs[k]).body)) ∧ ∃ m', w' = (wr.drewN q).drewN m') := fun q => xcount_any n (K := K) (hv.mono (below_le (HB.out q) HC.out) fun _ _ _ h => h.below (below_le (HB.out q) HC.out))
      have HG : Hid (Grt n c.funcs[k] ↔ 68 < dp 70 (c.funcs[k]).body ∨ 2100 < (c.funcs[k]).body.length ∨ 2100 < cw n (c.funcs[k]).body) := Iff.rfl
      have HT : Hid (Grt n c.funcs[k] → GrtC n c) := fun h => .inr (.inr ⟨_, List.getElem_mem h3, h⟩)
      have HK : Hid (¬ Grt n c.funcs[k] → ∀ j (h : j < c.funcs.length), j < k + 1 → ¬ Grt n c.funcs[j]) := by
        intro hn j h hjk
        rcases Nat.lt_or_ge j k with hl | hl
        · exact HJ.out j h hl
        · obtain rfl : j = k := by omega
          exact hn
      obtain ⟨av, cv, ev⟩ := hv.form
      subst ev
      clear hv c8 HA HJ HN HS s0 s1 g0 g1
      generalize dp 70 (c.funcs[k]).body = D at D1 HG
      generalize cw n (c.funcs[k]).body = C at D2 HG
      generalize (c.funcs[k]).body.length = L at c8' D1 D2 HG
      by_cases p1 : (68 : Int) < D
      · have hg : Hid (GrtC n c) := HT.out (HG.out.2 (.inl p1))
        clear HG HT HK
        go_wp2_with (first | (go_at_call 23; refine D1.out.mono ?_; rintro _ _ ⟨rfl, m1, rfl⟩))
        go_ret
        exact ⟨by rw [HQ.out hg.out]; rfl, HB.out _⟩
      by_cases p2 : (2100 : Int) < (L : Int)
      · have hg : Hid (GrtC n c) := HT.out (HG.out.2 (.inr (.inl (by omega))))
        clear HG HT HK
        go_wp2_with (first | (go_at_call 23; refine D1.out.mono ?_; rintro _ _ ⟨rfl, m1, rfl⟩))
        go_ret
        exact ⟨by rw [HQ.out hg.out]; rfl, HB.out _⟩
      by_cases p3 : (2100 : Int) < C
      · have hg : Hid (GrtC n c) := HT.out (HG.out.2 (.inr (.inr p3)))
        clear HG HT HK
        go_wp2_with (first | (go_at_call 23; refine D1.out.mono ?_; rintro _ _ ⟨rfl, m1, rfl⟩) | (go_at_call 24; refine (D2.out _).mono ?_; rintro _ _ ⟨rfl, m2, rfl⟩))
        go_ret
        exact ⟨by rw [HQ.out hg.out]; rfl, by first | exact HB.out _ | (rw [World.drewN_drewN]; exact HB.out _)⟩
      · have hg : Hid (∀ j (h : j < c.funcs.length), j < k + 1 → ¬ Grt n c.funcs[j]) := HK.out (fun h => by have := HG.out.1 h; omega)
        clear HG HT HK
        go_wp2_with (first | (go_at_call 23; refine D1.out.mono ?_; rintro _ _ ⟨rfl, m1, rfl⟩) | (go_at_call 24; refine (D2.out _).mono ?_; rintro _ _ ⟨rfl, m2, rfl⟩))
        go_roundw
        case rel => exact ⟨k + 1, by omega, by go_num, hg.out, _, by rw [HX.out, World.drewN_drewN]⟩
        case measure => simp [intOf]; omega
    · have i1 : ¬ (k : Int) < (c.funcs.length : Int) := by omega
      have hg : Hid (¬ GrtC n c) := by
        rintro (h | h | ⟨f, hf, h⟩)
        · exact HN.out.1 h
        · exact HN.out.2 h
        · obtain ⟨j, hj, rfl⟩ := List.getElem_of_mem hf
          exact HJ.out j hj (by omega) h
      go_wp2_with fail
      go_ret
      exact ⟨by rw [HF.out hg.out]; rfl, HB0.out⟩
end Go.Proofs.YtmopffaocamieaaGreat
