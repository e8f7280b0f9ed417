/-
  The texts Xct, Xdp, joined.
-/
import Derived.Test.YtjenmmkamhplkaaGreatJqbaLbm3
namespace Go.Proofs.YtjenmmkamhplkaaGreat
open Go.RowKit
def cwA (f : List St -> Int) (l : List St) : Nat -> Int
 | 0 => l.length
 | k + 1 => match l[k]? with
  | some s => wrap64 (wrap64 (cwA f l k + f s.thn) + f s.els)
  | none => cwA f l k
def cw : Nat -> List St -> Int
 | 0, l => l.length
 | n + 1, l => cwA (cw n) l l.length
theorem cwA_succ (f : List St -> Int) (l : List St) (k : Nat) (h : k < l.length) : cwA f l (k + 1) = wrap64 (wrap64 (cwA f l k + f (l[k]).thn) + f (l[k]).els) := by
 show (match l[k]? with | some s => _ | none => _) = _
 rw [List.getElem?_eq_getElem h]
set_option maxHeartbeats 8000000 in
set_option maxRecDepth 20000 in
theorem xcount_any : ∀ (n : Nat) {K : Ctx} {w : World} {v : Value} {l : List St}, Ar 32 496 (StAt n K w) K w v l ->
  Calls Tryz.prog 17 #[v] w fun ev w' => ev = .returned (.int .i64 (cw n l)) /\ ∃ m, w' = w.drewN m
 | 0, K, w, v, l, ha => by
  obtain ⟨ao, cap, rfl, hc, hb, hA⟩ := ha.shape
  have h0 : l = [] := by
   cases l with
   | nil => rfl
   | cons x l => obtain ⟨_, _, _, _, cs, _, _, h⟩ := hA 0 (by simp); exact h.elim
  subst h0
  clear hA ha hb
  go_enter Tryz.func17, Tryz.ntmps17
  go_wp2_with fail
  go_loopw [3, 4] (fun m i wr => m = .int .i64 0 /\ i = .int .i64 0 /\ wr = w) (fun _ i _ => 0)
  case atStart => exact ⟨rfl, rfl, rfl⟩
  case round =>
   obtain ⟨rfl, rfl, rfl⟩ := hrel
   go_wp2_with fail
   go_ret
   exact ⟨rfl, 0, rfl⟩
 | n + 1, K, w, v, l, ha => by
  obtain ⟨ao, cap, rfl, hc, hb, hA⟩ := ha.shape
  have hl9 : l.length <= 9223372036854775807 := by omega
  have HA : Hid (∀ i (h : i < l.length), ∃ b o vt ve, ao = some ⟨b, o, none⟩ /\ w.cell? ⟨b, o + i * 32 + 30, none⟩ = some vt /\ w.cell? ⟨b, o + i * 32 + 31, none⟩ = some ve /\
    (∀ m, Calls Tryz.prog 17 #[vt] (w.drewN m) fun ev w' => ev = .returned (.int .i64 (cw n (l[i]).thn)) /\ ∃ m', w' = (w.drewN m).drewN m') /\
    (∀ m, Calls Tryz.prog 17 #[ve] (w.drewN m) fun ev w' => ev = .returned (.int .i64 (cw n (l[i]).els)) /\ ∃ m', w' = (w.drewN m).drewN m')) := by
   intro i h
   obtain ⟨b, o, e, _, cs, hl, hcs, hx⟩ := hA i h
   obtain ⟨ts, ps, vs, os, vt, ve, rfl, h1, h2, h3', h4, h5, h6, h7⟩ := id hx
   have l1 := h2.len
   have l2 := h3'.len
   have l3 := h4.len
   have l4 := h5.len
   have pb := part_at hcs (.int .i64 (l[i]).kind :: .int .i64 (l[i]).pos :: .bool (l[i]).mu :: .string (str (l[i]).name) :: (ts ++ (.bool (l[i]).has :: (ps ++ (vs ++ os))))) [vt, ve] [] (k := 30) (n := 2) (by simp [l1, l2, l3, l4]) rfl (by decide) (by simp)
   refine ⟨b, o, vt, ve, e, pb 0 (by decide), pb 1 (by decide), fun m => xcount_any n (K := K) ?_, fun m => xcount_any n (K := K) ?_⟩
   ·exact h6.mono (Below.drewN _ _ _) fun _ _ _ h => h.below (Below.drewN _ _ _)
   ·exact h7.mono (Below.drewN _ _ _) fun _ _ _ h => h.below (Below.drewN _ _ _)
  clear hA ha hb
  go_enter Tryz.func17, Tryz.ntmps17
  go_wp2_with fail
  go_loopw [3, 4] (fun a i wr => ∃ k : Nat, k <= l.length /\ i = .int .i64 k /\ a = .int .i64 (cwA (cw n) l k) /\ ∃ m, wr = w.drewN m) (fun _ i _ => l.length - (intOf i).toNat)
  case atStart => exact ⟨0, by omega, rfl, rfl, 0, rfl⟩
  case round =>
   obtain ⟨k, hk, rfl, rfl, m, hx⟩ := hrel
   have HX : Hid (wr = w.drewN m) := hx
   by_cases h3 : k < l.length
   ·obtain ⟨b, o, vt, ve, e, c1, c2, d1, d2⟩ := HA.out k h3
    subst e
    have i1 : (k : Int) < (l.length : Int) := by omega
    have c1' : wr.cell? ⟨b, o + k * 32 + 30, none⟩ = some vt := by rw [hx]; exact c1
    have c2' : wr.cell? ⟨b, o + k * 32 + 31, none⟩ = some ve := by rw [hx]; exact c2
    have D1 : Hid (∀ q, Calls Tryz.prog 17 #[vt] (wr.drewN q) fun ev w' => ev = .returned (.int .i64 (cw n (l[k]).thn)) /\ ∃ m', w' = (wr.drewN q).drewN m') := fun q => by rw [hx, World.drewN_drewN]; exact d1 (m + q)
    have D2 : Hid (∀ q, Calls Tryz.prog 17 #[ve] (wr.drewN q) fun ev w' => ev = .returned (.int .i64 (cw n (l[k]).els)) /\ ∃ m', w' = (wr.drewN q).drewN m') := fun q => by rw [hx, World.drewN_drewN]; exact d2 (m + q)
    have HS : Hid (cwA (cw n) l (k + 1) = wrap64 (wrap64 (cwA (cw n) l k + cw n (l[k]).thn) + cw n (l[k]).els)) := cwA_succ _ _ _ h3
    clear d1 d2 c1 c2 hx HA
    generalize cwA (cw n) l k = A at HS ⊢
    generalize cw n (l[k]).thn = T at D1 HS
    generalize cw n (l[k]).els = E at D2 HS
    go_wp2_with fail
    refine wp_region_quiet_lit (by kernel_rfl) (by kernel_rfl) ?_
    iterate 13 go_big_quiet_step (first | (go_at_call 17; exact Calls.quiet_of (D1.out _)))
    repeat (go_big_quiet_step (first | (go_at_call 17; exact Calls.quiet_of (D2.out _))))
    refine wpQuiet_nil ?_
    rintro _ ⟨nq, rfl⟩
    go_wp2_with fail
    go_roundw
    case rel => exact ⟨k + 1, by omega, by go_num, by rw [HS.out], _, by rw [HX.out, World.drewN_drewN]⟩
    case measure => simp [intOf]; omega
   ·have i1 : ¬ (k : Int) < (l.length : Int) := by omega
    have hke : Hid (k = l.length) := by show k = l.length; omega
    clear hx
    go_wp2_with fail
    go_ret
    exact ⟨by rw [hke.out]; rfl, m, HX.out⟩
def si (n : Nat) (l : List St) : Nat := (l.map (inner n)).sum

def dpA (f : List St -> Int) (l : List St) : Nat -> Int
 | 0 => 0
 | k + 1 => match l[k]? with
  | some s => max (max (dpA f l k) (f s.thn + 1)) (f s.els + 1)
  | none => dpA f l k
def dp : Nat -> List St -> Int
 | 0, _ => 0
 | m + 1, l => dpA (dp m) l l.length
theorem dpA_succ (f : List St -> Int) (l : List St) (k : Nat) (h : k < l.length) : dpA f l (k + 1) = max (max (dpA f l k) (f (l[k]).thn + 1)) (f (l[k]).els + 1) := by
 show (match l[k]? with | some s => _ | none => _) = _
 rw [List.getElem?_eq_getElem h]
theorem dpA_in (f : List St -> Int) (m : Int) (h0 : 0 <= m) (hf : ∀ l, 0 <= f l /\ f l <= m) (l : List St) : ∀ k, 0 <= dpA f l k /\ dpA f l k <= m + 1
 | 0 => by simp only [dpA]; omega
 | k + 1 => by
  have h := dpA_in f m h0 hf l k
  rcases Nat.lt_or_ge k l.length with hk | hk
  ·rw [dpA_succ f l k hk]
   have h1 := hf (l[k]).thn
   have h2 := hf (l[k]).els
   omega
  ·have e : dpA f l (k + 1) = dpA f l k := by
    show (match l[k]? with | some s => _ | none => _) = _
    rw [List.getElem?_eq_none hk]
   rw [e]
   exact h
theorem max_ite (a b c : Int) : (if (if a < b then b else a) < c then c else if a < b then b else a) = max (max a b) c := by
 by_cases h : a < b
 ·simp only [h, if_true]
  by_cases h' : b < c
  ·simp only [h', if_true]; omega
  ·simp only [h', if_false]; omega
 ·simp only [h, if_false]
  by_cases h' : a < c
  ·simp only [h', if_true]; omega
  ·simp only [h', if_false]; omega
theorem dp_in : ∀ (m : Nat) (l : List St), 0 <= dp m l /\ dp m l <= m
 | 0, _ => by simp [dp]
 | m + 1, l => by
  have h := dpA_in (dp m) m (by omega) (dp_in m) l l.length
  show 0 <= dpA (dp m) l l.length /\ dpA (dp m) l l.length <= ((m + 1 : Nat) : Int)
  omega
set_option maxHeartbeats 8000000 in
set_option maxRecDepth 20000 in
theorem xdeep_any : ∀ (m : Nat), m <= 1000 -> ∀ {n : Nat} {K : Ctx} {w : World} {v : Value} {l : List St} (M : Int), M = m -> Ar 32 496 (StAt n K w) K w v l ->
  Calls Tryz.prog 18 #[v, .int .i64 M] w fun ev w' => ev = .returned (.int .i64 (dp m l)) /\ ∃ m', w' = w.drewN m'
 | 0, _, n, K, w, v, l, M, hM, ha => by
  obtain ⟨ao, cap, rfl, hc, hb, hA⟩ := ha.shape
  have M0 : ¬ 0 < M := by omega
  clear hA ha hb hM
  go_enter Tryz.func18, Tryz.ntmps18
  go_wp2_with fail
  go_loopw [5, 6] (fun m i wr => m = .int .i64 0 /\ (∃ z : Int, i = .int .i64 z) /\ wr = w) (fun _ i _ => 0)
  case atStart => exact ⟨rfl, ⟨0, rfl⟩, rfl⟩
  case round =>
   obtain ⟨rfl, ⟨z, rfl⟩, rfl⟩ := hrel
   by_cases h3 : z < (l.length : Int)
   ·go_wp2_with fail
    go_ret
    exact ⟨rfl, 0, rfl⟩
   ·go_wp2_with fail
    go_ret
    exact ⟨rfl, 0, rfl⟩
 | m + 1, hm, n, K, w, v, l, M, hM, ha => by
  obtain ⟨ao, cap, rfl, hc, hb, hA⟩ := ha.shape
  have hl9 : l.length <= 9223372036854775807 := by omega
  have M0 : 0 < M := by omega
  have HA : Hid (∀ i (h : i < l.length), ∃ b o vt ve, ao = some ⟨b, o, none⟩ /\ w.cell? ⟨b, o + i * 32 + 30, none⟩ = some vt /\ w.cell? ⟨b, o + i * 32 + 31, none⟩ = some ve /\
    (∀ q, Calls Tryz.prog 18 #[vt, .int .i64 (M - 1)] (w.drewN q) fun ev w' => ev = .returned (.int .i64 (dp m (l[i]).thn)) /\ ∃ m', w' = (w.drewN q).drewN m') /\
    (∀ q, Calls Tryz.prog 18 #[ve, .int .i64 (M - 1)] (w.drewN q) fun ev w' => ev = .returned (.int .i64 (dp m (l[i]).els)) /\ ∃ m', w' = (w.drewN q).drewN m')) := by
   intro i h
   obtain ⟨b, o, e, _, cs, hl, hcs, hx⟩ := hA i h
   cases n with
   | zero => exact hx.elim
   | succ n =>
   obtain ⟨ts, ps, vs, os, vt, ve, rfl, h1, h2, h3', h4, h5, h6, h7⟩ := id hx
   have l1 := h2.len
   have l2 := h3'.len
   have l3 := h4.len
   have l4 := h5.len
   have pb := part_at hcs (.int .i64 (l[i]).kind :: .int .i64 (l[i]).pos :: .bool (l[i]).mu :: .string (str (l[i]).name) :: (ts ++ (.bool (l[i]).has :: (ps ++ (vs ++ os))))) [vt, ve] [] (k := 30) (n := 2) (by simp [l1, l2, l3, l4]) rfl (by decide) (by simp)
   refine ⟨b, o, vt, ve, e, pb 0 (by decide), pb 1 (by decide), fun q => xdeep_any m (by omega) (n := n) (K := K) (M - 1) (by omega) ?_, fun q => xdeep_any m (by omega) (n := n) (K := K) (M - 1) (by omega) ?_⟩
   ·exact h6.mono (Below.drewN _ _ _) fun _ _ _ h => h.below (Below.drewN _ _ _)
   ·exact h7.mono (Below.drewN _ _ _) fun _ _ _ h => h.below (Below.drewN _ _ _)
  have HM : Hid (M = ((m + 1 : Nat) : Int)) := hM
  have wM : IntKind.i64.wrap (M - 1) = M - 1 := wrap_small (by omega) (by omega)
  clear hA ha hb hM
  go_enter Tryz.func18, Tryz.ntmps18
  go_wp2_with fail
  go_loopw [5, 6] (fun a i wr => ∃ k : Nat, k <= l.length /\ i = .int .i64 k /\ a = .int .i64 (dpA (dp m) l k) /\ ∃ m, wr = w.drewN m) (fun _ i _ => l.length - (intOf i).toNat)
  case atStart => exact ⟨0, by omega, rfl, rfl, 0, rfl⟩
  case round =>
   obtain ⟨k, hk, rfl, rfl, p, hx⟩ := hrel
   have HX : Hid (wr = w.drewN p) := hx
   by_cases h3 : k < l.length
   ·obtain ⟨b, o, vt, ve, e, c1, c2, d1, d2⟩ := HA.out k h3
    subst e
    have i1 : (k : Int) < (l.length : Int) := by omega
    have c1' : wr.cell? ⟨b, o + k * 32 + 30, none⟩ = some vt := by rw [hx]; exact c1
    have c2' : wr.cell? ⟨b, o + k * 32 + 31, none⟩ = some ve := by rw [hx]; exact c2
    have D1 : Hid (∀ q, Calls Tryz.prog 18 #[vt, .int .i64 (M - 1)] (wr.drewN q) fun ev w' => ev = .returned (.int .i64 (dp m (l[k]).thn)) /\ ∃ m', w' = (wr.drewN q).drewN m') := fun q => by rw [hx, World.drewN_drewN]; exact d1 (p + q)
    have D2 : Hid (∀ q, Calls Tryz.prog 18 #[ve, .int .i64 (M - 1)] (wr.drewN q) fun ev w' => ev = .returned (.int .i64 (dp m (l[k]).els)) /\ ∃ m', w' = (wr.drewN q).drewN m') := fun q => by rw [hx, World.drewN_drewN]; exact d2 (p + q)
    have HS : Hid (dpA (dp m) l (k + 1) = max (max (dpA (dp m) l k) (dp m (l[k]).thn + 1)) (dp m (l[k]).els + 1)) := dpA_succ _ _ _ h3
    have hT := dp_in m (l[k]).thn
    have hE := dp_in m (l[k]).els
    have wT : IntKind.i64.wrap (dp m (l[k]).thn + 1) = dp m (l[k]).thn + 1 := wrap_small (by omega) (by omega)
    have wE : IntKind.i64.wrap (dp m (l[k]).els + 1) = dp m (l[k]).els + 1 := wrap_small (by omega) (by omega)
    clear d1 d2 c1 c2 hx HA hT hE
    generalize dpA (dp m) l k = A at HS ⊢
    generalize dp m (l[k]).thn = T at D1 HS wT
    generalize dp m (l[k]).els = E at D2 HS wE
    go_wp2_with fail
    refine wp_region_quiet_lit (by kernel_rfl) (by kernel_rfl) ?_
    iterate 17 go_big_quiet_step (first | (go_at_call 18; exact Calls.quiet_of (D1.out _)))
    repeat (go_big_quiet_step (first | (go_at_call 18; exact Calls.quiet_of (D2.out _))))
    refine wpQuiet_nil ?_
    rintro _ ⟨nq, rfl⟩
    go_wp2_with fail
    go_roundw
    case rel => exact ⟨k + 1, by omega, by go_num, by rw [HS.out, ← max_ite], _, by rw [HX.out, World.drewN_drewN]⟩
    case measure => simp [intOf]; omega
   ·have i1 : ¬ (k : Int) < (l.length : Int) := by omega
    have hke : Hid (k = l.length) := by show k = l.length; omega
    clear hx
    go_wp2_with fail
    go_ret
    exact ⟨by rw [hke.out]; rfl, p, HX.out⟩
end Go.Proofs.YtjenmmkamhplkaaGreat
