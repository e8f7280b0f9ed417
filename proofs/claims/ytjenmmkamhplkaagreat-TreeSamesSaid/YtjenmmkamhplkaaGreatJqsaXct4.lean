/-
  The texts Xct, Xdp, Grt, Tol, joined.
-/
import Derived.Test.YtjenmmkamhplkaaGreatJqsaWlk3
import Derived.Test.YtjenmmkamhplkaaGreatJqsaSmc6
/- How many statements there are, and how deep they lie: the document says it. -/
namespace Go.Proofs.YtjenmmkamhplkaaGreat
open Go.RowKit
def cwA (f : List St -> Int) (l : List St) : Nat -> Int
  | 0 => l.length
  | k + 1 => match l[k]? with
    | some s => wrap64 (wrap64 (cwA f l k + f s.thn) + f s.els)
    | none => cwA f l k
def cw : Nat -> List St -> Int
  | 0, l => l.length
  | n + 1, l => cwA (cw n) l l.length
theorem cwA_succ (f : List St -> Int) (l : List St) (k : Nat) (h : k < l.length) : cwA f l (k + 1) = wrap64 (wrap64 (cwA f l k + f (l[k]).thn) + f (l[k]).els) := by
  show (match l[k]? with | some s => _ | none => _) = _
  rw [List.getElem?_eq_getElem h]
set_option maxHeartbeats 8000000 in
set_option maxRecDepth 20000 in
theorem xcount_any : ∀ (n : Nat) {K : Ctx} {w : World} {v : Value} {l : List St}, Ar 32 496 (StAt n K w) K w v l ->
    Calls Tryz.prog 17 #[v] w fun ev w' => ev = .returned (.int .i64 (cw n l)) /\ ∃ m, w' = w.drewN m
  | 0, K, w, v, l, ha => by
    obtain ⟨ao, cap, rfl, hc, hb, hA⟩ := ha.shape
    have h0 : l = [] := by
      cases l with
      | nil => rfl
      | cons x l => obtain ⟨_, _, _, _, cs, _, _, h⟩ := hA 0 (by simp); exact h.elim
    subst h0
    clear hA ha hb
    go_enter Tryz.func17, Tryz.ntmps17
    go_wp2_with fail
    go_loopw [3, 4] (fun m i wr => m = .int .i64 0 /\ i = .int .i64 0 /\ wr = w) (fun _ i _ => 0)
    case atStart => exact ⟨rfl, rfl, rfl⟩
    case round =>
      obtain ⟨rfl, rfl, rfl⟩ := hrel
      go_wp2_with fail
      go_ret
      exact ⟨rfl, 0, rfl⟩
  | n + 1, K, w, v, l, ha => by
    obtain ⟨ao, cap, rfl, hc, hb, hA⟩ := ha.shape
    have hl9 : l.length <= 9223372036854775807 := by omega
    have HA : Hid (∀ i (h : i < l.length), ∃ b o vt ve, ao = some ⟨b, o, none⟩ /\ w.cell? ⟨b, o + i * 32 + 30, none⟩ = some vt /\ w.cell? ⟨b, o + i * 32 + 31, none⟩ = some ve /\
        (∀ m, Calls Tryz.prog 17 #[vt] (w.drewN m) fun ev w' => ev = .returned (.int .i64 (cw n (l[i]).thn)) /\ ∃ m', w' = (w.drewN m).drewN m') /\
        (∀ m, Calls Tryz.prog 17 #[ve] (w.drewN m) fun ev w' => ev = .returned (.int .i64 (cw n (l[i]).els)) /\ ∃ m', w' = (w.drewN m).drewN m')) := by
      intro i h
      obtain ⟨b, o, e, _, cs, hl, hcs, hx⟩ := hA i h
      obtain ⟨ts, ps, vs, os, vt, ve, rfl, h1, h2, h3', h4, h5, h6, h7⟩ := id hx
      have l1 := h2.len
      have l2 := h3'.len
      have l3 := h4.len
      have l4 := h5.len
      have pb := part_at hcs (.int .i64 (l[i]).kind :: .int .i64 (l[i]).pos :: .bool (l[i]).mu :: .string (str (l[i]).name) :: (ts ++ (.bool (l[i]).has :: (ps ++ (vs ++ os))))) [vt, ve] [] (k := 30) (n := 2) (by simp [l1, l2, l3, l4]) rfl (by decide) (by simp)
      refine ⟨b, o, vt, ve, e, pb 0 (by decide), pb 1 (by decide), fun m => xcount_any n (K := K) ?_, fun m => xcount_any n (K := K) ?_⟩
      . exact h6.mono (Below.drewN _ _ _) fun _ _ _ h => h.below (Below.drewN _ _ _)
      . exact h7.mono (Below.drewN _ _ _) fun _ _ _ h => h.below (Below.drewN _ _ _)
    clear hA ha hb
    go_enter Tryz.func17, Tryz.ntmps17
    go_wp2_with fail
    go_loopw [3, 4] (fun a i wr => ∃ k : Nat, k <= l.length /\ i = .int .i64 k /\ a = .int .i64 (cwA (cw n) l k) /\ ∃ m, wr = w.drewN m) (fun _ i _ => l.length - (intOf i).toNat)
    case atStart => exact ⟨0, by omega, rfl, rfl, 0, rfl⟩
    case round =>
      obtain ⟨k, hk, rfl, rfl, m, hx⟩ := hrel
      have HX : Hid (wr = w.drewN m) := hx
      by_cases h3 : k < l.length
      . obtain ⟨b, o, vt, ve, e, c1, c2, d1, d2⟩ := HA.out k h3
        subst e
        have i1 : (k : Int) < (l.length : Int) := by omega
        have c1' : wr.cell? ⟨b, o + k * 32 + 30, none⟩ = some vt := by rw [hx]; exact c1
        have c2' : wr.cell? ⟨b, o + k * 32 + 31, none⟩ = some ve := by rw [hx]; exact c2
        have D1 : Hid (∀ q, Calls Tryz.prog 17 #[vt] (wr.drewN q) fun ev w' => ev = .returned (.int .i64 (cw n (l[k]).thn)) /\ ∃ m', w' = (wr.drewN q).drewN m') := fun q => by rw [hx, World.drewN_drewN]; exact d1 (m + q)
        have D2 : Hid (∀ q, Calls Tryz.prog 17 #[ve] (wr.drewN q) fun ev w' => ev = .returned (.int .i64 (cw n (l[k]).els)) /\ ∃ m', w' = (wr.drewN q).drewN m') := fun q => by rw [hx, World.drewN_drewN]; exact d2 (m + q)
        have HS : Hid (cwA (cw n) l (k + 1) = wrap64 (wrap64 (cwA (cw n) l k + cw n (l[k]).thn) + cw n (l[k]).els)) := cwA_succ _ _ _ h3
        clear d1 d2 c1 c2 hx HA
        generalize cwA (cw n) l k = A at HS ⊢
        generalize cw n (l[k]).thn = T at D1 HS
        generalize cw n (l[k]).els = E at D2 HS
        go_wp2_with fail
        refine wp_region_quiet_lit (by kernel_rfl) (by kernel_rfl) ?_
        iterate 13 go_big_quiet_step (first | (go_at_call 17; exact Calls.quiet_of (D1.out _)))
        repeat (go_big_quiet_step (first | (go_at_call 17; exact Calls.quiet_of (D2.out _))))
        refine wpQuiet_nil ?_
        rintro _ ⟨nq, rfl⟩
        go_wp2_with fail
        go_roundw
        case rel => exact ⟨k + 1, by omega, by go_num, by rw [HS.out], _, by rw [HX.out, World.drewN_drewN]⟩
        case measure => simp [intOf]; omega
      . have i1 : ¬ (k : Int) < (l.length : Int) := by omega
        have hke : Hid (k = l.length) := by show k = l.length; omega
        clear hx
        go_wp2_with fail
        go_ret
        exact ⟨by rw [hke.out]; rfl, m, HX.out⟩
def si (n : Nat) (l : List St) : Nat := (l.map (inner n)).sum

/- How deep statements lie: the document says it. -/
def dpA (f : List St -> Int) (l : List St) : Nat -> Int
  | 0 => 0
  | k + 1 => match l[k]? with
    | some s => max (max (dpA f l k) (f s.thn + 1)) (f s.els + 1)
    | none => dpA f l k
def dp : Nat -> List St -> Int
  | 0, _ => 0
  | m + 1, l => dpA (dp m) l l.length
theorem dpA_succ (f : List St -> Int) (l : List St) (k : Nat) (h : k < l.length) : dpA f l (k + 1) = max (max (dpA f l k) (f (l[k]).thn + 1)) (f (l[k]).els + 1) := by
  show (match l[k]? with | some s => _ | none => _) = _
  rw [List.getElem?_eq_getElem h]
theorem dpA_in (f : List St -> Int) (m : Int) (h0 : 0 <= m) (hf : ∀ l, 0 <= f l /\ f l <= m) (l : List St) : ∀ k, 0 <= dpA f l k /\ dpA f l k <= m + 1
  | 0 => by simp only [dpA]; omega
  | k + 1 => by
    have h := dpA_in f m h0 hf l k
    rcases Nat.lt_or_ge k l.length with hk | hk
    . rw [dpA_succ f l k hk]
      have h1 := hf (l[k]).thn
      have h2 := hf (l[k]).els
      omega
    . have e : dpA f l (k + 1) = dpA f l k := by
        show (match l[k]? with | some s => _ | none => _) = _
        rw [List.getElem?_eq_none hk]
      rw [e]
      exact h
theorem max_ite (a b c : Int) : (if (if a < b then b else a) < c then c else if a < b then b else a) = max (max a b) c := by
  by_cases h : a < b
  . simp only [h, if_true]
    by_cases h' : b < c
    . simp only [h', if_true]; omega
    . simp only [h', if_false]; omega
  . simp only [h, if_false]
    by_cases h' : a < c
    . simp only [h', if_true]; omega
    . simp only [h', if_false]; omega
theorem dp_in : ∀ (m : Nat) (l : List St), 0 <= dp m l /\ dp m l <= m
  | 0, _ => by simp [dp]
  | m + 1, l => by
    have h := dpA_in (dp m) m (by omega) (dp_in m) l l.length
    show 0 <= dpA (dp m) l l.length /\ dpA (dp m) l l.length <= ((m + 1 : Nat) : Int)
    omega
set_option maxHeartbeats 8000000 in
set_option maxRecDepth 20000 in
theorem xdeep_any : ∀ (m : Nat), m <= 1000 -> ∀ {n : Nat} {K : Ctx} {w : World} {v : Value} {l : List St} (M : Int), M = m -> Ar 32 496 (StAt n K w) K w v l ->
    Calls Tryz.prog 18 #[v, .int .i64 M] w fun ev w' => ev = .returned (.int .i64 (dp m l)) /\ ∃ m', w' = w.drewN m'
  | 0, _, n, K, w, v, l, M, hM, ha => by
    obtain ⟨ao, cap, rfl, hc, hb, hA⟩ := ha.shape
    have M0 : ¬ 0 < M := by omega
    clear hA ha hb hM
    go_enter Tryz.func18, Tryz.ntmps18
    go_wp2_with fail
    go_loopw [5, 6] (fun m i wr => m = .int .i64 0 /\ (∃ z : Int, i = .int .i64 z) /\ wr = w) (fun _ i _ => 0)
    case atStart => exact ⟨rfl, ⟨0, rfl⟩, rfl⟩
    case round =>
      obtain ⟨rfl, ⟨z, rfl⟩, rfl⟩ := hrel
      by_cases h3 : z < (l.length : Int)
      . go_wp2_with fail
        go_ret
        exact ⟨rfl, 0, rfl⟩
      . go_wp2_with fail
        go_ret
        exact ⟨rfl, 0, rfl⟩
  | m + 1, hm, n, K, w, v, l, M, hM, ha => by
    obtain ⟨ao, cap, rfl, hc, hb, hA⟩ := ha.shape
    have hl9 : l.length <= 9223372036854775807 := by omega
    have M0 : 0 < M := by omega
    have HA : Hid (∀ i (h : i < l.length), ∃ b o vt ve, ao = some ⟨b, o, none⟩ /\ w.cell? ⟨b, o + i * 32 + 30, none⟩ = some vt /\ w.cell? ⟨b, o + i * 32 + 31, none⟩ = some ve /\
        (∀ q, Calls Tryz.prog 18 #[vt, .int .i64 (M - 1)] (w.drewN q) fun ev w' => ev = .returned (.int .i64 (dp m (l[i]).thn)) /\ ∃ m', w' = (w.drewN q).drewN m') /\
        (∀ q, Calls Tryz.prog 18 #[ve, .int .i64 (M - 1)] (w.drewN q) fun ev w' => ev = .returned (.int .i64 (dp m (l[i]).els)) /\ ∃ m', w' = (w.drewN q).drewN m')) := by
      intro i h
      obtain ⟨b, o, e, _, cs, hl, hcs, hx⟩ := hA i h
      cases n with
      | zero => exact hx.elim
      | succ n =>
      obtain ⟨ts, ps, vs, os, vt, ve, rfl, h1, h2, h3', h4, h5, h6, h7⟩ := id hx
      have l1 := h2.len
      have l2 := h3'.len
      have l3 := h4.len
      have l4 := h5.len
      have pb := part_at hcs (.int .i64 (l[i]).kind :: .int .i64 (l[i]).pos :: .bool (l[i]).mu :: .string (str (l[i]).name) :: (ts ++ (.bool (l[i]).has :: (ps ++ (vs ++ os))))) [vt, ve] [] (k := 30) (n := 2) (by simp [l1, l2, l3, l4]) rfl (by decide) (by simp)
      refine ⟨b, o, vt, ve, e, pb 0 (by decide), pb 1 (by decide), fun q => xdeep_any m (by omega) (n := n) (K := K) (M - 1) (by omega) ?_, fun q => xdeep_any m (by omega) (n := n) (K := K) (M - 1) (by omega) ?_⟩
      . exact h6.mono (Below.drewN _ _ _) fun _ _ _ h => h.below (Below.drewN _ _ _)
      . exact h7.mono (Below.drewN _ _ _) fun _ _ _ h => h.below (Below.drewN _ _ _)
    have HM : Hid (M = ((m + 1 : Nat) : Int)) := hM
    have wM : IntKind.i64.wrap (M - 1) = M - 1 := wrap_small (by omega) (by omega)
    clear hA ha hb hM
    go_enter Tryz.func18, Tryz.ntmps18
    go_wp2_with fail
    go_loopw [5, 6] (fun a i wr => ∃ k : Nat, k <= l.length /\ i = .int .i64 k /\ a = .int .i64 (dpA (dp m) l k) /\ ∃ m, wr = w.drewN m) (fun _ i _ => l.length - (intOf i).toNat)
    case atStart => exact ⟨0, by omega, rfl, rfl, 0, rfl⟩
    case round =>
      obtain ⟨k, hk, rfl, rfl, p, hx⟩ := hrel
      have HX : Hid (wr = w.drewN p) := hx
      by_cases h3 : k < l.length
      . obtain ⟨b, o, vt, ve, e, c1, c2, d1, d2⟩ := HA.out k h3
        subst e
        have i1 : (k : Int) < (l.length : Int) := by omega
        have c1' : wr.cell? ⟨b, o + k * 32 + 30, none⟩ = some vt := by rw [hx]; exact c1
        have c2' : wr.cell? ⟨b, o + k * 32 + 31, none⟩ = some ve := by rw [hx]; exact c2
        have D1 : Hid (∀ q, Calls Tryz.prog 18 #[vt, .int .i64 (M - 1)] (wr.drewN q) fun ev w' => ev = .returned (.int .i64 (dp m (l[k]).thn)) /\ ∃ m', w' = (wr.drewN q).drewN m') := fun q => by rw [hx, World.drewN_drewN]; exact d1 (p + q)
        have D2 : Hid (∀ q, Calls Tryz.prog 18 #[ve, .int .i64 (M - 1)] (wr.drewN q) fun ev w' => ev = .returned (.int .i64 (dp m (l[k]).els)) /\ ∃ m', w' = (wr.drewN q).drewN m') := fun q => by rw [hx, World.drewN_drewN]; exact d2 (p + q)
        have HS : Hid (dpA (dp m) l (k + 1) = max (max (dpA (dp m) l k) (dp m (l[k]).thn + 1)) (dp m (l[k]).els + 1)) := dpA_succ _ _ _ h3
        have hT := dp_in m (l[k]).thn
        have hE := dp_in m (l[k]).els
        have wT : IntKind.i64.wrap (dp m (l[k]).thn + 1) = dp m (l[k]).thn + 1 := wrap_small (by omega) (by omega)
        have wE : IntKind.i64.wrap (dp m (l[k]).els + 1) = dp m (l[k]).els + 1 := wrap_small (by omega) (by omega)
        clear d1 d2 c1 c2 hx HA hT hE
        generalize dpA (dp m) l k = A at HS ⊢
        generalize dp m (l[k]).thn = T at D1 HS wT
        generalize dp m (l[k]).els = E at D2 HS wE
        go_wp2_with fail
        refine wp_region_quiet_lit (by kernel_rfl) (by kernel_rfl) ?_
        iterate 17 go_big_quiet_step (first | (go_at_call 18; exact Calls.quiet_of (D1.out _)))
        repeat (go_big_quiet_step (first | (go_at_call 18; exact Calls.quiet_of (D2.out _))))
        refine wpQuiet_nil ?_
        rintro _ ⟨nq, rfl⟩
        go_wp2_with fail
        go_roundw
        case rel => exact ⟨k + 1, by omega, by go_num, by rw [HS.out, ← max_ite], _, by rw [HX.out, World.drewN_drewN]⟩
        case measure => simp [intOf]; omega
      . have i1 : ¬ (k : Int) < (l.length : Int) := by omega
        have hke : Hid (k = l.length) := by show k = l.length; omega
        clear hx
        go_wp2_with fail
        go_ret
        exact ⟨by rw [hke.out]; rfl, p, HX.out⟩

/- Is there more than is asked of a crate? -/
def Grt (n : Nat) (f : Fnc) : Prop := 68 < dp 70 f.body ∨ 2100 < f.body.length ∨ 2100 < cw n f.body
def GrtC (n : Nat) (c : Crt) : Prop := 300 < c.structs.length ∨ 300 < c.funcs.length ∨ ∃ f ∈ c.funcs, Grt n f
theorem Fnc.body_at {n : Nat} {K : Ctx} {w : World} {cs : List Value} {f : Fnc} (h : FncAt n K w cs f) : ∃ v, cs[8]? = some v /\ Ar 32 496 (StAt n K w) K w v f.body := by
  obtain ⟨v2, v3, ts, v8, rfl, hl, hli, hpa, hre, hbo⟩ := h
  obtain ⟨t2, m2, d2, t3, m3, d3, rfl⟩ := hre.open
  exact ⟨v8, rfl, hbo⟩
set_option maxHeartbeats 8000000 in
set_option maxRecDepth 20000 in
theorem great_any {n : Nat} {K : Ctx} {w : World} (hC : K.C <= w.heap.size) {c : Crt} {cs : List Value} (hc : CrtAt n K w cs c) (B : Bool) (hB : B = true ↔ GrtC n c) :
    Calls Tryz.prog 7 #[.agg cs.toArray] w fun ev w' => ev = .returned (.bool B) /\ Below w.heap.size w w' := by
  obtain ⟨v0, v1, rfl, h0, h1⟩ := hc
  obtain ⟨a0, c0, rfl, g0, gb0, hz⟩ := h0.shape
  clear hz
  obtain ⟨a1, c1, rfl, g1, gb1, hA⟩ := h1.shape
  have l0 : c.structs.length <= 9223372036854775807 := by omega
  have l1 : c.funcs.length <= 9223372036854775807 := by omega
  have HA : Hid (∀ i (h : i < c.funcs.length), ∃ b o v, a1 = some ⟨b, o, none⟩ /\ b < K.C /\ w.cell? ⟨b, o + i * 10 + 8, none⟩ = some v /\ Ar 32 496 (StAt n K w) K w v (c.funcs[i]).body) := by
    intro i h
    obtain ⟨b, o, e, hb, cs, hl, hcs, hx⟩ := hA i h
    obtain ⟨v, e8, hv⟩ := Fnc.body_at hx
    exact ⟨b, o, v, e, hb, by rw [hcs 8 (by omega), e8], hv⟩
  have HC : Hid (K.C <= w.heap.size) := hC
  have HQ : Hid (GrtC n c -> B = true) := fun h => hB.2 h
  have HF : Hid (¬ GrtC n c -> B = false) := fun h => by cases hb : B with | false => rfl | true => exact absurd (hB.1 hb) h
  clear hB
  clear hA h0 h1 hC gb0 gb1
  have HS : Hid (∀ m, (w.alloc (.cells #[.slice a0 c.structs.length c0, .slice a1 c.funcs.length c1] 25)).cell? ⟨w.heap.size, m, none⟩ = [Value.slice a0 c.structs.length c0, .slice a1 c.funcs.length c1][m]?) := fun m => (Row.new w 25 [.slice a0 c.structs.length c0, .slice a1 c.funcs.length c1]).cell m
  by_cases s0 : (300 : Int) < (c.structs.length : Int)
  . have HT : Hid (GrtC n c) := .inl (by omega)
    go_enter Tryz.func7, Tryz.ntmps7
    go_wp2_with fail
    go_ret
    exact ⟨by rw [HQ.out HT.out]; rfl, alloc_one _ _⟩
  by_cases s1 : (300 : Int) < (c.funcs.length : Int)
  . have HT : Hid (GrtC n c) := .inr (.inl (by omega))
    go_enter Tryz.func7, Tryz.ntmps7
    go_wp2_with fail
    go_ret
    exact ⟨by rw [HQ.out HT.out]; rfl, alloc_one _ _⟩
  have HN : Hid (¬ 300 < c.structs.length /\ ¬ 300 < c.funcs.length) := ⟨by omega, by omega⟩
  go_enter Tryz.func7, Tryz.ntmps7
  go_wp2_with fail
  go_loopw [3] (fun i wr => ∃ k : Nat, k <= c.funcs.length /\ i = .int .i64 k /\ (∀ j (h : j < c.funcs.length), j < k -> ¬ Grt n c.funcs[j]) /\ ∃ m, wr = (w.alloc (.cells #[.slice a0 c.structs.length c0, .slice a1 c.funcs.length c1] 25)).drewN m) (fun i _ => c.funcs.length - (intOf i).toNat)
  case atStart => exact ⟨0, by omega, rfl, fun j _ h => by omega, 0, rfl⟩
  case round =>
    obtain ⟨k, hk, rfl, hj, m, hx⟩ := hrel
    have HX := hid0 hx
    have HJ := hid0 hj
    have HB : Hid (∀ q, Below w.heap.size w (wr.drewN q)) := fun q => by rw [hx]; exact (alloc_one _ _).trans ((Below.drewN _ _ _).trans (Below.drewN _ _ _))
    have HB0 : Hid (Below w.heap.size w wr) := by show Below _ _ _; rw [hx]; exact (alloc_one _ _).trans (Below.drewN _ _ _)
    have b1 : wr.cell? ⟨w.heap.size, 1, none⟩ = some (.slice a1 c.funcs.length c1) := by rw [hx]; exact HS.out 1
    clear hj hx
    by_cases h3 : k < c.funcs.length
    . obtain ⟨b, o, v, e, hbC, c8, hv⟩ := HA.out k h3
      subst e
      have i1 : (k : Int) < (c.funcs.length : Int) := by omega
      have c8' : wr.cell? ⟨b, o + k * 10 + 8, none⟩ = some v := by rw [HB0.out.cell (p := ⟨b, o + k * 10 + 8, none⟩) (Nat.lt_of_lt_of_le hbC HC.out)]; exact c8
      have D1 : Hid (Calls Tryz.prog 18 #[v, .int .i64 70] wr fun ev w' => ev = .returned (.int .i64 (dp 70 (c.funcs[k]).body)) /\ ∃ m', w' = wr.drewN m') := xdeep_any 70 (by decide) (n := n) (K := K) 70 (by decide) (hv.mono (below_le HB0.out HC.out) fun _ _ _ h => h.below (below_le HB0.out HC.out))
      have D2 : Hid (∀ q, Calls Tryz.prog 17 #[v] (wr.drewN q) fun ev w' => ev = .returned (.int .i64 (cw n (c.funcs[k]).body)) /\ ∃ m', w' = (wr.drewN q).drewN m') := fun q => xcount_any n (K := K) (hv.mono (below_le (HB.out q) HC.out) fun _ _ _ h => h.below (below_le (HB.out q) HC.out))
      have HG : Hid (Grt n c.funcs[k] ↔ 68 < dp 70 (c.funcs[k]).body ∨ 2100 < (c.funcs[k]).body.length ∨ 2100 < cw n (c.funcs[k]).body) := Iff.rfl
      have HT : Hid (Grt n c.funcs[k] -> GrtC n c) := fun h => .inr (.inr ⟨_, List.getElem_mem h3, h⟩)
      have HK : Hid (¬ Grt n c.funcs[k] -> ∀ j (h : j < c.funcs.length), j < k + 1 -> ¬ Grt n c.funcs[j]) := by
        intro hn j h hjk
        rcases Nat.lt_or_ge j k with hl | hl
        . exact HJ.out j h hl
        . obtain rfl : j = k := by omega
          exact hn
      obtain ⟨av, cv, ev⟩ := hv.form
      subst ev
      clear hv c8 HA HJ HN HS s0 s1 g0 g1
      generalize dp 70 (c.funcs[k]).body = D at D1 HG
      generalize cw n (c.funcs[k]).body = C at D2 HG
      generalize (c.funcs[k]).body.length = L at c8' D1 D2 HG
      by_cases p1 : (68 : Int) < D
      . have hg : Hid (GrtC n c) := HT.out (HG.out.2 (.inl p1))
        clear HG HT HK
        go_wp2_with (first | (go_at_call 18; refine D1.out.mono ?_; rintro _ _ ⟨rfl, m1, rfl⟩))
        go_ret
        exact ⟨by rw [HQ.out hg.out]; rfl, HB.out _⟩
      by_cases p2 : (2100 : Int) < (L : Int)
      . have hg : Hid (GrtC n c) := HT.out (HG.out.2 (.inr (.inl (by omega))))
        clear HG HT HK
        go_wp2_with (first | (go_at_call 18; refine D1.out.mono ?_; rintro _ _ ⟨rfl, m1, rfl⟩))
        go_ret
        exact ⟨by rw [HQ.out hg.out]; rfl, HB.out _⟩
      by_cases p3 : (2100 : Int) < C
      . have hg : Hid (GrtC n c) := HT.out (HG.out.2 (.inr (.inr p3)))
        clear HG HT HK
        go_wp2_with (first | (go_at_call 18; refine D1.out.mono ?_; rintro _ _ ⟨rfl, m1, rfl⟩) | (go_at_call 17; refine (D2.out _).mono ?_; rintro _ _ ⟨rfl, m2, rfl⟩))
        go_ret
        exact ⟨by rw [HQ.out hg.out]; rfl, by first | exact HB.out _ | (rw [World.drewN_drewN]; exact HB.out _)⟩
      . have hg : Hid (∀ j (h : j < c.funcs.length), j < k + 1 -> ¬ Grt n c.funcs[j]) := HK.out (fun h => by have := HG.out.1 h; omega)
        clear HG HT HK
        go_wp2_with (first | (go_at_call 18; refine D1.out.mono ?_; rintro _ _ ⟨rfl, m1, rfl⟩) | (go_at_call 17; refine (D2.out _).mono ?_; rintro _ _ ⟨rfl, m2, rfl⟩))
        go_roundw
        case rel => exact ⟨k + 1, by omega, by go_num, hg.out, _, by rw [HX.out, World.drewN_drewN]⟩
        case measure => simp [intOf]; omega
    . have i1 : ¬ (k : Int) < (c.funcs.length : Int) := by omega
      have hg : Hid (¬ GrtC n c) := by
        rintro (h | h | ⟨f, hf, h⟩)
        . exact HN.out.1 h
        . exact HN.out.2 h
        . obtain ⟨j, hj, rfl⟩ := List.getElem_of_mem hf
          exact HJ.out j hj (by omega) h
      go_wp2_with fail
      go_ret
      exact ⟨by rw [HF.out hg.out]; rfl, HB0.out⟩

/- Does the program tell what the document says of a few? It does. -/
theorem Stay.rowNe {w w' : World} {g0 g t : Nat} {L : List Value} (h : Stay (fun k => k = g0) w w') (hr : Row w g t L) (hg : g ≠ g0) : Row w' g t L := h.row hr hg
theorem Few.cells {w W : World} {C gp gl gf gg gb : Nat} (h : Few w W C gp gl gf gg gb) : W.cell? ⟨gf, 0, none⟩ = some (.bool false) /\ W.cell? ⟨gf, 1, none⟩ = some (.string ⟨#[102]⟩) /\ W.cell? ⟨gf, 2, none⟩ = some (.slice none 0 0) /\ W.cell? ⟨gf, 3, none⟩ = some (.slice (some ⟨gp, 0, none⟩) 1 1) /\ W.cell? ⟨gf, 4, none⟩ = some (.int .i64 0) /\ W.cell? ⟨gf, 5, none⟩ = some (.string ⟨#[]⟩) /\ W.cell? ⟨gf, 6, none⟩ = some (.slice none 0 0) /\ W.cell? ⟨gf, 7, none⟩ = some (.slice none 0 0) /\ W.cell? ⟨gf, 8, none⟩ = some (.slice (some ⟨gl, 0, none⟩) 1 1) /\ W.cell? ⟨gf, 9, none⟩ = some (.int .i64 0) := ⟨h.fn.cell 0, h.fn.cell 1, h.fn.cell 2, h.fn.cell 3, h.fn.cell 4, h.fn.cell 5, h.fn.cell 6, h.fn.cell 7, h.fn.cell 8, h.fn.cell 9⟩
theorem Few.cellsG {w W : World} {C gp gl gf gg gb : Nat} (h : Few w W C gp gl gf gg gb) : W.cell? ⟨gg, 0, none⟩ = some (.bool false) /\ W.cell? ⟨gg, 1, none⟩ = some (.string ⟨#[102]⟩) /\ W.cell? ⟨gg, 2, none⟩ = some (.slice none 0 0) /\ W.cell? ⟨gg, 3, none⟩ = some (.slice (some ⟨gp, 0, none⟩) 1 1) /\ W.cell? ⟨gg, 4, none⟩ = some (.int .i64 0) /\ W.cell? ⟨gg, 5, none⟩ = some (.string ⟨#[]⟩) /\ W.cell? ⟨gg, 6, none⟩ = some (.slice none 0 0) /\ W.cell? ⟨gg, 7, none⟩ = some (.slice none 0 0) /\ W.cell? ⟨gg, 8, none⟩ = some (.slice (some ⟨gb, 0, none⟩) 1 1) /\ W.cell? ⟨gg, 9, none⟩ = some (.int .i64 0) := ⟨h.gn.cell 0, h.gn.cell 1, h.gn.cell 2, h.gn.cell 3, h.gn.cell 4, h.gn.cell 5, h.gn.cell 6, h.gn.cell 7, h.gn.cell 8, h.gn.cell 9⟩
theorem told3 {w w1 w2 w3 : World} (R1 : Row w1 w.heap.size 49 letC) (b2 : Below w1.heap.size w1 w2) (R2 : Row w2 w1.heap.size 49 letC) (R3 : Row w3 w1.heap.size 49 (letC.take 4 ++ (tyCells 0 ++ letC.drop 8))) (s3 : Stay (fun k => k = w1.heap.size) w2 w3) :
    Row w3 w1.heap.size 49 badC /\ Row w3 w.heap.size 49 letC /\ w.heap.size < w1.heap.size /\ w1.heap.size < w3.heap.size := by
  have z1 := R1.lt
  have z2 := R2.lt
  have z3 := s3.size
  rw [bad_cells] at R3
  exact ⟨R3, s3.rowNe (R1.below b2 z1) (by omega), z1, by omega⟩
theorem told7 {w1 w3 w4 w5 w6 w7 : World} (R3 : Row w3 w1.heap.size 49 badC) (b4 : Below w3.heap.size w3 w4) (z4 : w3.heap.size < w4.heap.size) (b5 : Below w4.heap.size w4 w5) (z5 : w4.heap.size < w5.heap.size) (R6 : Row w6 w5.heap.size 40 (fncC w3.heap.size w4.heap.size)) (b6 : Below w5.heap.size w5 w6)
    (R7 : Row w7 w6.heap.size 40 (fncC w3.heap.size w4.heap.size)) (b7 : Below w6.heap.size w6 w7) (z2 : w1.heap.size < w3.heap.size) : Row w7 w1.heap.size 49 badC /\ w5.heap.size < w6.heap.size /\ w6.heap.size < w7.heap.size := by
  have z6 := R6.lt
  have z7 := R7.lt
  exact ⟨(((R3.below b4 (by omega)).below b5 (by omega)).below b6 (by omega)).below b7 (by omega), z6, z7⟩
theorem told8 {w6 w7 w8 : World} {a b : Nat} (R7 : Row w7 w6.heap.size 40 (fncC a b)) (b8 : Below w7.heap.size w7 w8) (z7 : w6.heap.size < w7.heap.size) :
    w8.cell? ⟨w6.heap.size, 8, none⟩ = some (.slice (some ⟨b, 0, none⟩) 1 1) /\ w8.frozen? ⟨w6.heap.size, 8, none⟩ = false /\ True := by
  have G8 := R7.below b8 z7
  exact ⟨G8.cell 8, G8.fz 8, trivial⟩
set_option maxHeartbeats 8000000 in
set_option maxRecDepth 20000 in
theorem told_any (w : World) (hm : ∃ m, w.cell? ⟨0, 0, none⟩ = some (.int .i64 m)) : Calls Tryz.prog 8 #[] w fun ev w' => ev = .returned (.bool true) /\ Below w.heap.size w w' := by
  have hpos : 0 < w.heap.size := by
    obtain ⟨m, hm⟩ := hm
    exact World.block_lt_of_cell? w ⟨0, 0, none⟩ hm
  have HE : Hid (∀ (W : World) (C gp gl gf gg gb : Nat), Few w W C gp gl gf gg gb -> ∃ K : Ctx, K.C = C /\ K.B = 1 /\ Env K W) := by
    intro W C gp gl gf gg gb h
    obtain ⟨m, hm⟩ := hm
    refine ⟨⟨C, 1, by omega⟩, rfl, rfl, h.size, ?_, ⟨m, (h.below.cell (p := ⟨0, 0, none⟩) hpos).trans hm⟩, by show 1 <= 1048576; omega⟩
    have := h.pos
    show 0 < C
    omega
  have HF : Hid (∀ (W : World) (C gp gl gf gg gb : Nat), Few w W C gp gl gf gg gb -> ∀ K : Ctx, K.C = C -> K.B = 1 -> FncAt 1 K W (fncC gp gl) (fncF letS)) := fun W C gp gl gf gg gb h K h1 h2 => fnc_at 0 K (by omega) h.par h.lt (by have := h.hp; omega) (by have := h.hl; omega) (let_at 0 K (by omega) W)
  have HG : Hid (∀ (W : World) (C gp gl gf gg gb : Nat), Few w W C gp gl gf gg gb -> ∀ K : Ctx, K.C = C -> K.B = 1 -> FncAt 1 K W (fncC gp gb) (fncF badS)) := fun W C gp gl gf gg gb h K h1 h2 => fnc_at 0 K (by omega) h.par h.bd (by have := h.hp; omega) (by have := h.hb; omega) (bad_at 0 K (by omega) W)
  have U1 : Hid (∀ (W : World) (C gp gl gf gg gb : Nat), Few w W C gp gl gf gg gb -> Calls Tryz.prog 9 #[.agg #[.slice none 0 0, .slice none 0 0]] W fun ev w' => ev = .returned (.bool true) /\ Few w w' C gp gl gf gg gb) := by
    intro W C gp gl gf gg gb h
    obtain ⟨K, _, _, hE⟩ := HE.out _ _ _ _ _ _ _ h
    refine (may_any (n := 1) hE (cs := [.slice none 0 0, .slice none 0 0]) (c := ⟨[], []⟩) ⟨_, _, rfl, nil_ar, nil_ar⟩ true ⟨fun _ => ⟨by simp, by simp, by simp⟩, fun _ => rfl⟩).mono ?_
    rintro _ _ ⟨rfl, hb⟩
    exact ⟨rfl, h.next hb⟩
  have HC1 : Hid (∀ (W W' : World) (K : Ctx) (cs : List Value) (f : Fnc), Env K W -> FncAt 1 K W cs f -> Row W' W.heap.size 40 cs -> Below W.heap.size W W' -> ∃ K' : Ctx, Env K' W' /\ CrtAt 1 K' W' [.slice none 0 0, .slice (some ⟨W.heap.size, 0, none⟩) 1 1] ⟨[], [f]⟩) := by
    intro W W' K cs f hE hf hR hA
    have hE2 := hE.below (below_le hA hE.C)
    have hlt := hR.lt
    refine ⟨K.up (W.heap.size + 1), ⟨by show W.heap.size + 1 <= _; omega, by show 0 < W.heap.size + 1; omega, hE2.ml, hE2.B⟩, ?_⟩
    refine ⟨_, _, rfl, nil_ar, one_ar hR hf.len (by decide) (by show W.heap.size < W.heap.size + 1; omega) ?_⟩
    exact (hf.below (below_le hA hE.C)).up (Nat.le_trans hE.C (by omega))
  have U2 : Hid (∀ (W : World) (C gp gl gf gg gb : Nat), Few w W C gp gl gf gg gb -> ∀ W', Row W' W.heap.size 40 (fncC gp gl) -> Below W.heap.size W W' -> Calls Tryz.prog 9 #[.agg #[.slice none 0 0, .slice (some ⟨W.heap.size, 0, none⟩) 1 1]] W' fun ev w' => ev = .returned (.bool true) /\ Few w w' C gp gl gf gg gb) := by
    intro W C gp gl gf gg gb h W' hR hA
    obtain ⟨K, h1, h2, hE⟩ := HE.out _ _ _ _ _ _ _ h
    obtain ⟨K', hE', hc⟩ := HC1.out W W' K _ _ hE (HF.out _ _ _ _ _ _ _ h K h1 h2) hR hA
    have hn := h.next hA
    refine (may_any hE' hc true ⟨fun _ => ⟨by simp, by simp, by intro f hf; simp at hf; subst hf; exact may_fn 0⟩, fun _ => rfl⟩).mono ?_
    rintro _ _ ⟨rfl, hb⟩
    exact ⟨rfl, hn.next hb⟩
  have U3 : Hid (∀ (W : World) (C gp gl gf gg gb : Nat), Few w W C gp gl gf gg gb -> ∀ W', Row W' W.heap.size 40 (fncC gp gb) -> Below W.heap.size W W' -> Calls Tryz.prog 9 #[.agg #[.slice none 0 0, .slice (some ⟨W.heap.size, 0, none⟩) 1 1]] W' fun ev w' => ev = .returned (.bool false) /\ Few w w' C gp gl gf gg gb) := by
    intro W C gp gl gf gg gb h W' hR hA
    obtain ⟨K, h1, h2, hE⟩ := HE.out _ _ _ _ _ _ _ h
    obtain ⟨K', hE', hc⟩ := HC1.out W W' K _ _ hE (HG.out _ _ _ _ _ _ _ h K h1 h2) hR hA
    have hn := h.next hA
    refine (may_any hE' hc false ⟨fun h => (by cases h), fun h => absurd (h.2.2 _ (by simp)) (may_gn 0)⟩).mono ?_
    rintro _ _ ⟨rfl, hb⟩
    exact ⟨rfl, hn.next hb⟩
  have U5 : Hid (∀ (W : World) (C gp gl gf gg gb : Nat), Few w W C gp gl gf gg gb -> Calls Tryz.prog 19 #[.slice (some ⟨gl, 0, none⟩) 1 1] W fun ev w' => ev = .returned (.int .i64 1) /\ Few w w' C gp gl gf gg gb) := by
    intro W C gp gl gf gg gb h
    obtain ⟨K, h1, h2, hE⟩ := HE.out _ _ _ _ _ _ _ h
    refine (count_any (n := 1) hE.C (one_ar h.lt rfl (by decide) (by have := h.hl; omega) (let_at 0 K (by omega) W)) (by decide)).mono ?_
    rintro _ _ ⟨rfl, hb⟩
    exact ⟨rfl, h.next hb⟩
  have U6 : Hid (∀ (W : World) (C gp gl gf gg gb : Nat), Few w W C gp gl gf gg gb -> Calls Tryz.prog 21 #[.agg (fncC gp gl).toArray] W fun ev w' => ∃ v, ev = .returned v /\ Few w w' C gp gl gf gg gb /\ w'.ownsRow W.heap.size 9 1 v 2 (strs [[112], [120]])) := by
    intro W C gp gl gf gg gb h
    obtain ⟨K, h1, h2, hE⟩ := HE.out _ _ _ _ _ _ _ h
    refine (names_any hE.C (HF.out _ _ _ _ _ _ _ h K h1 h2) (by decide)).mono ?_
    rintro _ w' ⟨v, rfl, hb, ho⟩
    rw [names_fn 0] at ho
    exact ⟨v, rfl, h.next hb, ho⟩
  have U4 : Hid (∀ (W : World) (C gp gl gf gg gb : Nat), Few w W C gp gl gf gg gb -> ∀ ao, Calls Tryz.prog 12 #[.agg #[.slice none 0 0, .slice none 0 0], .agg #[.slice ao 0 0, .slice none 0 0]] W fun ev w' => ev = .returned (.bool true) /\ Few w w' C gp gl gf gg gb) := by
    intro W C gp gl gf gg gb h ao
    obtain ⟨K, h1, h2, hE⟩ := HE.out _ _ _ _ _ _ _ h
    refine (same_any (n := 1) hE.C (x := ⟨[], []⟩) (y := ⟨[], []⟩) (cs := [.slice none 0 0, .slice none 0 0]) (cs' := [.slice ao 0 0, .slice none 0 0]) ⟨_, _, rfl, nil_ar, nil_ar⟩ ⟨_, _, rfl, ⟨ao, 0, rfl, Nat.le_refl _, by decide, fun i hi => absurd hi (by simp)⟩, nil_ar⟩ true ⟨fun _ => rfl, fun _ => rfl⟩).mono ?_
    rintro _ _ ⟨rfl, hb⟩
    exact ⟨rfl, h.next hb⟩
  have U7 : Hid (∀ (W : World) (C gp gl gf gg gb : Nat), Few w W C gp gl gf gg gb -> ∀ (B : Nat) (v : Value), W.ownsRow B 9 1 v 2 (strs [[112], [120]]) -> Calls Tryz.prog 20 #[v, .slice (some ⟨W.heap.size, 0, none⟩) 2 2] (W.alloc (.cells #[.string ⟨#[112]⟩, .string ⟨#[120]⟩] 9)) fun ev w' => ev = .returned (.bool true) /\ Below w.heap.size w w') := by
    intro W C gp gl gf gg gb h B v ho
    have a1 : Ar 1 0 (TxAt ⟨W.heap.size, 1, by omega⟩) ⟨W.heap.size, 1, by omega⟩ W v [[112], [120]] := strs_of_own (Nat.le_refl _) (by simp) ho
    have a2 := (a1.mono (alloc_one W (.cells #[.string ⟨#[112]⟩, .string ⟨#[120]⟩] 9)) (fun _ _ _ h => h)).up (C := W.heap.size + 1) (Nat.le_succ _) (P' := TxAt ⟨W.heap.size + 1, 1, by omega⟩) (fun _ _ _ h => h)
    have hR := Row.new W 9 [.string ⟨#[112]⟩, .string ⟨#[120]⟩]
    have a3 : Ar 1 16 (TxAt ⟨W.heap.size + 1, 1, by omega⟩) ⟨W.heap.size + 1, 1, by omega⟩ (W.alloc (.cells #[.string ⟨#[112]⟩, .string ⟨#[120]⟩] 9)) (.slice (some ⟨W.heap.size, 0, none⟩) 2 2) [[112], [120]] := by
      refine ⟨some ⟨W.heap.size, 0, none⟩, 2, rfl, Nat.le_refl _, by decide, fun i hi => ?_⟩
      have hi' : i = 0 ∨ i = 1 := by simp at hi; omega
      rcases hi' with rfl | rfl
      . exact ⟨W.heap.size, 0, rfl, Nat.lt_succ_self _, [.string (str [112])], rfl, fun j hj => (by obtain rfl : j = 0 := by omega
                                                                                                    exact hR.cell 0), rfl, by simp⟩
      . exact ⟨W.heap.size, 0, rfl, Nat.lt_succ_self _, [.string (str [120])], rfl, fun j hj => (by obtain rfl : j = 0 := by omega
                                                                                                    exact hR.cell 1), rfl, by simp⟩
    refine (texts_at a2 a3 (by decide) true ⟨fun _ => rfl, fun _ => rfl⟩).mono ?_
    rintro _ _ ⟨rfl, m, rfl⟩
    exact ⟨rfl, h.below.trans ((below_le (alloc_one W _) h.below.size).trans (Below.drewN _ _ _))⟩
  have U2L : Hid (∀ (W : World) (C gp gl gf gg gb : Nat), Few w W C gp gl gf gg gb -> Calls Tryz.prog 9 #[.agg #[.slice none 0 0, .slice (some ⟨W.heap.size, 0, none⟩) 1 1]] (W.alloc (.cells #[.bool false, .string ⟨#[102]⟩, .slice none 0 0, .slice (some ⟨gp, 0, none⟩) 1 1, .int .i64 0, .string ⟨#[]⟩, .slice none 0 0, .slice none 0 0, .slice (some ⟨gl, 0, none⟩) 1 1, .int .i64 0] 40)) fun ev w' => ev = .returned (.bool true) /\ Few w w' C gp gl gf gg gb) := fun W C gp gl gf gg gb h => U2.out W C gp gl gf gg gb h (W.alloc (.cells #[.bool false, .string ⟨#[102]⟩, .slice none 0 0, .slice (some ⟨gp, 0, none⟩) 1 1, .int .i64 0, .string ⟨#[]⟩, .slice none 0 0, .slice none 0 0, .slice (some ⟨gl, 0, none⟩) 1 1, .int .i64 0] 40)) (Row.new W 40 (fncC gp gl)) (alloc_one _ _)
  have U3L : Hid (∀ (W : World) (C gp gl gf gg gb : Nat), Few w W C gp gl gf gg gb -> Calls Tryz.prog 9 #[.agg #[.slice none 0 0, .slice (some ⟨W.heap.size, 0, none⟩) 1 1]] (W.alloc (.cells #[.bool false, .string ⟨#[102]⟩, .slice none 0 0, .slice (some ⟨gp, 0, none⟩) 1 1, .int .i64 0, .string ⟨#[]⟩, .slice none 0 0, .slice none 0 0, .slice (some ⟨gb, 0, none⟩) 1 1, .int .i64 0] 40)) fun ev w' => ev = .returned (.bool false) /\ Few w w' C gp gl gf gg gb) := fun W C gp gl gf gg gb h => U3.out W C gp gl gf gg gb h (W.alloc (.cells #[.bool false, .string ⟨#[102]⟩, .slice none 0 0, .slice (some ⟨gp, 0, none⟩) 1 1, .int .i64 0, .string ⟨#[]⟩, .slice none 0 0, .slice none 0 0, .slice (some ⟨gb, 0, none⟩) 1 1, .int .i64 0] 40)) (Row.new W 40 (fncC gp gb)) (alloc_one _ _)
  have U6L : Hid (∀ (W : World) (C gp gl gf gg gb : Nat), Few w W C gp gl gf gg gb -> Calls Tryz.prog 21 #[.agg #[.bool false, .string ⟨#[102]⟩, .slice none 0 0, .slice (some ⟨gp, 0, none⟩) 1 1, .int .i64 0, .string ⟨#[]⟩, .slice none 0 0, .slice none 0 0, .slice (some ⟨gl, 0, none⟩) 1 1, .int .i64 0]] W fun ev w' => ∃ v, ev = .returned v /\ Few w w' C gp gl gf gg gb /\ w'.ownsRow W.heap.size 9 1 v 2 (strs [[112], [120]])) := fun W C gp gl gf gg gb h => U6.out W C gp gl gf gg gb h
  have HN : Hid (∀ (W : World) (C gp gl gf gg gb : Nat), Few w W C gp gl gf gg gb -> Below w.heap.size w W) := fun _ _ _ _ _ _ _ h => h.below
  have HR : Hid (∀ (W : World) (C gp gl gf gg gb : Nat), Few w W C gp gl gf gg gb -> Row W gf 40 (fncC gp gl) /\ Row W gg 40 (fncC gp gb)) := fun _ _ _ _ _ _ _ h => ⟨h.fn, h.gn⟩
  have HFW : Hid (∀ (w1 w2 w3 w4 w5 w6 w7 w8 : World), Row w1 w.heap.size 49 letC -> Below w.heap.size w w1 -> Row w2 w1.heap.size 49 letC -> Below w1.heap.size w1 w2 -> Row w3 w1.heap.size 49 badC -> Stay (fun k => k = w1.heap.size) w2 w3
      -> Row w4 w3.heap.size 51 parC -> Below w3.heap.size w3 w4 -> Row w5 w4.heap.size 49 letC -> Below w4.heap.size w4 w5 -> Row w6 w5.heap.size 40 (fncC w3.heap.size w4.heap.size) -> Below w5.heap.size w5 w6
      -> Row w7 w6.heap.size 40 (fncC w3.heap.size w4.heap.size) -> Below w6.heap.size w6 w7 -> Row w8 w7.heap.size 49 badC -> Below w7.heap.size w7 w8
      -> Few w (w8.setCell ⟨w6.heap.size, 8, none⟩ (.slice (some ⟨w7.heap.size, 0, none⟩) 1 1)) w8.heap.size w3.heap.size w4.heap.size w5.heap.size w6.heap.size w7.heap.size) := by
    intro w1 w2 w3 w4 w5 w6 w7 w8 R1 b1 R2 b2 R3 s3 R4 b4 R5 b5 R6 b6 R7 b7 R8 b8
    have z1 := R1.lt
    have z2 := R2.lt
    have z3 := R3.lt
    have z3' := s3.size
    have z4 := R4.lt
    have z5 := R5.lt
    have z6 := R6.lt
    have z7 := R7.lt
    have z8 := R8.lt
    have q2 : Below w.heap.size w1 w2 := below_le b2 (by omega)
    have q3 : Below w.heap.size w2 w3 := s3.below (by omega) (by intro k hk; omega)
    have q8 : Below w.heap.size w w8 := b1.trans (q2.trans (q3.trans ((below_le b4 (by omega)).trans ((below_le b5 (by omega)).trans ((below_le b6 (by omega)).trans ((below_le b7 (by omega)).trans (below_le b8 (by omega))))))))
    have S8 : Stay (fun k => k = w6.heap.size) w8 (w8.setCell ⟨w6.heap.size, 8, none⟩ (.slice (some ⟨w7.heap.size, 0, none⟩) 1 1)) := Stay.set (X := fun k => k = w6.heap.size) (Stay.refl _ _) (fun _ => rfl) _ _
    have P8 : Row w8 w3.heap.size 51 parC := (((R4.below b5 (by omega)).below b6 (by omega)).below b7 (by omega)).below b8 (by omega)
    have L8 : Row w8 w4.heap.size 49 letC := (((R5.below b6 (by omega)).below b7 (by omega))).below b8 (by omega)
    have F8 : Row w8 w5.heap.size 40 (fncC w3.heap.size w4.heap.size) := (R6.below b7 (by omega)).below b8 (by omega)
    have G8 : Row w8 w6.heap.size 40 (fncC w3.heap.size w4.heap.size) := R7.below b8 (by omega)
    refine ⟨q8.trans (S8.below (by omega) (by intro k hk; omega)), S8.size, by omega, by omega, by omega, by omega, S8.rowNe P8 (by omega), S8.rowNe L8 (by omega), S8.rowNe F8 (by omega), ?_, S8.rowNe R8 (by omega)⟩
    exact G8.set 8 _
  clear HE HF HG HC1 hm U2 U3 U6
  go_enter Tryz.func8, Tryz.ntmps8
  go_wp2_with (first
    | (refine build_as rfl 49 _ rfl letC.toArray _ rfl built_let ?_)
    | (refine store_newL rfl 49 (.tmp 1) (.tmp 6) rfl letC _ 49 rfl rfl Tryz.size49 rfl one_letC ?_; intro w1 R1 b1)
    | (refine wpList_load_mid rfl 49 (.tmp 1) rfl w.heap.size 0 rfl letC _ R1.range Tryz.underlying49 rfl Tryz.size49 ?_)
    | (refine store_newL rfl 49 (.tmp 2) (.tmp 7) rfl letC _ 49 rfl rfl Tryz.size49 rfl one_letC ?_; intro w2 R2 b2)
    | (refine store_midL rfl 31 (.tmp 9) (.tmp 8) rfl w1.heap.size 49 4 (letC.take 4) (tyCells 1) (tyCells 0) (letC.drop 8) R2 (by rfl) (by rfl) (by rfl) (by rfl) Tryz.size31 one_tyC ?_; intro w3 R3 s3; obtain ⟨R3', Q1, z1, z2⟩ := told3 R1 b2 R2 R3 s3)
    | (refine bsliceL rfl 37 51 6 96 _ (.tmp 11) rfl Tryz.underlying37 Tryz.info51z (by decide) (by decide) parC rfl rfl ?_; intro w4 R4 b4 z4)
    | (refine wpList_load_mid rfl 49 (.tmp 1) rfl w.heap.size 0 rfl letC _ (Q1.below b4 Q1.lt).range Tryz.underlying49 rfl Tryz.size49 ?_)
    | (refine bsliceL rfl 38 49 32 496 _ (.tmp 13) rfl Tryz.underlying38 Tryz.info49z (by decide) (by decide) letC rfl rfl ?_; intro w5 R5 b5 z5)
    | (refine store_newL rfl 40 (.tmp 3) (.tmp 15) rfl (fncC w3.heap.size w4.heap.size) _ 40 rfl rfl (Tryz.size40 _ _) rfl (one_fncC _ _) ?_; intro w6 R6 b6)
    | (refine wpList_load_mid rfl 40 (.tmp 3) rfl w5.heap.size 0 rfl (fncC w3.heap.size w4.heap.size) _ R6.range Tryz.underlying40 rfl (Tryz.size40 _ _) ?_)
    | (refine store_newL rfl 40 (.tmp 4) (.tmp 16) rfl (fncC w3.heap.size w4.heap.size) _ 40 rfl rfl (Tryz.size40 _ _) rfl (one_fncC _ _) ?_; intro w7 R7 b7; obtain ⟨Q3, z6, z7⟩ := told7 R3' b4 z4 b5 z5 R6 b6 R7 b7 z2)
    | (refine wpList_load_mid rfl 49 (.tmp 2) rfl w1.heap.size 0 rfl badC _ Q3.range Tryz.underlying49 rfl Tryz.size49 ?_)
    | (refine bsliceL rfl 38 49 32 496 _ (.tmp 17) rfl Tryz.underlying38 Tryz.info49z (by decide) (by decide) badC rfl rfl ?_; intro w8 R8 b8 z8; obtain ⟨c8, f8, HH⟩ := told8 R7 b8 z7; have F8 := HFW.out w1 w2 w3 w4 w5 w6 w7 w8 R1 b1 R2 b2 R3' s3 R4 b4 R5 b5 R6 b6 R7 b7 R8 b8))
  clear HFW R1 b1 R2 b2 R3 R3' s3 R4 b4 R5 b5 R6 b6 R7 b7 R8 b8 Q1 Q3 c8 f8
  refine (U1.out _ _ _ _ _ _ _ F8).mono ?_
  rintro _ W1 ⟨rfl, F1⟩
  clear F8
  obtain ⟨a0, a1, a2, a3, a4, a5, a6, a7, a8, a9⟩ := F1.cells
  go_wp2_with fail
  refine (U2L.out W1 _ _ _ _ _ _ F1).mono ?_
  rintro _ W2 ⟨rfl, F2⟩
  clear a0 a1 a2 a3 a4 a5 a6 a7 a8 a9 F1
  obtain ⟨a0, a1, a2, a3, a4, a5, a6, a7, a8, a9⟩ := F2.cellsG
  go_wp2_with fail
  refine (U3L.out W2 _ _ _ _ _ _ F2).mono ?_
  rintro _ W3 ⟨rfl, F3⟩
  clear a0 a1 a2 a3 a4 a5 a6 a7 a8 a9 F2
  go_wp2_with fail
  refine (U4.out _ _ _ _ _ _ _ (by first | exact F3 | exact F3.next (alloc_one _ _)) _).mono ?_
  rintro _ W4 ⟨rfl, F4⟩
  obtain ⟨a0, a1, a2, a3, a4, a5, a6, a7, a8, a9⟩ := F4.cells
  go_wp2_with fail
  refine (U5.out W4 _ _ _ _ _ _ F4).mono ?_
  rintro _ W5 ⟨rfl, F5⟩
  clear a0 a1 a2 a3 a4 a5 a6 a7 a8 a9 F4 F3
  obtain ⟨a0, a1, a2, a3, a4, a5, a6, a7, a8, a9⟩ := F5.cells
  go_wp2_with fail
  refine (U6L.out W5 _ _ _ _ _ _ F5).mono ?_
  rintro _ W6 ⟨v, rfl, F6, ho⟩
  clear a0 a1 a2 a3 a4 a5 a6 a7 a8 a9 F5
  go_wp2_with fail
  refine (U7.out W6 _ _ _ _ _ _ F6 _ _ ho).mono ?_
  rintro _ W7 ⟨rfl, hb7⟩
  go_wp2_with fail
  go_ret
  exact ⟨rfl, hb7⟩
end Go.Proofs.YtjenmmkamhplkaaGreat
