/-
  How long the texts of trees are that may be.
-/
import Derived.Test.YtlbhaaldndjigaaGreatDoorPtx
import Derived.Test.YtlbhaaldndjigaaGreatDoorMay
namespace Go.Proofs.YtlbhaaldndjigaaGreatDoor
open Go.RowKit

theorem name_len {l : Bs} (h : nameB l = true) : l.length ≤ 32 := by
  unfold nameB at h
  simp only [Bool.and_eq_true, decide_eq_true_eq] at h
  have := (nameF_le l).2
  omega
theorem life_len {l : Bs} (h : lifeB l = true) : l.length ≤ 32 := by
  unfold lifeB at h
  simp only [Bool.and_eq_true, decide_eq_true_eq] at h
  omega
theorem step_len {l : Bs} (h : stepB l = true) : l.length ≤ 32 := by
  unfold stepB at h
  simp only [Bool.or_eq_true, decide_eq_true_eq] at h
  rcases h with rfl | h
  · decide
  · exact name_len h
theorem far_len {l : Bs} (h : farB l = true) : l.length ≤ 66 := by
  unfold farB Lib.cut at h
  split at h
  · simp only [Bool.and_eq_true, Bool.not_true, Bool.false_or] at h
    have h1 := name_len h.1
    have h2 := name_len h.2
    simp only [List.length_take, List.length_drop, List.length_cons, List.length_nil] at h1 h2
    omega
  · simp only [Bool.and_eq_true] at h
    have := name_len h.1
    omega
theorem lens_of {f : Bs → Bool} (hf : ∀ l, f l = true → l.length ≤ 32) {l : List Bs} (h : l.all f = true) : ∀ x ∈ l, x.length ≤ 32 := fun x hx => hf x (List.all_eq_true.1 h x hx)
theorem lifT_lens {l : List Bs} (h : ∀ x ∈ l, x.length ≤ 32) : ∀ x ∈ l.map lifT, x.length ≤ 33 := by
  intro x hx
  obtain ⟨y, hy, rfl⟩ := List.mem_map.1 hx
  have := h y hy
  simp only [lifT, List.length_append, List.length_cons, List.length_nil]; omega
theorem angT_len {l : List Bs} {b : Nat} (h : ∀ x ∈ l, x.length ≤ b) : (angT l).length ≤ 2 + l.length * (2 + b) := by
  unfold angT
  split
  · simp
  · have := jn_len [44, 32] l b h
    rw [show ([44, 32] : Bs).length = 2 from rfl] at this
    simp only [List.length_append, List.length_cons, List.length_nil]
    omega
theorem steps_len : ∀ {l : List Bs}, (∀ x ∈ l, x.length ≤ 32) → (stepsT l).length ≤ l.length * 33
  | [], _ => by simp [stepsT]
  | a :: l, h => by
    have h1 := h a (by simp)
    have h2 := steps_len (l := l) fun x hx => h x (by simp [hx])
    simp only [stepsT, List.flatMap_cons, List.length_append, List.length_cons, List.length_nil] at h2 ⊢
    omega
theorem place_len {p : Pl} (h : MayPl p) : (placeT p).length ≤ 2200 := by
  have h1 := name_len h.1
  have h2 := h.2
  simp only [Bool.and_eq_true, decide_eq_true_eq] at h2
  have h3 := steps_len (lens_of (fun l => step_len) h2.2)
  simp only [placeT, List.length_append]
  have := h2.1
  omega
theorem boolT_len (n : Int) : (boolT n).length ≤ 5 := by unfold boolT; split <;> decide
theorem oper_len {it : Int → Bs} (hit : ∀ n, 0 ≤ n → n ≤ 2147483647 → (it n).length ≤ 20) {o : Opr} (h : MayOpr o) : (operT it o).length ≤ 2200 := by
  unfold operT
  rcases h with ⟨h, h1, h2, -⟩ | ⟨h, -⟩ | ⟨h, -, hp⟩
  · rw [if_pos h]; have := hit o.n h1 h2; omega
  · rw [if_neg (by omega), if_pos h]; have := boolT_len o.n; omega
  · rw [if_neg (by omega), if_neg (by omega)]; exact place_len hp
theorem liveT_len {l : List Bs} (h : ∀ x ∈ l, x.length ≤ 32) : (liveT l).length ≤ 34 := by
  cases l with
  | nil => simp [liveT]
  | cons a l => have := h a (by simp); simp only [liveT, List.length_append, List.length_cons, List.length_nil]; omega
theorem ty_len : ∀ {r : Nat} {t : Ty}, MayTy r t → (tyT t).length ≤ 2400 + r * 40
  | 0, _, h => h.elim
  | r + 1, t, h => by
    rcases h with ⟨h, -⟩ | ⟨h, h1, h2, h3, -⟩ | ⟨h, -, h2, h3, e, he, hm⟩
    · rcases h with h | h
      · rw [tyT_int h]; simp; omega
      · rw [tyT_bool h]; simp; omega
    · rw [tyT_sct h]
      have a1 := far_len h1
      have a2 := angT_len (lifT_lens (lens_of (fun l => life_len) h3))
      rw [List.length_map] at a2
      simp only [List.length_append, markT]
      omega
    · rw [tyT_ref h (by rw [he]; simp)]
      have a1 := ty_len hm
      have a2 := liveT_len (lens_of (fun l => life_len) h3)
      have a3 : (if t.kind = 5 then ([109, 117, 116, 32] : Bs) else []).length ≤ 4 := by split <;> decide
      have e0 : t.elem[0]'(by rw [he]; simp) = e := by simp [he]
      rw [e0]
      simp only [List.length_append, List.length_cons, List.length_nil]
      omega
theorem signT_len (op : Int) : (signT op).length ≤ 2 := by unfold signT; split <;> (try split) <;> (try split) <;> decide
theorem zip_len {it : Int → Bs} (hit : ∀ n, 0 ≤ n → n ≤ 2147483647 → (it n).length ≤ 20) {a : List Bs} {b : List Opr} (ha : ∀ x ∈ a, x.length ≤ 32) (hb : ∀ x ∈ b, MayOpr x) :
    ∀ x ∈ List.zipWith (fun a b => a ++ [58, 32] ++ operT it b) a b, x.length ≤ 2234 := by
  intro x hx
  rw [← List.map_uncurry_zip_eq_zipWith] at hx
  obtain ⟨⟨p, q⟩, hpq, rfl⟩ := List.mem_map.1 hx
  have h1 := ha p (List.of_mem_zip hpq).1
  have h2 := oper_len hit (hb q (List.of_mem_zip hpq).2)
  simp only [Function.uncurry, List.length_append, List.length_cons, List.length_nil]
  omega
theorem opers_len {it : Int → Bs} (hit : ∀ n, 0 ≤ n → n ≤ 2147483647 → (it n).length ≤ 20) {b : List Opr} (hb : ∀ x ∈ b, MayOpr x) : ∀ x ∈ b.map (operT it), x.length ≤ 2200 := by
  intro x hx
  obtain ⟨y, hy, rfl⟩ := List.mem_map.1 hx
  exact oper_len hit (hb y hy)
theorem val_len {it : Int → Bs} (hit : ∀ n, 0 ≤ n → n ≤ 2147483647 → (it n).length ≤ 20) {v : Va} (h : MayVa v) : (valT it v).length ≤ 150000 := by
  unfold valT
  rcases h with ⟨h, -, h1, h2, -⟩ | ⟨h, h1, -⟩ | ⟨h, h1, -⟩ | ⟨h, he, h1, h2, h3, -⟩ | ⟨h, h1, h2, -⟩
  · rw [if_neg (by omega), if_neg (by omega), if_neg (by omega), if_neg (by omega), if_pos h]
    have a1 := oper_len hit h1
    have a2 := oper_len hit h2
    have a3 := signT_len v.op
    simp only [List.length_append, List.length_cons, List.length_nil]; omega
  · have a1 := oper_len hit h1
    rcases h with h | h
    · rw [if_pos h]; omega
    · rw [if_neg (by omega), if_neg (by omega), if_neg (by omega), if_pos h]
      simp only [List.length_append, List.length_cons, List.length_nil]; omega
  · have a1 := place_len h1
    rcases h with h | h
    · rw [if_neg (by omega), if_pos h]
      simp only [List.length_append, List.length_cons, List.length_nil]; omega
    · rw [if_neg (by omega), if_neg (by omega), if_pos h]
      simp only [List.length_append, List.length_cons, List.length_nil]; omega
  · rw [if_neg (by omega), if_neg (by omega), if_neg (by omega), if_neg (by omega), if_neg (by omega), if_neg (by omega)]
    simp only [Bool.and_eq_true, decide_eq_true_eq] at h1
    have a1 := far_len h2
    have a2 := jn_len [44, 32] _ _ (zip_len hit (lens_of (fun l => name_len) h1.2) h3.2)
    rw [List.length_zipWith, he] at a2
    have a4 := h3.1
    have a3 : (if v.names = [] then ([] : Bs) else [32]).length ≤ 1 := by split <;> decide
    simp only [List.length_append, List.length_cons, List.length_nil, Nat.min_self] at a2 ⊢
    omega
  · rw [if_neg (by omega), if_neg (by omega), if_neg (by omega), if_neg (by omega), if_neg (by omega), if_pos h]
    have a1 := far_len h1
    have a2 := jn_len [44, 32] _ _ (opers_len hit h2.2)
    have a4 := h2.1
    rw [List.length_map] at a2
    simp only [List.length_append, List.length_cons, List.length_nil] at a2 ⊢
    omega
theorem endT_len {it : Int → Bs} (hit : ∀ n, 0 ≤ n → n ≤ 2147483647 → (it n).length ≤ 20) (b : Bs) {has : Bool} {v : Va} (h : has = true → MayVa v) : (endT it b has v).length ≤ 150001 + b.length := by
  unfold endT
  cases has
  · simp; omega
  · have := val_len hit (h rfl)
    rw [if_pos rfl]
    simp only [List.length_append, List.length_cons, List.length_nil]; omega
theorem mutT_len (b : Bool) : (mutT b).length ≤ 4 := by cases b <;> decide
theorem pubT_len (b : Bool) : (pubT b).length ≤ 4 := by cases b <;> decide

/-- So many blocks are within one another at most. -/
def dps : Nat → St → Prop
  | 0, _ => False
  | n + 1, s => (∀ t ∈ s.thn, dps n t) ∧ ∀ t ∈ s.els, dps n t
theorem StAt.dps {K : Ctx} {w : World} : ∀ {n : Nat} {cs : List Value} {s : St}, StAt n K w cs s → dps n s
  | 0, _, _, h => h.elim
  | n + 1, _, _, h => by
    obtain ⟨ts, ps, vs, os, vt, ve, -, -, -, -, -, -, h6, h7⟩ := h
    refine ⟨fun t ht => ?_, fun t ht => ?_⟩
    · obtain ⟨i, hi, rfl⟩ := List.getElem_of_mem ht
      obtain ⟨_, _, _, _, _, h⟩ := h6.shape
      obtain ⟨_, _, _, _, cs, _, _, hx⟩ := h i hi
      exact StAt.dps hx
    · obtain ⟨i, hi, rfl⟩ := List.getElem_of_mem ht
      obtain ⟨_, _, _, _, _, h⟩ := h7.shape
      obtain ⟨_, _, _, _, cs, _, _, hx⟩ := h i hi
      exact StAt.dps hx
theorem nlT_len (d : Nat) : (nlT d).length = d + 1 := by simp [nlT, tabsT]
theorem blk_len {it : Int → Bs} {n m d : Nat} (ih : ∀ (s : St) (m d : Nat), dps n s → StOk (MayBlk m) s → d + m ≤ 65 → (nlT d ++ stT it s d).length ≤ (1 + inner n s) * 400000) :
    ∀ {l : List St}, (∀ t ∈ l, dps n t) → MayBlk m l → d + m ≤ 65 → (stsT it l d).length ≤ cnt n l * 400000
  | [], _, _, _ => by simp [stsT_nil]
  | s :: l, hd, hm, hk => by
    cases m with
    | zero => exact hm.elim
    | succ m =>
      have a1 := ih s m (d + 1) (hd s (by simp)) (hm s (by simp)) (by omega)
      have a2 := blk_len (it := it) (m := m + 1) (d := d) ih (l := l) (fun t ht => hd t (by simp [ht])) (fun t ht => hm t (by simp [ht])) hk
      have e : cnt n (s :: l) = (1 + inner n s) + cnt n l := by simp [cnt]
      rw [stsT_cons, List.length_append, e, Nat.add_mul]
      omega
theorem st_len {it : Int → Bs} (hit : ∀ n, 0 ≤ n → n ≤ 2147483647 → (it n).length ≤ 20) : ∀ (n : Nat) (s : St) (m d : Nat), dps n s → StOk (MayBlk m) s → d + m ≤ 65 → (nlT d ++ stT it s d).length ≤ (1 + inner n s) * 400000
  | 0, _, _, _, h, _, _ => h.elim
  | n + 1, s, m, d, hd, hs, hm => by
    have B := fun {l : List St} => blk_len (it := it) (n := n) (m := m) (d := d) (st_len hit n) (l := l)
    have e : inner (n + 1) s = cnt n s.thn + cnt n s.els := rfl
    rw [List.length_append, nlT_len, e]
    rcases hs with ⟨h, h1, h2, h3, -⟩ | ⟨h, h1, h2, -⟩ | ⟨h, h1, -⟩ | ⟨h, h1, h2, h3, -⟩ | ⟨h, h1, h2, -⟩ | ⟨h, h1, -⟩ | ⟨h, -⟩ | ⟨h, h1, -⟩ | ⟨h, h1, -⟩
    · rw [stT_1 it h]
      have a1 := name_len h1
      have a2 := ty_len h2
      have a3 := endT_len hit [32, 61, 32] h3
      have a4 := mutT_len s.mu
      simp only [List.length_append, List.length_cons, List.length_nil] at a3 ⊢; omega
    · rw [stT_2 it h]
      have a1 := place_len h1
      have a2 := val_len hit h2
      simp only [List.length_append, List.length_cons, List.length_nil]; omega
    · rw [stT_3 it h]
      have a2 := val_len hit h1.2
      simp only [List.length_append, List.length_cons, List.length_nil]; omega
    · rw [stT_4 it h]
      have a1 := oper_len hit h2
      have a2 := B hd.1 h3 hm
      cases hh : s.has
      · simp only [List.length_append, List.length_cons, List.length_nil, blkT, nlT_len]; simp; omega
      · have a3 := B hd.2 (h1 hh) hm
        simp only [List.length_append, List.length_cons, List.length_nil, blkT, nlT_len, if_true]; omega
    · rw [stT_5 it h]
      have a1 := oper_len hit h1
      have a2 := B hd.1 h2 hm
      simp only [List.length_append, List.length_cons, List.length_nil, blkT, nlT_len]; omega
    · have a2 := B hd.1 h1 hm
      rcases h with h | h
      · rw [stT_6 it h]; simp only [List.length_append, List.length_cons, List.length_nil, blkT, nlT_len]; omega
      · rw [stT_7 it h]; simp only [List.length_append, List.length_cons, List.length_nil, blkT, nlT_len]; omega
    · rcases h with h | h
      · rw [stT_8 it h]; simp only [List.length_cons, List.length_nil]; omega
      · rw [stT_9 it h]; simp only [List.length_cons, List.length_nil]; omega
    · rw [stT_10 it h]
      have a3 := endT_len hit [32] h1
      simp only [List.length_append, List.length_cons, List.length_nil] at a3 ⊢; omega
    · rw [stT_11 it h]
      have a1 := place_len h1
      simp only [List.length_append, List.length_cons, List.length_nil]; omega
theorem fld_len {x : Fld} (h : MayPar x) : (fldT x).length ≤ 5000 := by
  have a1 := name_len h.1
  have a2 := ty_len h.2
  have a3 := mutT_len x.mu
  simp only [fldT, List.length_append, List.length_cons, List.length_nil]; omega
theorem flds_len {l : List Fld} (h : ∀ x ∈ l, MayPar x) : ∀ x ∈ l.map fldT, x.length ≤ 5000 := by
  intro x hx
  obtain ⟨y, hy, rfl⟩ := List.mem_map.1 hx
  exact fld_len (h y hy)
theorem over_len {l : List Bs} (h : ∀ x ∈ l, x.length ≤ 32) : (overT l).length ≤ 2 + l.length * 36 := by
  unfold overT
  split
  · simp
  · have := jn_len [32, 43, 32] _ _ (lifT_lens h)
    rw [List.length_map] at this
    simp only [List.length_append, List.length_cons, List.length_nil] at this ⊢
    omega
theorem lfe_len {x : Lfe} (h : MayLfe x) : (lfeT x).length ≤ 2400 := by
  have a1 := life_len h.1
  have h2 := h.2
  simp only [Bool.and_eq_true, decide_eq_true_eq] at h2
  have a2 := over_len (lens_of (fun l => life_len) h2.2)
  have := h2.1
  simp only [lfeT, lifT, List.length_append, List.length_cons, List.length_nil]; omega
theorem lfes_len {l : List Lfe} (h : ∀ x ∈ l, MayLfe x) : ∀ x ∈ l.map lfeT, x.length ≤ 2400 := by
  intro x hx
  obtain ⟨y, hy, rfl⟩ := List.mem_map.1 hx
  exact lfe_len (h y hy)
theorem head_len {n : Nat} {f : Fnc} (h : MayFnc n f) : (headT f).length ≤ 1000000 := by
  obtain ⟨h1, h2, h3, h4, -⟩ := h
  have a1 := name_len h1
  have a2 := angT_len (lfes_len h2.2)
  have a3 := jn_len [44, 32] _ _ (flds_len h3.2)
  have a4 := pubT_len f.pub
  have a5 : (resT f.result).length ≤ 6000 := by
    unfold resT
    split
    · simp
    · rename_i hk
      rcases h4 with h4 | h4
      · rw [h4] at hk; exact absurd rfl hk
      · have := ty_len h4
        simp only [List.length_append, List.length_cons, List.length_nil]; omega
  rw [List.length_map] at a2 a3
  have := h2.1
  have := h3.1
  simp only [headT, List.length_append, List.length_cons, List.length_nil] at a3 ⊢; omega
theorem fnc_len {it : Int → Bs} (hit : ∀ n, 0 ≤ n → n ≤ 2147483647 → (it n).length ≤ 20) {n : Nat} {f : Fnc} (h : MayFnc n f) (hd : ∀ s ∈ f.body, dps n s) : (fncT it f).length ≤ 801000010 := by
  have a1 := head_len h
  obtain ⟨-, -, -, -, h5, h6⟩ := h
  have a2 := blk_len (it := it) (n := n) (m := 64) (d := 0) (st_len hit n) hd h5 (by omega)
  simp only [fncT, blkT, List.length_append, List.length_cons, List.length_nil, nlT_len]
  omega
theorem sct_len {x : Sct} (h : MaySct x) : (sctT x).length ≤ 400000 := by
  obtain ⟨h1, h2, h3, h4⟩ := h
  simp only [Bool.and_eq_true, decide_eq_true_eq] at h2
  have a1 := name_len h1
  have a2 := angT_len (lifT_lens (lens_of (fun l => life_len) h2.2))
  have a3 := jn_len [44, 32] _ _ (flds_len fun y hy => (h4 y hy).2)
  have a4 := pubT_len x.pub
  have a5 : (if x.fields.map fldT = [] then ([] : Bs) else [32]).length ≤ 1 := by split <;> decide
  rw [List.length_map] at a2 a3
  have := h2.1
  simp only [sctT, markT, bracT, List.length_append, List.length_cons, List.length_nil] at a3 ⊢; omega
theorem flat_len {α : Type} (f : α → Bs) (b : Nat) : ∀ {l : List α}, (∀ x ∈ l, (f x).length ≤ b) → (l.flatMap f).length ≤ l.length * b
  | [], _ => by simp
  | a :: l, h => by
    have h1 := h a (by simp)
    have h2 := flat_len f b (l := l) fun x hx => h x (by simp [hx])
    rw [List.flatMap_cons, List.length_append, List.length_cons, Nat.succ_mul]
    omega
theorem crt_len {it : Int → Bs} (hit : ∀ n, 0 ≤ n → n ≤ 2147483647 → (it n).length ≤ 20) {n : Nat} {c : Crt} (h : MayCrt n c) (hd : ∀ f ∈ c.funcs, ∀ s ∈ f.body, dps n s) : (crtT it c).length ≤ 1000000000000 := by
  obtain ⟨h1, h2, h3⟩ := h
  have a1 := flat_len (fun s => sctT s ++ [10]) 801000011 (l := c.structs) fun x hx => by
    have := sct_len (h2 x hx); simp only [List.length_append, List.length_cons, List.length_nil]; omega
  have a2 := flat_len (fun f => fncT it f ++ [10]) 801000011 (l := c.funcs) fun x hx => by
    have := fnc_len hit (h3 x hx) (hd x hx); simp only [List.length_append, List.length_cons, List.length_nil]; omega
  simp only [crtT, List.length_append]
  omega
end Go.Proofs.YtlbhaaldndjigaaGreatDoor
