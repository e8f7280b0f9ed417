/-
  The document's store: 'at'.
-/
import Derived.Test.YtjnogpcpekheoaaRst
namespace Go.Proofs.Ytjnogpcpekheoaa
open Go.RowKit Go.Maps

/-- What 'at' says. -/
def AtRet (r : List (Bys × Bys)) (h : Bys) (ev : Ending) : Prop := ∃ i : Nat, i ≤ r.length ∧ ev = .returned (.tuple #[.int .i64 (i : Int), .bool (decide (h ∈ ks r))]) ∧ (∀ p, p < i → less ((ks r).getD p []) h = true) ∧ (i < r.length → less ((ks r).getD i []) h = false)

attribute [local go_sem ↓] Go.wp_at_zero Go.wp_at_succ
set_option maxHeartbeats 8000000 in
set_option maxRecDepth 20000 in
theorem at_any {O : Nat → Prop} {w : World} {xb room : Nat} {r : List (Bys × Bys)} (h : Bys) (hl : h.length = 32) (H : Ref O w xb room r) :
    Calls Try.prog 27 #[.pointer (some ⟨xb, 0, none⟩), .agg (bys h).toArray] w fun ev w' => AtRet r h ev ∧ Below w.heap.size w w' := by
  obtain ⟨vs, vb, c1, _, o1, _, _, _⟩ := H.rows
  have hA : Below w.heap.size w (w.alloc (.cells (bys h).toArray 35)) := (Below.refl _ _).alloc (Nat.le_refl _) _
  have hrow0 : (w.alloc (.cells (bys h).toArray 35)).rangeAt w.heap.size 0 (bys h) := by
    exact range_of (heap_alloc_new w (.cells (bys h).toArray 35))
  have hlt := World.block_lt_of_cell? w ⟨xb, 1, none⟩ c1
  have HC : Hid (∀ y, Below w.heap.size w y → y.cell? ⟨xb, 1, none⟩ = some vs) := fun y hy => (hy.cell (p := ⟨xb, 1, none⟩) hlt).trans c1
  obtain ⟨ao, cap, rfl, hcap⟩ := own_shape32 o1
  have HLs : Hid (∀ y, Below w.heap.size w y → ∀ q, q < r.length → ∃ g, ao = some ⟨g, 0, none⟩ ∧ y.rangeAt g (q * 32) (bys ((ks r).getD q []))) := fun y hy q hq => by
    obtain ⟨g, cap', e, hc⟩ := own_at32 o1 (by omega)
    cases e
    exact ⟨g, rfl, range_below (lies_own o1 H.klen (ks_len r).symm q (by rw [ks_len]; exact hq)).1 hy⟩
  have HK : Hid (∀ q, q < r.length → ((ks r).getD q []).length = 32) := fun q hq => H.klen _ (by simp [List.getD, List.getElem?_eq_getElem (show q < (ks r).length by rw [ks_len]; exact hq)])
  have HUP : Hid ((ks r).Pairwise (fun a b => less a b = true)) := H.up
  have hfew := H.few
  have hLh := info35L h hl
  have HI : Hid (Below w.heap.size w (w.alloc (.cells (bys h).toArray 35)) ∧ (w.alloc (.cells (bys h).toArray 35)).rangeAt w.heap.size 0 (bys h)) := ⟨hA, hrow0⟩
  clear H o1 hA hrow0 c1 hlt
  generalize hLL : bys h = Lh at *
  have HLL : Hid (bys h = Lh) := hLL
  clear hLL
  go_enter Try.func27, Try.ntmps27
  go_wp2_with fail
  go_loopw [6] (fun i wr => ∃ q : Nat, q ≤ r.length ∧ i = .int .i64 q ∧ Below w.heap.size w wr ∧ wr.rangeAt w.heap.size 0 Lh ∧ ∀ p, p < q → less ((ks r).getD p []) h = true) (fun i _ => r.length + 1 - (intOf i).toNat)
  case atStart => exact ⟨0, by omega, rfl, HI.out.1, HI.out.2, fun p hp => by omega⟩
  case round =>
    obtain ⟨q, hq, rfl, hB, hrl, hless⟩ := hrel
    clear HI
    have c1 := HC.out wr hB
    by_cases hqr : q < r.length
    · have hlq : (q : Int) < (r.length : Int) := by omega
      obtain ⟨g, rfl, hrq⟩ := HLs.out wr hB q hqr
      have hkq := HK.out q hqr
      have hLi := info35L _ hkq
      have hln : w.heap.size < wr.heap.size := by
        have := hrl 0 (Lh.getD 0 default) (by rw [← HLL.out]; simp [List.getD, bys_len, hl])
        exact World.block_lt_of_cell? wr _ this
      have HS : Hid (∀ y, Below wr.heap.size wr y → Below wr.heap.size wr y ∧ y.cell? ⟨xb, 1, none⟩ = some (.slice (some ⟨g, 0, none⟩) r.length cap) ∧ y.rangeAt g (q * 32) (bys ((ks r).getD q [])) ∧ y.rangeAt w.heap.size 0 Lh) := fun y hy =>
        ⟨hy, HC.out y (hB.trans (hy.mono hB.size)), range_below hrq hy, range_below hrl hy⟩
      have q0 := HS.out wr.drew (Below.refl _ _).drew
      have HX := xless_any
      have J0 : Hid (∀ y, (Below wr.heap.size wr y ∧ y.cell? ⟨xb, 1, none⟩ = some (.slice (some ⟨g, 0, none⟩) r.length cap) ∧ y.rangeAt g (q * 32) (bys ((ks r).getD q [])) ∧ y.rangeAt w.heap.size 0 Lh) → Calls Try.prog 23 #[.agg (bys ((ks r).getD q [])).toArray, .agg Lh.toArray] y fun ev w' => ev = .returned (.bool (less ((ks r).getD q []) h)) ∧ (Below wr.heap.size wr w' ∧ w'.cell? ⟨xb, 1, none⟩ = some (.slice (some ⟨g, 0, none⟩) r.length cap) ∧ w'.rangeAt g (q * 32) (bys ((ks r).getD q [])) ∧ w'.rangeAt w.heap.size 0 Lh)) := fun y hy => by
        have := xless_any y ((ks r).getD q []) h hkq hl
        rw [HLL.out] at this
        refine this.mono ?_
        rintro ev w' ⟨rfl, hb⟩
        exact ⟨rfl, HS.out _ (hy.1.trans (hb.mono hy.1.size))⟩
      have HLe : Hid (∀ p, p < q → less ((ks r).getD p []) h = true) := hless
      have HW : Hid (∀ y, Below wr.heap.size wr y → Below w.heap.size w y) := fun y hy => hB.trans (hy.mono hB.size)
      clear HS hrq hrl hB hless HX hkq
      by_cases hle : less ((ks r).getD q []) h = true
      · have J23 : Hid _ := J0.out
        rw [hle] at J23
        have HL1 : Hid (less ((ks r).getD q []) h = true) := hle
        clear J0 hle
        generalize bys ((ks r).getD q []) = L at *
        go_wp2_with fail
        refine wp_region_held_drew (S := fun y => Below wr.heap.size wr y ∧ y.cell? ⟨xb, 1, none⟩ = some (.slice (some ⟨g, 0, none⟩) r.length cap) ∧ y.rangeAt g (q * 32) L ∧ y.rangeAt w.heap.size 0 Lh) (by kernel_rfl) q0 (fun hHeld => ?_)
        generalize wr.drew = wd at *
        refine take_in 0 (v := ?vra0) rfl (some 7) rfl (by kernel_rfl) (by kernel_rfl) (by kernel_rfl) (fun _ _ _ h => h) (Or.inl ⟨by rfl, ?hra0⟩) (by assumption) ?rra0
        case hra0 => (intro y hy; go_simp; with_reducible rfl)
        simp only [Act.put, List.setIfInBounds_toArray, List.set_cons_zero, List.set_cons_succ]
        refine take_in 1 (v := ?vra1) rfl (some 8) rfl (by kernel_rfl) (by kernel_rfl) (by kernel_rfl) (fun _ _ _ h => h) (Or.inl ⟨by rfl, ?hra1⟩) (by assumption) ?rra1
        case hra1 => (intro y hy; go_simp; with_reducible rfl)
        simp only [Act.put, List.setIfInBounds_toArray, List.set_cons_zero, List.set_cons_succ]
        refine take_in 2 (v := ?vra2) rfl (some 9) rfl (by kernel_rfl) (by kernel_rfl) (by kernel_rfl) (fun _ _ _ h => h) (Or.inl ⟨by rfl, ?hra2⟩) (by assumption) ?rra2
        case hra2 => (intro y hy; go_simp; with_reducible rfl)
        simp only [Act.put, List.setIfInBounds_toArray, List.set_cons_zero, List.set_cons_succ]
        refine take_in 3 (v := ?vra3) rfl (some 10) rfl (by kernel_rfl) (by kernel_rfl) (by kernel_rfl) (fun _ _ _ h => h) (Or.inl ⟨by rfl, ?hra3⟩) (by assumption) ?rra3
        case hra3 => (intro y hy; go_simp; with_reducible rfl)
        simp only [Act.put, List.setIfInBounds_toArray, List.set_cons_zero, List.set_cons_succ]
        refine take_in 4 (v := ?vra4) rfl (some 11) rfl (by kernel_rfl) (by kernel_rfl) (by kernel_rfl) (fun _ _ _ h => h) (Or.inl ⟨by rfl, ?hra4⟩) (by assumption) ?rra4
        case hra4 => (intro y hy; have c1 := hy.2.1; go_simp; with_reducible rfl)
        simp only [Act.put, List.setIfInBounds_toArray, List.set_cons_zero, List.set_cons_succ]
        refine take_in 5 (v := ?vra5) rfl (some 12) rfl (by kernel_rfl) (by kernel_rfl) (by kernel_rfl) (fun _ _ _ h => h) (Or.inl ⟨by rfl, ?hra5⟩) (by assumption) ?rra5
        case hra5 => (intro y hy; go_simp; with_reducible rfl)
        simp only [Act.put, List.setIfInBounds_toArray, List.set_cons_zero, List.set_cons_succ]
        refine take_in 6 (v := ?vra6) rfl (some 13) rfl (by kernel_rfl) (by kernel_rfl) (by kernel_rfl) (fun _ _ _ h => h) (Or.inl ⟨by rfl, ?hra6⟩) (by assumption) ?rra6
        case hra6 => (intro y hy; go_simp; with_reducible rfl)
        simp only [Act.put, List.setIfInBounds_toArray, List.set_cons_zero, List.set_cons_succ]
        refine take_in 7 (v := ?vra7) rfl (some 14) rfl (by kernel_rfl) (by kernel_rfl) (by kernel_rfl) (fun _ _ _ h => h) (Or.inl ⟨by rfl, ?hra7⟩) (by assumption) ?rra7
        case hra7 => (intro y hy; go_simp; with_reducible rfl)
        simp only [Act.put, List.setIfInBounds_toArray, List.set_cons_zero, List.set_cons_succ]
        refine take_in 8 (v := ?vra8) rfl (some 15) rfl (by kernel_rfl) (by kernel_rfl) (by kernel_rfl) (fun _ _ _ h => h) (Or.inl ⟨by rfl, ?hra8⟩) (by assumption) ?rra8
        case hra8 => (intro y hy; go_simp; with_reducible rfl)
        simp only [Act.put, List.setIfInBounds_toArray, List.set_cons_zero, List.set_cons_succ]
        refine take_in 9 (v := ?vra9) rfl (some 16) rfl (by kernel_rfl) (by kernel_rfl) (by kernel_rfl) (fun _ _ _ h => h) (Or.inl ⟨by rfl, ?hra9⟩) (by assumption) ?rra9
        case hra9 => (intro y hy; go_simp; with_reducible rfl)
        simp only [Act.put, List.setIfInBounds_toArray, List.set_cons_zero, List.set_cons_succ]
        refine take_in 10 (v := ?vra10) rfl (some 17) rfl (by kernel_rfl) (by kernel_rfl) (by kernel_rfl) (fun _ _ _ h => h) (Or.inl ⟨by rfl, ?hra10⟩) (by assumption) ?rra10
        case hra10 => (intro y hy; go_simp; with_reducible rfl)
        simp only [Act.put, List.setIfInBounds_toArray, List.set_cons_zero, List.set_cons_succ]
        refine take_in 11 (v := ?vra11) rfl (some 18) rfl (by kernel_rfl) (by kernel_rfl) (by kernel_rfl) (fun _ _ _ h => h) (Or.inl ⟨by rfl, ?hra11⟩) (by assumption) ?rra11
        case hra11 => (intro y hy; have c1 := hy.2.1; go_simp; with_reducible rfl)
        simp only [Act.put, List.setIfInBounds_toArray, List.set_cons_zero, List.set_cons_succ]
        refine take_in 12 (v := ?vra12) rfl (some 19) rfl (by kernel_rfl) (by kernel_rfl) (by kernel_rfl) (fun _ _ _ h => h) (Or.inl ⟨by rfl, ?hra12⟩) (by assumption) ?rra12
        case hra12 => (intro y hy; go_simp; with_reducible rfl)
        simp only [Act.put, List.setIfInBounds_toArray, List.set_cons_zero, List.set_cons_succ]
        refine take_in 13 (v := ?vra13) rfl (some 20) rfl (by kernel_rfl) (by kernel_rfl) (by kernel_rfl) (fun _ _ _ h => h) (Or.inl ⟨by rfl, ?hra13⟩) (by assumption) ?rra13
        case hra13 => (intro y hy; go_simp; with_reducible rfl)
        simp only [Act.put, List.setIfInBounds_toArray, List.set_cons_zero, List.set_cons_succ]
        refine take_in 14 (v := .agg L.toArray) rfl (some 21) rfl (by kernel_rfl) (by kernel_rfl) (by kernel_rfl) (fun _ _ _ h => h) (yieldsIf_load_mid (by rfl) 35 _ rfl g (q * 32) (by simp [Act.eval]) L _ (fun y hy => hy.2.2.1) Try.underlying35 rfl hLi) (by assumption) ?_
        simp only [Act.put, List.setIfInBounds_toArray, List.set_cons_zero, List.set_cons_succ]
        refine take_in 15 (v := .agg Lh.toArray) rfl (some 22) rfl (by kernel_rfl) (by kernel_rfl) (by kernel_rfl) (fun _ _ _ h => h) (yieldsIf_load_mid (by rfl) 35 _ rfl w.heap.size 0 rfl Lh _ (fun y hy => hy.2.2.2) Try.underlying35 rfl hLh) (by assumption) ?_
        simp only [Act.put, List.setIfInBounds_toArray, List.set_cons_zero, List.set_cons_succ]
        refine wpAnyH_ready (rs := [16]) (by kernel_rfl) (by simp) ?_
        refine AllReadyH.cons rfl (fun K hK => ?_) AllReadyH.nil
        go_simp
        go_wp2_with (first | (go_at_call 23; refine (J23.out _ (by assumption)).mono ?_; rintro ev w9 ⟨rfl, hS9⟩; clear J23))
        refine hK.out _ _ (by assumption) (fun _ => ?_)
        clear hK K
        refine take_in 17 (v := ?vra17) rfl (some 24) rfl (by kernel_rfl) (by kernel_rfl) (by kernel_rfl) (fun _ _ _ h => h) (Or.inl ⟨by rfl, ?hra17⟩) (by assumption) ?rra17
        case hra17 => (intro y hy; go_simp; with_reducible rfl)
        simp only [Act.put, List.setIfInBounds_toArray, List.set_cons_zero, List.set_cons_succ]
        refine wpAnyH_done (by kernel_rfl) ?_ _
        clear hLi c1
        go_wp2_with fail
        go_roundw
        case rel => exact ⟨q + 1, by omega, by go_num, HW.out _ hS9.1, hS9.2.2.2, fun p hp => by
          by_cases e : p = q
          · rw [e]; exact HL1.out
          · exact HLe.out p (by omega)⟩
        case measure => simp [intOf]; omega
      · have hle' : less ((ks r).getD q []) h = false := by simpa using hle
        have J23 : Hid _ := J0.out
        rw [hle'] at J23
        have HL1 : Hid (less ((ks r).getD q []) h = false) := hle'
        clear J0 hle hle'
        generalize hLq : bys ((ks r).getD q []) = L at *
        have HLq : Hid (bys ((ks r).getD q []) = L) := hLq
        clear hLq
        go_wp2_with fail
        refine wp_region_held_drew (S := fun y => Below wr.heap.size wr y ∧ y.cell? ⟨xb, 1, none⟩ = some (.slice (some ⟨g, 0, none⟩) r.length cap) ∧ y.rangeAt g (q * 32) L ∧ y.rangeAt w.heap.size 0 Lh) (by kernel_rfl) q0 (fun hHeld => ?_)
        generalize wr.drew = wd at *
        refine take_in 0 (v := ?vrb0) rfl (some 7) rfl (by kernel_rfl) (by kernel_rfl) (by kernel_rfl) (fun _ _ _ h => h) (Or.inl ⟨by rfl, ?hrb0⟩) (by assumption) ?rrb0
        case hrb0 => (intro y hy; go_simp; with_reducible rfl)
        simp only [Act.put, List.setIfInBounds_toArray, List.set_cons_zero, List.set_cons_succ]
        refine take_in 1 (v := ?vrb1) rfl (some 8) rfl (by kernel_rfl) (by kernel_rfl) (by kernel_rfl) (fun _ _ _ h => h) (Or.inl ⟨by rfl, ?hrb1⟩) (by assumption) ?rrb1
        case hrb1 => (intro y hy; go_simp; with_reducible rfl)
        simp only [Act.put, List.setIfInBounds_toArray, List.set_cons_zero, List.set_cons_succ]
        refine take_in 2 (v := ?vrb2) rfl (some 9) rfl (by kernel_rfl) (by kernel_rfl) (by kernel_rfl) (fun _ _ _ h => h) (Or.inl ⟨by rfl, ?hrb2⟩) (by assumption) ?rrb2
        case hrb2 => (intro y hy; go_simp; with_reducible rfl)
        simp only [Act.put, List.setIfInBounds_toArray, List.set_cons_zero, List.set_cons_succ]
        refine take_in 3 (v := ?vrb3) rfl (some 10) rfl (by kernel_rfl) (by kernel_rfl) (by kernel_rfl) (fun _ _ _ h => h) (Or.inl ⟨by rfl, ?hrb3⟩) (by assumption) ?rrb3
        case hrb3 => (intro y hy; go_simp; with_reducible rfl)
        simp only [Act.put, List.setIfInBounds_toArray, List.set_cons_zero, List.set_cons_succ]
        refine take_in 4 (v := ?vrb4) rfl (some 11) rfl (by kernel_rfl) (by kernel_rfl) (by kernel_rfl) (fun _ _ _ h => h) (Or.inl ⟨by rfl, ?hrb4⟩) (by assumption) ?rrb4
        case hrb4 => (intro y hy; have c1 := hy.2.1; go_simp; with_reducible rfl)
        simp only [Act.put, List.setIfInBounds_toArray, List.set_cons_zero, List.set_cons_succ]
        refine take_in 5 (v := ?vrb5) rfl (some 12) rfl (by kernel_rfl) (by kernel_rfl) (by kernel_rfl) (fun _ _ _ h => h) (Or.inl ⟨by rfl, ?hrb5⟩) (by assumption) ?rrb5
        case hrb5 => (intro y hy; go_simp; with_reducible rfl)
        simp only [Act.put, List.setIfInBounds_toArray, List.set_cons_zero, List.set_cons_succ]
        refine take_in 6 (v := ?vrb6) rfl (some 13) rfl (by kernel_rfl) (by kernel_rfl) (by kernel_rfl) (fun _ _ _ h => h) (Or.inl ⟨by rfl, ?hrb6⟩) (by assumption) ?rrb6
        case hrb6 => (intro y hy; go_simp; with_reducible rfl)
        simp only [Act.put, List.setIfInBounds_toArray, List.set_cons_zero, List.set_cons_succ]
        refine take_in 7 (v := ?vrb7) rfl (some 14) rfl (by kernel_rfl) (by kernel_rfl) (by kernel_rfl) (fun _ _ _ h => h) (Or.inl ⟨by rfl, ?hrb7⟩) (by assumption) ?rrb7
        case hrb7 => (intro y hy; go_simp; with_reducible rfl)
        simp only [Act.put, List.setIfInBounds_toArray, List.set_cons_zero, List.set_cons_succ]
        refine take_in 8 (v := ?vrb8) rfl (some 15) rfl (by kernel_rfl) (by kernel_rfl) (by kernel_rfl) (fun _ _ _ h => h) (Or.inl ⟨by rfl, ?hrb8⟩) (by assumption) ?rrb8
        case hrb8 => (intro y hy; go_simp; with_reducible rfl)
        simp only [Act.put, List.setIfInBounds_toArray, List.set_cons_zero, List.set_cons_succ]
        refine take_in 9 (v := ?vrb9) rfl (some 16) rfl (by kernel_rfl) (by kernel_rfl) (by kernel_rfl) (fun _ _ _ h => h) (Or.inl ⟨by rfl, ?hrb9⟩) (by assumption) ?rrb9
        case hrb9 => (intro y hy; go_simp; with_reducible rfl)
        simp only [Act.put, List.setIfInBounds_toArray, List.set_cons_zero, List.set_cons_succ]
        refine take_in 10 (v := ?vrb10) rfl (some 17) rfl (by kernel_rfl) (by kernel_rfl) (by kernel_rfl) (fun _ _ _ h => h) (Or.inl ⟨by rfl, ?hrb10⟩) (by assumption) ?rrb10
        case hrb10 => (intro y hy; go_simp; with_reducible rfl)
        simp only [Act.put, List.setIfInBounds_toArray, List.set_cons_zero, List.set_cons_succ]
        refine take_in 11 (v := ?vrb11) rfl (some 18) rfl (by kernel_rfl) (by kernel_rfl) (by kernel_rfl) (fun _ _ _ h => h) (Or.inl ⟨by rfl, ?hrb11⟩) (by assumption) ?rrb11
        case hrb11 => (intro y hy; have c1 := hy.2.1; go_simp; with_reducible rfl)
        simp only [Act.put, List.setIfInBounds_toArray, List.set_cons_zero, List.set_cons_succ]
        refine take_in 12 (v := ?vrb12) rfl (some 19) rfl (by kernel_rfl) (by kernel_rfl) (by kernel_rfl) (fun _ _ _ h => h) (Or.inl ⟨by rfl, ?hrb12⟩) (by assumption) ?rrb12
        case hrb12 => (intro y hy; go_simp; with_reducible rfl)
        simp only [Act.put, List.setIfInBounds_toArray, List.set_cons_zero, List.set_cons_succ]
        refine take_in 13 (v := ?vrb13) rfl (some 20) rfl (by kernel_rfl) (by kernel_rfl) (by kernel_rfl) (fun _ _ _ h => h) (Or.inl ⟨by rfl, ?hrb13⟩) (by assumption) ?rrb13
        case hrb13 => (intro y hy; go_simp; with_reducible rfl)
        simp only [Act.put, List.setIfInBounds_toArray, List.set_cons_zero, List.set_cons_succ]
        refine take_in 14 (v := .agg L.toArray) rfl (some 21) rfl (by kernel_rfl) (by kernel_rfl) (by kernel_rfl) (fun _ _ _ h => h) (yieldsIf_load_mid (by rfl) 35 _ rfl g (q * 32) (by simp [Act.eval]) L _ (fun y hy => hy.2.2.1) Try.underlying35 rfl hLi) (by assumption) ?_
        simp only [Act.put, List.setIfInBounds_toArray, List.set_cons_zero, List.set_cons_succ]
        refine take_in 15 (v := .agg Lh.toArray) rfl (some 22) rfl (by kernel_rfl) (by kernel_rfl) (by kernel_rfl) (fun _ _ _ h => h) (yieldsIf_load_mid (by rfl) 35 _ rfl w.heap.size 0 rfl Lh _ (fun y hy => hy.2.2.2) Try.underlying35 rfl hLh) (by assumption) ?_
        simp only [Act.put, List.setIfInBounds_toArray, List.set_cons_zero, List.set_cons_succ]
        refine wpAnyH_ready (rs := [16]) (by kernel_rfl) (by simp) ?_
        refine AllReadyH.cons rfl (fun K hK => ?_) AllReadyH.nil
        go_simp
        go_wp2_with (first | (go_at_call 23; refine (J23.out _ (by assumption)).mono ?_; rintro ev w9 ⟨rfl, hS9⟩; clear J23))
        refine hK.out _ _ (by assumption) (fun _ => ?_)
        clear hK K
        refine take_in 17 (v := ?vrb17) rfl (some 24) rfl (by kernel_rfl) (by kernel_rfl) (by kernel_rfl) (fun _ _ _ h => h) (Or.inl ⟨by rfl, ?hrb17⟩) (by assumption) ?rrb17
        case hrb17 => (intro y hy; go_simp; with_reducible rfl)
        simp only [Act.put, List.setIfInBounds_toArray, List.set_cons_zero, List.set_cons_succ]
        refine wpAnyH_done (by kernel_rfl) ?_ _
        clear c1
        have c9 := hS9.2.1
        have he9 : ∀ y, (Op.equalIn 10000 35 (.agg L.toArray) (.agg Lh.toArray)).run Try.prog y = .ok (decide (h ∈ ks r)) y := fun y => by
          have e := equ25 y ((ks r).getD q []) h (HK.out q hqr) hl
          rw [HLq.out, HLL.out] at e
          rw [e]
          have hta := there_at HUP.out HLe.out (fun _ => HL1.out)
          rw [ks_len] at hta
          by_cases hm : h ∈ ks r
          · rw [decide_eq_true hm, (hta.1 hm).2]; simp
          · rw [decide_eq_false hm]
            have : ¬ (ks r).getD q [] = h := fun e => hm (hta.2 ⟨hqr, e⟩)
            simpa using this
        have hqc : (q : Int) < (r.length : Int) := by omega
        have HRT : Hid (AtRet r h (.returned (.tuple #[.int .i64 (q : Int), .bool (decide (h ∈ ks r))]))) := ⟨q, hq, rfl, HLe.out, fun _ => HL1.out⟩
        generalize decide (h ∈ ks r) = D at *
        go_wp2_with fail
        refine wp_region_quiet_lit (by kernel_rfl) (by kernel_rfl) ?_
        repeat (first | (refine quiet_loadG (by rfl) 35 _ rfl w.heap.size 0 rfl (.agg Lh.toArray) (fun y hy => by obtain ⟨n, rfl⟩ := hy; exact load35m _ _ _ _ (range_below hS9.2.2.2 (below_drewN (Below.refl _ _) n)) hLh) ?_) | (refine quiet_loadG (by rfl) 35 _ rfl g (q * 32) (by simp [Act.eval]) (.agg L.toArray) (fun y hy => by obtain ⟨n, rfl⟩ := hy; exact load35m _ _ _ _ (range_below hS9.2.2.1 (below_drewN (Below.refl _ _) n)) hLi) ?_) | quiet_step (fail))
        refine wpQuiet_nil ?_
        rintro _ ⟨nq, rfl⟩
        go_wp2_with fail
        go_ret2
        exact ⟨HRT.out, below_drewN (HW.out _ hS9.1) _⟩
    · obtain rfl : q = r.length := by omega
      have hlq : ¬ ((r.length : Nat) : Int) < (r.length : Int) := by omega
      have hnot : h ∉ ks r := fun hm => by
        have := (there_at HUP.out hless (fun hlt => by rw [ks_len] at hlt; omega)).1 hm
        rw [ks_len] at this
        omega
      have HRT : Hid (AtRet r h (.returned (.tuple #[.int .i64 (r.length : Int), .bool false]))) := ⟨r.length, by omega, by rw [decide_eq_false hnot], hless, fun hlt => by omega⟩
      clear hless hnot
      go_wp2_with fail
      go_quiet (fail)
      go_wp2_with fail
      go_quiet (fail)
      go_wp2_with fail
      go_ret2
      exact ⟨HRT.out, below_drewN (below_drewN hB _) _⟩
end Go.Proofs.Ytjnogpcpekheoaa
