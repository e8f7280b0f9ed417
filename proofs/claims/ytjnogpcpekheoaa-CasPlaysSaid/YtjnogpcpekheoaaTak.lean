/-
  The store: Take, Get.
-/
import Derived.Test.YtjnogpcpekheoaaKep
import Derived.Test.YtjnogpcpekheoaaStr
namespace Go.Proofs.Ytjnogpcpekheoaa
open Go.RowKit Go.Maps

theorem info35L (h : Bys) (hl : h.length = 32) : (Try.prog.info? 35).map (·.size) = some (bys h).length := by rw [bys_len, hl]; exact Try.info35
theorem bys32 (h : Bys) (hl : h.length = 32) : (bys h).length = 32 := by rw [bys_len, hl]
theorem range_of {w : World} {g : Nat} {L : List Value} (h : w.heap[g]? = some (.cells L.toArray 35 (0, 0))) : w.rangeAt g 0 L := (Row.mk (w := w) (t := 35) h).range

set_option maxHeartbeats 4000000 in
set_option maxRecDepth 20000 in
theorem take_ok {O : Nat → Prop} {w : World} {v vb : Value} {bm room : Nat} {c : List (Bys × Bys)} {b : Bys} (H : Sto O w v bm room c) (hr : room ≤ 4096) (hb : Sl w vb b) (hl : b.length ≤ 4194304) :
    Calls Try.prog 13 #[v, hv (sumF b), vb] w fun ev w' => ∃ e, ev = .returned e ∧ Tell w' e (putC room c b).1 ∧ Sto (fun k => O k ∨ w.heap.size ≤ k) w' v bm room (putC room c b).2 ∧ w.grownBy w' (some bm) := by
  obtain ⟨ao, cp, hv'⟩ : ∃ ao cp, vb = .slice ao b.length cp := by
    rcases hb.shape with ⟨_, rfl, rfl⟩ | ⟨b', o, cap, rfl, _⟩
    · exact ⟨_, _, rfl⟩
    · exact ⟨_, _, rfl⟩
  subst hv'
  have hlen : ¬ (4194304 : Int) < (b.length : Int) := by omega
  have hB : Below w.heap.size w (w.alloc (.cells (bys (sumF b)).toArray 35)) := (Below.refl _ _).alloc (Nat.le_refl _) _
  have hrow := heap_alloc_new w (.cells (bys (sumF b)).toArray 35)
  have C := sum_any _ _ _ (hb.below hB.drew) (by omega)
  have hn : ∀ y : World, (binOp .neq 35 (.agg (bys (sumF b)).toArray) (.agg (bys (sumF b)).toArray)).run Try.prog y = .ok (.bool false) y := fun y => by rw [neq25 y _ _ (sumF_len b) (sumF_len b)]; simp
  have he : ∀ y : World, (Op.equalIn 10000 35 (.agg (bys (sumF b)).toArray) (.agg (bys (sumF b)).toArray)).run Try.prog y = .ok true y := fun y => by rw [equ25 y _ _ (sumF_len b) (sumF_len b)]; simp
  have q0 : (w.alloc (.cells (bys (sumF b)).toArray 35)).drew.rangeAt w.heap.size 0 (bys (sumF b)) := range_of hrow
  have HF : Hid (∀ w1, Below (w.alloc (.cells (bys (sumF b)).toArray 35)).drew.heap.size (w.alloc (.cells (bys (sumF b)).toArray 35)).drew w1 → w1.rangeAt w.heap.size 0 (bys (sumF b)) ∧ w1.heap[w.heap.size]? = some (.cells (bys (sumF b)).toArray 35 (0, 0)) ∧ Below w.heap.size w w1) := fun w1 h1 => by
    have r1 : w1.heap[w.heap.size]? = some (.cells (bys (sumF b)).toArray 35 (0, 0)) := (h1.block _ (by simp)).trans hrow
    exact ⟨range_of r1, r1, hB.drew.trans (h1.mono hB.drew.size)⟩
  have KC : Hid (∀ y, Below w.heap.size w y → Calls Try.prog 26 #[v, .agg (bys (sumF b)).toArray, .slice ao b.length cp] y fun ev w' => ∃ e, ev = .returned e ∧ Tell w' e (putC room c b).1 ∧ Sto (fun k => O k ∨ y.heap.size ≤ k) w' v bm room (putC room c b).2 ∧ y.grownBy w' (some bm)) := fun y hy => keep_any (H.below hy) hr (hb.below hy) hl
  have hY := size35 (sumF b) (sumF_len b)
  have hL := info35L (sumF b) (sumF_len b)
  have h32 := bys32 (sumF b) (sumF_len b)
  have hu := Try.underlying35
  clear H hb hB hrow hl hr
  unfold hv
  generalize bys (sumF b) = L at *
  go_enter Try.func13, Try.ntmps13
  go_wp2_with fail
  go_region_held (fun y => y.rangeAt w.heap.size 0 L) (assumption) (first | (go_at_call 25; refine C.mono ?_; rintro ev w1 ⟨rfl, hb1⟩; obtain ⟨q1, r1, hw1⟩ := HF.out w1 hb1; clear HF hb1 C))
  all_goals
    go_wp2_with (first | (refine wpList_load_row rfl 35 _ rfl w.heap.size rfl 35 L.toArray (0, 0) _ r1 Try.underlying35 rfl hY ?_) | (go_at_call 26; refine (KC.out w1 hw1).mono ?_; rintro ev w2 ⟨e, rfl, hT, hS, hg⟩))
    go_ret
    exact ⟨_, rfl, hT, hS.wide (fun k hk => hk.imp id (fun h => Nat.le_trans hw1.size h)), (grown_below hw1 _).trans hg⟩

set_option maxHeartbeats 4000000 in
set_option maxRecDepth 20000 in
theorem take_bad {O : Nat → Prop} {w : World} {v vb : Value} {bm room : Nat} {c : List (Bys × Bys)} {b h : Bys} (H : Sto O w v bm room c) (hb : Sl w vb b) (hl : b.length ≤ 4194304) (h32 : h.length = 32) (hne : sumF b ≠ h) :
    Calls Try.prog 13 #[v, hv h, vb] w fun ev w' => ∃ e, ev = .returned e ∧ Tell w' e 11 ∧ Sto O w' v bm room c ∧ Below w.heap.size w w' := by
  obtain ⟨ao, cp, hv'⟩ : ∃ ao cp, vb = .slice ao b.length cp := by
    rcases hb.shape with ⟨_, rfl, rfl⟩ | ⟨b', o, cap, rfl, _⟩
    · exact ⟨_, _, rfl⟩
    · exact ⟨_, _, rfl⟩
  subst hv'
  have hlen : ¬ (4194304 : Int) < (b.length : Int) := by omega
  have hB : Below w.heap.size w (w.alloc (.cells (bys h).toArray 35)) := (Below.refl _ _).alloc (Nat.le_refl _) _
  have hrow := heap_alloc_new w (.cells (bys h).toArray 35)
  have C := sum_any _ _ _ (hb.below hB.drew) (by omega)
  have he : ∀ y : World, (Op.equalIn 10000 35 (.agg (bys (sumF b)).toArray) (.agg (bys h).toArray)).run Try.prog y = .ok false y := fun y => by rw [equ25 y _ _ (sumF_len b) h32]; simp [hne]
  have q0 : (w.alloc (.cells (bys h).toArray 35)).drew.rangeAt w.heap.size 0 (bys h) := range_of hrow
  have HF : Hid (∀ w1, Below (w.alloc (.cells (bys h).toArray 35)).drew.heap.size (w.alloc (.cells (bys h).toArray 35)).drew w1 → w1.rangeAt w.heap.size 0 (bys h) ∧ Below w.heap.size w w1) := fun w1 h1 => by
    have r1 : w1.heap[w.heap.size]? = some (.cells (bys h).toArray 35 (0, 0)) := (h1.block _ (by simp)).trans hrow
    exact ⟨range_of r1, hB.drew.trans (h1.mono hB.drew.size)⟩
  have HN : Hid (∀ y, Calls Try.prog 24 #[.int .i64 11, .int .i64 0] y fun ev w' => ∃ e, ev = .returned e ∧ Er w' e 11 0 ∧ Below y.heap.size y w') := fun y => new_any y 11 0 (by omega)
  have hL := info35L h h32
  have h32' := bys32 h h32
  have hu := Try.underlying35
  have A : Aside (Sto O w v bm room c) := H
  clear H hb hB hrow hl hne
  unfold hv
  generalize bys h = L at *
  generalize (bys (sumF b)).toArray = Y at *
  go_enter Try.func13, Try.ntmps13
  go_wp2_with fail
  go_region_held (fun y => y.rangeAt w.heap.size 0 L) (assumption) (first | (go_at_call 25; refine C.mono ?_; rintro ev w1 ⟨rfl, hb1⟩; obtain ⟨q1, hw1⟩ := HF.out w1 hb1; clear HF hb1 C))
  all_goals
    go_wp2_with (first | (go_at_call 24; refine (HN.out _).mono ?_; rintro ev w2 ⟨e, rfl, he2, hb2⟩))
    go_ret
    have hw2 := hw1.trans (hb2.mono hw1.size)
    exact ⟨_, rfl, .inr ⟨by omega, he2⟩, A.out.below hw2, hw2⟩
theorem Sto.find {O : Nat → Prop} {w : World} {v : Value} {bm room : Nat} {c : List (Bys × Bys)} (H : Sto O w v bm room c) {h : Bys} (hm : h ∈ c.map (·.1)) :
    ∃ b vb, (h, b) ∈ c ∧ Sl w vb b ∧ h = sumF b ∧ b.length ≤ 4194304 ∧ ∀ y, Below w.heap.size w y → (Instr.lookup 64 (.map (some bm)) (hv h) false).run Try.prog y = .ok vb y := by
  obtain ⟨t, hc, hmp, hbl⟩ := H.map
  have hm' : h ∈ (t.map fun x => (x.1, x.2.2)).map (·.1) := by rw [map_keys, ← hc]; exact hm
  obtain ⟨vb, hin, hf⟩ := findV_in hm'
  obtain ⟨x, hx, he⟩ := List.mem_map.1 hin
  cases he
  have hxc : (x.1, x.2.1) ∈ c := by rw [hc]; exact List.mem_map.2 ⟨x, hx, rfl⟩
  refine ⟨x.2.1, x.2.2, hxc, (hbl x hx).val, H.sums _ hxc, H.lens _ hxc, fun y hy => ?_⟩
  have hl : x.1.length = 32 := H.len32 _ hxc
  have := (hmp.same (hy.block bm hmp.lt)).look1 Try.underlying64 (zero33 y) x.1 hl
  rw [hf] at this
  exact this

set_option maxHeartbeats 4000000 in
set_option maxRecDepth 20000 in
theorem get_ok {O : Nat → Prop} {w : World} {v : Value} {bm room : Nat} {c : List (Bys × Bys)} (H : Sto O w v bm room c) {h : Bys} (hm : h ∈ c.map (·.1)) :
    ∃ b, (h, b) ∈ c ∧ Calls Try.prog 16 #[v, hv h] w fun ev w' => ∃ vr, ev = .returned (.tuple #[vr, .nilIface]) ∧ w'.ownsRow w.heap.size 5 1 vr b.length (bys b) ∧ Below w.heap.size w w' := by
  obtain ⟨b, vb, hin, hsl, hsum, hbl, hL⟩ := H.find hm
  refine ⟨b, hin, ?_⟩
  obtain ⟨sb, rfl, _, h0, h1⟩ := H.shape
  have h32 : h.length = 32 := H.len32 _ hin
  have hB : Below w.heap.size w (w.alloc (.cells (bys h).toArray 35)) := (Below.refl _ _).alloc (Nat.le_refl _) _
  have hrow := heap_alloc_new w (.cells (bys h).toArray 35)
  have CH := has_any (H.below hB) h h32
  rw [decide_eq_true hm] at CH
  have hi := size35 h h32
  have HF : Hid (∀ w1, Below (w.alloc (.cells (bys h).toArray 35)).heap.size (w.alloc (.cells (bys h).toArray 35)) w1 → w1.heap[w.heap.size]? = some (.cells (bys h).toArray 35 (0, 0)) ∧ Below w.heap.size w w1 ∧ w1.cell? ⟨sb, 1, none⟩ = some (.map (some bm))) := fun w1 k1 => by
    have hw1 := hB.trans (k1.mono hB.size)
    exact ⟨(k1.block _ (by simp)).trans hrow, hw1, (hw1.cell (p := ⟨sb, 1, none⟩) (World.block_lt_of_cell? w _ h1)).trans h1⟩
  have HL : Hid _ := hL
  have HS : Hid (∀ y, Below w.heap.size w y → Calls Try.prog 25 #[vb] y fun ev w' => ev = .returned (.agg (bys h).toArray) ∧ Below y.heap.size y w') := fun y hy => by
    rw [hsum]; exact sum_any y vb b (hsl.below hy) (by omega)
  have HC : Hid (∀ y, Below w.heap.size w y → Calls Try.prog 31 #[vb] y fun ev w' => ∃ v', ev = .returned v' ∧ w'.ownsRow y.heap.size 5 1 v' b.length (bys b) ∧ Below y.heap.size y w') := fun y hy => clone_any y vb b (hsl.below hy) (by omega)
  have he : ∀ y : World, (Op.equalIn 10000 35 (.agg (bys h).toArray) (.agg (bys h).toArray)).run Try.prog y = .ok true y := fun y => by rw [equ25 y _ _ h32 h32]; simp
  have hL' := info35L h h32
  have h32' := bys32 h h32
  have hu := Try.underlying35
  clear H hm hin hsl hsum hbl hL h0 h1 hB
  unfold hv at *
  generalize bys h = L at *
  go_enter Try.func16, Try.ntmps16
  go_wp2_with (first | (refine wpList_load_row rfl 35 _ rfl w.heap.size rfl 35 L.toArray (0, 0) _ hrow Try.underlying35 rfl hi ?_) | (go_at_call 18; refine CH.mono ?_; rintro ev w1 ⟨rfl, hb1⟩; obtain ⟨r1, hw1, c1⟩ := HF.out w1 hb1; have hl1 := fun n => HL.out (w1.drewN n) (below_drewN hw1 n); clear CH hrow HL))
  refine wp_region_quiet_lit (by kernel_rfl) (by kernel_rfl) ?_
  repeat (first | (refine quiet_load rfl 35 _ rfl w.heap.size rfl (.agg L.toArray) (fun y hy => by obtain ⟨n, rfl⟩ := hy; exact load35 _ _ _ r1 hi) ?_) | (refine quiet_look rfl 64 _ _ false rfl (.map (some bm)) (.agg L.toArray) vb rfl rfl (fun y hy => by obtain ⟨n, rfl⟩ := hy; exact hl1 n) ?_) | quiet_step (fail))
  refine wpQuiet_nil ?_
  rintro _ ⟨nq, rfl⟩
  have hb2 : Below (w.alloc (.cells L.toArray 35)).heap.size (w.alloc (.cells L.toArray 35)) (w1.drewN nq).drew := (below_drewN hb1 nq).drew
  have q2 : (w1.drewN nq).drew.rangeAt w.heap.size 0 L := range_of r1
  have CS := HS.out (w1.drewN nq).drew (below_drewN hw1 nq).drew
  generalize w1.drewN nq = w2 at *
  clear hl1 HS
  have HF2 : Hid (∀ w3, Below w2.drew.heap.size w2.drew w3 → w3.rangeAt w.heap.size 0 L ∧ Below w.heap.size w w3) := fun w3 h3 => by
    obtain ⟨r, hw, _⟩ := HF.out w3 (hb2.trans (h3.mono hb2.size))
    exact ⟨range_of r, hw⟩
  go_wp2_with fail
  go_region_held (fun y => y.rangeAt w.heap.size 0 L) (assumption) (first | (go_at_call 25; refine CS.mono ?_; rintro ev w3 ⟨rfl, hb3⟩; obtain ⟨q3, hw3⟩ := HF2.out w3 hb3; clear HF2 hb3 CS))
  all_goals
    go_wp2_with (first | (go_at_call 31; refine (HC.out w3 hw3).mono ?_; rintro ev w4 ⟨v', rfl, hown, hb4⟩))
    go_ret2
    exact ⟨_, rfl, own_lower hown hw3.size, hw3.trans (hb4.mono hw3.size)⟩

set_option maxHeartbeats 4000000 in
theorem get_none {O : Nat → Prop} {w : World} {v : Value} {bm room : Nat} {c : List (Bys × Bys)} (H : Sto O w v bm room c) {h : Bys} (h32 : h.length = 32) (hm : h ∉ c.map (·.1)) :
    Calls Try.prog 16 #[v, hv h] w fun ev w' => ∃ e, ev = .returned (.tuple #[.slice none 0 0, e]) ∧ Tell w' e 10 ∧ Below w.heap.size w w' := by
  have hB : Below w.heap.size w (w.alloc (.cells (bys h).toArray 35)) := (Below.refl _ _).alloc (Nat.le_refl _) _
  have hrow := heap_alloc_new w (.cells (bys h).toArray 35)
  have CH := has_any (H.below hB) h h32
  rw [decide_eq_false hm] at CH
  have hi := size35 h h32
  have HN : Hid (∀ y, Calls Try.prog 24 #[.int .i64 10, .int .i64 0] y fun ev w' => ∃ e, ev = .returned e ∧ Er w' e 10 0 ∧ Below y.heap.size y w') := fun y => new_any y 10 0 (by omega)
  have HB : Hid (Below w.heap.size w (w.alloc (.cells (bys h).toArray 35))) := hB
  obtain ⟨sb, rfl, _, h0, h1⟩ := H.shape
  clear H hB hm h0 h1
  unfold hv at *
  generalize (bys h).toArray = Y at *
  go_enter Try.func16, Try.ntmps16
  go_wp2_with (first | (refine wpList_load_row rfl 35 _ rfl w.heap.size rfl 35 Y (0, 0) _ hrow Try.underlying35 rfl hi ?_) | (go_at_call 18; refine CH.mono ?_; rintro ev w1 ⟨rfl, hb1⟩) | (go_at_call 24; refine (HN.out _).mono ?_; rintro ev w2 ⟨e, rfl, he2, hb2⟩))
  go_ret2
  have hw1 := HB.out.trans (hb1.mono HB.out.size)
  exact ⟨_, rfl, .inr ⟨by omega, he2⟩, hw1.trans (hb2.mono hw1.size)⟩
end Go.Proofs.Ytjnogpcpekheoaa
