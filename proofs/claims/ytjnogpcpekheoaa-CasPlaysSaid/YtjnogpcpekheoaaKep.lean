/-
  The store: keep, Put, Take, Get.
-/
import Derived.Test.YtjnogpcpekheoaaCas
namespace Go.Proofs.Ytjnogpcpekheoaa
open Go.RowKit Go.Maps

theorem wp_mapUpdate {o : Oper} {a : Act} {w : World} {K : Act → World → Prop} {Q : Exit → Act → World → Prop} (t : TypeId) (m x v : Operand) (ho : o.op = .mapUpdate t m x v) (mv kv vv : Value) (hm : a.eval m = mv) (hx : a.eval x = kv) (hv : a.eval v = vv)
    (w' : World) (hr : (Instr.mapUpdate t mv kv vv).run Try.prog w = .ok () w') (h : K (a.put o.dst undef) w') : o.wp Try.prog a w K Q := by
  unfold Oper.wp execOp
  simp only [ho, hm, hx, hv, Sem.run_bind, Sem.run_pure, Result.andThen_ok, hr]
  exact h
/-- What a store does with bytes and their sum. -/
def putC (room : Nat) (c : List (Bys × Bys)) (b : Bys) : Nat × List (Bys × Bys) :=
  if sumF b ∈ c.map (·.1) then (0, c) else if c.length < room then (0, (sumF b, b) :: c) else (12, c)
theorem sumF_len (l : Bys) : (sumF l).length = 32 := rfl

/-- What is told: nothing, or a fault with this number. -/
def Tell (w : World) (e : Value) (code : Nat) : Prop := (code = 0 ∧ e = .nilIface) ∨ (code ≠ 0 ∧ Er w e code 0)
theorem Tell.below {w w' : World} {e : Value} {n : Nat} (h : Tell w e n) (hb : Below w.heap.size w w') : Tell w' e n := h.elim .inl (fun h => .inr ⟨h.1, h.2.below hb⟩)
theorem Tell.is {w : World} {e : Value} {n : Nat} (h : Tell w e n) : (n = 0 ∧ 0 = 0 ∧ e = .nilIface) ∨ Er w e n 0 := h.elim (fun h => .inl ⟨h.1, rfl, h.2⟩) (fun h => .inr h.2)
theorem Tell.nil {w : World} {e : Value} (h : Tell w e 0) : e = .nilIface := h.elim (fun h => h.2) (fun h => absurd rfl h.1)
theorem Tell.er {w : World} {e : Value} {n : Nat} (h : Tell w e (n + 1)) : ∃ b, e = .iface 83 (.pointer (some ⟨b, 0, none⟩)) := h.elim (fun h => by cases h.1) (fun h => by obtain ⟨b, hb, _⟩ := h.2.shape; exact ⟨b, hb⟩)

set_option maxHeartbeats 4000000 in
set_option maxRecDepth 20000 in
theorem keep_any {O : Nat → Prop} {w : World} {v vb : Value} {bm room : Nat} {c : List (Bys × Bys)} {b : Bys} (H : Sto O w v bm room c) (hr : room ≤ 4096) (hb : Sl w vb b) (hl : b.length ≤ 4194304) :
    Calls Try.prog 26 #[v, hv (sumF b), vb] w fun ev w' => ∃ e, ev = .returned e ∧ Tell w' e (putC room c b).1 ∧ Sto (fun k => O k ∨ w.heap.size ≤ k) w' v bm room (putC room c b).2 ∧ w.grownBy w' (some bm) := by
  obtain ⟨sb, rfl, ho, h0, h1⟩ := H.shape
  have hB : Below w.heap.size w (w.alloc (.cells (bys (sumF b)).toArray 35)) := (Below.refl _ _).alloc (Nat.le_refl _) _
  have hH := has_any (H.below hB) (sumF b) (sumF_len b)
  have hi := size35 (sumF b) (sumF_len b)
  have hrow := heap_alloc_new w (.cells (bys (sumF b)).toArray 35)
  unfold putC
  by_cases h1m : sumF b ∈ c.map (·.1)
  · rw [if_pos h1m]
    rw [decide_eq_true h1m] at hH
    have A : Aside (Sto O w (.pointer (some ⟨sb, 0, none⟩)) bm room c) := H
    have HB : Hid (Below w.heap.size w (w.alloc (.cells (bys (sumF b)).toArray 35))) := hB
    clear H hB
    unfold hv at *
    generalize (bys (sumF b)).toArray = Y at *
    go_enter Try.func26, Try.ntmps26
    go_wp2_with (first | (refine wpList_load_row rfl 35 _ rfl w.heap.size rfl 35 Y (0, 0) _ hrow Try.underlying35 rfl hi ?_) | (go_at_call 18; refine hH.mono ?_; rintro ev w1 ⟨rfl, hb1⟩))
    go_ret
    have hb2 := HB.out.trans (hb1.mono HB.out.size)
    exact ⟨_, rfl, .inl ⟨rfl, rfl⟩, (A.out.below hb2).wide (fun k h => .inl h), grown_below hb2 _⟩
  · rw [if_neg h1m]
    rw [decide_eq_false h1m] at hH
    have A : Aside (Sto O w (.pointer (some ⟨sb, 0, none⟩)) bm room c) := H
    have AB : Aside (Sl w vb b) := hb
    have HB : Hid (Below w.heap.size w (w.alloc (.cells (bys (sumF b)).toArray 35))) := hB
    have HR : Hid (∀ y, Below w.heap.size w y → Calls Try.prog 38 #[.pointer (some ⟨sb, 0, none⟩)] y fun ev w' => ev = .returned (.bool (decide (c.length < room))) ∧ Below y.heap.size y w') := fun y hy => hasRoom_any (H.below hy)
    by_cases h2 : c.length < room
    · rw [if_pos h2]
      rw [decide_eq_true h2] at HR
      have HM : Hid (∀ y, Below w.heap.size w y → ∀ v', ∃ w', (Instr.mapUpdate 64 (.map (some bm)) (hv (sumF b)) v').run Try.prog y = .ok () w' ∧ y.grownBy w' (some bm) ∧ (∀ B, w.heap.size ≤ B → y.ownsRow B 5 1 v' b.length (bys b) → Sto (fun k => O k ∨ w.heap.size ≤ k) w' (.pointer (some ⟨sb, 0, none⟩)) bm room ((sumF b, b) :: c))) := by
        intro y hy v'
        have Hy := H.below hy
        obtain ⟨t, hc, hm, hbl⟩ := Hy.map
        obtain ⟨sb', e', ho', g0, g1⟩ := Hy.shape
        cases e'
        have hlen : t.length = c.length := by rw [hc, List.length_map]
        obtain ⟨w', hrun, hm', hg, hsz⟩ := hm.put Try.underlying64 (by rw [List.length_map]; omega) (sumF b) (sumF_len b) (by rw [map_keys, ← hc]; exact h1m) v'
        refine ⟨w', hrun, hg, fun B hB' hown => ?_⟩
        have hne : ∀ k o u, y.cell? ⟨k, o, none⟩ = some u → k ≠ bm := fun k o u h e => by subst e; exact hm.notCell h
        have hcell : ∀ k o u, y.cell? ⟨k, o, none⟩ = some u → w'.cell? ⟨k, o, none⟩ = some u := fun k o u h => by
          have hk := hg.block k (World.block_lt_of_cell? y ⟨k, o, none⟩ h) (fun e => hne k o u h (Option.some.inj e))
          unfold World.cell? at *; rw [hk]; exact h
        have hsl : ∀ u l, Sl y u l → Sl w' u l := fun u l h => by
          refine ⟨?_⟩
          rcases h.shape with h | ⟨bb, o, cap, hv', hcap, hcc⟩
          · exact .inl h
          · exact .inr ⟨bb, o, cap, hv', hcap, fun i hi => hcell _ _ _ (hcc i hi)⟩
        refine ⟨⟨sb, rfl, .inl ho', hcell _ _ _ g0, hcell _ _ _ g1⟩, .inl H.omap, ⟨(sumF b, b, v') :: t, by rw [hc]; rfl, hm', fun x hx => ?_⟩, ?_, ?_, ?_⟩
        · rcases List.mem_cons.1 hx with rfl | hx
          · exact ⟨hsl _ _ (Sl.ofOwn hown), fun k e => .inr (Nat.le_trans hB' (hown.lt k e).1), fun k e => by rw [hsz]; exact (hown.lt k e).2⟩
          · exact ⟨hsl _ _ (hbl x hx).val, fun k e => .inl ((hbl x hx).own k e), fun k e => by rw [hsz]; exact (hbl x hx).lt k e⟩
        · intro q hq
          rcases List.mem_cons.1 hq with rfl | hq
          · rfl
          · exact H.sums q hq
        · intro q hq
          rcases List.mem_cons.1 hq with rfl | hq
          · exact hl
          · exact H.lens q hq
        · rw [List.length_cons]; omega
      have HL : Hid (b.length ≤ 4194304) := hl
      have hL32 : (bys (sumF b)).length = 32 := by rw [bys_len]; rfl
      have hiL : (Try.prog.info? 35).map (·.size) = some (bys (sumF b)).length := by rw [hL32]; exact Try.info35
      have hne : sb ≠ bm := fun e => by subst e; obtain ⟨t, _, hm, _⟩ := H.map; exact hm.notCell h1
      have HNE : Hid (sb ≠ bm) := hne
      have HBM : Hid (bm < w.heap.size) := by obtain ⟨t, _, hm, _⟩ := H.map; exact hm.lt
      have hu := Try.underlying35
      clear H hB h0 h1m h2 ho hl hne
      unfold hv at *
      generalize bys (sumF b) = L at *
      go_enter Try.func26, Try.ntmps26
      go_wp2_with (first | (refine wpList_load_row rfl 35 _ rfl w.heap.size rfl 35 L.toArray (0, 0) _ hrow Try.underlying35 rfl hi ?_) | (go_at_call 18; refine hH.mono ?_; rintro ev w1 ⟨rfl, hb1⟩) | (go_at_call 38; refine (HR.out _ (HB.out.trans (hb1.mono HB.out.size))).mono ?_; rintro ev w2 ⟨rfl, hb2⟩))
      have hb2 := hb1.trans (hb2.mono hb1.size)
      have r2 : w2.heap[w.heap.size]? = some (.cells L.toArray 35 (0, 0)) := (hb2.block _ (by simp)).trans hrow
      have hw2 : Below w.heap.size w w2 := HB.out.trans (hb2.mono HB.out.size)
      have c2 : w2.cell? ⟨sb, 1, none⟩ = some (.map (some bm)) := (hw2.cell (p := ⟨sb, 1, none⟩) (World.block_lt_of_cell? w _ h1)).trans h1
      have C := clone_any w2.drew vb b (AB.out.below hw2.drew) (by have := HL.out; omega)
      have HW2 : Hid (Below w.heap.size w w2.drew) := hw2.drew
      have q2 : w2.drew.cell? ⟨sb, 1, none⟩ = some (.map (some bm)) ∧ w2.drew.rangeAt w.heap.size 0 L := ⟨c2, (Row.mk (w := w2.drew) (t := 35) r2).range⟩
      have HF : Hid (∀ w3, Below w2.drew.heap.size w2.drew w3 → (w3.cell? ⟨sb, 1, none⟩ = some (.map (some bm)) ∧ w3.rangeAt w.heap.size 0 L) ∧ Below w.heap.size w w3 ∧ ∀ w4, w3.grownBy w4 (some bm) → (w4.cell? ⟨sb, 1, none⟩ = some (.map (some bm)) ∧ w4.rangeAt w.heap.size 0 L)) := fun w3 h3 => by
        have r3 : w3.heap[w.heap.size]? = some (.cells L.toArray 35 (0, 0)) := (h3.block _ (Array.getElem?_eq_some_iff.1 r2).1).trans r2
        have c3 : w3.cell? ⟨sb, 1, none⟩ = some (.map (some bm)) := (h3.cell (p := ⟨sb, 1, none⟩) (World.block_lt_of_cell? w2 _ c2)).trans c2
        refine ⟨⟨c3, (Row.mk (w := w3) (t := 35) r3).range⟩, hw2.drew.trans (h3.mono hw2.drew.size), fun w4 h4 => ⟨?_, (Row.mk (w := w4) (t := 35) ?_).range⟩⟩
        · have hk := h4.block sb (World.block_lt_of_cell? w3 _ c3) (fun e => HNE.out (Option.some.inj e))
          unfold World.cell? at *; rw [hk]; exact c3
        · rw [h4.block _ (Array.getElem?_eq_some_iff.1 r3).1 (fun e => by have := Option.some.inj e; have := HBM.out; omega)]; exact r3
      clear hw2 hb2 hb1 hH HR hrow AB h1 hb r2 c2 hi
      go_region_held (fun y => y.cell? ⟨sb, 1, none⟩ = some (.map (some bm)) ∧ y.rangeAt w.heap.size 0 L) (assumption) (first | (go_at_call 31; refine C.mono ?_; rintro ev w3 ⟨v', rfl, hown, hb3⟩; obtain ⟨q3, hw3, hF4⟩ := HF.out w3 hb3; obtain ⟨w4, hrun, hg4, hS4⟩ := HM.out w3 hw3 v'; have q4 := hF4 w4 hg4; clear C HF HM hF4))
      all_goals
        go_wp2_with fail
        go_ret
        exact ⟨_, rfl, .inl ⟨rfl, rfl⟩, hS4 _ HW2.out.size hown, (grown_below hw3 _).trans hg4⟩
    · rw [if_neg h2]
      rw [decide_eq_false h2] at HR
      have HN : Hid (∀ y, Calls Try.prog 24 #[.int .i64 12, .int .i64 0] y fun ev w' => ∃ e, ev = .returned e ∧ Er w' e 12 0 ∧ Below y.heap.size y w') := fun y => new_any y 12 0 (by omega)
      clear H hB h0 h1m h2 ho hl
      unfold hv at *
      generalize (bys (sumF b)).toArray = Y at *
      go_enter Try.func26, Try.ntmps26
      go_wp2_with (first | (refine wpList_load_row rfl 35 _ rfl w.heap.size rfl 35 Y (0, 0) _ hrow Try.underlying35 rfl hi ?_) | (go_at_call 18; refine hH.mono ?_; rintro ev w1 ⟨rfl, hb1⟩) | (go_at_call 38; refine (HR.out _ (HB.out.trans (hb1.mono HB.out.size))).mono ?_; rintro ev w2 ⟨rfl, hb2⟩) | (go_at_call 24; refine (HN.out _).mono ?_; rintro ev w3 ⟨e, rfl, he, hb3⟩))
      go_ret
      have hb12 := hb1.trans (hb2.mono hb1.size)
      have hb13 := hb12.trans (hb3.mono hb12.size)
      have hw3 := HB.out.trans (hb13.mono HB.out.size)
      exact ⟨_, rfl, .inr ⟨by omega, he⟩, (A.out.below hw3).wide (fun k h => .inl h), grown_below hw3 _⟩

/-- What Put answers beside a fault. -/
def sumOr (code : Nat) (h : Bys) : Bys := if code = 0 then h else List.replicate 32 0
theorem putC_code (room : Nat) (c : List (Bys × Bys)) (b : Bys) : (putC room c b).1 = 0 ∨ (putC room c b).1 = 12 := by
  unfold putC
  by_cases h1 : sumF b ∈ c.map (·.1)
  · rw [if_pos h1]; exact .inl rfl
  · rw [if_neg h1]
    by_cases h2 : c.length < room
    · rw [if_pos h2]; exact .inl rfl
    · rw [if_neg h2]; exact .inr rfl

theorem setRow_other (w : World) (g k : Nat) (M : Array Value) (h : k ≠ g) : (w.setRow g M).heap[k]? = w.heap[k]? := by
  simp only [World.setRow, Array.getElem?_modify]
  rw [if_neg (fun e => h e.symm)]
theorem grown_setRow (w : World) (g : Nat) (M : Array Value) : w.grownBy (w.setRow g M) (some g) := by
  have hb : Below g w (w.setRow g M) := below_setRow (Below.refl _ _) (Nat.le_refl _) _
  exact ⟨hb.os, hb.tape, hb.output, hb.size, fun k _ hk => setRow_other w g k M (fun e => hk (by rw [e]))⟩
theorem results10_row (tmps : Array Value) (w : World) (g : Nat) (cs : Array Value) (e : Value) (hp : tmps.getD 4 undef = .pointer (some ⟨g, 0, none⟩)) (he : tmps.getD 5 undef = e) (hg : w.heap[g]? = some (.cells cs 35 (0, 0))) (hi : (Try.prog.info? 35).map (·.size) = some cs.size) :
    (results Try.f10 tmps).run Try.prog w = .ok (.tuple #[.agg cs, e]) w := by
  have hp' : tmps[4]?.getD undef = .pointer (some ⟨g, 0, none⟩) := by simpa using hp
  have he' : tmps[5]?.getD undef = e := by simpa using he
  simp [results, Try.results10, hp', he', asAddr, load35 w g cs hg hi]
theorem z25_size : (Try.prog.info? 35).map (·.size) = some z25.toArray.size := by rw [Try.info35]; rfl

set_option maxHeartbeats 4000000 in
set_option maxRecDepth 20000 in
theorem put_any {O : Nat → Prop} {w : World} {v vb : Value} {bm room : Nat} {c : List (Bys × Bys)} {b : Bys} (H : Sto O w v bm room c) (hr : room ≤ 4096) (hb : Sl w vb b) (hl : b.length ≤ 4194304) :
    Calls Try.prog 10 #[v, vb] w fun ev w' => ∃ e, ev = .returned (.tuple #[hv (sumOr (putC room c b).1 (sumF b)), e]) ∧ Tell w' e (putC room c b).1 ∧ Sto (fun k => O k ∨ w.heap.size ≤ k) w' v bm room (putC room c b).2 ∧ w.grownBy w' (some bm) := by
  obtain ⟨ao, cp, hv'⟩ : ∃ ao cp, vb = .slice ao b.length cp := by
    rcases hb.shape with ⟨_, rfl, rfl⟩ | ⟨b', o, cap, rfl, _⟩
    · exact ⟨_, _, rfl⟩
    · exact ⟨_, _, rfl⟩
  subst hv'
  have hlen : ¬ (4194304 : Int) < (b.length : Int) := by omega
  have hB1 : Below w.heap.size w (w.alloc (.cells z25.toArray 35)) := (Below.refl _ _).alloc (Nat.le_refl _) _
  have C1 := sum_any _ _ _ (hb.below hB1) (by omega)
  have r1 := heap_alloc_new w (.cells z25.toArray 35)
  have hbm := H.bmlt
  have KC : Hid (∀ y, Below w.heap.size w y → Calls Try.prog 26 #[v, .agg (bys (sumF b)).toArray, .slice ao b.length cp] y fun ev w' => ∃ e, ev = .returned e ∧ Tell w' e (putC room c b).1 ∧ Sto (fun k => (O k ∧ k < w.heap.size) ∨ y.heap.size ≤ k) w' v bm room (putC room c b).2 ∧ y.grownBy w' (some bm)) := fun y hy => keep_any (H.tight.below hy) hr (hb.below hy) hl
  have HF : Hid (∀ w1 w2 w3, Below (w.heap.size + 1) (w.alloc (.cells z25.toArray 35)) w1 → Below w1.heap.size w1 w2 → w2.heap[w1.heap.size]? = some (.cells (bys (sumF b)).toArray 35 (0, 0)) → w2.grownBy w3 (some bm) → w3.heap[w.heap.size]? = some (.cells z25.toArray 35 (0, 0)) ∧ w3.heap[w1.heap.size]? = some (.cells (bys (sumF b)).toArray 35 (0, 0)) ∧ w.heap.size < w2.heap.size ∧ w.grownBy w3 (some bm)) := by
    intro w1 w2 w3 h1 h2 hrow h3
    have s1 := h1.size
    have s2 := h2.size
    simp at s1
    have rA : w2.heap[w.heap.size]? = some (.cells z25.toArray 35 (0, 0)) := (h2.block _ (by omega)).trans ((h1.block _ (by omega)).trans r1)
    have hw2 : Below w.heap.size w w2 := (hB1.trans (h1.mono (by omega))).trans (h2.mono (by omega))
    refine ⟨(h3.block _ (by omega) (fun e => by have := Option.some.inj e; omega)).trans rA, (h3.block _ (Array.getElem?_eq_some_iff.1 hrow).1 (fun e => by have := Option.some.inj e; omega)).trans hrow, by omega, (grown_below hw2 _).trans h3⟩
  have HB1 : Hid (Below w.heap.size w (w.alloc (.cells z25.toArray 35))) := hB1
  have hz := z25_size
  have hY := size35 (sumF b) (sumF_len b)
  have hYo : (bys (sumF b)).toArray.all (·.oneCell') = true := all_one (bys_one _)
  have hZo : z25.toArray.all (·.oneCell') = true := all_one (bys_one _)
  have hYz : z25.toArray.size = (bys (sumF b)).toArray.size := by simp [z25, bys_len, sumF_len]
  have HE : Hid (∀ (g : Nat) (w3 : World) (M : Array Value) (w2 : World), g = w.heap.size → g < w2.heap.size → w.grownBy w3 (some bm) → Sto (fun k => (O k ∧ k < w.heap.size) ∨ w2.heap.size ≤ k) w3 v bm room (putC room c b).2 → Sto (fun k => O k ∨ w.heap.size ≤ k) (w3.setRow g M) v bm room (putC room c b).2 ∧ w.grownBy (w3.setRow g M) (some bm)) := by
    intro g w3 M w2 hg hlt h3 hS
    refine ⟨(hS.same (fun k hk => setRow_other w3 g k M (by rcases hk with ⟨_, hk⟩ | hk <;> omega))).wide (fun k hk => hk.elim (fun h => .inl h.1) (fun h => .inr (by omega))), h3.andThen (grown_setRow w3 g M) (fun j hj => ?_)⟩
    obtain rfl := Option.some.inj hj
    exact .inl (by omega)
  clear H hb hB1 r1 hl hr
  have hcode := putC_code room c b
  have hsz1 : (w.alloc (.cells z25.toArray 35)).heap.size = w.heap.size + 1 := by simp
  rw [hsz1] at C1
  go_enter Try.func10, Try.ntmps10
  go_wp2_with (first | (go_at_call 25; refine C1.mono ?_; rintro ev w1 ⟨rfl, hb1⟩; have hgA := heap_alloc_new w1 (.cells z25.toArray 35); have hbA : Below w1.heap.size w1 (w1.alloc (.cells z25.toArray 35)) := (Below.refl _ _).alloc (Nat.le_refl _) _) | (refine store_box rfl 35 _ _ rfl w1.heap.size (bys (sumF b)).toArray rfl rfl 35 z25.toArray hgA hY hYz hYo w1 hbA ?_; intro w2 hrow2 hb2) | (refine wpList_load_row rfl 35 _ rfl w1.heap.size rfl 35 (bys (sumF b)).toArray (0, 0) _ hrow2 Try.underlying35 rfl hY ?_))
  have hw2 : Below w.heap.size w w2 := (HB1.out.trans (hb1.mono (by omega))).trans (hb2.mono (by have := hb1.size; simp at this; omega))
  refine (KC.out w2 hw2).mono ?_
  rintro ev w3 ⟨e, rfl, hT, hS, hg⟩
  obtain ⟨rZ, rY, hlt, hgw⟩ := HF.out w1 w2 w3 hb1 hb2 hrow2 hg
  clear KC HF hb1 hb2 hrow2 hg hw2 hgA hbA C1
  rcases hcode with h0 | h12
  · rw [h0] at hT
    have H0 : Hid ((putC room c b).1 = 0) := h0
    clear h0
    obtain rfl := hT.nil
    have hE1 := HE.out w.heap.size w3 (bys (sumF b)).toArray w2 rfl hlt hgw hS
    have rE := setRow_heap w3 w.heap.size _ (bys (sumF b)).toArray 35 _ rZ
    clear HE hT hS hgw
    go_wp2_with (first | (refine wpList_load_row rfl 35 _ rfl w1.heap.size rfl 35 (bys (sumF b)).toArray (0, 0) _ rY Try.underlying35 rfl hY ?_) | (refine wpList_store_row rfl 35 _ _ rfl w.heap.size (bys (sumF b)).toArray rfl rfl 35 z25.toArray rZ hY hYz hYo ?_))
    refine bodyPost_ret (v := .tuple #[.agg (bys (sumF b)).toArray, .nilIface]) (results10_row _ _ w.heap.size _ _ rfl rfl rE hY) rfl ⟨.nilIface, by rw [H0.out]; rfl, by rw [H0.out]; exact .inl ⟨rfl, rfl⟩, hE1⟩
  · rw [h12] at hT
    have H0 : Hid ((putC room c b).1 = 12) := h12
    clear h12
    obtain ⟨eb, he⟩ := hT.er
    have hE1 := HE.out w.heap.size w3 z25.toArray w2 rfl hlt hgw hS
    have rE := setRow_heap w3 w.heap.size _ z25.toArray 35 _ rZ
    have hT' : Tell (w3.setRow w.heap.size z25.toArray) e 12 := by
      rcases hT with ⟨h, _⟩ | ⟨_, hEr⟩
      · cases h
      · refine .inr ⟨by omega, ?_⟩
        obtain ⟨b', hb', q0, q1, q2⟩ := hEr.shape
        have hne : b' ≠ w.heap.size := fun h => by
          subst h
          rw [cell_of_row w3 _ 0 _ 35 (0, 0) rZ] at q0
          simp [z25, bys] at q0
        have hk := setRow_other w3 w.heap.size b' z25.toArray hne
        refine ⟨b', hb', ?_, ?_, ?_⟩ <;> (unfold World.cell? at *; rw [hk]; assumption)
    subst he
    have HT : Hid _ := hT'
    clear HE hT hS hgw hT'
    go_wp2_with (first | (refine wpList_store_row rfl 35 _ _ rfl w.heap.size z25.toArray rfl rfl 35 z25.toArray rZ hz rfl hZo ?_))
    refine bodyPost_ret (v := .tuple #[.agg z25.toArray, _]) (results10_row _ _ w.heap.size _ _ rfl rfl rE hz) rfl ⟨_, by rw [H0.out]; rfl, by rw [H0.out]; exact HT.out, hE1⟩
end Go.Proofs.Ytjnogpcpekheoaa
