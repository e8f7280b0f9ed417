/-
  The store: what it holds, and its small questions.
-/
import Derived.Test.YtjnogpcpekheoaaMap
import Derived.Test.YtjnogpcpekheoaaErr
import Derived.Test.YtjnogpcpekheoaaSum
namespace Go.Proofs.Ytjnogpcpekheoaa
open Go.RowKit Go.Maps

abbrev Bys := List UInt8
/-- A slice's own memory lies in the blocks O. -/
structure Blob (O : Nat → Prop) (w : World) (v : Value) (l : Bys) : Prop where
  val : Sl w v l
  own : ∀ k, v.ownBlock = some k → O k
  lt : ∀ k, v.ownBlock = some k → k < w.heap.size
theorem lt_same {w w' : World} {k : Nat} (h : w'.heap[k]? = w.heap[k]?) (hk : k < w.heap.size) : k < w'.heap.size := by
  rw [Array.getElem?_eq_getElem hk] at h
  exact (Array.getElem?_eq_some_iff.1 h).1
theorem Blob.same {O : Nat → Prop} {w w' : World} {v : Value} {l : Bys} (h : Blob O w v l) (hs : ∀ k, O k → w'.heap[k]? = w.heap[k]?) : Blob O w' v l := by
  refine ⟨⟨?_⟩, h.own, fun k e => lt_same (hs k (h.own k e)) (h.lt k e)⟩
  rcases h.val.shape with h' | ⟨b, o, cap, hv', hcap, hc⟩
  · exact .inl h'
  · refine .inr ⟨b, o, cap, hv', hcap, fun i hi => ?_⟩
    have hb : O b := h.own b (by rw [hv']; rfl)
    have := hc i hi
    unfold World.cell? at *
    rw [hs b hb]; exact this

/-- v is a store that holds c; its memory lies in the blocks O. -/
structure Sto (O : Nat → Prop) (w : World) (v : Value) (bm room : Nat) (c : List (Bys × Bys)) : Prop where
  shape : ∃ sb, v = .pointer (some ⟨sb, 0, none⟩) ∧ O sb ∧ w.cell? ⟨sb, 0, none⟩ = some (.int .i64 (room : Int)) ∧ w.cell? ⟨sb, 1, none⟩ = some (.map (some bm))
  omap : O bm
  map : ∃ t : List (Bys × Bys × Value), c = t.map (fun x => (x.1, x.2.1)) ∧ Mp w bm (t.map fun x => (x.1, x.2.2)) ∧ ∀ x ∈ t, Blob O w x.2.2 x.2.1
  sums : ∀ q ∈ c, q.1 = sumF q.2
  lens : ∀ q ∈ c, q.2.length ≤ 4194304
  small : c.length ≤ 4096

theorem Mp.same {w w' : World} {b : Nat} {m : List (Bys × Value)} (h : Mp w b m) (hs : w'.heap[b]? = w.heap[b]?) : Mp w' b m := by
  obtain ⟨D, ⟨es, clock, hb, r1⟩, r⟩ := h.raw
  exact ⟨⟨D, ⟨es, clock, hs.trans hb, r1⟩, r⟩, h.len, h.apart⟩
/-- A store stays while its own blocks stay. -/
theorem Sto.same {O : Nat → Prop} {w w' : World} {v : Value} {bm room : Nat} {c : List (Bys × Bys)} (h : Sto O w v bm room c) (hs : ∀ k, O k → w'.heap[k]? = w.heap[k]?) : Sto O w' v bm room c := by
  obtain ⟨sb, hv', ho, h0, h1⟩ := h.shape
  obtain ⟨t, hc, hm, hb⟩ := h.map
  refine ⟨⟨sb, hv', ho, ?_, ?_⟩, h.omap, ⟨t, hc, hm.same (hs bm h.omap), fun x hx => (hb x hx).same hs⟩, h.sums, h.lens, h.small⟩
  · unfold World.cell? at *; rw [hs sb ho]; exact h0
  · unfold World.cell? at *; rw [hs sb ho]; exact h1
theorem Blob.wide {O O' : Nat → Prop} {w : World} {v : Value} {l : Bys} (h : Blob O w v l) (ho : ∀ k, O k → O' k) : Blob O' w v l := ⟨h.val, fun k e => ho k (h.own k e), h.lt⟩
theorem Sto.wide {O O' : Nat → Prop} {w : World} {v : Value} {bm room : Nat} {c : List (Bys × Bys)} (h : Sto O w v bm room c) (ho : ∀ k, O k → O' k) : Sto O' w v bm room c := by
  obtain ⟨sb, hv', ho', h0⟩ := h.shape
  obtain ⟨t, hc, hm, hb⟩ := h.map
  exact ⟨⟨sb, hv', ho sb ho', h0⟩, ho bm h.omap, ⟨t, hc, hm, fun x hx => (hb x hx).wide ho⟩, h.sums, h.lens, h.small⟩
/-- .. while only new blocks come. -/
theorem Sto.below {O : Nat → Prop} {w w' : World} {v : Value} {bm room : Nat} {c : List (Bys × Bys)} (h : Sto O w v bm room c) (hb : Below w.heap.size w w') : Sto O w' v bm room c := by
  obtain ⟨sb, hv', ho, h0, h1⟩ := h.shape
  obtain ⟨t, hc, hm, hbl⟩ := h.map
  have c0 := World.block_lt_of_cell? w _ h0
  refine ⟨⟨sb, hv', ho, (hb.cell (p := ⟨sb, 0, none⟩) c0).trans h0, (hb.cell (p := ⟨sb, 1, none⟩) c0).trans h1⟩, h.omap, ⟨t, hc, hm.same (hb.block bm hm.lt), fun x hx => ⟨(hbl x hx).val.below hb, (hbl x hx).own, fun k e => Nat.lt_of_lt_of_le ((hbl x hx).lt k e) hb.size⟩⟩, h.sums, h.lens, h.small⟩
/-- A store's blocks are there. -/
theorem Sto.tight {O : Nat → Prop} {w : World} {v : Value} {bm room : Nat} {c : List (Bys × Bys)} (h : Sto O w v bm room c) : Sto (fun k => O k ∧ k < w.heap.size) w v bm room c := by
  obtain ⟨sb, hv', ho', h0, h1⟩ := h.shape
  obtain ⟨t, hc, hm, hb⟩ := h.map
  exact ⟨⟨sb, hv', ⟨ho', World.block_lt_of_cell? w _ h0⟩, h0, h1⟩, ⟨h.omap, hm.lt⟩, ⟨t, hc, hm, fun x hx => ⟨(hb x hx).val, fun k e => ⟨(hb x hx).own k e, (hb x hx).lt k e⟩, (hb x hx).lt⟩⟩, h.sums, h.lens, h.small⟩
theorem Sto.bmlt {O : Nat → Prop} {w : World} {v : Value} {bm room : Nat} {c : List (Bys × Bys)} (h : Sto O w v bm room c) : bm < w.heap.size := by
  obtain ⟨t, _, hm, _⟩ := h.map
  exact hm.lt
theorem map_keys (t : List (Bys × Bys × Value)) : (t.map fun x => (x.1, x.2.2)).map (·.1) = (t.map fun x => (x.1, x.2.1)).map (·.1) := by simp
theorem Sto.apart {O : Nat → Prop} {w : World} {v : Value} {bm room : Nat} {c : List (Bys × Bys)} (h : Sto O w v bm room c) : (c.map (·.1)).Nodup := by
  obtain ⟨t, rfl, hm, _⟩ := h.map
  rw [← map_keys]; exact hm.apart
theorem Sto.len32 {O : Nat → Prop} {w : World} {v : Value} {bm room : Nat} {c : List (Bys × Bys)} (h : Sto O w v bm room c) : ∀ q ∈ c, q.1.length = 32 := by
  obtain ⟨t, rfl, hm, _⟩ := h.map
  intro q hq
  obtain ⟨x, hx, rfl⟩ := List.mem_map.1 hq
  exact hm.len (x.1, x.2.2) (List.mem_map.2 ⟨x, hx, rfl⟩)
theorem zero33 (w : World) : (zeroValue 33).run Try.prog w = .ok (.slice none 0 0) w := by kernel_rfl

/-- A sum is loaded whole. -/
theorem load35 (w : World) (g : Nat) (Y : Array Value) (hg : w.heap[g]? = some (.cells Y 35 (0, 0))) (hi : (Try.prog.info? 35).map (·.size) = some Y.size) : (loadVar 35 ⟨g, 0, none⟩).run Try.prog w = .ok (.agg Y) w :=
  run_loadVar_row w g 35 35 Y (0, 0) _ hg Try.underlying35 rfl hi
theorem size35 (h : Bys) (hl : h.length = 32) : (Try.prog.info? 35).map (·.size) = some (bys h).toArray.size := by rw [Try.info35]; simp [bys_len, hl]
section
variable {ops : Array Oper} {rest : List Oper} {o : Oper} {a : Act} {C : World → Prop} {Q : Act → Prop}
/-- In a region that only reads: what one operation yields in every world of the class. -/
theorem quiet_value (hgd : o.guard = none) (v : Value) (h : ∀ w, C w → (execOp a.eval o).run Try.prog w = .ok (.value v) w) (k : wpQuiet Try.prog ops C Q rest (a.put o.dst v)) : wpQuiet Try.prog ops C Q (o :: rest) a := by
  unfold wpQuiet
  have hw : Region.wanted o (yielded ops a.tmps) = true := by unfold Region.wanted; rw [hgd]
  rw [if_pos hw]
  exact ⟨v, fun w hw => by unfold Oper.quietAt; rw [h w hw]; exact ⟨rfl, rfl⟩, k⟩
theorem quiet_load (hgd : o.guard = none) (ty : TypeId) (x : Operand) (ho : o.op = .load ty x) (g : Nat) (hx : a.eval x = .pointer (some ⟨g, 0, none⟩)) (v : Value)
    (hr : ∀ w, C w → (loadVar ty ⟨g, 0, none⟩).run Try.prog w = .ok v w) (k : wpQuiet Try.prog ops C Q rest (a.put o.dst v)) : wpQuiet Try.prog ops C Q (o :: rest) a := by
  refine quiet_value hgd _ (fun w hw => ?_) k
  unfold execOp
  simp only [ho, hx, Instr.loadAt, Instr.sureAddr, Sem.run_bind, Sem.run_pure, Result.andThen_ok, hr w hw]
theorem quiet_look (hgd : o.guard = none) (ty : TypeId) (m x : Operand) (c : Bool) (ho : o.op = .lookup ty m x c) (mv kv v : Value) (hm : a.eval m = mv) (hx : a.eval x = kv)
    (hr : ∀ w, C w → (Instr.lookup ty mv kv c).run Try.prog w = .ok v w)
    (k : wpQuiet Try.prog ops C Q rest (a.put o.dst v)) : wpQuiet Try.prog ops C Q (o :: rest) a := by
  refine quiet_value hgd _ (fun w hw => ?_) k
  unfold execOp
  simp only [ho, hm, hx, Sem.run_bind, Sem.run_pure, Result.andThen_ok, hr w hw]
end
set_option maxHeartbeats 1000000 in
theorem has_any {O : Nat → Prop} {w : World} {v : Value} {bm room : Nat} {c : List (Bys × Bys)} (H : Sto O w v bm room c) (h : Bys) (hl : h.length = 32) :
    Calls Try.prog 18 #[v, hv h] w fun ev w' => ev = .returned (.bool (decide (h ∈ c.map (·.1)))) ∧ Below w.heap.size w w' := by
  obtain ⟨sb, rfl, _, h0, h1⟩ := H.shape
  obtain ⟨t, rfl, hm, _⟩ := H.map
  have hB : Below w.heap.size w (w.alloc (.cells (bys h).toArray 35)) := (Below.refl _ _).alloc (Nat.le_refl _) _
  have hL : ∀ n, (Instr.lookup 64 (.map (some bm)) (hv h) true).run Try.prog ((w.alloc (.cells (bys h).toArray 35)).drewN n) = .ok (.tuple #[findV (t.map fun x => (x.1, x.2.2)) h (.slice none 0 0), .bool (decide (h ∈ (t.map fun x => (x.1, x.2.1)).map (·.1)))]) ((w.alloc (.cells (bys h).toArray 35)).drewN n) := fun n => by
    have := ((hm.same (hB.block bm hm.lt)).same (w' := (w.alloc (.cells (bys h).toArray 35)).drewN n) rfl).look Try.underlying64 (zero33 _) h hl
    rw [map_keys] at this
    exact this
  have c1 : (w.alloc (.cells (bys h).toArray 35)).cell? ⟨sb, 1, none⟩ = some (.map (some bm)) := (hB.cell (p := ⟨sb, 1, none⟩) (World.block_lt_of_cell? w _ h1)).trans h1
  have HB : Hid (Below w.heap.size w (w.alloc (.cells (bys h).toArray 35))) := hB
  have hi := size35 h hl
  clear H hm hB h0 h1
  generalize decide (h ∈ (t.map fun x => (x.1, x.2.1)).map (·.1)) = r at *
  generalize findV _ h _ = z at *
  unfold hv at *
  have hrow := heap_alloc_new w (.cells (bys h).toArray 35)
  generalize (bys h).toArray = Y at *
  go_enter Try.func18, Try.ntmps18
  go_wp2_with fail
  refine wp_region_quiet_lit (by kernel_rfl) (by kernel_rfl) ?_
  repeat (first | (refine quiet_load rfl 35 _ rfl w.heap.size rfl (.agg Y) (fun y hy => by obtain ⟨n, rfl⟩ := hy; exact load35 _ _ _ hrow hi) ?_) | (refine quiet_look rfl 64 _ _ true rfl (.map (some bm)) (.agg Y) _ rfl rfl (fun y hy => by obtain ⟨n, rfl⟩ := hy; exact hL n) ?_) | quiet_step (fail))
  refine wpQuiet_nil ?_
  rintro _ ⟨nq, rfl⟩
  go_wp2_with fail
  go_ret
  exact ⟨rfl, below_drewN HB.out _⟩

set_option maxHeartbeats 1000000 in
theorem count_any {O : Nat → Prop} {w : World} {v : Value} {bm room : Nat} {c : List (Bys × Bys)} (H : Sto O w v bm room c) :
    Calls Try.prog 21 #[v] w fun ev w' => ev = .returned (.int .i64 (c.length : Int)) ∧ w' = w := by
  obtain ⟨sb, rfl, _, h0, h1⟩ := H.shape
  obtain ⟨t, rfl, hm, _⟩ := H.map
  have hs := fun ty => hm.size Try.underlying64 ty
  simp only [List.length_map] at hs
  rw [List.length_map]
  clear H hm h0
  go_enter Try.func21, Try.ntmps21
  go_wp2_with fail
  go_ret
  exact ⟨rfl, rfl⟩

set_option maxHeartbeats 1000000 in
theorem hasRoom_any {O : Nat → Prop} {w : World} {v : Value} {bm room : Nat} {c : List (Bys × Bys)} (H : Sto O w v bm room c) :
    Calls Try.prog 38 #[v] w fun ev w' => ev = .returned (.bool (decide (c.length < room))) ∧ Below w.heap.size w w' := by
  obtain ⟨sb, rfl, _, h0, h1⟩ := H.shape
  obtain ⟨t, rfl, hm, _⟩ := H.map
  have hs : ∀ n ty, (Builtin.len_ #[64] ty #[.map (some bm)]).run Try.prog (w.drewN n) = .ok (.int .i64 (t.length : Int)) (w.drewN n) := fun n ty => by
    have := (hm.same (w' := w.drewN n) rfl).size Try.underlying64 ty
    rwa [List.length_map] at this
  rw [List.length_map]
  clear H hm
  go_enter Try.func38, Try.ntmps38
  go_wp2_with fail
  go_quiet (fail)
  go_wp2_with fail
  go_ret
  refine ⟨?_, below_drewN (Below.refl _ _) _⟩
  simp

set_option maxHeartbeats 1000000 in
theorem new_ok (w : World) (r : Nat) (h1 : 1 ≤ r) (h2 : r ≤ 4096) :
    Calls Try.prog 8 #[.int .i64 (r : Int)] w fun ev w' => ∃ v bm, ev = .returned (.tuple #[v, .nilIface]) ∧ Sto (fun k => w.heap.size ≤ k) w' v bm r [] ∧ Below w.heap.size w w' := by
  have e1 : ¬ (r : Int) < 1 := by omega
  have e2 : ¬ (4096 : Int) < (r : Int) := by omega
  have hmm := @run_makeMap Try.prog
  go_enter Try.func8, Try.ntmps8
  go_wp2_with fail
  go_ret2
  have hA : Below w.heap.size w (w.alloc (.map #[] 0)) := (Below.refl _ _).alloc (Nat.le_refl _) _
  refine ⟨_, rfl, ⟨w.heap.size, ⟨w.heap.size + 1, rfl, by omega, by simp, by simp⟩, Nat.le_refl _, ⟨[], rfl, ?_, by simp⟩, by simp, by simp, by simp⟩, hA.alloc hA.size _⟩
  exact (Mp.made w).kept (World.grownBy_alloc _ _ none) (by simp)

set_option maxHeartbeats 1000000 in
theorem new_bad (w : World) (r : Int) (h1 : r < 1 ∨ 4096 < r) :
    Calls Try.prog 8 #[.int .i64 r] w fun ev w' => ∃ e, ev = .returned (.tuple #[.pointer none, e]) ∧ Er w' e 2 0 ∧ Below w.heap.size w w' := by
  have C := new_any w 2 0 (by omega)
  by_cases e1 : r < 1
  · go_enter Try.func8, Try.ntmps8
    go_wp2_with (go_at_call 24; refine C.mono ?_; rintro ev w1 ⟨e, rfl, he, hb⟩)
    go_ret2
    exact ⟨_, rfl, he, hb⟩
  · have e2 : (4096 : Int) < r := by omega
    go_enter Try.func8, Try.ntmps8
    go_wp2_with (go_at_call 24; refine C.mono ?_; rintro ev w1 ⟨e, rfl, he, hb⟩)
    go_ret2
    exact ⟨_, rfl, he, hb⟩
end Go.Proofs.Ytjnogpcpekheoaa
