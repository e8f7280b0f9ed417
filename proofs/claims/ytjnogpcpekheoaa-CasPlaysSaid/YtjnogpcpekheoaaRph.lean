/-
  The document's store: helpers of Put.
-/
import Derived.Test.YtjnogpcpekheoaaRap
namespace Go.Proofs.Ytjnogpcpekheoaa
open Go.RowKit Go.Maps

theorem grown_set (w : World) (xb j : Nat) (v : Value) : w.grownBy (w.setCell ⟨xb, j, none⟩ v) (some xb) :=
  ⟨rfl, rfl, rfl, ((Below.refl xb w).setCell (p := ⟨xb, j, none⟩) (Nat.le_refl _) _).size, fun k _ hne => Below.heap_setCell _ _ _ _ (fun e => hne (by rw [e]))⟩
theorem half_of {wq y : World} {xb j : Nat} {u : Value} (v : Value) (hS : Below wq.heap.size wq y) (hc : y.cell? ⟨xb, j, none⟩ = some u) :
    ∃ yA, y.setCell ⟨xb, j, none⟩ v = yA ∧ wq.grownBy yA (some xb) ∧ yA.cell? ⟨xb, j, none⟩ = some v ∧ (∀ j', j' ≠ j → yA.cell? ⟨xb, j', none⟩ = y.cell? ⟨xb, j', none⟩) ∧ (∀ k, k ≠ xb → yA.heap[k]? = y.heap[k]?) ∧ y.heap.size ≤ yA.heap.size ∧ (∀ j', yA.frozen? ⟨xb, j', none⟩ = y.frozen? ⟨xb, j', none⟩) :=
  ⟨_, rfl, (grown_below hS _).trans (grown_set y xb j v), World.cell?_setCell_same y _ _ hc, fun j' hj => World.cell?_setCell_other (w := y) (a := ⟨xb, j, none⟩) (b := ⟨xb, j', none⟩) (v := v) (by intro e; cases e; exact hj rfl), fun k hk => Below.heap_setCell _ _ _ _ hk, (grown_set y xb j v).size, fun j' => World.frozen?_setCell _ _ _ _⟩

theorem mk35 {wq y : World} (hS : Below wq.heap.size wq y) : ∃ y1 g1, y.alloc (.cells #[] 35) = y1 ∧ y.heap.size = g1 ∧ Below wq.heap.size wq y1 ∧ Below y.heap.size y y1 ∧ y1.ownsRow wq.heap.size 35 32 (.slice (some ⟨g1, 0, none⟩) 0 0) 0 (rows35 []) ∧ g1 < y1.heap.size :=
  ⟨_, _, rfl, rfl, hS.alloc hS.size _, (Below.refl _ _).alloc (Nat.le_refl _) _, World.ownsRow_made y #[] 0 hS.size (by decide) rfl, by simp⟩
theorem mk9 {wq y : World} (hS : Below wq.heap.size wq y) : ∃ y1 g1, y.alloc (.cells #[] 9) = y1 ∧ y.heap.size = g1 ∧ Below wq.heap.size wq y1 ∧ Below y.heap.size y y1 ∧ y1.ownsRow wq.heap.size 9 1 (.slice (some ⟨g1, 0, none⟩) 0 0) 0 (strs []) ∧ g1 < y1.heap.size :=
  ⟨_, _, rfl, rfl, hS.alloc hS.size _, (Below.refl _ _).alloc (Nat.le_refl _) _, World.ownsRow_made y #[] 0 hS.size (by decide) rfl, by simp⟩
theorem mkh {wq y : World} (L : List Value) (hS : Below wq.heap.size wq y) : ∃ y1 g1, y.alloc (.cells L.toArray 35) = y1 ∧ y.heap.size = g1 ∧ Below wq.heap.size wq y1 ∧ Below y.heap.size y y1 ∧ y1.rangeAt g1 0 L ∧ g1 < y1.heap.size :=
  ⟨_, _, rfl, rfl, hS.alloc hS.size _, (Below.refl _ _).alloc (Nat.le_refl _) _, range_of (heap_alloc_new y _), by simp⟩
theorem mks {wq y : World} (s : ByteArray) (hS : Below wq.heap.size wq y) : ∃ y1 g1, y.alloc (.cells #[.string s] 9) = y1 ∧ y.heap.size = g1 ∧ Below wq.heap.size wq y1 ∧ Below y.heap.size y y1 ∧ y1.cell? ⟨g1, 0, none⟩ = some (.string s) ∧ g1 < y1.heap.size :=
  ⟨_, _, rfl, rfl, hS.alloc hS.size _, (Below.refl _ _).alloc (Nat.le_refl _) _, by simp, by simp⟩
theorem cell_grown {y y' : World} {k o g : Nat} {u : Value} (h : y.cell? ⟨k, o, none⟩ = some u) (hg : y.grownBy y' (some g)) (hne : k ≠ g) : y'.cell? ⟨k, o, none⟩ = some u := by
  have hk := hg.block k (World.block_lt_of_cell? y ⟨k, o, none⟩ h) (fun e => hne (Option.some.inj e))
  unfold World.cell? at *; rw [hk]; exact h
theorem range_grown {y y' : World} {k o g : Nat} {cs : List Value} (h : y.rangeAt k o cs) (hg : y.grownBy y' (some g)) (hne : k ≠ g) : y'.rangeAt k o cs := fun j u hj => cell_grown (h j u hj) hg hne
theorem results11_row (tmps : Array Value) (w : World) (g : Nat) (cs : Array Value) (e : Value) (hp : tmps.getD 4 undef = .pointer (some ⟨g, 0, none⟩)) (he : tmps.getD 5 undef = e) (hg : w.heap[g]? = some (.cells cs 35 (0, 0))) (hi : (Try.prog.info? 35).map (·.size) = some cs.size) :
    (results Try.f11 tmps).run Try.prog w = .ok (.tuple #[.agg cs, e]) w := by
  have hp' : tmps[4]?.getD undef = .pointer (some ⟨g, 0, none⟩) := by simpa using hp
  have he' : tmps[5]?.getD undef = e := by simpa using he
  simp [results, Try.results11, hp', he', asAddr, load35 w g cs hg hi]

/-- Where the new one goes. -/
structure Spot (r : List (Bys × Bys)) (h : Bys) (i : Nat) : Prop where
  le : i ≤ r.length
  low : ∀ p, p < i → less ((ks r).getD p []) h = true
  high : i < r.length → less ((ks r).getD i []) h = false
def ins (r : List (Bys × Bys)) (i : Nat) (h b : Bys) : List (Bys × Bys) := r.take i ++ (h, b) :: r.drop i
theorem ins_ks (r : List (Bys × Bys)) (i : Nat) (h b : Bys) : ks (ins r i h b) = [] ++ (ks r).take i ++ [h] ++ (ks r).drop i := by simp [ins, ks, List.map_take, List.map_drop]
theorem ins_bs (r : List (Bys × Bys)) (i : Nat) (h b : Bys) : bs (ins r i h b) = [] ++ (bs r).take i ++ [b] ++ (bs r).drop i := by simp [ins, bs, List.map_take, List.map_drop]
theorem ins_len (r : List (Bys × Bys)) (i : Nat) (h b : Bys) (hi : i ≤ r.length) : (ins r i h b).length = i + 1 + (r.length - i) := by simp [ins]; omega
theorem ins_len' (r : List (Bys × Bys)) (i : Nat) (h b : Bys) (hi : i ≤ r.length) : (ins r i h b).length = r.length + 1 := by simp [ins]; omega
theorem ins_mem (r : List (Bys × Bys)) (i : Nat) (h b : Bys) (p : Bys × Bys) : p ∈ ins r i h b ↔ p ∈ r ∨ p = (h, b) := by
  unfold ins
  constructor
  · intro hp
    rcases List.mem_append.1 hp with h1 | h1
    · exact .inl (List.mem_of_mem_take h1)
    · rcases List.mem_cons.1 h1 with h2 | h2
      · exact .inr h2
      · exact .inl (List.mem_of_mem_drop h2)
  · rintro (hp | rfl)
    · rw [← List.take_append_drop i r] at hp
      rcases List.mem_append.1 hp with h1 | h1
      · exact List.mem_append.2 (.inl h1)
      · exact List.mem_append.2 (.inr (List.mem_cons.2 (.inr h1)))
    · simp
theorem ins_up {r : List (Bys × Bys)} {i : Nat} {h b : Bys} (hup : (ks r).Pairwise (fun a b => less a b = true)) (hs : Spot r h i) (hnot : h ∉ ks r) (hl : ∀ a ∈ ks r, a.length = 32) (hh : h.length = 32) : (ks (ins r i h b)).Pairwise (fun a b => less a b = true) := by
  have hlow : ∀ a ∈ (ks r).take i, less a h = true := fun a ha => by
    obtain ⟨p, hp, e⟩ := List.getElem_of_mem ha
    have hp2 : p < i ∧ p < (ks r).length := by rw [List.length_take] at hp; omega
    have := hs.low p hp2.1
    rw [List.getElem_take] at e
    simpa [List.getD, List.getElem?_eq_getElem hp2.2, e] using this
  have hhigh : ∀ a ∈ (ks r).drop i, less h a = true := fun a ha => by
    obtain ⟨p, hp, e⟩ := List.getElem_of_mem ha
    have hp2 : i + p < (ks r).length := by rw [List.length_drop] at hp; omega
    have hir : i < r.length := by rw [ks_len] at hp2; omega
    have hi2 : i < (ks r).length := by rw [ks_len]; exact hir
    rw [List.getElem_drop] at e
    have h0 := hs.high hir
    have h0' : less ((ks r)[i]) h = false := by simpa [List.getD, List.getElem?_eq_getElem hi2] using h0
    have h1 : less h ((ks r)[i]) = true := by
      cases e1 : less h ((ks r)[i]) with
      | true => rfl
      | false =>
        have := less_total _ _ (by rw [hl _ (List.getElem_mem hi2), hh]) h0' e1
        exact absurd (this ▸ List.getElem_mem hi2) hnot
    rcases Nat.eq_zero_or_pos p with hp0 | hp0
    · subst hp0; rw [← e]; simpa using h1
    · have h2 := List.pairwise_iff_getElem.1 hup i (i + p) hi2 hp2 (by omega)
      rw [e] at h2
      exact less_trans _ _ _ h1 h2
  rw [ins_ks, List.nil_append, List.append_assoc, List.singleton_append]
  rw [← List.take_append_drop i (ks r)] at hup
  have hp := List.pairwise_append.1 hup
  refine List.pairwise_append.2 ⟨hp.1, List.pairwise_cons.2 ⟨hhigh, hp.2.1⟩, fun a ha c hc => ?_⟩
  rcases List.mem_cons.1 hc with rfl | hc
  · exact hlow a ha
  · exact hp.2.2 a ha c hc
/-- What the document's Put says. -/
def RPut (O : Nat → Prop) (w : World) (xb room : Nat) (r : List (Bys × Bys)) (h b : Bys) (ev : Ending) (w' : World) : Prop :=
  (h ∈ ks r ∧ ev = .returned (.tuple #[.agg (bys h).toArray, .int .i64 0]) ∧ Below w.heap.size w w') ∨ (h ∉ ks r ∧ ¬ r.length < room ∧ ev = .returned (.tuple #[.agg z25.toArray, .int .i64 12]) ∧ Below w.heap.size w w') ∨ ∃ i : Nat, h ∉ ks r ∧ r.length < room ∧ Spot r h i ∧ ev = .returned (.tuple #[.agg (bys h).toArray, .int .i64 0]) ∧ w.grownBy w' (some xb) ∧ Ref (fun k => O k ∨ w.heap.size ≤ k) w' xb room (ins r i h b)
theorem RPut.there {O : Nat → Prop} {w : World} {xb room : Nat} {r : List (Bys × Bys)} {h b : Bys} {ev : Ending} {w' : World} (h1 : h ∈ ks r) (h2 : ev = .returned (.tuple #[.agg (bys h).toArray, .int .i64 0])) (h3 : Below w.heap.size w w') : RPut O w xb room r h b ev w' := .inl ⟨h1, h2, h3⟩
theorem RPut.full {O : Nat → Prop} {w : World} {xb room : Nat} {r : List (Bys × Bys)} {h b : Bys} {ev : Ending} {w' : World} (h1 : h ∉ ks r) (h2 : ¬ r.length < room) (h3 : ev = .returned (.tuple #[.agg z25.toArray, .int .i64 12])) (h4 : Below w.heap.size w w') : RPut O w xb room r h b ev w' := .inr (.inl ⟨h1, h2, h3, h4⟩)
theorem RPut.new {O : Nat → Prop} {w : World} {xb room : Nat} {r : List (Bys × Bys)} {h b : Bys} {ev : Ending} {w' : World} (i : Nat) (h1 : h ∉ ks r) (h2 : r.length < room) (h3 : Spot r h i) (h4 : ev = .returned (.tuple #[.agg (bys h).toArray, .int .i64 0])) (h5 : w.grownBy w' (some xb)) (h6 : Ref (fun k => O k ∨ w.heap.size ≤ k) w' xb room (ins r i h b)) : RPut O w xb room r h b ev w' := .inr (.inr ⟨i, h1, h2, h3, h4, h5, h6⟩)
theorem own_lower32 {w : World} {B B' n : Nat} {v : Value} {xs : List Value} (h : w.ownsRow B 35 32 v n xs) (hB : B' ≤ B) : w.ownsRow B' 35 32 v n xs := by
  refine ⟨h.1, ?_⟩
  rcases h.2 with h' | ⟨g, cap, cur, rfl, hg, rest⟩
  · exact .inl h'
  · exact .inr ⟨g, cap, cur, rfl, by omega, rest⟩
/-- Both rows laid anew: the store holds one more. -/
theorem rput_fin {O : Nat → Prop} {w wq yA yB y : World} {xb room i bh ga capa gb capb : Nat} {r : List (Bys × Bys)} {h b : Bys} {Lh : List Value} (H : Ref O w xb room r) (hh : h.length = 32) (hw : Below w.heap.size w wq) (hbh : w.heap.size < bh)
    (rZ : wq.heap[w.heap.size]? = some (.cells z25.toArray 35 (0, 0))) (rY : wq.heap[bh]? = some (.cells Lh.toArray 35 (0, 0))) (hLL : bys h = Lh) (hnot : h ∉ ks r) (hroom : r.length < room) (hr : room ≤ 1000) (hs : Spot r h i)
    (hgA : wq.grownBy yA (some xb)) (hcA : yA.cell? ⟨xb, 1, none⟩ = some (.slice (some ⟨ga, 0, none⟩) (i + 1 + (r.length - i)) capa)) (hcA0 : yA.cell? ⟨xb, 0, none⟩ = some (.int .i64 (room : Int)))
    (hoA : yA.ownsRow wq.heap.size 35 32 (.slice (some ⟨ga, 0, none⟩) (i + 1 + (r.length - i)) capa) (i + 1 + (r.length - i)) (rows35 ([] ++ (ks r).take i ++ [h] ++ (ks r).drop i)))
    (hoB : y.ownsRow yA.heap.size 9 1 (.slice (some ⟨gb, 0, none⟩) (i + 1 + (r.length - i)) capb) (i + 1 + (r.length - i)) (strs ([] ++ (bs r).take i ++ [b] ++ (bs r).drop i))) (hS : Below yA.heap.size yA y)
    (hgB : yA.grownBy yB (some xb)) (hcB : yB.cell? ⟨xb, 2, none⟩ = some (.slice (some ⟨gb, 0, none⟩) (i + 1 + (r.length - i)) capb)) (hoth : ∀ j', j' ≠ 2 → yB.cell? ⟨xb, j', none⟩ = y.cell? ⟨xb, j', none⟩) (hk : ∀ k, k ≠ xb → yB.heap[k]? = y.heap[k]?) (hfz : ∀ j, yB.frozen? ⟨xb, j, none⟩ = false) :
    yB.heap[w.heap.size]? = some (.cells z25.toArray 35 (0, 0)) ∧ yB.heap[bh]? = some (.cells Lh.toArray 35 (0, 0)) ∧ RPut O w xb room r h b (.returned (.tuple #[.agg Lh.toArray, .int .i64 0])) (yB.setRow w.heap.size Lh.toArray) := by
  have hxb := H.lt
  have sZ := (Array.getElem?_eq_some_iff.1 rZ).1
  have sY := (Array.getElem?_eq_some_iff.1 rY).1
  have hsA := hgA.size
  have up : ∀ k, k < wq.heap.size → k ≠ xb → yB.heap[k]? = wq.heap[k]? := fun k hk1 hk2 => (hgB.block k (by omega) (fun e => hk2 (Option.some.inj e))).trans (hgA.block k hk1 (fun e => hk2 (Option.some.inj e)))
  refine ⟨(up _ sZ (by omega)).trans rZ, (up _ sY (by omega)).trans rY, ?_⟩
  have hcell : ∀ j u, yB.cell? ⟨xb, j, none⟩ = some u → (yB.setRow w.heap.size Lh.toArray).cell? ⟨xb, j, none⟩ = some u := fun j u hu => by
    have := setRow_other yB w.heap.size xb Lh.toArray (by omega)
    unfold World.cell? at *; rw [this]; exact hu
  have hga := (hoA.lt ga rfl)
  have hgb := (hoB.lt gb rfl)
  have hS2 := hS.size
  have e1 : yB.cell? ⟨xb, 1, none⟩ = some (.slice (some ⟨ga, 0, none⟩) (i + 1 + (r.length - i)) capa) := (hoth 1 (by omega)).trans ((hS.cell (p := ⟨xb, 1, none⟩) (World.block_lt_of_cell? yA _ hcA)).trans hcA)
  have e0 : yB.cell? ⟨xb, 0, none⟩ = some (.int .i64 (room : Int)) := (hoth 0 (by omega)).trans ((hS.cell (p := ⟨xb, 0, none⟩) (World.block_lt_of_cell? yA _ hcA0)).trans hcA0)
  have o1 : (yB.setRow w.heap.size Lh.toArray).ownsRow 0 35 32 (.slice (some ⟨ga, 0, none⟩) (i + 1 + (r.length - i)) capa) (i + 1 + (r.length - i)) (rows35 ([] ++ (ks r).take i ++ [h] ++ (ks r).drop i)) := by
    refine own_lower32 (own_same32 (own_same32 (own_past32 hoA hS) (fun k e => hk k ?_)) (fun k e => setRow_other _ _ _ _ ?_)) (Nat.zero_le _)
    · have := Option.some.inj e; simp at this; omega
    · have := Option.some.inj e; simp at this; omega
  have o2 : (yB.setRow w.heap.size Lh.toArray).ownsRow 0 9 1 (.slice (some ⟨gb, 0, none⟩) (i + 1 + (r.length - i)) capb) (i + 1 + (r.length - i)) (strs ([] ++ (bs r).take i ++ [b] ++ (bs r).drop i)) := by
    refine own_lower (own_same (own_same hoB (fun k e => hk k ?_)) (fun k e => setRow_other _ _ _ _ ?_)) (Nat.zero_le _)
    · have := Option.some.inj e; simp at this; omega
    · have := Option.some.inj e; simp at this; omega
  rw [← ins_len r i h b hs.le] at o1 o2 e1
  rw [← ins_len r i h b hs.le] at hcB
  rw [← ins_ks] at o1
  rw [← ins_bs] at o2
  have hg : w.grownBy (yB.setRow w.heap.size Lh.toArray) (some xb) := (((grown_below hw _).trans hgA).trans hgB).andThen (grown_setRow yB w.heap.size _) (fun j hj => by
    obtain rfl := Option.some.inj hj
    exact .inl (by omega))
  refine .new i hnot hroom hs (by rw [hLL]) hg ⟨⟨_, _, hcell _ _ e1, hcell _ _ hcB, o1, o2, fun k e => ?_, fun k e => ?_⟩, .inl H.own, hcell _ _ e0, fun p hp => ?_, ins_up H.up hs hnot H.klen hh, ?_, fun j => ?_⟩
  · have := Option.some.inj e; simp at this; exact ⟨.inr (by omega), by omega⟩
  · have := Option.some.inj e; simp at this; exact ⟨.inr (by omega), by omega⟩
  · rcases (ins_mem r i h b p).1 hp with hp | rfl
    · exact H.len p hp
    · exact hh
  · rw [ins_len' r i h b hs.le]; omega
  · have := setRow_other yB w.heap.size xb Lh.toArray (by omega)
    exact (World.frozen?_of_block (a := ⟨xb, j, none⟩) this).trans (hfz j)
end Go.Proofs.Ytjnogpcpekheoaa
