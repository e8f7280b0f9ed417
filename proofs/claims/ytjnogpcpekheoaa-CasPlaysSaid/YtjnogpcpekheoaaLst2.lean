/-
  List, of a store.
-/
import Derived.Test.YtjnogpcpekheoaaLis
import Derived.Test.YtjnogpcpekheoaaClh
import Derived.Great.BuildSlice
namespace Go.Proofs.Ytjnogpcpekheoaa
open Go.RowKit Go.Maps

/-- One more sum onto a row of one's own. -/
theorem app_h {ops : Array Oper} {rest : List Oper} {o : Oper} {a : Act} {Q : Exit → Act → World → Prop} {w : World} {B : Nat} {v : Value} {ks : List Bys} (b : Bys) (hb : b.length = 32) (hgd : o.guard = none) (s x : Operand)
    (ho : o.op = .call { callee := .builtin .append, args := #[s, x], argTypes := #[29, 29] }) (hs : a.eval s = v) (hown : w.ownsRow B 35 32 v ks.length (rows35 ks)) (hB : B ≤ w.heap.size)
    (g : Nat) (hx : a.eval x = .slice (some ⟨g, 0, none⟩) 1 1) (hc : w.rangeAt g 0 (bys b)) (hl : ks.length ≤ 1000000)
    (h : ∀ v' w', w'.ownsRow B 35 32 v' (ks ++ [b]).length (rows35 (ks ++ [b])) → Below B w w' → w.grownBy w' v.ownBlock → wpList Try.prog ops Q rest (a.put o.dst v') w') :
    wpList Try.prog ops Q (o :: rest) a w := by
  obtain ⟨i0, hi, hz0, hz1, hz2⟩ := info_parts Try.info35z
  refine wpList_append_own_at w hgd s x 29 ho B 35 i0 (.agg z25.toArray) 32 32 Try.underlying29 hi hz0 hz1 hz2 rfl (by decide) _ _ _ hs hown ⟨g, 0, none⟩ 1 1 (bys b) hx (by rw [bys_len, hb]) (fun j u hj => ?_) (bys_one b) (by unfold maxLen; omega) (by omega) hB ?_
  · rw [addr_add]; exact hc j u hj
  · intro v' w' hown' hgrow _ _
    refine h v' w' ?_ (below_grown hgrow hB (fun k e => (hown.lt k e).1)) hgrow
    rw [List.length_append, List.length_singleton, rows35_snoc]; exact hown'

/-- A slice of one sum. -/
theorem wp_build35 {ops : Array Oper} {rest : List Oper} {o : Oper} {a : Act} {Q : Exit → Act → World → Prop} {w : World} (hgd : o.guard = none) (x : Operand) (ho : o.op = .buildSlice 29 1 #[(0, x)]) (L : List Value) (hx : a.eval x = .agg L.toArray) (hL : L.length = 32)
    (h : wpList Try.prog ops Q rest (a.put o.dst (.slice (some ⟨w.heap.size, 0, none⟩) 1 1)) (w.alloc (.cells L.toArray 35))) : wpList Try.prog ops Q (o :: rest) a w := by
  obtain ⟨i0, hi, hz0, hz1, hz2⟩ := info_parts Try.info35z
  refine wpList_buildSlice hgd 29 35 1 _ ho L.toArray i0 (.agg z25.toArray) Try.underlying29 hi hz0 (by rw [hz1]; decide) (by rw [hz1]; decide) ?_ h
  have hw := Go.Great.fill_whole (s := 32) (by decide) [.agg L.toArray] ((Array.range (1 * 32)).map ((Value.agg z25.toArray).cells[· % (Value.agg z25.toArray).cells.size]!)) (by simp [Value.cells, hL]) (by simp)
  rw [hz1]
  simp only [List.map_toArray, List.map_cons, List.map_nil, hx]
  simp only [List.zipIdx_cons, List.zipIdx_nil, List.map_cons, List.map_nil] at hw
  refine Eq.trans hw ?_
  simp [Value.cells]

/-- The keys met so far. -/
structure Met (keys : List Bys) (left : Lit → Bool) (cnt : Nat) (ks : List Bys) : Prop where
  nodup : ks.Nodup
  met : ∀ h, h ∈ keys ↔ (h ∈ ks ∨ left (.string h) = true)
  apart : ∀ h, h ∈ ks → left (.string h) = false
  len : ∀ h, h ∈ ks → h.length = 32
  few : ks.length + cnt ≤ keys.length
theorem Met.step {keys : List Bys} {left : Lit → Bool} {cnt cnt' : Nat} {ks : List Bys} (H : Met keys left cnt ks) {h : Bys} (hl : h.length = 32) (hlk : left (.string h) = true) (hc : cnt' < cnt) : Met keys (fun z => left z && !z.sameKey (.string h)) cnt' (ks ++ [h]) := by
  have hn : h ∉ ks := fun hm => by rw [H.apart h hm] at hlk; cases hlk
  refine ⟨?_, fun h' => ?_, fun h' hm => ?_, fun h' hm => ?_, ?_⟩
  · rw [List.nodup_append]
    exact ⟨H.nodup, by simp, fun a ha b hb => by simp at hb; subst hb; exact fun e => hn (e ▸ ha)⟩
  · rw [H.met h']
    by_cases e : h' = h
    · subst e; simp [hlk]
    · have e' : ((Lit.string h').sameKey (.string h)) = false := Maps.sameKey_ne (by simpa using e)
      simp [e, e']
  · rcases List.mem_append.1 hm with hm | hm
    · simp [H.apart h' hm]
    · obtain rfl : h' = h := by simpa using hm
      simp [Lit.sameKey]
  · rcases List.mem_append.1 hm with hm | hm
    · exact H.len h' hm
    · obtain rfl : h' = h := by simpa using hm
      exact hl
  · have := H.few
    rw [List.length_append]; simp; omega
theorem Met.done {keys : List Bys} {left : Lit → Bool} {cnt : Nat} {ks : List Bys} (H : Met keys left cnt ks) (hk : keys.Nodup) (hl : ∀ kl, left kl = false) : ks.Perm keys := by
  rw [List.perm_ext_iff_of_nodup H.nodup hk]
  intro h
  rw [H.met h, hl]
  simp

/-- Where List's loop stands. -/
structure LiRel (w : World) (bm r : Nat) (keys : List Bys) (D : DataW Value) (v : Value) (wr : World) : Prop where
  st : ∃ left cnt ks, wr.ranges Try.prog 35 rawE bm r keys.length D left cnt ∧ Met keys left cnt ks ∧ wr.ownsRow w.heap.size 35 32 v ks.length (rows35 ks) ∧ ∃ g cap, v = .slice (some ⟨g, 0, none⟩) ks.length cap
  below : Below w.heap.size w wr
  lt : w.heap.size ≤ r

theorem own_past32 {w w' : World} {B n : Nat} {v : Value} {xs : List Value} (h : w.ownsRow B 35 32 v n xs) (hb : Below w.heap.size w w') : w'.ownsRow B 35 32 v n xs := by
  refine ⟨h.1, ?_⟩
  rcases h.2 with hn | ⟨g, cap, cur, rfl, hb', hgg, rest⟩
  · exact .inl hn
  · exact .inr ⟨g, cap, cur, rfl, hb', by rw [hb.block g (h.lt g rfl).2]; exact hgg, rest⟩

theorem own_ne {w : World} {B n x : Nat} {v : Value} {xs : List Value} (h : w.ownsRow B 35 32 v n xs) (hx : ∀ cs t fr, w.heap[x]? ≠ some (.cells cs t fr)) : v.ownBlock ≠ some x := by
  intro e
  rcases h.2 with ⟨rfl, _⟩ | ⟨g, cap, cur, rfl, _, hgg, _⟩
  · cases e
  · have hk : g = x := Option.some.inj e
    subst hk
    exact hx _ _ _ hgg
theorem ranges_not {w : World} {b r n : Nat} {D : DataW Value} {left : Lit → Bool} {cnt : Nat} (h : w.ranges Try.prog 35 rawE b r n D left cnt) : (∀ cs t fr, w.heap[b]? ≠ some (.cells cs t fr)) ∧ ∀ cs t fr, w.heap[r]? ≠ some (.cells cs t fr) := by
  obtain ⟨es, clock, since, seen, c0, hb, _, _, _, hr, _⟩ := h
  exact ⟨fun cs t fr e => (by rw [hb] at e; cases e), fun cs t fr e => (by rw [hr] at e; cases e)⟩
/-- What List answers. -/
def ListRet (keys : List Bys) (B : Nat) (ev : Ending) (w' : World) : Prop := ∃ (g cap : Nat) (hs : List Bys), ev = .returned (.slice (some ⟨g, 0, none⟩) hs.length cap) ∧ hs.Perm keys ∧ hs.Pairwise (fun a b => less a b = true) ∧ hs.length ≤ cap ∧ B ≤ g ∧ Lies w' g hs

attribute [local go_sem ↓] Go.wp_at_zero Go.wp_at_succ
set_option maxHeartbeats 8000000 in
set_option maxRecDepth 20000 in
theorem list_any {O : Nat → Prop} {w : World} {v : Value} {bm room : Nat} {c : List (Bys × Bys)} (H : Sto O w v bm room c) :
    Calls Try.prog 20 #[v] w fun ev w' => ListRet (c.map (·.1)) w.heap.size ev w' ∧ Below w.heap.size w w' := by
  obtain ⟨sb, rfl, _, h0, h1⟩ := H.shape
  obtain ⟨t, hc, hm, _⟩ := H.map
  have hnd := H.apart
  have h32 := H.len32
  have hfew := H.small
  obtain ⟨D, hown, hsz, hhas, hat⟩ := hm.raw
  have hlenE : (t.map fun x => (x.1, x.2.2)).length = (c.map (·.1)).length := by rw [hc]; simp
  have hkeys : (t.map fun x => (x.1, x.2.2)).map (·.1) = c.map (·.1) := by rw [map_keys, hc]
  rw [hlenE] at hown hsz
  rw [hkeys] at hhas
  have hln : ∀ y ty, Below w.heap.size w y → (Builtin.len_ #[64] ty #[.map (some bm)]).run Try.prog y = .ok (.int .i64 ((c.map (·.1)).length : Int)) y := fun y ty hy => by
    have := (hm.same (hy.block bm hm.lt)).size Try.underlying64 ty
    rwa [hlenE] at this
  have hbm := hm.lt
  have hlw := fun ty => hln w ty (Below.refl _ _)
  have h32k : ∀ h ∈ c.map (·.1), h.length = 32 := fun h hh => by
    obtain ⟨q, hq, rfl⟩ := List.mem_map.1 hh
    exact h32 q hq
  have hfewk : (c.map (·.1)).length ≤ 4096 := by simpa using hfew
  have HH : Hid (∀ h, Maps.has D (.string h) = decide (h ∈ c.map (·.1))) := hhas
  clear H hm hc hat hln hlenE hkeys hfew h32 hhas
  generalize c.map (·.1) = keys at *
  obtain ⟨i0, hi, hz0, hz1, hz2⟩ := info_parts Try.info35z
  have HZ : Hid (i0.bytes = 32) := hz2
  go_enter Try.func20, Try.ntmps20
  go_wp2_with (first | (refine wpList_make_own w rfl _ _ 29 rfl w.heap.size 35 i0 (.agg z25.toArray) 32 Try.underlying29 hi hz0 hz1 .i64 .i64 (keys.length : Int) keys.length rfl rfl rfl (by rw [HZ.out]; omega) (by unfold maxLen; omega) (Nat.le_refl _) ?_; intro w1 hown1 hg1; have hc1 : w1.cell? ⟨sb, 1, none⟩ = some (.map (some bm)) := (by have hk := hg1.block sb (World.block_lt_of_cell? w _ h1) (by simp); unfold World.cell? at *; rw [hk]; exact h1); have hom1 := hown.kept hg1 (by simp)) | (at_range; refine wpList_range_own w1 rfl _ 64 rfl 35 33 law Try.underlying64 _ bm keys.length D rfl hom1 ?_; intro w2 hrg2 hg2 hs2))
  go_frame
  have hb12 : Below w.heap.size w w2 := (below_grown hg1 (Nat.le_refl _) (by simp)).trans (below_grown hg2 hg1.size (by simp))
  have HI : Hid (LiRel w bm w1.heap.size keys D (.slice (some ⟨w.heap.size, 0, none⟩) 0 keys.length) w2) := by
    refine ⟨⟨_, _, [], hrg2, ⟨by simp, fun h => ?_, by simp, by simp, by rw [hsz]; simp⟩, hown1.kept hg2 (by simp [Value.ownBlock]), _, _, rfl⟩, hb12, hg1.size⟩
    rw [HH.out h]; simp
  clear hrg2 hg2 hs2 hown1 hg1 hom1 hc1 hb12 hown hsz h1 h0 hlw HH hz2
  generalize w1.heap.size = r at *
  have invK : ∀ key kl, keyOf Try.prog 35 key = some kl → ∃ x : Hsh, key = hv x.1 := fun key kl hk => by
    obtain ⟨h, hl, e, _⟩ := keyOf_inv hk
    exact ⟨⟨h, hl⟩, e⟩
  have invV : ∀ v y, rawE v = some y → ∃ c : Value, v = (fun c => c) c := fun v y _ => ⟨v, rfl⟩
  have HK : Hid (∀ key kl, keyOf Try.prog 35 key = some kl → ∃ x : Hsh, key = hv x.1) := invK
  have HV : Hid (∀ v y, rawE v = some y → ∃ c : Value, v = (fun c => c) c) := invV
  clear invK invV
  go_loopw [3] (fun v wr => LiRel w bm r keys D v wr) (fun _ wr => wr.rangeLeft bm r)
  case atStart => exact HI.out
  case round =>
    clear HI
    obtain ⟨left, cnt, ks, hrg, hmet, hownr, g, cap, rfl⟩ := hrel.st
    have hB := hrel.below
    have hr := hrel.lt
    clear hrel
    go_wp2_with (first | (at_next; refine wpList_next_ranges wr rfl _ rfl 35 law rawE (fun x : Hsh => hv x.1) (fun c : Value => c) HK.out HV.out bm r keys.length D left cnt rfl hrg ?_ ?_))
    · intro _ hl0
      have hperm := hmet.done hnd hl0
      have hl := hmet.few
      have CS := sort_any wr g cap w.heap.size ks hownr hmet.len hmet.nodup (by omega)
      have hcap : ks.length ≤ cap := by
        rcases hownr.2 with ⟨e, _⟩ | ⟨g', cap', cur, e, _, _, hle, _⟩
        · cases e
        · cases e; exact hle
      have hg0 : w.heap.size ≤ g := (hownr.lt g rfl).1
      clear hrg hmet hownr hl0 HK HV hl
      go_wp2_with (first | (go_at_call 32; refine CS.mono ?_; rintro ev w4 ⟨rfl, hs, hp4, hs4, hl4, hb4⟩))
      go_ret
      refine ⟨⟨g, cap, hs, by rw [hp4.length_eq]; rfl, hp4.trans hperm, hs4, by rw [hp4.length_eq]; exact hcap, hg0, hl4⟩, hB.trans hb4⟩
    · intro x hx c kl yd yp w3 cnt3 hkey hlk hv3 hat3 hrg3 hlt3 hg3 hs3 hen3
      rw [keyOf_hash x hx] at hkey
      cases hkey
      have hmet3 := hmet.step hx hlk hlt3
      have hl3 : ks.length ≤ 1000000 := by have := hmet.few; omega
      have hown3 := hownr.kept hg3 (.inr (own_ne hownr (ranges_not hrg).2))
      have hB3 : Below w.heap.size w w3 := hB.grown hg3 hB.size (fun k e => by cases e; exact hr)
      have hi3 := size35 x hx
      have hYo : (bys x).toArray.all (·.oneCell') = true := all_one (bys_one _)
      have hYz : z25.toArray.size = (bys x).toArray.size := by simp [z25, bys_len, hx]
      have hL32 : (bys x).length = 32 := bys32 x hx
      have hgA := heap_alloc_new w3 (.cells z25.toArray 35)
      have hbA : Below w3.heap.size w3 (w3.alloc (.cells z25.toArray 35)) := (Below.refl _ _).alloc (Nat.le_refl _) _
      have HM : Hid (Met keys (fun z => left z && !z.sameKey (.string x)) cnt3 (ks ++ [x])) := hmet3
      have HRG : Hid (w3.ranges Try.prog 35 rawE bm r keys.length D (fun z => left z && !z.sameKey (.string x)) cnt3) := hrg3
      have HOW : Hid (w3.ownsRow w.heap.size 35 32 (.slice (some ⟨g, 0, none⟩) ks.length cap) ks.length (rows35 ks)) := hown3
      have HBW : Hid (Below w.heap.size w w3) := hB3
      have HF : Hid (∀ w4, Below w3.heap.size w3 w4 → (w4.alloc (.cells (bys x).toArray 35)).ownsRow w.heap.size 35 32 (.slice (some ⟨g, 0, none⟩) ks.length cap) ks.length (rows35 ks) ∧ w.heap.size ≤ (w4.alloc (.cells (bys x).toArray 35)).heap.size ∧ (w4.alloc (.cells (bys x).toArray 35)).rangeAt w4.heap.size 0 (bys x)) := fun w4 h4 => by
        have hA : Below w4.heap.size w4 (w4.alloc (.cells (bys x).toArray 35)) := (Below.refl _ _).alloc (Nat.le_refl _) _
        have hB4 := hB3.trans (h4.mono hB3.size)
        exact ⟨own_past32 (own_past32 hown3 h4) hA, Nat.le_trans hB4.size hA.size, (Row.new w4 35 (bys x)).range⟩
      have HE : Hid (∀ w4 w6, Below w3.heap.size w3 w4 → (w4.alloc (.cells (bys x).toArray 35)).grownBy w6 (Value.slice (some ⟨g, 0, none⟩) ks.length cap).ownBlock → Below w.heap.size (w4.alloc (.cells (bys x).toArray 35)) w6 → w6.ranges Try.prog 35 rawE bm r keys.length D (fun z => left z && !z.sameKey (.string x)) cnt3 ∧ Below w.heap.size w w6) := fun w4 w6 h4 hg6 hb6 => by
        have hA : Below w4.heap.size w4 (w4.alloc (.cells (bys x).toArray 35)) := (Below.refl _ _).alloc (Nat.le_refl _) _
        have hr4 := hrg3.kept (grown_below h4 none) (by simp) (by simp)
        have hr5 := hr4.alloc (.cells (bys x).toArray 35)
        have ho5 := own_past32 (own_past32 hown3 h4) hA
        have hn := ranges_not hr5
        have hB4 := hB3.trans (h4.mono hB3.size)
        have hB5 := hB4.trans (hA.mono hB4.size)
        exact ⟨hr5.kept hg6 (fun e => own_ne ho5 hn.1 e.symm) (fun e => own_ne ho5 hn.2 e.symm), hB5.trans hb6⟩
      have HLE : Hid (wr.rangeLeft bm r = cnt) := hrg.left_eq
      have HLT : Hid (cnt3 < cnt) := hlt3
      clear hmet hownr hrg hB hmet3 hrg3 hown3 hB3 hlk hv3 hat3 hg3 hs3 hlt3 HK HV
      unfold hv at *
      generalize hLx : bys x = L at *
      have HLX : Hid (bys x = L) := hLx
      clear hLx
      go_wp2_with (first | (refine store_box rfl 35 _ _ rfl w3.heap.size L.toArray rfl rfl 35 z25.toArray hgA hi3 hYz hYo w3 hbA ?_; intro w4 r4 hb4; obtain ⟨ho5, hs5, hr5⟩ := HF.out w4 hb4) | (refine wpList_load_row rfl 35 _ rfl w3.heap.size rfl 35 L.toArray (0, 0) _ r4 Try.underlying35 rfl hi3 ?_) | (refine wp_build35 rfl _ rfl L rfl hL32 ?_) | (at_builtin; refine app_h x hx rfl _ _ rfl rfl ho5 hs5 w4.heap.size rfl (by rw [HLX.out]; exact hr5) hl3 ?_; intro v6 w6 hown6 hb6 hg6))
      obtain ⟨hrg6, hB6⟩ := HE.out w4 w6 hb4 hg6 hb6
      obtain ⟨g6, cap6, hv6⟩ : ∃ g6 cap6, v6 = .slice (some ⟨g6, 0, none⟩) (ks ++ [x]).length cap6 := by
        rcases hown6.2 with ⟨_, e⟩ | ⟨g', cap', cur, e, _⟩
        · simp at e
        · exact ⟨_, _, e⟩
      clear hb4 hg6 hb6 ho5 hs5 hr5 HF HE
      go_roundw
      case rel => exact ⟨⟨_, _, ks ++ [x], hrg6, HM.out, hown6, g6, cap6, hv6⟩, hB6, hr⟩
      case measure => rw [hrg6.left_eq, HLE.out]; exact HLT.out
end Go.Proofs.Ytjnogpcpekheoaa
