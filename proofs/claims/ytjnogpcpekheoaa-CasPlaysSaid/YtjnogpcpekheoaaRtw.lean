/-
  The document's store: Take.
-/
import Derived.Test.YtjnogpcpekheoaaRpu
namespace Go.Proofs.Ytjnogpcpekheoaa
open Go.RowKit Go.Maps

/-- What the document's Put leaves, told by its code. -/
def RTk (O : Nat → Prop) (w : World) (xb room : Nat) (r : List (Bys × Bys)) (h b : Bys) (w' : World) (code : Nat) (r' : List (Bys × Bys)) : Prop :=
  (h ∈ ks r ∧ Below w.heap.size w w' ∧ code = 0 ∧ r = r') ∨ (h ∉ ks r ∧ ¬ r.length < room ∧ Below w.heap.size w w' ∧ code = 12 ∧ r = r') ∨ ∃ i : Nat, h ∉ ks r ∧ r.length < room ∧ Spot r h i ∧ w.grownBy w' (some xb) ∧ Ref (fun k => O k ∨ w.heap.size ≤ k) w' xb room (ins r i h b) ∧ code = 0 ∧ r' = ins r i h b
theorem RTk.there {O : Nat → Prop} {w : World} {xb room : Nat} {r : List (Bys × Bys)} {h b : Bys} {w' : World} (h1 : h ∈ ks r) (h2 : Below w.heap.size w w') : RTk O w xb room r h b w' 0 r := .inl ⟨h1, h2, rfl, rfl⟩
theorem RTk.full {O : Nat → Prop} {w : World} {xb room : Nat} {r : List (Bys × Bys)} {h b : Bys} {w' : World} (h1 : h ∉ ks r) (h2 : ¬ r.length < room) (h3 : Below w.heap.size w w') : RTk O w xb room r h b w' 12 r := .inr (.inl ⟨h1, h2, h3, rfl, rfl⟩)
theorem RTk.new {O : Nat → Prop} {w : World} {xb room : Nat} {r : List (Bys × Bys)} {h b : Bys} {w' : World} (i : Nat) (h1 : h ∉ ks r) (h2 : r.length < room) (h3 : Spot r h i) (h4 : w.grownBy w' (some xb)) (h5 : Ref (fun k => O k ∨ w.heap.size ≤ k) w' xb room (ins r i h b)) : RTk O w xb room r h b w' 0 (ins r i h b) := .inr (.inr ⟨i, h1, h2, h3, h4, h5, rfl, rfl⟩)
theorem RPut.told {O : Nat → Prop} {w w0 w1 : World} {xb room : Nat} {r : List (Bys × Bys)} {h b : Bys} {ev : Ending} (hp : RPut O w xb room r h b ev w1) (h0 : Below w0.heap.size w0 w) :
    ∃ Y code r', ev = .returned (.tuple #[.agg Y, .int .i64 ((code : Nat) : Int)]) ∧ Y = (bys (if code = 0 then h else List.replicate 32 0)).toArray ∧ (∀ w2, Below w1.heap.size w1 w2 → RTk O w0 xb room r h b w2 code r') := by
  rcases hp with ⟨h1, rfl, h3⟩ | ⟨h1, h2, rfl, h3⟩ | ⟨i, h1, h2, h3, rfl, h5, h6⟩
  · exact ⟨_, 0, r, rfl, by simp, fun w2 h4 => .there h1 ((h0.trans (h3.mono h0.size)).trans (h4.mono (h0.trans (h3.mono h0.size)).size))⟩
  · exact ⟨_, 12, r, rfl, by simp [z25], fun w2 h4 => .full h1 h2 ((h0.trans (h3.mono h0.size)).trans (h4.mono (h0.trans (h3.mono h0.size)).size))⟩
  · exact ⟨_, 0, _, rfl, by simp, fun w2 h4 => .new i h1 h2 h3 (((grown_below h0 _).trans h5).trans (grown_below h4 _)) ((h6.below h4).wide (fun k _ hk => hk.imp id (fun h => Nat.le_trans h0.size h)))⟩

set_option maxHeartbeats 4000000 in
set_option maxRecDepth 20000 in
theorem rtake_bad {w : World} {xb : Nat} (h' h b : Bys) (vb : Value) (hh : h.length = 32) (hh' : h'.length = 32) (hne : h ≠ h') (hsum : ∀ y, w.grownBy y (some xb) → Calls Try.prog 14 #[vb] y fun ev w' => ev = .returned (.agg (bys h).toArray) ∧ Below y.heap.size y w')
    (hb : Sl w vb b) (hl : b.length ≤ 200) :
    Calls Try.prog 15 #[.pointer (some ⟨xb, 0, none⟩), .agg (bys h').toArray, vb] w fun ev w' => ev = .returned (.int .i64 11) ∧ Below w.heap.size w w' := by
  obtain ⟨av, cpv, rfl⟩ := sl_slice hb
  have hlen : (b.length : Int) ≤ (4194304 : Int) := by omega
  have hA : Below w.heap.size w (w.alloc (.cells (bys h').toArray 35)) := (Below.refl _ _).alloc (Nat.le_refl _) _
  have hrow := range_of (heap_alloc_new w (.cells (bys h').toArray 35))
  have hLi := info35L h' hh'
  have he := fun y => equ25 y h h' hh hh'
  rw [show (h == h') = false by simpa using hne] at he
  have HS : Hid (∀ y, Below (w.alloc (.cells (bys h').toArray 35)).heap.size (w.alloc (.cells (bys h').toArray 35)) y → Below w.heap.size w y ∧ y.rangeAt w.heap.size 0 (bys h')) := fun y hy => ⟨hA.trans (hy.mono hA.size), range_below hrow hy⟩
  have q0 := HS.out _ (Below.refl _ _).drew
  have hlt : w.heap.size < (w.alloc (.cells (bys h').toArray 35)).heap.size := by simp
  have J14 : Hid (∀ y, (Below w.heap.size w y ∧ y.rangeAt w.heap.size 0 (bys h')) → Calls Try.prog 14 #[.slice av b.length cpv] y fun ev w' => ev = .returned (.agg (bys h).toArray) ∧ (Below w.heap.size w w' ∧ w'.rangeAt w.heap.size 0 (bys h'))) := fun y hy => by
    refine (hsum y (grown_below hy.1 _)).mono ?_
    rintro ev w' ⟨rfl, hb⟩
    exact ⟨rfl, hy.1.trans (hb.mono hy.1.size), range_below hy.2 hb⟩
  clear HS hsum hb hrow hA
  generalize (bys h).toArray = Y at *
  generalize bys h' = L at *
  have hu := Try.underlying35
  go_enter Try.func15, Try.ntmps15
  go_wp2_with fail
  go_region_held3 (fun y => Below w.heap.size w y ∧ y.rangeAt w.heap.size 0 L) (assumption) (first
    | (go_at_call 14; refine (J14.out _ (by assumption)).mono ?_; rintro ev w3 ⟨rfl, hS3⟩))
  go_wp2_with fail
  go_ret
  exact ⟨rfl, hS3.1⟩

set_option maxHeartbeats 4000000 in
set_option maxRecDepth 20000 in
theorem rtake_ok {O : Nat → Prop} {w : World} {xb room : Nat} {r : List (Bys × Bys)} (h b : Bys) (vb : Value) (hh : h.length = 32) (hsum : ∀ y, w.grownBy y (some xb) → Calls Try.prog 14 #[vb] y fun ev w' => ev = .returned (.agg (bys h).toArray) ∧ Below y.heap.size y w')
    (H : Ref O w xb room r) (hb : ∀ y, w.grownBy y (some xb) → Sl y vb b) (hl : b.length ≤ 200) (hr : room ≤ 1000) :
    Calls Try.prog 15 #[.pointer (some ⟨xb, 0, none⟩), .agg (bys h).toArray, vb] w fun ev w' => ∃ (code : Nat) (r' : List (Bys × Bys)), ev = .returned (.int .i64 (code : Int)) ∧ RTk O w xb room r h b w' code r' := by
  obtain ⟨av, cpv, rfl⟩ := sl_slice (hb w (grown_below (Below.refl _ _) _))
  have hlen : (b.length : Int) ≤ (4194304 : Int) := by omega
  have hA : Below w.heap.size w (w.alloc (.cells (bys h).toArray 35)) := (Below.refl _ _).alloc (Nat.le_refl _) _
  have hrow := range_of (heap_alloc_new w (.cells (bys h).toArray 35))
  have hLi := info35L h hh
  have he := fun y => equ25 y h h hh hh
  rw [show (h == h) = true by simp] at he
  have HS : Hid (∀ y, Below (w.alloc (.cells (bys h).toArray 35)).heap.size (w.alloc (.cells (bys h).toArray 35)) y → Below w.heap.size w y ∧ y.rangeAt w.heap.size 0 (bys h)) := fun y hy => ⟨hA.trans (hy.mono hA.size), range_below hrow hy⟩
  have q0 := HS.out _ (Below.refl _ _).drew
  have J14 : Hid (∀ y, (Below w.heap.size w y ∧ y.rangeAt w.heap.size 0 (bys h)) → Calls Try.prog 14 #[.slice av b.length cpv] y fun ev w' => ev = .returned (.agg (bys h).toArray) ∧ (Below w.heap.size w w' ∧ w'.rangeAt w.heap.size 0 (bys h))) := fun y hy => by
    refine (hsum y (grown_below hy.1 _)).mono ?_
    rintro ev w' ⟨rfl, hb⟩
    exact ⟨rfl, hy.1.trans (hb.mono hy.1.size), range_below hy.2 hb⟩
  have J11 : Hid (∀ y, Below w.heap.size w y → Calls Try.prog 11 #[.pointer (some ⟨xb, 0, none⟩), .slice av b.length cpv] y fun ev w1 => ∃ Y code r', ev = .returned (.tuple #[.agg Y, .int .i64 ((code : Nat) : Int)]) ∧ ((Try.prog.info? 35).map (·.size) = some Y.size ∧ Y.all (·.oneCell') = true ∧ z25.toArray.size = Y.size) ∧ (∀ w2, Below w1.heap.size w1 w2 → RTk O w xb room r h b w2 code r')) := fun y hy => by
    refine (rput_any h b _ hh (fun y' hy' => hsum y' ((grown_below hy _).trans hy')) (H.below hy) (fun y' hy' => hb y' ((grown_below hy _).trans hy')) hl hr).mono ?_
    rintro ev w1 hp
    obtain ⟨Y, code, r', h1, h2, h3⟩ := hp.told hy
    have h32 : (if code = 0 then h else List.replicate 32 0).length = 32 := by split <;> simp [hh]
    refine ⟨Y, code, r', h1, ?_, h3⟩
    rw [h2]
    refine ⟨size35 _ h32, all_one (bys_one _), ?_⟩
    rw [List.size_toArray, List.size_toArray, bys_len, h32]
    rfl
  clear HS hsum hb hrow hA H
  generalize hYY : (bys h).toArray = Y0 at *
  have hYL : (bys h).toArray = Y0 := hYY
  clear hYY
  generalize hLL : bys h = L at *
  subst hYL
  clear hLL
  have hu := Try.underlying35
  go_enter Try.func15, Try.ntmps15
  go_wp2_with fail
  go_region_held3 (fun y => Below w.heap.size w y ∧ y.rangeAt w.heap.size 0 L) (assumption) (first
    | (go_at_call 14; refine (J14.out _ (by assumption)).mono ?_; rintro ev w3 ⟨rfl, hS3⟩))
  have C11 := J11.out w3 hS3.1
  clear J11 J14 q0 he
  go_wp2_with (first | (go_at_call 11; refine C11.mono ?_; rintro ev w4 ⟨Y, code, r', rfl, ⟨hYi, hYo, hYz⟩, hT⟩; have hgA := heap_alloc_new w4 (.cells z25.toArray 35); have hbA : Below w4.heap.size w4 (w4.alloc (.cells z25.toArray 35)) := (Below.refl _ _).alloc (Nat.le_refl _) _; clear C11) | (refine store_box rfl 35 _ _ rfl w4.heap.size Y rfl rfl 35 z25.toArray hgA hYi hYz hYo w4 hbA ?_; intro w5 rH hb5))
  go_ret
  exact ⟨code, r', rfl, hT w5 hb5⟩
end Go.Proofs.Ytjnogpcpekheoaa
