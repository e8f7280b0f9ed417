/-
  The statements' own step 'read', gone on with: Hash; and all kinds.
-/
import Derived.Test.YtkgmjhchefkmaaaRdd
import Derived.Test.YtkgmjhchefkmaaaFns
namespace Go.Proofs.Ytkgmjhchefkmaaa
open Go.RowKit

attribute [local go_sem ↓] Go.wp_at_zero Go.wp_at_succ
set_option maxHeartbeats 4000000 in
set_option maxRecDepth 20000 in
theorem read_hash (B : Nat) (w : World) (rb : Nat) (v : Value) (l : List UInt8) (p xb c a : Nat) (o : Opv) (hk : o.sort = 5) (h : Rd w rb v l p) (hx : Rf w xb l p c a) (hne : xb ≠ rb) (hv : v.ownBlock ≠ some xb) (hB : B ≤ rb) (hB' : B ≤ xb) :
    Calls Try.prog 15 #[.pointer (some ⟨rb, 0, none⟩), .pointer (some ⟨xb, 0, none⟩), .agg o.cells.toArray] w fun ev w' => ev = .returned (.bool true) ∧ Next B w w' rb v l xb := by
  obtain ⟨t, e1, e2, e3, e4⟩ := o.rem
  have k5 : (t + 6) % 6 = 5 := by omega
  have k0 : o.cells[0]? = some (.int .i64 o.kind) := rfl
  have c2 := hx.c2
  have c3 := hx.c3
  have f2 := hx.fz 2
  have f3 := hx.fz 3
  have hxl := hx.lt
  generalize o.cells = C at *
  obtain ⟨hR0, hX0, hB0, -, -⟩ := back0_pre (B := B) C h hx hne hv hB'
  have C1 := rHash_any _ rb v l p hR0
  have h32 := (fin_hash l p).2
  have HX : Hid (∀ w1 e, Out (back0 w xb C) w1 rb v l p (rhash l p).2.1 (rhash l p).2.2 e → ∀ w1', Below w1.heap.size w1 w1' → w1'.heap[w1.heap.size]? = some (.cells (bys (rhash l p).1).toArray 27 (0, 0)) → Calls Try.prog 42 #[.pointer (some ⟨xb, 0, none⟩)] w1'.drew fun ev w2 => ev = .returned (.agg (bys (rhash l p).1).toArray) ∧ Both B w w2 rb v l p (rhash l p).2.1 (rhash l p).2.2 xb e ∧ w2.rangeAt w1.heap.size 0 (bys (rhash l p).1)) := fun w1 e hO w1' hb1 hg => by
    have hbd : Below w1.heap.size w1 w1'.drew := hb1.drew
    have hr := both_rf hne hX0 hO hbd
    have hxlt : xb < w1.heap.size := (both_rf hne hX0 hO (Below.refl _ _)).lt
    refine (xHash_any w1'.drew xb l p hr).mono ?_
    rintro ev w2 ⟨rfl, hx2⟩
    refine ⟨rfl, both_make hne hv hB hB' hX0 hB0 hO hbd hx2, ?_⟩
    have hg2 : w2.heap[w1.heap.size]? = some (.cells (bys (rhash l p).1).toArray 27 (0, 0)) := by
      rw [hx2.grown.block w1.heap.size (Array.getElem?_eq_some_iff.1 hg).1 (by intro e; cases e; omega)]
      exact hg
    intro j u hj
    rw [cell_of_row w2 w1.heap.size (0 + j) _ 27 (0, 0) hg2]
    simpa using hj
  have HRG : Hid (∀ (w1 : World) (g : Nat), w1.heap[g]? = some (.cells (bys (rhash l p).1).toArray 27 (0, 0)) → w1.drew.rangeAt g 0 (bys (rhash l p).1)) := fun w1 g hg j u hj => by
    rw [cell_of_row w1.drew g (0 + j) _ 27 (0, 0) hg]
    simpa using hj
  have kq := fun w => hash_eq w (rhash l p).1 h32
  have hi27 : (Try.prog.info? 27).map (·.size) = some (bys (rhash l p).1).length := by rw [bys_len, h32]; kernel_rfl
  have hi27' : (Try.prog.info? 27).map (·.size) = some (bys (rhash l p).1).toArray.size := by rw [List.size_toArray]; exact hi27
  have hz32 : (bys (rhash l p).1).toArray.size = 32 := by rw [List.size_toArray, bys_len, h32]
  have hl32 : (bys (rhash l p).1).length = 32 := by rw [bys_len, h32]
  have hone27 : (bys (rhash l p).1).toArray.all (·.oneCell') = true := all_oneCell_toArray (bys_one _)
  have hu27 := Try.underlying27
  generalize (rhash l p).2.1 = q at *
  generalize (rhash l p).2.2 = c' at *
  generalize bys (rhash l p).1 = Y at *
  clear h hx hR0 hX0 hB0 hk e4 hv hne h32
  go_enter Try.func15, Try.ntmps15
  go_wp2_with fail
  refine C1.mono ?_
  rintro ev w1 ⟨e, rfl, hO⟩
  have HD := HX.out w1 e hO
  have AD : Aside _ := HD
  clear C1 HX hO c2 c3 f2 f3 k0 HD
  go_wp2_with (refine store_box rfl 27 _ _ rfl w1.heap.size Y.toArray rfl rfl 27 _ (heap_alloc_new w1 _) hi27' (by rw [hz32]; rfl) hone27 w1 ((Below.refl _ w1).alloc (Nat.le_refl _) _) ?_; intro w4 G4 hb4)
  have D := AD.out w4 hb4 G4
  have hrg := HRG.out w4 _ G4
  clear AD HRG G4 hb4
  go_region_held (fun y => y.rangeAt w1.heap.size 0 Y) (assumption)
    (first | (go_at_call 42; refine D.mono ?_; rintro ev w2 ⟨rfl, hBo, hrg2⟩))
  obtain ⟨a', hAsk⟩ : ∃ a' : Nat, Asks w2 rb xb q c' a' e := ⟨_, hBo.asks⟩
  have HI : Hid _ := hAsk.is_
  have HT : Hid _ := hAsk.at_
  have HS := hAsk.start
  have AB : Aside (Both B w w2 rb v l p q c' xb e) := hBo
  unfold Stays at HI HS
  clear hAsk hBo hrg hrg2 D kq hi27 hi27' hz32 hl32 hone27 hu27
  go_wp2_with fail
  go_region_held (fun y => Below w2.heap.size w2 y ∧ y.cell? ⟨xb, 1, none⟩ = some (.int .i64 (q : Int)) ∧ y.cell? ⟨xb, 2, none⟩ = some (.int .i64 (c' : Int)) ∧ y.cell? ⟨xb, 3, none⟩ = some (.int .i64 (a' : Int))) (assumption)
    (first
    | (go_at_call 17; refine (HI.out _ (by assumption)).mono ?_; rintro ev w6 ⟨rfl, hS6⟩)
    | (go_at_call 24; refine (HT.out _ (by assumption)).mono ?_; rintro ev w6 ⟨rfl, rfl⟩))
  go_wp2_with fail
  go_ret
  exact ⟨rfl, AB.out.next hB' hS6.1⟩

theorem read_any (B : Nat) (w : World) (rb : Nat) (v : Value) (l : List UInt8) (p xb c a : Nat) (o : Opv) (ho : o.ok) (h : Rd w rb v l p) (hx : Rf w xb l p c a) (hne : xb ≠ rb) (hv : v.ownBlock ≠ some xb) (hB : B ≤ rb) (hB' : B ≤ xb) :
    Calls Try.prog 15 #[.pointer (some ⟨rb, 0, none⟩), .pointer (some ⟨xb, 0, none⟩), .agg o.cells.toArray] w fun ev w' => ev = .returned (.bool true) ∧ Next B w w' rb v l xb := by
  have hlt := o.sort_lt
  by_cases h0 : o.sort = 0
  · exact read_uint B w rb v l p xb c a o h0 h hx hne hv hB hB'
  by_cases h1 : o.sort = 1
  · exact read_int B w rb v l p xb c a o h1 h hx hne hv hB hB'
  by_cases h2 : o.sort = 2
  · exact read_small B w rb v l p xb c a o h2 ho h hx hne hv hB hB'
  by_cases h3 : o.sort = 3
  · exact read_bool B w rb v l p xb c a o h3 h hx hne hv hB hB'
  by_cases h4 : o.sort = 4
  · exact read_text B w rb v l p xb c a o h4 ho h hx hne hv hB hB'
  · exact read_hash B w rb v l p xb c a o (by omega) h hx hne hv hB hB'
end Go.Proofs.Ytkgmjhchefkmaaa
