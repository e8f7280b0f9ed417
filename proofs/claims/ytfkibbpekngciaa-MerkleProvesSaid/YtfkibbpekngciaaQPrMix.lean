/-
  The rounds of one block: mix.
-/
import Derived.Test.YtfkibbpekngciaaJoinNum2xPr
import Derived.Great.BuildSlice
namespace Go.Proofs.Ytfkibbpekngciaa
open Go.RowKit
theorem Try.info63 : (Try.prog.info? 63).map (fun i => (i.zero, i.size, i.bytes)) = some (some (.int .u32 0), 1, 4) := by kernel_rfl
theorem run_index43 (cs : Array Value) (v : Value) (i : Nat) (hi : i < 8) (hv : cs[i]? = some v) (w : World) : (Instr.index 71 (.agg cs) (.int .i64 (i : Int))).run Try.prog w = .ok v w := by
  obtain ⟨i0, h41, hz0, hz1, hz2⟩ := info_parts Try.info63
  have hn : (0 : Int) ≤ i ∧ (i : Int) < 8 := by omega
  simp [Instr.index, run_underlying Try.underlying71, asIntOf, go_sem, hi]
  rw [hv]; rfl

/-- The 64 words K. -/
def kay : List Int := [1116352408, 1899447441, 3049323471, 3921009573, 961987163, 1508970993, 2453635748, 2870763221, 3624381080, 310598401, 607225278, 1426881987, 1925078388, 2162078206, 2614888103, 3248222580, 3835390401, 4022224774, 264347078, 604807628, 770255983, 1249150122, 1555081692, 1996064986, 2554220882, 2821834349, 2952996808, 3210313671, 3336571891, 3584528711, 113926993, 338241895, 666307205, 773529912, 1294757372, 1396182291, 1695183700, 1986661051, 2177026350, 2456956037, 2730485921, 2820302411, 3259730800, 3345764771, 3516065817, 3600352804, 4094571909, 275423344, 430227734, 506948616, 659060556, 883997877, 958139571, 1322822218, 1537002063, 1747873779, 1955562222, 2024104815, 2227730452, 2361852424, 2428436474, 2756734187, 3204031479, 3329325298]

/-- The eight letters. -/
structure St where
  a : Int
  b : Int
  c : Int
  d : Int
  e : Int
  f : Int
  g : Int
  h : Int
def St.list (s : St) : List Int := [s.a, s.b, s.c, s.d, s.e, s.f, s.g, s.h]

def S1 (e : Int) : Int := bits .xor .u32 (bits .xor .u32 (rotr e 6) (rotr e 11)) (rotr e 25)
def S0 (a : Int) : Int := bits .xor .u32 (bits .xor .u32 (rotr a 2) (rotr a 13)) (rotr a 22)
def chosen (e f g : Int) : Int := bits .xor .u32 (bits .and .u32 e f) (bits .and .u32 (bits .xor .u32 IntKind.u32.max e) g)
def majority (a b c : Int) : Int := bits .xor .u32 (bits .xor .u32 (bits .and .u32 a b) (bits .and .u32 a c)) (bits .and .u32 b c)
def one (s : St) (k w : Int) : Int := IntKind.u32.wrap (IntKind.u32.wrap (IntKind.u32.wrap (IntKind.u32.wrap (s.h + S1 s.e) + chosen s.e s.f s.g) + k) + w)
def two (s : St) : Int := IntKind.u32.wrap (S0 s.a + majority s.a s.b s.c)
def rnd (s : St) (k w : Int) : St := ⟨IntKind.u32.wrap (one s k w + two s), s.a, s.b, s.c, IntKind.u32.wrap (s.d + one s k w), s.e, s.f, s.g⟩
def rnds (s : St) (X : List Int) : Nat → St
  | 0 => s
  | t + 1 => rnd (rnds s X t) (kay.getD t 0) (X.getD t 0)
def plus (s r : St) : St := ⟨IntKind.u32.wrap (s.a + r.a), IntKind.u32.wrap (s.b + r.b), IntKind.u32.wrap (s.c + r.c), IntKind.u32.wrap (s.d + r.d), IntKind.u32.wrap (s.e + r.e), IntKind.u32.wrap (s.f + r.f), IntKind.u32.wrap (s.g + r.g), IntKind.u32.wrap (s.h + r.h)⟩
def mixed (s : St) (X : List Int) : St := plus s (rnds s X 64)
/-- A whole value stored into a block that is known: what is known of the world behind it. -/
theorem store_box {P : Program} {ops : Array Oper} {rest : List Oper} {o : Oper} {a : Act} {w : World} {Q : Exit → Act → World → Prop} (hgd : o.guard = none) (ty : TypeId) (x y : Operand) (ho : o.op = .store ty x y)
    (g : Nat) (cells : Array Value) (hx : a.eval x = .pointer (some ⟨g, 0, none⟩)) (hy : a.eval y = .agg cells)
    (t : TypeId) (old : Array Value) (hg : w.heap[g]? = some (.cells old t (0, 0))) (hi : (P.info? ty).map (·.size) = some cells.size)
    (hold : old.size = cells.size) (h1 : cells.all (·.oneCell') = true) (w0 : World) (hb : Below g w0 w)
    (h : ∀ w', w'.heap[g]? = some (.cells cells t (0, 0)) → Below g w0 w' → wpList P ops Q rest (a.put o.dst undef) w') : wpList P ops Q (o :: rest) a w :=
  wpList_store_row hgd ty x y ho g cells hx hy t old hg hi hold h1 (h _ (setRow_heap w g old cells t _ hg) (below_setRow hb (Nat.le_refl _) _))

def z43 : List Value := u32s (List.replicate 8 0)

theorem three_new (w : World) (o1 o2 o3 o : Obj) : ((((w.alloc o1).alloc o2).alloc o3).alloc o).heap[w.heap.size + 1 + 1 + 1]? = some o := by
  have := heap_alloc_new (((w.alloc o1).alloc o2).alloc o3) o
  simpa using this
theorem three_below (w : World) (o1 o2 o3 o : Obj) : Below (w.heap.size + 1 + 1 + 1) (((w.alloc o1).alloc o2).alloc o3) ((((w.alloc o1).alloc o2).alloc o3).alloc o) := (Below.refl _ _).alloc (by simp) _

/-- The world when mix begins its rounds. -/
structure MRel (w : World) (H X : List Int) (wr : World) : Prop where
  start : Row wr w.heap.size 71 (u32s H)
  row : Row wr (w.heap.size + 1) 65 (u32s X)
  res : Row wr (w.heap.size + 1 + 1) 71 z43
  kay : Row wr (w.heap.size + 1 + 1 + 1) 65 (u32s kay)
  below : Below w.heap.size w wr
theorem MRel.first (w w4 : World) (H X : List Int)
    (h1 : w4.heap[w.heap.size + 1 + 1 + 1]? = some (.cells (u32s Go.Proofs.Ytfkibbpekngciaa.kay).toArray 65 (0, 0)))
    (h2 : Below (w.heap.size + 1 + 1 + 1) (((w.alloc (.cells (u32s H).toArray 71)).alloc (.cells (u32s X).toArray 65)).alloc (.cells z43.toArray 71)) w4) : MRel w H X w4 := by
  have b1 : Below w.heap.size w (w.alloc (.cells (u32s H).toArray 71)) := (Below.refl _ _).alloc (Nat.le_refl _) _
  have b2 : Below w.heap.size w ((w.alloc (.cells (u32s H).toArray 71)).alloc (.cells (u32s X).toArray 65)) := b1.alloc (by simp) _
  have b3 : Below w.heap.size w (((w.alloc (.cells (u32s H).toArray 71)).alloc (.cells (u32s X).toArray 65)).alloc (.cells z43.toArray 71)) := b2.alloc (by simp; omega) _
  have c2 : Below (w.alloc (.cells (u32s H).toArray 71)).heap.size (w.alloc (.cells (u32s H).toArray 71)) (((w.alloc (.cells (u32s H).toArray 71)).alloc (.cells (u32s X).toArray 65)).alloc (.cells z43.toArray 71)) := ((Below.refl _ _).alloc (Nat.le_refl _) _).alloc (by simp) _
  have c3 : Below ((w.alloc (.cells (u32s H).toArray 71)).alloc (.cells (u32s X).toArray 65)).heap.size ((w.alloc (.cells (u32s H).toArray 71)).alloc (.cells (u32s X).toArray 65)) (((w.alloc (.cells (u32s H).toArray 71)).alloc (.cells (u32s X).toArray 65)).alloc (.cells z43.toArray 71)) := (Below.refl _ _).alloc (Nat.le_refl _) _
  have r1 := ((Row.new w 71 (u32s H)).below c2 (by simp)).below h2 (by omega)
  have r2 := ((Row.new (w.alloc (.cells (u32s H).toArray 71)) 65 (u32s X)).below c3 (by simp)).below h2 (by simp)
  have r3 := (Row.new ((w.alloc (.cells (u32s H).toArray 71)).alloc (.cells (u32s X).toArray 65)) 71 z43).below h2 (by simp)
  refine ⟨r1, ?_, ?_, ⟨h1⟩, b3.trans (h2.mono (by omega))⟩
  · simpa using r2
  · simpa using r3

theorem MRel.drewN {w wr : World} {H X : List Int} (h : MRel w H X wr) (n : Nat) : MRel w H X (wr.drewN n) :=
  ⟨h.start.drewN, h.row.drewN, h.res.drewN, h.kay.drewN, ⟨h.below.os, h.below.tape, h.below.output, h.below.size, h.below.block⟩⟩

/-- The letters when k of them have grown. -/
def mid (s r : St) (k : Nat) : List Int := (plus s r).list.take k ++ s.list.drop k
theorem mid_len (s r : St) (k : Nat) (h : k ≤ 8) : (mid s r k).length = 8 := by simp [mid, St.list]; omega
theorem eight {k : Nat} (h : k < 8) : k = 0 ∨ k = 1 ∨ k = 2 ∨ k = 3 ∨ k = 4 ∨ k = 5 ∨ k = 6 ∨ k = 7 := by omega
theorem mid_get (s r : St) (k : Nat) (h : k < 8) : (mid s r k).getD k 0 = s.list.getD k 0 := by
  rcases eight h with rfl | rfl | rfl | rfl | rfl | rfl | rfl | rfl <;> rfl
theorem mid_set (s r : St) (k : Nat) (h : k < 8) : (mid s r k).set k (IntKind.u32.wrap (s.list.getD k 0 + r.list.getD k 0)) = mid s r (k + 1) := by
  rcases eight h with rfl | rfl | rfl | rfl | rfl | rfl | rfl | rfl <;> rfl
structure MRel2 (w : World) (s r : St) (k : Nat) (wr : World) : Prop where
  start : Row wr w.heap.size 71 (u32s (mid s r k))
  res : Row wr (w.heap.size + 1 + 1) 71 z43
  below : Below w.heap.size w wr
theorem MRel2.next {w wr : World} {s r : St} {k : Nat} (h : MRel2 w s r k wr) (hk : k < 8) : MRel2 w s r (k + 1) (wr.setCell ⟨w.heap.size, k, none⟩ (.int .u32 ((s.list.getD k 0 + r.list.getD k 0) % 4294967296))) := by
  rw [← IntKind.wrap_u32]
  refine ⟨?_, h.res.other (by omega) _, h.below.setCell (p := ⟨w.heap.size, k, none⟩) (Nat.le_refl _) _⟩
  have := h.start.set k (.int .u32 (IntKind.u32.wrap (s.list.getD k 0 + r.list.getD k 0)))
  rw [← u32s_set, mid_set s r k hk] at this
  exact this

attribute [local go_sem ↓] Go.wp_at_zero Go.wp_at_succ
set_option maxHeartbeats 4000000 in
set_option maxRecDepth 20000 in
theorem mix_any (w : World) (s : St) (X : List Int) (hX : X.length = 64) :
    Calls Try.prog 54 #[.agg (u32s s.list).toArray, .agg (u32s X).toArray] w fun ev w' => ev = .returned (.agg (u32s (mixed s X).list).toArray) ∧ Below w.heap.size w w' := by
  have HM := MRel.first w (H := s.list) (X := X)
  obtain ⟨a, b, c, d, e, f, g, h⟩ := s
  have eH : (u32s (St.mk a b c d e f g h).list).toArray = #[.int .u32 a, .int .u32 b, .int .u32 c, .int .u32 d, .int .u32 e, .int .u32 f, .int .u32 g, .int .u32 h] := rfl
  have eK : (List.map (Value.int IntKind.u32) kay).toArray = (u32s kay).toArray := rfl
  rw [eH] at HM ⊢
  have hi : (Try.prog.info? 65).map (·.size) = some (u32s X).toArray.size := by rw [List.size_toArray, u32s_len, hX]; exact Try.info65
  have hiK : (Try.prog.info? 65).map (·.size) = some (u32s kay).toArray.size := by kernel_rfl
  have hone := all_one (u32s_one X)
  have hK64 : (u32s kay).toArray.size = 64 := rfl
  have honeK := all_one (u32s_one kay)
  generalize (u32s X).toArray = Y at *
  generalize (u32s kay).toArray = KK at *
  go_enter Try.func54, Try.ntmps54
  go_wp2_with (first | (refine wpList_buildFlatArr rfl 65 63 64 _ rfl .u32 kay Try.underlying65 (by kernel_rfl) (by kernel_rfl) rfl ?_; rw [eK]) | (refine store_box rfl 65 _ _ rfl (w.heap.size + 1 + 1 + 1) KK rfl rfl 65 _ (three_new w _ _ _ _) hiK (by rw [hK64]; rfl) honeK (((w.alloc _).alloc _).alloc _) (three_below w _ _ _ _) ?_; intro w4 G4 hb4))
  have HR : Hid (MRel w (St.mk a b c d e f g h).list X w4) := HM w4 G4 hb4
  have c0 : w4.cell? ⟨w.heap.size, 0, none⟩ = some (.int .u32 a) := HR.out.start.cell 0
  have c1 : w4.cell? ⟨w.heap.size, 1, none⟩ = some (.int .u32 b) := HR.out.start.cell 1
  have c2 : w4.cell? ⟨w.heap.size, 2, none⟩ = some (.int .u32 c) := HR.out.start.cell 2
  have c3 : w4.cell? ⟨w.heap.size, 3, none⟩ = some (.int .u32 d) := HR.out.start.cell 3
  have c4 : w4.cell? ⟨w.heap.size, 4, none⟩ = some (.int .u32 e) := HR.out.start.cell 4
  have c5 : w4.cell? ⟨w.heap.size, 5, none⟩ = some (.int .u32 f) := HR.out.start.cell 5
  have c6 : w4.cell? ⟨w.heap.size, 6, none⟩ = some (.int .u32 g) := HR.out.start.cell 6
  have c7 : w4.cell? ⟨w.heap.size, 7, none⟩ = some (.int .u32 h) := HR.out.start.cell 7
  clear G4 hb4 HM eK hiK hK64 honeK hi hone eH
  have HI : Hid (∀ n, MRel w (St.mk a b c d e f g h).list X (w4.drewN n)) := fun n => HR.out.drewN n
  clear HR
  obtain ⟨s, hs⟩ : ∃ s : St, s = St.mk a b c d e f g h := ⟨_, rfl⟩
  have HS : Hid (s = St.mk a b c d e f g h) := hs
  rw [← hs] at HI
  clear hs
  go_wp2_with fail
  go_quiet (fail)
  go_wp2_with fail
  go_loopw [6, 7, 8, 9, 10, 11, 12, 13, 40] (fun v6 v7 v8 v9 v10 v11 v12 v13 i wr => ∃ k : Nat, k ≤ 64 ∧ i = .int .i64 k ∧ v6 = .int .u32 (rnds s X k).a ∧ v7 = .int .u32 (rnds s X k).b ∧ v8 = .int .u32 (rnds s X k).c ∧ v9 = .int .u32 (rnds s X k).d ∧ v10 = .int .u32 (rnds s X k).e ∧ v11 = .int .u32 (rnds s X k).f ∧ v12 = .int .u32 (rnds s X k).g ∧ v13 = .int .u32 (rnds s X k).h ∧ MRel w s.list X wr) (fun _ _ _ _ _ _ _ _ i _ => 64 - (intOf i).toNat)
  case atStart =>
    have := HS.out
    exact ⟨0, by omega, rfl, by rw [this]; rfl, by rw [this]; rfl, by rw [this]; rfl, by rw [this]; rfl, by rw [this]; rfl, by rw [this]; rfl, by rw [this]; rfl, by rw [this]; rfl, HI.out _⟩
  case round =>
    obtain ⟨k, hk, rfl, rfl, rfl, rfl, rfl, rfl, rfl, rfl, rfl, hM⟩ := hrel
    clear HI c0 c1 c2 c3 c4 c5 c6 c7
    by_cases hk3 : k < 64
    · have q0 : wr.cell? ⟨w.heap.size + 1, k, none⟩ = some (.int .u32 (X.getD k 0)) := by rw [hM.row.cell k, u32s_get _ _ (by omega)]
      have q1 : wr.cell? ⟨w.heap.size + 1 + 1 + 1, k, none⟩ = some (.int .u32 (kay.getD k 0)) := by rw [hM.kay.cell k, u32s_get _ _ (by show k < 64; omega)]
      have HM : Hid (MRel w s.list X wr) := hM
      have HN : Hid (rnds s X (k + 1) = rnd (rnds s X k) (kay.getD k 0) (X.getD k 0)) := rfl
      generalize rnds s X k = r at *
      generalize kay.getD k 0 = kk at *
      generalize X.getD k 0 = xk at *
      obtain ⟨a, b, c, d, e, f, g, h⟩ := r
      clear hM
      have l1 : (k : Int) < 64 := by omega
      go_wp2_with fail
      refine (turned_any e 6 6 rfl (by omega) (by omega) _).mono ?_
      rintro ev w6 ⟨rfl, rfl⟩
      go_wp2_with fail
      refine (turned_any e 11 11 rfl (by omega) (by omega) _).mono ?_
      rintro ev w6 ⟨rfl, rfl⟩
      go_wp2_with fail
      refine (turned_any e 25 25 rfl (by omega) (by omega) _).mono ?_
      rintro ev w6 ⟨rfl, rfl⟩
      go_wp2_with fail
      rw [show bits .xor .u32 (bits .xor .u32 (rotr e 6) (rotr e 11)) (rotr e 25) = S1 e from rfl, show bits .xor .u32 (bits .and .u32 e f) (bits .and .u32 (bits .xor .u32 IntKind.u32.max e) g) = chosen e f g from rfl]
      go_quiet (fail)
      go_wp2_with fail
      refine (turned_any a 2 2 rfl (by omega) (by omega) _).mono ?_
      rintro ev w7 ⟨rfl, rfl⟩
      go_wp2_with fail
      refine (turned_any a 13 13 rfl (by omega) (by omega) _).mono ?_
      rintro ev w7 ⟨rfl, rfl⟩
      go_wp2_with fail
      refine (turned_any a 22 22 rfl (by omega) (by omega) _).mono ?_
      rintro ev w7 ⟨rfl, rfl⟩
      go_wp2_with fail
      go_roundw
      case rel =>
        have hn := HN.out
        refine ⟨k + 1, by omega, by go_num, ?_, ?_, ?_, ?_, ?_, ?_, ?_, ?_, HM.out.drewN _⟩ <;> rw [hn]
        · simp only [rnd, one, two, IntKind.wrap_u32, S0, majority, Value.int.injEq, true_and]
          omega
        · rfl
        · rfl
        · rfl
        · simp only [rnd, one, IntKind.wrap_u32, Value.int.injEq, true_and]
          omega
        · rfl
        · rfl
        · rfl
      case measure => simp [intOf]; omega
    · have HM : Hid (MRel w s.list X wr) := hM
      have hk64 : k = 64 := by omega
      have hki : (k : Int) = 64 := by omega
      rw [hki, hk64]
      generalize hr : rnds s X 64 = r
      have HN : Hid (mixed s X = plus s r) := by show _ = _; rw [mixed, hr]
      obtain ⟨a, b, c, d, e, f, g, h⟩ := r
      clear hr hM hk hk3 hki hk64
      rename World => wA
      go_wp2_with fail
      have HX : Hid (∀ (k : Nat), k < 8 → ∀ w : World, (Instr.index 71 (.agg #[.int .u32 a, .int .u32 b, .int .u32 c, .int .u32 d, .int .u32 e, .int .u32 f, .int .u32 g, .int .u32 h]) (.int .i64 (k : Int))).run Try.prog w = .ok (.int .u32 ((St.mk a b c d e f g h).list.getD k 0)) w) := by
        intro k hk w
        refine run_index43 _ _ k hk ?_ w
        rcases eight hk with rfl | rfl | rfl | rfl | rfl | rfl | rfl | rfl <;> rfl
      go_loopw [116] (fun i wr => ∃ k : Nat, k ≤ 8 ∧ i = .int .i64 k ∧ MRel2 w s ⟨a, b, c, d, e, f, g, h⟩ k wr) (fun i _ => 8 - (intOf i).toNat)
      case atStart => exact ⟨0, by omega, rfl, HM.out.start, HM.out.res, HM.out.below⟩
      case round =>
        obtain ⟨k, hk, rfl, hM⟩ := hrel
        by_cases hk3 : k < 8
        · have hx := HX.out k hk3
          have q0 : wr.cell? ⟨w.heap.size, k, none⟩ = some (.int .u32 (s.list.getD k 0)) := by rw [hM.start.cell k, u32s_get _ _ (by rw [mid_len _ _ _ hk]; exact hk3), mid_get _ _ _ hk3]
          have q1 := hM.start.fz k
          have HN2 : Hid (MRel2 w s ⟨a, b, c, d, e, f, g, h⟩ (k + 1) (wr.setCell ⟨w.heap.size, k, none⟩ (.int .u32 ((s.list.getD k 0 + (St.mk a b c d e f g h).list.getD k 0) % 4294967296)))) := hM.next hk3
          clear HX HM hM
          generalize s.list.getD k 0 = xx at *
          generalize (St.mk a b c d e f g h).list.getD k 0 = yy at *
          have l1 : (k : Int) < 8 := by omega
          go_wp2_with fail
          go_roundw
          case rel => exact ⟨k + 1, by omega, by go_num, HN2.out⟩
          case measure => simp [intOf]; omega
        · obtain rfl : k = 8 := by omega
          have h0 : Row wr w.heap.size 71 (u32s (mixed s X).list) := by rw [HN.out]; exact hM.start
          have HB : Hid (Below w.heap.size w (wr.setRow (w.heap.size + 1 + 1) (u32s (mixed s X).list).toArray)) := below_setRow hM.below (by omega) _
          have hres := hM.res.heap
          have hrow := h0.heap
          have hres2 := (hM.res.setRow (u32s (mixed s X).list)).heap
          have hi : (Try.prog.info? 71).map (·.size) = some (u32s (mixed s X).list).toArray.size := Try.info71
          have hz : z43.toArray.size = (u32s (mixed s X).list).toArray.size := rfl
          have hone := all_one (u32s_one (mixed s X).list)
          obtain ⟨Y2, hY2⟩ : ∃ Y2, Y2 = (u32s (mixed s X).list).toArray := ⟨_, rfl⟩
          rw [← hY2] at HB hrow hres2 hi hz hone
          have HY : Hid (Y2 = (u32s (mixed s X).list).toArray) := hY2
          clear hM hY2 h0 HX HM
          go_wp2_with (first | (refine wpList_load_row rfl 71 _ rfl w.heap.size rfl 71 Y2 (0, 0) _ hrow Try.underlying71 rfl hi ?_) | (refine wpList_store_row rfl 71 _ _ rfl (w.heap.size + 1 + 1) Y2 rfl rfl 71 z43.toArray hres hi hz hone ?_))
          refine bodyPost_ret (v := .agg Y2) (results_cell_row Try.results54 _ _ (w.heap.size + 1 + 1) 71 Y2 (0, 0) _ rfl hres2 Try.underlying71 rfl hi) rfl ⟨by rw [HY.out, HS.out], HB.out⟩
end Go.Proofs.Ytfkibbpekngciaa
