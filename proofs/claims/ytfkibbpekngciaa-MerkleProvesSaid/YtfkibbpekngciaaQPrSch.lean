/-
  The words of one block: schedule.
-/
import Derived.Test.YtfkibbpekngciaaJoinNum2xPr
namespace Go.Proofs.Ytfkibbpekngciaa
open Go.RowKit

/-- Four bytes as a word, the highest first. -/
def wd (a b c d : UInt8) : Int := bits .or .u32 (bits .or .u32 (bits .or .u32 ((a.toNat : Int) * 16777216 % 4294967296) ((b.toNat : Int) * 65536 % 4294967296)) ((c.toNat : Int) * 256 % 4294967296)) (d.toNat : Int)
def wdAt (l : List UInt8) (i : Nat) : Int := wd (l.getD (4 * i) 0) (l.getD (4 * i + 1) 0) (l.getD (4 * i + 2) 0) (l.getD (4 * i + 3) 0)
/-- The first t words of a block. -/
def heads (l : List UInt8) : Nat → List Int
  | 0 => []
  | t + 1 => heads l t ++ [wdAt l t]
theorem heads_len (l : List UInt8) (t : Nat) : (heads l t).length = t := by
  induction t with
  | zero => rfl
  | succ n ih => simp [heads, ih]
def pad (n : Nat) (L : List Int) : List Int := L ++ List.replicate (n - L.length) 0
theorem pad_len (n : Nat) (L : List Int) (h : L.length ≤ n) : (pad n L).length = n := by simp [pad]; omega
theorem pad_set (n : Nat) (L : List Int) (x : Int) (h : L.length < n) : (pad n L).set L.length x = pad n (L ++ [x]) := by
  obtain ⟨m, hm⟩ : ∃ m, n - L.length = m + 1 := ⟨n - L.length - 1, by omega⟩
  unfold pad
  rw [hm, List.set_append_right _ _ (Nat.le_refl _), Nat.sub_self, List.replicate_succ, List.set_cons_zero, List.append_assoc, List.singleton_append]
  congr 3
  simp; omega
theorem pad_get (n : Nat) (L : List Int) (j : Nat) (h : j < L.length) : (pad n L).getD j 0 = L.getD j 0 := by
  simp [pad, List.getD, List.getElem?_append_left h]
theorem pad_full (n : Nat) (L : List Int) (h : L.length = n) : pad n L = L := by simp [pad, h]

def sm0 (x : Int) : Int := bits .xor .u32 (bits .xor .u32 (rotr x 7) (rotr x 18)) (x / 8)
def sm1 (x : Int) : Int := bits .xor .u32 (bits .xor .u32 (rotr x 17) (rotr x 19)) (x / 1024)
def nextW (L : List Int) : Int := IntKind.u32.wrap (IntKind.u32.wrap (IntKind.u32.wrap (sm1 (L.getD (L.length - 2) 0) + L.getD (L.length - 7) 0) + sm0 (L.getD (L.length - 15) 0)) + L.getD (L.length - 16) 0)
def ext (L : List Int) : Nat → List Int
  | 0 => L
  | t + 1 => ext L t ++ [nextW (ext L t)]
theorem ext_len (L : List Int) (t : Nat) : (ext L t).length = L.length + t := by
  induction t with
  | zero => rfl
  | succ n ih => simp [ext, ih]; omega
def sched (l : List UInt8) : List Int := ext (heads l 16) 48
theorem sched_len (l : List UInt8) : (sched l).length = 64 := by rw [sched, ext_len, heads_len]

def z49 : List Value := u32s (List.replicate 64 0)

/-- Where schedule's loops stand: the words so far. -/
structure SRel (w : World) (L : List Int) (wr : World) : Prop where
  row : Row wr (w.heap.size + 1) 65 (u32s (pad 64 L))
  res : Row wr w.heap.size 65 z49
  below : Below w.heap.size w wr
theorem SRel.drew {w wr : World} {L : List Int} (h : SRel w L wr) : SRel w L wr.drew := ⟨h.row.drew, h.res.drew, h.below.drew⟩
theorem SRel.next {w wr : World} {L : List Int} (h : SRel w L wr) (hL : L.length < 64) (x : Int) (j : Nat) (hj : j = L.length) : SRel w (L ++ [x]) (wr.setCell ⟨w.heap.size + 1, j, none⟩ (.int .u32 x)) := by
  subst hj
  refine ⟨?_, h.res.other (by omega) _, h.below.setCell (p := ⟨w.heap.size + 1, L.length, none⟩) (by show w.heap.size ≤ w.heap.size + 1; omega) _⟩
  have := h.row.set L.length (.int .u32 x)
  rw [← u32s_set, pad_set 64 L x hL] at this
  exact this
theorem SRel.cell {w wr : World} {L : List Int} (h : SRel w L wr) (hL : L.length ≤ 64) (j : Nat) (hj : j < 64) : wr.cell? ⟨w.heap.size + 1, j, none⟩ = some (.int .u32 ((pad 64 L).getD j 0)) := by
  rw [h.row.cell j, u32s_get _ _ (by rw [pad_len _ _ hL]; exact hj)]

attribute [local go_sem ↓] Go.wp_at_zero Go.wp_at_succ
set_option maxHeartbeats 4000000 in
set_option maxRecDepth 20000 in
theorem schedule_any (w : World) (b o cap : Nat) (l : List UInt8) (hcap : 64 ≤ cap) (hc : ∀ i, i < 64 → w.cell? ⟨b, o + i, none⟩ = some (.int .u8 ((l.getD i 0).toNat : Int))) :
    Calls Try.prog 55 #[.slice (some ⟨b, o, none⟩) 64 cap] w fun ev w' => ev = .returned (.agg (u32s (sched l)).toArray) ∧ Below w.heap.size w w' := by
  have hb : b < w.heap.size := World.block_lt_of_cell? w _ (hc 0 (by omega))
  have HI : Hid (SRel w [] ((w.alloc (.cells z49.toArray 65)).alloc (.cells z49.toArray 65))) := by
    refine ⟨?_, ?_, ((Below.refl w.heap.size w).alloc (Nat.le_refl _) _).alloc (by simp) _⟩
    · have := Row.new (w.alloc (.cells z49.toArray 65)) 65 z49
      have e : u32s (pad 64 []) = z49 := rfl
      rw [e]
      simpa using this
    · exact (Row.new w 65 z49).below ((Below.refl _ _).alloc (Nat.le_refl _) _) (by simp)
  have HC : Hid (∀ wr, Below w.heap.size w wr → ∀ i, i < 64 → wr.cell? ⟨b, o + i, none⟩ = some (.int .u8 ((l.getD i 0).toNat : Int))) := fun wr hB i hi => by
    rw [hB.cell (p := ⟨b, o + i, none⟩) hb]; exact hc i hi
  clear hc
  go_enter Try.func55, Try.ntmps55
  go_wp2_with fail
  go_loopw [9] (fun i wr => ∃ k : Nat, k ≤ 16 ∧ i = .int .i64 k ∧ SRel w (heads l k) wr) (fun i _ => 16 - (intOf i).toNat)
  case atStart => exact ⟨0, by omega, rfl, HI.out⟩
  case round =>
    obtain ⟨k, hk, rfl, hX⟩ := hrel
    clear HI
    by_cases hk3 : k < 16
    · have c0 := HC.out wr hX.below (4 * k) (by omega)
      have c1 := HC.out wr hX.below (4 * k + 1) (by omega)
      have c2 := HC.out wr hX.below (4 * k + 2) (by omega)
      have c3 := HC.out wr hX.below (4 * k + 3) (by omega)
      rw [← Nat.add_assoc] at c1 c2 c3
      have q0 := hX.cell (by rw [heads_len]; omega) k (by omega)
      have q1 := hX.row.fz k
      have HN : Hid (SRel w (heads l (k + 1)) (wr.setCell ⟨w.heap.size + 1, k, none⟩ (.int .u32 (wdAt l k)))) := hX.next (by rw [heads_len]; omega) _ k (by rw [heads_len])
      have hne : b ≠ w.heap.size + 1 := by omega
      have hne' : w.heap.size + 1 ≠ b := by omega
      have h4 : 4 * k + 4 - 4 * k = 4 := by omega
      rw [wdAt, wd] at HN
      generalize l.getD (4 * k) 0 = x0 at *
      generalize l.getD (4 * k + 1) 0 = x1 at *
      generalize l.getD (4 * k + 2) 0 = x2 at *
      generalize l.getD (4 * k + 3) 0 = x3 at *
      have m0 : IntKind.u32.wrap (x0.toNat : Int) = x0.toNat := by rw [IntKind.wrap_u32]; have := x0.toNat_lt; omega
      have m1 : IntKind.u32.wrap (x1.toNat : Int) = x1.toNat := by rw [IntKind.wrap_u32]; have := x1.toNat_lt; omega
      have m2 : IntKind.u32.wrap (x2.toNat : Int) = x2.toNat := by rw [IntKind.wrap_u32]; have := x2.toNat_lt; omega
      have m3 : IntKind.u32.wrap (x3.toNat : Int) = x3.toNat := by rw [IntKind.wrap_u32]; have := x3.toNat_lt; omega
      clear hX HC
      go_wp2_with fail
      rw [h4]
      go_region_held (fun x => x.cell? ⟨b, o + 4 * k, none⟩ = some (.int .u8 (x0.toNat : Int)) ∧ x.cell? ⟨b, o + 4 * k + 1, none⟩ = some (.int .u8 (x1.toNat : Int)) ∧ x.cell? ⟨b, o + 4 * k + 2, none⟩ = some (.int .u8 (x2.toNat : Int)) ∧ x.cell? ⟨b, o + 4 * k + 3, none⟩ = some (.int .u8 (x3.toNat : Int))) (go_keep) (fail)
      go_wp2_with fail
      go_roundw
      case rel => exact ⟨k + 1, by omega, by go_num, HN.out.drew⟩
      case measure => simp [intOf]; omega
    · have HX : Hid (SRel w (ext (heads l 16) 0) wr) := by
        obtain rfl : k = 16 := by omega
        exact hX
      have hk16 : (k : Int) = 16 := by omega
      rw [hk16]
      clear hX HC hk16 hk hk3
      clear k
      rename World => wA
      go_wp2_with fail
      go_loopw [6] (fun i wr => ∃ k : Nat, k ≤ 48 ∧ i = .int .i64 (16 + k : Nat) ∧ SRel w (ext (heads l 16) k) wr) (fun i _ => 64 - (intOf i).toNat)
      case atStart => exact ⟨0, by omega, rfl, HX.out⟩
      case round =>
        obtain ⟨k, hk, rfl, hX⟩ := hrel
        clear HX
        have hEL : (ext (heads l 16) k).length = 16 + k := by rw [ext_len, heads_len]
        by_cases hk3 : k < 48
        · have c15 := hX.cell (by omega) (16 + k - 15) (by omega)
          have c2 := hX.cell (by omega) (16 + k - 2) (by omega)
          have c7 := hX.cell (by omega) (16 + k - 7) (by omega)
          have c16 := hX.cell (by omega) (16 + k - 16) (by omega)
          have q0 := hX.cell (by omega) (16 + k) (by omega)
          have q1 := hX.row.fz (16 + k)
          rw [pad_get _ _ _ (by omega)] at c15 c2 c7 c16
          have HN : Hid (SRel w (ext (heads l 16) (k + 1)) (wr.setCell ⟨w.heap.size + 1, 16 + k, none⟩ (.int .u32 (nextW (ext (heads l 16) k))))) := hX.next (by omega) _ (16 + k) hEL.symm
          rw [nextW, hEL, sm0, sm1] at HN
          generalize (ext (heads l 16) k).getD (16 + k - 15) 0 = x15 at *
          generalize (ext (heads l 16) k).getD (16 + k - 2) 0 = x2 at *
          generalize (ext (heads l 16) k).getD (16 + k - 7) 0 = x7 at *
          generalize (ext (heads l 16) k).getD (16 + k - 16) 0 = x16 at *
          clear hX
          generalize hn : 16 + k = n at *
          obtain ⟨m15, h15⟩ : ∃ m, m = n - 15 := ⟨_, rfl⟩
          obtain ⟨m2, h2⟩ : ∃ m, m = n - 2 := ⟨_, rfl⟩
          obtain ⟨m7, h7⟩ : ∃ m, m = n - 7 := ⟨_, rfl⟩
          obtain ⟨m16, h16⟩ : ∃ m, m = n - 16 := ⟨_, rfl⟩
          rw [← h15] at c15
          rw [← h2] at c2
          rw [← h7] at c7
          rw [← h16] at c16
          have e15 : IntKind.i64.wrap ((n : Int) - 15) = (m15 : Int) := by rw [IntKind.wrap_i64]; omega
          have e2 : IntKind.i64.wrap ((n : Int) - 2) = (m2 : Int) := by rw [IntKind.wrap_i64]; omega
          have e7 : IntKind.i64.wrap ((n : Int) - 7) = (m7 : Int) := by rw [IntKind.wrap_i64]; omega
          have e16 : IntKind.i64.wrap ((n : Int) - 16) = (m16 : Int) := by rw [IntKind.wrap_i64]; omega
          have l15 : (m15 : Int) < 64 := by omega
          have l2 : (m2 : Int) < 64 := by omega
          have l7 : (m7 : Int) < 64 := by omega
          have l16 : (m16 : Int) < 64 := by omega
          have ln : (n : Int) < 64 := by omega
          have d7 : m7 ≠ n := by omega
          have d16 : m16 ≠ n := by omega
          clear h15 h2 h7 h16
          have K7 : Hid (∀ v, (wr.setCell ⟨w.heap.size + 1, n, none⟩ v).cell? ⟨w.heap.size + 1, m7, none⟩ = some (.int .u32 x7)) := fun v => (World.cell?_setCell_other (w := wr) (a := ⟨w.heap.size + 1, n, none⟩) (b := ⟨w.heap.size + 1, m7, none⟩) (v := v) (fun e => d7 (congrArg Addr.off e).symm)).trans c7
          have K16 : Hid (∀ v, (wr.setCell ⟨w.heap.size + 1, n, none⟩ v).cell? ⟨w.heap.size + 1, m16, none⟩ = some (.int .u32 x16)) := fun v => (World.cell?_setCell_other (w := wr) (a := ⟨w.heap.size + 1, n, none⟩) (b := ⟨w.heap.size + 1, m16, none⟩) (v := v) (fun e => d16 (congrArg Addr.off e).symm)).trans c16
          go_wp2_with fail
          go_region_held (fun y => y.cell? ⟨w.heap.size + 1, m15, none⟩ = some (.int .u32 x15)) (go_keep)
            (first
            | (go_at_call 61; refine (turned_any x15 7 7 rfl (by omega) (by omega) _).mono ?_; rintro ev w6 ⟨rfl, rfl⟩)
            | (go_at_call 61; refine (turned_any x15 18 18 rfl (by omega) (by omega) _).mono ?_; rintro ev w6 ⟨rfl, rfl⟩))
          go_wp2_with fail
          go_region_held (fun y => y.cell? ⟨w.heap.size + 1, m2, none⟩ = some (.int .u32 x2)) (go_keep)
            (first
            | (go_at_call 61; refine (turned_any x2 17 17 rfl (by omega) (by omega) _).mono ?_; rintro ev w6 ⟨rfl, rfl⟩)
            | (go_at_call 61; refine (turned_any x2 19 19 rfl (by omega) (by omega) _).mono ?_; rintro ev w6 ⟨rfl, rfl⟩))
          go_wp2_with fail
          go_region_held (fun y => y.cell? ⟨w.heap.size + 1, m7, none⟩ = some (.int .u32 x7) ∧ y.cell? ⟨w.heap.size + 1, m16, none⟩ = some (.int .u32 x16)) (first | exact ⟨c7, c16⟩ | exact ⟨K7.out _, K16.out _⟩) (fail)
          go_wp2_with fail
          go_roundw
          case rel => exact ⟨k + 1, by omega, by rw [← hn]; go_num, HN.out.drew.drew.drew⟩
          case measure => simp [intOf]; omega
        · obtain rfl : k = 48 := by omega
          obtain ⟨X, hXX⟩ : ∃ X, X = sched l := ⟨_, rfl⟩
          have hlen : X.length = 64 := by rw [hXX, sched_len]
          have h0 : Row wr (w.heap.size + 1) 65 (u32s X) := by
            have := hX.row
            rw [pad_full _ _ (by omega)] at this
            rw [hXX]; exact this
          have HB : Hid (Below w.heap.size w (wr.setRow w.heap.size (u32s X).toArray)) := below_setRow hX.below (Nat.le_refl _) _
          have hres := hX.res.heap
          have hrow := h0.heap
          have hres2 := (hX.res.setRow (u32s X)).heap
          have hi : (Try.prog.info? 65).map (·.size) = some (u32s X).toArray.size := by rw [List.size_toArray, u32s_len, hlen]; exact Try.info65
          have hz : z49.toArray.size = (u32s X).toArray.size := by rw [List.size_toArray, List.size_toArray, u32s_len, hlen]; rfl
          have hone := all_one (u32s_one X)
          have HY : Hid ((u32s X).toArray = (u32s (sched l)).toArray) := by show _ = _; rw [hXX]
          clear hX hXX h0
          generalize (u32s X).toArray = Y at *
          go_wp2_with (first | (refine wpList_load_row rfl 65 _ rfl (w.heap.size + 1) rfl 65 Y (0, 0) _ hrow Try.underlying65 rfl hi ?_) | (refine wpList_store_row rfl 65 _ _ rfl w.heap.size Y rfl rfl 65 z49.toArray hres hi hz hone ?_))
          refine bodyPost_ret (v := .agg Y) (results_cell_row Try.results55 _ _ w.heap.size 65 Y (0, 0) _ rfl hres2 Try.underlying65 rfl hi) rfl ⟨by rw [HY.out], HB.out⟩
end Go.Proofs.Ytfkibbpekngciaa
