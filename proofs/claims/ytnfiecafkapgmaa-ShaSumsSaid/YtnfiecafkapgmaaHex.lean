/-
  Hex: the program's.
-/
import Derived.Test.YtnfiecafkapgmaaEnd
import Derived.Deep.AppendLies
import Derived.OwnWalk
import Derived.Deep.RegionLaw
namespace Go.Proofs.Ytnfiecafkapgmaa
open Go.RowKit

def str (l : List UInt8) : ByteArray := ⟨l.toArray⟩
theorem str_size (l : List UInt8) : (str l).size = l.length := by simp [str, ByteArray.size]
/-- A digit's byte. -/
def dig (n : Nat) : UInt8 := if n < 10 then UInt8.ofNat (48 + n) else UInt8.ofNat (87 + n)
def hexB (x : UInt8) : List UInt8 := [dig (x.toNat / 16), dig (x.toNat % 16)]
def hexF (h : List UInt8) : List UInt8 := h.flatMap hexB
def digits : ByteArray := ⟨#[48, 49, 50, 51, 52, 53, 54, 55, 56, 57, 97, 98, 99, 100, 101, 102]⟩
theorem dig_at (n : Nat) (h : n < 16) (k : IntKind) (i : Int) (hi : i = n) (w : World) : (Instr.index 9 (.string digits) (.int k i)).run Try.prog w = .ok (.int .u8 ((dig n).toNat : Int)) w := by
  subst hi
  rw [run_index_string w 9 digits k n Try.underlying9]
  have : n = 0 ∨ n = 1 ∨ n = 2 ∨ n = 3 ∨ n = 4 ∨ n = 5 ∨ n = 6 ∨ n = 7 ∨ n = 8 ∨ n = 9 ∨ n = 10 ∨ n = 11 ∨ n = 12 ∨ n = 13 ∨ n = 14 ∨ n = 15 := by omega
  rcases this with rfl | rfl | rfl | rfl | rfl | rfl | rfl | rfl | rfl | rfl | rfl | rfl | rfl | rfl | rfl | rfl <;> rfl
theorem hexF_len (h : List UInt8) : (hexF h).length = 2 * h.length := by
  unfold hexF
  induction h with
  | nil => rfl
  | cons a t ih => simp [hexB, ih]; omega
theorem hexF_take (h : List UInt8) (k : Nat) (hk : k < h.length) : hexF (h.take (k + 1)) = hexF (h.take k) ++ hexB (h.getD k 0) := by
  unfold hexF
  rw [List.take_add_one, List.flatMap_append]
  simp [List.getD, List.getElem?_eq_getElem hk]
theorem conv_sl (w : World) (v : Value) (l : List UInt8) (h : Sl w v l) : (convert 22 9 v).run Try.prog w = .ok (.string (str l)) w := by
  rcases h.shape with ⟨rfl, rfl⟩ | ⟨b, o, cap, rfl, _, hc⟩
  · exact run_convert_bytes_nil w 22 5 Try.underlying22 Try.underlying5 0 0 9 Try.underlying9
  · refine run_convert_bytes_back w 22 9 5 ⟨b, o, none⟩ cap l Try.underlying22 Try.underlying5 Try.underlying9 ?_
    intro j hj
    rw [addr_add, hc j hj]
    simp [List.getD, List.getElem?_eq_getElem hj]
theorem Sl.ofOwn' {w : World} {B : Nat} {v : Value} {l : List UInt8} (h : w.ownsRow B 5 1 v l.length (bys l)) : Sl w v l := by
  refine ⟨?_⟩
  rcases h.2 with ⟨rfl, h0⟩ | ⟨g, cap, cur, rfl, hrest⟩
  · exact .inl ⟨rfl, List.eq_nil_of_length_eq_zero h0⟩
  · refine .inr ⟨g, 0, cap, rfl, hrest.2.2.1, fun i hi => ?_⟩
    rw [Nat.zero_add, h.cellAt i (by omega), bys_get l i hi]
theorem run_index25 (cs : Array Value) (v : Value) (i : Nat) (hi : i < 32) (hv : cs[i]? = some v) (w : World) : (Instr.index 25 (.agg cs) (.int .i64 (i : Int))).run Try.prog w = .ok v w := by
  obtain ⟨i0, h41, hz0, hz1, hz2⟩ := info_parts Try.info5
  have hn : (0 : Int) ≤ i ∧ (i : Int) < 32 := by omega
  simp [Instr.index, run_underlying Try.underlying25, asIntOf, go_sem, hi]
  rw [hv]; rfl

attribute [local go_sem ↓] Go.wp_at_zero Go.wp_at_succ
set_option maxHeartbeats 4000000 in
set_option maxRecDepth 20000 in
theorem hex_any (w : World) (h : List UInt8) (hl : h.length = 32) :
    Calls Try.prog 14 #[.agg (bys h).toArray] w fun ev w' => ev = .returned (.string (str (hexF h))) ∧ Below w.heap.size w w' := by
  obtain ⟨i0, hi0, hz0, hz1, hz2⟩ := info_parts Try.info5
  have hi : (Try.prog.info? 25).map (·.size) = some (bys h).toArray.size := by rw [List.size_toArray, bys_len, hl]; exact Try.info25
  have HX : Hid (∀ (k : Nat), k < 32 → ∀ w : World, (Instr.index 25 (.agg (bys h).toArray) (.int .i64 (k : Int))).run Try.prog w = .ok (.int .u8 ((h.getD k 0).toNat : Int)) w) := by
    intro k hk w
    refine run_index25 _ _ k hk ?_ w
    have := bys_get h k (by omega)
    simpa using this
  obtain ⟨W, hW⟩ : ∃ W, W = w.alloc (.cells (bys h).toArray 25) := ⟨_, rfl⟩
  have hWs : W.heap.size = w.heap.size + 1 := by rw [hW]; simp
  have hRow : Row W w.heap.size 25 (bys h) := by rw [hW]; exact Row.new w 25 (bys h)
  have hBW : Below w.heap.size w W := by rw [hW]; exact (Below.refl _ _).alloc (Nat.le_refl _) _
  have HR : Hid (∀ w1, W.grownBy w1 none → w1.heap[w.heap.size]? = some (.cells (bys h).toArray 25 (0, 0)) ∧ Below w.heap.size w w1) := by
    intro w1 hg
    have hb : Below w.heap.size W w1 := below_grown hg (by omega) (by simp)
    exact ⟨by rw [hg.block w.heap.size (by omega) (by simp)]; exact hRow.heap, hBW.trans hb⟩
  have AW : Aside (W = w.alloc (.cells (bys h).toArray 25)) := hW
  clear hW hRow hBW
  generalize (bys h).toArray = Y at *
  go_enter Try.func14, Try.ntmps14
  go_wp2_with (first | (rw [← AW.out]; refine wpList_make_own W rfl _ _ 22 rfl (w.heap.size) 5 i0 (.int .u8 0) 1 Try.underlying22 hi0 hz0 hz1 .i64 .i64 64 64 rfl rfl rfl (by rw [hz2]; decide) (by decide) (by omega) ?_; intro w1 hown hg; obtain ⟨hrow, hb1⟩ := HR.out w1 hg; clear hg) | (refine wpList_load_row rfl 25 _ rfl w.heap.size rfl 25 Y (0, 0) _ hrow Try.underlying25 rfl hi ?_))
  have HO : Hid (w1.ownsRow w.heap.size 5 1 (Value.slice (some ⟨w.heap.size + 1, 0, none⟩) 0 64) (hexF (h.take 0)).length (bys (hexF (h.take 0)))) := by rw [hWs] at hown; exact hown
  clear hown hrow HR AW hWs
  clear W
  go_loopw [3, 8] (fun v i wr => ∃ k : Nat, k ≤ 32 ∧ i = .int .i64 k ∧ (∃ g cap, v = .slice (some ⟨g, 0, none⟩) (hexF (h.take k)).length cap) ∧ wr.ownsRow w.heap.size 5 1 v (hexF (h.take k)).length (bys (hexF (h.take k))) ∧ Below w.heap.size w wr) (fun _ i _ => 32 - (intOf i).toNat)
  case atStart => exact ⟨0, by omega, rfl, ⟨_, _, rfl⟩, HO.out, hb1⟩
  case round =>
    obtain ⟨k, hk, rfl, ⟨g, cap, rfl⟩, hown, hb⟩ := hrel
    clear HO hb1
    have hlen : (hexF (h.take k)).length ≤ 64 := by rw [hexF_len]; simp; omega
    by_cases hk3 : k < 32
    · have hx := HX.out k hk3
      have HT : Hid (hexF (h.take (k + 1)) = hexF (h.take k) ++ hexB (h.getD k 0)) := hexF_take h k (by omega)
      have hd1 := dig_at ((h.getD k 0).toNat / 16) (by have := (h.getD k 0).toNat_lt; omega) .u8 (((h.getD k 0).toNat : Int) / 16) (by omega)
      have hand : bits .and .u8 ((h.getD k 0).toNat : Int) 15 = (((h.getD k 0).toNat % 16 : Nat) : Int) := by
        have := u8_and_nat (h.getD k 0).toNat 15 (h.getD k 0).toNat_lt (by omega)
        rw [nat_mask4] at this
        exact this
      have hd2 := dig_at ((h.getD k 0).toNat % 16) (by omega) .u8 (bits .and .u8 ((h.getD k 0).toNat : Int) 15) hand
      have hB : hexB (h.getD k 0) = [dig ((h.getD k 0).toNat / 16), dig ((h.getD k 0).toNat % 16)] := rfl
      rw [hB] at HT
      generalize dig ((h.getD k 0).toNat / 16) = d1 at *
      generalize dig ((h.getD k 0).toNat % 16) = d2 at *
      unfold digits at hd1 hd2
      clear hand hB HX
      generalize (h.getD k 0).toNat = x at *
      have hown1 : (wr.drew.alloc (.cells #[.int .u8 (d1.toNat : Int), .int .u8 (d2.toNat : Int)] 5)).ownsRow w.heap.size 5 1 (.slice (some ⟨g, 0, none⟩) (hexF (h.take k)).length cap) (hexF (h.take k)).length (bys (hexF (h.take k))) :=
        own_past (own_same (w' := wr.drew) hown (fun _ _ => rfl)) ((Below.refl _ _).alloc (Nat.le_refl _) _)
      have HB1 : Hid (Below w.heap.size w (wr.drew.alloc (.cells #[.int .u8 (d1.toNat : Int), .int .u8 (d2.toNat : Int)] 5))) := hb.drew.alloc hb.drew.size _
      have hB1 := HB1.out.size
      have hN1 : ∀ j u, (bys [d1, d2])[j]? = some u → (wr.drew.alloc (.cells #[.int .u8 (d1.toNat : Int), .int .u8 (d2.toNat : Int)] 5)).cell? ((⟨wr.heap.size, 0, none⟩ : Addr).add j) = some u := fun j u hj => by
        rw [addr_add, Nat.zero_add]
        exact ((Row.new wr.drew 5 (bys [d1, d2])).cell j).trans hj
      clear hown hb
      generalize hexF (h.take k) = F at *
      have l1 : (k : Int) < 32 := by omega
      go_wp2_with fail
      go_region_law ((refine step_append_lies _ (by rfl) _ _ 22 (by rfl) w.heap.size 5 i0 (.int .u8 0) 1 1 Try.underlying22 hi0 hz0 hz1 hz2 rfl (by omega) _ _ _ (by rfl) hown1 ⟨wr.heap.size, 0, none⟩ 2 2 (bys [d1, d2]) (by rfl) rfl hN1 (bys_one _) (by omega) (by unfold maxLen; omega) (by omega) hB1 _ rfl ?_; intro g2 cap2 w2 hown2 hgr2 _ _))
      all_goals
        have hown3 : w2.ownsRow w.heap.size 5 1 (.slice (some ⟨g2, 0, none⟩) (F ++ [d1, d2]).length cap2) (F ++ [d1, d2]).length (bys (F ++ [d1, d2])) := by
          rw [bys_app, List.length_append]; exact hown2
        have e2 : F.length + 2 = (F ++ [d1, d2]).length := by simp
        rw [e2]
        rw [← HT.out] at hown3 ⊢
        have HB2 : Hid (Below w.heap.size w w2) := HB1.out.trans (below_grown hgr2 hB1 (fun j e => (hown1.lt j e).1))
        have HO2 : Hid _ := hown3
        clear hown2 hgr2 hown1 hN1 HB1 hB1 e2 hown3 hlen
        go_wp2_with fail
        go_roundw
        case rel => exact ⟨k + 1, by omega, by go_num, ⟨_, _, rfl⟩, HO2.out, HB2.out⟩
        case measure => simp [intOf]; omega
    · obtain rfl : k = 32 := by omega
      have ht : h.take 32 = h := by rw [← hl]; exact List.take_length
      rw [ht] at hown ⊢
      have hcv := conv_sl wr _ _ (Sl.ofOwn' hown)
      clear hown hlen ht HX
      go_wp2_with fail
      go_ret
      exact ⟨rfl, hb⟩
end Go.Proofs.Ytnfiecafkapgmaa
