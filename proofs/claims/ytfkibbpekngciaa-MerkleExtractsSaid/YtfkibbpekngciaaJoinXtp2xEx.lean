/-
  The texts Xtp, Txr, joined.
-/
import Derived.Test.YtfkibbpekngciaaJoinTre2xEx
import Derived.Test.YtfkibbpekngciaaJoinXsd2xEx
import Derived.Test.YtfkibbpekngciaaJoinTcl2xEx
/- The document's own top. -/
namespace Go.Proofs.Ytfkibbpekngciaa
open Go.RowKit

set_option maxHeartbeats 4000000 in
theorem top_any (w : World) (n : Nat) (h : List UInt8) (hh : h.length = 32) (hn : n ≤ 9223372036854775807) :
    Calls Try.prog 26 #[.int .i64 (n : Int), .agg (bys h).toArray] w fun ev w' => ∃ v', ev = .returned v' ∧ w'.ownsRow w.heap.size 5 1 v' (rootT n (if n = 0 then [] else h)).length (bys (rootT n (if n = 0 then [] else h))) ∧ Below w.heap.size w w' := by
  obtain ⟨T, hT⟩ : ∃ T, T = rootT n (if n = 0 then [] else h) := ⟨_, rfl⟩
  rw [← hT]
  obtain ⟨W, hW⟩ : ∃ W, W = w.alloc (.cells (bys h).toArray 26) := ⟨_, rfl⟩
  have HB0 : Hid (Below w.heap.size w W) := by rw [hW]; exact (Below.refl _ _).alloc (Nat.le_refl _) _
  have R1 : Row W w.heap.size 26 (bys h) := by rw [hW]; exact Row.new w 26 _
  have HR1 : Hid (∀ y j, Below W.heap.size W y → j < 32 → y.cell? ⟨w.heap.size, j, none⟩ = some (.int .u8 ((h.getD j 0).toNat : Int))) := fun y j hy hj => by
    rw [(R1.below hy R1.lt).cell j, bys_get h j (by omega)]
  have hsz2 : W.heap.size = w.heap.size + 1 := by rw [hW]; simp
  have HO : Hid ((W.alloc (.cells #[.int .u8 2] 5)).ownsRow W.heap.size 5 1 (.slice (some ⟨w.heap.size + 1, 0, none⟩) 1 1) (rootP n 0).length (bys (rootP n 0))) := by
    have := own_one W 2
    rw [← hsz2]; exact this
  have HB1 : Hid (Below W.heap.size W (W.alloc (.cells #[.int .u8 2] 5))) := (Below.refl _ _).alloc (Nat.le_refl _) _
  have AW : Aside (W = w.alloc (.cells (bys h).toArray 26)) := hW
  have Hh : Hid (h.length = 32) := hh
  have HEn : Hid (0 < n → upto (2 :: be8 n) h 32 = T) := fun h0 => by rw [hT, ← hh, upto_all, if_neg (by omega)]; rfl
  have HE0 : Hid (n = 0 → 2 :: be8 n = T) := fun h0 => by rw [hT, if_pos h0]; simp [rootT]
  have hn2 : (n : Int) ≤ 9223372036854775807 := by omega
  have hn0 : (0 : Int) ≤ n := by omega
  have hw : IntKind.u64.wrap (n : Int) = (n : Int) := by rw [IntKind.wrap_u64]; omega
  clear hW R1 hsz2 hh hT
  generalize (bys h).toArray = Y1 at *
  obtain ⟨g1, hg1⟩ : ∃ g, g = w.heap.size := ⟨_, rfl⟩
  go_enter Try.func26, Try.ntmps26
  go_wp2_with fail
  refine wp_at_world (congrArg (fun z => z.alloc (.cells #[.int .u8 2] 5)) AW.out) ?_
  rw [← hg1]
  rw [← hg1] at HR1 HO
  clear hg1
  go_loopw [5, 6] (fun t s wr => ∃ j : Nat, j ≤ 8 ∧ s = .int .i64 (7 - (j : Int)) ∧ wr.ownsRow W.heap.size 5 1 t (rootP n j).length (bys (rootP n j)) ∧ Below W.heap.size W wr) (fun _ s _ => (intOf s + 1).toNat)
  case atStart => exact ⟨0, by omega, rfl, HO.out, HB1.out⟩
  case round =>
    obtain ⟨j, hj, hse, hown, hb⟩ := hrel
    clear HO HB1
    obtain ⟨ao, cp, rfl⟩ := own_shape hown
    by_cases hj3 : j < 8
    · have HP : Hid (rootP n j ++ [(be8 n).getD j 0] = rootP n (j + 1)) := rootP_next n j hj3
      have hrl := rootP_len n j hj
      have HBr : Hid (Below W.heap.size W wr) := hb
      have HOw : Hid (wr.ownsRow W.heap.size 5 1 (.slice ao (rootP n j).length cp) (rootP n j).length (bys (rootP n j))) := hown
      clear hown hb
      have hlen : (rootP n j).length ≤ 9 := by omega
      rcases eight' hj3 with rfl | rfl | rfl | rfl | rfl | rfl | rfl | rfl
      · replace hse : _ = Value.int .i64 7 := hse
        subst hse
        have hS := be8_new wr n 0 72057594037927936 ((n : Int) / 72057594037927936) rfl (by omega)
        have HBn : Hid (Below W.heap.size W (wr.alloc (.cells #[.int .u8 ((n : Int) / 72057594037927936)] 5))) := HBr.out.alloc HBr.out.size _
        have hown := own_past HOw.out ((Below.refl _ _).alloc (Nat.le_refl _) (.cells #[.int .u8 ((n : Int) / 72057594037927936)] 5))
        have hsz := HBn.out.size
        generalize rootP n 0 = R at *
        go_wp2_with (at_builtin; refine app_sl rfl _ _ rfl rfl hown hsz rfl hS (by simp; omega) ?_; intro v3 w3 hown3 hb3 _)
        rw [HP.out] at hown3
        go_roundw
        case rel => exact ⟨1, by omega, rfl, hown3, HBn.out.trans hb3⟩
        case measure => simp [intOf]
      · replace hse : _ = Value.int .i64 6 := hse
        subst hse
        have hS := be8_new wr n 1 281474976710656 ((n : Int) / 281474976710656 % 256) rfl rfl
        have HBn : Hid (Below W.heap.size W (wr.alloc (.cells #[.int .u8 ((n : Int) / 281474976710656 % 256)] 5))) := HBr.out.alloc HBr.out.size _
        have hown := own_past HOw.out ((Below.refl _ _).alloc (Nat.le_refl _) (.cells #[.int .u8 ((n : Int) / 281474976710656 % 256)] 5))
        have hsz := HBn.out.size
        generalize rootP n 1 = R at *
        go_wp2_with (at_builtin; refine app_sl rfl _ _ rfl rfl hown hsz rfl hS (by simp; omega) ?_; intro v3 w3 hown3 hb3 _)
        rw [HP.out] at hown3
        go_roundw
        case rel => exact ⟨2, by omega, rfl, hown3, HBn.out.trans hb3⟩
        case measure => simp [intOf]
      · replace hse : _ = Value.int .i64 5 := hse
        subst hse
        have hS := be8_new wr n 2 1099511627776 ((n : Int) / 1099511627776 % 256) rfl rfl
        have HBn : Hid (Below W.heap.size W (wr.alloc (.cells #[.int .u8 ((n : Int) / 1099511627776 % 256)] 5))) := HBr.out.alloc HBr.out.size _
        have hown := own_past HOw.out ((Below.refl _ _).alloc (Nat.le_refl _) (.cells #[.int .u8 ((n : Int) / 1099511627776 % 256)] 5))
        have hsz := HBn.out.size
        generalize rootP n 2 = R at *
        go_wp2_with (at_builtin; refine app_sl rfl _ _ rfl rfl hown hsz rfl hS (by simp; omega) ?_; intro v3 w3 hown3 hb3 _)
        rw [HP.out] at hown3
        go_roundw
        case rel => exact ⟨3, by omega, rfl, hown3, HBn.out.trans hb3⟩
        case measure => simp [intOf]
      · replace hse : _ = Value.int .i64 4 := hse
        subst hse
        have hS := be8_new wr n 3 4294967296 ((n : Int) / 4294967296 % 256) rfl rfl
        have HBn : Hid (Below W.heap.size W (wr.alloc (.cells #[.int .u8 ((n : Int) / 4294967296 % 256)] 5))) := HBr.out.alloc HBr.out.size _
        have hown := own_past HOw.out ((Below.refl _ _).alloc (Nat.le_refl _) (.cells #[.int .u8 ((n : Int) / 4294967296 % 256)] 5))
        have hsz := HBn.out.size
        generalize rootP n 3 = R at *
        go_wp2_with (at_builtin; refine app_sl rfl _ _ rfl rfl hown hsz rfl hS (by simp; omega) ?_; intro v3 w3 hown3 hb3 _)
        rw [HP.out] at hown3
        go_roundw
        case rel => exact ⟨4, by omega, rfl, hown3, HBn.out.trans hb3⟩
        case measure => simp [intOf]
      · replace hse : _ = Value.int .i64 3 := hse
        subst hse
        have hS := be8_new wr n 4 16777216 ((n : Int) / 16777216 % 256) rfl rfl
        have HBn : Hid (Below W.heap.size W (wr.alloc (.cells #[.int .u8 ((n : Int) / 16777216 % 256)] 5))) := HBr.out.alloc HBr.out.size _
        have hown := own_past HOw.out ((Below.refl _ _).alloc (Nat.le_refl _) (.cells #[.int .u8 ((n : Int) / 16777216 % 256)] 5))
        have hsz := HBn.out.size
        generalize rootP n 4 = R at *
        go_wp2_with (at_builtin; refine app_sl rfl _ _ rfl rfl hown hsz rfl hS (by simp; omega) ?_; intro v3 w3 hown3 hb3 _)
        rw [HP.out] at hown3
        go_roundw
        case rel => exact ⟨5, by omega, rfl, hown3, HBn.out.trans hb3⟩
        case measure => simp [intOf]
      · replace hse : _ = Value.int .i64 2 := hse
        subst hse
        have hS := be8_new wr n 5 65536 ((n : Int) / 65536 % 256) rfl rfl
        have HBn : Hid (Below W.heap.size W (wr.alloc (.cells #[.int .u8 ((n : Int) / 65536 % 256)] 5))) := HBr.out.alloc HBr.out.size _
        have hown := own_past HOw.out ((Below.refl _ _).alloc (Nat.le_refl _) (.cells #[.int .u8 ((n : Int) / 65536 % 256)] 5))
        have hsz := HBn.out.size
        generalize rootP n 5 = R at *
        go_wp2_with (at_builtin; refine app_sl rfl _ _ rfl rfl hown hsz rfl hS (by simp; omega) ?_; intro v3 w3 hown3 hb3 _)
        rw [HP.out] at hown3
        go_roundw
        case rel => exact ⟨6, by omega, rfl, hown3, HBn.out.trans hb3⟩
        case measure => simp [intOf]
      · replace hse : _ = Value.int .i64 1 := hse
        subst hse
        have hS := be8_new wr n 6 256 ((n : Int) / 256 % 256) rfl rfl
        have HBn : Hid (Below W.heap.size W (wr.alloc (.cells #[.int .u8 ((n : Int) / 256 % 256)] 5))) := HBr.out.alloc HBr.out.size _
        have hown := own_past HOw.out ((Below.refl _ _).alloc (Nat.le_refl _) (.cells #[.int .u8 ((n : Int) / 256 % 256)] 5))
        have hsz := HBn.out.size
        generalize rootP n 6 = R at *
        go_wp2_with (at_builtin; refine app_sl rfl _ _ rfl rfl hown hsz rfl hS (by simp; omega) ?_; intro v3 w3 hown3 hb3 _)
        rw [HP.out] at hown3
        go_roundw
        case rel => exact ⟨7, by omega, rfl, hown3, HBn.out.trans hb3⟩
        case measure => simp [intOf]
      · replace hse : _ = Value.int .i64 0 := hse
        subst hse
        have hS := be8_new wr n 7 1 ((n : Int) % 256) rfl (by omega)
        have HBn : Hid (Below W.heap.size W (wr.alloc (.cells #[.int .u8 ((n : Int) % 256)] 5))) := HBr.out.alloc HBr.out.size _
        have hown := own_past HOw.out ((Below.refl _ _).alloc (Nat.le_refl _) (.cells #[.int .u8 ((n : Int) % 256)] 5))
        have hsz := HBn.out.size
        generalize rootP n 7 = R at *
        go_wp2_with (at_builtin; refine app_sl rfl _ _ rfl rfl hown hsz rfl hS (by simp; omega) ?_; intro v3 w3 hown3 hb3 _)
        rw [HP.out] at hown3
        go_roundw
        case rel => exact ⟨8, by omega, rfl, hown3, HBn.out.trans hb3⟩
        case measure => simp [intOf]
    · have e8 : j = 8 := by omega
      have HOw : Hid (wr.ownsRow W.heap.size 5 1 (.slice ao (rootP n j).length cp) (2 :: be8 n).length (bys (2 :: be8 n))) := by
        show World.ownsRow _ _ _ _ _ _ _
        have e : rootP n 8 = 2 :: be8 n := rfl
        rw [← e, ← e8]; exact hown
      have HBr : Hid (Below W.heap.size W wr) := hb
      have l1 : ¬ ((0 : Int) ≤ 7 - (j : Int)) := by omega
      have Hl : Hid ((2 :: be8 n).length = 9) := rfl
      subst hse
      clear hown hb hj hj3 e8
      generalize (rootP n j).length = ln at *
      generalize 7 - (j : Int) = ji at *
      by_cases h0 : (0 : Int) < (n : Int)
      · replace HEn : Hid (upto (2 :: be8 n) h 32 = T) := HEn.out (by omega)
        clear HE0
        generalize 2 :: be8 n = R0 at *
        go_wp2_with fail
        go_loopw [5, 7] (fun t s wr => ∃ j : Nat, j ≤ 32 ∧ s = .int .i64 (j : Int) ∧ wr.ownsRow W.heap.size 5 1 t (upto R0 h j).length (bys (upto R0 h j)) ∧ Below W.heap.size W wr) (fun _ s _ => 32 - (intOf s).toNat)
        case atStart => exact ⟨0, by omega, rfl, by rw [upto_zero]; exact HOw.out, HBr.out⟩
        case round =>
          obtain ⟨j, hj, rfl, hown, hbr⟩ := hrel
          clear HOw HBr
          obtain ⟨ao, cp, rfl⟩ := own_shape hown
          by_cases hj3 : j < 32
          · have HP : Hid (upto R0 h j ++ [h.getD j 0] = upto R0 h (j + 1)) := upto_next _ _ _ (by rw [Hh.out]; exact hj3)
            have hrl := upto_len R0 h j (by rw [Hh.out]; exact hj)
            rw [Hl.out] at hrl
            have q0 := HR1.out wr j hbr hj3
            have hS := new_byte wr (h.getD j 0)
            have HBn : Hid (Below W.heap.size W (wr.alloc (.cells #[.int .u8 ((h.getD j 0).toNat : Int)] 5))) := hbr.alloc hbr.size _
            have hown2 := own_past hown ((Below.refl _ _).alloc (Nat.le_refl _) (.cells #[.int .u8 ((h.getD j 0).toNat : Int)] 5))
            have hsz := HBn.out.size
            have l1 : (j : Int) < 32 := by omega
            clear hown hbr
            generalize upto R0 h j = R at *
            generalize h.getD j 0 = x at *
            go_wp2_with (at_builtin; refine app_sl rfl _ _ rfl rfl hown2 hsz rfl hS (by simp; omega) ?_; intro v3 w3 hown3 hb3 _)
            rw [HP.out] at hown3
            go_roundw
            case rel => exact ⟨j + 1, by omega, by go_num, hown3, HBn.out.trans hb3⟩
            case measure => simp [intOf]; omega
          · obtain rfl : j = 32 := by omega
            have HOw : Hid (wr.ownsRow w.heap.size 5 1 (.slice ao (upto R0 h 32).length cp) (upto R0 h 32).length (bys (upto R0 h 32))) := own_lower hown HB0.out.size
            have HBr : Hid (Below w.heap.size w wr) := nextB HB0.out hbr
            clear hown hbr hj hj3 HR1
            generalize hln : (upto R0 h 32).length = ln at *
            have Hln : Hid ((upto R0 h 32).length = ln) := hln
            clear hln
            go_wp2_with fail
            go_ret
            refine ⟨_, rfl, ?_, HBr.out⟩
            have := HOw.out
            rw [← Hln.out, HEn.out] at this ⊢
            exact this
      · replace HE0 : Hid (2 :: be8 n = T) := HE0.out (by omega)
        have HOw2 : Hid (wr.ownsRow w.heap.size 5 1 (.slice ao ln cp) (2 :: be8 n).length (bys (2 :: be8 n))) := own_lower HOw.out HB0.out.size
        have HBr2 : Hid (Below w.heap.size w wr) := nextB HB0.out HBr.out
        clear HEn HOw HBr
        generalize 2 :: be8 n = R0 at *
        clear HR1
        go_wp2_with fail
        go_loopw [5, 7] (fun t s wr => t = .slice ao ln cp ∧ s = .int .i64 0 ∧ Hid (wr.ownsRow w.heap.size 5 1 (.slice ao ln cp) R0.length (bys R0)) ∧ Hid (Below w.heap.size w wr)) (fun _ _ _ => 0)
        case atStart => exact ⟨rfl, rfl, HOw2, HBr2⟩
        case round =>
          obtain ⟨rfl, rfl, HOw3, HBr3⟩ := hrel
          clear HOw2 HBr2
          go_wp2_with fail
          go_ret
          refine ⟨_, rfl, ?_, HBr3.out⟩
          rw [← HE0.out]
          exact HOw3.out
end Go.Proofs.Ytfkibbpekngciaa

/- Rows of slices of one's own. -/
namespace Go.Proofs.Ytfkibbpekngciaa
open Go.RowKit

/-- Two rows of unlike types are not one. -/
theorem own_two {w : World} {B B' t t' s s' n m : Nat} {u v : Value} {xs ys : List Value} (h : w.ownsRow B t s u n xs) (h' : w.ownsRow B' t' s' v m ys) (hne : t ≠ t') (k : Nat) (hk : u.ownBlock = some k) : v.ownBlock ≠ some k := fun hv => by
  rcases h.2 with ⟨rfl, _⟩ | ⟨g, cap, cur, rfl, _, hg, _⟩
  · simp [Value.ownBlock] at hk
  · rcases h'.2 with ⟨rfl, _⟩ | ⟨g', cap', cur', rfl, _, hg', _⟩
    · simp [Value.ownBlock] at hv
    · simp [Value.ownBlock] at hk hv
      subst hk
      subst hv
      rw [hg] at hg'
      cases hg'
      exact hne rfl
/-- A row of texts, all of one's own. -/
structure Tx (B : Nat) (v : Value) (T : List Bys) (w : World) : Prop where
  st : ∃ vs : List Value, w.ownsRow B 39 1 v T.length vs ∧ ∀ j, j < T.length → ∃ ao cap, vs[j]? = some (.slice ao (T.getD j []).length cap) ∧ w.ownsRow B 5 1 (.slice ao (T.getD j []).length cap) (T.getD j []).length (bys (T.getD j []))
theorem Tx.below {B : Nat} {v : Value} {T : List Bys} {w w' : World} (h : Tx B v T w) (hb : Below w.heap.size w w') : Tx B v T w' := by
  obtain ⟨vs, ho, he⟩ := h.st
  exact ⟨vs, own_past' ho hb, fun j hj => by
    obtain ⟨ao, cap, h1, h2⟩ := he j hj
    exact ⟨ao, cap, h1, own_past' h2 hb⟩⟩
/-- Another block has turned. -/
theorem Tx.other {B g t : Nat} {v : Value} {T : List Bys} {L : List Value} {w w' : World} (h : Tx B v T w) (r : Row w g t L) (h1 : t ≠ 39) (h2 : t ≠ 5) (hg : w.grownBy w' (some g)) : Tx B v T w' := by
  obtain ⟨vs, ho, he⟩ := h.st
  have key : ∀ {e n : Nat} {u : Value} {xs : List Value}, w.ownsRow B e 1 u n xs → t ≠ e → w'.ownsRow B e 1 u n xs := fun hu hne =>
    own_same' hu (fun k ek => hg.block k (hu.lt k ek).2 (fun e => own_apart hu r (Ne.symm hne) k ek (Option.some.inj e)))
  exact ⟨vs, key ho h1, fun j hj => by
    obtain ⟨ao, cap, h3, h4⟩ := he j hj
    exact ⟨ao, cap, h3, key h4 h2⟩⟩
theorem Tx.slice {B : Nat} {v : Value} {T : List Bys} {w : World} (h : Tx B v T w) : ∃ ao cap, v = .slice ao T.length cap := by
  obtain ⟨vs, ho, _⟩ := h.st
  exact own_shape' ho
theorem Tx.elem {B : Nat} {v : Value} {T : List Bys} {w : World} (h : Tx B v T w) (j : Nat) (hj : j < T.length) :
    ∃ g cap ao c, v = .slice (some ⟨g, 0, none⟩) T.length cap ∧ T.length ≤ cap ∧ w.cell? ⟨g, j, none⟩ = some (.slice ao (T.getD j []).length c) ∧ Sl w (.slice ao (T.getD j []).length c) (T.getD j []) := by
  obtain ⟨vs, ho, he⟩ := h.st
  obtain ⟨ao, c, h1, h2⟩ := he j hj
  rcases ho.2 with ⟨_, h0⟩ | ⟨g, cap, cur, rfl, _, _, hc, _⟩
  · omega
  · exact ⟨g, cap, ao, c, rfl, hc, by rw [ho.cellAt j (by omega)]; exact h1, Sl.ofRow h2⟩
theorem Tx.ls {B : Nat} {v : Value} {T : List Bys} {w : World} (h : Tx B v T w) : Ls w v T := by
  refine ⟨?_⟩
  rcases Nat.eq_zero_or_pos T.length with h0 | h0
  · obtain ⟨ao, cap, rfl⟩ := h.slice
    exact .inl ⟨ao, cap, by rw [h0], List.eq_nil_of_length_eq_zero h0⟩
  · obtain ⟨vs, ho, he⟩ := h.st
    rcases ho.2 with ⟨_, h1⟩ | ⟨g, cap, cur, rfl, _, _, hc, _⟩
    · omega
    · refine .inr ⟨g, 0, cap, fun j => vs.getD j undef, rfl, hc, fun j hj => ?_⟩
      obtain ⟨ao, c, h1, h2⟩ := he j hj
      have e : vs.getD j undef = .slice ao (T.getD j []).length c := by simp [List.getD, h1]
      show w.cell? ⟨g, 0 + j, none⟩ = some (vs.getD j undef) ∧ Sl w (vs.getD j undef) (T.getD j [])
      rw [e, Nat.zero_add, ho.cellAt j (by omega)]
      exact ⟨h1, Sl.ofRow h2⟩
/-- A new row of one text. -/
theorem Tx.one {B : Nat} {u : Value} {t : Bys} {w : World} (hB : B ≤ w.heap.size) (h : w.ownsRow B 5 1 u t.length (bys t)) : Tx B (.slice (some ⟨w.heap.size, 0, none⟩) 1 1) [t] (w.alloc (.cells #[u] 39)) := by
  have hb : Below w.heap.size w (w.alloc (.cells #[u] 39)) := (Below.refl _ _).alloc (Nat.le_refl _) _
  refine ⟨[u], ⟨rfl, .inr ⟨w.heap.size, 1, #[u], rfl, hB, heap_alloc_new w _, Nat.le_refl _, by unfold maxLen; omega, rfl, rfl⟩⟩, fun j hj => ?_⟩
  obtain rfl : j = 0 := by simp at hj; omega
  obtain ⟨ao, cap, rfl⟩ := own_shape h
  exact ⟨ao, cap, rfl, own_past h hb⟩
/-- One text more, at the operation itself. -/
theorem wpo_app39 {o : Oper} {a : Act} {K : Act → World → Prop} {Q : Exit → Act → World → Prop} {w : World} {B : Nat} {v u : Value} {T : List Bys} {t : Bys} (s x : Operand)
    (ho : o.op = .call { callee := .builtin .append, args := #[s, x], argTypes := #[22, 22] }) (hs : a.eval s = v) (hT : Tx B v T w) (hB : B ≤ w.heap.size)
    (g c : Nat) (hx : a.eval x = .slice (some ⟨g, 0, none⟩) 1 c) (hc : w.cell? ⟨g, 0, none⟩ = some u) (hu : w.ownsRow B 5 1 u t.length (bys t)) (hn : T.length ≤ 1000000)
    (k : ∀ v' w', Tx B v' (T ++ [t]) w' → Below B w w' → w.grownBy w' v.ownBlock → K (a.put o.dst v') w') :
    Oper.wp Try.prog o a w K Q := by
  obtain ⟨i0, hi, hz0, hz1, hz2⟩ := info_parts Try.info39
  obtain ⟨vs, how, he⟩ := hT.st
  obtain ⟨ao, cp, rfl⟩ := own_shape hu
  obtain ⟨v', w', hr, h2, h3, h4, h5⟩ := run_append_own_at (P := Try.prog) w B 22 o.type 39 i0 (.slice none 0 0) 1 24 Try.underlying22 hi hz0 hz1 hz2 rfl (by decide) _ _ _ how ⟨g, 0, none⟩ 1 c [.slice ao t.length cp] rfl (fun j u hj => by
    obtain rfl : j = 0 := by
      rcases j with _ | j
      · rfl
      · simp at hj
    simp at hj
    rw [← hj, addr_add]; exact hc) (fun u hu => by simp at hu; rw [hu]; rfl) (by unfold maxLen; omega) (by omega) hB
  unfold Oper.wp execOp
  simp only [ho, resolve, invoke, builtin, Sem.run_bind, Sem.run_pure, Result.andThen_ok, List.map_toArray, List.map_cons, List.map_nil, hs, hx, hr]
  have hlen : vs.length = T.length := by have := how.1; omega
  have key : ∀ {n : Nat} {y : Value} {xs : List Value}, w.ownsRow B 5 1 y n xs → w'.ownsRow B 5 1 y n xs := fun {n y xs} hy =>
    own_same' hy (fun q eq => h3.block q (hy.lt q eq).2 (fun e => own_two hy how (by decide) q eq e.symm))
  refine k v' w' ⟨vs ++ [.slice ao t.length cp], by rw [List.length_append]; exact h2, fun j hj => ?_⟩ (below_grown h3 hB (fun k e => (how.lt k e).1)) h3
  rcases Nat.lt_or_ge j T.length with hj' | hj'
  · obtain ⟨a1, c1, e1, e2⟩ := he j hj'
    have e3 : (T ++ [t]).getD j [] = T.getD j [] := by simp [List.getD, List.getElem?_append_left hj']
    rw [e3, List.getElem?_append_left (by omega)]
    exact ⟨a1, c1, e1, key e2⟩
  · obtain rfl : j = T.length := by simp at hj; omega
    have e3 : (T ++ [t]).getD T.length [] = t := by simp [List.getD]
    rw [e3, ← hlen, List.getElem?_append_right (Nat.le_refl _), Nat.sub_self]
    exact ⟨ao, cp, rfl, key hu⟩
theorem app39 {ops : Array Oper} {rest : List Oper} {o : Oper} {a : Act} {Q : Exit → Act → World → Prop} {w : World} {B : Nat} {v u : Value} {T : List Bys} {t : Bys} (hgd : o.guard = none) (s x : Operand)
    (ho : o.op = .call { callee := .builtin .append, args := #[s, x], argTypes := #[22, 22] }) (hs : a.eval s = v) (hT : Tx B v T w) (hB : B ≤ w.heap.size)
    (g c : Nat) (hx : a.eval x = .slice (some ⟨g, 0, none⟩) 1 c) (hc : w.cell? ⟨g, 0, none⟩ = some u) (hu : w.ownsRow B 5 1 u t.length (bys t)) (hn : T.length ≤ 1000000)
    (k : ∀ v' w', Tx B v' (T ++ [t]) w' → Below B w w' → w.grownBy w' v.ownBlock → wpList Try.prog ops Q rest (a.put o.dst v') w') :
    wpList Try.prog ops Q (o :: rest) a w :=
  wpList_plain hgd fun _ hK => wpo_app39 s x ho hs hT hB g c hx hc hu hn (fun v' w' h1 h2 h3 => hK _ _ (k v' w' h1 h2 h3))
theorem step_app39 {ops : Array Oper} {o : Oper} {a : Act} {K : Act → World → Prop} {Q : Exit → Act → World → Prop} {E : Prop} {w : World} {B : Nat} {v u : Value} {T : List Bys} {t : Bys} (hgd : o.guard = none) (s x : Operand)
    (ho : o.op = .call { callee := .builtin .append, args := #[s, x], argTypes := #[22, 22] }) (hs : a.eval s = v) (hT : Tx B v T w) (hB : B ≤ w.heap.size)
    (g c : Nat) (hx : a.eval x = .slice (some ⟨g, 0, none⟩) 1 c) (hc : w.cell? ⟨g, 0, none⟩ = some u) (hu : w.ownsRow B 5 1 u t.length (bys t)) (hn : T.length ≤ 1000000)
    (k : ∀ v' w', Tx B v' (T ++ [t]) w' → Below B w w' → w.grownBy w' v.ownBlock → K (a.put o.dst v') w') :
    if Region.wanted o (yielded ops a.tmps) = true then Oper.wp Try.prog o a w K Q else E := by
  rw [if_pos (by simp [Region.wanted, hgd])]
  exact wpo_app39 s x ho hs hT hB g c hx hc hu hn k
theorem Tx.own {B : Nat} {v : Value} {T : List Bys} {w : World} (h : Tx B v T w) : ∃ vs, w.ownsRow B 39 1 v T.length vs := by
  obtain ⟨vs, ho, _⟩ := h.st
  exact ⟨vs, ho⟩
/-- The texts, turned round. -/
theorem revT_any (w : World) (B : Nat) (v : Value) (T : List Bys) (h : Tx B v T w) (h0 : 0 < T.length) (hfew : T.length ≤ 1000000) :
    Calls Try.prog 59 #[v] w fun ev w' => ev = .returned (.tuple #[]) ∧ Tx B v T.reverse w' ∧ Below B w w' := by
  obtain ⟨vs, how, he⟩ := h.st
  have hlen : vs.length = T.length := by have := how.1; omega
  have hB : B ≤ w.heap.size := by
    rcases how.2 with ⟨_, h1⟩ | ⟨g, cap, cur, rfl, hb, _⟩
    · omega
    · have := (how.lt g rfl).2; omega
  have hsl : ∀ u ∈ vs, ∃ a n c, u = Value.slice a n c := fun u hu => by
    obtain ⟨j, hj, rfl⟩ := List.mem_iff_getElem.1 hu
    obtain ⟨ao, c, h1, _⟩ := he j (by omega)
    rw [List.getElem?_eq_getElem hj] at h1
    exact ⟨ao, _, c, Option.some.inj h1⟩
  refine (revS_any w B v vs T.length hlen how hsl h0 hfew).mono ?_
  rintro ev w' ⟨rfl, ho', hg⟩
  have key : ∀ {n : Nat} {y : Value} {xs : List Value}, w.ownsRow B 5 1 y n xs → w'.ownsRow B 5 1 y n xs := fun {n y xs} hy =>
    own_same' hy (fun q eq => hg.block q (hy.lt q eq).2 (fun e => own_two hy how (by decide) q eq e.symm))
  have hl : T.reverse.length = T.length := by simp
  refine ⟨rfl, ⟨vs.reverse, by rw [hl]; exact ho', fun j hj => ?_⟩, below_grown hg hB (fun k e => (how.lt k e).1)⟩
  have hj' : j < T.length := by omega
  obtain ⟨ao, c, h1, h2⟩ := he (T.length - 1 - j) (by omega)
  have e1 : T.reverse.getD j [] = T.getD (T.length - 1 - j) [] := by simp [List.getD, List.getElem?_reverse hj']
  have e2 : vs.reverse[j]? = vs[T.length - 1 - j]? := by rw [List.getElem?_reverse (by omega), hlen]
  rw [e1, e2]
  exact ⟨ao, c, h1, key h2⟩
end Go.Proofs.Ytfkibbpekngciaa
