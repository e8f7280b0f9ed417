/-
  The texts Wnb, Wsm, Wtt, joined.
-/
import Derived.Test.YtmopffaocamieaaGreatJapWtx3
namespace Go.Proofs.YtmopffaocamieaaGreat
open Go.RowKit

/-- A group is laid above what was gathered. -/
theorem or_group (acc x i : Nat) (ha : acc < 2 ^ (7 * i)) (hi : i ≤ 9) (hx : x < 128) (h9 : i = 9 → x ≤ 1) :
    bits .or .u64 (acc : Int) (IntKind.u64.wrap ((x : Int) * 2 ^ (7 * i))) = ((acc + x * 2 ^ (7 * i) : Nat) : Int) ∧ acc + x * 2 ^ (7 * i) < 18446744073709551616 ∧ (i < 9 → acc + x * 2 ^ (7 * i) < 2 ^ (7 * (i + 1))) := by
  have hb : x * 2 ^ (7 * i) < 18446744073709551616 := by
    by_cases e : i = 9
    · subst e
      have h1 := h9 rfl
      have : x * 2 ^ (7 * 9) ≤ 1 * 2 ^ (7 * 9) := Nat.mul_le_mul_right _ h1
      omega
    · have : 2 ^ (7 * i) ≤ 2 ^ 56 := Nat.pow_le_pow_right (by omega) (by omega)
      have : x * 2 ^ (7 * i) ≤ 127 * 2 ^ 56 := Nat.mul_le_mul (by omega) this
      omega
  have hA : acc < 18446744073709551616 := by
    have : 2 ^ (7 * i) ≤ 2 ^ 63 := Nat.pow_le_pow_right (by omega) (by omega)
    omega
  have hw : IntKind.u64.wrap ((x : Int) * 2 ^ (7 * i)) = ((x * 2 ^ (7 * i) : Nat) : Int) := by
    rw [IntKind.wrap_u64]
    have : ((x * 2 ^ (7 * i) : Nat) : Int) = (x : Int) * 2 ^ (7 * i) := by simp
    rw [← this]; omega
  have hor : acc ||| (x * 2 ^ (7 * i)) = acc + x * 2 ^ (7 * i) := by
    rw [Nat.or_comm, Nat.mul_comm, Nat.add_comm]
    exact (Nat.two_pow_add_eq_or_of_lt ha x).symm
  have hlt : acc + x * 2 ^ (7 * i) < 18446744073709551616 := by
    rw [← hor]
    exact Nat.or_lt_two_pow (n := 64) hA hb
  refine ⟨?_, hlt, fun h => ?_⟩
  · rw [hw, bits_or_u64_nat acc _ hA hb, hor]
  · rw [pow_step]
    have : x * 2 ^ (7 * i) ≤ 127 * 2 ^ (7 * i) := Nat.mul_le_mul_right _ (by omega)
    omega

theorem scan_cons (i acc : Nat) (l : List UInt8) (k : Nat) (h : k < l.length) : scan i acc (l.drop k) = 
    if i = 9 ∧ 1 < (l.getD k 0).toNat then (0, 0, 4) else if 0 < i ∧ (l.getD k 0).toNat = 0 then (0, 0, 4) else
      if (l.getD k 0).toNat < 128 then (acc + (l.getD k 0).toNat * 2 ^ (7 * i), i + 1, 0) else scan (i + 1) (acc + ((l.getD k 0).toNat - 128) * 2 ^ (7 * i)) (l.drop (k + 1)) := by
  rw [List.drop_eq_getElem_cons h]
  simp [scan, List.getD, List.getElem?_eq_getElem h]

theorem ret3 {a b c d e : Int} (h : a = b) (h' : c = d) : Ending.returned (.tuple #[.int .u64 a, .int .i64 c, .int .i64 e]) = .returned (.tuple #[.int .u64 b, .int .i64 d, .int .i64 e]) := by rw [h, h']

set_option maxHeartbeats 2000000 in
set_option maxRecDepth 20000 in
theorem number_some (w : World) (b o cap : Nat) (l : List UInt8) (hl : l.length ≤ 1099511627776) (hc : ∀ i, i < l.length → w.cell? ⟨b, o + i, none⟩ = some (.int .u8 ((l.getD i 0).toNat : Int))) :
    Calls Tryz.prog 174 #[.slice (some ⟨b, o, none⟩) l.length cap] w fun ev w' => ev = .returned (.tuple #[.int .u64 ((scan 0 0 l).1 : Int), .int .i64 ((scan 0 0 l).2.1 : Int), .int .i64 ((scan 0 0 l).2.2 : Int)]) ∧ w' = w := by
  go_enter Tryz.func174, Tryz.ntmps174
  go_wp2_with fail
  go_loop [2, 9] (fun x i => ∃ (k acc : Nat), k ≤ l.length ∧ k ≤ 9 ∧ i = .int .i64 k ∧ x = .int .u64 acc ∧ acc < 2 ^ (7 * k) ∧ scan 0 0 l = scan k acc (l.drop k)) (fun _ i => l.length - (intOf i).toNat)
  case atStart => exact ⟨0, 0, by omega, by omega, rfl, rfl, by decide, rfl⟩
  case round =>
    obtain ⟨k, acc, hk, hk9, rfl, rfl, hacc, hd⟩ := hrel
    have HD : Hid (scan 0 0 l = scan k acc (l.drop k)) := hd
    have HA : Hid (acc < 2 ^ (7 * k)) := hacc
    clear hd hacc
    by_cases hlt : k < l.length
    · have q1 := hc k hlt
      have hu := (l.getD k 0).toNat_lt
      have HC : Hid (scan k acc (l.drop k) = _) := scan_cons k acc l k hlt
      clear hc
      generalize (l.getD k 0).toNat = x at q1 hu HC
      by_cases c1 : k = 9 ∧ 1 < x
      · obtain ⟨rfl, hx⟩ := c1
        have HR : Hid (scan 0 0 l = (0, 0, 4)) := by show _ = _; rw [HD.out, HC.out, if_pos ⟨rfl, hx⟩]
        clear HD HC
        go_wp2_with fail
        go_ret3
        exact ⟨by rw [HR.out]; rfl, rfl⟩
      · rw [if_neg c1] at HC
        by_cases c2 : 0 < k ∧ x = 0
        · rw [if_pos c2] at HC
          have HR : Hid (scan 0 0 l = (0, 0, 4)) := by show _ = _; rw [HD.out, HC.out]
          obtain ⟨hk0, rfl⟩ := c2
          clear HD HC c1
          by_cases e9 : k = 9
          · subst e9
            go_wp2_with fail
            go_ret3
            exact ⟨by rw [HR.out]; rfl, rfl⟩
          · go_wp2_with fail
            go_ret3
            exact ⟨by rw [HR.out]; rfl, rfl⟩
        · rw [if_neg c2] at HC
          by_cases c3 : x < 128
          · rw [if_pos c3] at HC
            have G := or_group acc x k HA.out hk9 c3 (by omega)
            have HR : Hid (scan 0 0 l = (acc + x * 2 ^ (7 * k), k + 1, 0)) := by show _ = _; rw [HD.out, HC.out]
            have HG : Hid (bits .or .u64 (acc : Int) (IntKind.u64.wrap ((x : Int) * 2 ^ (7 * k))) = ((acc + x * 2 ^ (7 * k) : Nat) : Int)) := G.1
            clear HD HC HA G
            by_cases e9 : 9 ≤ k
            · have hx1 : x ≤ 1 := by omega
              have hx0 : 0 < x := by omega
              clear c1 c2
              obtain rfl : k = 9 := by omega
              have hw : IntKind.u64.wrap ((x : Int) * 2 ^ (7 * 9)) = (x : Int) * 9223372036854775808 := by rw [IntKind.wrap_u64]; omega
              rw [hw] at HG
              clear hw
              go_wp2_with fail
              go_ret3
              exact ⟨by rw [HR.out]; exact ret3 HG.out rfl, rfl⟩
            · by_cases e0 : k ≤ 0
              · clear c1 c2
                go_wp2_with fail
                go_ret3
                exact ⟨by rw [HR.out]; exact ret3 HG.out (by simp), rfl⟩
              · have hx0 : 0 < x := by omega
                clear c1 c2
                go_wp2_with fail
                go_ret3
                exact ⟨by rw [HR.out]; exact ret3 HG.out (by simp), rfl⟩
          · rw [if_neg c3] at HC
            have hx9 : k < 9 := by omega
            have G := or_group acc (x - 128) k HA.out hk9 (by omega) (by omega)
            have HR : Hid (scan 0 0 l = scan (k + 1) (acc + (x - 128) * 2 ^ (7 * k)) (l.drop (k + 1))) := by show _ = _; rw [HD.out, HC.out]
            clear HD HC HA c1 c2
            have GG : Aside _ := G
            clear G
            have e128 : ((x - 128 : Nat) : Int) = (x : Int) - 128 := by omega
            rw [e128] at GG
            clear e128
            by_cases e0 : k ≤ 0
            · go_wp2_with fail
              go_round
              case rel => exact ⟨k + 1, _, by omega, by omega, by go_num, by rw [GG.out.1], GG.out.2.2 hx9, HR.out⟩
              case measure => simp [intOf]; omega
            · go_wp2_with fail
              go_round
              case rel => exact ⟨k + 1, _, by omega, by omega, by go_num, by rw [GG.out.1], GG.out.2.2 hx9, HR.out⟩
              case measure => simp [intOf]; omega
    · have HR : Hid (scan 0 0 l = (0, 0, 3)) := by show _ = _; rw [HD.out, List.drop_eq_nil_of_le (by omega)]; rfl
      clear hc HD HA
      go_wp2_with fail
      go_ret3
      exact ⟨by rw [HR.out]; rfl, rfl⟩

theorem number_none (w : World) (cap : Nat) :
    Calls Tryz.prog 174 #[.slice none 0 cap] w fun ev w' => ev = .returned (.tuple #[.int .u64 0, .int .i64 0, .int .i64 3]) ∧ w' = w := by
  go_enter Tryz.func174, Tryz.ntmps174
  go_wp2_with fail
  refine wp_loop_rounds 1 ?_
  rw [rounds_succ]
  go_wp2_with fail
  go_ret3
  exact ⟨rfl, rfl⟩

theorem number_any (w : World) (v : Value) (l : List UInt8) (h : Sw w v l) (hl : l.length ≤ 1099511627776) :
    Calls Tryz.prog 174 #[v] w fun ev w' => ev = .returned (.tuple #[.int .u64 ((scan 0 0 l).1 : Int), .int .i64 ((scan 0 0 l).2.1 : Int), .int .i64 ((scan 0 0 l).2.2 : Int)]) ∧ w' = w := by
  rcases h.shape with ⟨cap, rfl, rfl⟩ | ⟨b, o, cap, rfl, hc⟩
  · exact number_none w cap
  · exact number_some w b o cap l hl hc

/-- What is above a bound. -/
def over (v : Nat) (most : Int) : Bool := decide (most < 0 ∨ most < (v : Int))
theorem above_any (w : World) (v : Nat) (most : Int) (h1 : -9223372036854775808 ≤ most) (h2 : most ≤ 9223372036854775807) :
    Calls Tryz.prog 175 #[.int .u64 (v : Int), .int .i64 most] w fun ev w' => ev = .returned (.bool (over v most)) ∧ w' = w := by
  by_cases h : most < 0
  · have HO : Hid (over v most = true) := by show _ = _; simp [over, h]
    go_enter Tryz.func175, Tryz.ntmps175
    go_wp2_with fail
    go_ret
    exact ⟨by rw [HO.out]; rfl, rfl⟩
  · have HO : Hid (over v most = decide (most < (v : Int))) := by show _ = _; simp [over, h]
    have hd : decide (most < 0) = false := by simpa using h
    go_enter Tryz.func175, Tryz.ntmps175
    go_wp2_with fail
    go_ret
    exact ⟨by rw [HO.out]; rfl, rfl⟩
end Go.Proofs.YtmopffaocamieaaGreat

namespace Go.Proofs.YtmopffaocamieaaGreat
open Go.RowKit

/-- What a reading leaves: the error of this number at p, or none; the Reader at q. -/
structure Out (w w' : World) (rb : Nat) (v : Value) (l : List UInt8) (p q code : Nat) (e : Value) : Prop where
  err : (code = 0 ∧ e = .nilIface) ∨ (code ≠ 0 ∧ Er w' e code p)
  rd : Rd w' rb v l q
  grown : w.grownBy w' (some rb)

theorem Out.refused {w w1 w2 : World} {rb : Nat} {v : Value} {l : List UInt8} {p code : Nat} {e : Value} (h : Rd w rb v l p) (hb : Below w.heap.size w w1) (hb2 : Below w1.heap.size w1 w2) (hc : code ≠ 0) (hE : Er w2 e code p) : Out w w2 rb v l p p code e :=
  have hB := hb.trans (hb2.mono hb.size)
  ⟨.inr ⟨hc, hE⟩, h.past hB, grown_below hB _⟩
theorem Out.taken {w w1 : World} {rb : Nat} {v : Value} {l : List UInt8} {p q : Nat} (h : Rd w rb v l p) (hb : Below w.heap.size w w1) (hq : q ≤ l.length) : Out w (w1.setCell ⟨rb, 1, none⟩ (.int .i64 (q : Int))) rb v l p q 0 .nilIface :=
  ⟨.inl ⟨rfl, rfl⟩, ((h.past hb).step hq).1, (grown_below hb _).trans ((h.past hb).step hq).2⟩

/-- Small's answer: the number, the place, the error. -/
def small (l : List UInt8) (p : Nat) (most : Int) : Nat × Nat × Nat :=
  if (scan 0 0 (l.drop p)).2.2 ≠ 0 then (0, p, (scan 0 0 (l.drop p)).2.2) else if over (scan 0 0 (l.drop p)).1 most then (0, p, 2) else ((scan 0 0 (l.drop p)).1, p + (scan 0 0 (l.drop p)).2.1, 0)

set_option maxHeartbeats 2000000 in
set_option maxRecDepth 5000 in
theorem rSmall_any (w : World) (rb : Nat) (v : Value) (l : List UInt8) (p : Nat) (most : Int) (h : Rd w rb v l p) (h1 : -9223372036854775808 ≤ most) (h2 : most ≤ 9223372036854775807) :
    Calls Tryz.prog 178 #[.pointer (some ⟨rb, 0, none⟩), .int .i64 most] w fun ev w' => ∃ e, ev = .returned (.tuple #[.int .i64 ((small l p most).1 : Int), e]) ∧ Out w w' rb v l p (small l p most).2.1 (small l p most).2.2 e := by
  have C := left_any w rb v l p h
  have hle := h.le
  have hmax := h.max
  obtain ⟨V, n, c, hS⟩ : ∃ V n c, scan 0 0 (l.drop p) = (V, n, c) := ⟨_, _, _, rfl⟩
  have hb := scan_lt hS
  rw [List.length_drop] at hb
  have HN : Hid (∀ w1 v1, Sw w1 v1 (l.drop p) → Calls Tryz.prog 174 #[v1] w1 fun ev w' => ev = .returned (.tuple #[.int .u64 (V : Int), .int .i64 (n : Int), .int .i64 (c : Int)]) ∧ w' = w1) := fun w1 v1 hs => by
    have := number_any w1 v1 (l.drop p) hs (by rw [List.length_drop]; omega)
    rw [hS] at this; exact this
  have HR : Hid (∀ w1 (c : Nat), Below w.heap.size w w1 → c ≠ 0 → Calls Tryz.prog 149 #[.pointer (some ⟨rb, 0, none⟩), .int .i64 (c : Int)] w1 fun ev w' => ∃ e, ev = .returned e ∧ Er w' e c p ∧ Below w1.heap.size w1 w') := fun w1 c hB hc => refuse_any w1 rb v l p c (h.past hB) hc
  have HC : Hid (∀ w1, Below w.heap.size w w1 → w1.cell? ⟨rb, 1, none⟩ = some (.int .i64 (p : Int)) ∧ w1.frozen? ⟨rb, 1, none⟩ = false) := fun w1 hB => ⟨(h.past hB).cell1, (h.past hB).fz⟩
  have hQ : small l p most = if c ≠ 0 then (0, p, c) else if over V most then (0, p, 2) else (V, p + n, 0) := by unfold small; rw [hS]
  have A : Aside (Rd w rb v l p) := h
  have F := fun w => above_any w V most h1 h2
  obtain ⟨R, hR⟩ : ∃ R, small l p most = R := ⟨_, rfl⟩
  rw [hR] at hQ ⊢
  have HQ : Hid (R = if c ≠ 0 then (0, p, c) else if over V most then (0, p, 2) else (V, p + n, 0)) := hQ
  have HO : Hid (over V most = false → (V : Int) ≤ most) := fun h => by simp [over] at h; omega
  clear h hS hQ hR
  go_enter Tryz.func178, Tryz.ntmps178
  go_wp2_with fail
  refine C.mono ?_
  rintro ev w1 ⟨v1, rfl, hS, hb1⟩
  have D := HN.out w1 v1 hS
  clear HN C
  obtain ⟨ao, n1, cap1, rfl⟩ : ∃ ao n cap, v1 = .slice ao n cap := by
    rcases hS.shape with ⟨cap, rfl, _⟩ | ⟨b, o, cap, rfl, _⟩
    · exact ⟨_, _, _, rfl⟩
    · exact ⟨_, _, _, rfl⟩
  clear hS
  go_wp2_with fail
  refine D.mono ?_
  rintro ev w2 ⟨rfl, rfl⟩
  clear D
  by_cases hc : c = 0
  · subst hc
    go_wp2_with fail
    refine (F _).mono ?_
    rintro ev w3 ⟨rfl, rfl⟩
    clear F
    rcases hov : over V most with _ | _
    · have hVm := HO.out hov
      have HQ2 : Hid (R = (V, p + n, 0)) := by show _ = _; rw [HQ.out]; simp [hov]
      obtain ⟨c1, cf⟩ := HC.out w3 hb1
      clear HQ HO hov
      go_wp2_with fail
      go_ret2
      refine ⟨_, by rw [HQ2.out]; rfl, ?_⟩
      rw [HQ2.out]
      exact Out.taken A.out hb1 (by show p + n ≤ _; omega)
    · have HQ2 : Hid (R = (0, p, 2)) := by show _ = _; rw [HQ.out]; simp [hov]
      have D := HR.out w3 2 hb1 (by decide)
      clear HQ HO hov HR
      go_wp2_with fail
      refine D.mono ?_
      rintro ev w4 ⟨e, rfl, hE, hb3⟩
      obtain ⟨b, rfl, -⟩ := hE.shape
      go_wp2_with fail
      go_ret2
      refine ⟨_, by rw [HQ2.out]; rfl, ?_⟩
      rw [HQ2.out]
      exact Out.refused A.out hb1 hb3 (show 2 ≠ 0 by decide) hE
  · have HQ2 : Hid (R = (0, p, c)) := by show _ = _; rw [HQ.out]; simp [hc]
    have D := HR.out w2 c hb1 hc
    clear HQ HO HR
    go_wp2_with fail
    refine D.mono ?_
    rintro ev w3 ⟨e, rfl, hE, hb3⟩
    obtain ⟨b, rfl, -⟩ := hE.shape
    go_wp2_with fail
    go_ret2
    refine ⟨_, by rw [HQ2.out]; rfl, ?_⟩
    rw [HQ2.out]
    exact Out.refused A.out hb1 hb3 hc hE
end Go.Proofs.YtmopffaocamieaaGreat

namespace Go.Proofs.YtmopffaocamieaaGreat
open Go.RowKit

/-- 'string(b)' of a slice that holds the bytes l. -/
theorem conv_sl (w : World) (v : Value) (l : List UInt8) (h : Sw w v l) : (convert 33 9 v).run Tryz.prog w = .ok (.string (str l)) w := by
  rcases h.shape with ⟨cap, rfl, rfl⟩ | ⟨b, o, cap, rfl, hc⟩
  · exact run_convert_bytes_nil w 33 5 Tryz.underlying33 Tryz.underlying5 0 cap 9 Tryz.underlying9
  · refine run_convert_bytes_back w 33 9 5 ⟨b, o, none⟩ cap l Tryz.underlying33 Tryz.underlying5 Tryz.underlying9 ?_
    intro j hj
    rw [addr_add, hc j hj]
    simp [List.getD, List.getElem?_eq_getElem hj]
/-- What is left, as a slice apart from the Reader itself. -/
structure Lf (w : World) (rb : Nat) (l : List UInt8) (p : Nat) (ao : Option Addr) (cap : Nat) : Prop where
  room : l.length - p ≤ cap
  shape : (ao = none ∧ l.length - p = 0 ∧ cap = 0) ∨ ∃ g o, ao = some ⟨g, o, none⟩ ∧ g ≠ rb ∧ ∀ i, p + i < l.length → w.cell? ⟨g, o + i, none⟩ = some (.int .u8 ((l.getD (p + i) 0).toNat : Int))

theorem Lf.sl {w : World} {rb : Nat} {l : List UInt8} {p : Nat} {ao : Option Addr} {cap : Nat} (h : Lf w rb l p ao cap) : Sw w (.slice ao (l.length - p) cap) (l.drop p) := by
  refine ⟨?_⟩
  rcases h.shape with ⟨rfl, h0, rfl⟩ | ⟨g, o, rfl, _, hc⟩
  · exact .inl ⟨0, by rw [h0], List.drop_eq_nil_of_le (by omega)⟩
  · refine .inr ⟨g, o, cap, by rw [List.length_drop], fun i hi => ?_⟩
    rw [List.length_drop] at hi
    rw [hc i (by omega)]
    simp [List.getD, List.getElem?_drop]

theorem left_far (w : World) (rb : Nat) (v : Value) (l : List UInt8) (p : Nat) (h : Rd w rb v l p) :
    Calls Tryz.prog 148 #[.pointer (some ⟨rb, 0, none⟩)] w fun ev w' => ∃ ao cap, ev = .returned (.slice ao (l.length - p) cap) ∧ Lf w' rb l p ao cap ∧ Below w.heap.size w w' := by
  have c0 := h.cell0
  have c1 := h.cell1
  have hle := h.le
  have hmax := h.max
  rcases h.own.2 with ⟨rfl, hn⟩ | ⟨g, cap, cur, rfl, _, hg, hnc, hcm, hcs, ht⟩
  · obtain rfl : p = 0 := by omega
    have hl0 := List.eq_nil_of_length_eq_zero hn
    subst hl0
    clear h
    go_enter Tryz.func148, Tryz.ntmps148
    go_wp2_with fail
    go_quiet (fail)
    go_wp2_with fail
    go_ret
    exact ⟨none, 0, rfl, ⟨by simp, .inl ⟨rfl, rfl, rfl⟩⟩, below_drewN (Below.refl _ _) _⟩
  · have hne : g ≠ rb := fun e => h.ne (by simp [Value.ownBlock, e])
    have HC : Hid (∀ n i, p + i < l.length → (w.drewN n).cell? ⟨g, p + i, none⟩ = some (.int .u8 ((l.getD (p + i) 0).toNat : Int))) := fun n i hi => by
      rw [World.cell?_drewN, h.own.cellAt (p + i) (by omega), bys_get l (p + i) hi]
    unfold maxLen at hcm
    clear h
    by_cases e : cap = p
    · go_enter Tryz.func148, Tryz.ntmps148
      go_wp2_with fail
      go_quiet (fail)
      go_wp2_with fail
      go_ret
      exact ⟨some ⟨g, 0, none⟩, 0, rfl, ⟨by omega, .inr ⟨g, 0, rfl, hne, fun i hi => by omega⟩⟩, below_drewN (Below.refl _ _) _⟩
    · go_enter Tryz.func148, Tryz.ntmps148
      go_wp2_with fail
      go_quiet (fail)
      go_wp2_with fail
      go_ret
      exact ⟨some ⟨g, p, none⟩, cap - p, rfl, ⟨by omega, .inr ⟨g, p, rfl, hne, HC.out _⟩⟩, below_drewN (Below.refl _ _) _⟩

theorem ret_be (x : Nat) : Ending.returned (.tuple #[.bool ((x : Int) == 1), .nilIface]) = .returned (.tuple #[.bool (decide (x = 1)), .nilIface]) := by
  rw [show ((x : Int) == 1) = decide (x = 1) by rw [Bool.eq_iff_iff]; simp; omega]

/-- Bool's answer. -/
def rbool (l : List UInt8) (p : Nat) : Bool × Nat × Nat :=
  if l.length ≤ p then (false, p, 3) else if 1 < (l.getD p 0).toNat then (false, p, 4) else (decide ((l.getD p 0).toNat = 1), p + 1, 0)

set_option maxHeartbeats 2000000 in
theorem rBool_any (w : World) (rb : Nat) (v : Value) (l : List UInt8) (p : Nat) (h : Rd w rb v l p) :
    Calls Tryz.prog 181 #[.pointer (some ⟨rb, 0, none⟩)] w fun ev w' => ∃ e, ev = .returned (.tuple #[.bool (rbool l p).1, e]) ∧ Out w w' rb v l p (rbool l p).2.1 (rbool l p).2.2 e := by
  have C := left_far w rb v l p h
  have hle := h.le
  have hmax := h.max
  have HR : Hid (∀ w1 (c : Nat), Below w.heap.size w w1 → c ≠ 0 → Calls Tryz.prog 149 #[.pointer (some ⟨rb, 0, none⟩), .int .i64 (c : Int)] w1 fun ev w' => ∃ e, ev = .returned e ∧ Er w' e c p ∧ Below w1.heap.size w1 w') := fun w1 c hB hc => refuse_any w1 rb v l p c (h.past hB) hc
  have HC : Hid (∀ w1, Below w.heap.size w w1 → w1.cell? ⟨rb, 1, none⟩ = some (.int .i64 (p : Int)) ∧ w1.frozen? ⟨rb, 1, none⟩ = false) := fun w1 hB => ⟨(h.past hB).cell1, (h.past hB).fz⟩
  have A : Aside (Rd w rb v l p) := h
  clear h
  have HQ : Hid (rbool l p = if l.length ≤ p then (false, p, 3) else if 1 < (l.getD p 0).toNat then (false, p, 4) else (decide ((l.getD p 0).toNat = 1), p + 1, 0)) := rfl
  generalize rbool l p = R at HQ ⊢
  go_enter Tryz.func181, Tryz.ntmps181
  go_wp2_with fail
  refine C.mono ?_
  rintro ev w1 ⟨ao, cap, rfl, hL, hb1⟩
  clear C
  by_cases h0 : l.length ≤ p
  · have HQ2 : Hid (R = (false, p, 3)) := by show _ = _; rw [HQ.out, if_pos h0]
    have D := HR.out w1 3 hb1 (by decide)
    have hz : l.length - p = 0 := by omega
    clear HQ HR hL
    go_wp2_with fail
    refine D.mono ?_
    rintro ev w2 ⟨e, rfl, hE, hb2⟩
    obtain ⟨b, rfl, -⟩ := hE.shape
    go_wp2_with fail
    go_ret2
    refine ⟨_, by rw [HQ2.out]; rfl, ?_⟩
    rw [HQ2.out]
    exact Out.refused A.out hb1 hb2 (show 3 ≠ 0 by decide) hE
  · obtain ⟨g, o, rfl, hg, hc⟩ := hL.shape.resolve_left (fun hh => by omega)
    have q1 := hc 0 (by omega)
    simp only [Nat.add_zero] at q1
    have hp : p < l.length := by omega
    have hu := (l.getD p 0).toNat_lt
    rw [if_neg h0] at HQ
    generalize (l.getD p 0).toNat = x at q1 HQ hu
    clear hL hc h0
    by_cases h1 : 1 < x
    · have HQ2 : Hid (R = (false, p, 4)) := by show _ = _; rw [HQ.out, if_pos h1]
      have D := HR.out w1 4 hb1 (by decide)
      clear HQ HR
      go_wp2_with fail
      refine D.mono ?_
      rintro ev w2 ⟨e, rfl, hE, hb2⟩
      obtain ⟨b, rfl, -⟩ := hE.shape
      go_wp2_with fail
      go_ret2
      refine ⟨_, by rw [HQ2.out]; rfl, ?_⟩
      rw [HQ2.out]
      exact Out.refused A.out hb1 hb2 (show 4 ≠ 0 by decide) hE
    · have HQ2 : Hid (R = (decide (x = 1), p + 1, 0)) := by show _ = _; rw [HQ.out, if_neg h1]
      obtain ⟨c1, cf⟩ := HC.out w1 hb1
      clear HQ HR HC
      go_wp2_with fail
      go_ret2
      refine ⟨.nilIface, by rw [HQ2.out]; exact ret_be x, ?_⟩
      rw [HQ2.out]
      exact Out.taken A.out hb1 (by show p + 1 ≤ _; omega)

/-- Text's answer. -/
def rtext (l : List UInt8) (p : Nat) (most : Int) : List UInt8 × Nat × Nat :=
  if (scan 0 0 (l.drop p)).2.2 ≠ 0 then ([], p, (scan 0 0 (l.drop p)).2.2) else if over (scan 0 0 (l.drop p)).1 most then ([], p, 5) else
    if l.length - p - (scan 0 0 (l.drop p)).2.1 < (scan 0 0 (l.drop p)).1 then ([], p, 3) else ((l.drop (p + (scan 0 0 (l.drop p)).2.1)).take (scan 0 0 (l.drop p)).1, p + ((scan 0 0 (l.drop p)).2.1 + (scan 0 0 (l.drop p)).1), 0)

/-- The bytes of a text, at their place, when the Reader has gone on. -/
theorem text_conv {w : World} {rb : Nat} {l : List UInt8} {p g o n V c : Nat} {x : Value} (hg : g ≠ rb) (hc : ∀ i, p + i < l.length → w.cell? ⟨g, o + i, none⟩ = some (.int .u8 ((l.getD (p + i) 0).toNat : Int))) (hn : p + n + V ≤ l.length) :
    (convert 33 9 (.slice (some ⟨g, o + n, none⟩) V c)).run Tryz.prog (w.setCell ⟨rb, 1, none⟩ x) = .ok (.string (str ((l.drop (p + n)).take V))) (w.setCell ⟨rb, 1, none⟩ x) := by
  have hl : ((l.drop (p + n)).take V).length = V := by simp; omega
  have h := conv_sl (w.setCell ⟨rb, 1, none⟩ x) (.slice (some ⟨g, o + n, none⟩) V c) ((l.drop (p + n)).take V) ⟨.inr ⟨g, o + n, c, by rw [hl], fun i hi => by
    rw [hl] at hi
    have e := World.cell?_setCell_other (w := w) (a := ⟨rb, 1, none⟩) (b := ⟨g, o + n + i, none⟩) (v := x) (fun e => hg (congrArg Addr.block e).symm)
    rw [e, Nat.add_assoc, hc (n + i) (by omega)]
    simp [List.getD, List.getElem?_drop, hi, Nat.add_assoc]⟩⟩
  exact h

set_option maxHeartbeats 4000000 in
set_option maxRecDepth 5000 in
theorem rText_any (w : World) (rb : Nat) (v : Value) (l : List UInt8) (p : Nat) (most : Int) (h : Rd w rb v l p) (h1 : -9223372036854775808 ≤ most) (h2 : most ≤ 9223372036854775807) :
    Calls Tryz.prog 139 #[.pointer (some ⟨rb, 0, none⟩), .int .i64 most] w fun ev w' => ∃ e, ev = .returned (.tuple #[.string (str (rtext l p most).1), e]) ∧ Out w w' rb v l p (rtext l p most).2.1 (rtext l p most).2.2 e := by
  have C := left_far w rb v l p h
  have hle := h.le
  have hmax := h.max
  obtain ⟨V, n, c, hS⟩ : ∃ V n c, scan 0 0 (l.drop p) = (V, n, c) := ⟨_, _, _, rfl⟩
  have hb := scan_lt hS
  rw [List.length_drop] at hb
  have HN : Hid (∀ w1 v1, Sw w1 v1 (l.drop p) → Calls Tryz.prog 174 #[v1] w1 fun ev w' => ev = .returned (.tuple #[.int .u64 (V : Int), .int .i64 (n : Int), .int .i64 (c : Int)]) ∧ w' = w1) := fun w1 v1 hs => by
    have := number_any w1 v1 (l.drop p) hs (by rw [List.length_drop]; omega)
    rw [hS] at this; exact this
  have HR : Hid (∀ w1 (c : Nat), Below w.heap.size w w1 → c ≠ 0 → Calls Tryz.prog 149 #[.pointer (some ⟨rb, 0, none⟩), .int .i64 (c : Int)] w1 fun ev w' => ∃ e, ev = .returned e ∧ Er w' e c p ∧ Below w1.heap.size w1 w') := fun w1 c hB hc => refuse_any w1 rb v l p c (h.past hB) hc
  have HC : Hid (∀ w1, Below w.heap.size w w1 → w1.cell? ⟨rb, 1, none⟩ = some (.int .i64 (p : Int)) ∧ w1.frozen? ⟨rb, 1, none⟩ = false) := fun w1 hB => ⟨(h.past hB).cell1, (h.past hB).fz⟩
  have hQ : rtext l p most = if c ≠ 0 then ([], p, c) else if over V most then ([], p, 5) else if l.length - p - n < V then ([], p, 3) else ((l.drop (p + n)).take V, p + (n + V), 0) := by unfold rtext; rw [hS]
  have A : Aside (Rd w rb v l p) := h
  have F := fun w => above_any w V most h1 h2
  have hn1 : c = 0 → 0 < n := fun e => by subst e; exact (enc_of_scan hS).2.1
  obtain ⟨R, hR⟩ : ∃ R, rtext l p most = R := ⟨_, rfl⟩
  rw [hR] at hQ ⊢
  have HQ : Hid (R = if c ≠ 0 then ([], p, c) else if over V most then ([], p, 5) else if l.length - p - n < V then ([], p, 3) else ((l.drop (p + n)).take V, p + (n + V), 0)) := hQ
  have HO : Hid (over V most = false → (V : Int) ≤ most) := fun h => by simp [over] at h; omega
  clear h hS hQ hR
  go_enter Tryz.func139, Tryz.ntmps139
  go_wp2_with fail
  refine C.mono ?_
  rintro ev w1 ⟨ao, cap, rfl, hL, hb1⟩
  have D := HN.out w1 _ hL.sl
  clear HN C
  go_wp2_with fail
  refine D.mono ?_
  rintro ev w2 ⟨rfl, rfl⟩
  clear D
  by_cases hc : c = 0
  · subst hc
    have hn0 := hn1 rfl
    obtain ⟨g, o, rfl, hg, hcl⟩ := hL.shape.resolve_left (fun hh => by omega)
    have hroom := hL.room
    have HL : Hid (∀ i, p + i < l.length → w2.cell? ⟨g, o + i, none⟩ = some (.int .u8 ((l.getD (p + i) 0).toNat : Int))) := hcl
    clear hcl hL
    go_wp2_with fail
    refine (F _).mono ?_
    rintro ev w3 ⟨rfl, rfl⟩
    clear F
    rcases hov : over V most with _ | _
    · have hVm := HO.out hov
      have HQ2 : Hid (R = if l.length - p - n < V then ([], p, 3) else ((l.drop (p + n)).take V, p + (n + V), 0)) := by show _ = _; rw [HQ.out]; simp [hov]
      obtain ⟨c1, cf⟩ := HC.out w3 hb1
      clear HQ HO hov HC
      by_cases hsh : l.length - p - n < V
      · have HQ3 : Hid (R = ([], p, 3)) := by show _ = _; rw [HQ2.out, if_pos hsh]
        have D := HR.out w3 3 hb1 (by decide)
        clear HQ2 HL HR
        by_cases ecap : cap = n
        all_goals
          go_wp2_with fail
          refine D.mono ?_
          rintro ev w4 ⟨e, rfl, hE, hb3⟩
          obtain ⟨b, rfl, -⟩ := hE.shape
          go_wp2_with fail
          go_ret2
          refine ⟨_, by rw [HQ3.out]; rfl, ?_⟩
          rw [HQ3.out]
          exact Out.refused A.out hb1 hb3 (show 3 ≠ 0 by decide) hE
      · have HQ3 : Hid (R = ((l.drop (p + n)).take V, p + (n + V), 0)) := by show _ = _; rw [HQ2.out, if_neg hsh]
        clear HQ2 HR
        by_cases ecap : cap = n
        · have hV0 : V = 0 := by omega
          subst hV0
          have kc := fun (w : World) (c : Nat) => conv_sl w (.slice (some ⟨g, o, none⟩) 0 c) [] ⟨.inr ⟨g, o, c, rfl, fun i hi => absurd hi (by simp)⟩⟩
          have hE : Hid (str ((l.drop (p + n)).take 0) = str []) := by show _ = _; rw [List.take_zero]
          go_wp2_with fail
          go_ret2
          refine ⟨_, by rw [HQ3.out, hE.out]; rfl, ?_⟩
          rw [HQ3.out]
          exact Out.taken A.out hb1 (by show p + (n + 0) ≤ _; omega)
        · have kc := fun c x => text_conv (c := c) (x := x) (V := V) hg HL.out (show p + n + V ≤ l.length by omega)
          go_wp2_with fail
          go_ret2
          refine ⟨_, by rw [HQ3.out]; rfl, ?_⟩
          rw [HQ3.out]
          exact Out.taken A.out hb1 (by show p + (n + V) ≤ _; omega)
    · have HQ2 : Hid (R = ([], p, 5)) := by show _ = _; rw [HQ.out]; simp [hov]
      have D := HR.out w3 5 hb1 (by decide)
      clear HQ HO hov HR
      go_wp2_with fail
      refine D.mono ?_
      rintro ev w4 ⟨e, rfl, hE, hb3⟩
      obtain ⟨b, rfl, -⟩ := hE.shape
      go_wp2_with fail
      go_ret2
      refine ⟨_, by rw [HQ2.out]; rfl, ?_⟩
      rw [HQ2.out]
      exact Out.refused A.out hb1 hb3 (show 5 ≠ 0 by decide) hE
  · have HQ2 : Hid (R = ([], p, c)) := by show _ = _; rw [HQ.out]; simp [hc]
    have D := HR.out w2 c hb1 hc
    clear HQ HO HR
    go_wp2_with fail
    refine D.mono ?_
    rintro ev w3 ⟨e, rfl, hE, hb3⟩
    obtain ⟨b, rfl, -⟩ := hE.shape
    go_wp2_with fail
    go_ret2
    refine ⟨_, by rw [HQ2.out]; rfl, ?_⟩
    rw [HQ2.out]
    exact Out.refused A.out hb1 hb3 hc hE
end Go.Proofs.YtmopffaocamieaaGreat
