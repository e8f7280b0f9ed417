/-
  WireShort answers true, whatever the thing and the cut.
-/
import Derived.Test.YtkgmjhchefkmaaaWrt
import Derived.Test.YtkgmjhchefkmaaaRdh
import Derived.Test.YtkgmjhchefkmaaaSma
namespace Go.Proofs.Ytkgmjhchefkmaaa
open Go.RowKit

theorem Opv.msg_pos (o : Opv) (ho : o.ok) : 0 < o.msg.length := by
  unfold Opv.msg
  split
  · exact enc_pos _
  · split
    · exact enc_pos _
    · split
      · simp
      · split
        · rw [List.length_append]; have := enc_pos o.s.size; omega
        · have := ho.h32; omega
theorem Opv.msg_le (o : Opv) (ho : o.ok) (hs : o.s.size ≤ 1000000) : o.msg.length ≤ o.s.size + 42 := by
  have h1 := enc_len_10 ho.v1
  have h2 := enc_len_10 (zig_lt ho.n0 ho.n1)
  have h3 := enc_len_10 (v := o.s.size) (by omega)
  have h4 := ho.h32
  unfold Opv.msg
  split
  · omega
  · split
    · omega
    · split
      · simp
      · split
        · rw [List.length_append]; simp; omega
        · omega

theorem tmodL (k L : Int) (hL : 0 < L) : -L < k.tmod L ∧ k.tmod L < L ∧ 0 ≤ (k.tmod L + L) % L ∧ (k.tmod L + L) % L < L := by
  have h3 := Int.emod_nonneg (k.tmod L + L) (show L ≠ 0 by omega)
  have h4 := Int.emod_lt_of_pos (k.tmod L + L) hL
  have h1 := Int.lt_tmod_of_pos k hL
  have h2 := Int.tmod_lt_of_pos k hL
  exact ⟨h1, h2, h3, h4⟩

theorem Try.sz29 : (Try.prog.info? 29).map (·.size) = some 38 := by kernel_rfl
/-- A thing's box, as a row. -/
theorem Try.size29 (o : Opv) (ho : o.ok) : (Try.prog.info? 29).map (·.size) = some o.cells.toArray.size := by
  have : o.cells.toArray.size = 38 := by simp [Opv.cells, bys_len, ho.h32]
  rw [this]; exact Try.sz29

/-- What each reading of a thing's beginning tells: too short, and it stays. -/
def Short (w w' : World) (rb : Nat) (v : Value) (l : List UInt8) (e : Value) : Prop := Er w' e 3 0 ∧ Rd w' rb v l 0 ∧ w.grownBy w' (some rb)
theorem Out.short {w w' : World} {rb : Nat} {v : Value} {l : List UInt8} {q c : Nat} {e : Value} (h : Out w w' rb v l 0 q c e) (hc : c = 3) (hq : q = 0) : Short w w' rb v l e := by
  subst hc hq
  exact ⟨(h.err.resolve_left (by simp)).2, h.rd, h.grown⟩

theorem short_text (s : List UInt8) (n : Nat) (hs : s.length ≤ 200) (hn : n < (enc s.length ++ s).length) : rtext ((enc s.length ++ s).take n) 0 200 = ([], 0, 3) := by
  rw [List.length_append] at hn
  unfold rtext
  rw [List.drop_zero]
  rcases Nat.lt_or_ge n (enc s.length).length with h | h
  · rw [List.take_append_of_le_length (by omega), scan_cut s.length n (by omega) h]; simp
  · have e : (enc s.length ++ s).take n = enc s.length ++ s.take (n - (enc s.length).length) := by rw [List.take_append, List.take_of_length_le h]
    rw [e, scan_of_enc s.length (by omega)]
    have ho : over s.length 200 = false := by simp [over]; omega
    rw [if_neg (by simp), ho, if_neg (by simp), if_pos (by simp; omega)]

theorem short_uint (o : Opv) (n : Nat) (ho : o.ok) (hk : o.sort = 0 ∨ o.sort = 2) (hn : n < o.msg.length) (w : World) (rb : Nat) (v : Value) (h : Rd w rb v (o.msg.take n) 0) :
    Calls Try.prog 19 #[.pointer (some ⟨rb, 0, none⟩)] w fun ev w' => ∃ e x, ev = .returned (.tuple #[x, e]) ∧ Short w w' rb v (o.msg.take n) e := by
  have hm : o.msg = enc o.v := by unfold Opv.msg; rw [if_pos hk]
  have hS : scan 0 0 ((o.msg.take n).drop 0) = (0, 0, 3) := by rw [hm] at hn ⊢; exact scan_cut o.v n ho.v1 hn
  refine (rUint_any w rb v _ 0 h).mono ?_
  rintro ev w' ⟨e, rfl, hO⟩
  rw [hS] at hO
  exact ⟨e, _, rfl, hO.short rfl rfl⟩
theorem short_int (o : Opv) (n : Nat) (ho : o.ok) (hk : o.sort = 1) (hn : n < o.msg.length) (w : World) (rb : Nat) (v : Value) (h : Rd w rb v (o.msg.take n) 0) :
    Calls Try.prog 20 #[.pointer (some ⟨rb, 0, none⟩)] w fun ev w' => ∃ e x, ev = .returned (.tuple #[x, e]) ∧ Short w w' rb v (o.msg.take n) e := by
  have hm : o.msg = enc (zig o.n) := by unfold Opv.msg; rw [if_neg (by omega), if_pos hk]
  have hS : scan 0 0 ((o.msg.take n).drop 0) = (0, 0, 3) := by rw [hm] at hn ⊢; exact scan_cut _ n (zig_lt ho.n0 ho.n1) hn
  refine (rInt_any w rb v _ 0 h).mono ?_
  rintro ev w' ⟨e, rfl, hO⟩
  rw [hS] at hO
  exact ⟨e, _, rfl, hO.short rfl rfl⟩
theorem short_bool (o : Opv) (n : Nat) (hk : o.sort = 3) (hn : n < o.msg.length) (w : World) (rb : Nat) (v : Value) (h : Rd w rb v (o.msg.take n) 0) :
    Calls Try.prog 21 #[.pointer (some ⟨rb, 0, none⟩)] w fun ev w' => ∃ e x, ev = .returned (.tuple #[x, e]) ∧ Short w w' rb v (o.msg.take n) e := by
  have hm : o.msg.length = 1 := by unfold Opv.msg; rw [if_neg (by omega), if_neg (by omega), if_pos hk]; rfl
  have hS : rbool (o.msg.take n) 0 = (false, 0, 3) := by unfold rbool; rw [if_pos (by simp; omega)]
  refine (rBool_any w rb v _ 0 h).mono ?_
  rintro ev w' ⟨e, rfl, hO⟩
  rw [hS] at hO
  exact ⟨e, _, rfl, hO.short rfl rfl⟩
theorem short_text' (o : Opv) (n : Nat) (hk : o.sort = 4) (hs : o.s.size ≤ 200) (hn : n < o.msg.length) (w : World) (rb : Nat) (v : Value) (h : Rd w rb v (o.msg.take n) 0) :
    Calls Try.prog 22 #[.pointer (some ⟨rb, 0, none⟩), .int .i64 200] w fun ev w' => ∃ e x, ev = .returned (.tuple #[x, e]) ∧ Short w w' rb v (o.msg.take n) e := by
  have hm : o.msg = enc o.s.size ++ o.s.data.toList := by unfold Opv.msg; rw [if_neg (by omega), if_neg (by omega), if_neg (by omega), if_pos hk]
  have hsz : o.s.data.toList.length = o.s.size := by simp
  have hS : rtext (o.msg.take n) 0 200 = ([], 0, 3) := by rw [hm, ← hsz] at hn ⊢; exact short_text _ n (by omega) hn
  refine (rText_any w rb v _ 0 200 h (by omega) (by omega)).mono ?_
  rintro ev w' ⟨e, rfl, hO⟩
  rw [hS] at hO
  exact ⟨e, _, rfl, hO.short rfl rfl⟩
theorem short_hash (o : Opv) (n : Nat) (ho : o.ok) (hk : o.sort = 5) (hn : n < o.msg.length) (w : World) (rb : Nat) (v : Value) (h : Rd w rb v (o.msg.take n) 0) :
    Calls Try.prog 23 #[.pointer (some ⟨rb, 0, none⟩)] w fun ev w' => ∃ e x, ev = .returned (.tuple #[x, e]) ∧ Short w w' rb v (o.msg.take n) e := by
  have hm : o.msg = o.h := by unfold Opv.msg; rw [if_neg (by omega), if_neg (by omega), if_neg (by omega), if_neg (by omega)]
  have hS : rhash (o.msg.take n) 0 = (List.replicate 32 0, 0, 3) := by unfold rhash; rw [if_pos (by have := ho.h32; rw [hm] at hn ⊢; simp; omega)]
  refine (rHash_any w rb v _ 0 h).mono ?_
  rintro ev w' ⟨e, rfl, hO⟩
  rw [hS] at hO
  exact ⟨e, _, rfl, hO.short rfl rfl⟩

set_option maxHeartbeats 4000000 in
set_option maxRecDepth 20000 in
theorem short_walk (o : Opv) (cut : Int) (w : World) (ho : o.ok) (hs : o.s.size ≤ 9223372036854775807) :
    Calls Try.prog 7 #[.agg o.cells.toArray, .int .i64 cut] w fun ev w' => ev = .returned (.bool true) ∧ Below w.heap.size w w' := by
  have hA : Below w.heap.size w (w.alloc (.cells o.cells.toArray 29)) := (Below.refl _ _).alloc (Nat.le_refl _) _
  have hzA : (w.alloc (.cells o.cells.toArray 29)).heap.size = w.heap.size + 1 := by simp
  have C1 := newWriter_any (w.alloc (.cells o.cells.toArray 29))
  have hi := Try.size29 o ho
  have k5 : o.cells[5]? = some (.string o.s) := rfl
  have HBX : Hid (∀ w1, Below (w.alloc (.cells o.cells.toArray 29)).heap.size (w.alloc (.cells o.cells.toArray 29)) w1 → w1.heap[w.heap.size]? = some (.cells o.cells.toArray 29 (0, 0))) := fun w1 hb => by
    rw [hb.block w.heap.size (by simp)]; exact heap_alloc_new w _
  by_cases hbig : 200 < o.s.size
  · have q5 := fun w1 hb => (box_cell (HBX.out w1 hb) 5).trans k5
    generalize o.cells = C at *
    go_enter Try.func7, Try.ntmps7
    go_wp2_with fail
    refine C1.mono ?_
    rintro ev w1 ⟨rfl, hW1, hb1⟩
    have c5 := q5 w1 hb1
    clear hW1
    go_wp2_with fail
    refine (tell_any w1).mono ?_
    rintro ev w2 ⟨rfl, hb2⟩
    have hB1 := hA.trans (hb1.mono (by omega))
    have hB := hB1.trans (hb2.mono hB1.size)
    go_wp2_with fail
    go_ret
    exact ⟨rfl, hB⟩
  · have C2 := fun w1 v1 (hW : Wr (w.heap.size + 1) w1 (w.heap.size + 1) v1 []) => write_any (w.heap.size + 1) (w.heap.size + 1) o v1 [] w1 ho (by omega) hW (by simp)
    have hmp := o.msg_pos ho
    have hml := o.msg_le ho (by omega)
    have hSz : (str o.msg).size = o.msg.length := str_size _
    have HSl : Hid ((str o.msg).data.toList = o.msg) := rfl
    have q5 := fun w1 hb => (box_cell (HBX.out w1 hb) 5).trans k5
    obtain ⟨u, hu, u1, u2, u3, u4⟩ : ∃ u, cut.tmod (o.msg.length : Int) = u ∧ -(o.msg.length : Int) < u ∧ u < (o.msg.length : Int) ∧ 0 ≤ (u + (o.msg.length : Int)) % (o.msg.length : Int) ∧ (u + (o.msg.length : Int)) % (o.msg.length : Int) < (o.msg.length : Int) := ⟨_, rfl, tmodL cut _ (by omega)⟩
    obtain ⟨n, hn⟩ := Int.eq_ofNat_of_zero_le u3
    have hnL : n < o.msg.length := by omega
    clear u3 u4
    rw [← hSz] at hmp hml hu u1 u2 hn hnL
    have HSz : Hid ((str o.msg).size = o.msg.length) := hSz
    clear hSz
    have k0 : o.cells[0]? = some (.int .i64 o.kind) := rfl
    generalize o.cells = C at *
    generalize str o.msg = S at *
    go_enter Try.func7, Try.ntmps7
    go_wp2_with fail
    refine C1.mono ?_
    rintro ev w1 ⟨rfl, hW1, hb1⟩
    have c5 := q5 w1 hb1
    have G1 := HBX.out w1 hb1
    rw [hzA] at hW1
    have C3 := C2 w1 _ hW1
    have A1 : Aside (Wr (w.heap.size + 1) w1 (w.heap.size + 1) (.slice none 0 0) []) := hW1
    clear hW1 C1 C2 q5
    go_wp2_with (refine wpList_load_row rfl 29 _ rfl w.heap.size rfl 29 C.toArray (0, 0) _ G1 Try.underlying29 rfl hi ?_)
    refine C3.mono ?_
    rintro ev w2 ⟨rfl, v2, hW2, hm2⟩
    have hb2 := hm2.below A1.out
    have hb12 : Below (w.heap.size + 1) (w.alloc (.cells C.toArray 29)) w2 := (hb1.mono (by omega)).trans hb2
    clear C3 hW2 hm2 hb1 hb2 A1 G1 c5
    have kc := fun (w : World) (s : ByteArray) => run_bytes_of_string (P := Try.prog) w 9 32 5 s Try.underlying9 Try.underlying32 Try.underlying5
    have hex : (S.extract 0 n).size = min n S.size := by simp
    have hexl : (S.extract 0 n).data.toList = o.msg.take n := by rw [← HSl.out]; simp
    have C4 := fun c m => newReader_string w2 (S.extract 0 n) c m (by rw [hex]; omega)
    rw [hexl, hex] at C4
    obtain ⟨t, e1, e2, e3, e4⟩ := o.rem
    have hlt6 := o.sort_lt
    have HK : Hid ((o.sort = 0 ∨ o.sort = 2) ∨ o.sort = 1 ∨ o.sort = 3 ∨ o.sort = 4 ∨ o.sort = 5) := by show _ ∨ _; omega
    have hnm : n < o.msg.length := by rw [← HSz.out]; exact hnL
    have HM : Hid (n < o.msg.length) := hnm
    clear hex hexl hnm HSl HSz
    generalize hT : o.msg.take n = T at *
    go_wp2_with fail
    refine (C4 _ _).mono ?_
    rintro ev w3 ⟨rb, v3, rfl, hR3, hrb, -, hb3⟩
    have hs2 := hb12.size
    have hb13 : Below (w.heap.size + 1) (w.alloc (.cells C.toArray 29)) w3 := hb12.trans (hb3.mono (by omega))
    have c0 := (box_cell (HBX.out w3 (by rw [hzA]; exact hb13)) 0).trans k0
    clear C4 kc hb12 hb3
    rw [← hT] at hR3
    rcases HK.out with hk | hk | hk | hk | hk
    · have D := short_uint o n ho hk HM.out w3 rb v3 hR3
      rw [hT] at D
      have k5 : (t + 6) % 6 = 0 ∨ (t + 6) % 6 = 2 := by omega
      clear hk HM HK hT
      rcases k5 with k5 | k5
      all_goals
        go_wp2_with fail
        refine D.mono ?_
        rintro ev w4 ⟨e, x, rfl, hE, hR4, hg⟩
        obtain ⟨b0, rfl, -⟩ := hE.shape
        have hB4 : Below w.heap.size w w4 := (hA.trans (hb13.mono (by omega))).trans (below_grown hg (by have := hb13.size; omega) (fun k e => by cases e; omega))
        clear D hR3 hg hb13 c0
        go_wp2_with fail
        refine (tell_any w4).mono ?_
        rintro ev w5 ⟨rfl, hb5⟩
        have C6 := is_any w5 _ 3 0 3 0 (.inr (hE.below hb5)) rfl rfl
        have hR5 := hR4.past hb5
        have hB5 := hB4.trans (hb5.mono hB4.size)
        clear hE hR4 hb5 hB4
        go_wp2_with fail
        refine C6.mono ?_
        rintro ev w6 ⟨rfl, hb6⟩
        have C7 := at_any w6 rb v3 _ 0 (hR5.past hb6)
        have hB6 := hB5.trans (hb6.mono hB5.size)
        clear C6 hR5 hb6 hB5
        go_wp2_with fail
        refine C7.mono ?_
        rintro ev w7 ⟨rfl, rfl⟩
        go_wp2_with fail
        go_ret
        exact ⟨rfl, hB6⟩
    · have D := short_int o n ho hk HM.out w3 rb v3 hR3
      rw [hT] at D
      have k5 : (t + 6) % 6 = 1 := by omega
      clear hk HM HK hT
      go_wp2_with fail
      refine D.mono ?_
      rintro ev w4 ⟨e, x, rfl, hE, hR4, hg⟩
      obtain ⟨b0, rfl, -⟩ := hE.shape
      have hB4 : Below w.heap.size w w4 := (hA.trans (hb13.mono (by omega))).trans (below_grown hg (by have := hb13.size; omega) (fun k e => by cases e; omega))
      clear D hR3 hg hb13 c0
      go_wp2_with fail
      refine (tell_any w4).mono ?_
      rintro ev w5 ⟨rfl, hb5⟩
      have C6 := is_any w5 _ 3 0 3 0 (.inr (hE.below hb5)) rfl rfl
      have hR5 := hR4.past hb5
      have hB5 := hB4.trans (hb5.mono hB4.size)
      clear hE hR4 hb5 hB4
      go_wp2_with fail
      refine C6.mono ?_
      rintro ev w6 ⟨rfl, hb6⟩
      have C7 := at_any w6 rb v3 _ 0 (hR5.past hb6)
      have hB6 := hB5.trans (hb6.mono hB5.size)
      clear C6 hR5 hb6 hB5
      go_wp2_with fail
      refine C7.mono ?_
      rintro ev w7 ⟨rfl, rfl⟩
      go_wp2_with fail
      go_ret
      exact ⟨rfl, hB6⟩
    · have D := short_bool o n hk HM.out w3 rb v3 hR3
      rw [hT] at D
      have k5 : (t + 6) % 6 = 3 := by omega
      clear hk HM HK hT
      go_wp2_with fail
      refine D.mono ?_
      rintro ev w4 ⟨e, x, rfl, hE, hR4, hg⟩
      obtain ⟨b0, rfl, -⟩ := hE.shape
      have hB4 : Below w.heap.size w w4 := (hA.trans (hb13.mono (by omega))).trans (below_grown hg (by have := hb13.size; omega) (fun k e => by cases e; omega))
      clear D hR3 hg hb13 c0
      go_wp2_with fail
      refine (tell_any w4).mono ?_
      rintro ev w5 ⟨rfl, hb5⟩
      have C6 := is_any w5 _ 3 0 3 0 (.inr (hE.below hb5)) rfl rfl
      have hR5 := hR4.past hb5
      have hB5 := hB4.trans (hb5.mono hB4.size)
      clear hE hR4 hb5 hB4
      go_wp2_with fail
      refine C6.mono ?_
      rintro ev w6 ⟨rfl, hb6⟩
      have C7 := at_any w6 rb v3 _ 0 (hR5.past hb6)
      have hB6 := hB5.trans (hb6.mono hB5.size)
      clear C6 hR5 hb6 hB5
      go_wp2_with fail
      refine C7.mono ?_
      rintro ev w7 ⟨rfl, rfl⟩
      go_wp2_with fail
      go_ret
      exact ⟨rfl, hB6⟩
    · have D := short_text' o n hk (by omega) HM.out w3 rb v3 hR3
      rw [hT] at D
      have k5 : (t + 6) % 6 = 4 := by omega
      clear hk HM HK hT
      go_wp2_with fail
      refine D.mono ?_
      rintro ev w4 ⟨e, x, rfl, hE, hR4, hg⟩
      obtain ⟨b0, rfl, -⟩ := hE.shape
      have hB4 : Below w.heap.size w w4 := (hA.trans (hb13.mono (by omega))).trans (below_grown hg (by have := hb13.size; omega) (fun k e => by cases e; omega))
      clear D hR3 hg hb13 c0
      go_wp2_with fail
      refine (tell_any w4).mono ?_
      rintro ev w5 ⟨rfl, hb5⟩
      have C6 := is_any w5 _ 3 0 3 0 (.inr (hE.below hb5)) rfl rfl
      have hR5 := hR4.past hb5
      have hB5 := hB4.trans (hb5.mono hB4.size)
      clear hE hR4 hb5 hB4
      go_wp2_with fail
      refine C6.mono ?_
      rintro ev w6 ⟨rfl, hb6⟩
      have C7 := at_any w6 rb v3 _ 0 (hR5.past hb6)
      have hB6 := hB5.trans (hb6.mono hB5.size)
      clear C6 hR5 hb6 hB5
      go_wp2_with fail
      refine C7.mono ?_
      rintro ev w7 ⟨rfl, rfl⟩
      go_wp2_with fail
      go_ret
      exact ⟨rfl, hB6⟩
    · have D := short_hash o n ho hk HM.out w3 rb v3 hR3
      rw [hT] at D
      have k5 : (t + 6) % 6 = 5 := by omega
      clear hk HM HK hT
      go_wp2_with fail
      refine D.mono ?_
      rintro ev w4 ⟨e, x, rfl, hE, hR4, hg⟩
      obtain ⟨b0, rfl, -⟩ := hE.shape
      have hB4 : Below w.heap.size w w4 := (hA.trans (hb13.mono (by omega))).trans (below_grown hg (by have := hb13.size; omega) (fun k e => by cases e; omega))
      clear D hR3 hg hb13 c0
      go_wp2_with fail
      refine (tell_any w4).mono ?_
      rintro ev w5 ⟨rfl, hb5⟩
      have C6 := is_any w5 _ 3 0 3 0 (.inr (hE.below hb5)) rfl rfl
      have hR5 := hR4.past hb5
      have hB5 := hB4.trans (hb5.mono hB4.size)
      clear hE hR4 hb5 hB4
      go_wp2_with fail
      refine C6.mono ?_
      rintro ev w6 ⟨rfl, hb6⟩
      have C7 := at_any w6 rb v3 _ 0 (hR5.past hb6)
      have hB6 := hB5.trans (hb6.mono hB5.size)
      clear C6 hR5 hb6 hB5
      go_wp2_with fail
      refine C7.mono ?_
      rintro ev w7 ⟨rfl, rfl⟩
      go_wp2_with fail
      go_ret
      exact ⟨rfl, hB6⟩
end Go.Proofs.Ytkgmjhchefkmaaa
