/-
  told: what the document says of a few; texts that are too long.
-/
import Derived.Test.YtdnjcajbmibjiaaDoorLex
namespace Go.Proofs.YtdnjcajbmibjiaaDoor
open Go.RowKit

set_option maxRecDepth 100000 in
theorem known_one : lexF [120, 58, 58, 121, 32, 39, 97, 32, 45, 62, 32, 49] = ([⟨1, [120], 0⟩, ⟨5, [58, 58], 1⟩, ⟨1, [121], 3⟩, ⟨3, [97], 5⟩, ⟨5, [45, 62], 8⟩, ⟨4, [49], 11⟩, ⟨0, [], 12⟩], none) := by rfl
set_option maxRecDepth 100000 in
theorem known_two : lexF [32, 48, 49] = ([], some 1) := by rfl

theorem Ts.cellAt {w : World} {b cap n : Nat} {T : List Tok} (h : Ts w (.slice (some ⟨b, 0, none⟩) n cap) T) (i c : Nat) (v : Value) (hv : (tvs T)[i * 3 + c]? = some v) : w.cell? ⟨b, i * 3 + c, none⟩ = some v := by
  rcases h.shape with ⟨cap, e, -⟩ | ⟨b', cap', e, -, hr⟩
  · cases e
  · cases e
    have := hr (i * 3 + c) v hv
    rwa [Nat.zero_add] at this
theorem Ts.tokAt {w : World} {b cap n : Nat} {T : List Tok} (h : Ts w (.slice (some ⟨b, 0, none⟩) n cap) T) (i : Nat) (t : Tok) (ht : T[i]? = some t) : w.rangeAt b (i * 3) t.cells := fun j u hj => by
  have hj3 : j < 3 := by
    rcases Nat.lt_or_ge j 3 with h' | h'
    · exact h'
    · rw [List.getElem?_eq_none (by show 3 ≤ j; omega)] at hj; cases hj
  exact h.cellAt i j u (by rw [tvs_get T i j hj3, ht]; exact hj)
theorem Ts.some_ {w : World} {v : Value} {T : List Tok} (h : Ts w v T) (h0 : 1 ≤ T.length) : ∃ b cap, v = .slice (some ⟨b, 0, none⟩) T.length cap ∧ T.length ≤ cap := by
  rcases h.shape with ⟨cap, _, rfl⟩ | ⟨b', cap', e, h1, hr⟩
  · simp at h0
  · exact ⟨b', cap', e, h1⟩

theorem load29g {ops : Array Oper} {rest : List Oper} {o : Oper} {a : Act} {w : World} {Q : Exit → Act → World → Prop} (hgd : Region.wanted o (yielded ops a.tmps) = true) (x : Operand) (ho : o.op = .load 29 x) (b off : Nat) (k p : Int) (s : ByteArray) (hx : a.eval x = .pointer (some ⟨b, off, none⟩)) (hr : w.rangeAt b off [.int .i64 k, .string s, .int .i64 p])
    (h : wpList Tryd.prog ops Q rest (a.put o.dst (.agg #[.int .i64 k, .string s, .int .i64 p])) w) : wpList Tryd.prog ops Q (o :: rest) a w :=
  wpList_step fun K hK => by
    rw [if_pos hgd]
    exact wp_load_mid 29 x ho b off hx [.int .i64 k, .string s, .int .i64 p] _ hr Tryd.underlying29 rfl Tryd.info29 (hK _ _ h)
theorem Tryd.fields29 : Tryd.prog.underlying 29 = some (.struct (Tryd.prog.fieldsOf 29)) := by kernel_rfl
/-- A token is itself. -/
theorem eq29 (y : World) (k p : Int) (s : ByteArray) : (Op.equalIn 10000 29 (.agg #[.int .i64 k, .string s, .int .i64 p]) (.agg #[.int .i64 k, .string s, .int .i64 p])).run Tryd.prog y = .ok true y := by
  rw [run_equalIn_struct y 9999 29 _ _ Tryd.fields29 (by kernel_rfl)]
  simp [Program.fieldsOf, Tryd.underlying29, Op.eqFields, go_sem]

set_option maxHeartbeats 4000000 in
/-- A text of more bytes than may be. -/
theorem lex_long (l : List UInt8) (hl : 1048576 < l.length) (w : World) :
    Calls Tryd.prog 10 #[.string (str l)] w fun ev w' => ∃ e, ev = .returned (.tuple #[.slice none 0 0, e]) ∧ Er w' e 5 0 ∧ Below w.heap.size w w' := by
  have C := new_any w 5 0 (by omega)
  have hsz := str_size l
  have h20 : (1048576 : Int) < (l.length : Int) := by omega
  generalize str l = S at *
  generalize l.length = n at *
  go_enter Tryd.func10, Tryd.ntmps10
  go_wp2_with fail
  refine C.mono ?_
  rintro ev w3 ⟨e, rfl, hE, hb3⟩
  obtain ⟨b0, rfl, -⟩ := hE.shape
  clear C
  go_wp2_with fail
  go_ret2
  exact ⟨_, rfl, hE, hb3⟩

/-- A text whose tokens are known. -/
theorem lex_toks (l : List UInt8) (hl : l.length ≤ 1048576) (T : List Tok) (hT : lexF l = (T, none)) (h1 : 1 ≤ T.length) (w : World) (hg : Glob w) :
    Calls Tryd.prog 10 #[.string (str l)] w fun ev w' => ∃ b cap, ev = .returned (.tuple #[.slice (some ⟨b, 0, none⟩) T.length cap, .nilIface]) ∧ Ts w' (.slice (some ⟨b, 0, none⟩) T.length cap) T ∧ T.length ≤ cap ∧ Below w.heap.size w w' := by
  refine (lex_any l hl w hg).mono ?_
  rintro ev w' ⟨v, e, rfl, ho, hb⟩
  rcases ho with ⟨T', e1, rfl, hs⟩ | ⟨T', p, e1, _⟩
  · rw [hT] at e1
    injection e1 with e1 _
    subst e1
    obtain ⟨b, cap, rfl, hc⟩ := hs.some_ h1
    exact ⟨b, cap, rfl, hs, hc, hb⟩
  · rw [hT] at e1
    injection e1 with _ e1
    cases e1
/-- A text that is wrong at a place. -/
theorem lex_bad (l : List UInt8) (hl : l.length ≤ 1048576) (p : Nat) (hT : (lexF l).2 = some p) (w : World) (hg : Glob w) :
    Calls Tryd.prog 10 #[.string (str l)] w fun ev w' => ∃ e, ev = .returned (.tuple #[.slice none 0 0, e]) ∧ Er w' e 20 p ∧ Below w.heap.size w w' := by
  refine (lex_any l hl w hg).mono ?_
  rintro ev w' ⟨v, e, rfl, ho, hb⟩
  rcases ho with ⟨T', e1, _⟩ | ⟨T', q, e1, rfl, he⟩
  · rw [e1] at hT; cases hT
  · rw [e1] at hT
    injection hT with hT
    subst hT
    exact ⟨e, rfl, he, hb⟩

set_option maxHeartbeats 8000000 in
set_option maxRecDepth 20000 in
theorem told_any (w : World) (hg : Glob w) : Calls Tryd.prog 11 #[] w fun ev w' => ev = .returned (.bool true) ∧ Below w.heap.size w w' := by
  have C1 := lex_toks _ (by decide) _ known_one (by decide) w hg
  have C2 : Hid (∀ y, Below w.heap.size w y → Calls Tryd.prog 10 #[.string ⟨#[32, 48, 49]⟩] y fun ev w' => ∃ e, ev = .returned (.tuple #[.slice none 0 0, e]) ∧ Er w' e 20 1 ∧ Below y.heap.size y w') := fun y hy => lex_bad [32, 48, 49] (by decide) 1 (by rw [known_two]) y (hg.below hy)
  have C3 : Hid (∀ y e, Er y e 20 1 → Calls Tryd.prog 16 #[e, .int .i64 20, .int .i64 1] y fun ev w' => ev = .returned (.bool true) ∧ Below y.heap.size y w') := fun y e h => is_any y e 20 1 20 1 (.inr h) rfl rfl
  have C4 : Hid (∀ y, Calls Tryd.prog 12 #[.string ⟨#[102, 110]⟩] y fun ev w' => ev = .returned (.bool true) ∧ w' = y) := fun y => word_any [102, 110] y
  have C5 : Hid (∀ y, Calls Tryd.prog 13 #[.string ⟨#[102, 110]⟩] y fun ev w' => ev = .returned (.bool false) ∧ w' = y) := fun y => name_any [102, 110] (by decide) y
  have C6 : Hid (∀ y, Calls Tryd.prog 13 #[.string ⟨#[102, 110, 120]⟩] y fun ev w' => ev = .returned (.bool true) ∧ w' = y) := fun y => name_any [102, 110, 120] (by decide) y
  have he := eq29
  unfold str at C1
  clear hg
  go_enter Tryd.func11, Tryd.ntmps11
  go_wp2_with fail
  refine C1.mono ?_
  rintro ev w1 ⟨b, cap, rfl, hT, hcap, hb1⟩
  clear C1
  go_wp2_with fail
  refine (C2.out _ hb1).mono ?_
  rintro ev w2 ⟨e, rfl, hE, hb2⟩
  obtain ⟨b0, rfl, -⟩ := id hE.shape
  have hT2 := hT.below hb2
  have q1 : w2.cell? ⟨b, 4, none⟩ = some (.string ⟨#[58, 58]⟩) := hT2.cellAt 1 1 _ rfl
  have q3 : w2.rangeAt b 9 [.int .i64 3, .string ⟨#[97]⟩, .int .i64 5] := hT2.tokAt 3 ⟨3, [97], 5⟩ rfl
  have q6 : w2.rangeAt b 18 [.int .i64 0, .string ⟨#[]⟩, .int .i64 12] := hT2.tokAt 6 ⟨0, [], 12⟩ rfl
  have hcap7 : 7 ≤ cap := hcap
  clear hT hT2 hcap C2
  go_wp2_with (first
    | (refine load29g (by rfl) _ rfl b 9 _ _ _ rfl q3 ?_)
    | (refine load29g (by rfl) _ rfl b 18 _ _ _ rfl q6 ?_)
    | (go_at_call 16; refine (C3.out _ _ hE).mono ?_; rintro ev w3 ⟨rfl, hb3⟩)
    | (go_at_call 12; refine (C4.out _).mono ?_; rintro ev w4 ⟨rfl, hw⟩; replace hw := hw.symm; subst hw))
  refine (C5.out _).mono ?_
  rintro ev w4 ⟨rfl, hw⟩
  replace hw := hw.symm
  subst hw
  go_wp2_with fail
  refine (C6.out _).mono ?_
  rintro ev w4 ⟨rfl, hw⟩
  replace hw := hw.symm
  subst hw
  go_wp2_with fail
  go_ret
  exact ⟨rfl, nextB (nextB hb1 hb2) hb3⟩
end Go.Proofs.YtdnjcajbmibjiaaDoor
