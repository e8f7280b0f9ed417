/-
  Lex: the program's.
-/
import Derived.Test.YtdnjcajbmibjiaaDoorTkn
namespace Go.Proofs.YtdnjcajbmibjiaaDoor
open Go.RowKit

/-- What Lex hands back. -/
def LexOut (w : World) (v e : Value) (r : List Tok × Option Nat) : Prop :=
  (∃ T, r = (T, none) ∧ e = .nilIface ∧ Ts w v T) ∨ (∃ T p, r = (T, some p) ∧ v = .slice none 0 0 ∧ Er w e 20 p)

/-- Where Lex's loop stands. -/
structure LRel (l : List UInt8) (w : World) (p : Nat) (T : List Tok) (v : Value) (wr : World) : Prop where
  le : p ≤ l.length
  few : T.length ≤ p
  eq : lexF l = (T ++ (lxr (l.length - p + 1) p (l.drop p)).1, (lxr (l.length - p + 1) p (l.drop p)).2)
  own : wr.ownsRow w.heap.size 29 3 v T.length (tvs T)
  below : Below w.heap.size w wr
theorem LRel.start (l : List UInt8) (w : World) : LRel l w (skp false l) [] (.slice none 0 0) w :=
  ⟨skp_le _ _, by simp, by rw [lexF_start]; simp, ⟨rfl, .inl ⟨rfl, rfl⟩⟩, Below.refl _ _⟩
theorem LRel.next {l : List UInt8} {w wr : World} {p : Nat} {T : List Tok} {v : Value} (h : LRel l w p T v wr) {k n : Nat} (hp : p < l.length) (ht : tokF (l.drop p) = some (k, n)) {v' : Value} {w' : World}
    (ho : w'.ownsRow w.heap.size 29 3 v' (T ++ [(⟨k, textOf k ((l.drop p).take n), p⟩ : Tok)]).length (tvs (T ++ [(⟨k, textOf k ((l.drop p).take n), p⟩ : Tok)]))) (hb : Below w.heap.size w w') :
    LRel l w (p + n + skp false (l.drop (p + n))) (T ++ [(⟨k, textOf k ((l.drop p).take n), p⟩ : Tok)]) v' w' := by
  have hn := tokF_le ht
  rw [List.length_drop] at hn
  have hs := skp_le false (l.drop (p + n))
  rw [List.length_drop] at hs
  refine ⟨by omega, ?_, ?_, ho, hb⟩
  · have := h.few
    simp; omega
  · rw [h.eq, lxr_step l p k n hp ht]
    simp

set_option maxHeartbeats 8000000 in
set_option maxRecDepth 20000 in
theorem lex_any (l : List UInt8) (hl : l.length ≤ 1048576) (w : World) (hg : Glob w) :
    Calls Tryd.prog 10 #[.string (str l)] w fun ev w' => ∃ v e, ev = .returned (.tuple #[v, e]) ∧ LexOut w' v e (lexF l) ∧ Below w.heap.size w w' := by
  have B0 := behind_any l 0 (by omega) (by omega) w
  rw [List.drop_zero, Nat.zero_add] at B0
  have HB : Hid (∀ p : Nat, p ≤ l.length → ∀ y, Calls Tryd.prog 20 #[.string (str l), .int .i64 (p : Int)] y fun ev w' => ev = .returned (.int .i64 ((p + skp false (l.drop p) : Nat) : Int)) ∧ w' = y) := fun p hp y => behind_any l p hp (by omega) y
  have HF : Hid (∀ p : Nat, p < l.length → ∀ y, Glob y → Calls Tryd.prog 21 #[.string (str (l.drop p))] y fun ev w' => ∃ k n : Nat, ev = .returned (.tuple #[.int .i64 (k : Int), .int .i64 (n : Int)]) ∧ Fst (l.drop p) k n ∧ Below y.heap.size y w') := by
    intro p hp y hy
    rw [drop_cons l p hp]
    exact first_any _ _ (by rw [← drop_cons l p hp, List.length_drop]; omega) y hy
  have HE : Hid (∀ k : Nat, (str l).extract k l.length = str (l.drop k)) := fun k => str_from l k
  have HM : Hid (∀ a b : Nat, (str l).extract a (a + b) = str ((l.drop a).take b)) := fun a b => by rw [str_mid]; congr 3; omega
  have HI : Hid (LRel l w (skp false l) [] (.slice none 0 0) w) := LRel.start l w
  have HG : Hid (Glob w) := hg
  have hsz := str_size l
  have h20 : ¬ (1048576 : Int) < (l.length : Int) := by omega
  clear hg
  generalize str l = S at *
  generalize skp false l = p0 at *
  go_enter Tryd.func10, Tryd.ntmps10
  go_wp2_with fail
  refine B0.mono ?_
  rintro ev w2 ⟨rfl, hw2⟩
  replace hw2 := hw2.symm
  subst hw2
  clear B0
  go_wp2_with fail
  go_loopw [4, 5] (fun v i wr => ∃ p : Nat, ∃ T : List Tok, i = .int .i64 (p : Int) ∧ LRel l w p T v wr) (fun _ i _ => l.length - (intOf i).toNat)
  case atStart => exact ⟨p0, [], rfl, HI.out⟩
  case round =>
    obtain ⟨p, T, rfl, hR⟩ := hrel
    clear HI
    have hpl := hR.le
    have HR : Hid (LRel l w p T _ wr) := hR
    by_cases h3 : p < l.length
    · have F := HF.out p h3 wr (HG.out.below hR.below)
      have hE := HE.out p
      have h3' : (p : Int) < (l.length : Int) := by omega
      clear hR
      generalize str (l.drop p) = S1 at *
      go_wp2_with fail
      refine F.mono ?_
      rintro ev w2 ⟨k, n, rfl, hf, hb2⟩
      clear F hE
      rcases hf with ht | ⟨ht, rfl⟩
      · have hn := tokF_le ht
        rw [List.length_drop] at hn
        have hM := HM.out p n
        have TK := token_any k p ((l.drop p).take n) (by rw [List.length_take, List.length_drop]; omega) (by rw [List.length_take, List.length_drop]; omega) w2
        have n0 : (n : Int) ≠ 0 := by omega
        have BB := fun y => HB.out (p + n) (by omega) y
        have HN : Hid (∀ v' w', w'.ownsRow w.heap.size 29 3 v' (T ++ [(⟨k, textOf k ((l.drop p).take n), p⟩ : Tok)]).length (tvs (T ++ [(⟨k, textOf k ((l.drop p).take n), p⟩ : Tok)])) → Below w.heap.size w w' → LRel l w (p + n + skp false (l.drop (p + n))) (T ++ [(⟨k, textOf k ((l.drop p).take n), p⟩ : Tok)]) v' w') := fun v' w' a b => HR.out.next h3 ht a b
        have HS : Hid (p < p + n + skp false (l.drop (p + n)) ∧ p + n + skp false (l.drop (p + n)) ≤ l.length) := by
          have hs := skp_le false (l.drop (p + n))
          rw [List.length_drop] at hs
          show _ ∧ _
          omega
        have HW2 : Hid (Below wr.heap.size wr w2) := hb2
        have hpn : ((p + n : Nat) : Int) = (p : Int) + (n : Int) := by omega
        rw [hpn] at BB
        clear ht hb2
        obtain ⟨X, hX⟩ : ∃ X : Tok, X = ⟨k, textOf k ((l.drop p).take n), p⟩ := ⟨_, rfl⟩
        rw [← hX] at HN TK
        clear hX
        generalize str ((l.drop p).take n) = S2 at *
        go_wp2_with fail
        refine TK.mono ?_
        rintro ev w3 ⟨rfl, hb3⟩
        have O3 : (w3.alloc (.cells X.cells.toArray 29)).ownsRow w.heap.size 29 3 _ T.length (tvs T) := own_past' HR.out.own ((nextB HW2.out hb3).alloc (nextB HW2.out hb3).size _)
        have HB3 : Hid (Below w.heap.size w (w3.alloc (.cells X.cells.toArray 29))) := (HR.out.below.trans ((nextB HW2.out hb3).mono HR.out.below.size)).alloc (Nat.le_trans HR.out.below.size (nextB HW2.out hb3).size) _
        have hBs := HB3.out.size
        have hRg : (w3.alloc (.cells X.cells.toArray 29)).rangeAt w3.heap.size 0 X.cells := (Row.new w3 29 X.cells).range
        have hfew : T.length ≤ 10000000 := by have := HR.out.few; omega
        clear TK hb3
        go_wp2_with (first | (refine build29 rfl _ rfl X rfl ?_) | (refine app29 rfl _ _ rfl rfl O3 hBs w3.heap.size 1 X rfl hRg hfew ?_; intro v' w4 hown4 hb4))
        have HB4 : Hid (Below w.heap.size w w4) := HB3.out.trans hb4
        have HO4 : Hid _ := HN.out v' w4 hown4 HB4.out
        clear O3 hRg hb4 hown4 HB3 HN
        refine (BB _).mono ?_
        rintro ev w5 ⟨rfl, hw5⟩
        replace hw5 := hw5.symm
        subst hw5
        generalize p + n + skp false (l.drop (p + n)) = q at *
        go_wp2_with fail
        go_roundw
        case rel => exact ⟨q, _, rfl, HO4.out⟩
        case measure => have := HS.out; simp [intOf]; omega
      · have C := new_any w2 20 p (by omega)
        have HP : Hid ((lexF l).2 = some p) := by
          have := HR.out.eq
          rw [drop_cons l p h3] at this ht
          rw [lxr_none _ _ _ _ ht] at this
          show _ = _
          rw [this]
        have HB2 : Hid (Below w.heap.size w w2) := HR.out.below.trans (hb2.mono HR.out.below.size)
        clear ht hb2 HR
        go_wp2_with fail
        refine C.mono ?_
        rintro ev w3 ⟨e, rfl, hE, hb3⟩
        obtain ⟨b0, rfl, -⟩ := hE.shape
        clear C
        go_wp2_with fail
        go_ret2
        exact ⟨_, _, rfl, .inr ⟨(lexF l).1, p, by rw [← HP.out], rfl, hE⟩, HB2.out.trans (hb3.mono HB2.out.size)⟩
    · obtain rfl : p = l.length := by omega
      have HP : Hid (lexF l = (T ++ [endTok l.length], none)) := by
        have := hR.eq
        simp only [List.drop_length, lxr] at this
        exact this
      have O3 : (wr.alloc (.cells (endTok l.length).cells.toArray 29)).ownsRow w.heap.size 29 3 _ T.length (tvs T) := own_past' hR.own ((Below.refl _ _).alloc (Nat.le_refl _) _)
      have HB3 : Hid (Below w.heap.size w (wr.alloc (.cells (endTok l.length).cells.toArray 29))) := hR.below.alloc hR.below.size _
      have hBs := HB3.out.size
      have hRg : (wr.alloc (.cells (endTok l.length).cells.toArray 29)).rangeAt wr.heap.size 0 (endTok l.length).cells := (Row.new wr 29 _).range
      have hfew : T.length ≤ 10000000 := by have := hR.few; omega
      clear hR HR HB HF HM HE
      go_wp2_with (first | (refine build29 rfl _ rfl (endTok l.length) rfl ?_) | (refine app29 rfl _ _ rfl rfl O3 hBs wr.heap.size 1 (endTok l.length) rfl hRg hfew ?_; intro v' w4 hown4 hb4))
      go_ret2
      exact ⟨_, _, rfl, .inl ⟨_, HP.out, rfl, Ts.ofOwn hown4⟩, HB3.out.trans hb4⟩
end Go.Proofs.YtdnjcajbmibjiaaDoor
