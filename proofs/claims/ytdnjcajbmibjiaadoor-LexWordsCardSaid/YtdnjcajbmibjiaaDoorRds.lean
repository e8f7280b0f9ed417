/-
  LexReads.
-/
import Derived.Test.YtdnjcajbmibjiaaDoorXlx
namespace Go.Proofs.YtdnjcajbmibjiaaDoor
open Go.RowKit

theorem lxr_len : ∀ (f p : Nat) (l : List UInt8), (lxr f p l).1.length ≤ l.length + 1
  | 0, _, _ => by simp [lxr]
  | f + 1, p, [] => by simp [lxr]
  | f + 1, p, c :: t => by
    cases h : tokF (c :: t) with
    | none => rw [lxr_none _ _ _ _ h]; simp
    | some kn =>
      obtain ⟨k, n⟩ := kn
      rw [lxr_cons _ _ _ _ _ _ h]
      have hn := tokF_le h
      have := lxr_len f (p + n + skp false ((c :: t).drop n)) (((c :: t).drop n).drop (skp false ((c :: t).drop n)))
      simp only [lxs, List.length_cons, List.length_drop] at *
      omega
theorem lex_len (l : List UInt8) : (lexF l).1.length ≤ l.length + 1 := by
  rw [lexF_start]
  have := lxr_len (l.length - skp false l + 1) (skp false l) (l.drop (skp false l))
  rw [List.length_drop] at this
  omega
set_option maxHeartbeats 4000000 in
theorem reads_walk (l : List UInt8) (hl : l.length ≤ 9223372036854775807) (w : World) (hg : Glob w) : Calls Tryd.prog 4 #[.string (str l)] w fun ev w' => ev = .returned (.bool true) ∧ Below w.heap.size w w' := by
  have hsz := str_size l
  have CT : Hid (∀ y, Below w.heap.size w y → Calls Tryd.prog 11 #[] y fun ev w' => ev = .returned (.bool true) ∧ Below y.heap.size y w') := fun y hy => told_any y (hg.below hy)
  by_cases h : 3000 < l.length
  · have h' : (3000 : Int) < (l.length : Int) := by omega
    clear hg
    generalize str l = S at *
    generalize l.length = n at *
    go_enter Tryd.func4, Tryd.ntmps4
    go_wp2_with fail
    refine (CT.out _ (Below.refl _ _)).mono ?_
    rintro ev w1 ⟨rfl, hb1⟩
    go_wp2_with fail
    go_ret
    exact ⟨rfl, hb1⟩
  · have h' : ¬ (3000 : Int) < (l.length : Int) := by omega
    have L := lex_any l (by omega) w hg
    have X : Hid (∀ y, Calls Tryd.prog 14 #[.string (str l)] y fun ev w' => ∃ v c p, ev = .returned (.tuple #[v, .int .i64 c, .int .i64 p]) ∧ XLexOut w' v c p (lexF l) ∧ Below y.heap.size y w') := fun y => xlex_any l (by omega) y
    have hlen := lex_len l
    clear hg
    cases hx : lexF l with
    | mk T o =>
      rw [hx] at L X hlen
      replace hlen : T.length ≤ l.length + 1 := hlen
      cases o with
      | none =>
        clear hx
        generalize str l = S at *
        generalize l.length = n at *
        go_enter Tryd.func4, Tryd.ntmps4
        go_wp2_with fail
        refine L.mono ?_
        rintro ev w1 ⟨v, e, rfl, ho, hb1⟩
        rcases ho with ⟨T', e1, rfl, hs⟩ | ⟨T', p, e1, _⟩
        · obtain rfl : T = T' := by injection e1
          obtain ⟨a1, c1, rfl⟩ := hs.slice
          clear L e1
          go_wp2_with fail
          refine (X.out _).mono ?_
          rintro ev w2 ⟨u, c, q, rfl, ho2, hb2⟩
          rcases ho2 with ⟨T', e2, rfl, rfl, hs2⟩ | ⟨T', p, e2, _⟩
          · obtain rfl : T = T' := by injection e2
            obtain ⟨a2, c2, rfl⟩ := hs2.slice
            clear X e2
            have hB2 : Hid (Below w.heap.size w w2) := nextB hb1 hb2
            go_wp2_with fail
            refine (CT.out _ hB2.out).mono ?_
            rintro ev w3 ⟨rfl, hb3⟩
            have SM : Calls Tryd.prog 15 #[.slice a1 T.length c1, .slice a2 T.length c2] w3 fun ev w' => ev = .returned (.bool true) ∧ Below w3.heap.size w3 w' := same_yes w3 _ _ T ((hs.below hb2).below hb3) (hs2.below hb3) (by omega)
            have IS : Hid (∀ y, Calls Tryd.prog 16 #[.nilIface, .int .i64 0, .int .i64 0] y fun ev w' => ev = .returned (.bool true) ∧ Below y.heap.size y w') := fun y => is_any y _ 0 0 0 0 (.inl ⟨rfl, rfl, rfl⟩) rfl rfl
            have hB3 : Hid (Below w.heap.size w w3) := nextB hB2.out hb3
            clear hs hs2 hb1 hb2 hb3 CT
            go_wp2_with fail
            refine SM.mono ?_
            rintro ev w4 ⟨rfl, hb4⟩
            have hB4 : Hid (Below w.heap.size w w4) := nextB hB3.out hb4
            clear SM hb4
            go_wp2_with fail
            refine (IS.out _).mono ?_
            rintro ev w5 ⟨rfl, hb5⟩
            go_wp2_with fail
            go_ret
            exact ⟨rfl, nextB hB4.out hb5⟩
          · cases e2
        · cases e1
      | some p =>
        clear hx
        generalize str l = S at *
        generalize l.length = n at *
        go_enter Tryd.func4, Tryd.ntmps4
        go_wp2_with fail
        refine L.mono ?_
        rintro ev w1 ⟨v, e, rfl, ho, hb1⟩
        rcases ho with ⟨T', e1, _⟩ | ⟨T', p', e1, rfl, hE⟩
        · cases e1
        · obtain rfl : p = p' := by injection e1 with _ e1; injection e1
          obtain ⟨b0, rfl, -⟩ := id hE.shape
          clear L e1
          go_wp2_with fail
          refine (X.out _).mono ?_
          rintro ev w2 ⟨u, c, q, rfl, ho2, hb2⟩
          rcases ho2 with ⟨T', e2, _⟩ | ⟨T', p', e2, rfl, rfl, rfl⟩
          · cases e2
          · obtain rfl : p = p' := by injection e2 with _ e2; injection e2
            clear X e2
            have hB2 : Hid (Below w.heap.size w w2) := nextB hb1 hb2
            go_wp2_with fail
            refine (CT.out _ hB2.out).mono ?_
            rintro ev w3 ⟨rfl, hb3⟩
            have SM : Calls Tryd.prog 15 #[.slice none 0 0, .slice none 0 0] w3 fun ev w' => ev = .returned (.bool true) ∧ Below w3.heap.size w3 w' := same_yes w3 _ _ [] ⟨.inl ⟨0, rfl, rfl⟩⟩ ⟨.inl ⟨0, rfl, rfl⟩⟩ (by simp)
            have hE3 := (hE.below hb2).below hb3
            have hB3 : Hid (Below w.heap.size w w3) := nextB hB2.out hb3
            clear hE hb1 hb2 hb3 CT
            go_wp2_with fail
            refine SM.mono ?_
            rintro ev w4 ⟨rfl, hb4⟩
            have IS := is_any w4 _ 20 p 20 (p : Int) (.inr (hE3.below hb4)) rfl rfl
            have hB4 : Hid (Below w.heap.size w w4) := nextB hB3.out hb4
            clear SM hb4 hE3
            go_wp2_with fail
            refine IS.mono ?_
            rintro ev w5 ⟨rfl, hb5⟩
            go_wp2_with fail
            go_ret
            exact ⟨rfl, nextB hB4.out hb5⟩
end Go.Proofs.YtdnjcajbmibjiaaDoor
