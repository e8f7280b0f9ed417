/-
  textsBy.
-/
import Derived.Test.YtfkibbpekngciaaJoinTcl2xPr
import Derived.Test.YtfkibbpekngciaaQPrR12
namespace Go.Proofs.Ytfkibbpekngciaa
open Go.RowKit

set_option maxHeartbeats 4000000 in
theorem texts_no1 (w : World) (bv pv : Value) (i n : Int) (hi : ¬ (0 ≤ i ∧ i < n)) :
    Calls Try.prog 49 #[fn25, bv, .agg #[.int .i64 i, .int .i64 n, pv]] w fun ev w' => ev = .returned (.tuple #[.slice none 0 0, .bool false]) ∧ Below w.heap.size w w' := by
  have HP : Hid (∀ y, Calls Try.prog 44 #[.int .i64 i, .int .i64 n] y fun ev w' => ev = .returned (.bool false) ∧ w' = y) := fun y => place_no y i n hi
  clear hi
  unfold fn25
  go_enter Try.func49, Try.ntmps49
  go_wp2_with (go_at_call 44; refine (HP.out _).mono ?_; rintro ev w1 ⟨rfl, rfl⟩)
  go_ret2
  exact ⟨rfl, (Below.refl _ _).alloc (Nat.le_refl _) _⟩

theorem lefts_sides (i n : Nat) : (sidesOf (i : Int) (downs i 0 n)).reverse = lefts i n := by
  unfold sidesOf lefts
  rw [List.map_reverse]
  congr 1
  apply List.map_congr_left
  intro p _
  simp
set_option maxHeartbeats 4000000 in
set_option maxRecDepth 20000 in
theorem texts_no2 (w : World) (bv pv : Value) (i n : Nat) (P : List Bys) (hi : i < n) (hn : n ≤ 9223372036854775807) (hP : Hs w pv P) (hne : (lefts i n).length ≠ P.length) :
    Calls Try.prog 49 #[fn25, bv, .agg #[.int .i64 (i : Int), .int .i64 (n : Int), pv]] w fun ev w' => ev = .returned (.tuple #[.slice none 0 0, .bool false]) ∧ Below w.heap.size w w' := by
  obtain ⟨ap, cpp, rfl⟩ := hP.slice
  obtain ⟨W, hW⟩ : ∃ W, W = (w.alloc (.cells #[.int .i64 (i : Int), .int .i64 (n : Int), .slice ap P.length cpp] 30)).alloc (.cells #[.slice none 0 0] 88) := ⟨_, rfl⟩
  have hA : Below w.heap.size w W := by
    rw [hW]; exact ((Below.refl w.heap.size w).alloc (Nat.le_refl _) _).alloc (by simp) _
  have RP : Row W w.heap.size 30 [.int .i64 (i : Int), .int .i64 (n : Int), .slice ap P.length cpp] := by
    rw [hW]; exact (Row.new w 30 _).below ((Below.refl _ _).alloc (Nat.le_refl _) _) (by simp)
  have RO : Row W (w.heap.size + 1) 88 [.slice none 0 0] := by
    have := Row.new (w.alloc (.cells #[.int .i64 (i : Int), .int .i64 (n : Int), .slice ap P.length cpp] 30)) 88 [.slice none 0 0]
    rw [hW]; exact (by simpa using this : Row _ (w.heap.size + 1) _ _)
  have H0 : TvRel w (w.heap.size + 1) w.heap.size (.slice ap P.length cpp) i n [] W := ⟨⟨_, ⟨hA, RO, RP⟩, World.ownsRow_nil _ _ _ _⟩⟩
  have HD := down57_any (fun d y => TvRel w (w.heap.size + 1) w.heap.size (.slice ap P.length cpp) i n d y) _ _ i n hi hn W H0 (fun d a b y hy _ _ hd => clo57_any w _ _ _ i n (by omega) d a b y hy hd)
  have AW : Aside (W = (w.alloc (.cells #[.int .i64 (i : Int), .int .i64 (n : Int), .slice ap P.length cpp] 30)).alloc (.cells #[.slice none 0 0] 88)) := hW
  have hmf : ∀ (fn : Fn) (first cap : Array Value) (w : World), (Instr.makeFunc fn first cap).run Try.prog w = .ok (.func fn first cap) w := fun _ _ _ _ => rfl
  have HX : Hid (∀ y, TvRel w (w.heap.size + 1) w.heap.size (.slice ap P.length cpp) i n (downs i 0 n) y → ∃ ao cp l, l ≠ P.length ∧ TvS w (w.heap.size + 1) w.heap.size (.slice ao l cp) (.slice ap P.length cpp) i n y) := fun y hy => by
    obtain ⟨ov, hS, ho⟩ := hy.st
    obtain ⟨ao, cp, rfl⟩ := own_shape ho
    refine ⟨ao, cp, _, ?_, hS⟩
    rw [← lefts_sides, List.length_reverse] at hne
    exact hne
  have g1 : (0 : Int) ≤ (i : Int) := by omega
  have g2 : (i : Int) < (n : Int) := by omega
  clear hW hA RP RO H0 hP hne
  generalize TvRel w (w.heap.size + 1) w.heap.size (.slice ap P.length cpp) (i : Int) (n : Int) = PR at *
  unfold fn25
  go_enter Try.func49, Try.ntmps49
  go_wp2_with (first | (go_at_call 44; refine (place_yes _ _ _ g1 g2).mono ?_; rintro ev w1 ⟨rfl, rfl⟩))
  refine Calls_at_world AW.out ?_
  refine HD.mono ?_
  rintro ev w2 ⟨rfl, hP2⟩
  obtain ⟨ao, cp, l, hl, hS⟩ := HX.out w2 hP2
  have c1 := hS.ois.cell 0
  have c2 := hS.prf.cell 2
  simp only [List.getElem?_cons_zero, List.getElem?_cons_succ] at c1 c2
  have hl2 : ¬ (l : Int) = (P.length : Int) := by omega
  have HB := hS.below
  clear HD HX hP2 hS
  go_wp2_with fail
  go_ret2
  exact ⟨rfl, HB⟩

/-- Where the loop of textsBy stands: its texts, its variables, its bools. -/
structure TS (w : World) (go gp : Nat) (ov pv : Value) (i n : Int) (m : Nat) (bs : List Bool) (T : List Bys) (tv : Value) (z : World) : Prop where
  tx : Tx w.heap.size tv T z
  tv : TvS w go gp ov pv i n z
  ob : z.ownsRow w.heap.size 4 1 ov m (bos bs)
theorem TS.next {w z z' : World} {go gp m : Nat} {ov pv tv : Value} {i n : Int} {bs : List Bool} {T : List Bys} (h : TS w go gp ov pv i n m bs T tv z) (hb : Below z.heap.size z z') : TS w go gp ov pv i n m bs T tv z' :=
  ⟨h.tx.below hb, h.tv.next hb, own_past h.ob hb⟩
theorem grown_setRow (w : World) (g : Nat) (M : Array Value) : w.grownBy (w.setRow g M) (some g) := by
  have hb : Below g w (w.setRow g M) := below_setRow (Below.refl _ _) (Nat.le_refl _) _
  refine ⟨hb.os, hb.tape, hb.output, hb.size, fun k _ hk => ?_⟩
  simp only [World.setRow, Array.getElem?_modify]
  rw [if_neg (fun e => hk (by rw [e]))]
theorem TS.setRow {w z : World} {go gp m g : Nat} {ov pv tv : Value} {i n : Int} {bs : List Bool} {T : List Bys} {L : List Value} (h : TS w go gp ov pv i n m bs T tv z) (r : Row z g 26 L) (hB : w.heap.size ≤ g) (M : Array Value) : TS w go gp ov pv i n m bs T tv (z.setRow g M) := by
  have e1 : go ≠ g := fun e => by have a := h.tv.ois.heap; rw [e, r.heap] at a; cases a
  have e2 : gp ≠ g := fun e => by have a := h.tv.prf.heap; rw [e, r.heap] at a; cases a
  refine ⟨h.tx.other r (by decide) (by decide) (grown_setRow z g M), ⟨below_setRow h.tv.below hB M, h.tv.ois.setRow_other e1 M, h.tv.prf.setRow_other e2 M⟩, ?_⟩
  exact own_same' h.ob (fun k ek => (grown_setRow z g M).block k (h.ob.lt k ek).2 (fun e => own_apart h.ob r (by decide) k ek (Option.some.inj e)))
/-- One text more. -/
theorem TS.more {w z z' z'' : World} {go gp m : Nat} {ov pv tv tv' : Value} {i n : Int} {bs : List Bool} {T T' : List Bys} (h : TS w go gp ov pv i n m bs T tv z) (hb : Below z.heap.size z z') (hX : Tx w.heap.size tv' T' z'') (hg : z'.grownBy z'' tv.ownBlock) : TS w go gp ov pv i n m bs T' tv' z'' := by
  have h' := h.next hb
  obtain ⟨vs, hvs⟩ := h'.tx.own
  exact ⟨hX, h'.tv.grown hvs (by decide) (by decide) hg, own_same' h'.ob (fun q eq => hg.block q (h'.ob.lt q eq).2 (fun e => own_two h'.ob hvs (by decide) q eq e.symm))⟩
theorem TS.laid {w z z7 : World} {go gp m : Nat} {ov pv tv v7 : Value} {i n : Int} {bs : List Bool} {T : List Bys} {X : Bys} (h : TS w go gp ov pv i n m bs T tv z) (hb : Below z.heap.size z z7) (ho : z7.ownsRow z.heap.size 5 1 v7 X.length (bys X)) :
    ∃ (a : Option Addr) (q c : Nat), v7 = .slice a q c ∧ Tx w.heap.size tv T (z7.alloc (.cells #[.slice a q c] 39)) ∧ w.heap.size ≤ (z7.alloc (.cells #[.slice a q c] 39)).heap.size ∧ (z7.alloc (.cells #[.slice a q c] 39)).cell? ⟨z7.heap.size, 0, none⟩ = some (.slice a q c) ∧ (z7.alloc (.cells #[.slice a q c] 39)).ownsRow w.heap.size 5 1 (.slice a q c) X.length (bys X) ∧ Below z.heap.size z (z7.alloc (.cells #[.slice a q c] 39)) := by
  obtain ⟨a, c, rfl⟩ := own_shape ho
  have hA : Below z7.heap.size z7 (z7.alloc (.cells #[.slice a X.length c] 39)) := (Below.refl _ _).alloc (Nat.le_refl _) _
  have hBz := h.tv.below.size
  have := hb.size
  refine ⟨a, _, c, rfl, (h.tx.below hb).below hA, by have := hA.size; omega, ?_, own_past (own_lower ho hBz) hA, nextB hb hA⟩
  have := (Row.new z7 39 [.slice a X.length c]).cell 0
  exact this
theorem climb_take_len (F : Bys → Bys) (b : Bys) (bs : List Bool) (P : List Bys) (h : bs.length = P.length) (k : Nat) (hk : k ≤ P.length) : (climb F (0 :: b) ((bs.zip P).take k)).length = k + 1 := by
  rw [climb_len]; simp [h]; omega
theorem climb_next (F : Bys → Bys) (b : Bys) (bs : List Bool) (P : List Bys) (h : bs.length = P.length) (k : Nat) (hk : k < P.length) :
    climb F (0 :: b) ((bs.zip P).take k) ++ [node (bs.getD k false, P.getD k []) (F ((climb F (0 :: b) ((bs.zip P).take k)).getD k []))] = climb F (0 :: b) ((bs.zip P).take (k + 1)) := by
  have e : (bs.zip P).take (k + 1) = (bs.zip P).take k ++ [(bs.getD k false, P.getD k [])] := by
    rw [List.take_add_one]
    congr 1
    have h1 : bs[k]? = some (bs[k]'(by omega)) := List.getElem?_eq_getElem _
    have h2 : P[k]? = some (P[k]'hk) := List.getElem?_eq_getElem _
    simp [List.getD, List.getElem?_zip_eq_some, h1, h2]
  rw [e, climb_snoc, lastT_get, climb_take_len F b bs P h k (by omega)]
  rfl
theorem node_len (x : Bool × Bys) (s : Bys) (h : x.2.length = 32) (hs : s.length = 32) : (node x s).length = 65 := by
  unfold node; split <;> simp [h, hs]
theorem climb_short (F : Bys → Bys) (hF : ∀ l, (F l).length = 32) : ∀ (xs : List (Bool × Bys)) (t : Bys), (∀ x ∈ xs, x.2.length = 32) → t.length ≤ 1000000 → ∀ j, ((climb F t xs).getD j []).length ≤ 1000000
  | [], t, _, ht, j => by
    rcases j with _ | j
    · exact ht
    · simp [climb, List.getD]
  | x :: r, t, h, ht, j => by
    rcases j with _ | j
    · exact ht
    · have := climb_short F hF r (node x (F t)) (fun y hy => h y (by simp [hy])) (by rw [node_len x _ (h x (by simp)) (hF _)]; omega) j
      simpa [climb, List.getD] using this

theorem load26r {ops : Array Oper} {rest : List Oper} {o : Oper} {a : Act} {w : World} {Q : Exit → Act → World → Prop} (hgd : o.guard = none) (x : Operand) (ho : o.op = .load 26 x) (g : Nat) (h : Bys) (hl : h.length = 32) (hx : a.eval x = .pointer (some ⟨g, 0, none⟩)) (hr : Row w g 26 (bys h))
    (k : wpList Try.prog ops Q rest (a.put o.dst (.agg (bys h).toArray)) w) : wpList Try.prog ops Q (o :: rest) a w :=
  wpList_load_row hgd 26 x ho g hx 26 _ (0, 0) _ hr.heap Try.underlying26 rfl (size26 h hl) k
set_option maxHeartbeats 8000000 in
set_option maxRecDepth 20000 in
theorem texts_yes (F : Bys → Bys) (E : Env F) (w : World) (bv pv : Value) (b : Bys) (i n : Nat) (P : List Bys) (hb : Sl w bv b) (hbl : b.length ≤ 100000) (hi : i < n) (hn : n ≤ 9223372036854775807) (hP : Hs w pv P) (hlen : (lefts i n).length = P.length) :
    Calls Try.prog 49 #[fn25, bv, .agg #[.int .i64 (i : Int), .int .i64 (n : Int), pv]] w fun ev w' => ∃ tv, ev = .returned (.tuple #[tv, .bool true]) ∧ Tx w.heap.size tv (texts F b i n P).reverse w' ∧ Below w.heap.size w w' := by
  obtain ⟨ap, cpp, rfl⟩ := hP.slice
  obtain ⟨W, hW⟩ : ∃ W, W = (w.alloc (.cells #[.int .i64 (i : Int), .int .i64 (n : Int), .slice ap P.length cpp] 30)).alloc (.cells #[.slice none 0 0] 88) := ⟨_, rfl⟩
  have hA : Below w.heap.size w W := by
    rw [hW]; exact ((Below.refl w.heap.size w).alloc (Nat.le_refl _) _).alloc (by simp) _
  have RP : Row W w.heap.size 30 [.int .i64 (i : Int), .int .i64 (n : Int), .slice ap P.length cpp] := by
    rw [hW]; exact (Row.new w 30 _).below ((Below.refl _ _).alloc (Nat.le_refl _) _) (by simp)
  have RO : Row W (w.heap.size + 1) 88 [.slice none 0 0] := by
    have := Row.new (w.alloc (.cells #[.int .i64 (i : Int), .int .i64 (n : Int), .slice ap P.length cpp] 30)) 88 [.slice none 0 0]
    rw [hW]; exact (by simpa using this : Row _ (w.heap.size + 1) _ _)
  have H0 : TvRel w (w.heap.size + 1) w.heap.size (.slice ap P.length cpp) i n [] W := ⟨⟨_, ⟨hA, RO, RP⟩, World.ownsRow_nil _ _ _ _⟩⟩
  have HD := down57_any (fun d y => TvRel w (w.heap.size + 1) w.heap.size (.slice ap P.length cpp) i n d y) _ _ i n hi hn W H0 (fun d a b y hy _ _ hd => clo57_any w _ _ _ i n (by omega) d a b y hy hd)
  have AW : Aside (W = (w.alloc (.cells #[.int .i64 (i : Int), .int .i64 (n : Int), .slice ap P.length cpp] 30)).alloc (.cells #[.slice none 0 0] 88)) := hW
  have hmf : ∀ (fn : Fn) (first cap : Array Value) (w : World), (Instr.makeFunc fn first cap).run Try.prog w = .ok (.func fn first cap) w := fun _ _ _ _ => rfl
  have hP64 : P.length ≤ 64 := by
    rw [← hlen]; unfold lefts; have := downs_64 i n hn; simp; omega
  have HX : Hid (∀ y, TvRel w (w.heap.size + 1) w.heap.size (.slice ap P.length cpp) i n (downs i 0 n) y → ∃ ao cp, TvS w (w.heap.size + 1) w.heap.size (.slice ao P.length cp) (.slice ap P.length cpp) i n y ∧ (Calls Try.prog 58 #[.slice ao P.length cp] y fun ev y' => ev = .returned (.tuple #[]) ∧ TvS w (w.heap.size + 1) w.heap.size (.slice ao P.length cp) (.slice ap P.length cpp) i n y' ∧ y'.ownsRow w.heap.size 4 1 (.slice ao P.length cp) P.length (bos (lefts i n)))) := fun y hy => by
    obtain ⟨ov, hS, ho⟩ := hy.st
    have e1 : (sidesOf (i : Int) (downs i 0 n)).length = P.length := by rw [← hlen, ← lefts_sides, List.length_reverse]
    obtain ⟨ao, cp, hov⟩ := own_shape ho
    rw [e1] at hov
    subst hov
    refine ⟨ao, cp, hS, ?_⟩
    refine (revB_any y w.heap.size _ _ ho (by omega)).mono ?_
    rintro ev y' ⟨rfl, ho', hg⟩
    rw [lefts_sides, hlen] at ho'
    exact ⟨rfl, hS.grown ho (by decide) (by decide) hg, ho'⟩
  have g1 : (0 : Int) ≤ (i : Int) := by omega
  have g2 : (i : Int) < (n : Int) := by omega
  have HSB : Hid (Sl w bv b) := hb
  have HHP : Hid (Hs w (.slice ap P.length cpp) P) := hP
  have HT : Hid (texts F b i n P = climb F (0 :: b) ((lefts i n).zip P) ++ [rootT n (F (lastT (climb F (0 :: b) ((lefts i n).zip P))))]) := rfl
  clear hW hA RP RO H0 hP hb
  generalize TvRel w (w.heap.size + 1) w.heap.size (.slice ap P.length cpp) (i : Int) (n : Int) = PR at *
  generalize lefts i n = bs at *
  unfold fn25
  go_enter Try.func49, Try.ntmps49
  go_wp2_with (first | (go_at_call 44; refine (place_yes _ _ _ g1 g2).mono ?_; rintro ev w1 ⟨rfl, rfl⟩))
  refine Calls_at_world AW.out ?_
  refine HD.mono ?_
  rintro ev w2 ⟨rfl, hP2⟩
  obtain ⟨ao, cp, hS, HR⟩ := HX.out w2 hP2
  have c1 := hS.ois.cell 0
  have c2 := hS.prf.cell 2
  simp only [List.getElem?_cons_zero, List.getElem?_cons_succ] at c1 c2
  clear HD HX hP2 hS AW
  go_wp2_with fail
  refine HR.mono ?_
  rintro ev w3 ⟨rfl, hS3, ho3⟩
  have HL := leafText_any w3 bv b (HSB.out.below hS3.below) (by omega)
  clear HR c1 c2
  go_wp2_with fail
  refine HL.mono ?_
  rintro ev w4 ⟨v4, rfl, ho4, hb4⟩
  have c3 := ((hS3.next hb4).next ((Below.refl w4.heap.size w4).alloc (Nat.le_refl _) (.cells #[v4] 39))).prf.cell 2
  simp only [List.getElem?_cons_zero, List.getElem?_cons_succ] at c3
  have HTL : Hid (TS w (w.heap.size + 1) w.heap.size (.slice ao P.length cp) (.slice ap P.length cpp) i n P.length bs (climb F (0 :: b) ((bs.zip P).take 0)) (.slice (some ⟨w4.heap.size, 0, none⟩) 1 1) (w4.alloc (.cells #[v4] 39))) := by
    have hbA : Below w4.heap.size w4 (w4.alloc (.cells #[v4] 39)) := (Below.refl _ _).alloc (Nat.le_refl _) _
    have hS4 := hS3.next hb4
    exact ⟨Tx.one hS4.below.size (own_lower ho4 (by have := hS3.below.size; omega)), hS4.next hbA, own_past (own_past ho3 hb4) hbA⟩
  obtain ⟨a4, m4, cp4, rfl⟩ : ∃ ao m cap, v4 = .slice ao m cap := by
    obtain ⟨ao, cap, e⟩ := own_shape ho4
    exact ⟨ao, _, cap, e⟩
  clear HL hS3 ho3 ho4 hb4
  go_wp2_with fail
  go_loopw [9, 41] (fun tv iv wr => ∃ k : Nat, k ≤ P.length ∧ iv = .int .i64 (k : Int) ∧ TS w (w.heap.size + 1) w.heap.size (.slice ao P.length cp) (.slice ap P.length cpp) i n P.length bs (climb F (0 :: b) ((bs.zip P).take k)) tv wr) (fun _ iv _ => P.length - (intOf iv).toNat)
  case atStart => exact ⟨0, by omega, rfl, HTL.out⟩
  case round =>
    obtain ⟨k, hk, rfl, hTL⟩ := hrel
    clear HTL c3
    by_cases hk3 : k < P.length
    · obtain ⟨pb, po, hap, hcap, hrg⟩ : ∃ pb po, ap = some ⟨pb, po, none⟩ ∧ P.length ≤ cpp ∧ w.rangeAt pb po (rows26 P) := by
        rcases HHP.out.shape with ⟨_, _, _, e0⟩ | ⟨b, off, cap, e1, h2, hc⟩
        · rw [e0] at hk3; simp at hk3
        · cases e1; exact ⟨b, off, rfl, h2, hc⟩
      subst hap
      have h32 : ∀ p ∈ P, p.length = 32 := HHP.out.each
      have hp : (P.getD k []).length = 32 := h32 _ (by simp [List.getD, List.getElem?_eq_getElem hk3])
      have hrk : wr.rangeAt pb (po + k * 32) (bys (P.getD k [])) := fun j u hj => by
        have hj' : j < 32 := by
          have := (List.getElem?_eq_some_iff.1 hj).1
          rw [bys_len, hp] at this; exact this
        have := range_below hrg hTL.tv.below (k * 32 + j) u (by rw [flat_get P h32 k j hk3 hj']; exact hj)
        rw [Nat.add_assoc]; exact this
      have hlT := climb_take_len F b bs P hlen k hk
      obtain ⟨gt, capT, aT, cT, rfl, hcT, hcell, hSl⟩ := hTL.tx.elem k (by omega)
      have HN : Hid (climb F (0 :: b) ((bs.zip P).take k) ++ [node (bs.getD k false, P.getD k []) (F ((climb F (0 :: b) ((bs.zip P).take k)).getD k []))] = climb F (0 :: b) ((bs.zip P).take (k + 1))) := climb_next F b bs P hlen k hk3
      have hsT := climb_short F E.len ((bs.zip P).take k) (0 :: b) (fun x hx => h32 _ (List.of_mem_zip (List.mem_of_mem_take hx)).2) (by simp; omega) k
      generalize climb F (0 :: b) ((bs.zip P).take k) = T at *
      generalize hTk : T.getD k [] = t at *
      generalize P.getD k [] = p at *
      have kT : k < T.length := by omega
      have HlT : Hid (T.length = k + 1) := hlT
      clear hlT hTk
      have q1 : (k : Int) < (P.length : Int) := by omega
      have q0 : (0 : Int) ≤ (k : Int) := by omega
      have hpi := info26L p hp
      have hbA : Below wr.heap.size wr (wr.alloc (.cells (bys zero32).toArray 26)) := (Below.refl _ _).alloc (Nat.le_refl _) _
      have RA := Row.new wr 26 (bys zero32)
      go_wp2_with (first | (refine wpList_load_mid rfl 26 _ rfl pb (po + k * 32) rfl (bys p) _ hrk Try.underlying26 rfl hpi ?_) | (refine store26 rfl _ _ rfl wr wr.heap.size _ hp rfl rfl zero32 zero32_len RA _ hbA (Nat.le_refl _) ?_; intro w5 R5 hb5 _))
      have hb5' : Below wr.heap.size wr w5 := hb5
      have hT5 := hSl.below hb5'
      have hc5 : w5.cell? ⟨gt, k, none⟩ = some (.slice aT t.length cT) := (hb5'.cell (p := ⟨gt, k, none⟩) (World.block_lt_of_cell? wr _ hcell)).trans hcell
      refine Code.wp_mono ?_ (reg12_any F E w5 gt T.length capT k wr.heap.size t.length cT aT t p hp kT hc5 hT5 hsT R5 _ _ _ _ _ _ _ _ _ _ _ _ _ _ _ _ _ _ _ _ _ _ _ _ _ _ _ _ _ _ _ _ _ _ _ _ _ _ _ _ _ _ _ _ _ _ _ _ _ _ _ _ _ _ _ _ _ _ _ _ _ _ _ _ _ _ _ _ _ _ _ _ _ _ _ _ _ _ _ _)
      rintro e a' w6 ⟨rfl, g12, g13, rfl, R12, R13, hne, hge12, hge13, hb6⟩
      dsimp only
      have hS6 := (hTL.next hb5').next hb6
      obtain ⟨og, hao⟩ : ∃ og, ao = some ⟨og, 0, none⟩ := by
        rcases hS6.ob.2 with ⟨_, h0⟩ | ⟨g, cap, cur, e, _⟩
        · omega
        · cases e; exact ⟨g, rfl⟩
      subst hao
      have c1 := hS6.tv.ois.cell 0
      simp only [List.getElem?_cons_zero] at c1
      have c2 : w6.cell? ⟨og, k, none⟩ = some (.bool (bs.getD k false)) := by rw [hS6.ob.cellAt k (by omega), bos_get bs k (by omega)]
      have hFt := E.len t
      have hlo : T.length ≤ 1000000 := by have := HlT.out; omega
      have hw12 : w.heap.size ≤ g12 := by have := hTL.tv.below.size; have := hb5'.size; omega
      have hw13 : w.heap.size ≤ g13 := by have := hTL.tv.below.size; have := hb5'.size; omega
      have HN5 : Hid (∀ z z' z'' v, TS w (w.heap.size + 1) w.heap.size (.slice (some ⟨og, 0, none⟩) P.length cp) (.slice (some ⟨pb, po, none⟩) P.length cpp) i n P.length bs T (.slice (some ⟨gt, 0, none⟩) T.length capT) z → Below z.heap.size z z' → Tx w.heap.size v (T ++ [node (bs.getD k false, p) (F t)]) z'' → z'.grownBy z'' (Value.slice (some ⟨gt, 0, none⟩) T.length capT).ownBlock → TS w (w.heap.size + 1) w.heap.size (.slice (some ⟨og, 0, none⟩) P.length cp) (.slice (some ⟨pb, po, none⟩) P.length cpp) i n P.length bs (climb F (0 :: b) ((bs.zip P).take (k + 1))) v z'') := fun z z' z'' v h hb hX hg => by
        rw [HN.out] at hX
        exact h.more hb hX hg
      have HS6 : Hid (TS w (w.heap.size + 1) w.heap.size (.slice (some ⟨og, 0, none⟩) P.length cp) (.slice (some ⟨pb, po, none⟩) P.length cpp) i n P.length bs T (.slice (some ⟨gt, 0, none⟩) T.length capT) w6) := hS6
      have hB6 := hS6.tv.below
      clear hT5 hc5 hb5' hrk hcell hSl hbA RA R5 hb5 hTL hb6 HN hrg HHP h32 hS6
      cases hbk : bs.getD k false with
      | true =>
        rw [hbk] at c2 HN5
        clear hbk
        have HNo : Hid (node (true, p) (F t) = 1 :: (p ++ F t)) := rfl
        have HR12 : Hid (Row w6 g12 26 (bys (F t))) := R12
        go_wp2_with (first | (refine load26r rfl _ rfl g13 _ hp rfl R13 ?_) | (refine load26r rfl _ rfl g12 _ hFt rfl R12 ?_) | (refine store26 rfl _ _ rfl w g12 p hp rfl rfl (F t) hFt R12 _ hB6 hw12 ?_; intro w7 R12' hB7 HW7; have R13' : Row w7 g13 26 (bys p) := (by rw [HW7.out]; exact R13.setRow_other (fun e => hne e.symm) _)) | (refine store26 rfl _ _ rfl w g13 (F t) hFt rfl rfl p hp R13' _ hB7 hw13 ?_; intro w8 R13'' hB8 HW8; have R12'' : Row w8 g12 26 (bys p) := (by rw [HW8.out]; exact R12'.setRow_other hne _); clear R12 R13) | (refine load26r rfl _ rfl g12 _ hp rfl R12'' ?_) | (refine load26r rfl _ rfl g13 _ hFt rfl R13'' ?_))
        have HS : Hid (TS w (w.heap.size + 1) w.heap.size (.slice (some ⟨og, 0, none⟩) P.length cp) (.slice (some ⟨pb, po, none⟩) P.length cpp) i n P.length bs T (.slice (some ⟨gt, 0, none⟩) T.length capT) w8) := by
          show TS _ _ _ _ _ _ _ _ _ _ _ w8
          rw [HW8.out]
          refine TS.setRow ?_ R13' hw13 _
          rw [HW7.out]
          exact HS6.out.setRow HR12.out hw12 _
        refine (nodeText_any w8 p (F t) hp hFt).mono ?_
        rintro ev w9 ⟨v9, rfl, ho9, hb9⟩
        obtain ⟨a9, m9, c9, rfl, hXA, hBA, hcA, huA, hbA9⟩ := HS.out.laid hb9 ho9
        clear ho9 hb9
        go_wp2_with (at_builtin; refine app39 rfl _ _ rfl rfl hXA hBA w9.heap.size 1 rfl hcA huA hlo ?_; intro v9 w10 hX9 hb9 hg9)
        go_roundw
        case rel =>
          rw [← HNo.out] at hX9
          exact ⟨k + 1, by omega, by go_num, HN5.out _ _ _ _ HS.out hbA9 hX9 hg9⟩
        case measure => simp [intOf]; omega
      | false =>
        rw [hbk] at c2 HN5
        clear hbk
        have HNo : Hid (node (false, p) (F t) = 1 :: (F t ++ p)) := rfl
        have HS := HS6
        go_wp2_with (first | (refine load26r rfl _ rfl g12 _ hFt rfl R12 ?_) | (refine load26r rfl _ rfl g13 _ hp rfl R13 ?_))
        refine (nodeText_any w6 (F t) p hFt hp).mono ?_
        rintro ev w9 ⟨v9, rfl, ho9, hb9⟩
        obtain ⟨a9, m9, c9, rfl, hXA, hBA, hcA, huA, hbA9⟩ := HS.out.laid hb9 ho9
        clear ho9 hb9
        go_wp2_with (at_builtin; refine app39 rfl _ _ rfl rfl hXA hBA w9.heap.size 1 rfl hcA huA hlo ?_; intro v9 w10 hX9 hb9 hg9)
        go_roundw
        case rel =>
          rw [← HNo.out] at hX9
          exact ⟨k + 1, by omega, by go_num, HN5.out _ _ _ _ HS.out hbA9 hX9 hg9⟩
        case measure => simp [intOf]; omega
    · obtain rfl : k = P.length := by omega
      have hlT := climb_take_len F b bs P hlen P.length (Nat.le_refl _)
      have eT : (bs.zip P).take P.length = bs.zip P := List.take_of_length_le (by simp; omega)
      rw [eT] at hlT hTL
      have h32 : ∀ p ∈ P, p.length = 32 := HHP.out.each
      have hsT := climb_short F E.len (bs.zip P) (0 :: b) (fun x hx => h32 _ (List.of_mem_zip hx).2) (by simp; omega) P.length
      have HLa : Hid (lastT (climb F (0 :: b) (bs.zip P)) = (climb F (0 :: b) (bs.zip P)).getD P.length []) := by
        show _ = _
        rw [lastT_get, hlT]; rfl
      obtain ⟨gt, capT, aT, cT, rfl, hcT, hcell, hSl⟩ := hTL.tx.elem P.length (by omega)
      generalize climb F (0 :: b) (bs.zip P) = T at *
      generalize T.getD P.length [] = t at *
      have c3 := hTL.tv.prf.cell 2
      simp only [List.getElem?_cons_zero, List.getElem?_cons_succ] at c3
      have hlo : T.length ≤ 1000000 := by omega
      have hlo9 : T.length ≤ 999 := by omega
      have q2 : (P.length : Int) < (T.length : Int) := by omega
      have q3 : (0 : Int) ≤ (P.length : Int) := by omega
      have kT : P.length < T.length := by omega
      have hnot : ¬ (P.length : Int) < (P.length : Int) := by omega
      have SU := E.sum wr _ t hSl hsT
      have hFt := E.len t
      have HTL' : Hid (TS w (w.heap.size + 1) w.heap.size (.slice ao P.length cp) (.slice ap P.length cpp) i n P.length bs T (.slice (some ⟨gt, 0, none⟩) T.length capT) wr) := hTL
      clear hTL hSl hlT eT h32 hk hk3
      go_wp2_with (first | (go_at_call 25; refine SU.mono ?_; rintro ev w5 ⟨rfl, hb5⟩; have RA := Row.new w5 26 (bys zero32); have hbA : Below w5.heap.size w5 (w5.alloc (.cells (bys zero32).toArray 26)) := (Below.refl _ _).alloc (Nat.le_refl _) _) | (refine store26 rfl _ _ rfl w5 w5.heap.size _ hFt rfl rfl zero32 zero32_len RA _ hbA (Nat.le_refl _) ?_; intro w6 R6 hb6 _))
      have hS6 := (HTL'.out.next hb5).next hb6
      have hS7 := hS6.next (Below.refl w6.heap.size w6).drew
      have c4 := hS7.tv.prf.cell 1
      simp only [List.getElem?_cons_zero, List.getElem?_cons_succ] at c4
      have R7 : Row w6.drew w5.heap.size 26 (bys (F t)) := R6.drew
      have SL7 := R7.sl
      rw [hFt] at SL7
      have RT := rootText_any w6.drew n _ (F t) SL7 (by omega) hn
      have HS7 : Hid (TS w (w.heap.size + 1) w.heap.size (.slice ao P.length cp) (.slice ap P.length cpp) i n P.length bs T (.slice (some ⟨gt, 0, none⟩) T.length capT) w6.drew) := hS7
      clear hS6 hS7 c3 hcell R7 SL7 SU
      go_region_held3 (fun y => y.cell? ⟨w.heap.size, 1, none⟩ = some (.int .i64 (n : Int))) (assumption) (first
        | (go_at_call 37; refine RT.mono ?_; rintro ev w8 ⟨v8, rfl, ho8, hb8⟩; obtain ⟨a8, m8, c8, rfl, hXA, hBA, hcA, huA, hbA8⟩ := HS7.out.laid hb8 ho8; have d8 := (HS7.out.next hb8).tv.prf.cell 1; have d9 := (HS7.out.next hbA8).tv.prf.cell 1; simp only [List.getElem?_cons_zero, List.getElem?_cons_succ] at d8 d9; clear ho8 hb8)
        | (refine step_app39 (by rfl) _ _ (by rfl) (by rfl) hXA hBA w8.heap.size 1 (by rfl) hcA huA hlo ?_; intro v9 w10 hX9 hb9 hg9; have hS10 := HS7.out.more hbA8 hX9 hg9; have d10 := hS10.tv.prf.cell 1; simp only [List.getElem?_cons_zero, List.getElem?_cons_succ] at d10))
      have REV := revT_any w10 w.heap.size v9 _ hX9 (by simp) (by simp; omega)
      obtain ⟨a9, cp9, hv9⟩ := hX9.slice
      obtain ⟨m9, hm9⟩ : ∃ m, m = (T ++ [rootT n (F t)]).length := ⟨_, rfl⟩
      rw [← hm9] at hv9
      subst hv9
      have hB10 := hS10.tv.below
      clear hS10 hX9 hm9 HS7 RT HTL' c4 d8 d9 d10 hXA hBA hcA huA
      go_wp2_with fail
      refine REV.mono ?_
      rintro ev w11 ⟨rfl, hX11, hb11⟩
      have HX11 : Hid _ := hX11
      have HB11 : Hid (Below w.heap.size w w11) := hB10.trans hb11
      clear REV hX11 hb11
      go_wp2_with fail
      go_ret2
      refine ⟨_, rfl, ?_, HB11.out⟩
      rw [HT.out, HLa.out]
      exact HX11.out
end Go.Proofs.Ytfkibbpekngciaa
