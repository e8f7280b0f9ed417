/-
  proveBy, Prove.
-/
import Derived.Test.YtfkibbpekngciaaJoinDwn2xPr
import Derived.Test.YtfkibbpekngciaaJoinRev2xPr
namespace Go.Proofs.Ytfkibbpekngciaa
open Go.RowKit

theorem place_yes (w : World) (i n : Int) (h : 0 ≤ i) (h2 : i < n) : Calls Try.prog 44 #[.int .i64 i, .int .i64 n] w fun ev w' => ev = .returned (.bool true) ∧ w' = w := by
  go_enter Try.func44, Try.ntmps44
  go_wp2
  go_ret
  exact ⟨rfl, rfl⟩
theorem place_no (w : World) (i n : Int) (h : ¬ (0 ≤ i ∧ i < n)) : Calls Try.prog 44 #[.int .i64 i, .int .i64 n] w fun ev w' => ev = .returned (.bool false) ∧ w' = w := by
  by_cases h1 : 0 ≤ i
  · have h2 : ¬ i < n := fun h2 => h ⟨h1, h2⟩
    go_enter Try.func44, Try.ntmps44
    go_wp2
    go_ret
    exact ⟨rfl, rfl⟩
  · go_enter Try.func44, Try.ntmps44
    go_wp2
    go_ret
    exact ⟨rfl, rfl⟩
theorem paths_all (F : Bys → Bys) (L : List Bys) (i : Nat) : (paths F L (downs i 0 L.length)).reverse = path F L i := by simp [paths, path]
/-- What a proof is in memory. -/
def pf (i n : Int) (pv : Value) : Value := .agg #[.int .i64 i, .int .i64 n, pv]

theorem one3 (i n : Int) (ao : Option Addr) (l c : Nat) : #[Value.int .i64 i, .int .i64 n, .slice ao l c].all (·.oneCell') = true := all_one (L := [Value.int .i64 i, .int .i64 n, .slice ao l c]) (by intro u hu; simp at hu; rcases hu with rfl | rfl | rfl <;> rfl)
theorem Try.info30 : (Try.prog.info? 30).map (·.size) = some 3 := by kernel_rfl
/-- A proof is stored into a variable of one's own. -/
theorem store30 {ops : Array Oper} {rest : List Oper} {o : Oper} {a : Act} {w : World} {Q : Exit → Act → World → Prop} (hgd : o.guard = none) (x y : Operand) (ho : o.op = .store 30 x y) (w0 : World) (g : Nat) (p q r : Value) (h1 : #[p, q, r].all (·.oneCell') = true)
    (hx : a.eval x = .pointer (some ⟨g, 0, none⟩)) (hy : a.eval y = .agg #[p, q, r]) (p' q' r' : Value) (hr : Row w g 30 [p', q', r']) (B : Nat) (hb : Below B w0 w) (hB : B ≤ g)
    (k : ∀ w', Row w' g 30 [p, q, r] → Below B w0 w' → Hid (w' = w.setRow g #[p, q, r]) → wpList Try.prog ops Q rest (a.put o.dst undef) w') : wpList Try.prog ops Q (o :: rest) a w := by
  refine wpList_store_row hgd 30 x y ho g #[p, q, r] hx hy 30 #[p', q', r'] hr.heap Try.info30 rfl h1 ?_
  exact k _ ⟨setRow_heap w g _ _ 30 _ hr.heap⟩ (below_setRow hb hB _) rfl
theorem Hs.other {w : World} {v : Value} {P : List Bys} (h : Hs w v P) (g : Nat) (M : Array Value) (hne : ∀ k, v.ownBlock = some k → k ≠ g) : Hs (w.setRow g M) v P := by
  refine ⟨h.each, ?_⟩
  rcases h.shape with h | ⟨b, off, cap, rfl, hcap, hc⟩
  · exact .inl h
  · refine .inr ⟨b, off, cap, rfl, hcap, fun j u hj => ?_⟩
    have hk : (w.setRow g M).heap[b]? = w.heap[b]? := by
      simp only [World.setRow, Array.getElem?_modify]
      rw [if_neg (fun e => hne b rfl e.symm)]
    have := hc j u hj
    unfold World.cell? at *
    rw [hk]; exact this
theorem results28_row (tmps : Array Value) (w : World) (g : Nat) (cs : Array Value) (e : Value) (hp : tmps.getD 6 undef = .pointer (some ⟨g, 0, none⟩)) (he : tmps.getD 7 undef = e) (hg : w.heap[g]? = some (.cells cs 30 (0, 0))) (hi : (Try.prog.info? 30).map (·.size) = some cs.size) :
    (results Try.f28 tmps).run Try.prog w = .ok (.tuple #[.agg cs, e]) w := by
  have hp' : tmps[6]?.getD undef = .pointer (some ⟨g, 0, none⟩) := by simpa using hp
  have he' : tmps[7]?.getD undef = e := by simpa using he
  have hl : (loadVar 30 ⟨g, 0, none⟩).run Try.prog w = .ok (.agg cs) w := run_loadVar_row w g 30 30 cs (0, 0) _ hg Try.underlying30 rfl hi
  simp [results, Try.results28, hp', he', asAddr, hl]
set_option maxHeartbeats 4000000 in
set_option maxRecDepth 20000 in
theorem proveBy_yes (F : Bys → Bys) (E : Env F) (w : World) (v : Value) (L : List Bys) (h : Ls w v L) (hs : Short L) (h9 : L.length ≤ 1000000) (i : Nat) (hi : i < L.length) :
    Calls Try.prog 28 #[fn25, v, .int .i64 (i : Int)] w fun ev w' => ∃ pv, ev = .returned (.tuple #[.agg #[.int .i64 (i : Int), .int .i64 (L.length : Int), pv], .nilIface]) ∧ Hs w' pv (path F L i) ∧ (∀ k, pv.ownBlock = some k → w.heap.size ≤ k) ∧ Below w.heap.size w w' := by
  obtain ⟨ao, cp, rfl⟩ := h.slice
  obtain ⟨W, hW⟩ : ∃ W, W = (((w.alloc (.cells #[fn25] 69)).alloc (.cells #[.slice ao L.length cp] 22)).alloc (.cells #[.int .i64 0, .int .i64 0, .slice none 0 0] 30)).alloc (.cells #[.slice none 0 0] 28) := ⟨_, rfl⟩
  have hsz : W.heap.size = w.heap.size + 1 + 1 + 1 + 1 := by rw [hW]; simp
  have hA : Below w.heap.size w W := by
    rw [hW]; exact ((((Below.refl w.heap.size w).alloc (Nat.le_refl _) _).alloc (by simp) _).alloc (by simp; omega) _).alloc (by simp; omega) _
  have b1 : ∀ (y : World) o, Below y.heap.size y (y.alloc o) := fun y o => (Below.refl _ _).alloc (Nat.le_refl _) _
  have RS : Row W w.heap.size 69 [fn25] := by
    rw [hW]; exact (((Row.new w 69 [fn25]).below (b1 _ _) (by simp)).below (b1 _ _) (by simp; omega)).below (b1 _ _) (by simp; omega)
  have RL : Row W (w.heap.size + 1) 22 [.slice ao L.length cp] := by
    have := Row.new (w.alloc (.cells #[fn25] 69)) 22 [.slice ao L.length cp]
    rw [hW]; exact ((by simpa using this : Row _ (w.heap.size + 1) _ _).below (b1 _ _) (by simp)).below (b1 _ _) (by simp <;> omega)
  have RR : Row W (w.heap.size + 1 + 1) 30 [.int .i64 0, .int .i64 0, .slice none 0 0] := by
    have := Row.new ((w.alloc (.cells #[fn25] 69)).alloc (.cells #[.slice ao L.length cp] 22)) 30 [.int .i64 0, .int .i64 0, .slice none 0 0]
    rw [hW]; exact (by simpa using this : Row _ (w.heap.size + 1 + 1) _ _).below (b1 _ _) (by simp)
  have RP : Row W (w.heap.size + 1 + 1 + 1) 28 [.slice none 0 0] := by
    have := Row.new (((w.alloc (.cells #[fn25] 69)).alloc (.cells #[.slice ao L.length cp] 22)).alloc (.cells #[.int .i64 0, .int .i64 0, .slice none 0 0] 30)) 28 [.slice none 0 0]
    rw [hW]; exact (by simpa using this : Row _ (w.heap.size + 1 + 1 + 1) _ _)
  have H0 : PvRel F L w (w.heap.size + 1 + 1 + 1) w.heap.size (w.heap.size + 1) (w.heap.size + 1 + 1) (.slice ao L.length cp) [] W := ⟨⟨_, ⟨hA, RP, RS, RL, RR⟩, World.ownsRow_nil _ _ _ _⟩, by simp⟩
  have HD := down47_any (fun d y => PvRel F L w (w.heap.size + 1 + 1 + 1) w.heap.size (w.heap.size + 1) (w.heap.size + 1 + 1) (.slice ao L.length cp) d y) _ _ _ i L.length hi (by omega) W H0 (fun d a b y hy hab hb hd => clo47_any F E w _ _ _ _ _ L h hs h9 (by omega) d a b y hy hab hb hd)
  have AW : Aside (W = (((w.alloc (.cells #[fn25] 69)).alloc (.cells #[.slice ao L.length cp] 22)).alloc (.cells #[.int .i64 0, .int .i64 0, .slice none 0 0] 30)).alloc (.cells #[.slice none 0 0] 28)) := hW
  have h32 : ∀ p ∈ paths F L (downs i 0 L.length), p.length = 32 := fun p hp => by
    obtain ⟨x, _, rfl⟩ := List.mem_map.1 hp
    exact tree_len E _
  have hfew : (paths F L (downs i 0 L.length)).length ≤ 1000000 := by
    have := downs_64 i L.length (by omega)
    rw [paths_len]; omega
  have HPA : Hid ((paths F L (downs i 0 L.length)).reverse = path F L i) := paths_all F L i
  have hmf : ∀ (fn : Fn) (first cap : Array Value) (w : World), (Instr.makeFunc fn first cap).run Try.prog w = .ok (.func fn first cap) w := fun _ _ _ _ => rfl
  have HX : Hid (∀ y, PvRel F L w (w.heap.size + 1 + 1 + 1) w.heap.size (w.heap.size + 1) (w.heap.size + 1 + 1) (.slice ao L.length cp) (downs i 0 L.length) y → ∃ pv, PvS w (w.heap.size + 1 + 1 + 1) w.heap.size (w.heap.size + 1) (w.heap.size + 1 + 1) pv (.slice ao L.length cp) y ∧ y.ownsRow w.heap.size 26 32 pv (paths F L (downs i 0 L.length)).length (rows26 (paths F L (downs i 0 L.length)))) := fun y hy => hy.st
  have g1 : (0 : Int) ≤ (i : Int) := by omega
  have g2 : (i : Int) < (L.length : Int) := by omega
  clear hW hsz hA b1 RS RL RR RP H0 h hs
  generalize PvRel F L w (w.heap.size + 1 + 1 + 1) w.heap.size (w.heap.size + 1) (w.heap.size + 1 + 1) (.slice ao L.length cp) = PR at *
  generalize paths F L (downs i 0 L.length) = P at *
  unfold fn25 at *
  go_enter Try.func28, Try.ntmps28
  go_wp2_with (first | (go_at_call 44; refine (place_yes _ _ _ g1 g2).mono ?_; rintro ev w1 ⟨rfl, rfl⟩))
  refine Calls_at_world AW.out ?_
  refine HD.mono ?_
  rintro ev w2 ⟨rfl, hP2⟩
  obtain ⟨pv, hS2, ho2⟩ := HX.out w2 hP2
  obtain ⟨ap, cpp, rfl⟩ := own_shape' ho2
  have c1 := hS2.path.cell 0
  simp only [List.getElem?_cons_zero] at c1
  have HR := revH_any w2 w.heap.size _ P ho2 h32 hfew
  clear HD HX hP2
  go_wp2_with fail
  refine HR.mono ?_
  rintro ev w3 ⟨rfl, hO3, hg3⟩
  have hH3 : Hs w3 (.slice ap P.length cpp) P.reverse := Hs.ofOwn hO3 (fun p hp => h32 p (by simpa using hp))
  have hS3 := hS2.grown ho2 hg3 (below_grown hg3 hS2.below.size (fun k e => (ho2.lt k e).1))
  have c2 := hS3.path.cell 0
  have c3 := hS3.lvs.cell 0
  simp only [List.getElem?_cons_zero] at c2 c3
  have hB3 := hS3.below
  have R3 := hS3.res
  have HN : Hid (∀ k, (Value.slice ap P.length cpp).ownBlock = some k → k ≠ w.heap.size + 1 + 1) := own_apart ho2 hS2.res (by decide)
  have HF : Hid (∀ k, (Value.slice ap P.length cpp).ownBlock = some k → w.heap.size ≤ k) := fun k e => (ho2.lt k e).1
  have h1c : #[Value.int .i64 (i : Int), .int .i64 (L.length : Int), .slice ap P.length cpp].all (·.oneCell') = true := one3 _ _ _ _ _
  have hle : w.heap.size ≤ w.heap.size + 1 + 1 := by omega
  clear HR c1 hS3 hS2 ho2 hg3 hO3
  go_wp2_with (first | (refine store30 rfl _ _ rfl w (w.heap.size + 1 + 1) _ _ _ h1c rfl rfl _ _ _ R3 _ hB3 hle ?_; intro w4 R4 hB4 HW4))
  refine bodyPost_ret (v := .tuple #[.agg #[.int .i64 (i : Int), .int .i64 (L.length : Int), .slice ap P.length cpp], .nilIface]) (results28_row _ _ (w.heap.size + 1 + 1) _ _ rfl rfl R4.heap Try.info30) rfl ⟨_, rfl, ?_, HF.out, hB4⟩
  rw [HW4.out, ← HPA.out]
  exact hH3.other _ _ HN.out

theorem Er.other {w : World} {e : Value} {c p g : Nat} {L : List Value} (h : Er w e c p) (r : Row w g 30 L) (hL : L[2]? = some (.slice none 0 0)) (M : Array Value) : Er (w.setRow g M) e c p := by
  obtain ⟨b', hb', q0, q1, q2⟩ := h.shape
  have hne : b' ≠ g := fun e => by
    subst e
    rw [r.cell 2, hL] at q2
    cases q2
  have hk : (w.setRow g M).heap[b']? = w.heap[b']? := by
    simp only [World.setRow, Array.getElem?_modify]
    rw [if_neg (fun e => hne e.symm)]
  refine ⟨b', hb', ?_, ?_, ?_⟩ <;> (unfold World.cell? at *; rw [hk]; assumption)
set_option maxHeartbeats 4000000 in
set_option maxRecDepth 20000 in
theorem proveBy_no (w : World) (ao : Option Addr) (n cp : Nat) (i : Int) (hi : ¬ (0 ≤ i ∧ i < (n : Int))) :
    Calls Try.prog 28 #[fn25, .slice ao n cp, .int .i64 i] w fun ev w' => ∃ e, ev = .returned (.tuple #[.agg #[.int .i64 0, .int .i64 0, .slice none 0 0], e]) ∧ Er w' e 2 0 ∧ Below w.heap.size w w' := by
  obtain ⟨W, hW⟩ : ∃ W, W = ((w.alloc (.cells #[fn25] 69)).alloc (.cells #[.slice ao n cp] 22)).alloc (.cells #[.int .i64 0, .int .i64 0, .slice none 0 0] 30) := ⟨_, rfl⟩
  have hA : Below w.heap.size w W := by
    rw [hW]; exact (((Below.refl w.heap.size w).alloc (Nat.le_refl _) _).alloc (by simp) _).alloc (by simp; omega) _
  have RR : Row W (w.heap.size + 1 + 1) 30 [.int .i64 0, .int .i64 0, .slice none 0 0] := by
    have := Row.new ((w.alloc (.cells #[fn25] 69)).alloc (.cells #[.slice ao n cp] 22)) 30 [.int .i64 0, .int .i64 0, .slice none 0 0]
    rw [hW]; exact (by simpa using this : Row _ (w.heap.size + 1 + 1) _ _)
  have HN := new_any W 2 0 (by omega)
  have h1c := one3 0 0 none 0 0
  have HP := place_no W i n hi
  have HA : Hid (Below w.heap.size w W) := hA
  have AW : Aside (W = ((w.alloc (.cells #[fn25] 69)).alloc (.cells #[.slice ao n cp] 22)).alloc (.cells #[.int .i64 0, .int .i64 0, .slice none 0 0] 30)) := hW
  have hle : w.heap.size ≤ w.heap.size + 1 + 1 := by omega
  clear hW hA hi
  unfold fn25 at *
  go_enter Try.func28, Try.ntmps28
  go_wp2_with fail
  refine Calls_at_world AW.out ?_
  refine HP.mono ?_
  rintro ev w1 ⟨rfl, rfl⟩
  go_wp2_with fail
  refine HN.mono ?_
  rintro ev w2 ⟨e, rfl, he, hb2⟩
  obtain ⟨eb, hE⟩ : ∃ b, e = .iface 83 (.pointer (some ⟨b, 0, none⟩)) := by
    obtain ⟨b, hb, _⟩ := he.shape
    exact ⟨b, hb⟩
  subst hE
  have R2 := RR.below hb2 RR.lt
  have hB2 := nextB HA.out hb2
  have HE : Hid (Er (w2.setRow (w.heap.size + 1 + 1) #[.int .i64 0, .int .i64 0, .slice none 0 0]) (.iface 83 (.pointer (some ⟨eb, 0, none⟩))) 2 0) := he.other R2 rfl _
  clear he hb2 HP HN RR
  go_wp2_with (first | (refine store30 rfl _ _ rfl w (w.heap.size + 1 + 1) _ _ _ h1c rfl rfl _ _ _ R2 _ hB2 hle ?_; intro w4 R4 hB4 HW4))
  refine bodyPost_ret (v := .tuple #[.agg #[.int .i64 0, .int .i64 0, .slice none 0 0], .iface 83 (.pointer (some ⟨eb, 0, none⟩))]) (results28_row _ _ (w.heap.size + 1 + 1) _ _ rfl rfl R4.heap Try.info30) rfl ⟨_, rfl, ?_, hB4⟩
  rw [HW4.out]; exact HE.out
theorem results13_row (tmps : Array Value) (w : World) (g : Nat) (cs : Array Value) (e : Value) (hp : tmps.getD 4 undef = .pointer (some ⟨g, 0, none⟩)) (he : tmps.getD 5 undef = e) (hg : w.heap[g]? = some (.cells cs 30 (0, 0))) (hi : (Try.prog.info? 30).map (·.size) = some cs.size) :
    (results Try.f13 tmps).run Try.prog w = .ok (.tuple #[.agg cs, e]) w := by
  have hp' : tmps[4]?.getD undef = .pointer (some ⟨g, 0, none⟩) := by simpa using hp
  have he' : tmps[5]?.getD undef = e := by simpa using he
  have hl : (loadVar 30 ⟨g, 0, none⟩).run Try.prog w = .ok (.agg cs) w := run_loadVar_row w g 30 30 cs (0, 0) _ hg Try.underlying30 rfl hi
  simp [results, Try.results13, hp', he', asAddr, hl]

set_option maxHeartbeats 4000000 in
theorem prove_yes (F : Bys → Bys) (E : Env F) (w : World) (v : Value) (L : List Bys) (h : Ls w v L) (hs : Short L) (h9 : L.length ≤ 1000000) (i : Nat) (hi : i < L.length) :
    Calls Try.prog 13 #[v, .int .i64 (i : Int)] w fun ev w' => ∃ ao cap, ev = .returned (.tuple #[.agg #[.int .i64 (i : Int), .int .i64 (L.length : Int), .slice ao (path F L i).length cap], .nilIface]) ∧ Hs w' (.slice ao (path F L i).length cap) (path F L i) ∧ (∀ k, (Value.slice ao (path F L i).length cap).ownBlock = some k → w.heap.size ≤ k) ∧ Below w.heap.size w w' := by
  obtain ⟨W, hW⟩ : ∃ W, W = w.alloc (.cells #[.int .i64 0, .int .i64 0, .slice none 0 0] 30) := ⟨_, rfl⟩
  have hA : Below w.heap.size w W := by rw [hW]; exact (Below.refl w.heap.size w).alloc (Nat.le_refl _) _
  have RR : Row W w.heap.size 30 [.int .i64 0, .int .i64 0, .slice none 0 0] := by rw [hW]; exact Row.new w 30 _
  have HP := proveBy_yes F E W v L (h.below hA) hs h9 i hi
  have HA : Hid (Below w.heap.size w W) := hA
  have AW : Aside (W = w.alloc (.cells #[.int .i64 0, .int .i64 0, .slice none 0 0] 30)) := hW
  clear hW hA h hs
  unfold fn25 at *
  generalize path F L i = P at *
  go_enter Try.func13, Try.ntmps13
  go_wp2_with fail
  refine Calls_at_world AW.out ?_
  refine HP.mono ?_
  rintro ev w2 ⟨pv, rfl, hH, hF, hb2⟩
  obtain ⟨ao, cap, rfl⟩ := hH.slice
  have R2 := RR.below hb2 RR.lt
  have hB2 := nextB HA.out hb2
  have h1c := one3 i L.length ao P.length cap
  have hle : w.heap.size ≤ w.heap.size := Nat.le_refl _
  have HF : Hid (∀ k, (Value.slice ao P.length cap).ownBlock = some k → w.heap.size + 1 ≤ k) := fun k e => by
    have := hF k e
    rw [AW.out] at this
    simpa using this
  clear hF
  clear HP RR hb2
  go_wp2_with (first | (refine store30 rfl _ _ rfl w w.heap.size _ _ _ h1c rfl rfl _ _ _ R2 _ hB2 hle ?_; intro w4 R4 hB4 HW4))
  refine bodyPost_ret (v := .tuple #[.agg #[.int .i64 (i : Int), .int .i64 (L.length : Int), .slice ao P.length cap], .nilIface]) (results13_row _ _ w.heap.size _ _ rfl rfl R4.heap Try.info30) rfl ⟨_, _, rfl, ?_, fun k e => by have := HF.out k e; omega, hB4⟩
  rw [HW4.out]
  exact hH.other _ _ (fun k e => by have := HF.out k e; omega)

set_option maxHeartbeats 4000000 in
theorem prove_no (w : World) (ao : Option Addr) (n cp : Nat) (i : Int) (hi : ¬ (0 ≤ i ∧ i < (n : Int))) :
    Calls Try.prog 13 #[.slice ao n cp, .int .i64 i] w fun ev w' => ∃ b, ev = .returned (.tuple #[.agg #[.int .i64 0, .int .i64 0, .slice none 0 0], .iface 83 (.pointer (some ⟨b, 0, none⟩))]) ∧ Er w' (.iface 83 (.pointer (some ⟨b, 0, none⟩))) 2 0 ∧ Below w.heap.size w w' := by
  obtain ⟨W, hW⟩ : ∃ W, W = w.alloc (.cells #[.int .i64 0, .int .i64 0, .slice none 0 0] 30) := ⟨_, rfl⟩
  have hA : Below w.heap.size w W := by rw [hW]; exact (Below.refl w.heap.size w).alloc (Nat.le_refl _) _
  have RR : Row W w.heap.size 30 [.int .i64 0, .int .i64 0, .slice none 0 0] := by rw [hW]; exact Row.new w 30 _
  have HP := proveBy_no W ao n cp i hi
  have HA : Hid (Below w.heap.size w W) := hA
  have AW : Aside (W = w.alloc (.cells #[.int .i64 0, .int .i64 0, .slice none 0 0] 30)) := hW
  clear hW hA hi
  unfold fn25 at *
  go_enter Try.func13, Try.ntmps13
  go_wp2_with fail
  refine Calls_at_world AW.out ?_
  refine HP.mono ?_
  rintro ev w2 ⟨e, rfl, he, hb2⟩
  obtain ⟨eb, hE⟩ : ∃ b, e = .iface 83 (.pointer (some ⟨b, 0, none⟩)) := by
    obtain ⟨b, hb, _⟩ := he.shape
    exact ⟨b, hb⟩
  subst hE
  have R2 := RR.below hb2 RR.lt
  have hB2 := nextB HA.out hb2
  have h1c := one3 0 0 none 0 0
  have hle : w.heap.size ≤ w.heap.size := Nat.le_refl _
  have HE : Hid (Er (w2.setRow w.heap.size #[.int .i64 0, .int .i64 0, .slice none 0 0]) (.iface 83 (.pointer (some ⟨eb, 0, none⟩))) 2 0) := he.other R2 rfl _
  clear HP RR hb2 he
  go_wp2_with (first | (refine store30 rfl _ _ rfl w w.heap.size _ _ _ h1c rfl rfl _ _ _ R2 _ hB2 hle ?_; intro w4 R4 hB4 HW4))
  refine bodyPost_ret (v := .tuple #[.agg #[.int .i64 0, .int .i64 0, .slice none 0 0], .iface 83 (.pointer (some ⟨eb, 0, none⟩))]) (results13_row _ _ w.heap.size _ _ rfl rfl R4.heap Try.info30) rfl ⟨_, rfl, ?_, hB4⟩
  rw [HW4.out]; exact HE.out
end Go.Proofs.Ytfkibbpekngciaa
