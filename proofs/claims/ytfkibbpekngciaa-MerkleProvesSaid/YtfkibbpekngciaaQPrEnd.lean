/-
  Words as bytes, the copy of the rest, the ending.
-/
import Derived.Test.YtfkibbpekngciaaJoinNum2xPr
import Derived.Lib.SliceRun
namespace Go.Proofs.Ytfkibbpekngciaa
open Go.RowKit

/-- The byte of a word that is so many bits up. -/
def byt (x : Int) (n : Nat) : UInt8 := UInt8.ofNat (x / n % 256).toNat
theorem byt_nat (x : Int) (n : Nat) : ((byt x n).toNat : Int) = x / n % 256 := by
  have h : 0 ≤ x / n % 256 ∧ x / n % 256 < 256 := ⟨Int.emod_nonneg _ (by decide), Int.emod_lt_of_pos _ (by decide)⟩
  unfold byt
  generalize x / n % 256 = y at *
  simp
  omega
def four (x : Int) : List UInt8 := [byt x 16777216, byt x 65536, byt x 256, byt x 1]

def z47 : List Value := bys (List.replicate 4 0)
set_option maxHeartbeats 1000000 in
theorem high_any (x : Int) (w : World) : Calls Try.prog 41 #[.int .u32 x] w fun ev w' => ev = .returned (.agg (bys (four x)).toArray) ∧ Below w.heap.size w w' := by
  have e : (bys (four x)).toArray = #[.int .u8 (x / 16777216 % 256), .int .u8 (x / 65536 % 256), .int .u8 (x / 256 % 256), .int .u8 (x % 256)] := by
    have h0 := byt_nat x 16777216
    have h1 := byt_nat x 65536
    have h2 := byt_nat x 256
    have h3 := byt_nat x 1
    show #[Value.int .u8 ((byt x 16777216).toNat : Int), .int .u8 ((byt x 65536).toNat : Int), .int .u8 ((byt x 256).toNat : Int), .int .u8 ((byt x 1).toNat : Int)] = _
    rw [h0, h1, h2, h3]
    simp
  have HB : Hid (∀ c, Below w.heap.size w (w.alloc (.cells c 74))) := fun c => (Below.refl _ _).alloc (Nat.le_refl _) _
  go_enter Try.func41, Try.ntmps41
  go_wp2
  refine bodyPost_ret (v := .agg _) (results_cell_row Try.results41 _ _ w.heap.size 74 _ (0, 0) _ rfl (heap_alloc_new w _) Try.underlying74 rfl Try.info74) rfl ⟨?_, HB.out _⟩
  rw [e]

/-- What came in, copied onto an empty slice. -/
theorem append_by {ops : Array Oper} {rest : List Oper} {o : Oper} {a : Act} {Q : Exit → Act → World → Prop} {w : World} {vb : Value} {l : List UInt8} (hgd : o.guard = none) (s x : Operand)
    (ho : o.op = .call { callee := .builtin .append, args := #[s, x], argTypes := #[39, 39] }) (hs : a.eval s = .slice (some ⟨w.heap.size, 0, none⟩) 0 0) (hx : a.eval x = vb) (hBy : Sl w vb l) (hl : l.length ≤ 1000000000000)
    (h : ∀ g cap w', w'.ownsRow w.heap.size 5 1 (.slice (some ⟨g, 0, none⟩) l.length cap) l.length (bys l) → Below w.heap.size w w' → wpList Try.prog ops Q rest (a.put o.dst (.slice (some ⟨g, 0, none⟩) l.length cap)) w') :
    wpList Try.prog ops Q (o :: rest) a (w.alloc (.cells #[] 5)) := by
  obtain ⟨i0, hi, hz0, hz1, hz2⟩ := info_parts Try.info5
  have hA : Below w.heap.size w (w.alloc (.cells #[] 5)) := (Below.refl _ _).alloc (Nat.le_refl _) _
  have hm : (w.alloc (.cells #[] 5)).ownsRow w.heap.size 5 1 (.slice (some ⟨w.heap.size, 0, none⟩) 0 0) 0 [] := World.ownsRow_made w #[] 0 (Nat.le_refl _) (by decide) rfl
  have key : ∀ (ad : Addr) (c : Nat), vb = .slice (some ad) l.length c → (∀ j u, (bys l)[j]? = some u → (w.alloc (.cells #[] 5)).cell? (ad.add j) = some u) → wpList Try.prog ops Q (o :: rest) a (w.alloc (.cells #[] 5)) := by
    intro ad c hv hc
    refine wpList_append_own_at (w := w.alloc (.cells #[] 5)) hgd s x 39 ho w.heap.size 5 i0 (.int .u8 0) 1 1 Try.underlying39 hi hz0 hz1 hz2 rfl (by decide) _ 0 [] hs hm ad l.length c (bys l) (hx.trans hv) (by simp [bys_len]) hc (bys_one l) (by unfold maxLen; omega) (by omega) (by simp) ?_
    intro v' w' hown hgrow hnil _
    have R : Below w.heap.size w w' := hA.grown hgrow (by simp) (fun k e => by simp [Value.ownBlock] at e; omega)
    rw [Nat.zero_add, List.nil_append] at hown
    rcases hown.2 with ⟨hv', h0⟩ | ⟨g, cap, cur, rfl, _⟩
    · exfalso
      rw [hv'] at hnil
      have := (hnil.1 rfl).1
      cases this
    · exact h g cap w' hown R
  rcases hBy.shape with ⟨_ | ad, hv, rfl⟩ | ⟨b, of, cap, hv, _, hc⟩
  · refine wpList_plain hgd fun K hK => ?_
    have hr : (Builtin.append_ #[39, 39] o.type #[.slice (some ⟨w.heap.size, 0, none⟩) 0 0, .slice none 0 0]).run Try.prog (w.alloc (.cells #[] 5)) = .ok (.slice (some ⟨w.heap.size, 0, none⟩) 0 0) (w.alloc (.cells #[] 5)) := by
      simp [Builtin.append_, run_underlying Try.underlying39, sizeOf, typeInfo, hi, storeCells, Builtin.lenOf, Builtin.firstCells]
    unfold Oper.wp execOp
    simp only [ho, resolve, invoke, builtin, Sem.run_bind, Sem.run_pure, Result.andThen_ok, List.map_toArray, List.map_cons, List.map_nil, hs, hx, hv, hr]
    exact hK _ _ (h w.heap.size 0 _ hm hA)
  · exact key ad 0 hv (fun j u hj => by simp [bys] at hj)
  · refine key ⟨b, of, none⟩ cap hv (fun j u hj => ?_)
    have hlt : j < l.length := by
      rcases Nat.lt_or_ge j l.length with h | h
      · exact h
      · rw [List.getElem?_eq_none (by rw [bys_len]; exact h)] at hj; cases hj
    rw [addr_add, hA.cell (p := ⟨b, of + j, none⟩) (World.block_lt_of_cell? w _ (hc j hlt)), hc j hlt, ← bys_get l j hlt]
    exact hj

theorem own_same {w w' : World} {B t n : Nat} {v : Value} {xs : List Value} (h : w.ownsRow B t 1 v n xs) (hs : ∀ k, v.ownBlock = some k → w'.heap[k]? = w.heap[k]?) : w'.ownsRow B t 1 v n xs := by
  refine ⟨h.1, ?_⟩
  rcases h.2 with hn | ⟨g, cap, cur, rfl, hb, hgg, rest⟩
  · exact .inl hn
  · exact .inr ⟨g, cap, cur, rfl, hb, by rw [hs g rfl]; exact hgg, rest⟩
theorem own_lower {w : World} {B B' t n : Nat} {v : Value} {xs : List Value} (h : w.ownsRow B t 1 v n xs) (hB : B' ≤ B) : w.ownsRow B' t 1 v n xs := by
  refine ⟨h.1, ?_⟩
  rcases h.2 with hn | ⟨g, cap, cur, rfl, hb, rest⟩
  · exact .inl hn
  · exact .inr ⟨g, cap, cur, rfl, by omega, rest⟩
theorem own_past {w w' : World} {B t n : Nat} {v : Value} {xs : List Value} (h : w.ownsRow B t 1 v n xs) (hb : Below w.heap.size w w') : w'.ownsRow B t 1 v n xs :=
  own_same h (fun k e => hb.block k (h.lt k e).2)
theorem own_shape {w : World} {B t n : Nat} {v : Value} {xs : List Value} (h : w.ownsRow B t 1 v n xs) : ∃ ao cap, v = .slice ao n cap := by
  rcases h.2 with ⟨rfl, rfl⟩ | ⟨g, cap, cur, rfl, _⟩
  · exact ⟨none, 0, rfl⟩
  · exact ⟨_, cap, rfl⟩

set_option maxHeartbeats 1000000 in
theorem clone_any (w : World) (v : Value) (l : List UInt8) (h : Sl w v l) (hl : l.length ≤ 1000000000000) :
    Calls Try.prog 56 #[v] w fun ev w' => ∃ v', ev = .returned v' ∧ w'.ownsRow w.heap.size 5 1 v' l.length (bys l) ∧ Below w.heap.size w w' := by
  have A : Aside (Sl w v l) := h
  rcases h.shape with ⟨_ | ad, rfl, rfl⟩ | ⟨b, o, cap, rfl, hcap, hc⟩
  · have hE := fun w => run_eql_nil_slice (P := Try.prog) w 39 5 none 0 0 0 0 Try.underlying39
    go_enter Try.func56, Try.ntmps56
    go_wp2_with fail
    go_ret
    exact ⟨_, rfl, World.ownsRow_nil _ _ _ _, Below.refl _ _⟩
  · clear h
    have hE : ∀ w : World, (binOp .eql 39 (.slice (some ad) 0 0) (.slice none 0 0)).run Try.prog w = .ok (.bool false) w := fun w => Lib.run_eql_slice_nil (P := Try.prog) w 39 5 (some ad) 0 0 0 0 Try.underlying39
    go_enter Try.func56, Try.ntmps56
    go_wp2_with (at_builtin; refine append_by rfl _ _ rfl rfl rfl A.out hl ?_; intro g gcap w1 hown hb1)
    go_ret
    exact ⟨_, rfl, hown, hb1⟩
  · clear hc h
    have hE : ∀ w : World, (binOp .eql 39 (.slice (some ⟨b, o, none⟩) l.length cap) (.slice none 0 0)).run Try.prog w = .ok (.bool false) w := fun w => Lib.run_eql_slice_nil (P := Try.prog) w 39 5 (some ⟨b, o, none⟩) l.length cap 0 0 Try.underlying39
    go_enter Try.func56, Try.ntmps56
    go_wp2_with (at_builtin; refine append_by rfl _ _ rfl rfl rfl A.out hl ?_; intro g gcap w1 hown hb1)
    go_ret
    exact ⟨_, rfl, hown, hb1⟩

/-- How many noughts follow the mark. -/
def noughts (n : Nat) : Nat := (119 - n % 64) % 64
theorem noughts_le (n : Nat) : noughts n < 64 := by unfold noughts; omega
theorem noughts_end (n : Nat) : (n + 1 + noughts n) % 64 = 56 := by unfold noughts; omega
theorem noughts_not (n j : Nat) (h : j < noughts n) : (n + 1 + j) % 64 ≠ 56 := by unfold noughts at h; omega

/-- The rest, filled up. -/
def ended (l : List UInt8) (bits : Nat) : List UInt8 := l ++ [128] ++ List.replicate (noughts l.length) 0 ++ four ((bits / 4294967296 % 4294967296 : Nat) : Int) ++ four ((bits % 4294967296 : Nat) : Int)
theorem ended_len (l : List UInt8) (bits : Nat) : (ended l bits).length = l.length + 9 + noughts l.length := by simp [ended, four]; omega
theorem grown_below {w w' : World} (h : Below w.heap.size w w') (row : Option Nat) : w.grownBy w' row := ⟨h.os, h.tape, h.output, h.size, fun k hk _ => h.block k hk⟩
theorem below_grown {B : Nat} {w w' : World} {row : Option Nat} (h : w.grownBy w' row) (hB : B ≤ w.heap.size) (hr : ∀ k, row = some k → B ≤ k) : Below B w w' :=
  (Below.refl B w).grown h hB hr
def lenV : Value → Nat
  | .slice _ n _ => n
  | _ => 0

/-- One append of bytes that lie at an address. -/
theorem app_at {ops : Array Oper} {rest : List Oper} {o : Oper} {a : Act} {Q : Exit → Act → World → Prop} {w : World} {B : Nat} {v : Value} {l nw : List UInt8} (hgd : o.guard = none) (s x : Operand)
    (ho : o.op = .call { callee := .builtin .append, args := #[s, x], argTypes := #[39, 39] }) (hs : a.eval s = v) (hown : w.ownsRow B 5 1 v l.length (bys l)) (hB : B ≤ w.heap.size)
    (g c : Nat) (hx : a.eval x = .slice (some ⟨g, 0, none⟩) nw.length c) (hc : ∀ j u, (bys nw)[j]? = some u → w.cell? ⟨g, j, none⟩ = some u) (hl : l.length + nw.length ≤ 100000000000000)
    (h : ∀ v' w', w'.ownsRow B 5 1 v' (l ++ nw).length (bys (l ++ nw)) → Below B w w' → w.grownBy w' v.ownBlock → wpList Try.prog ops Q rest (a.put o.dst v') w') :
    wpList Try.prog ops Q (o :: rest) a w := by
  obtain ⟨i0, hi, hz0, hz1, hz2⟩ := info_parts Try.info5
  refine wpList_append_own_at w hgd s x 39 ho B 5 i0 (.int .u8 0) 1 1 Try.underlying39 hi hz0 hz1 hz2 rfl (by decide) _ _ _ hs hown ⟨g, 0, none⟩ nw.length c (bys nw) hx (by simp [bys_len]) (fun j u hj => by rw [addr_add, Nat.zero_add]; exact hc j u hj) (bys_one nw) (by unfold maxLen; omega) (by omega) hB ?_
  intro v' w' hown' hgrow _ _
  refine h v' w' ?_ (below_grown hgrow hB (fun k e => (hown.lt k e).1)) hgrow
  rw [bys_app, List.length_append]; exact hown'

theorem new_bytes (w : World) (x : UInt8) : ∀ j u, (bys [x])[j]? = some u → (w.alloc (.cells #[.int .u8 (x.toNat : Int)] 5)).cell? ⟨w.heap.size, j, none⟩ = some u := fun j u hj => by
  have := (Row.new w 5 (bys [x])).cell j
  rw [← hj, ← this]; rfl

def fill (l : List UInt8) (j : Nat) : List UInt8 := l ++ [128] ++ List.replicate j 0
theorem fill_len (l : List UInt8) (j : Nat) : (fill l j).length = l.length + 1 + j := by simp [fill]; omega
theorem fill_next (l : List UInt8) (j : Nat) : fill l j ++ [0] = fill l (j + 1) := by
  simp [fill, List.replicate_succ']

set_option maxHeartbeats 4000000 in
set_option maxRecDepth 20000 in
theorem ending_any (w : World) (v : Value) (l : List UInt8) (n : Nat) (h : Sl w v l) (hl : l.length ≤ 1000000000000) :
    Calls Try.prog 40 #[v, .int .u64 (n : Int)] w fun ev w' => ∃ v', ev = .returned v' ∧ w'.ownsRow w.heap.size 5 1 v' (ended l n).length (bys (ended l n)) ∧ Below w.heap.size w w' := by
  have C := clone_any w v l h hl
  clear h
  go_enter Try.func40, Try.ntmps40
  go_wp2_with fail
  refine C.mono ?_
  rintro ev w1 ⟨v1, rfl, hown, hb⟩
  clear C
  obtain ⟨ao, cp, rfl⟩ := own_shape hown
  have hown1 : (w1.alloc (.cells #[.int .u8 128] 5)).ownsRow w.heap.size 5 1 (.slice ao l.length cp) l.length (bys l) := own_past hown ((Below.refl _ _).alloc (Nat.le_refl _) _)
  have HB1 : Hid (Below w.heap.size w (w1.alloc (.cells #[.int .u8 128] 5))) := hb.alloc hb.size _
  have hB1 : w.heap.size ≤ (w1.alloc (.cells #[.int .u8 128] 5)).heap.size := HB1.out.size
  have hN1 := new_bytes w1 128
  clear hown
  go_wp2_with (at_builtin; refine app_at (nw := [128]) rfl _ _ rfl rfl hown1 hB1 w1.heap.size 1 rfl hN1 (by simp; omega) ?_; intro v2 w2 hown2 hb2 _)
  have HI : Hid (Below w.heap.size w w2) := HB1.out.trans hb2
  have HO : Hid (w2.ownsRow w.heap.size 5 1 v2 (fill l 0).length (bys (fill l 0))) := by
    show _
    have e : fill l 0 = l ++ [128] := by simp [fill]
    rw [e]; exact hown2
  clear hown1 HB1 hB1 hN1 hown2 hb2 hb
  go_loopw [5] (fun v wr => ∃ j : Nat, j ≤ noughts l.length ∧ wr.ownsRow w.heap.size 5 1 v (fill l j).length (bys (fill l j)) ∧ Below w.heap.size w wr) (fun v _ => l.length + 65 - lenV v)
  case atStart => exact ⟨0, by omega, HO.out, HI.out⟩
  case round =>
    obtain ⟨j, hj, hown, hb⟩ := hrel
    clear HI HO
    obtain ⟨ao2, cp2, rfl⟩ := own_shape hown
    have hfl : (fill l j).length = l.length + 1 + j := fill_len l j
    have hj64 := noughts_le l.length
    by_cases hj3 : j < noughts l.length
    · have hne := noughts_not l.length j hj3
      have hmod : ((fill l j).length : Int) % 64 ≠ 56 := by rw [hfl]; omega
      have hown1 : (wr.alloc (.cells #[.int .u8 0] 5)).ownsRow w.heap.size 5 1 (.slice ao2 (fill l j).length cp2) (fill l j).length (bys (fill l j)) := own_past hown ((Below.refl _ _).alloc (Nat.le_refl _) _)
      have HB1 : Hid (Below w.heap.size w (wr.alloc (.cells #[.int .u8 0] 5))) := hb.alloc hb.size _
      have hB1 : w.heap.size ≤ (wr.alloc (.cells #[.int .u8 0] 5)).heap.size := HB1.out.size
      have hN1 := new_bytes wr 0
      have hll : (fill l j).length + 1 ≤ 100000000000000 := by omega
      clear hown hb
      have HF : Hid (fill l j ++ [0] = fill l (j + 1)) := fill_next l j
      generalize fill l j = F at *
      go_wp2_with (at_builtin; refine app_at (nw := [0]) rfl _ _ rfl rfl hown1 hB1 wr.heap.size 1 rfl hN1 hll ?_; intro v3 w3 hown3 hb3 _)
      rw [HF.out] at hown3
      go_roundw
      case rel => exact ⟨j + 1, by omega, hown3, HB1.out.trans hb3⟩
      case measure =>
        obtain ⟨ao3, cp3, rfl⟩ := own_shape hown3
        have := fill_len l (j + 1)
        simp [lenV]; omega
    · obtain rfl : j = noughts l.length := by omega
      have hend := noughts_end l.length
      have hmod : ((fill l (noughts l.length)).length : Int) % 64 = 56 := by rw [hfl]; omega
      have HE : Hid (ended l n = fill l (noughts l.length) ++ four ((n / 4294967296 % 4294967296 : Nat) : Int) ++ four ((n % 4294967296 : Nat) : Int)) := rfl
      have hll : (fill l (noughts l.length)).length ≤ 10000000000000 := by omega
      generalize fill l (noughts l.length) = F at *
      obtain ⟨hi32, HH⟩ : ∃ x : Int, Hid (x = ((n / 4294967296 % 4294967296 : Nat) : Int)) := ⟨_, rfl⟩
      obtain ⟨lo32, HL⟩ : ∃ x : Int, Hid (x = ((n % 4294967296 : Nat) : Int)) := ⟨_, rfl⟩
      have e1 : IntKind.u32.wrap ((n : Int) / 4294967296) = hi32 := by rw [IntKind.wrap_u32, HH.out]; omega
      have e2 : IntKind.u32.wrap (n : Int) = lo32 := by rw [IntKind.wrap_u32, HL.out]; omega
      rw [← HH.out, ← HL.out] at HE
      have HOw : Hid (wr.ownsRow w.heap.size 5 1 (.slice ao2 F.length cp2) F.length (bys F)) := hown
      have HBw : Hid (Below w.heap.size w wr) := hb
      clear hown hb hfl hend hj hj3
      have K1 := high_any hi32
      have K2 := high_any lo32
      obtain ⟨p0, p1, p2, p3, hp⟩ : ∃ p0 p1 p2 p3, four hi32 = [p0, p1, p2, p3] := ⟨_, _, _, _, rfl⟩
      obtain ⟨r0, r1, r2, r3, hr⟩ : ∃ p0 p1 p2 p3, four lo32 = [p0, p1, p2, p3] := ⟨_, _, _, _, rfl⟩
      rw [hp] at HE K1
      rw [hr] at HE K2
      clear hp hr
      have H1 : Hid _ := K1
      have H2 : Hid _ := K2
      clear K1 K2
      go_wp2_with fail
      refine (H1.out wr).mono ?_
      rintro ev w3 ⟨rfl, hb3⟩
      go_wp2_with fail
      refine (H2.out w3).mono ?_
      rintro ev w4 ⟨rfl, hb4⟩
      have hb34 : Below wr.heap.size wr w4 := hb3.trans (hb4.mono hb3.size)
      have HO4 : Hid (w4.ownsRow w.heap.size 5 1 (.slice ao2 F.length cp2) F.length (bys F)) := own_past HOw.out hb34
      have HB4 : Hid (Below w.heap.size w w4) := HBw.out.trans (hb34.mono HBw.out.size)
      clear hb3 hb4 hb34 HOw HBw H1 H2
      have e5 : (bys [p0, p1, p2, p3]).toArray = #[.int .u8 (p0.toNat : Int), .int .u8 (p1.toNat : Int), .int .u8 (p2.toNat : Int), .int .u8 (p3.toNat : Int)] := rfl
      have e6 : (bys [r0, r1, r2, r3]).toArray = #[.int .u8 (r0.toNat : Int), .int .u8 (r1.toNat : Int), .int .u8 (r2.toNat : Int), .int .u8 (r3.toNat : Int)] := rfl
      obtain ⟨W5, hW5⟩ : ∃ W, W = (w4.alloc (.cells (bys [p0, p1, p2, p3]).toArray 74)).alloc (.cells (bys [r0, r1, r2, r3]).toArray 74) := ⟨_, rfl⟩
      have hb45 : Below w4.heap.size w4 W5 := by rw [hW5]; exact ((Below.refl _ _).alloc (Nat.le_refl _) _).alloc (by simp) _
      have R1 : Row W5 w4.heap.size 74 (bys [p0, p1, p2, p3]) := by rw [hW5]; exact (Row.new w4 74 _).below ((Below.refl _ _).alloc (Nat.le_refl _) _) (by simp)
      have R2 : Row W5 (w4.heap.size + 1) 74 (bys [r0, r1, r2, r3]) := by
        have := Row.new (w4.alloc (.cells (bys [p0, p1, p2, p3]).toArray 74)) 74 (bys [r0, r1, r2, r3])
        rw [hW5]; simpa using this
      have hO5 := own_past HO4.out hb45
      have hB5 : Below w.heap.size w W5 := HB4.out.trans (hb45.mono HB4.out.size)
      have hlo : ∀ k, (Value.slice ao2 F.length cp2).ownBlock = some k → k < w4.heap.size := fun k e => (HO4.out.lt k e).2
      have hc1 : ∀ j u, (bys [p0, p1, p2, p3])[j]? = some u → W5.cell? ⟨w4.heap.size, j, none⟩ = some u := fun j u hj => (R1.cell j).trans hj
      have hsz5 := hB5.size
      have hlt2 := R2.lt
      rw [e5, e6] at hW5 ⊢
      have A5 : Aside (W5 = _) := hW5
      have HB5 : Hid (Below w.heap.size w W5) := hB5
      have HR2 : Hid (Row W5 (w4.heap.size + 1) 74 (bys [r0, r1, r2, r3])) := R2
      have HLO : Hid (∀ k, (Value.slice ao2 F.length cp2).ownBlock = some k → k < w4.heap.size) := hlo
      have hlen1 : F.length + [p0, p1, p2, p3].length ≤ 100000000000000 := by simp; omega
      clear hB5 R1 R2 hb45 HO4 HB4 hlo hW5
      have HK : Hid (∀ w6, W5.grownBy w6 (Value.slice ao2 F.length cp2).ownBlock → ∀ j u, (bys [r0, r1, r2, r3])[j]? = some u → w6.cell? ⟨w4.heap.size + 1, j, none⟩ = some u) := by
        intro w6 hgr j u hj
        have R6 : Row w6 (w4.heap.size + 1) 74 (bys [r0, r1, r2, r3]) := ⟨by rw [hgr.block (w4.heap.size + 1) hlt2 (fun e => by have := HLO.out _ e.symm; omega)]; exact HR2.out.heap⟩
        exact (R6.cell j).trans hj
      clear HR2 HLO hlt2
      go_wp2_with (first | (at_builtin; rw [← A5.out]; refine app_at (nw := [p0, p1, p2, p3]) rfl _ _ rfl rfl hO5 hsz5 w4.heap.size 4 rfl hc1 hlen1 ?_; intro v6 w6 hown6 hb6 hgr6; have hc2 := HK.out w6 hgr6; clear hgr6; obtain ⟨F6, hF6⟩ : ∃ F6, F6 = F ++ [p0, p1, p2, p3] := ⟨_, rfl⟩; have hlen2 : F6.length + [r0, r1, r2, r3].length ≤ 100000000000000 := (by rw [hF6]; simp; omega); rw [← hF6] at hown6; have HF6 : Hid (F6 = F ++ [p0, p1, p2, p3]) := hF6; clear hF6; have hB6 := HB5.out.trans hb6; have hsz6 := hB6.size; have HB6 : Hid (Below w.heap.size w w6) := hB6; obtain ⟨ao6, cp6, rfl⟩ := own_shape hown6; clear hb6 hB6) | (at_builtin; refine app_at (nw := [r0, r1, r2, r3]) rfl _ _ rfl rfl hown6 hsz6 (w4.heap.size + 1) 4 rfl hc2 hlen2 ?_; intro v7 w7 hown7 hb7 _))
      go_ret
      refine ⟨v7, rfl, ?_, HB6.out.trans hb7⟩
      rw [HE.out, ← HF6.out]; exact hown7
end Go.Proofs.Ytfkibbpekngciaa
