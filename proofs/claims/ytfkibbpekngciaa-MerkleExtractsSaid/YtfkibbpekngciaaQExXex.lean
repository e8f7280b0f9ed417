/-
  The document's own Extract.
-/
import Derived.Test.YtfkibbpekngciaaQExXer1
import Derived.Test.YtfkibbpekngciaaQExXer2
import Derived.Test.YtfkibbpekngciaaQExXpt
import Derived.Test.YtfkibbpekngciaaJoinXtf2xEx
namespace Go.Proofs.Ytfkibbpekngciaa
open Go.RowKit

theorem str_same {a b : Bys} (h : a = b) : ((str a).toList == (str b).toList) = true := by rw [h]; simp
theorem rev_getD (T : List Bys) (d : Nat) (h : d < T.length) : T.reverse.getD d [] = T.getD (T.length - 1 - d) [] := by
  simp [List.getD, List.getElem?_reverse h]
set_option maxHeartbeats 4000000 in
set_option maxRecDepth 20000 in
theorem xextract_out (w : World) (av ap ab : Option Addr) (nL cv lp cpp lb cb : Nat) (i n : Int) (hi : ¬ (0 ≤ i ∧ i < (nL : Int))) :
    Calls Try.prog 21 #[.slice av nL cv, .slice ab lb cb, .agg #[.int .i64 i, .int .i64 n, .slice ap lp cpp]] w fun ev w' => ev = .returned (.tuple #[.slice none 0 0, .slice none 0 0, .bool false]) ∧ Below w.heap.size w w' := by
  obtain ⟨W, hW⟩ : ∃ W, W = w.alloc (.cells #[.int .i64 i, .int .i64 n, .slice ap lp cpp] 30) := ⟨_, rfl⟩
  have hA : Below w.heap.size w W := by rw [hW]; exact (Below.refl w.heap.size w).alloc (Nat.le_refl _) _
  have RR : Row W w.heap.size 30 [.int .i64 i, .int .i64 n, .slice ap lp cpp] := by rw [hW]; exact Row.new w 30 _
  have HA : Hid (Below w.heap.size w W) := hA
  have AW : Aside (W = w.alloc (.cells #[.int .i64 i, .int .i64 n, .slice ap lp cpp] 30)) := hW
  have HC : Hid (∀ y, Below W.heap.size W y → y.cell? ⟨w.heap.size, 0, none⟩ = some (.int .i64 i) ∧ y.cell? ⟨w.heap.size, 1, none⟩ = some (.int .i64 n) ∧ y.cell? ⟨w.heap.size, 2, none⟩ = some (.slice ap lp cpp)) := fun y hy => ⟨(RR.below hy RR.lt).cell 0, (RR.below hy RR.lt).cell 1, (RR.below hy RR.lt).cell 2⟩
  clear hW hA RR
  by_cases h0 : i < 0
  · clear hi
    go_enter Try.func21, Try.ntmps21
    go_wp2_with fail
    refine wp_at_world AW.out ?_
    refine Code.wp_mono ?_ (xex_regAa W W w.heap.size ap lp cpp nL cv lb cb ab i n (Below.refl _ _) HC av h0 _ _ _ _ _ _ _ _ _ _ _ _ _ _ _ _ _ _ _ _ _ _ _ _ _ _ _ _ _ _ _ _ _ _ _ _ _ _ _ _ _ _ _ _ _ _ _ _ _ _ _ _ _ _ _ _ _ _ _ _ _ _ _ _ _ _ _ _ _ _ _ _ _ _ _ _ _ _ _ _ _ _ _ _ _ _ _ _ _ _ _ _ _ _ _ _ _ _ _ _ _ _ _ _ _ _ _ )
    rintro e a' w3 ⟨rfl, hb3, u15, u16, u17, u18, u19, u20, u21, u22, u23, u24, u25, u26, u27, u28, u29, u30, u31, u32, u33, u34, u35, u36, u37, u38, u39, u40, u41, u42, u43, u44, u45, u46, u47, u48, u49, rfl⟩
    dsimp only
    go_wp2_with fail
    go_ret3
    exact ⟨rfl, nextB HA.out hb3⟩
  · have h1 : (nL : Int) ≤ i := by omega
    have h2 : (0 : Int) ≤ i := by omega
    clear hi h0
    go_enter Try.func21, Try.ntmps21
    go_wp2_with fail
    refine wp_at_world AW.out ?_
    refine Code.wp_mono ?_ (xex_regA W W w.heap.size ap lp cpp nL cv lb cb ab i n (Below.refl _ _) HC av h2 h1 _ _ _ _ _ _ _ _ _ _ _ _ _ _ _ _ _ _ _ _ _ _ _ _ _ _ _ _ _ _ _ _ _ _ _ _ _ _ _ _ _ _ _ _ _ _ _ _ _ _ _ _ _ _ _ _ _ _ _ _ _ _ _ _ _ _ _ _ _ _ _ _ _ _ _ _ _ _ _ _ _ _ _ _ _ _ _ _ _ _ _ _ _ _ _ _ _ _ _ _ _ _ _ _ _ _ _ )
    rintro e a' w3 ⟨rfl, hb3, u15, u16, u17, u18, u19, u20, u21, u22, u23, u24, u25, u26, u27, u28, u29, u30, u31, u32, u33, u34, u35, u36, u37, u38, u39, u40, u41, u42, u43, u44, u45, u46, u47, u48, u49, rfl⟩
    dsimp only
    go_wp2_with fail
    go_ret3
    exact ⟨rfl, nextB HA.out hb3⟩
set_option maxHeartbeats 4000000 in
set_option maxRecDepth 20000 in
theorem xextract_bad (F : Bys → Bys) (E : Env2 F) (w : World) (lv bv pv : Value) (L : List Bys) (b : Bys) (i : Nat) (n : Int) (P : List Bys) (hL : Ls w lv L) (hs : Small L) (h9 : L.length ≤ 1000000) (hb : Sl w bv b) (hbl : b.length ≤ 1000) (hn : n ≤ 9223372036854775807) (hP : Hs w pv P) (hi : i < L.length) (hc : chk F (root F L) b i n P = false) :
    Calls Try.prog 21 #[lv, bv, .agg #[.int .i64 (i : Int), .int .i64 n, pv]] w fun ev w' => ∃ x y t, ev = .returned (.tuple #[x, y, t]) ∧ Two (xtr F L b i n P) x y t w' ∧ Below w.heap.size w w' := by
  obtain ⟨ap, cpp, rfl⟩ := hP.slice
  obtain ⟨ab, cb, rfl⟩ := sl_slice hb
  obtain ⟨W, hW⟩ : ∃ W, W = w.alloc (.cells #[.int .i64 (i : Int), .int .i64 n, .slice ap P.length cpp] 30) := ⟨_, rfl⟩
  have hA : Below w.heap.size w W := by rw [hW]; exact (Below.refl w.heap.size w).alloc (Nat.le_refl _) _
  have RR : Row W w.heap.size 30 [.int .i64 (i : Int), .int .i64 n, .slice ap P.length cpp] := by rw [hW]; exact Row.new w 30 _
  obtain ⟨bl, off, cap, fv, rfl, hcap, hcell⟩ := hL.some_ (by omega)
  obtain ⟨hc1, hs1⟩ := hcell i hi
  obtain ⟨ak, ck, ek⟩ := sl_slice hs1
  rw [ek] at hc1 hs1
  have hlk : (L.getD i []).length ≤ 1000 := hs _ (by simp [List.getElem?_eq_getElem hi])
  have HR : Hid (∀ y, Below W.heap.size W y → Calls Try.prog 12 #[.slice (some ⟨bl, off, none⟩) L.length cap] y fun ev w' => ev = .returned (.agg (bys (root F L)).toArray) ∧ Below y.heap.size y w') := fun y hy => xroot_any F E y _ L (hL.below (nextB hA hy)) hs h9
  have HCK : Hid (∀ y, Below W.heap.size W y → Calls Try.prog 18 #[.agg (bys (root F L)).toArray, .slice ab b.length cb, .agg #[.int .i64 (i : Int), .int .i64 n, .slice ap P.length cpp]] y fun ev w' => ev = .returned (.bool (chk F (root F L) b i n P)) ∧ Below y.heap.size y w') := fun y hy => xcheck_any F E y _ _ (root F L) b i n P (E.len _) (hb.below (nextB hA hy)) hbl hn (hP.below (nextB hA hy))
  have HX : Hid (∀ y, Below W.heap.size W y → Calls Try.prog 32 #[.slice ab b.length cb, .agg #[.int .i64 (i : Int), .int .i64 n, .slice ap P.length cpp]] y fun ev w' => Below y.heap.size y w' ∧ ((¬ Form i n P ∧ ev = .returned (.tuple #[.slice none 0 0, .bool false])) ∨ (Form i n P ∧ ∃ tv, ev = .returned (.tuple #[tv, .bool true]) ∧ Tx y.heap.size tv (texts F b (i : Int).toNat n.toNat P) w'))) := fun y hy => made_any F E y _ _ b i n P (hb.below (nextB hA hy)) hbl hn (hP.below (nextB hA hy))
  have HPA : Hid (∀ y, Below W.heap.size W y → Calls Try.prog 16 #[.slice (some ⟨bl, off, none⟩) L.length cap, .int .i64 (i : Int)] y fun ev w' => ∃ v', ev = .returned v' ∧ w'.ownsRow y.heap.size 26 32 v' (path F L i).length (rows26 (path F L i)) ∧ Below y.heap.size y w') := fun y hy => xpath_any F E y _ L i (hL.below (nextB hA hy)) hs hi h9
  have HE : Hid (∀ y, Below W.heap.size W y → y.cell? ⟨bl, off + i, none⟩ = some (.slice ak (L.getD i []).length ck) ∧ Sl y (.slice ak (L.getD i []).length ck) (L.getD i []) ∧ Sl y (.slice ab b.length cb) b) := fun y hy => by
    have hy' := nextB hA hy
    refine ⟨(hy'.cell (p := ⟨bl, off + i, none⟩) (World.block_lt_of_cell? w _ hc1)).trans hc1, hs1.below hy', hb.below hy'⟩
  have HA : Hid (Below w.heap.size w W) := hA
  have HRR : Hid (∀ y, Below W.heap.size W y → Row y w.heap.size 30 [.int .i64 (i : Int), .int .i64 n, .slice ap P.length cpp]) := fun y hy => RR.below hy RR.lt
  have HC : Hid (∀ y, Below W.heap.size W y → y.cell? ⟨w.heap.size, 0, none⟩ = some (.int .i64 (i : Int)) ∧ y.cell? ⟨w.heap.size, 1, none⟩ = some (.int .i64 n) ∧ y.cell? ⟨w.heap.size, 2, none⟩ = some (.slice ap P.length cpp)) := fun y hy => ⟨(RR.below hy RR.lt).cell 0, (RR.below hy RR.lt).cell 1, (RR.below hy RR.lt).cell 2⟩
  have HEL : Hid (∀ y, Below W.heap.size W y → y.cell? ⟨bl, off + i, none⟩ = some (.slice ak (L.getD i []).length ck)) := fun y hy => (HE.out y hy).1
  have HV1 : Hid (∀ y, Below W.heap.size W y → (convert 39 9 (.slice ak (L.getD i []).length ck)).run Try.prog y = .ok (.string (str (L.getD i []))) y) := fun y hy => conv_sl y _ _ (HE.out y hy).2.1
  have HV2 : Hid (∀ y, Below W.heap.size W y → (convert 39 9 (.slice ab b.length cb)).run Try.prog y = .ok (.string (str b)) y) := fun y hy => conv_sl y _ _ (HE.out y hy).2.2
  have AW : Aside (W = w.alloc (.cells #[.int .i64 (i : Int), .int .i64 n, .slice ap P.length cpp] 30)) := hW
  have i0 : (0 : Int) ≤ (i : Int) := by omega
  have i1 : (i : Int) < (L.length : Int) := by omega
  clear hW hA hcell hc1 hs1 ek hL hb hP RR
  rw [hc] at HCK
  have HN : Hid (xtr F L b i n P = none) := by
    show _ = _
    unfold xtr
    rw [if_neg]
    rintro ⟨_, _, h, _⟩
    rw [hc] at h; cases h
  clear hc
  go_enter Try.func21, Try.ntmps21
  go_wp2_with fail
  refine wp_at_world AW.out ?_
  refine Code.wp_mono ?_ (xex_regB W W w.heap.size ap P.length cpp L.length cap b.length cb ab i n (Below.refl _ _) HC (root F L) i0 i1 (some ⟨bl, off, none⟩) HR HCK _ _ _ _ _ _ _ _ _ _ _ _ _ _ _ _ _ _ _ _ _ _ _ _ _ _ _ _ _ _ _ _ _ _ _ _ _ _ _ _ _ _ _ _ _ _ _ _ _ _ _ _ _ _ _ _ _ _ _ _ _ _ _ _ _ _ _ _ _ _ _ _ _ _ _ _ _ _ _ _ _ _ _ _ _ _ _ _ _ _ _ _ _ _ _ _ _ _ _ _ _ _ _ _ _ _ _ )
  rintro e a' w3 ⟨rfl, hb3, u15, u16, u17, u18, u19, u20, u21, u22, u23, u24, u25, u26, u27, u28, u29, u30, u31, u32, u33, u34, u35, u36, u37, u38, u39, u40, u41, u42, u43, u44, u45, u46, u47, u48, u49, rfl⟩
  dsimp only
  go_wp2_with fail
  go_ret3
  exact ⟨_, _, _, rfl, .inl ⟨HN.out, rfl, rfl, rfl⟩, nextB HA.out hb3⟩
set_option maxHeartbeats 4000000 in
set_option maxRecDepth 20000 in
theorem xextract_own (F : Bys → Bys) (E : Env2 F) (w : World) (lv bv pv : Value) (L : List Bys) (b : Bys) (i : Nat) (n : Int) (P : List Bys) (hL : Ls w lv L) (hs : Small L) (h9 : L.length ≤ 1000000) (hb : Sl w bv b) (hbl : b.length ≤ 1000) (hn : n ≤ 9223372036854775807) (hP : Hs w pv P) (hi : i < L.length) (hc : chk F (root F L) b i n P = true) (how : n = (L.length : Int) ∧ b = L.getD i []) :
    Calls Try.prog 21 #[lv, bv, .agg #[.int .i64 (i : Int), .int .i64 n, pv]] w fun ev w' => ∃ x y t, ev = .returned (.tuple #[x, y, t]) ∧ Two (xtr F L b i n P) x y t w' ∧ Below w.heap.size w w' := by
  obtain ⟨ap, cpp, rfl⟩ := hP.slice
  obtain ⟨ab, cb, rfl⟩ := sl_slice hb
  obtain ⟨W, hW⟩ : ∃ W, W = w.alloc (.cells #[.int .i64 (i : Int), .int .i64 n, .slice ap P.length cpp] 30) := ⟨_, rfl⟩
  have hA : Below w.heap.size w W := by rw [hW]; exact (Below.refl w.heap.size w).alloc (Nat.le_refl _) _
  have RR : Row W w.heap.size 30 [.int .i64 (i : Int), .int .i64 n, .slice ap P.length cpp] := by rw [hW]; exact Row.new w 30 _
  obtain ⟨bl, off, cap, fv, rfl, hcap, hcell⟩ := hL.some_ (by omega)
  obtain ⟨hc1, hs1⟩ := hcell i hi
  obtain ⟨ak, ck, ek⟩ := sl_slice hs1
  rw [ek] at hc1 hs1
  have hlk : (L.getD i []).length ≤ 1000 := hs _ (by simp [List.getElem?_eq_getElem hi])
  have HR : Hid (∀ y, Below W.heap.size W y → Calls Try.prog 12 #[.slice (some ⟨bl, off, none⟩) L.length cap] y fun ev w' => ev = .returned (.agg (bys (root F L)).toArray) ∧ Below y.heap.size y w') := fun y hy => xroot_any F E y _ L (hL.below (nextB hA hy)) hs h9
  have HCK : Hid (∀ y, Below W.heap.size W y → Calls Try.prog 18 #[.agg (bys (root F L)).toArray, .slice ab b.length cb, .agg #[.int .i64 (i : Int), .int .i64 n, .slice ap P.length cpp]] y fun ev w' => ev = .returned (.bool (chk F (root F L) b i n P)) ∧ Below y.heap.size y w') := fun y hy => xcheck_any F E y _ _ (root F L) b i n P (E.len _) (hb.below (nextB hA hy)) hbl hn (hP.below (nextB hA hy))
  have HX : Hid (∀ y, Below W.heap.size W y → Calls Try.prog 32 #[.slice ab b.length cb, .agg #[.int .i64 (i : Int), .int .i64 n, .slice ap P.length cpp]] y fun ev w' => Below y.heap.size y w' ∧ ((¬ Form i n P ∧ ev = .returned (.tuple #[.slice none 0 0, .bool false])) ∨ (Form i n P ∧ ∃ tv, ev = .returned (.tuple #[tv, .bool true]) ∧ Tx y.heap.size tv (texts F b (i : Int).toNat n.toNat P) w'))) := fun y hy => made_any F E y _ _ b i n P (hb.below (nextB hA hy)) hbl hn (hP.below (nextB hA hy))
  have HPA : Hid (∀ y, Below W.heap.size W y → Calls Try.prog 16 #[.slice (some ⟨bl, off, none⟩) L.length cap, .int .i64 (i : Int)] y fun ev w' => ∃ v', ev = .returned v' ∧ w'.ownsRow y.heap.size 26 32 v' (path F L i).length (rows26 (path F L i)) ∧ Below y.heap.size y w') := fun y hy => xpath_any F E y _ L i (hL.below (nextB hA hy)) hs hi h9
  have HE : Hid (∀ y, Below W.heap.size W y → y.cell? ⟨bl, off + i, none⟩ = some (.slice ak (L.getD i []).length ck) ∧ Sl y (.slice ak (L.getD i []).length ck) (L.getD i []) ∧ Sl y (.slice ab b.length cb) b) := fun y hy => by
    have hy' := nextB hA hy
    refine ⟨(hy'.cell (p := ⟨bl, off + i, none⟩) (World.block_lt_of_cell? w _ hc1)).trans hc1, hs1.below hy', hb.below hy'⟩
  have HA : Hid (Below w.heap.size w W) := hA
  have HRR : Hid (∀ y, Below W.heap.size W y → Row y w.heap.size 30 [.int .i64 (i : Int), .int .i64 n, .slice ap P.length cpp]) := fun y hy => RR.below hy RR.lt
  have HC : Hid (∀ y, Below W.heap.size W y → y.cell? ⟨w.heap.size, 0, none⟩ = some (.int .i64 (i : Int)) ∧ y.cell? ⟨w.heap.size, 1, none⟩ = some (.int .i64 n) ∧ y.cell? ⟨w.heap.size, 2, none⟩ = some (.slice ap P.length cpp)) := fun y hy => ⟨(RR.below hy RR.lt).cell 0, (RR.below hy RR.lt).cell 1, (RR.below hy RR.lt).cell 2⟩
  have HEL : Hid (∀ y, Below W.heap.size W y → y.cell? ⟨bl, off + i, none⟩ = some (.slice ak (L.getD i []).length ck)) := fun y hy => (HE.out y hy).1
  have HV1 : Hid (∀ y, Below W.heap.size W y → (convert 39 9 (.slice ak (L.getD i []).length ck)).run Try.prog y = .ok (.string (str (L.getD i []))) y) := fun y hy => conv_sl y _ _ (HE.out y hy).2.1
  have HV2 : Hid (∀ y, Below W.heap.size W y → (convert 39 9 (.slice ab b.length cb)).run Try.prog y = .ok (.string (str b)) y) := fun y hy => conv_sl y _ _ (HE.out y hy).2.2
  have AW : Aside (W = w.alloc (.cells #[.int .i64 (i : Int), .int .i64 n, .slice ap P.length cpp] 30)) := hW
  have i0 : (0 : Int) ≤ (i : Int) := by omega
  have i1 : (i : Int) < (L.length : Int) := by omega
  clear hW hA hcell hc1 hs1 ek hL hb hP RR
  rw [hc] at HCK
  obtain ⟨hn1, hb1⟩ := how
  have HN : Hid (xtr F L b i n P = none) := by
    show _ = _
    unfold xtr
    rw [if_neg]
    rintro ⟨_, _, _, h⟩
    exact h ⟨hn1, by simpa using hb1⟩
  have HST : Hid (((str (L.getD i [])).toList == (str b).toList) = true) := str_same hb1.symm
  have HN1 : Hid (n = (L.length : Int)) := hn1
  clear hc hlk hn1 hb1
  go_enter Try.func21, Try.ntmps21
  go_wp2_with fail
  refine wp_at_world AW.out ?_
  refine Code.wp_mono ?_ (xex_regC W W w.heap.size ap P.length cpp L.length cap b.length cb ab i n (Below.refl _ _) HC (root F L) i0 i1 bl off HR HCK HN1.out i rfl ak _ ck _ _ HST.out HEL HV1 HV2 _ _ _ _ _ _ _ _ _ _ _ _ _ _ _ _ _ _ _ _ _ _ _ _ _ _ _ _ _ _ _ _ _ _ _ _ _ _ _ _ _ _ _ _ _ _ _ _ _ _ _ _ _ _ _ _ _ _ _ _ _ _ _ _ _ _ _ _ _ _ _ _ _ _ _ _ _ _ _ _ _ _ _ _ _ _ _ _ _ _ _ _ _ _ _ _ _ _ _ _ _ _ _ _ _ _ _ )
  rintro e a' w3 ⟨rfl, hb3, u15, u16, u17, u18, u19, u20, u21, u22, u23, u24, u25, u26, u27, u28, u29, u30, u31, u32, u33, u34, u35, u36, u37, u38, u39, u40, u41, u42, u43, u44, u45, u46, u47, u48, u49, rfl⟩
  dsimp only
  go_wp2_with fail
  go_ret3
  exact ⟨_, _, _, rfl, .inl ⟨HN.out, rfl, rfl, rfl⟩, nextB HA.out hb3⟩
set_option maxHeartbeats 4000000 in
set_option maxRecDepth 20000 in
theorem xextract_two (F : Bys → Bys) (E : Env2 F) (w : World) (lv bv pv : Value) (L : List Bys) (b : Bys) (i : Nat) (n : Int) (P : List Bys) (hL : Ls w lv L) (hs : Small L) (h9 : L.length ≤ 1000000) (hb : Sl w bv b) (hbl : b.length ≤ 1000) (hn : n ≤ 9223372036854775807) (hP : Hs w pv P) (hi : i < L.length) (hc : chk F (root F L) b i n P = true) (hne : ¬ (n = (L.length : Int) ∧ b = L.getD i [])) :
    Calls Try.prog 21 #[lv, bv, .agg #[.int .i64 (i : Int), .int .i64 n, pv]] w fun ev w' => ∃ x y t, ev = .returned (.tuple #[x, y, t]) ∧ Two (xtr F L b i n P) x y t w' ∧ Below w.heap.size w w' := by
  obtain ⟨ap, cpp, rfl⟩ := hP.slice
  obtain ⟨ab, cb, rfl⟩ := sl_slice hb
  obtain ⟨W, hW⟩ : ∃ W, W = w.alloc (.cells #[.int .i64 (i : Int), .int .i64 n, .slice ap P.length cpp] 30) := ⟨_, rfl⟩
  have hA : Below w.heap.size w W := by rw [hW]; exact (Below.refl w.heap.size w).alloc (Nat.le_refl _) _
  have RR : Row W w.heap.size 30 [.int .i64 (i : Int), .int .i64 n, .slice ap P.length cpp] := by rw [hW]; exact Row.new w 30 _
  obtain ⟨bl, off, cap, fv, rfl, hcap, hcell⟩ := hL.some_ (by omega)
  obtain ⟨hc1, hs1⟩ := hcell i hi
  obtain ⟨ak, ck, ek⟩ := sl_slice hs1
  rw [ek] at hc1 hs1
  have hlk : (L.getD i []).length ≤ 1000 := hs _ (by simp [List.getElem?_eq_getElem hi])
  have HR : Hid (∀ y, Below W.heap.size W y → Calls Try.prog 12 #[.slice (some ⟨bl, off, none⟩) L.length cap] y fun ev w' => ev = .returned (.agg (bys (root F L)).toArray) ∧ Below y.heap.size y w') := fun y hy => xroot_any F E y _ L (hL.below (nextB hA hy)) hs h9
  have HCK : Hid (∀ y, Below W.heap.size W y → Calls Try.prog 18 #[.agg (bys (root F L)).toArray, .slice ab b.length cb, .agg #[.int .i64 (i : Int), .int .i64 n, .slice ap P.length cpp]] y fun ev w' => ev = .returned (.bool (chk F (root F L) b i n P)) ∧ Below y.heap.size y w') := fun y hy => xcheck_any F E y _ _ (root F L) b i n P (E.len _) (hb.below (nextB hA hy)) hbl hn (hP.below (nextB hA hy))
  have HX : Hid (∀ y, Below W.heap.size W y → Calls Try.prog 32 #[.slice ab b.length cb, .agg #[.int .i64 (i : Int), .int .i64 n, .slice ap P.length cpp]] y fun ev w' => Below y.heap.size y w' ∧ ((¬ Form i n P ∧ ev = .returned (.tuple #[.slice none 0 0, .bool false])) ∨ (Form i n P ∧ ∃ tv, ev = .returned (.tuple #[tv, .bool true]) ∧ Tx y.heap.size tv (texts F b (i : Int).toNat n.toNat P) w'))) := fun y hy => made_any F E y _ _ b i n P (hb.below (nextB hA hy)) hbl hn (hP.below (nextB hA hy))
  have HPA : Hid (∀ y, Below W.heap.size W y → Calls Try.prog 16 #[.slice (some ⟨bl, off, none⟩) L.length cap, .int .i64 (i : Int)] y fun ev w' => ∃ v', ev = .returned v' ∧ w'.ownsRow y.heap.size 26 32 v' (path F L i).length (rows26 (path F L i)) ∧ Below y.heap.size y w') := fun y hy => xpath_any F E y _ L i (hL.below (nextB hA hy)) hs hi h9
  have HE : Hid (∀ y, Below W.heap.size W y → y.cell? ⟨bl, off + i, none⟩ = some (.slice ak (L.getD i []).length ck) ∧ Sl y (.slice ak (L.getD i []).length ck) (L.getD i []) ∧ Sl y (.slice ab b.length cb) b) := fun y hy => by
    have hy' := nextB hA hy
    refine ⟨(hy'.cell (p := ⟨bl, off + i, none⟩) (World.block_lt_of_cell? w _ hc1)).trans hc1, hs1.below hy', hb.below hy'⟩
  have HA : Hid (Below w.heap.size w W) := hA
  have HRR : Hid (∀ y, Below W.heap.size W y → Row y w.heap.size 30 [.int .i64 (i : Int), .int .i64 n, .slice ap P.length cpp]) := fun y hy => RR.below hy RR.lt
  have HC : Hid (∀ y, Below W.heap.size W y → y.cell? ⟨w.heap.size, 0, none⟩ = some (.int .i64 (i : Int)) ∧ y.cell? ⟨w.heap.size, 1, none⟩ = some (.int .i64 n) ∧ y.cell? ⟨w.heap.size, 2, none⟩ = some (.slice ap P.length cpp)) := fun y hy => ⟨(RR.below hy RR.lt).cell 0, (RR.below hy RR.lt).cell 1, (RR.below hy RR.lt).cell 2⟩
  have HEL : Hid (∀ y, Below W.heap.size W y → y.cell? ⟨bl, off + i, none⟩ = some (.slice ak (L.getD i []).length ck)) := fun y hy => (HE.out y hy).1
  have HV1 : Hid (∀ y, Below W.heap.size W y → (convert 39 9 (.slice ak (L.getD i []).length ck)).run Try.prog y = .ok (.string (str (L.getD i []))) y) := fun y hy => conv_sl y _ _ (HE.out y hy).2.1
  have HV2 : Hid (∀ y, Below W.heap.size W y → (convert 39 9 (.slice ab b.length cb)).run Try.prog y = .ok (.string (str b)) y) := fun y hy => conv_sl y _ _ (HE.out y hy).2.2
  have AW : Aside (W = w.alloc (.cells #[.int .i64 (i : Int), .int .i64 n, .slice ap P.length cpp] 30)) := hW
  have i0 : (0 : Int) ≤ (i : Int) := by omega
  have i1 : (i : Int) < (L.length : Int) := by omega
  clear hW hA hcell hc1 hs1 ek hL hb hP RR
  have hform : Form i n P := by
    have := hc
    unfold chk at this
    rw [Bool.and_eq_true] at this
    exact @of_decide_eq_true _ (decForm _ _ _) this.1
  obtain ⟨n, rfl⟩ : ∃ m : Nat, n = (m : Int) := ⟨n.toNat, by have := hform.1; have := hform.2.1; omega⟩
  have HX2 : Hid (∀ y, Below W.heap.size W y → Calls Try.prog 32 #[.slice ab b.length cb, .agg #[.int .i64 (i : Int), .int .i64 (n : Int), .slice ap P.length cpp]] y fun ev w' => Below y.heap.size y w' ∧ ∃ tv, ev = .returned (.tuple #[tv, .bool true]) ∧ Tx y.heap.size tv (texts F b i n P) w') := fun y hy => (HX.out y hy).mono (fun ev w' ⟨h1, h2⟩ => by
    rcases h2 with ⟨h2, _⟩ | ⟨_, h2⟩
    · exact absurd hform h2
    · exact ⟨h1, h2⟩)
  have HFO : Form i L.length (path F L i) := ⟨by omega, by omega, by simpa using lefts_path F L i⟩
  have HY2 : Hid (∀ y aq cq, Below W.heap.size W y → Hs y (.slice aq (path F L i).length cq) (path F L i) → Calls Try.prog 32 #[.slice ak (L.getD i []).length ck, .agg #[.int .i64 (i : Int), .int .i64 (L.length : Int), .slice aq (path F L i).length cq]] y fun ev w' => Below y.heap.size y w' ∧ ∃ tv, ev = .returned (.tuple #[tv, .bool true]) ∧ Tx y.heap.size tv (texts F (L.getD i []) i L.length (path F L i)) w') := fun y aq cq hy hH => (made_any F E y _ _ (L.getD i []) i L.length (path F L i) (HE.out y hy).2.1 hlk (by omega) hH).mono (fun ev w' ⟨h1, h2⟩ => by
    rcases h2 with ⟨h2, _⟩ | ⟨_, h2⟩
    · exact absurd HFO h2
    · exact ⟨h1, h2⟩)
  have HDD : Hid (xtr F L b i n P = diff (texts F b i n P).reverse (texts F (L.getD i []) i L.length (path F L i)).reverse) := by
    show _ = _
    unfold xtr
    rw [if_pos ⟨by omega, by omega, hc, fun h => hne ⟨h.1, by simpa using h.2⟩⟩]
    unfold extract
    simp
  have HL1 : Hid (0 < (texts F b i n P).length ∧ (texts F b i n P).length ≤ 1000000) := by
    refine ⟨texts_pos F b i n P, ?_⟩
    have h1 := hform.2.2
    have h2 := downs_64 i n (by omega)
    rw [texts_len _ _ _ _ _ (by simpa using h1)]
    simp only [Int.toNat_natCast] at h1
    unfold lefts at h1
    simp at h1
    omega
  have HL2 : Hid (0 < (texts F (L.getD i []) i L.length (path F L i)).length ∧ (texts F (L.getD i []) i L.length (path F L i)).length ≤ 1000000) := by
    refine ⟨texts_pos F _ i _ _, ?_⟩
    have h2 := downs_64 i L.length (by omega)
    rw [texts_len _ _ _ _ _ (lefts_path F L i)]
    simp [path]
    omega
  have HPM : Hid (∀ p ∈ path F L i, p.length = 32) := path_mem F E.len L i
  rw [hc] at HCK
  have hne2 : (¬ (n : Int) = (L.length : Int)) ∨ ((n : Int) = (L.length : Int) ∧ ¬ b = L.getD i []) := by
    by_cases h : (n : Int) = (L.length : Int)
    · exact .inr ⟨h, fun h' => hne ⟨h, h'⟩⟩
    · exact .inl h
  have HKN : Hid (∀ h : ¬ b = L.getD i [], ((str (L.getD i [])).toList == (str b).toList) = false) := fun h => str_apart (fun e => h e.symm)
  clear hc hform HFO HX HE hlk hne
  generalize texts F b i n P = T1 at *
  generalize texts F (L.getD i []) i L.length (path F L i) = T2 at *
  generalize path F L i = Pi at *
  generalize L.getD i [] = Li at *
  rcases hne2 with hn1 | ⟨hn1, hb1⟩
  · have HN1 : Hid (¬ (n : Int) = (L.length : Int)) := hn1
    clear hn1
    go_enter Try.func21, Try.ntmps21
    go_wp2_with fail
    refine wp_at_world AW.out ?_
    refine Code.wp_mono ?_ (xex_regD W W w.heap.size ap P.length cpp L.length cap b.length cb ab i n (Below.refl _ _) HC (root F L) i0 i1 bl off HR HCK HN1.out _ _ _ _ _ _ _ _ _ _ _ _ _ _ _ _ _ _ _ _ _ _ _ _ _ _ _ _ _ _ _ _ _ _ _ _ _ _ _ _ _ _ _ _ _ _ _ _ _ _ _ _ _ _ _ _ _ _ _ _ _ _ _ _ _ _ _ _ _ _ _ _ _ _ _ _ _ _ _ _ _ _ _ _ _ _ _ _ _ _ _ _ _ _ _ _ _ _ _ _ _ _ _ _ _ _ _ )
    rintro e a' w3 ⟨rfl, hb3, u15, u16, u17, u18, u19, u20, u21, u22, u23, u24, u25, u26, u27, u28, u29, u30, u31, u32, u33, u34, u35, u36, u37, u38, u39, u40, u41, u42, u43, u44, u45, u46, u47, u48, u49, rfl⟩
    dsimp only
    have R3 := HRR.out _ hb3
    clear HR HCK HV1 HV2
    go_wp2_with (first
      | (refine load30r rfl _ rfl w.heap.size _ _ _ rfl R3 ?_)
      | (go_at_call 32; refine (HX2.out _ hb3).mono ?_; rintro ev w4 ⟨hb4, tv, rfl, hT4⟩; have l4 := hT4.ls; obtain ⟨x1, y1, k1, f1, rfl, kk1, hc1⟩ := l4.some_ HL1.out.1))
    have HT1 : Hid (∀ y, Below w4.heap.size w4 y → ∀ j, j < T1.length → y.cell? ⟨x1, y1 + j, none⟩ = some (f1 j) ∧ Sl y (f1 j) (T1.getD j [])) := fun y hy j hj => ⟨(hy.cell (p := ⟨x1, y1 + j, none⟩) (World.block_lt_of_cell? w4 _ (hc1 j hj).1)).trans (hc1 j hj).1, (hc1 j hj).2.below hy⟩
    have hD4 := nextB hb3 hb4
    have hDd := hD4.drew
    have q4 : w4.drew.cell? ⟨w.heap.size, 0, none⟩ = some (.int .i64 (i : Int)) ∧ w4.drew.cell? ⟨bl, off + i, none⟩ = some (.slice ak Li.length ck) := ⟨(HC.out _ hDd).1, HEL.out _ hDd⟩
    have HPA4 := HPA.out _ hDd
    have HB4 : Hid (Below w4.heap.size w4 w4.drew) := (Below.refl _ _).drew
    clear HX2 hc1 l4 hT4 R3 kk1 HPA hb4 hb3
    go_region_held3 (fun y => y.cell? ⟨w.heap.size, 0, none⟩ = some (.int .i64 (i : Int)) ∧ y.cell? ⟨bl, off + i, none⟩ = some (.slice ak Li.length ck)) (assumption) (first
      | (go_at_call 16; refine HPA4.mono ?_; rintro ev w5 ⟨v5, rfl, ho5, hb5⟩; obtain ⟨aq, cq, rfl⟩ := own_shape' ho5; have hH5 := Hs.ofOwn ho5 HPM.out; have hD5 := nextB hDd hb5; have q5 : w5.cell? ⟨w.heap.size, 0, none⟩ = some (.int .i64 (i : Int)) ∧ w5.cell? ⟨bl, off + i, none⟩ = some (.slice ak Li.length ck) := ⟨(HC.out _ hD5).1, HEL.out _ hD5⟩; have HB5 : Hid _ := nextB HB4.out hb5; clear HPA4 ho5 hb5)
      | (go_at_call 32; refine (HY2.out _ _ _ hD5 hH5).mono ?_; rintro ev w6 ⟨hb6, tv2, rfl, hT6⟩; have l6 := hT6.ls; obtain ⟨x2, y2, k2, f2, rfl, kk2, hc2⟩ := l6.some_ HL2.out.1; have hD6 := nextB hD5 hb6; have q6 : w6.cell? ⟨w.heap.size, 0, none⟩ = some (.int .i64 (i : Int)) ∧ w6.cell? ⟨bl, off + i, none⟩ = some (.slice ak Li.length ck) := ⟨(HC.out _ hD6).1, HEL.out _ hD6⟩; have HB6 : Hid _ := nextB HB5.out hb6))
    have em1 : IntKind.i64.wrap ((T1.length : Int) - 1) = (T1.length : Int) - 1 := by rw [IntKind.wrap_i64]; have := HL1.out; omega
    have em2 : IntKind.i64.wrap ((T2.length : Int) - 1) = (T2.length : Int) - 1 := by rw [IntKind.wrap_i64]; have := HL2.out; omega
    go_wp2_with fail
    have HF1 : Hid (∀ y, Below w6.heap.size w6 y → ∀ j, j < T1.length → y.cell? ⟨x1, y1 + j, none⟩ = some (f1 j) ∧ Sl y (f1 j) (T1.getD j [])) := fun y hy => HT1.out y (nextB HB6.out hy)
    have HF2 : Hid (∀ y, Below w6.heap.size w6 y → ∀ j, j < T2.length → y.cell? ⟨x2, y2 + j, none⟩ = some (f2 j) ∧ Sl y (f2 j) (T2.getD j [])) := fun y hy j hj => ⟨(hy.cell (p := ⟨x2, y2 + j, none⟩) (World.block_lt_of_cell? w6 _ (hc2 j hj).1)).trans (hc2 j hj).1, (hc2 j hj).2.below hy⟩
    have HBW : Hid (Below w.heap.size w w6) := nextB HA.out hD6
    clear HT1 HB6 HB5 HB4 hc2 l6 hT6 kk2 q4 q5 q6 hD4 hDd hD5 hD6 hb6 hH5 HY2 HC HEL HRR em1 em2
    go_loopw [13, 14] (fun t u wr => ∃ (d : Nat) (p q : Int), p = (T1.length : Int) - 1 - d ∧ q = (T2.length : Int) - 1 - d ∧ (d ≤ T1.length ∧ d ≤ T2.length) ∧ Hid (diff T1.reverse T2.reverse = diff (T1.reverse.drop d) (T2.reverse.drop d)) ∧ t = .int .i64 p ∧ u = .int .i64 q ∧ Below w6.heap.size w6 wr) (fun t _ _ => (intOf t + 1).toNat)
    case atStart => exact ⟨0, _, _, by omega, by omega, ⟨by omega, by omega⟩, rfl, rfl, rfl, Below.refl _ _⟩
    case round =>
      obtain ⟨d, p, q, hp, hq, ⟨hd1, hd2⟩, hI, rfl, rfl, hbr⟩ := hrel
      have HB : Hid (Below w6.heap.size w6 wr) := hbr
      have hl1 := HL1.out
      have hl2 := HL2.out
      by_cases hdd : d < T1.length ∧ d < T2.length
      · obtain ⟨hx1, hx2⟩ := hdd
        obtain ⟨pa, hpa⟩ : ∃ pa, pa = T1.length - 1 - d := ⟨_, rfl⟩
        obtain ⟨qa, hqa⟩ : ∃ qa, qa = T2.length - 1 - d := ⟨_, rfl⟩
        obtain rfl : p = (pa : Int) := by omega
        obtain rfl : q = (qa : Int) := by omega
        have e1 := rev_getD T1 d hx1
        have e2 := rev_getD T2 d hx2
        rw [← hpa] at e1
        rw [← hqa] at e2
        obtain ⟨c1, s1⟩ := HF1.out wr hbr pa (by omega)
        obtain ⟨c2, s2⟩ := HF2.out wr hbr qa (by omega)
        rw [← e1] at s1
        rw [← e2] at s2
        have g1 : (pa : Int) < (T1.length : Int) := by omega
        have g2 : (qa : Int) < (T2.length : Int) := by omega
        have g3 : (0 : Int) ≤ (pa : Int) := by omega
        have g4 : (0 : Int) ≤ (qa : Int) := by omega
        have v1 : ∀ m, (convert 39 9 (f1 pa)).run Try.prog (wr.drewN m) = .ok (.string (str (T1.reverse.getD d []))) (wr.drewN m) := fun m => conv_sl _ _ _ (s1.below (below_drewN (Below.refl _ _) _))
        have v2 : ∀ m, (convert 39 9 (f2 qa)).run Try.prog (wr.drewN m) = .ok (.string (str (T2.reverse.getD d []))) (wr.drewN m) := fun m => conv_sl _ _ _ (s2.below (below_drewN (Below.refl _ _) _))
        have w1 : IntKind.i64.wrap ((pa : Int) - 1) = (pa : Int) - 1 := by rw [IntKind.wrap_i64]; omega
        have w2 : IntKind.i64.wrap ((qa : Int) - 1) = (qa : Int) - 1 := by rw [IntKind.wrap_i64]; omega
        by_cases he : T1.reverse.getD d [] = T2.reverse.getD d []
        · have HI : Hid (diff T1.reverse T2.reverse = diff (T1.reverse.drop (d + 1)) (T2.reverse.drop (d + 1))) := hI.out.trans (diff_next _ _ d (by simpa using hx1) (by simpa using hx2) he)
          have hst := str_same he
          have HPQ : Hid ((pa : Int) = (T1.length : Int) - 1 - d ∧ (qa : Int) = (T2.length : Int) - 1 - d ∧ d + 1 ≤ T1.length ∧ d + 1 ≤ T2.length) := ⟨by omega, by omega, by omega, by omega⟩
          clear he s1 s2 e1 e2 hI hp hq hpa hqa hbr HF1 HF2 HDD hl1 hl2 hd1 hd2 hx1 hx2
          generalize str (T1.reverse.getD d []) = S1 at *
          generalize str (T2.reverse.getD d []) = S2 at *
          generalize f1 pa = z1 at *
          generalize f2 qa = z2 at *
          go_wp2_with fail
          go_quiet (fail)
          go_wp2_with fail
          go_roundw
          case rel => exact ⟨d + 1, _, _, by have := HPQ.out; omega, by have := HPQ.out; omega, HPQ.out.2.2, HI, rfl, rfl, below_drewN HB.out _⟩
          case measure => simp [intOf] <;> omega
        · have HR : Hid (diff T1.reverse T2.reverse = some (T1.reverse.getD d [], T2.reverse.getD d [])) := hI.out.trans (diff_here _ _ d (by simpa using hx1) (by simpa using hx2) he)
          have hst := str_apart he
          have HS1 : Hid _ := s1
          have HS2 : Hid _ := s2
          clear he s1 s2 e1 e2 hI hp hq hpa hqa hbr HF1 HF2 hl1 hl2 hd1 hd2 hx1 hx2 w1 w2
          generalize T1.reverse.getD d [] = t1 at *
          generalize T2.reverse.getD d [] = t2 at *
          generalize str t1 = S1 at *
          generalize str t2 = S2 at *
          generalize f1 pa = z1 at *
          generalize f2 qa = z2 at *
          go_wp2_with fail
          go_quiet (fail)
          go_wp2_with fail
          go_quiet (fail)
          go_wp2_with fail
          go_ret3
          exact ⟨_, _, _, rfl, .inr ⟨_, _, HDD.out.trans HR.out, rfl, HS1.out.below (below_drewN (below_drewN (Below.refl _ _) _) _), HS2.out.below (below_drewN (below_drewN (Below.refl _ _) _) _)⟩, below_drewN (below_drewN (nextB HBW.out HB.out) _) _⟩
      · have HR : Hid (diff T1.reverse T2.reverse = none) := hI.out.trans (diff_end _ _ d (by simp; omega))
        have hpq : p < 0 ∨ (0 ≤ p ∧ q < 0) := by omega
        clear hI hp hq hbr HF1 HF2 hdd hl1 hl2 hd1 hd2
        rcases hpq with h1 | ⟨h1, h2⟩
        · go_wp2_with fail
          go_ret3
          exact ⟨_, _, _, rfl, .inl ⟨HDD.out.trans HR.out, rfl, rfl, rfl⟩, nextB HBW.out HB.out⟩
        · go_wp2_with fail
          go_ret3
          exact ⟨_, _, _, rfl, .inl ⟨HDD.out.trans HR.out, rfl, rfl, rfl⟩, nextB HBW.out HB.out⟩
  · have HN1 : Hid ((n : Int) = (L.length : Int)) := hn1
    have HST : Hid _ := HKN.out hb1
    clear hn1 hb1
    go_enter Try.func21, Try.ntmps21
    go_wp2_with fail
    refine wp_at_world AW.out ?_
    refine Code.wp_mono ?_ (xex_regE W W w.heap.size ap P.length cpp L.length cap b.length cb ab i n (Below.refl _ _) HC (root F L) i0 i1 bl off HR HCK HN1.out i rfl ak _ ck _ _ HST.out HEL HV1 HV2 _ _ _ _ _ _ _ _ _ _ _ _ _ _ _ _ _ _ _ _ _ _ _ _ _ _ _ _ _ _ _ _ _ _ _ _ _ _ _ _ _ _ _ _ _ _ _ _ _ _ _ _ _ _ _ _ _ _ _ _ _ _ _ _ _ _ _ _ _ _ _ _ _ _ _ _ _ _ _ _ _ _ _ _ _ _ _ _ _ _ _ _ _ _ _ _ _ _ _ _ _ _ _ _ _ _ _ )
    rintro e a' w3 ⟨rfl, hb3, u15, u16, u17, u18, u19, u20, u21, u22, u23, u24, u25, u26, u27, u28, u29, u30, u31, u32, u33, u34, u35, u36, u37, u38, u39, u40, u41, u42, u43, u44, u45, u46, u47, u48, u49, rfl⟩
    dsimp only
    have R3 := HRR.out _ hb3
    clear HR HCK HV1 HV2
    go_wp2_with (first
      | (refine load30r rfl _ rfl w.heap.size _ _ _ rfl R3 ?_)
      | (go_at_call 32; refine (HX2.out _ hb3).mono ?_; rintro ev w4 ⟨hb4, tv, rfl, hT4⟩; have l4 := hT4.ls; obtain ⟨x1, y1, k1, f1, rfl, kk1, hc1⟩ := l4.some_ HL1.out.1))
    have HT1 : Hid (∀ y, Below w4.heap.size w4 y → ∀ j, j < T1.length → y.cell? ⟨x1, y1 + j, none⟩ = some (f1 j) ∧ Sl y (f1 j) (T1.getD j [])) := fun y hy j hj => ⟨(hy.cell (p := ⟨x1, y1 + j, none⟩) (World.block_lt_of_cell? w4 _ (hc1 j hj).1)).trans (hc1 j hj).1, (hc1 j hj).2.below hy⟩
    have hD4 := nextB hb3 hb4
    have hDd := hD4.drew
    have q4 : w4.drew.cell? ⟨w.heap.size, 0, none⟩ = some (.int .i64 (i : Int)) ∧ w4.drew.cell? ⟨bl, off + i, none⟩ = some (.slice ak Li.length ck) := ⟨(HC.out _ hDd).1, HEL.out _ hDd⟩
    have HPA4 := HPA.out _ hDd
    have HB4 : Hid (Below w4.heap.size w4 w4.drew) := (Below.refl _ _).drew
    clear HX2 hc1 l4 hT4 R3 kk1 HPA hb4 hb3
    go_region_held3 (fun y => y.cell? ⟨w.heap.size, 0, none⟩ = some (.int .i64 (i : Int)) ∧ y.cell? ⟨bl, off + i, none⟩ = some (.slice ak Li.length ck)) (assumption) (first
      | (go_at_call 16; refine HPA4.mono ?_; rintro ev w5 ⟨v5, rfl, ho5, hb5⟩; obtain ⟨aq, cq, rfl⟩ := own_shape' ho5; have hH5 := Hs.ofOwn ho5 HPM.out; have hD5 := nextB hDd hb5; have q5 : w5.cell? ⟨w.heap.size, 0, none⟩ = some (.int .i64 (i : Int)) ∧ w5.cell? ⟨bl, off + i, none⟩ = some (.slice ak Li.length ck) := ⟨(HC.out _ hD5).1, HEL.out _ hD5⟩; have HB5 : Hid _ := nextB HB4.out hb5; clear HPA4 ho5 hb5)
      | (go_at_call 32; refine (HY2.out _ _ _ hD5 hH5).mono ?_; rintro ev w6 ⟨hb6, tv2, rfl, hT6⟩; have l6 := hT6.ls; obtain ⟨x2, y2, k2, f2, rfl, kk2, hc2⟩ := l6.some_ HL2.out.1; have hD6 := nextB hD5 hb6; have q6 : w6.cell? ⟨w.heap.size, 0, none⟩ = some (.int .i64 (i : Int)) ∧ w6.cell? ⟨bl, off + i, none⟩ = some (.slice ak Li.length ck) := ⟨(HC.out _ hD6).1, HEL.out _ hD6⟩; have HB6 : Hid _ := nextB HB5.out hb6))
    have em1 : IntKind.i64.wrap ((T1.length : Int) - 1) = (T1.length : Int) - 1 := by rw [IntKind.wrap_i64]; have := HL1.out; omega
    have em2 : IntKind.i64.wrap ((T2.length : Int) - 1) = (T2.length : Int) - 1 := by rw [IntKind.wrap_i64]; have := HL2.out; omega
    go_wp2_with fail
    have HF1 : Hid (∀ y, Below w6.heap.size w6 y → ∀ j, j < T1.length → y.cell? ⟨x1, y1 + j, none⟩ = some (f1 j) ∧ Sl y (f1 j) (T1.getD j [])) := fun y hy => HT1.out y (nextB HB6.out hy)
    have HF2 : Hid (∀ y, Below w6.heap.size w6 y → ∀ j, j < T2.length → y.cell? ⟨x2, y2 + j, none⟩ = some (f2 j) ∧ Sl y (f2 j) (T2.getD j [])) := fun y hy j hj => ⟨(hy.cell (p := ⟨x2, y2 + j, none⟩) (World.block_lt_of_cell? w6 _ (hc2 j hj).1)).trans (hc2 j hj).1, (hc2 j hj).2.below hy⟩
    have HBW : Hid (Below w.heap.size w w6) := nextB HA.out hD6
    clear HT1 HB6 HB5 HB4 hc2 l6 hT6 kk2 q4 q5 q6 hD4 hDd hD5 hD6 hb6 hH5 HY2 HC HEL HRR em1 em2
    go_loopw [13, 14] (fun t u wr => ∃ (d : Nat) (p q : Int), p = (T1.length : Int) - 1 - d ∧ q = (T2.length : Int) - 1 - d ∧ (d ≤ T1.length ∧ d ≤ T2.length) ∧ Hid (diff T1.reverse T2.reverse = diff (T1.reverse.drop d) (T2.reverse.drop d)) ∧ t = .int .i64 p ∧ u = .int .i64 q ∧ Below w6.heap.size w6 wr) (fun t _ _ => (intOf t + 1).toNat)
    case atStart => exact ⟨0, _, _, by omega, by omega, ⟨by omega, by omega⟩, rfl, rfl, rfl, Below.refl _ _⟩
    case round =>
      obtain ⟨d, p, q, hp, hq, ⟨hd1, hd2⟩, hI, rfl, rfl, hbr⟩ := hrel
      have HB : Hid (Below w6.heap.size w6 wr) := hbr
      have hl1 := HL1.out
      have hl2 := HL2.out
      by_cases hdd : d < T1.length ∧ d < T2.length
      · obtain ⟨hx1, hx2⟩ := hdd
        obtain ⟨pa, hpa⟩ : ∃ pa, pa = T1.length - 1 - d := ⟨_, rfl⟩
        obtain ⟨qa, hqa⟩ : ∃ qa, qa = T2.length - 1 - d := ⟨_, rfl⟩
        obtain rfl : p = (pa : Int) := by omega
        obtain rfl : q = (qa : Int) := by omega
        have e1 := rev_getD T1 d hx1
        have e2 := rev_getD T2 d hx2
        rw [← hpa] at e1
        rw [← hqa] at e2
        obtain ⟨c1, s1⟩ := HF1.out wr hbr pa (by omega)
        obtain ⟨c2, s2⟩ := HF2.out wr hbr qa (by omega)
        rw [← e1] at s1
        rw [← e2] at s2
        have g1 : (pa : Int) < (T1.length : Int) := by omega
        have g2 : (qa : Int) < (T2.length : Int) := by omega
        have g3 : (0 : Int) ≤ (pa : Int) := by omega
        have g4 : (0 : Int) ≤ (qa : Int) := by omega
        have v1 : ∀ m, (convert 39 9 (f1 pa)).run Try.prog (wr.drewN m) = .ok (.string (str (T1.reverse.getD d []))) (wr.drewN m) := fun m => conv_sl _ _ _ (s1.below (below_drewN (Below.refl _ _) _))
        have v2 : ∀ m, (convert 39 9 (f2 qa)).run Try.prog (wr.drewN m) = .ok (.string (str (T2.reverse.getD d []))) (wr.drewN m) := fun m => conv_sl _ _ _ (s2.below (below_drewN (Below.refl _ _) _))
        have w1 : IntKind.i64.wrap ((pa : Int) - 1) = (pa : Int) - 1 := by rw [IntKind.wrap_i64]; omega
        have w2 : IntKind.i64.wrap ((qa : Int) - 1) = (qa : Int) - 1 := by rw [IntKind.wrap_i64]; omega
        by_cases he : T1.reverse.getD d [] = T2.reverse.getD d []
        · have HI : Hid (diff T1.reverse T2.reverse = diff (T1.reverse.drop (d + 1)) (T2.reverse.drop (d + 1))) := hI.out.trans (diff_next _ _ d (by simpa using hx1) (by simpa using hx2) he)
          have hst := str_same he
          have HPQ : Hid ((pa : Int) = (T1.length : Int) - 1 - d ∧ (qa : Int) = (T2.length : Int) - 1 - d ∧ d + 1 ≤ T1.length ∧ d + 1 ≤ T2.length) := ⟨by omega, by omega, by omega, by omega⟩
          clear he s1 s2 e1 e2 hI hp hq hpa hqa hbr HF1 HF2 HDD hl1 hl2 hd1 hd2 hx1 hx2
          generalize str (T1.reverse.getD d []) = S1 at *
          generalize str (T2.reverse.getD d []) = S2 at *
          generalize f1 pa = z1 at *
          generalize f2 qa = z2 at *
          go_wp2_with fail
          go_quiet (fail)
          go_wp2_with fail
          go_roundw
          case rel => exact ⟨d + 1, _, _, by have := HPQ.out; omega, by have := HPQ.out; omega, HPQ.out.2.2, HI, rfl, rfl, below_drewN HB.out _⟩
          case measure => simp [intOf] <;> omega
        · have HR : Hid (diff T1.reverse T2.reverse = some (T1.reverse.getD d [], T2.reverse.getD d [])) := hI.out.trans (diff_here _ _ d (by simpa using hx1) (by simpa using hx2) he)
          have hst := str_apart he
          have HS1 : Hid _ := s1
          have HS2 : Hid _ := s2
          clear he s1 s2 e1 e2 hI hp hq hpa hqa hbr HF1 HF2 hl1 hl2 hd1 hd2 hx1 hx2 w1 w2
          generalize T1.reverse.getD d [] = t1 at *
          generalize T2.reverse.getD d [] = t2 at *
          generalize str t1 = S1 at *
          generalize str t2 = S2 at *
          generalize f1 pa = z1 at *
          generalize f2 qa = z2 at *
          go_wp2_with fail
          go_quiet (fail)
          go_wp2_with fail
          go_quiet (fail)
          go_wp2_with fail
          go_ret3
          exact ⟨_, _, _, rfl, .inr ⟨_, _, HDD.out.trans HR.out, rfl, HS1.out.below (below_drewN (below_drewN (Below.refl _ _) _) _), HS2.out.below (below_drewN (below_drewN (Below.refl _ _) _) _)⟩, below_drewN (below_drewN (nextB HBW.out HB.out) _) _⟩
      · have HR : Hid (diff T1.reverse T2.reverse = none) := hI.out.trans (diff_end _ _ d (by simp; omega))
        have hpq : p < 0 ∨ (0 ≤ p ∧ q < 0) := by omega
        clear hI hp hq hbr HF1 HF2 hdd hl1 hl2 hd1 hd2
        rcases hpq with h1 | ⟨h1, h2⟩
        · go_wp2_with fail
          go_ret3
          exact ⟨_, _, _, rfl, .inl ⟨HDD.out.trans HR.out, rfl, rfl, rfl⟩, nextB HBW.out HB.out⟩
        · go_wp2_with fail
          go_ret3
          exact ⟨_, _, _, rfl, .inl ⟨HDD.out.trans HR.out, rfl, rfl, rfl⟩, nextB HBW.out HB.out⟩
theorem xextract_any (F : Bys → Bys) (E : Env2 F) (w : World) (lv bv pv : Value) (L : List Bys) (b : Bys) (i n : Int) (P : List Bys) (hL : Ls w lv L) (hs : Small L) (h9 : L.length ≤ 1000000) (hb : Sl w bv b) (hbl : b.length ≤ 1000) (hn : n ≤ 9223372036854775807) (hP : Hs w pv P) :
    Calls Try.prog 21 #[lv, bv, .agg #[.int .i64 i, .int .i64 n, pv]] w fun ev w' => ∃ x y t, ev = .returned (.tuple #[x, y, t]) ∧ Two (xtr F L b i n P) x y t w' ∧ Below w.heap.size w w' := by
  by_cases hi : 0 ≤ i ∧ i < (L.length : Int)
  · obtain ⟨j, rfl⟩ : ∃ j : Nat, i = (j : Int) := ⟨i.toNat, by omega⟩
    by_cases hc : chk F (root F L) b j n P = true
    · by_cases how : n = (L.length : Int) ∧ b = L.getD j []
      · exact xextract_own F E w lv bv pv L b j n P hL hs h9 hb hbl hn hP (by omega) hc how
      · exact xextract_two F E w lv bv pv L b j n P hL hs h9 hb hbl hn hP (by omega) hc how
    · exact xextract_bad F E w lv bv pv L b j n P hL hs h9 hb hbl hn hP (by omega) (by simpa using hc)
  · obtain ⟨ao, cp, rfl⟩ := hL.slice
    obtain ⟨ap, cpp, rfl⟩ := hP.slice
    obtain ⟨ab, cb, rfl⟩ := sl_slice hb
    refine (xextract_out w ao ap ab L.length cp P.length cpp b.length cb i n hi).mono ?_
    rintro ev w' ⟨rfl, hB⟩
    refine ⟨_, _, _, rfl, .inl ⟨?_, rfl, rfl, rfl⟩, hB⟩
    unfold xtr
    rw [if_neg]
    rintro ⟨h1, h2, _⟩
    exact hi ⟨h1, h2⟩
end Go.Proofs.Ytfkibbpekngciaa
