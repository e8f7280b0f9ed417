/-
  List.
-/
import Derived.Test.YtjnogpcpekheoaaSrt
namespace Go.Proofs.Ytjnogpcpekheoaa
open Go.RowKit Go.Maps

attribute [local go_sem ↓] Go.wp_at_zero Go.wp_at_succ
set_option maxHeartbeats 1000000 in
theorem less_drawn (w : World) (a b : List UInt8) (ha : a.length = 32) (hb : b.length = 32) :
    Calls Try.prog 41 #[.agg (bys a).toArray, .agg (bys b).toArray] w fun ev w' => ev = .returned (.bool (less a b)) ∧ Below w.heap.size w w' ∧ w.drawn ≤ w'.drawn := by
  obtain ⟨W, hW⟩ : ∃ W, W = (w.alloc (.cells (bys a).toArray 35)).alloc (.cells (bys b).toArray 35) := ⟨_, rfl⟩
  have r1 : Row W w.heap.size 35 (bys a) := by rw [hW]; exact (Row.new w 35 (bys a)).below ((Below.refl _ _).alloc (Nat.le_refl _) _) (by simp)
  have r2 : Row W (w.heap.size + 1) 35 (bys b) := by
    have := Row.new (w.alloc (.cells (bys a).toArray 35)) 35 (bys b)
    rw [hW]; simpa using this
  have HB : Hid (Below w.heap.size w W) := by rw [hW]; exact ((Below.refl w.heap.size w).alloc (Nat.le_refl _) _).alloc (by simp) _
  have HD : Hid (W.drawn = w.drawn) := by rw [hW]; rfl
  have C := compare_any W.drew w.heap.size 0 32 (w.heap.size + 1) 0 32 a b (fun i hi => by rw [Nat.zero_add]; exact (r1.drew.cell i).trans (bys_get a i hi)) (fun i hi => by rw [Nat.zero_add]; exact (r2.drew.cell i).trans (bys_get b i hi))
  rw [ha, hb] at C
  have AW : Aside (W = (w.alloc (.cells (bys a).toArray 35)).alloc (.cells (bys b).toArray 35)) := hW
  have HL : Hid (less a b = decide (Lib.compareBytes a b < 0)) := rfl
  clear hW r1 r2
  generalize Lib.compareBytes a b = cc at *
  generalize (bys a).toArray = Y1 at *
  generalize (bys b).toArray = Y2 at *
  go_enter Try.func41, Try.ntmps41
  go_wp2_with fail
  refine wp_at AW.out ?_
  clear AW
  go_region_with (go_at_call 55; refine C.mono ?_; rintro ev w7 ⟨rfl, rfl⟩)
  all_goals
    go_wp2_with fail
    go_ret
    refine ⟨?_, HB.out.drew, ?_⟩
    · rw [HL.out]; rfl
    · show w.drawn ≤ W.drawn + 1
      rw [HD.out]; omega

set_option maxHeartbeats 2000000 in
theorem rising_any (w : World) (x y : Hsh) : Calls Try.prog 33 #[.agg (encH x).toArray, .agg (encH y).toArray] w fun ev w' => ev = .returned (.int .i64 (cfH x y)) ∧ Below w.heap.size w w' ∧ w.drawn ≤ w'.drawn := by
  have hB : Below w.heap.size w ((w.alloc (.cells (bys x.1).toArray 35)).alloc (.cells (bys y.1).toArray 35)) := ((Below.refl w.heap.size w).alloc (Nat.le_refl _) _).alloc (by simp) _
  have hr1 : ((w.alloc (.cells (bys x.1).toArray 35)).alloc (.cells (bys y.1).toArray 35)).heap[w.heap.size]? = some (.cells (bys x.1).toArray 35 (0, 0)) := ((Row.new w 35 (bys x.1)).below ((Below.refl _ _).alloc (Nat.le_refl _) _) (by simp)).heap
  have hr2 : ((w.alloc (.cells (bys x.1).toArray 35)).alloc (.cells (bys y.1).toArray 35)).heap[w.heap.size + 1]? = some (.cells (bys y.1).toArray 35 (0, 0)) := by
    have := (Row.new (w.alloc (.cells (bys x.1).toArray 35)) 35 (bys y.1)).heap
    simpa using this
  have C1 := less_drawn ((w.alloc (.cells (bys x.1).toArray 35)).alloc (.cells (bys y.1).toArray 35)) x.1 y.1 x.2 y.2
  have HC2 : Hid (∀ z, Calls Try.prog 41 #[.agg (bys y.1).toArray, .agg (bys x.1).toArray] z fun ev w' => ev = .returned (.bool (less y.1 x.1)) ∧ Below z.heap.size z w' ∧ z.drawn ≤ w'.drawn) := fun z => less_drawn z y.1 x.1 y.2 x.2
  have HF : Hid (∀ z, Below ((w.alloc (.cells (bys x.1).toArray 35)).alloc (.cells (bys y.1).toArray 35)).heap.size ((w.alloc (.cells (bys x.1).toArray 35)).alloc (.cells (bys y.1).toArray 35)) z → z.heap[w.heap.size]? = some (.cells (bys x.1).toArray 35 (0, 0)) ∧ z.heap[w.heap.size + 1]? = some (.cells (bys y.1).toArray 35 (0, 0)) ∧ Below w.heap.size w z) := fun z hz =>
    ⟨(hz.block _ (by simp; omega)).trans hr1, (hz.block _ (by simp)).trans hr2, hB.trans (hz.mono hB.size)⟩
  have hi1 := size35 x.1 x.2
  have hi2 := size35 y.1 y.2
  have HD : Hid (((w.alloc (.cells (bys x.1).toArray 35)).alloc (.cells (bys y.1).toArray 35)).drawn = w.drawn) := rfl
  have HE : Hid (cfH x y = if less x.1 y.1 then -1 else if less y.1 x.1 then 1 else 0) := rfl
  unfold encH
  clear hB
  generalize hWW : (w.alloc (.cells (bys x.1).toArray 35)).alloc (.cells (bys y.1).toArray 35) = W at *
  have AW : Aside (W = (w.alloc (.cells (bys x.1).toArray 35)).alloc (.cells (bys y.1).toArray 35)) := hWW.symm
  clear hWW
  cases h1 : less x.1 y.1 with
  | true =>
    rw [h1] at C1 HE
    clear h1
    generalize (bys x.1).toArray = Y1 at *
    generalize (bys y.1).toArray = Y2 at *
    go_enter Try.func33, Try.ntmps33
    go_wp2_with (first | (rw [← AW.out]; refine wpList_load_row rfl 35 _ rfl w.heap.size rfl 35 Y1 (0, 0) _ hr1 Try.underlying35 rfl hi1 ?_) | (refine wpList_load_row rfl 35 _ rfl (w.heap.size + 1) rfl 35 Y2 (0, 0) _ hr2 Try.underlying35 rfl hi2 ?_) | (go_at_call 41; refine C1.mono ?_; rintro ev w1 ⟨rfl, hb1, hd1⟩))
    go_ret
    exact ⟨by rw [HE.out]; rfl, (HF.out _ hb1).2.2, by have := HD.out; omega⟩
  | false =>
    rw [h1] at C1 HE
    clear h1
    cases h2 : less y.1 x.1 with
    | true =>
      rw [h2] at HC2 HE
      clear h2
      generalize (bys x.1).toArray = Y1 at *
      generalize (bys y.1).toArray = Y2 at *
      go_enter Try.func33, Try.ntmps33
      go_wp2_with (first | (rw [← AW.out]; refine wpList_load_row rfl 35 _ rfl w.heap.size rfl 35 Y1 (0, 0) _ hr1 Try.underlying35 rfl hi1 ?_) | (refine wpList_load_row rfl 35 _ rfl (w.heap.size + 1) rfl 35 Y2 (0, 0) _ hr2 Try.underlying35 rfl hi2 ?_) | (go_at_call 41; refine C1.mono ?_; rintro ev w1 ⟨rfl, hb1, hd1⟩; obtain ⟨q1, q2, hBw1⟩ := HF.out w1 hb1; have C2 := HC2.out w1; clear C1) | (refine wpList_load_row rfl 35 _ rfl (w.heap.size + 1) rfl 35 Y2 (0, 0) _ q2 Try.underlying35 rfl hi2 ?_) | (refine wpList_load_row rfl 35 _ rfl w.heap.size rfl 35 Y1 (0, 0) _ q1 Try.underlying35 rfl hi1 ?_) | (go_at_call 41; refine C2.mono ?_; rintro ev w2 ⟨rfl, hb2, hd2⟩))
      go_ret
      exact ⟨by rw [HE.out]; rfl, hBw1.trans (hb2.mono hBw1.size), by have := HD.out; omega⟩
    | false =>
      rw [h2] at HC2 HE
      clear h2
      generalize (bys x.1).toArray = Y1 at *
      generalize (bys y.1).toArray = Y2 at *
      go_enter Try.func33, Try.ntmps33
      go_wp2_with (first | (rw [← AW.out]; refine wpList_load_row rfl 35 _ rfl w.heap.size rfl 35 Y1 (0, 0) _ hr1 Try.underlying35 rfl hi1 ?_) | (refine wpList_load_row rfl 35 _ rfl (w.heap.size + 1) rfl 35 Y2 (0, 0) _ hr2 Try.underlying35 rfl hi2 ?_) | (go_at_call 41; refine C1.mono ?_; rintro ev w1 ⟨rfl, hb1, hd1⟩; obtain ⟨q1, q2, hBw1⟩ := HF.out w1 hb1; have C2 := HC2.out w1; clear C1) | (refine wpList_load_row rfl 35 _ rfl (w.heap.size + 1) rfl 35 Y2 (0, 0) _ q2 Try.underlying35 rfl hi2 ?_) | (refine wpList_load_row rfl 35 _ rfl w.heap.size rfl 35 Y1 (0, 0) _ q1 Try.underlying35 rfl hi1 ?_) | (go_at_call 41; refine C2.mono ?_; rintro ev w2 ⟨rfl, hb2, hd2⟩))
      go_ret
      exact ⟨by rw [HE.out]; rfl, hBw1.trans (hb2.mono hBw1.size), by have := HD.out; omega⟩

theorem cmpH [Inhabited Hsh] (blk off size : Nat) (w : World) : CmpLays Try.prog 33 #[] encH 32 cfH blk off size w := fun m os dk _ x y => by
  refine (rising_any _ x y).mono ?_
  rintro ev w' ⟨rfl, hb, hd⟩
  exact ⟨rfl, grow_of hb hd⟩

/-- Sums, one behind the other, as cells. -/
def rows35 (ks : List Bys) : List Value := ks.flatMap bys
theorem rows35_snoc (ks : List Bys) (h : Bys) : rows35 (ks ++ [h]) = rows35 ks ++ bys h := by simp [rows35]
theorem flat_get : ∀ (ks : List Bys), (∀ a ∈ ks, a.length = 32) → ∀ q c, q < ks.length → c < 32 → (rows35 ks)[q * 32 + c]? = (bys (ks.getD q []))[c]?
  | [], _, q, c, hq, _ => by simp at hq
  | a :: ks, h, q, c, hq, hc => by
    have ha : (bys a).length = 32 := by rw [bys_len]; exact h a (by simp)
    show (bys a ++ rows35 ks)[q * 32 + c]? = _
    cases q with
    | zero => rw [List.getElem?_append_left (by omega)]; simp
    | succ q =>
      rw [List.getElem?_append_right (by omega), ha, show (q + 1) * 32 + c - 32 = q * 32 + c by omega, flat_get ks (fun b hb => h b (by simp [hb])) q c (by simpa using hq) hc]
      simp
def toH [Inhabited Hsh] (a : Bys) : Hsh := if h : a.length = 32 then ⟨a, h⟩ else default
theorem toH_val [Inhabited Hsh] {a : Bys} (h : a.length = 32) : (toH a).1 = a := by unfold toH; rw [dif_pos h]
def arrH [Inhabited Hsh] (ks : List Bys) : Array Hsh := (ks.map toH).toArray
theorem arrH_size [Inhabited Hsh] (ks : List Bys) : (arrH ks).size = ks.length := by simp [arrH]
theorem arrH_get [Inhabited Hsh] (ks : List Bys) (h : ∀ a ∈ ks, a.length = 32) (q : Nat) (hq : q < ks.length) : encH ((arrH ks)[q]!) = bys (ks.getD q []) := by
  have e : (arrH ks)[q]! = toH (ks.getD q []) := by
    simp [arrH, List.getD, List.getElem?_eq_getElem hq]
  rw [e, encH, toH_val]
  have : ks.getD q [] ∈ ks := by simp [List.getD, List.getElem?_eq_getElem hq]
  exact h _ this
theorem bang_of {L : List Value} {c : Nat} (h : c < L.length) : L[c]? = some (L[c]!) := by
  simp [List.getElem?_eq_getElem h, List.getElem!_eq_getElem?_getD]
theorem holds_of [Inhabited Hsh] {w : World} {B g cap : Nat} {ks : List Bys} (hown : w.ownsRow B 35 32 (.slice (some ⟨g, 0, none⟩) ks.length cap) ks.length (rows35 ks)) (h : ∀ a ∈ ks, a.length = 32) : Sort.HoldsK encH 32 w g 0 (arrH ks) := by
  intro j hj
  rw [Sort.size_flatK, arrH_size] at hj
  have hq : j / 32 < ks.length := by omega
  have hc : j % 32 < 32 := by omega
  have hjj : j / 32 * 32 + j % 32 = j := by omega
  have hf : w.frozen? ⟨g, 0 + j, none⟩ = false := by
    rcases hown.2 with ⟨e, _⟩ | ⟨g', cap', cur, e, _, hgg, _⟩
    · cases e
    · cases e
      simp [World.frozen?, hgg]
  refine ⟨?_, hf⟩
  rw [Sort.get_flatK _ _ _ _ (by rw [arrH_size]; exact hj), arrH_get ks h _ hq, Nat.zero_add]
  have := hown.cellAt j (by omega)
  rw [this, ← hjj, flat_get ks h _ _ hq hc, hjj]
  have hm : ks.getD (j / 32) [] ∈ ks := by simp [List.getD, List.getElem?_eq_getElem hq]
  exact bang_of (by rw [bys_len, h _ hm]; exact hc)
theorem agg35 (w : World) : (isAgg 35).run Try.prog w = .ok true w := by kernel_rfl
theorem sizeOf35 (w : World) : (Go.sizeOf 35).run Try.prog w = .ok 32 w := by kernel_rfl

/-- A row of sums that lies at g from its beginning. -/
def Lies (w : World) (g : Nat) (hs : List Bys) : Prop := ∀ q, q < hs.length → w.rangeAt g (q * 32) (bys (hs.getD q [])) ∧ w.there g (q * 32) 32

theorem lies_of [Inhabited Hsh] {w : World} {g : Nat} {d : Array Hsh} (h : Sort.HoldsK encH 32 w g 0 d) : Lies w g (d.toList.map (·.1)) := by
  intro q hq
  have hq' : q < d.size := by simpa using hq
  have e : (d.toList.map (·.1)).getD q [] = (d[q]!).1 := by
    simp [List.getD, hq']
  rw [e]
  have hl : (bys (d[q]!).1).length = 32 := by rw [bys_len]; exact (d[q]!).2
  constructor
  · intro c u hc
    have hc' : c < 32 := by
      have := (List.getElem?_eq_some_iff.1 hc).1
      omega
    have := (Sort.HoldsK.cell h hq' hc').1
    rw [Nat.zero_add] at this
    rw [this, ← hc]
    exact (bang_of (L := bys (d[q]!).1) (by rw [hl]; exact hc')).symm
  · intro c hc
    have := Sort.HoldsK.cell h hq' hc
    rw [Nat.zero_add] at this
    exact ⟨by rw [this.1]; rfl, this.2⟩

set_option maxRecDepth 20000 in
/-- The sort, of a row of one's own. -/
theorem sort_any (w : World) (g cap B : Nat) (ks : List Bys) (hown : w.ownsRow B 35 32 (.slice (some ⟨g, 0, none⟩) ks.length cap) ks.length (rows35 ks)) (h32 : ∀ a ∈ ks, a.length = 32) (hnd : ks.Nodup) (hfew : ks.length ≤ 1000000) :
    Calls Try.prog 32 #[.slice (some ⟨g, 0, none⟩) ks.length cap, .func (.func 33) #[] #[]] w fun ev w' => ev = .returned (.tuple #[]) ∧ ∃ hs : List Bys, hs.Perm ks ∧ hs.Pairwise (fun a b => less a b = true) ∧ Lies w' g hs ∧ Below B w w' := by
  have hI : Inhabited Hsh := ⟨⟨List.replicate 32 0, rfl⟩⟩
  have hg : g < w.heap.size := (hown.lt g rfl).2
  have hBg : B ≤ g := (hown.lt g rfl).1
  have hH := holds_of hown h32
  have eg : ∀ args w, (callFunc 33 args).run Try.prog w = .ok (.enter 33 args) w := enters_of Try.func33 (by kernel_rfl) rfl
  have hcon := AnyQ.slices_SortFunc Try.sortH 32 agg35 sizeOf35 encH (fun x => by rw [encH, bys_len]; exact x.2) (fun x v hv => bys_one _ v hv) cfH swoH 33 #[] g 0 cap (arrH ks) w eg (cmpH g 0 _ w) hH hg (by rw [arrH_size]; omega)
  change Calls Try.prog 32 _ _ _ at hcon
  rw [arrH_size] at hcon
  refine hcon.mono ?_
  rintro ev w' ⟨rfl, d', n, os, ⟨hsz, _, hp⟩, hs, rfl⟩
  rw [arrH_size] at hsz
  have hH' : Sort.HoldsK encH 32 (sortWorldK encH 32 w g 0 n d' os) g 0 d' := SWK.holds (w0 := w) ⟨n, os, rfl⟩ hg hH (by rw [arrH_size]; exact hsz)
  have hperm : (d'.toList.map (·.1)).Perm ks := by
    have e1 : (d'.extract 0 ks.length).toList = d'.toList := by rw [← hsz]; simp
    have e2 : ((arrH ks).extract 0 ks.length).toList = ks.map toH := by simp [arrH, List.take_of_length_le]
    rw [e1, e2] at hp
    have := hp.map (·.1)
    rw [List.map_map] at this
    have e3 : ks.map ((·.1) ∘ toH) = ks := by
      conv => rhs; rw [← List.map_id ks]
      exact List.map_congr_left (fun a ha => toH_val (h32 a ha))
    rwa [e3] at this
  refine ⟨rfl, d'.toList.map (·.1), hperm, ?_, lies_of hH', ?_⟩
  · have hnd' : (d'.toList.map (·.1)).Nodup := hperm.symm.nodup_iff.1 hnd
    rw [List.pairwise_iff_getElem]
    intro i j hi hj hij
    have hi' : i < d'.size := by simpa using hi
    have hj' : j < d'.size := by simpa using hj
    have h1 := hs i j (by omega) hij (by omega)
    rw [ltH] at h1
    have ei : (d'.toList.map (·.1))[i] = (d'[i]!).1 := by simp [hi']
    have ej : (d'.toList.map (·.1))[j] = (d'[j]!).1 := by simp [hj']
    rw [ei, ej]
    cases h2 : less (d'[i]!).1 (d'[j]!).1 with
    | true => rfl
    | false =>
      have := less_total _ _ ((d'[i]!).2.trans (d'[j]!).2.symm) h2 h1
      rw [← ei, ← ej] at this
      have := (List.getElem_inj hnd').1 this
      omega
  · refine ⟨rfl, rfl, rfl, ?_, fun k hk => ?_⟩
    · simp [sortWorldK, Sort.grow, Sort.putRowK, Sort.putRow, Sort.mapBlock, Sort.ahead]
    · have hne : g ≠ k := by omega
      have hkw : k < w.heap.size := by omega
      simp only [sortWorldK, Sort.grow, Sort.putRowK, Sort.putRow, Sort.mapBlock, Sort.ahead]
      rw [Array.getElem?_append_left (by simpa using hkw), Array.getElem?_modify, if_neg hne]
end Go.Proofs.Ytjnogpcpekheoaa
