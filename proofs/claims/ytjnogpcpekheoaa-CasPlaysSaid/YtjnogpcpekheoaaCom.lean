/-
  Texts: bytes of texts, rows of texts; what the statements know of sums and of a store.
-/
import Derived.Test.YtjnogpcpekheoaaRms
import Derived.Test.YtjnogpcpekheoaaLst
import Derived.Lib.ConvBytes
namespace Go.Proofs.Ytjnogpcpekheoaa
open Go.RowKit Go.Maps

theorem str_inj {a b : Bys} (h : str a = str b) : a = b := by
  have := congrArg (fun s : ByteArray => s.data.toList) h
  simpa [str] using this
theorem str_list (a : Bys) : (str a).toList = a := by rw [ByteArray.toList_eq]; simp [str]
theorem str_apart {a b : Bys} (h : a ≠ b) : ((str a).toList == (str b).toList) = false := by rw [str_list, str_list]; simpa using h
/-- '[]byte(s)'. -/
theorem conv_new (w : World) (l : Bys) : ∃ w' cp, (convert 9 33 (.string (str l))).run Try.prog w = .ok (.slice (some ⟨w.heap.size, 0, none⟩) l.length cp) w' ∧ Sl w' (.slice (some ⟨w.heap.size, 0, none⟩) l.length cp) l ∧ Below w.heap.size w w' := by
  have h := Lib.run_convert_string_bytes (P := Try.prog) w 9 33 5 (str l) Try.underlying9 Try.underlying33 Try.underlying5
  have hs : (str l).size = l.length := str_size l
  rw [hs] at h
  refine ⟨_, _, h, ⟨.inr ⟨w.heap.size, 0, _, rfl, ?_, fun i hi => ?_⟩⟩, ?_⟩
  · exact grownCap_ge w _ _ _
  · rw [Nat.zero_add, Lib.bytesWorld_cell w 5 (str l) i (by rw [hs]; exact hi)]
    simp [str]
  · have hz := Lib.bytesWorld_size w 5 (str l)
    exact ⟨rfl, rfl, rfl, by omega, fun k hk => Lib.bytesWorld_at_old w 5 (str l) k hk⟩
/-- .. at the operation. -/
theorem wp_bytes {ops : Array Oper} {rest : List Oper} {o : Oper} {a : Act} {Q : Exit → Act → World → Prop} {w : World} (hgd : o.guard = none) (x : Operand) (ho : o.op = .convert 9 33 x) (l : Bys) (hx : a.eval x = .string (str l))
    (h : ∀ g cp w', Sl w' (.slice (some ⟨g, 0, none⟩) l.length cp) l → Below w.heap.size w w' → wpList Try.prog ops Q rest (a.put o.dst (.slice (some ⟨g, 0, none⟩) l.length cp)) w') :
    wpList Try.prog ops Q (o :: rest) a w := by
  obtain ⟨w', cp, hr, hsl, hb⟩ := conv_new w l
  refine wpList_plain hgd fun K hK => ?_
  unfold Oper.wp execOp
  simp only [ho, hx, Sem.run_bind, Sem.run_pure, Result.andThen_ok, hr]
  exact hK _ _ (h _ _ _ hsl hb)

/-- Texts as cells. -/
def strs (ins : List Bys) : List Value := ins.map fun b => Value.string (str b)
theorem strs_len (ins : List Bys) : (strs ins).length = ins.length := by simp [strs]
theorem strs_get (ins : List Bys) (j : Nat) (h : j < ins.length) : (strs ins)[j]? = some (.string (str (ins.getD j []))) := by
  simp [strs, List.getD, List.getElem?_eq_getElem h]
theorem Try.info9 : (Try.prog.info? 9).map (fun i => (i.zero, i.size, i.bytes)) = some (some (.string ⟨#[]⟩), 1, 16) := by kernel_rfl
/-- One more text. -/
theorem app_str {ops : Array Oper} {rest : List Oper} {o : Oper} {a : Act} {Q : Exit → Act → World → Prop} {w : World} {B : Nat} {v : Value} {ins : List Bys} (b : Bys) (hgd : o.guard = none) (s x : Operand)
    (ho : o.op = .call { callee := .builtin .append, args := #[s, x], argTypes := #[30, 30] }) (hs : a.eval s = v) (hown : w.ownsRow B 9 1 v ins.length (strs ins)) (hB : B ≤ w.heap.size)
    (g : Nat) (hx : a.eval x = .slice (some ⟨g, 0, none⟩) 1 1) (hc : w.cell? ⟨g, 0, none⟩ = some (.string (str b))) (hl : ins.length ≤ 1000000)
    (h : ∀ v' w', w'.ownsRow B 9 1 v' (ins ++ [b]).length (strs (ins ++ [b])) → Below B w w' → w.grownBy w' v.ownBlock → (v'.ownBlock = v.ownBlock ∨ v'.ownBlock = some w.heap.size) → wpList Try.prog ops Q rest (a.put o.dst v') w') :
    wpList Try.prog ops Q (o :: rest) a w := by
  obtain ⟨i0, hi, hz0, hz1, hz2⟩ := info_parts Try.info9
  refine wpList_append_own_at w hgd s x 30 ho B 9 i0 (.string ⟨#[]⟩) 1 16 Try.underlying30 hi hz0 hz1 hz2 rfl (by decide) _ _ _ hs hown ⟨g, 0, none⟩ 1 1 [.string (str b)] hx rfl (fun j u hj => ?_) (fun u hu => ?_) (by unfold maxLen; omega) (by omega) hB ?_
  · obtain rfl : j = 0 := by
      rcases j with _ | j
      · rfl
      · simp at hj
    simp at hj
    rw [← hj, addr_add]; exact hc
  · simp at hu; rw [hu]; rfl
  · intro v' w' hown' hgrow _ hloc
    refine h v' w' ?_ (below_grown hgrow hB (fun k e => (hown.lt k e).1)) hgrow hloc
    rw [List.length_append, List.length_singleton, strs, List.map_append]; exact hown'
/-- What a store holds into which these were put, one behind the other. -/
def cK (ins : List Bys) : List (Bys × Bys) := (ins.map fun b => (sumF b, b)).reverse
theorem cK_len (ins : List Bys) : (cK ins).length = ins.length := by simp [cK]
theorem cK_mem {ins : List Bys} {q : Bys × Bys} : q ∈ cK ins ↔ ∃ b ∈ ins, (sumF b, b) = q := by simp [cK]
theorem cK_snoc (ins : List Bys) (b : Bys) : cK (ins ++ [b]) = (sumF b, b) :: cK ins := by simp [cK]
theorem cK_in {ins : List Bys} {b : Bys} (h : b ∈ ins) : sumF b ∈ (cK ins).map (·.1) := List.mem_map.2 ⟨(sumF b, b), cK_mem.2 ⟨b, h, rfl⟩, rfl⟩
theorem cK_out {ins : List Bys} {x : Bys} (h : ∀ a ∈ ins, x ≠ sumF a) : x ∉ (cK ins).map (·.1) := by
  intro hm
  obtain ⟨q, hq, rfl⟩ := List.mem_map.1 hm
  obtain ⟨a, ha, rfl⟩ := cK_mem.1 hq
  exact h a ha rfl

/-- All that a walk knows of sums and of a store of its own: F is the sum, T says what the store holds and which blocks it keeps off. -/
structure SEnv (w : World) (room sb bm : Nat) (F : Bys → Bys) (T : (Nat → Prop) → List Bys → World → Prop) : Prop where
  len : ∀ b, (F b).length = 32
  keep : ∀ X ins y y', T X ins y → Below y.heap.size y y' → T X ins y'
  turn : ∀ X ins y y', T X ins y → (∀ k, ¬ X k → k < y.heap.size → y'.heap[k]? = y.heap[k]?) → T X ins y'
  fresh : ∀ X ins y, T X ins y → T (fun k => X k ∨ y.heap.size ≤ k) ins y
  narrow : ∀ (X X' : Nat → Prop) ins y, T X ins y → (∀ k, X' k → X k) → T X' ins y
  other : ∀ X ins y y' x, T X ins y → y.grownBy y' (some x) → x ≠ bm → (∀ o, y.cell? ⟨x, o, none⟩ = none) → T X ins y'
  isMap : ∀ X ins y, T X ins y → ∀ o, y.cell? ⟨bm, o, none⟩ = none
  isMap' : ∀ X ins y, T X ins y → ∃ es c, y.heap[bm]? = some (.map es c)
  own : w.heap.size ≤ bm
  few : ∀ X ins y, T X ins y → ins.length ≤ 4096
  lt : ∀ X ins y, T X ins y → bm < y.heap.size
  sum : ∀ y v b, Sl y v b → b.length ≤ 200 → Calls Try.prog 14 #[v] y fun ev w' => ev = .returned (.agg (bys (F b)).toArray) ∧ Below y.heap.size y w'
  told : ∀ y, Calls Try.prog 9 #[] y fun ev w' => ev = .returned (.bool true) ∧ Below y.heap.size y w'
  putIn : ∀ X y v ins b, Below w.heap.size w y → T X ins y → (∀ k, X k → k < y.heap.size) → b ∈ ins → Sl y v b → b.length ≤ 200 → Calls Try.prog 10 #[.pointer (some ⟨sb, 0, none⟩), v] y fun ev w' => ev = .returned (.tuple #[.agg (bys (F b)).toArray, .nilIface]) ∧ T X ins w' ∧ Below w.heap.size w w' ∧ y.grownBy w' (some bm)
  putNew : ∀ X y v ins b, Below w.heap.size w y → T X ins y → (∀ k, X k → k < y.heap.size) → (∀ a ∈ ins, F b ≠ F a) → ins.length < room → Sl y v b → b.length ≤ 200 → Calls Try.prog 10 #[.pointer (some ⟨sb, 0, none⟩), v] y fun ev w' => ev = .returned (.tuple #[.agg (bys (F b)).toArray, .nilIface]) ∧ T X (ins ++ [b]) w' ∧ Below w.heap.size w w' ∧ y.grownBy w' (some bm)
  putFull : ∀ X y v ins b, Below w.heap.size w y → T X ins y → (∀ k, X k → k < y.heap.size) → (∀ a ∈ ins, F b ≠ F a) → ¬ ins.length < room → Sl y v b → b.length ≤ 200 → Calls Try.prog 10 #[.pointer (some ⟨sb, 0, none⟩), v] y fun ev w' => ∃ e, ev = .returned (.tuple #[.agg z25.toArray, e]) ∧ Tell w' e 12 ∧ T X ins w' ∧ Below w.heap.size w w' ∧ y.grownBy w' (some bm)
  takeIn : ∀ X y v ins b, Below w.heap.size w y → T X ins y → (∀ k, X k → k < y.heap.size) → b ∈ ins → Sl y v b → b.length ≤ 200 → Calls Try.prog 13 #[.pointer (some ⟨sb, 0, none⟩), .agg (bys (F b)).toArray, v] y fun ev w' => ev = .returned .nilIface ∧ T X ins w' ∧ Below w.heap.size w w' ∧ y.grownBy w' (some bm)
  takeNew : ∀ X y v ins b, Below w.heap.size w y → T X ins y → (∀ k, X k → k < y.heap.size) → (∀ a ∈ ins, F b ≠ F a) → ins.length < room → Sl y v b → b.length ≤ 200 → Calls Try.prog 13 #[.pointer (some ⟨sb, 0, none⟩), .agg (bys (F b)).toArray, v] y fun ev w' => ev = .returned .nilIface ∧ T X (ins ++ [b]) w' ∧ Below w.heap.size w w' ∧ y.grownBy w' (some bm)
  hasIn : ∀ X y ins b, T X ins y → b ∈ ins → Calls Try.prog 18 #[.pointer (some ⟨sb, 0, none⟩), .agg (bys (F b)).toArray] y fun ev w' => ev = .returned (.bool true) ∧ Below y.heap.size y w'
  hasOut : ∀ X y ins b, T X ins y → (∀ a ∈ ins, F b ≠ F a) → Calls Try.prog 18 #[.pointer (some ⟨sb, 0, none⟩), .agg (bys (F b)).toArray] y fun ev w' => ev = .returned (.bool false) ∧ Below y.heap.size y w'
  get : ∀ X y ins b, T X ins y → b ∈ ins → Calls Try.prog 16 #[.pointer (some ⟨sb, 0, none⟩), .agg (bys (F b)).toArray] y fun ev w' => ∃ vr, ev = .returned (.tuple #[vr, .nilIface]) ∧ w'.ownsRow y.heap.size 5 1 vr b.length (bys b) ∧ Below y.heap.size y w'
  count : ∀ X y ins, T X ins y → Calls Try.prog 21 #[.pointer (some ⟨sb, 0, none⟩)] y fun ev w' => ev = .returned (.int .i64 (ins.length : Int)) ∧ w' = y
  eq : ∀ (y : World) a b, (Op.equalIn 10000 35 (.agg (bys (F a)).toArray) (.agg (bys (F b)).toArray)).run Try.prog y = .ok (F a == F b) y
  box : ∀ b, (Try.prog.info? 35).map (·.size) = some (bys (F b)).toArray.size ∧ (bys (F b)).toArray.all (·.oneCell') = true ∧ z25.toArray.size = (bys (F b)).toArray.size

theorem Sto.other {O : Nat → Prop} {w w' : World} {v : Value} {bm room x : Nat} {c : List (Bys × Bys)} (h : Sto O w v bm room c) (hg : w.grownBy w' (some x)) (hx : x ≠ bm) (hn : ∀ o, w.cell? ⟨x, o, none⟩ = none) : Sto O w' v bm room c := by
  have hcell : ∀ k o u, w.cell? ⟨k, o, none⟩ = some u → w'.cell? ⟨k, o, none⟩ = some u := fun k o u h => by
    have hne : k ≠ x := fun e => by subst e; rw [hn o] at h; cases h
    have hk := hg.block k (World.block_lt_of_cell? w ⟨k, o, none⟩ h) (fun e => hne (Option.some.inj e))
    unfold World.cell? at *; rw [hk]; exact h
  obtain ⟨sb, hv', ho, h0, h1⟩ := h.shape
  obtain ⟨t, hc, hm, hbl⟩ := h.map
  refine ⟨⟨sb, hv', ho, hcell _ _ _ h0, hcell _ _ _ h1⟩, h.omap, ⟨t, hc, hm.same (hg.block bm hm.lt (fun e => hx (Option.some.inj e).symm)), fun y hy => ⟨⟨?_⟩, (hbl y hy).own, fun k e => Nat.lt_of_lt_of_le ((hbl y hy).lt k e) hg.size⟩⟩, h.sums, h.lens, h.small⟩
  rcases (hbl y hy).val.shape with h | ⟨bb, o, cap, hv', hcap, hcc⟩
  · exact .inl h
  · exact .inr ⟨bb, o, cap, hv', hcap, fun i hi => hcell _ _ _ (hcc i hi)⟩
theorem Sto.isMap {O : Nat → Prop} {w : World} {v : Value} {bm room : Nat} {c : List (Bys × Bys)} (h : Sto O w v bm room c) (o : Nat) : w.cell? ⟨bm, o, none⟩ = none := by
  obtain ⟨t, _, hm, _⟩ := h.map
  cases e : w.cell? ⟨bm, o, none⟩ with
  | none => rfl
  | some u => exact (hm.notCell e).elim
theorem Sto.mapAt {O : Nat → Prop} {w : World} {v : Value} {bm room : Nat} {c : List (Bys × Bys)} (h : Sto O w v bm room c) : ∃ es c, w.heap[bm]? = some (.map es c) := by
  obtain ⟨t, _, hm, _⟩ := h.map
  obtain ⟨D, ⟨es, clock, hb, _⟩, _⟩ := hm.raw
  exact ⟨es, clock, hb⟩
/-- The blocks of a store that lies behind w and keeps off X. -/
def Off (w : World) (X : Nat → Prop) (k : Nat) : Prop := w.heap.size ≤ k ∧ ¬ X k
theorem off_wide {w y : World} {X : Nat → Prop} (hy : Below w.heap.size w y) (hX : ∀ k, X k → k < y.heap.size) : ∀ k, (Off w X k ∨ y.heap.size ≤ k) → Off w X k := fun k hk =>
  hk.elim id (fun h => ⟨Nat.le_trans hy.size h, fun hx => absurd (hX k hx) (by omega)⟩)
theorem put_off {w y : World} {X : Nat → Prop} {v vb : Value} {bm room : Nat} {c : List (Bys × Bys)} {b : Bys} (hy : Below w.heap.size w y) (H : Sto (Off w X) y v bm room c) (hX : ∀ k, X k → k < y.heap.size) (hr : room ≤ 4096) (hb : Sl y vb b) (hl : b.length ≤ 4194304) :
    Calls Try.prog 10 #[v, vb] y fun ev w' => ∃ e, ev = .returned (.tuple #[hv (sumOr (putC room c b).1 (sumF b)), e]) ∧ Tell w' e (putC room c b).1 ∧ Sto (Off w X) w' v bm room (putC room c b).2 ∧ Below w.heap.size w w' ∧ y.grownBy w' (some bm) := by
  refine (put_any H hr hb hl).mono ?_
  rintro ev w' ⟨e, he, hT, hS, hg⟩
  exact ⟨e, he, hT, hS.wide (off_wide hy hX), hy.grown hg hy.size (fun k e => by cases e; exact H.omap.1), hg⟩
theorem take_off {w y : World} {X : Nat → Prop} {v vb : Value} {bm room : Nat} {c : List (Bys × Bys)} {b : Bys} (hy : Below w.heap.size w y) (H : Sto (Off w X) y v bm room c) (hX : ∀ k, X k → k < y.heap.size) (hr : room ≤ 4096) (hb : Sl y vb b) (hl : b.length ≤ 4194304) :
    Calls Try.prog 13 #[v, hv (sumF b), vb] y fun ev w' => ∃ e, ev = .returned e ∧ Tell w' e (putC room c b).1 ∧ Sto (Off w X) w' v bm room (putC room c b).2 ∧ Below w.heap.size w w' ∧ y.grownBy w' (some bm) := by
  refine (take_ok H hr hb hl).mono ?_
  rintro ev w' ⟨e, he, hT, hS, hg⟩
  exact ⟨e, he, hT, hS.wide (off_wide hy hX), hy.grown hg hy.size (fun k e => by cases e; exact H.omap.1), hg⟩
theorem putC_in {room : Nat} {ins : List Bys} {b : Bys} (h : b ∈ ins) : putC room (cK ins) b = (0, cK ins) := by unfold putC; rw [if_pos (cK_in h)]
theorem putC_new {room : Nat} {ins : List Bys} {b : Bys} (h : ∀ a ∈ ins, sumF b ≠ sumF a) (hr : ins.length < room) : putC room (cK ins) b = (0, cK (ins ++ [b])) := by
  unfold putC; rw [if_neg (cK_out h), if_pos (by rw [cK_len]; exact hr), cK_snoc]
theorem putC_full {room : Nat} {ins : List Bys} {b : Bys} (h : ∀ a ∈ ins, sumF b ≠ sumF a) (hr : ¬ ins.length < room) : putC room (cK ins) b = (12, cK ins) := by
  unfold putC; rw [if_neg (cK_out h), if_neg (by rw [cK_len]; exact hr)]

theorem senv_any (w : World) (room sb bm : Nat) (hr : room ≤ 4096) (hbm : w.heap.size ≤ bm) : SEnv w room sb bm sumF (fun X ins y => Sto (Off w X) y (.pointer (some ⟨sb, 0, none⟩)) bm room (cK ins)) where
  len b := sumF_len _
  keep X ins y y' h hb := h.below hb
  turn X ins y y' h hs := (h.tight.same (fun k hk => hs k hk.1.2 hk.2)).wide (fun k hk => hk.1)
  fresh X ins y h := h.tight.wide (fun k hk => ⟨hk.1.1, fun hx => hx.elim hk.1.2 (fun h' => absurd hk.2 (by omega))⟩)
  narrow X X' ins y h hx := h.wide (fun k hk => ⟨hk.1, fun h' => hk.2 (hx k h')⟩)
  other X ins y y' x h hg hx hn := h.other hg hx hn
  isMap X ins y h := h.isMap
  isMap' X ins y h := h.mapAt
  own := hbm
  few X ins y h := by have := h.small; rwa [cK_len] at this
  lt X ins y h := h.bmlt
  sum y v b h hl := xsum_any y v _ h (by omega)
  told y := told_any y
  putIn X y v ins b hy hT hX hm hsl hl := by
    refine (put_off hy hT hX hr hsl (by omega)).mono ?_
    rw [putC_in hm]
    rintro ev w' ⟨e, rfl, hTe, hS, hB, hg⟩
    rw [hTe.nil]
    exact ⟨rfl, hS, hB, hg⟩
  putNew X y v ins b hy hT hX hm hn hsl hl := by
    refine (put_off hy hT hX hr hsl (by omega)).mono ?_
    rw [putC_new hm hn]
    rintro ev w' ⟨e, rfl, hTe, hS, hB, hg⟩
    rw [hTe.nil]
    exact ⟨rfl, hS, hB, hg⟩
  putFull X y v ins b hy hT hX hm hn hsl hl := by
    refine (put_off hy hT hX hr hsl (by omega)).mono ?_
    rw [putC_full hm hn]
    rintro ev w' ⟨e, rfl, hTe, hS, hB, hg⟩
    exact ⟨e, rfl, hTe, hS, hB, hg⟩
  takeIn X y v ins b hy hT hX hm hsl hl := by
    refine (take_off hy hT hX hr hsl (by omega)).mono ?_
    rw [putC_in hm]
    rintro ev w' ⟨e, rfl, hTe, hS, hB, hg⟩
    rw [hTe.nil]
    exact ⟨rfl, hS, hB, hg⟩
  takeNew X y v ins b hy hT hX hm hn hsl hl := by
    refine (take_off hy hT hX hr hsl (by omega)).mono ?_
    rw [putC_new hm hn]
    rintro ev w' ⟨e, rfl, hTe, hS, hB, hg⟩
    rw [hTe.nil]
    exact ⟨rfl, hS, hB, hg⟩
  hasIn X y ins b hT hm := by
    refine (has_any hT (sumF b) (sumF_len _)).mono ?_
    rintro ev w' ⟨rfl, hb⟩
    rw [decide_eq_true (cK_in hm)]
    exact ⟨rfl, hb⟩
  hasOut X y ins b hT hm := by
    refine (has_any hT (sumF b) (sumF_len _)).mono ?_
    rintro ev w' ⟨rfl, hb⟩
    rw [decide_eq_false (cK_out hm)]
    exact ⟨rfl, hb⟩
  get X y ins b hT hm := by
    obtain ⟨b', hin, C⟩ := get_ok hT (cK_in hm)
    have hb : b' = b := by
      have hn := hT.apart
      have h1 : (sumF b, b) ∈ cK ins := cK_mem.2 ⟨b, hm, rfl⟩
      have hi1 := List.getElem_of_mem hin
      have hi2 := List.getElem_of_mem h1
      obtain ⟨i, hi, ei⟩ := hi1
      obtain ⟨j, hj, ej⟩ := hi2
      have hij : i = j := by
        refine (List.getElem_inj (xs := (cK ins).map (·.1)) (h₀ := by simpa using hi) (h₁ := by simpa using hj) hn).1 ?_
        simp [ei, ej]
      subst hij
      rw [ei] at ej
      exact congrArg Prod.snd ej
    subst hb
    exact C
  count X y ins hT := by
    refine (count_any hT).mono ?_
    rintro ev w' ⟨rfl, rfl⟩
    rw [cK_len]
    exact ⟨rfl, rfl⟩
  eq y a b := equ25 y _ _ (sumF_len _) (sumF_len _)
  box b := ⟨size35 _ (sumF_len _), all_one (bys_one _), by simp [z25, bys_len, sumF_len]⟩

/-- What Put tells, whatever was there. -/
def PutTell (room : Nat) (F : Bys → Bys) (ins : List Bys) (b : Bys) (w' : World) (Y : Array Value) (e : Value) (ins' : List Bys) : Prop :=
  (b ∈ ins ∧ Y = (bys (F b)).toArray ∧ e = .nilIface ∧ ins = ins') ∨ (b ∉ ins ∧ ins.length < room ∧ Y = (bys (F b)).toArray ∧ e = .nilIface ∧ ins' = ins ++ [b]) ∨ (b ∉ ins ∧ ins.length = room ∧ Tell w' e 12 ∧ Y = z25.toArray ∧ ins = ins')
theorem PutTell.there {room : Nat} {F : Bys → Bys} {ins : List Bys} {b : Bys} {w' : World} (h : b ∈ ins) : PutTell room F ins b w' (bys (F b)).toArray .nilIface ins := .inl ⟨h, rfl, rfl, rfl⟩
theorem PutTell.new {room : Nat} {F : Bys → Bys} {ins : List Bys} {b : Bys} {w' : World} (h : b ∉ ins) (h2 : ins.length < room) : PutTell room F ins b w' (bys (F b)).toArray .nilIface (ins ++ [b]) := .inr (.inl ⟨h, h2, rfl, rfl, rfl⟩)
theorem PutTell.full {room : Nat} {F : Bys → Bys} {ins : List Bys} {b : Bys} {w' : World} (e : Value) (h : b ∉ ins) (h2 : ins.length = room) (h3 : Tell w' e 12) : PutTell room F ins b w' z25.toArray e ins := .inr (.inr ⟨h, h2, h3, rfl, rfl⟩)
theorem SEnv.put {w : World} {room sb bm : Nat} {F : Bys → Bys} {T : (Nat → Prop) → List Bys → World → Prop} (E : SEnv w room sb bm F T) (X : Nat → Prop) (y : World) (v : Value) (ins : List Bys) (b : Bys) (hy : Below w.heap.size w y) (hT : T X ins y) (hX : ∀ k, X k → k < y.heap.size) (hf : ∀ a ∈ ins, b ≠ a → F b ≠ F a) (hn : ins.length ≤ room) (hsl : Sl y v b) (hl : b.length ≤ 200) :
    Calls Try.prog 10 #[.pointer (some ⟨sb, 0, none⟩), v] y fun ev w' => ∃ Yh e ins', ev = .returned (.tuple #[.agg Yh, e]) ∧ PutTell room F ins b w' Yh e ins' ∧ T X ins' w' ∧ Below w.heap.size w w' ∧ y.grownBy w' (some bm) ∧ ((Try.prog.info? 35).map (·.size) = some Yh.size ∧ Yh.all (·.oneCell') = true ∧ z25.toArray.size = Yh.size) := by
  by_cases h1 : b ∈ ins
  · refine (E.putIn X y v ins b hy hT hX h1 hsl hl).mono ?_
    rintro ev w' ⟨rfl, hT', hB, hg⟩
    exact ⟨_, _, _, rfl, .there h1, hT', hB, hg, E.box b⟩
  · have hf' : ∀ a ∈ ins, F b ≠ F a := fun a ha => hf a ha (fun e => h1 (e ▸ ha))
    by_cases h2 : ins.length < room
    · refine (E.putNew X y v ins b hy hT hX hf' h2 hsl hl).mono ?_
      rintro ev w' ⟨rfl, hT', hB, hg⟩
      exact ⟨_, _, _, rfl, .new h1 h2, hT', hB, hg, E.box b⟩
    · refine (E.putFull X y v ins b hy hT hX hf' h2 hsl hl).mono ?_
      rintro ev w' ⟨e, rfl, hTe, hT', hB, hg⟩
      exact ⟨_, e, _, rfl, .full e h1 (by omega) hTe, hT', hB, hg, z25_size, all_one (bys_one _), rfl⟩
/-- The block of a slice. -/
def Of (v : Value) (k : Nat) : Prop := v.ownBlock = some k
/-- A store stays off a row of one's own while that row is written or laid anew. -/
theorem SEnv.grown {w : World} {room sb bm : Nat} {F : Bys → Bys} {T : (Nat → Prop) → List Bys → World → Prop} (E : SEnv w room sb bm F T) {ins : List Bys} {y y' : World} {v v' : Value} (hT : T (Of v) ins y) (hg : y.grownBy y' v.ownBlock) (hv : v'.ownBlock = v.ownBlock ∨ v'.ownBlock = some y.heap.size) : T (Of v') ins y' := by
  have h1 := E.fresh _ _ _ hT
  have h2 := E.turn _ _ _ y' h1 (fun k hk hlt => hg.block k hlt (fun e => hk (.inl e.symm)))
  refine E.narrow _ _ _ _ h2 (fun k hk => ?_)
  rcases hv with hv | hv
  · left; unfold Of at *; rw [← hv]; exact hk
  · right
    unfold Of at hk
    rw [hv] at hk
    have := Option.some.inj hk
    omega
/-- A row of one's own stays while a map turns. -/
theorem own_map {w w' : World} {B t n x : Nat} {v : Value} {xs : List Value} (h : w.ownsRow B t 1 v n xs) (hg : w.grownBy w' (some x)) (hx : ∃ es c, w.heap[x]? = some (.map es c)) : w'.ownsRow B t 1 v n xs := by
  refine own_same h (fun k e => hg.block k (h.lt k e).2 (fun e' => ?_))
  have hkx : k = x := Option.some.inj e'
  subst hkx
  obtain ⟨es, c, hm⟩ := hx
  rcases h.2 with ⟨rfl, _⟩ | ⟨g, cap, cur, rfl, _, hgg, _⟩
  · cases e
  · have hk' : g = k := Option.some.inj e
    subst hk'
    rw [hm] at hgg
    cases hgg

/-- A new store, with all that is known of it. -/
theorem new_env (w : World) (r : Nat) (h1 : 1 ≤ r) (h2 : r ≤ 4096) : Calls Try.prog 8 #[.int .i64 (r : Int)] w fun ev w' => ∃ sb bm F T, ev = .returned (.tuple #[.pointer (some ⟨sb, 0, none⟩), .nilIface]) ∧ SEnv w r sb bm F T ∧ T (fun _ => False) [] w' ∧ Below w.heap.size w w' := by
  refine (new_ok w r h1 h2).mono ?_
  rintro ev w' ⟨v, bm, rfl, hS, hb⟩
  obtain ⟨sb, rfl, -⟩ := hS.shape
  exact ⟨sb, bm, _, _, rfl, senv_any w r sb bm h2 hS.omap, hS.wide (fun k hk => ⟨hk, id⟩), hb⟩
end Go.Proofs.Ytjnogpcpekheoaa
