/-
  The texts Wlk, Las, Nam, joined.
-/
import Derived.Test.YtjenmmkamhplkaaGreatJqsaStm2
import Derived.Test.YtjenmmkamhplkaaGreatJqsaSub4
/- Statements in the order of the text: the program walk. -/
namespace Go.Proofs.YtjenmmkamhplkaaGreat
open Go.RowKit
def ord : Nat -> St -> List St
  | 0, s => [s]
  | n + 1, s => s :: (s.thn.flatMap (ord n) ++ s.els.flatMap (ord n))
theorem ord_len : ∀ (n : Nat) (s : St), (ord n s).length = 1 + inner n s
  | 0, _ => rfl
  | n + 1, s => by
    have h : ∀ l : List St, (l.flatMap (ord n)).length = cnt n l := by
      intro l
      induction l with
      | nil => rfl
      | cons a l ih => rw [List.flatMap_cons, List.length_append, ih, ord_len n a, cnt_cons]
    simp only [ord, List.length_cons, List.length_append, h, inner_succ]
    omega
theorem ords_len (n : Nat) (l : List St) : (l.flatMap (ord n)).length = cnt n l := by
  induction l with
  | nil => rfl
  | cons a l ih => rw [List.flatMap_cons, List.length_append, ih, ord_len n a, cnt_cons]
theorem take_ord (n : Nat) (l : List St) (k : Nat) (h : k < l.length) : (l.take (k + 1)).flatMap (ord n) = (l.take k).flatMap (ord n) ++ ord n l[k] := by
  rw [List.take_add_one, List.getElem?_eq_getElem h, List.flatMap_append]
  simp
theorem take_cnt (n : Nat) (l : List St) (k : Nat) : cnt n (l.take k) <= cnt n l := by
  have h : cnt n l = cnt n (l.take k) + cnt n (l.drop k) := by
    unfold cnt
    rw [← List.sum_append, ← List.map_append, List.take_append_drop]
  omega
theorem at_cnt (n : Nat) (l : List St) (k : Nat) (h : k < l.length) : cnt n (l.take k) + (1 + inner n l[k]) <= cnt n l := by
  have h2 := take_cnt n l (k + 1)
  have e : cnt n (l.take (k + 1)) = cnt n (l.take k) + (1 + inner n l[k]) := by
    unfold cnt
    rw [List.take_add_one, List.getElem?_eq_getElem h, List.map_append, List.sum_append]
    simp
  omega
set_option maxHeartbeats 8000000 in
set_option maxRecDepth 20000 in
theorem walk43_of {n : Nat} {K : Ctx} {w0 : World} {c1 : Value} {most : Nat} {P : List St -> World -> Prop} (hP : ∀ d y, P d y -> Below K.C w0 y) (tell : (∀ (d : List St) (s : St) (y : World) (b o : Nat) (cs : List Value), P d y -> d.length < most -> (∀ j, j < 32 -> y.cell? ⟨b, o + j, none⟩ = cs[j]?) -> b < K.C -> (∃ n, StAt n K y cs s) -> Calls Tryz.prog 43 #[.pointer (some ⟨b, o, none⟩), c1] y fun ev y' => ev = .returned (.tuple #[]) /\ P (d ++ [s]) y'))
    (ih : ∀ (v : Value) (l : List St) (d : List St) (y : World), Ar 32 496 (StAt n K w0) K w0 v l -> P d y -> d.length + cnt n l <= most -> Calls Tryz.prog 42 #[v, .func (.func 43) #[] #[c1]] y fun ev y' => ev = .returned (.tuple #[]) /\ P (d ++ l.flatMap (ord n)) y')
    {v : Value} {l : List St} (ha : Ar 32 496 (StAt (n + 1) K w0) K w0 v l) (d0 : List St) (w : World) (h0 : P d0 w) (hm : d0.length + cnt (n + 1) l <= most) :
    Calls Tryz.prog 42 #[v, .func (.func 43) #[] #[c1]] w fun ev y' => ev = .returned (.tuple #[]) /\ P (d0 ++ l.flatMap (ord (n + 1))) y' := by
  obtain ⟨ao, cap, rfl, hc, hb, hA⟩ := ha.shape
  have hl9 : l.length <= 9223372036854775807 := by omega
  have HA : Hid (∀ i (h : i < l.length), ∃ b o, ao = some ⟨b, o, none⟩ /\ b < K.C /\ ∃ cs, (∀ j, j < 32 -> w0.cell? ⟨b, o + i * 32 + j, none⟩ = cs[j]?) /\ StAt (n + 1) K w0 cs l[i]) := by
    intro i h
    obtain ⟨b, o, e, hbC, cs, hl, hcs, hx⟩ := hA i h
    exact ⟨b, o, e, hbC, cs, hcs, hx⟩
  have HP : Hid (∀ d y, P d y -> Below K.C w0 y) := hP
  have HT := hid0 tell
  have HI := hid0 ih
  have H0 : Hid (P d0 w) := h0
  have HM : Hid (d0.length + cnt (n + 1) l <= most) := hm
  clear hA ha hb hP tell ih h0 hm
  go_enter Tryz.func42, Tryz.ntmps42
  go_wp2_with fail
  go_loopw [8] (fun i wr => ∃ k : Nat, k <= l.length /\ i = .int .i64 k /\ P (d0 ++ (l.take k).flatMap (ord (n + 1))) wr) (fun i _ => l.length - (intOf i).toNat)
  case atStart => exact ⟨0, by omega, rfl, by simpa using H0.out⟩
  case round =>
    obtain ⟨k, hk, rfl, hrl⟩ := hrel
    have HR : Hid (P (d0 ++ (l.take k).flatMap (ord (n + 1))) wr) := hrl
    clear hrl H0
    by_cases h3 : k < l.length
    . obtain ⟨b, o, e, hbC, cs, hcs, hx⟩ := HA.out k h3
      subst e
      have i1 : (k : Int) < (l.length : Int) := by omega
      have hmk := at_cnt (n + 1) l k h3
      have hmm := HM.out
      have hlen : (d0 ++ (l.take k).flatMap (ord (n + 1))).length = d0.length + cnt (n + 1) (l.take k) := by rw [List.length_append, ords_len]
      have hcw : ∀ y, Below K.C w0 y -> ∀ j, j < 32 -> y.cell? ⟨b, o + k * 32 + j, none⟩ = cs[j]? := fun y hy j hj => by rw [hy.cell (p := ⟨b, o + k * 32 + j, none⟩) hbC]; exact hcs j hj
      obtain ⟨ts, ps, vs, os, vt, ve, rfl, h1, h2, h3', h4, h5, h6, h7⟩ := id hx
      have l1 := h2.len
      have l2 := h3'.len
      have l3 := h4.len
      have l4 := h5.len
      have HC : Hid (∀ y, Below K.C w0 y -> y.cell? ⟨b, o + k * 32 + 30, none⟩ = some vt /\ y.cell? ⟨b, o + k * 32 + 31, none⟩ = some ve) := by
        intro y hy
        have pb := part_at (hcw y hy) (.int .i64 (l[k]).kind :: .int .i64 (l[k]).pos :: .bool (l[k]).mu :: .string (str (l[k]).name) :: (ts ++ (.bool (l[k]).has :: (ps ++ (vs ++ os))))) [vt, ve] [] (k := 30) (n := 2) (by simp [l1, l2, l3, l4]) rfl (by decide) (by simp)
        exact ⟨pb 0 (by decide), pb 1 (by decide)⟩
      have D1 : Hid (Calls Tryz.prog 43 #[.pointer (some ⟨b, o + k * 32, none⟩), c1] wr fun ev y' => ev = .returned (.tuple #[]) /\ P (d0 ++ (l.take k).flatMap (ord (n + 1)) ++ [l[k]]) y') :=
        HT.out _ l[k] wr b (o + k * 32) _ HR.out (by rw [hlen]; omega) (hcw wr (HP.out _ _ HR.out)) hbC ⟨n + 1, hx.below (HP.out _ _ HR.out)⟩
      have e1 : inner (n + 1) l[k] = cnt n (l[k]).thn + cnt n (l[k]).els := rfl
      have D2 : Hid (∀ y, P (d0 ++ (l.take k).flatMap (ord (n + 1)) ++ [l[k]]) y -> Calls Tryz.prog 42 #[vt, .func (.func 43) #[] #[c1]] y fun ev y' => ev = .returned (.tuple #[]) /\ P (d0 ++ (l.take k).flatMap (ord (n + 1)) ++ [l[k]] ++ (l[k]).thn.flatMap (ord n)) y') :=
        fun y hy => HI.out vt (l[k]).thn _ y h6 hy (by rw [List.length_append, hlen]; simp; omega)
      have D3 : Hid (∀ y, P (d0 ++ (l.take k).flatMap (ord (n + 1)) ++ [l[k]] ++ (l[k]).thn.flatMap (ord n)) y -> Calls Tryz.prog 42 #[ve, .func (.func 43) #[] #[c1]] y fun ev y' => ev = .returned (.tuple #[]) /\ P (d0 ++ (l.take (k + 1)).flatMap (ord (n + 1))) y') := by
        intro y hy
        refine (HI.out ve (l[k]).els _ y h7 hy (by rw [List.length_append, List.length_append, hlen, ords_len]; simp; omega)).mono ?_
        rintro _ _ ⟨rfl, h⟩
        refine ⟨rfl, ?_⟩
        rw [take_ord (n + 1) l k h3]
        simpa [ord, List.append_assoc] using h
      obtain ⟨a6, c6, e6⟩ := h6.form
      obtain ⟨a7, c7, e7⟩ := h7.form
      subst e6 e7
      generalize (l[k]).thn.length = n6 at *
      generalize (l[k]).els.length = n7 at *
      clear hx h1 h2 h3' h4 h5 h6 h7 l1 l2 l3 l4 hcw hcs HA HT HI HR e1 hlen hmk hmm HM
      go_wp2_with fail
      refine D1.out.mono ?_
      rintro ev w1 ⟨rfl, p1⟩
      obtain ⟨q1, _⟩ := HC.out w1 (HP.out _ _ p1)
      go_wp2_with fail
      refine (D2.out _ p1).mono ?_
      rintro ev w2 ⟨rfl, p2⟩
      obtain ⟨_, q2⟩ := HC.out w2 (HP.out _ _ p2)
      go_wp2_with fail
      refine (D3.out _ p2).mono ?_
      rintro ev w3 ⟨rfl, p3⟩
      go_wp2_with fail
      go_roundw
      case rel => exact ⟨k + 1, by omega, by go_num, p3⟩
      case measure => simp [intOf]; omega
    . have i1 : ¬ (k : Int) < (l.length : Int) := by omega
      have hfull : l.take k = l := List.take_of_length_le (by omega)
      have HF : Hid (P (d0 ++ l.flatMap (ord (n + 1))) wr) := by have := HR.out; rw [hfull] at this; exact this
      clear hfull HA HT HI HR
      go_wp2_with fail
      go_end0
      exact ⟨rfl, HF.out⟩
set_option maxHeartbeats 4000000 in
theorem walk43_nil {c1 : Value} {P : World -> Prop} {ao : Option Addr} {cap : Nat} (w : World) (h0 : P w) :
    Calls Tryz.prog 42 #[.slice ao 0 cap, .func (.func 43) #[] #[c1]] w fun ev y' => ev = .returned (.tuple #[]) /\ P y' := by
  have H0 : Hid (P w) := h0
  clear h0
  go_enter Tryz.func42, Tryz.ntmps42
  go_wp2_with fail
  go_loopw [8] (fun i wr => i = .int .i64 0 /\ wr = w) (fun _ _ => 0)
  case atStart => exact ⟨rfl, rfl⟩
  case round =>
    obtain ⟨rfl, rfl⟩ := hrel
    go_wp2_with fail
    go_end0
    exact ⟨rfl, H0.out⟩
theorem ar_zero {K : Ctx} {w : World} {v : Value} {l : List St} (h : Ar 32 496 (StAt 0 K w) K w v l) : l = [] := by
  cases l with
  | nil => rfl
  | cons a l =>
    obtain ⟨_, _, _, _, _, hA⟩ := h.shape
    obtain ⟨_, _, _, _, _, _, _, hx⟩ := hA 0 (by simp)
    exact hx.elim
theorem walk43_all {K : Ctx} {w0 : World} {c1 : Value} {most : Nat} {P : List St -> World -> Prop} (hP : ∀ d y, P d y -> Below K.C w0 y)
    (tell : ∀ (d : List St) (s : St) (y : World) (b o : Nat) (cs : List Value), P d y -> d.length < most -> (∀ j, j < 32 -> y.cell? ⟨b, o + j, none⟩ = cs[j]?) -> b < K.C -> (∃ n, StAt n K y cs s) -> Calls Tryz.prog 43 #[.pointer (some ⟨b, o, none⟩), c1] y fun ev y' => ev = .returned (.tuple #[]) /\ P (d ++ [s]) y') :
    ∀ (n : Nat) (v : Value) (l : List St) (d : List St) (y : World), Ar 32 496 (StAt n K w0) K w0 v l -> P d y -> d.length + cnt n l <= most -> Calls Tryz.prog 42 #[v, .func (.func 43) #[] #[c1]] y fun ev y' => ev = .returned (.tuple #[]) /\ P (d ++ l.flatMap (ord n)) y'
  | 0, v, l, d, y, ha, hd, _ => by
    obtain rfl := ar_zero ha
    obtain ⟨ao, cap, rfl⟩ := ha.form
    simp only [List.flatMap_nil, List.append_nil]
    exact walk43_nil y hd
  | n + 1, v, l, d, y, ha, hd, hm => walk43_of hP tell (walk43_all hP tell n) ha d y hd hm
set_option maxHeartbeats 4000000 in
theorem count1_any {g : Nat} {k : Nat} {y : World} (r : Row y g 3 [.int .i64 (k : Int)]) (hk : k < 4611686018427387904) (b o : Nat) :
    Calls Tryz.prog 43 #[.pointer (some ⟨b, o, none⟩), .pointer (some ⟨g, 0, none⟩)] y fun ev y' => ev = .returned (.tuple #[]) /\ y' = y.setCell ⟨g, 0, none⟩ (.int .i64 ((k + 1 : Nat) : Int)) := by
  have c0 : y.cell? ⟨g, 0, none⟩ = some (.int .i64 (k : Int)) := r.cell 0
  have z0 := r.fz 0
  have e : ((k + 1 : Nat) : Int) = (k : Int) + 1 := by omega
  rw [e]
  clear r e
  go_enter Tryz.func43, Tryz.ntmps43
  go_wp2_with fail
  go_end0
  exact ⟨rfl, rfl⟩
set_option maxHeartbeats 4000000 in
theorem count_any {n : Nat} {K : Ctx} {w : World} (hC : K.C <= w.heap.size) {v : Value} {l : List St} (ha : Ar 32 496 (StAt n K w) K w v l) (hm : cnt n l <= 4611686018427387904) :
    Calls Tryz.prog 19 #[v] w fun ev w' => ev = .returned (.int .i64 (cnt n l : Int)) /\ Below w.heap.size w w' := by
  have hA := alloc_one w (.cells #[.int .i64 0] 3)
  have D : Hid (Calls Tryz.prog 42 #[v, .func (.func 43) #[] #[.pointer (some ⟨w.heap.size, 0, none⟩)]] (w.alloc (.cells #[.int .i64 0] 3)) fun ev w' => ev = .returned (.tuple #[]) /\ Row w' w.heap.size 3 [.int .i64 (cnt n l : Int)] /\ Below w.heap.size w w') := by
    have h := walk43_all (K := K) (w0 := w) (c1 := .pointer (some ⟨w.heap.size, 0, none⟩)) (most := 4611686018427387904)
      (P := fun d y => Row y w.heap.size 3 [.int .i64 (d.length : Int)] /\ Below w.heap.size w y) (fun d y h => below_le h.2 hC)
      (fun d s y b o cs h hd _ _ _ => by
        refine (count1_any h.1 hd b o).mono ?_
        rintro _ _ ⟨rfl, rfl⟩
        refine ⟨rfl, ?_, nxt h.2 ((Stay.refl (fun k => k = w.heap.size) y).set (fun _ => rfl) _ _)⟩
        have := h.1.set 0 (.int .i64 ((d.length + 1 : Nat) : Int))
        simpa using this)
      n v l [] (w.alloc (.cells #[.int .i64 0] 3)) ha ⟨Row.new w 3 _, hA⟩ (by simpa using hm)
    refine h.mono ?_
    rintro _ _ ⟨rfl, h1, h2⟩
    rw [List.nil_append, ords_len] at h1
    exact ⟨rfl, h1, h2⟩
  obtain ⟨ao, cap, rfl⟩ := ha.form
  have hmf := hmf0
  clear ha hA hm
  generalize cnt n l = c at *
  generalize l.length = len at *
  go_enter Tryz.func19, Tryz.ntmps19
  go_wp2_with fail
  refine D.out.mono ?_
  rintro ev w1 ⟨rfl, r1, hb1⟩
  have c0 : w1.cell? ⟨w.heap.size, 0, none⟩ = some (.int .i64 (c : Int)) := r1.cell 0
  clear r1 D
  go_wp2_with fail
  go_ret
  exact ⟨rfl, hb1⟩
set_option maxHeartbeats 8000000 in
set_option maxRecDepth 20000 in
theorem walk45_of {n : Nat} {K : Ctx} {w0 : World} {c1 : Value} {most : Nat} {P : List St -> World -> Prop} (hP : ∀ d y, P d y -> Below K.C w0 y) (tell : (∀ (d : List St) (s : St) (y : World) (b o : Nat) (cs : List Value), P d y -> d.length < most -> (∀ j, j < 32 -> y.cell? ⟨b, o + j, none⟩ = cs[j]?) -> b < K.C -> (∃ n, StAt n K y cs s) -> Calls Tryz.prog 45 #[.pointer (some ⟨b, o, none⟩), c1] y fun ev y' => ev = .returned (.tuple #[]) /\ P (d ++ [s]) y'))
    (ih : ∀ (v : Value) (l : List St) (d : List St) (y : World), Ar 32 496 (StAt n K w0) K w0 v l -> P d y -> d.length + cnt n l <= most -> Calls Tryz.prog 42 #[v, .func (.func 45) #[] #[c1]] y fun ev y' => ev = .returned (.tuple #[]) /\ P (d ++ l.flatMap (ord n)) y')
    {v : Value} {l : List St} (ha : Ar 32 496 (StAt (n + 1) K w0) K w0 v l) (d0 : List St) (w : World) (h0 : P d0 w) (hm : d0.length + cnt (n + 1) l <= most) :
    Calls Tryz.prog 42 #[v, .func (.func 45) #[] #[c1]] w fun ev y' => ev = .returned (.tuple #[]) /\ P (d0 ++ l.flatMap (ord (n + 1))) y' := by
  obtain ⟨ao, cap, rfl, hc, hb, hA⟩ := ha.shape
  have hl9 : l.length <= 9223372036854775807 := by omega
  have HA : Hid (∀ i (h : i < l.length), ∃ b o, ao = some ⟨b, o, none⟩ /\ b < K.C /\ ∃ cs, (∀ j, j < 32 -> w0.cell? ⟨b, o + i * 32 + j, none⟩ = cs[j]?) /\ StAt (n + 1) K w0 cs l[i]) := by
    intro i h
    obtain ⟨b, o, e, hbC, cs, hl, hcs, hx⟩ := hA i h
    exact ⟨b, o, e, hbC, cs, hcs, hx⟩
  have HP : Hid (∀ d y, P d y -> Below K.C w0 y) := hP
  have HT := hid0 tell
  have HI := hid0 ih
  have H0 : Hid (P d0 w) := h0
  have HM : Hid (d0.length + cnt (n + 1) l <= most) := hm
  clear hA ha hb hP tell ih h0 hm
  go_enter Tryz.func42, Tryz.ntmps42
  go_wp2_with fail
  go_loopw [8] (fun i wr => ∃ k : Nat, k <= l.length /\ i = .int .i64 k /\ P (d0 ++ (l.take k).flatMap (ord (n + 1))) wr) (fun i _ => l.length - (intOf i).toNat)
  case atStart => exact ⟨0, by omega, rfl, by simpa using H0.out⟩
  case round =>
    obtain ⟨k, hk, rfl, hrl⟩ := hrel
    have HR : Hid (P (d0 ++ (l.take k).flatMap (ord (n + 1))) wr) := hrl
    clear hrl H0
    by_cases h3 : k < l.length
    . obtain ⟨b, o, e, hbC, cs, hcs, hx⟩ := HA.out k h3
      subst e
      have i1 : (k : Int) < (l.length : Int) := by omega
      have hmk := at_cnt (n + 1) l k h3
      have hmm := HM.out
      have hlen : (d0 ++ (l.take k).flatMap (ord (n + 1))).length = d0.length + cnt (n + 1) (l.take k) := by rw [List.length_append, ords_len]
      have hcw : ∀ y, Below K.C w0 y -> ∀ j, j < 32 -> y.cell? ⟨b, o + k * 32 + j, none⟩ = cs[j]? := fun y hy j hj => by rw [hy.cell (p := ⟨b, o + k * 32 + j, none⟩) hbC]; exact hcs j hj
      obtain ⟨ts, ps, vs, os, vt, ve, rfl, h1, h2, h3', h4, h5, h6, h7⟩ := id hx
      have l1 := h2.len
      have l2 := h3'.len
      have l3 := h4.len
      have l4 := h5.len
      have HC : Hid (∀ y, Below K.C w0 y -> y.cell? ⟨b, o + k * 32 + 30, none⟩ = some vt /\ y.cell? ⟨b, o + k * 32 + 31, none⟩ = some ve) := by
        intro y hy
        have pb := part_at (hcw y hy) (.int .i64 (l[k]).kind :: .int .i64 (l[k]).pos :: .bool (l[k]).mu :: .string (str (l[k]).name) :: (ts ++ (.bool (l[k]).has :: (ps ++ (vs ++ os))))) [vt, ve] [] (k := 30) (n := 2) (by simp [l1, l2, l3, l4]) rfl (by decide) (by simp)
        exact ⟨pb 0 (by decide), pb 1 (by decide)⟩
      have D1 : Hid (Calls Tryz.prog 45 #[.pointer (some ⟨b, o + k * 32, none⟩), c1] wr fun ev y' => ev = .returned (.tuple #[]) /\ P (d0 ++ (l.take k).flatMap (ord (n + 1)) ++ [l[k]]) y') :=
        HT.out _ l[k] wr b (o + k * 32) _ HR.out (by rw [hlen]; omega) (hcw wr (HP.out _ _ HR.out)) hbC ⟨n + 1, hx.below (HP.out _ _ HR.out)⟩
      have e1 : inner (n + 1) l[k] = cnt n (l[k]).thn + cnt n (l[k]).els := rfl
      have D2 : Hid (∀ y, P (d0 ++ (l.take k).flatMap (ord (n + 1)) ++ [l[k]]) y -> Calls Tryz.prog 42 #[vt, .func (.func 45) #[] #[c1]] y fun ev y' => ev = .returned (.tuple #[]) /\ P (d0 ++ (l.take k).flatMap (ord (n + 1)) ++ [l[k]] ++ (l[k]).thn.flatMap (ord n)) y') :=
        fun y hy => HI.out vt (l[k]).thn _ y h6 hy (by rw [List.length_append, hlen]; simp; omega)
      have D3 : Hid (∀ y, P (d0 ++ (l.take k).flatMap (ord (n + 1)) ++ [l[k]] ++ (l[k]).thn.flatMap (ord n)) y -> Calls Tryz.prog 42 #[ve, .func (.func 45) #[] #[c1]] y fun ev y' => ev = .returned (.tuple #[]) /\ P (d0 ++ (l.take (k + 1)).flatMap (ord (n + 1))) y') := by
        intro y hy
        refine (HI.out ve (l[k]).els _ y h7 hy (by rw [List.length_append, List.length_append, hlen, ords_len]; simp; omega)).mono ?_
        rintro _ _ ⟨rfl, h⟩
        refine ⟨rfl, ?_⟩
        rw [take_ord (n + 1) l k h3]
        simpa [ord, List.append_assoc] using h
      obtain ⟨a6, c6, e6⟩ := h6.form
      obtain ⟨a7, c7, e7⟩ := h7.form
      subst e6 e7
      generalize (l[k]).thn.length = n6 at *
      generalize (l[k]).els.length = n7 at *
      clear hx h1 h2 h3' h4 h5 h6 h7 l1 l2 l3 l4 hcw hcs HA HT HI HR e1 hlen hmk hmm HM
      go_wp2_with fail
      refine D1.out.mono ?_
      rintro ev w1 ⟨rfl, p1⟩
      obtain ⟨q1, _⟩ := HC.out w1 (HP.out _ _ p1)
      go_wp2_with fail
      refine (D2.out _ p1).mono ?_
      rintro ev w2 ⟨rfl, p2⟩
      obtain ⟨_, q2⟩ := HC.out w2 (HP.out _ _ p2)
      go_wp2_with fail
      refine (D3.out _ p2).mono ?_
      rintro ev w3 ⟨rfl, p3⟩
      go_wp2_with fail
      go_roundw
      case rel => exact ⟨k + 1, by omega, by go_num, p3⟩
      case measure => simp [intOf]; omega
    . have i1 : ¬ (k : Int) < (l.length : Int) := by omega
      have hfull : l.take k = l := List.take_of_length_le (by omega)
      have HF : Hid (P (d0 ++ l.flatMap (ord (n + 1))) wr) := by have := HR.out; rw [hfull] at this; exact this
      clear hfull HA HT HI HR
      go_wp2_with fail
      go_end0
      exact ⟨rfl, HF.out⟩
set_option maxHeartbeats 4000000 in
theorem walk45_nil {c1 : Value} {P : World -> Prop} {ao : Option Addr} {cap : Nat} (w : World) (h0 : P w) :
    Calls Tryz.prog 42 #[.slice ao 0 cap, .func (.func 45) #[] #[c1]] w fun ev y' => ev = .returned (.tuple #[]) /\ P y' := by
  have H0 : Hid (P w) := h0
  clear h0
  go_enter Tryz.func42, Tryz.ntmps42
  go_wp2_with fail
  go_loopw [8] (fun i wr => i = .int .i64 0 /\ wr = w) (fun _ _ => 0)
  case atStart => exact ⟨rfl, rfl⟩
  case round =>
    obtain ⟨rfl, rfl⟩ := hrel
    go_wp2_with fail
    go_end0
    exact ⟨rfl, H0.out⟩
theorem walk45_all {K : Ctx} {w0 : World} {c1 : Value} {most : Nat} {P : List St -> World -> Prop} (hP : ∀ d y, P d y -> Below K.C w0 y)
    (tell : ∀ (d : List St) (s : St) (y : World) (b o : Nat) (cs : List Value), P d y -> d.length < most -> (∀ j, j < 32 -> y.cell? ⟨b, o + j, none⟩ = cs[j]?) -> b < K.C -> (∃ n, StAt n K y cs s) -> Calls Tryz.prog 45 #[.pointer (some ⟨b, o, none⟩), c1] y fun ev y' => ev = .returned (.tuple #[]) /\ P (d ++ [s]) y') :
    ∀ (n : Nat) (v : Value) (l : List St) (d : List St) (y : World), Ar 32 496 (StAt n K w0) K w0 v l -> P d y -> d.length + cnt n l <= most -> Calls Tryz.prog 42 #[v, .func (.func 45) #[] #[c1]] y fun ev y' => ev = .returned (.tuple #[]) /\ P (d ++ l.flatMap (ord n)) y'
  | 0, v, l, d, y, ha, hd, _ => by
    obtain rfl := ar_zero ha
    obtain ⟨ao, cap, rfl⟩ := ha.form
    simp only [List.flatMap_nil, List.append_nil]
    exact walk45_nil y hd
  | n + 1, v, l, d, y, ha, hd, hm => walk45_of hP tell (walk45_all hP tell n) ha d y hd hm

/- A region that draws its order and ends with one store for which all else waits: the condition on the world is asked of every operation but that store. -/
section
variable {P : Program} {ops : Array Oper} {Q : Exit -> Act -> World -> Prop} {md : Region.Mode} {S : World -> Prop} {n : Nat}
def wpAnyL (P : Program) (md : Region.Mode) (ops : Array Oper) (Q : Exit -> Act -> World -> Prop) (S : World -> Prop) (n : Nat) : Nat -> Array Bool -> Act -> World -> Prop
  | 0, l, a, w => Region.ready md ops l = [] /\ Q .normal a w
  | f + 1, l, a, w => (Region.ready md ops l = [] -> Q .normal a w) /\ ∀ i ∈ Region.ready md ops l, wpOp P ops Q i (fun a' w' => (i ≠ n -> S w') /\ wpAnyL P md ops Q S n f (l.setIfInBounds i true) a' w') a w
theorem wpAny_ofL (f : Nat) : ∀ (l : Array Bool) (a : Act) (w : World), wpAnyL P md ops Q S n f l a w -> wpAny P md ops Q f l a w := by
  induction f with
  | zero => exact fun l a w h => h
  | succ f ih => exact fun l a w h => ⟨h.1, fun i hi => wpOp_mono (fun a' w' h' => ih _ _ _ h'.2) (h.2 i hi)⟩
def waits (md : Region.Mode) (ops : Array Oper) (n i : Nat) : Bool := match ops[n]? with
  | some o => o.after.toList.any fun e => Region.binds md e && e.on == i
  | none => true
theorem not_ready {l : Array Bool} {i : Nat} (hw : waits md ops n i = true) (hi : i ∈ Region.ready md ops l) : n ∉ Region.ready md ops l := by
  intro hn
  obtain ⟨_, o, ho, hall⟩ := mem_ready.1 hn
  unfold waits at hw
  rw [ho] at hw
  obtain ⟨e, he, hb⟩ := List.any_eq_true.1 hw
  rw [Bool.and_eq_true] at hb
  have h1 := hall e (by simpa using he) hb.1
  have h0 := (mem_ready.1 hi).1
  rw [beq_iff_eq.1 hb.2] at h1
  rcases Nat.lt_or_ge i l.size with h | h
  . simp [h] at h0 h1; rw [h0] at h1; cases h1
  . simp [Array.getElem?_eq_none h] at h1
theorem firstL {i : Nat} {oi : Oper} {v : Value} (hi : ops[i]? = some oi) (hne : i ≠ n) (hw : waits md ops n i = true) (hsel : ∀ (j : Nat) (o : Oper) cs b, ops[j]? = some o -> o.op ≠ .select cs b)
    (hQ : ∀ c a w, Q (.panic c) (a.put oi.dst v) w -> Q (.panic c) a w) (f : Nat) :
    ∀ (l : Array Bool) (a : Act) (w : World),
      (∀ j oj, ops[j]? = some oj -> j ≠ i -> l.getD j true = false -> (∀ e ∈ oj.after, Region.binds md e = true -> e.on ≠ i) -> oi.apart ops oj = true) ->
      i ∈ Region.ready md ops l -> YieldsIf P ops S oi v a -> S w ->
      wpAnyL P md ops Q S n f (l.setIfInBounds i true) (a.put oi.dst v) w -> wpAnyL P md ops Q S n (f + 1) l a w := by
  induction f with
  | zero =>
    intro l a w _ hr hy hS H
    refine ⟨fun h => (by rw [h] at hr; cases hr), fun j hj => ?_⟩
    by_cases hji : j = i
    . subst hji
      exact hy.wpOp hi hS ⟨fun _ => hS, H⟩
    . have h0 := ready_mono hj hji
      rw [H.1] at h0
      cases h0
  | succ f ih =>
    intro l a w hfree hr hy hS H
    refine ⟨fun h => (by rw [h] at hr; cases hr), fun j hj => ?_⟩
    by_cases hji : j = i
    . subst hji
      exact hy.wpOp hi hS ⟨fun _ => hS, H⟩
    . have hjn : j ≠ n := fun e => not_ready hw hr (e ▸ hj)
      obtain ⟨hjl, oj, hoj, hall⟩ := mem_ready.1 hj
      have hapart : oi.apart ops oj = true := by
        refine hfree j oj hoj hji hjl (fun e he hb heq => ?_)
        have h1 := hall e he hb
        have h0 := (mem_ready.1 hr).1
        rw [heq] at h1
        rcases Nat.lt_or_ge i l.size with h' | h'
        . simp [h'] at h0 h1; rw [h0] at h1; cases h1
        . simp [Array.getElem?_eq_none h'] at h1
      have hput := wpOp_putIf hoj hapart (fun cs b => hsel i oi cs b hi) (fun cs b => hsel j oj cs b hoj) hQ hy (H.2 j (ready_mono hj hji))
      refine wpOp_mono (fun a' w' h3 => ⟨fun _ => h3.2.1 hjn, ih (l.setIfInBounds j true) a' w' (fun k ok hk hki hun hno => hfree k ok hk hki ?_ hno) (ready_mono hr (Ne.symm hji)) h3.1 (h3.2.1 hjn) ?_⟩) hput
      . by_cases hjk : j = k
        . subst hjk; exact hjl
        . rw [getD_set_ne true hjk] at hun; exact hun
      . rw [Array.setIfInBounds_comm _ _ hji]
        exact h3.2.2
theorem takeL (i : Nat) {oi : Oper} {v : Value} {f : Nat} {l : Array Bool} {a : Act} {w : World} (hi : ops[i]? = some oi) (d : Option Tmp) (hd : oi.dst = d) (hne : i ≠ n) (hw : waits md ops n i = true)
    (hs : Region.noSelect ops = true) (hf : Region.free md ops l i = true) (hr : (Region.ready md ops l).contains i = true)
    (hQ : ∀ c a w, Q (.panic c) (a.put d v) w -> Q (.panic c) a w) (hy : YieldsIf P ops S oi v a) (hS : S w)
    (h : wpAnyL P md ops Q S n f (l.setIfInBounds i true) (a.put d v) w) : wpAnyL P md ops Q S n (f + 1) l a w := by
  subst hd
  exact firstL hi hne hw (Region.noSelect_spec hs) hQ f l a w (Region.free_spec hi hf) (by simpa using hr) hy hS h
def ReadyL (P : Program) (md : Region.Mode) (ops : Array Oper) (Q : Exit -> Act -> World -> Prop) (S : World -> Prop) (n f : Nat) (l : Array Bool) (a : Act) (w : World) (rs : List Nat) : Prop :=
  ∀ i ∈ rs, wpOp P ops Q i (fun a' w' => (i ≠ n -> S w') /\ wpAnyL P md ops Q S n f (l.setIfInBounds i true) a' w') a w
theorem ReadyL.nil {f : Nat} {l : Array Bool} {a : Act} {w : World} : ReadyL P md ops Q S n f l a w [] := fun _ h => by cases h
theorem ReadyL.cons {f : Nat} {l : Array Bool} {a : Act} {w : World} {i : Nat} {o : Oper} {rs : List Nat} (ho : ops[i]? = some o)
    (h : ∀ K' : Act -> World -> Prop, Shut (∀ a w, (i ≠ n -> S w) -> ((i ≠ n -> S w) -> wpAnyL P md ops Q S n f (l.setIfInBounds i true) a w) -> K' a w) -> if Region.wanted o (yielded ops a.tmps) = true then Oper.wp P o a w K' Q else K' (a.put o.dst undef) w)
    (hs : ReadyL P md ops Q S n f l a w rs) : ReadyL P md ops Q S n f l a w (i :: rs) := fun j hj => by
  rcases List.mem_cons.1 hj with rfl | hj
  . exact wpOp_step ho (fun K' hK => h K' (fun a w hS hW => hK a w ⟨hS, hW hS⟩))
  . exact hs j hj
theorem readyL {rs : List Nat} {f : Nat} {l : Array Bool} {a : Act} {w : World} (hr : Region.ready md ops l = rs) (hne : rs ≠ []) (h : ReadyL P md ops Q S n f l a w rs) : wpAnyL P md ops Q S n (f + 1) l a w :=
  ⟨fun h0 => absurd (hr ▸ h0) hne, hr ▸ h⟩
theorem doneL {l : Array Bool} {a : Act} {w : World} (hr : Region.ready md ops l = []) (h : Q .normal a w) : ∀ f, wpAnyL P md ops Q S n f l a w
  | 0 => ⟨hr, h⟩
  | _ + 1 => ⟨fun _ => h, by rw [hr]; simp⟩
theorem beginL {id : Nat} {a : Act} {w : World} (S : World -> Prop) (n : Nat) (hm : P.follows .mixedOrders = true) (hS : S w.drew) (h : S w.drew -> wpAnyL P .any ops Q S n ops.size (Array.replicate ops.size false) a w.drew) : (Code.region id ops true).wp P Q a w :=
  wp_region_any hm (wpAny_ofL _ _ _ _ (h hS))
end

/- Names: one more text at a row of one's own; the closure that tells names. -/
theorem want {c p q : Prop} [Decidable c] (hc : c) (h : p) : if c then p else q := by rw [if_pos hc]; exact h
theorem below_grown {B : Nat} {w w' : World} {row : Option Nat} (h : w.grownBy w' row) (hB : B <= w.heap.size) (hr : ∀ k, row = some k -> B <= k) : Below B w w' :=
  (Below.refl B w).grown h hB hr
theorem own_same' {w w' : World} {B t s n : Nat} {v : Value} {xs : List Value} (h : w.ownsRow B t s v n xs) (hs : ∀ k, v.ownBlock = some k -> w'.heap[k]? = w.heap[k]?) : w'.ownsRow B t s v n xs := by
  refine ⟨h.1, ?_⟩
  rcases h.2 with hn | ⟨g, cap, cur, rfl, hb, hgg, rest⟩
  . exact .inl hn
  . exact .inr ⟨g, cap, cur, rfl, hb, by rw [hs g rfl]; exact hgg, rest⟩
theorem own_past' {w w' : World} {B t s n : Nat} {v : Value} {xs : List Value} (h : w.ownsRow B t s v n xs) (hb : Below w.heap.size w w') : w'.ownsRow B t s v n xs :=
  own_same' h (fun k e => hb.block k (h.lt k e).2)
theorem own_mono {w : World} {B B' t s n : Nat} {v : Value} {xs : List Value} (h : w.ownsRow B t s v n xs) (hb : B' <= B) : w.ownsRow B' t s v n xs := by
  refine ⟨h.1, ?_⟩
  rcases h.2 with hn | ⟨g, cap, cur, e, h1, h2⟩
  . exact .inl hn
  . exact .inr ⟨g, cap, cur, e, Nat.le_trans hb h1, h2⟩
def strs (l : List Bs) : List Value := l.map fun s => .string (str s)
theorem strs_snoc (l : List Bs) (s : Bs) : strs (l ++ [s]) = strs l ++ [.string (str s)] := by simp [strs]
theorem Tryz.info9z : (Tryz.prog.info? 9).map (fun i => (i.zero, i.size, i.bytes)) = some (some (.string ⟨#[]⟩), 1, 16) := by kernel_rfl
theorem wpo_app9 {o : Oper} {a : Act} {K : Act -> World -> Prop} {Q : Exit -> Act -> World -> Prop} {w : World} {B : Nat} {v : Value} {T : List Bs} (s x : Operand)
    (ho : o.op = .call { callee := .builtin .append, args := #[s, x], argTypes := #[28, 28] }) (hs : a.eval s = v) (hown : w.ownsRow B 9 1 v T.length (strs T)) (hB : B <= w.heap.size)
    (g c : Nat) (t : Bs) (hx : a.eval x = .slice (some ⟨g, 0, none⟩) 1 c) (hr : w.cell? ⟨g, 0, none⟩ = some (.string (str t))) (hn : T.length <= 10000000)
    (k : ∀ v' w', w'.ownsRow B 9 1 v' (T ++ [t]).length (strs (T ++ [t])) -> Below B w w' -> (∃ ao n cap, v' = .slice ao n cap) -> w.grownBy w' v.ownBlock -> K (a.put o.dst v') w') : Oper.wp Tryz.prog o a w K Q := by
  obtain ⟨i0, hi, hz0, hz1, hz2⟩ := info_parts Tryz.info9z
  obtain ⟨v', w', hrr, h2, h3, h4, h5⟩ := run_append_own_at (P := Tryz.prog) w B 28 o.type 9 i0 (.string ⟨#[]⟩) 1 16 Tryz.underlying28 hi hz0 hz1 hz2 rfl (by decide) _ _ _ hown ⟨g, 0, none⟩ 1 c [.string (str t)] rfl (fun j u hj => by
    rcases j with _ | j
    . rw [addr_add]; simp at hj; subst hj; exact hr
    . simp at hj) (fun u hu => by simp at hu; subst hu; rfl) (by unfold maxLen; omega) (by omega) hB
  unfold Oper.wp execOp
  simp only [ho, resolve, invoke, builtin, Sem.run_bind, Sem.run_pure, Result.andThen_ok, List.map_toArray, List.map_cons, List.map_nil, hs, hx, hrr]
  refine k v' w' ?_ (below_grown h3 hB (fun k e => (hown.lt k e).1)) ?_ ?_
  . rw [strs_snoc, List.length_append]; exact h2
  . rcases h2.2 with ⟨e, _⟩ | ⟨g, cap, cur, e, _⟩
    . exact ⟨_, _, _, e⟩
    . exact ⟨_, _, _, e⟩
  . exact h3
theorem clone_any (l : List UInt8) (hl : l.length <= 140737488355328) (w : World) : Calls Tryz.prog 44 #[.string (str l)] w fun ev w' => ev = .returned (.string (str l)) /\ Below w.heap.size w w' := by
  have C := Tryz.stringslite_Clone (str l) w (by rw [str_size]; omega)
  generalize str l = S at *
  go_enter Tryz.func44, Tryz.ntmps44
  go_wp2_with fail
  refine C.mono ?_
  rintro ev w2 ⟨rfl, hb⟩
  clear C
  go_wp2_with fail
  go_ret
  exact ⟨rfl, hb⟩
structure Nm (gn B : Nat) (T : List Bs) (y : World) (v : Value) : Prop where
  row : Row y gn 28 [v]
  own : y.ownsRow B 9 1 v T.length (strs T)
  lt : gn < B
  B : B <= y.heap.size
  few : T.length <= 10000000
  form : ∃ ao n cap, v = .slice ao n cap
set_option maxHeartbeats 8000000 in
set_option maxRecDepth 20000 in
theorem name1_let {gn B : Nat} {T : List Bs} {y : World} {v : Value} (h : Nm gn B T y v) (b o : Nat) (s : Bs) (hs : s.length <= 140737488355328) (hb : b < B)
    (c0 : y.cell? ⟨b, o, none⟩ = some (.int .i64 1)) (c3 : y.cell? ⟨b, o + 3, none⟩ = some (.string (str s))) :
    Calls Tryz.prog 45 #[.pointer (some ⟨b, o, none⟩), .pointer (some ⟨gn, 0, none⟩)] y fun ev y' => ev = .returned (.tuple #[]) /\ Stay (fun k => k = gn ∨ B <= k) y y' /\ ∃ v', Row y' gn 28 [v'] /\ y'.ownsRow B 9 1 v' (T ++ [s]).length (strs (T ++ [s])) /\ ∃ ao n cap, v' = .slice ao n cap := by
  have HS : Hid (∀ z, Below B y z -> z.cell? ⟨gn, 0, none⟩ = some v /\ z.frozen? ⟨gn, 0, none⟩ = false /\ z.cell? ⟨b, o + 3, none⟩ = some (.string (str s)) /\ Row z gn 28 [v]) := by
    intro z hz
    have r := h.row.below hz h.lt
    exact ⟨r.cell 0, r.fz 0, by rw [hz.cell (p := ⟨b, o + 3, none⟩) hb]; exact c3, r⟩
  have HC : Hid (∀ z, Calls Tryz.prog 44 #[.string (str s)] z fun ev w' => ev = .returned (.string (str s)) /\ Below z.heap.size z w') := fun z => clone_any s hs z
  have HN : Hid (Nm gn B T y v) := h
  have hBy := h.B
  obtain ⟨ao, n, cap, hv⟩ := h.form
  subst hv
  clear c3 h
  generalize hS : str s = S at *
  go_enter Tryz.func45, Tryz.ntmps45
  go_wp2_with fail
  refine beginL (fun z => Below B y z) 8 (by kernel_rfl) (Below.refl _ _).drew (fun hSd => ?_)
  have HY : Hid (∀ k, k < y.heap.size -> y.drew.heap[k]? = y.heap[k]?) := fun _ _ => rfl
  generalize y.drew = yd at *
  refine takeL 0 (v := ?v0) rfl (some 8) rfl (by decide) (by kernel_rfl) (by kernel_rfl) (by kernel_rfl) (by kernel_rfl) (fun _ _ _ h => h) (Or.inl ⟨by rfl, ?h0⟩) hSd ?r0
  case h0 => (intro z hz; obtain ⟨k1, k2, k3, k4⟩ := HS.out z hz; go_simp; with_reducible rfl)
  simp only [Act.put, List.setIfInBounds_toArray, List.set_cons_zero, List.set_cons_succ]
  refine takeL 1 (v := ?v1) rfl (some 9) rfl (by decide) (by kernel_rfl) (by kernel_rfl) (by kernel_rfl) (by kernel_rfl) (fun _ _ _ h => h) (Or.inl ⟨by rfl, ?h1⟩) hSd ?r1
  case h1 => (intro z hz; go_simp; with_reducible rfl)
  simp only [Act.put, List.setIfInBounds_toArray, List.set_cons_zero, List.set_cons_succ]
  refine takeL 2 (v := ?v2) rfl (some 10) rfl (by decide) (by kernel_rfl) (by kernel_rfl) (by kernel_rfl) (by kernel_rfl) (fun _ _ _ h => h) (Or.inl ⟨by rfl, ?h2⟩) hSd ?r2
  case h2 => (intro z hz; go_simp; with_reducible rfl)
  simp only [Act.put, List.setIfInBounds_toArray, List.set_cons_zero, List.set_cons_succ]
  refine takeL 3 (v := ?v3) rfl (some 11) rfl (by decide) (by kernel_rfl) (by kernel_rfl) (by kernel_rfl) (by kernel_rfl) (fun _ _ _ h => h) (Or.inl ⟨by rfl, ?h3⟩) hSd ?r3
  case h3 => (intro z hz; go_simp; with_reducible rfl)
  simp only [Act.put, List.setIfInBounds_toArray, List.set_cons_zero, List.set_cons_succ]
  refine takeL 4 (v := ?v4) rfl (some 12) rfl (by decide) (by kernel_rfl) (by kernel_rfl) (by kernel_rfl) (by kernel_rfl) (fun _ _ _ h => h) (Or.inl ⟨by rfl, ?h4⟩) hSd ?r4
  case h4 => (intro z hz; obtain ⟨k1, k2, k3, k4⟩ := HS.out z hz; go_simp; with_reducible rfl)
  simp only [Act.put, List.setIfInBounds_toArray, List.set_cons_zero, List.set_cons_succ]
  refine readyL (rs := [5]) (by kernel_rfl) (by simp) ?_
  refine ReadyL.cons rfl (fun K hK => ?_) ReadyL.nil
  refine want (by rfl) ?_
  go_simp
  refine (HC.out _).mono ?_
  rintro ev z1 ⟨rfl, hb1⟩
  have hS1 : Below B y z1 := hSd.trans (below_le hb1 (Nat.le_trans hBy hSd.size))
  have O1 : z1.ownsRow B 9 1 (.slice ao n cap) T.length (strs T) := own_past' (w := yd) (own_same' HN.out.own (fun k e => HY.out k (HN.out.own.lt k e).2)) hb1
  refine hK.out _ _ (fun _ => hS1) (fun _ => ?_)
  clear hK K
  refine readyL (rs := [6]) (by kernel_rfl) (by simp) ?_
  refine ReadyL.cons rfl (fun K hK => ?_) ReadyL.nil
  refine want (by rfl) ?_
  go_simp
  have hA1 := alloc_one z1 (.cells #[.string S] 9)
  have hS2 : Below B y (z1.alloc (.cells #[.string S] 9)) := hS1.trans (below_le hA1 (Nat.le_trans hBy hS1.size))
  have O2 := O1.alloc (.cells #[.string S] 9)
  have c9 : (z1.alloc (.cells #[.string S] 9)).cell? ⟨z1.heap.size, 0, none⟩ = some (.string (str s)) := by rw [hS]; exact (Row.new z1 9 [.string S]).cell 0
  refine hK.out _ _ (fun _ => hS2) (fun _ => ?_)
  clear hK K
  refine readyL (rs := [7]) (by kernel_rfl) (by simp) ?_
  refine ReadyL.cons rfl (fun K hK => ?_) ReadyL.nil
  refine want (by rfl) ?_
  refine wpo_app9 _ _ rfl rfl O2 (Nat.le_trans hBy hS2.size) z1.heap.size 1 s rfl c9 HN.out.few ?_
  rintro v' z2 O3 hb3 ⟨ao3, n3, cap3, rfl⟩ _
  have hS3 := hS2.trans hb3
  obtain ⟨k1, k2, k3, k4⟩ := HS.out z2 hS3
  refine hK.out _ _ (fun _ => hS3) (fun _ => ?_)
  clear hK K
  have HF : Hid (Stay (fun k => k = gn ∨ B <= k) y (z2.setCell ⟨gn, 0, none⟩ (.slice ao3 n3 cap3)) /\ Row (z2.setCell ⟨gn, 0, none⟩ (.slice ao3 n3 cap3)) gn 28 [.slice ao3 n3 cap3] /\ (z2.setCell ⟨gn, 0, none⟩ (.slice ao3 n3 cap3)).ownsRow B 9 1 (.slice ao3 n3 cap3) (T ++ [s]).length (strs (T ++ [s]))) := by
    have hst : Stay (fun k => k = gn ∨ B <= k) y z2 := ⟨hS3.os, hS3.tape, hS3.output, hS3.size, fun k hk hn => hS3.block k (by omega)⟩
    exact ⟨hst.set (fun _ => .inl rfl) _ _, k4.set 0 _, ownsRow_setCell_below O3 (show (⟨gn, 0, none⟩ : Addr).block < B from HN.out.lt) _⟩
  clear k3 k4 O1 O2 O3 c9 hA1 hS1 hS2 hS3 hb1 hb3 hSd HN HS HC HY
  refine readyL (rs := [8]) (by kernel_rfl) (by simp) ?_
  refine ReadyL.cons rfl (fun K hK => ?_) ReadyL.nil
  refine want (by rfl) ?_
  go_simp
  refine hK.out _ _ (fun h => absurd rfl h) (fun _ => ?_)
  clear hK K
  refine doneL (by kernel_rfl) ?_ _
  go_end0
  exact ⟨rfl, HF.out.1, _, HF.out.2.1, HF.out.2.2, _, _, _, rfl⟩
theorem name1_not {y : World} (b o gn : Nat) (k : Int) (hk : k ≠ 1) (c0 : y.cell? ⟨b, o, none⟩ = some (.int .i64 k)) :
    Calls Tryz.prog 45 #[.pointer (some ⟨b, o, none⟩), .pointer (some ⟨gn, 0, none⟩)] y fun ev y' => ev = .returned (.tuple #[]) /\ y' = y := by
  have b1 : (k == 1) = false := by simpa using hk
  go_enter Tryz.func45, Tryz.ntmps45
  go_wp2_with fail
  go_end0
  exact ⟨rfl, rfl⟩
def letN (d : List St) : List Bs := (d.filter fun s => decide (s.kind = 1)).map St.name
theorem letN_snoc (d : List St) (s : St) : letN (d ++ [s]) = letN d ++ (if s.kind = 1 then [s.name] else []) := by
  unfold letN
  rw [List.filter_append, List.map_append]
  congr 1
  by_cases h : s.kind = 1 <;> simp [h]
theorem letN_len (d : List St) : (letN d).length <= d.length := by
  unfold letN
  rw [List.length_map]
  exact List.length_filter_le _ _
theorem lets_any {n : Nat} {K : Ctx} {w0 : World} {gn B : Nat} {T0 : List Bs} (hKB : K.C <= B) (hB0 : B <= w0.heap.size) (hKg : K.C <= gn) {v : Value} {l : List St} (ha : Ar 32 496 (StAt n K w0) K w0 v l) (hm : T0.length + cnt n l <= 10000000)
    {u : Value} (h : Nm gn B T0 w0 u) :
    Calls Tryz.prog 42 #[v, .func (.func 45) #[] #[.pointer (some ⟨gn, 0, none⟩)]] w0 fun ev y' => ev = .returned (.tuple #[]) /\ Stay (fun k => k = gn ∨ B <= k) w0 y' /\ ∃ v', Nm gn B (T0 ++ letN (l.flatMap (ord n))) y' v' := by
  have hw := walk45_all (K := K) (w0 := w0) (c1 := .pointer (some ⟨gn, 0, none⟩)) (most := cnt n l)
    (P := fun d y => Stay (fun k => k = gn ∨ B <= k) w0 y /\ ∃ v', Nm gn B (T0 ++ letN d) y v') (fun d y h => h.1.below (Nat.le_trans hKB hB0) (fun k hk => by omega))
    (fun d s y b o cs hP hd hc hbK hs => by
      obtain ⟨hst, v', hn⟩ := hP
      obtain ⟨q, hs⟩ := hs
      cases q with
      | zero => exact hs.elim
      | succ q =>
        obtain ⟨ts, ps, vs, os, vt, ve, rfl, h1, _⟩ := hs
        have c0 : y.cell? ⟨b, o, none⟩ = some (.int .i64 s.kind) := hc 0 (by decide)
        have c3 : y.cell? ⟨b, o + 3, none⟩ = some (.string (str s.name)) := hc 3 (by decide)
        have hk := hn.few
        have hsm := K.small
        have hlen := letN_len d
        rw [letN_snoc]
        by_cases hk1 : s.kind = 1
        . rw [if_pos hk1, ← List.append_assoc]
          rw [hk1] at c0
          refine (name1_let hn b o s.name (by omega) (by omega) c0 c3).mono ?_
          rintro _ z ⟨rfl, h2, v2, h3, h4, h5⟩
          have hsz := h2.size
          have hBn := hn.B
          refine ⟨rfl, hst.trans h2, v2, h3, h4, hn.lt, by omega, ?_, h5⟩
          simp only [List.length_append, List.length_cons, List.length_nil]
          omega
        . rw [if_neg hk1, List.append_nil]
          refine (name1_not b o gn s.kind hk1 c0).mono ?_
          rintro _ z ⟨rfl, rfl⟩
          exact ⟨rfl, hst, v', hn⟩)
    n v l [] w0 ha ⟨Stay.refl _ _, u, by simpa [letN] using h⟩ (by simp)
  refine hw.mono ?_
  rintro _ _ ⟨rfl, h1, v', h2⟩
  exact ⟨rfl, h1, v', by simpa using h2⟩
end Go.Proofs.YtjenmmkamhplkaaGreat
