/-
  Parse.
-/
import Derived.Test.YtmfdmpfeoppnfaaDoorOwn
namespace Go.Proofs.YtmfdmpfeoppnfaaDoor
open Go.RowKit

/-- How long a crate's parts are. -/
def Lim (M p : Nat) (L : List Src) : Prop := ∀ x ∈ L, x.name.length ≤ M ∧ (∀ d ∈ x.deps, d.length ≤ M) ∧ x.text.length ≤ p
theorem strip_len (l : Bs) : (stripN l).length ≤ l.length := by unfold stripN; split <;> (try simp) <;> omega
theorem cutName_len (l : Bs) : (cutName l).length ≤ l.length := Nat.le_trans (cut_len (cutN l)).1 (cutN_len l)
theorem cutDeps_part (l : Bs) : ∀ d ∈ cutDeps l, d.length ≤ l.length := by
  intro d hd
  unfold cutDeps at hd
  split at hd
  · exact Nat.le_trans (spl_part _ _ hd) (Nat.le_trans (cut_len (cutN l)).2 (cutN_len l))
  · simp at hd
theorem Lim.step {M p : Nat} {L L' : List Src} {l : Bs} (h : Lim M p L) (hl : l.length ≤ M) (hs : stepF L l = .ok L') : Lim M (p + l.length) L' := by
  cases hd : isHd l
  · by_cases h0 : L = []
    · subst h0
      unfold stepF at hs
      rw [hd] at hs
      simp only [Bool.false_eq_true, if_false, if_true] at hs
      split at hs
      · cases hs; intro x hx; simp at hx
      · cases hs
    · obtain ⟨L1, y, rfl⟩ : ∃ L0 x, L = L0 ++ [x] := ⟨L.dropLast, L.getLast h0, (List.dropLast_concat_getLast h0).symm⟩
      rw [addL_step hd h0] at hs
      cases hs
      rw [addL_snoc]
      intro x hx
      rcases List.mem_append.1 hx with hx | hx
      · have := h x (List.mem_append_left _ hx); exact ⟨this.1, this.2.1, by omega⟩
      · simp at hx
        have := h y (List.mem_append_right _ (by simp))
        subst hx
        exact ⟨this.1, this.2.1, by simp; omega⟩
  · rw [step_head hd] at hs
    split at hs
    · cases hs
      intro x hx
      rcases List.mem_append.1 hx with hx | hx
      · have := h x hx; exact ⟨this.1, this.2.1, by omega⟩
      · simp at hx
        subst hx
        have hs := strip_len l
        exact ⟨Nat.le_trans (cutName_len _) (by omega), fun d hd => Nat.le_trans (cutDeps_part _ d hd) (by omega), by simp⟩
    · cases hs
theorem Lim.run {M : Nat} : ∀ (R : List Bs) (p : Nat) (L ys : List Src), (∀ l ∈ R, l.length ≤ M) → Lim M p L → runF p L R = .ok ys → Lim M (p + R.flatten.length) ys
  | [], p, L, ys, _, h, e => by cases e; simpa using h
  | l :: R, p, L, ys, hl, h, e => by
    unfold runF at e
    cases hs : stepF L l with
    | error c => rw [hs] at e; cases e
    | ok L' =>
      rw [hs] at e
      have := Lim.run R _ L' ys (fun x hx => hl x (List.mem_cons_of_mem _ hx)) (h.step (hl l List.mem_cons_self) hs) e
      simpa [Nat.add_assoc] using this
theorem lns_part (s : Bs) : ∀ l ∈ lns s, l.length ≤ s.length := by
  intro l hl
  have h := lns_flat s
  have : l.length ≤ (lns s).flatten.length := by
    obtain ⟨a, b, e⟩ := List.append_of_mem hl
    rw [e]; simp; omega
  rwa [h] at this
theorem par_lim {s : Bs} {ys : List Src} (h : runF 0 [] (lns s) = .ok ys) : Lim s.length s.length ys := by
  have := Lim.run (lns s) 0 [] ys (lns_part s) (fun x hx => by simp at hx) h
  rwa [lns_flat, Nat.zero_add] at this

/-- What read leaves. -/
def ReadPost (w : World) (r : Except (Nat × Nat) (List Src)) (ev : Ending) (w' : World) : Prop :=
  match r with
  | .error c => ∃ e, ev = .returned (.tuple #[.slice none 0 0, e]) ∧ Er w' e c.1 c.2 ∧ Below w.heap.size w w'
  | .ok L => ∃ v, ev = .returned (.tuple #[v, .nilIface]) ∧ Srs w' v L ∧ Below w.heap.size w w'
set_option maxHeartbeats 4000000 in
theorem read_any (w : World) (s : Bs) (m : Int) (hm : w.cell? ⟨0, 0, none⟩ = some (.int .i64 m)) (hs : s.length ≤ 4194304) :
    Calls Tryd.prog 19 #[.string (str s)] w (ReadPost w (runF 0 [] (lns s))) := by
  have h0 : 0 < w.heap.size := World.block_lt_of_cell? w _ hm
  have r1 := Row.new w 9 [.string (str s)]
  have r2 := Row.new (w.alloc (.cells #[.string (str s)] 9)) 24 [.slice none 0 0]
  have b1 : Below w.heap.size w (w.alloc (.cells #[.string (str s)] 9)) := (Below.refl _ _).alloc (Nat.le_refl _) _
  have b2 : Below (w.alloc (.cells #[.string (str s)] 9)).heap.size (w.alloc (.cells #[.string (str s)] 9)) ((w.alloc (.cells #[.string (str s)] 9)).alloc (.cells #[.slice none 0 0] 24)) := (Below.refl _ _).alloc (Nat.le_refl _) _
  have bb := nextB b1 b2
  have hgc : (w.alloc (.cells #[.string (str s)] 9)).heap.size = w.heap.size + 1 := by simp
  have r1' := r1.below b2 r1.lt
  rw [hgc] at r2
  have E := hid0 (each_any w.heap.size (w.heap.size + 1) w.heap.size ((w.alloc (.cells #[.string (str s)] 9)).alloc (.cells #[.slice none 0 0] 24)) s bb.size (Nat.le_succ _) ⟨.slice none 0 0, [], r2, ⟨rfl, .inl ⟨rfl, rfl⟩⟩, rfl, fun i hi => by simp at hi⟩ r1' m (Below.cellOf bb hm) h0 hs)
  have c1 : ((w.alloc (.cells #[.string (str s)] 9)).alloc (.cells #[.slice none 0 0] 24)).cell? ⟨w.heap.size, 0, none⟩ = some (.string (str s)) := r1'.cell 0
  have HL := hid0 (fun ys (h : runF 0 [] (lns s) = .ok ys) => And.intro (par_lim h) ((runF_grow (lns s) 0 [] ys h).2.1 (by simp)))
  have HB := aside0 bb
  have HX := hid0 hs
  clear r1 r2 b1 b2 bb r1' hgc h0 hm
  generalize hr : runF 0 [] (lns s) = r at *
  clear hr
  cases r with
  | error c =>
    unfold RunPost at E
    generalize str s = S at *
    go_enter Tryd.func19, Tryd.ntmps19
    go_wp2_with fail
    refine E.out.mono ?_
    rintro ev w1 ⟨e, rfl, hE, hb⟩
    have HE := aside0 hE
    have HB1 := aside0 hb
    obtain ⟨eb, rfl, -⟩ := hE.shape
    clear hE hb E HL
    go_wp2_with fail
    go_ret2
    exact ⟨_, rfl, HE.out, HB.out.trans HB1.out⟩
  | ok L =>
    unfold RunPost at E
    generalize str s = S at *
    go_enter Tryd.func19, Tryd.ntmps19
    go_wp2_with fail
    refine E.out.mono ?_
    rintro ev w1 ⟨rfl, hC, hb⟩
    obtain ⟨v, V, R, O, hV, hS⟩ := hC.ex
    obtain ⟨hlim, hL64⟩ := HL.out L rfl
    obtain ⟨va, vc, rfl⟩ := own_slice O
    have hb2 := HB.out.trans hb
    have HR := hid0 (fun y (hy : Below w1.heap.size w1 y) => ((R.below hy R.lt).cell 0 : y.cell? ⟨w.heap.size + 1, 0, none⟩ = some (.slice va L.length vc)))
    have HS : Hid (∀ y, Below w1.heap.size w1 y → Srs y (.slice va L.length vc) L ∧ Below w.heap.size w y) := by
      intro y hy
      exact ⟨Srs.ofOwn (own_past' O hy) hV (by omega) (fun i hi => (hS i hi).below hy), hb2.trans (hy.mono hb2.size)⟩
    have HO : Hid (∀ y, Below w1.heap.size w1 y → ∀ k, k < L.length → ∃ g, va = some ⟨g, 0, none⟩ ∧ Calls Tryd.prog 32 #[.pointer (some ⟨g, k * 3, none⟩)] y fun ev y' => ev = .returned (.tuple #[]) ∧ Below w1.heap.size w1 y') := by
      intro y hy k hk
      have o1 := own_past' O hy
      rcases o1.2 with ⟨e, h0⟩ | ⟨g, cap, cur, e, _, hg, _⟩
      · omega
      · cases e
        refine ⟨g, rfl, ?_⟩
        obtain ⟨e0, e1, e2⟩ := svs_get L V k hV hk
        have r := own_range o1
        have f0 := r _ _ e0
        have f1 := r _ _ e1
        have f2 := r _ _ e2
        simp only [Nat.zero_add] at f0 f1 f2
        have hx := hlim (L.getD k Src.zero) (by rw [getD_eq L k _ hk]; exact List.getElem_mem hk)
        have := HX.out
        refine (own_any y g (k * 3) cur hg _ _ _ _ f0 f1 f2 ((hS k hk).below hy) (by omega) (by omega) (fun d hd => by have := hx.2.1 d hd; omega)).mono ?_
        rintro ev y' ⟨rfl, hb'⟩
        exact ⟨rfl, nextB hy hb'⟩
    have c24 := HR.out w1 (Below.refl _ _)
    clear hC hb E HL R O hS hV hlim hb2 HX
    go_wp2_with fail
    clear c24
    go_loopw [15] (fun i wr => ∃ k : Nat, k ≤ L.length ∧ i = .int .i64 k ∧ Below w1.heap.size w1 wr) (fun i _ => L.length - (intOf i).toNat)
    case atStart => exact ⟨0, by omega, rfl, Below.refl _ _⟩
    case round =>
      obtain ⟨k, hk, rfl, hb⟩ := hrel
      have HB := aside0 hb
      have c24 := HR.out wr hb
      clear hb
      by_cases h3 : k < L.length
      · have l1 : (k : Int) < (L.length : Int) := by omega
        obtain ⟨g, rfl, C⟩ := HO.out wr HB.out k h3
        have HC := hid0 C
        clear C
        go_wp2_with fail
        refine HC.out.mono ?_
        rintro ev w5 ⟨rfl, hb5⟩
        clear HC
        go_wp2_with fail
        go_roundw
        case rel => exact ⟨k + 1, by omega, by go_num, hb5⟩
        case measure => simp [intOf]; omega
      · have l1 : ¬ (k : Int) < (L.length : Int) := by omega
        go_wp2_with fail
        go_ret2
        obtain ⟨p1, p2⟩ := HS.out wr HB.out
        exact ⟨_, rfl, p1, p2⟩

/-- What Parse leaves. -/
def ParPost (w : World) (r : Except (Nat × Nat) (List Src)) (ev : Ending) (w' : World) : Prop :=
  match r with
  | .error c => ∃ e, ev = .returned (.tuple #[.slice none 0 0, e]) ∧ Er w' e c.1 c.2 ∧ Below w.heap.size w w'
  | .ok L => ∃ v, ev = .returned (.tuple #[v, .nilIface]) ∧ Srs w' v L ∧ Below w.heap.size w w'
set_option maxHeartbeats 4000000 in
theorem parse_any (w : World) (s : Bs) (m : Int) (hm : w.cell? ⟨0, 0, none⟩ = some (.int .i64 m)) (hlen : s.length ≤ 9223372036854775807) :
    Calls Tryd.prog 8 #[.string (str s)] w (ParPost w (parF s)) := by
  have hsz := str_size s
  unfold parF
  by_cases hs : 4194304 < s.length
  · rw [if_pos hs]
    have l1 : (4194304 : Int) < (s.length : Int) := by omega
    have N := hid0 (new_any w 5 0 (by decide))
    generalize str s = S at *
    go_enter Tryd.func8, Tryd.ntmps8
    go_wp2_with fail
    refine N.out.mono ?_
    rintro ev w3 ⟨e, rfl, hE, hb3⟩
    go_wp2_with fail
    go_ret2
    exact ⟨_, rfl, hE, hb3⟩
  · rw [if_neg hs]
    have l1 : ¬ (4194304 : Int) < (s.length : Int) := by omega
    have R := hid0 (read_any w s m hm (by omega))
    clear hm
    generalize runF 0 [] (lns s) = r at *
    cases r with
    | error c =>
      unfold ReadPost at R
      simp only
      generalize str s = S at *
      go_enter Tryd.func8, Tryd.ntmps8
      go_wp2_with fail
      refine R.out.mono ?_
      rintro ev w1 ⟨e, rfl, hE, hb⟩
      have HE := aside0 hE
      have HB := aside0 hb
      obtain ⟨eb, rfl, -⟩ := hE.shape
      clear hE hb R
      go_wp2_with fail
      go_ret2
      exact ⟨_, rfl, HE.out, HB.out⟩
    | ok L =>
      unfold ReadPost at R
      simp only
      by_cases h0 : L = []
      · rw [if_pos h0]
        have l2 : ((L.length : Int) == 0) = true := by rw [h0]; rfl
        have N := hid0 (fun y => new_any y 40 0 (by decide))
        generalize str s = S at *
        go_enter Tryd.func8, Tryd.ntmps8
        go_wp2_with fail
        refine R.out.mono ?_
        rintro ev w1 ⟨v, rfl, hS, hb⟩
        obtain ⟨ao, cap, rfl, -⟩ := hS.shape
        clear R hS
        go_wp2_with fail
        refine (N.out _).mono ?_
        rintro ev w3 ⟨e, rfl, hE, hb3⟩
        go_wp2_with fail
        go_ret2
        exact ⟨_, rfl, hE, nextB hb hb3⟩
      · rw [if_neg h0]
        have l2 : ((L.length : Int) == 0) = false := by
          have : L.length ≠ 0 := fun e => h0 (List.eq_nil_of_length_eq_zero e)
          simp; omega
        generalize str s = S at *
        go_enter Tryd.func8, Tryd.ntmps8
        go_wp2_with fail
        refine R.out.mono ?_
        rintro ev w1 ⟨v, rfl, hS, hb⟩
        have HS := aside0 hS
        obtain ⟨ao, cap, rfl, -⟩ := hS.shape
        clear R hS
        go_wp2_with fail
        go_ret2
        exact ⟨_, rfl, HS.out, hb⟩
end Go.Proofs.YtmfdmpfeoppnfaaDoor
