/-
  Types: may one be? The program says it, going down.
-/
import Derived.Test.YtldbbkheemnnhaaGreatDoorJpBas5
namespace Go.Proofs.YtldbbkheemnnhaaGreatDoor
open Go.RowKit
def MayTy : Nat -> Ty -> Prop
 | 0, _ => False
 | n + 1, t => ((t.kind = 1 ∨ t.kind = 2) /\ t.name = [] /\ t.lives = [] /\ t.elem = []) ∨
  (t.kind = 3 /\ farB t.name = true /\ t.lives.length <= 64 /\ t.lives.all lifeB = true /\ t.elem = []) ∨
  ((t.kind = 4 ∨ t.kind = 5) /\ t.name = [] /\ t.lives.length <= 1 /\ t.lives.all lifeB = true /\ ∃ e, t.elem = [e] /\ MayTy n e)
theorem ty_eq_kind (t : Ty) : t = ⟨t.kind, [], [], []⟩ ↔ t.name = [] /\ t.lives = [] /\ t.elem = [] := by
 cases t; simp
theorem mayTy_plain {n : Nat} {t : Ty} (h : t.kind = 1 ∨ t.kind = 2) : MayTy (n + 1) t ↔ t.name = [] /\ t.lives = [] /\ t.elem = [] := by
 constructor
 ·rintro (⟨_, h⟩ | ⟨h', _⟩ | ⟨h', _⟩)
  ·exact h
  ·omega
  ·omega
 ·exact fun h' => .inl ⟨h, h'⟩
theorem mayTy_struct {n : Nat} {t : Ty} (h : t.kind = 3) : MayTy (n + 1) t ↔ farB t.name = true /\ t.lives.length <= 64 /\ t.lives.all lifeB = true /\ t.elem = [] := by
 constructor
 ·rintro (⟨h', _⟩ | ⟨_, h'⟩ | ⟨h', _⟩)
  ·omega
  ·exact h'
  ·omega
 ·exact fun h' => .inr (.inl ⟨h, h'⟩)
theorem mayTy_ref {n : Nat} {t : Ty} (h : t.kind = 4 ∨ t.kind = 5) : MayTy (n + 1) t ↔ t.name = [] /\ t.lives.length <= 1 /\ t.lives.all lifeB = true /\ ∃ e, t.elem = [e] /\ MayTy n e := by
 constructor
 ·rintro (⟨h', _⟩ | ⟨h', _⟩ | ⟨_, h'⟩)
  ·omega
  ·omega
  ·exact h'
 ·exact fun h' => .inr (.inr ⟨h, h'⟩)
theorem mayTy_none {n : Nat} {t : Ty} (h : ¬ (t.kind = 1 ∨ t.kind = 2 ∨ t.kind = 3 ∨ t.kind = 4 ∨ t.kind = 5)) : ¬ MayTy (n + 1) t := by
 rintro (⟨h', _⟩ | ⟨h', _⟩ | ⟨h', _⟩) <;> omega
theorem bool_false {B : Bool} {P : Prop} (h : B = true ↔ P) (hn : ¬ P) : B = false := by
 cases hB : B
 ·rfl
 ·exact absurd (h.1 hB) hn
theorem nil_empty (l : Bs) : (str l).toList.isEmpty = decide (l = []) := by
 unfold str
 rw [ByteArray.toList_mk]
 cases l <;> rfl
theorem empty_nil {S : ByteArray} (h : S.toList.isEmpty = true) : S.toList = [] := List.isEmpty_iff.1 h
theorem empty_ne {S : ByteArray} (h : S.toList.isEmpty = false) : ¬ S.toList = [] := fun e => by rw [e] at h; cases h
theorem below_setRow {C : Nat} {w0 w : World} (h : Below C w0 w) {g : Nat} (hg : C <= g) (M : Array Value) : Below C w0 (w.setRow g M) := by
 refine ⟨h.os, h.tape, h.output, ?_, fun k hk => ?_⟩
 ·have := h.size
  unfold World.setRow
  simp only [Array.size_modify]
  exact this
 ·have : (w.setRow g M).heap[k]? = w.heap[k]? := by
   simp only [World.setRow, Array.getElem?_modify]
   rw [if_neg (by omega)]
  rw [this]; exact h.block k hk
set_option maxHeartbeats 8000000 in
set_option maxRecDepth 20000 in
theorem mayType_any {K : Ctx} {w : World} (he : Env K w) {t : Ty} {cs : List Value} (hx : IsTy K w cs t) (B : Bool) (hB : B = true ↔ MayTy 64 t) :
  Calls Tryz.prog 198 #[.agg cs.toArray] w fun ev w' => ev = .returned (.bool B) /\ Below w.heap.size w w' := by
 have HE : Hid (Env K w) := he
 have h0 : Hid (∃ N, TyAt N K (w.alloc (.cells cs.toArray 36)) cs t) := by
  obtain ⟨N, h⟩ := hx
  exact ⟨N, h.below (below_le (alloc_one _ _) he.C)⟩
 have HB : Hid (B = true ↔ MayTy 64 t) := hB
 clear hx hB he
 go_enter Tryz.func198, Tryz.ntmps198
 go_wp2_with fail
 go_loopw [3] (fun i wr => ∃ k : Nat, k <= 64 /\ i = .int .i64 k /\ Below w.heap.size w wr /\ ∃ cs' t', Row wr w.heap.size 36 cs' /\ (∃ N, TyAt N K wr cs' t') /\ (B = true ↔ MayTy (64 - k) t')) (fun i _ => 64 - (intOf i).toNat)
 case atStart => exact ⟨0, by omega, rfl, alloc_one _ _, cs, t, Row.new w 36 cs, h0.out, HB.out⟩
 case round =>
  obtain ⟨k, hk, rfl, hbw, cs', t', hrow, ⟨N, hty⟩, hB⟩ := hrel
  clear h0 HB
  by_cases h3 : k < 64
  ·obtain ⟨n, rfl⟩ : ∃ n, N = n + 1 := by
    cases N with
    | zero => exact hty.elim
    | succ n => exact ⟨n, rfl⟩
   obtain ⟨v2, v3, rfl, hl1, h2, h4⟩ := hty
   obtain ⟨ao2, cap2, rfl, hc2, hb2, _⟩ := id h2.shape
   obtain ⟨ao3, cap3, rfl, hc3, hb3, hA3⟩ := id h4.shape
   obtain ⟨r, hr⟩ : ∃ r, 64 - k = r + 1 := ⟨63 - k, by omega⟩
   rw [hr] at hB
   have i1 : (k : Int) < 64 := by omega
   have c0 : wr.cell? ⟨w.heap.size, 0, none⟩ = some (.int .i64 t'.kind) := hrow.cell 0
   have c1 : wr.cell? ⟨w.heap.size, 1, none⟩ = some (.string (str t'.name)) := hrow.cell 1
   have c2 : wr.cell? ⟨w.heap.size, 2, none⟩ = some (.slice ao2 t'.lives.length cap2) := hrow.cell 2
   have c3 : wr.cell? ⟨w.heap.size, 3, none⟩ = some (.slice ao3 t'.elem.length cap3) := hrow.cell 3
   have hKC : Below K.C w wr := below_le hbw HE.out.C
   have HE2 : Hid (Env K wr) := HE.out.below hKC
   have HW : Hid (Below w.heap.size w wr) := hbw
   have HBB : Hid (B = true ↔ MayTy (r + 1) t') := hB
   have HS2 : Hid (Strs K wr (.slice ao2 t'.lives.length cap2) t'.lives) := h2
   have hl9 : t'.lives.length <= 9223372036854775807 := by omega
   have hl8 : t'.elem.length <= 9223372036854775807 := by omega
   have HIT : Hid (IsTy K wr [.int .i64 t'.kind, .string (str t'.name), .slice ao2 t'.lives.length cap2, .slice ao3 t'.elem.length cap3] t') := ⟨n + 1, _, _, rfl, hl1, h2, h4⟩
   have HL : Hid (∀ i (h : i < t'.elem.length), ∃ b o, ao3 = some ⟨b, o, none⟩ /\ b < K.C /\ ∃ cs, cs.length = 4 /\ (∀ j, j < 4 -> wr.cell? ⟨b, o + i * 4 + j, none⟩ = cs[j]?) /\ TyAt n K wr cs t'.elem[i]) := hA3
   have HR : Hid (Row wr w.heap.size 36 [.int .i64 t'.kind, .string (str t'.name), .slice ao2 t'.lives.length cap2, .slice ao3 t'.elem.length cap3]) := hrow
   clear hB h2 h4 hA3 hrow hbw hKC hb2 hb3
   by_cases k1 : t'.kind = 1 ∨ t'.kind = 2
   ·have D : Hid (Calls Tryz.prog 199 #[.agg #[.int .i64 t'.kind, .string (str t'.name), .slice ao2 t'.lives.length cap2, .slice ao3 t'.elem.length cap3], .agg #[.int .i64 t'.kind, .string ⟨#[]⟩, .slice none 0 0, .slice none 0 0]] wr fun ev w' => ev = .returned (.bool B) /\ Below wr.heap.size wr w') :=
     sameTypes2_any HE2.out.C (cs := [.int .i64 t'.kind, .string (str t'.name), .slice ao2 t'.lives.length cap2, .slice ao3 t'.elem.length cap3]) (cs' := tyCells t'.kind) HIT.out (kind_at K wr t'.kind) B (by rw [HBB.out, mayTy_plain k1, ty_eq_kind])
    clear HBB HIT HS2 HL HR HE2
    rcases k1 with k1 | k1
    ·have b1 : (t'.kind == 1) = true := by rw [k1]; rfl
     clear k1
     generalize t'.kind = kd at *
     generalize str t'.name = S at *
     go_wp2_with (go_at_call 199; refine D.out.mono ?_; rintro ev w2 ⟨rfl, hb2⟩)
     go_ret
     exact ⟨rfl, HW.out.trans (below_le hb2 HW.out.size)⟩
    ·have b1 : (t'.kind == 1) = false := by rw [k1]; rfl
     have b2 : (t'.kind == 2) = true := by rw [k1]; rfl
     clear k1
     generalize t'.kind = kd at *
     generalize str t'.name = S at *
     go_wp2_with (go_at_call 199; refine D.out.mono ?_; rintro ev w2 ⟨rfl, hb2⟩)
     go_ret
     exact ⟨rfl, HW.out.trans (below_le hb2 HW.out.size)⟩
   ·have b1 : (t'.kind == 1) = false := by simp; omega
    have b2 : (t'.kind == 2) = false := by simp; omega
    by_cases k3 : t'.kind = 3
    ·have b3 : (t'.kind == 3) = true := by rw [k3]; rfl
     have F := far_any t'.name (by have := HE.out.B; omega) wr HE2.out.ml
     have HBX : Hid (B = true ↔ farB t'.name = true /\ t'.lives.length <= 64 /\ t'.lives.all lifeB = true /\ t'.elem = []) := by show _ ↔ _; rw [HBB.out, mayTy_struct k3]
     have P : Hid (∀ m, Calls Tryz.prog 159 #[.slice ao2 t'.lives.length cap2, .func (.func 160) #[] #[]] (wr.drewN m) fun ev w' => ev = .returned (.bool (decide (t'.lives.length <= 64) && t'.lives.all lifeB)) /\ w' = wr.drewN m) := fun m => partsLives (HS2.out.below (Below.drewN _ _ _))
     have e0 : ((t'.elem.length : Int) == 0) = decide (t'.elem = []) := by cases t'.elem <;> simp; omega
     have e0' : (t'.elem.length : Int) = 0 ↔ t'.elem = [] := by cases t'.elem <;> simp; omega
     clear HBB HIT HS2 HL HR HE2 k1 k3
     cases f1 : farB t'.name
     ·have HF : Hid (B = false) := bool_false HBX.out (by rw [f1]; rintro ⟨h, _⟩; cases h)
      rw [f1] at F
      clear HBX f1
      generalize t'.kind = kd at *
      generalize str t'.name = S at *
      go_wp2_with (go_at_call 215; refine F.mono ?_; rintro ev w2 ⟨rfl, m, rfl⟩)
      go_ret
      exact ⟨by rw [HF.out]; rfl, HW.out.trans (Below.drewN _ _ _)⟩
     ·rw [f1] at F HBX
      clear f1
      cases f2 : (decide (t'.lives.length <= 64) && t'.lives.all lifeB)
      ·have HF : Hid (B = false) := bool_false HBX.out (by rintro ⟨_, h2, h3, _⟩; rw [h3, decide_eq_true h2] at f2; cases f2)
       rw [f2] at P
       clear HBX f2
       generalize t'.kind = kd at *
       generalize str t'.name = S at *
       go_wp2_with (first | (go_at_call 215; refine F.mono ?_; rintro ev w2 ⟨rfl, m, rfl⟩) | (go_at_call 159; refine (P.out _).mono ?_; rintro ev w2 ⟨rfl, rfl⟩))
       go_ret
       exact ⟨by rw [HF.out]; rfl, HW.out.trans (Below.drewN _ _ _)⟩
      ·rw [f2] at P
       rw [Bool.and_eq_true, decide_eq_true_iff] at f2
       by_cases f3 : t'.elem = []
       ·have HF : Hid (B = true) := HBX.out.2 ⟨rfl, f2.1, f2.2, f3⟩
        rw [decide_eq_true f3] at e0
        clear HBX f2 f3 e0'
        generalize t'.kind = kd at *
        generalize str t'.name = S at *
        go_wp2_with (first | (go_at_call 215; refine F.mono ?_; rintro ev w2 ⟨rfl, m, rfl⟩) | (go_at_call 159; refine (P.out _).mono ?_; rintro ev w2 ⟨rfl, rfl⟩))
        go_ret
        exact ⟨by rw [HF.out]; simp, HW.out.trans (Below.drewN _ _ _)⟩
       ·have HF : Hid (B = false) := bool_false HBX.out (fun h => f3 h.2.2.2)
        rw [decide_eq_false f3] at e0
        clear HBX f2 f3 e0'
        generalize t'.kind = kd at *
        generalize str t'.name = S at *
        go_wp2_with (first | (go_at_call 215; refine F.mono ?_; rintro ev w2 ⟨rfl, m, rfl⟩) | (go_at_call 159; refine (P.out _).mono ?_; rintro ev w2 ⟨rfl, rfl⟩))
        go_ret
        exact ⟨by rw [HF.out]; simp, HW.out.trans (Below.drewN _ _ _)⟩
    ·have b3 : (t'.kind == 3) = false := by simp; omega
     by_cases k4 : t'.kind = 4 ∨ t'.kind = 5
     ·have HBX : Hid (B = true ↔ t'.name = [] /\ t'.lives.length <= 1 /\ t'.lives.all lifeB = true /\ ∃ e, t'.elem = [e] /\ MayTy r e) := by show _ ↔ _; rw [HBB.out, mayTy_ref k4]
      have P : Hid (Calls Tryz.prog 195 #[.slice ao2 t'.lives.length cap2, .func (.func 160) #[] #[]] wr fun ev w' => ev = .returned (.bool (t'.lives.all lifeB)) /\ w' = wr) := allLives HS2.out
      have n0 := nil_empty t'.name
      by_cases k5 : t'.kind = 4
      ·have b4 : (t'.kind == 4) = true := by rw [k5]; rfl
       clear k5
       clear HBB HIT HS2 k1 k3 k4
       by_cases f1 : t'.name = []
       rotate_left
       ·have HF : Hid (B = false) := bool_false HBX.out (fun h => f1 h.1)
        rw [decide_eq_false f1] at n0
        have n1 := empty_ne n0
        clear HBX f1 P HL HR HE2
        generalize t'.kind = kd at *
        generalize str t'.name = S at *
        go_wp2_with fail
        go_ret
        exact ⟨by rw [HF.out]; rfl, HW.out⟩
       rw [decide_eq_true f1] at n0
       have n1 := empty_nil n0
       by_cases f2 : t'.lives.length <= 1
       rotate_left
       ·have HF : Hid (B = false) := bool_false HBX.out (fun h => f2 h.2.1)
        have g2 : decide ((1 : Int) < (t'.lives.length : Int)) = true := by simp; omega
        have g2' : (1 : Int) < (t'.lives.length : Int) := by omega
        clear HBX f1 f2 P HL HR HE2
        generalize t'.kind = kd at *
        generalize str t'.name = S at *
        go_wp2_with fail
        go_ret
        exact ⟨by rw [HF.out]; rfl, HW.out⟩
       have g2 : decide ((1 : Int) < (t'.lives.length : Int)) = false := by simp; omega
       have g2' : ¬ (1 : Int) < (t'.lives.length : Int) := by omega
       cases f3 : t'.lives.all lifeB
       ·have HF : Hid (B = false) := bool_false HBX.out (fun h => by rw [f3] at h; cases h.2.2.1)
        rw [f3] at P
        clear HBX f1 f2 f3 HL HR HE2
        generalize t'.kind = kd at *
        generalize str t'.name = S at *
        go_wp2_with (go_at_call 195; refine P.out.mono ?_; rintro ev w2 ⟨rfl, rfl⟩)
        go_ret
        exact ⟨by rw [HF.out]; rfl, HW.out⟩
       rw [f3] at P
       by_cases f4 : t'.elem.length = 1
       rotate_left
       ·have HF : Hid (B = false) := bool_false HBX.out (fun h => by obtain ⟨_, _, _, e, he, _⟩ := h; rw [he] at f4; exact f4 rfl)
        have g4 : ((t'.elem.length : Int) != 1) = true := by rw [bne_iff_ne]; omega
        have g4' : (t'.elem.length : Int) ≠ 1 := by omega
        clear HBX f1 f2 f3 f4 HL HR HE2
        generalize t'.kind = kd at *
        generalize str t'.name = S at *
        go_wp2_with (go_at_call 195; refine P.out.mono ?_; rintro ev w2 ⟨rfl, rfl⟩)
        go_ret
        exact ⟨by rw [HF.out]; rfl, HW.out⟩
       obtain ⟨b, o, e, hbC, cs2, hl2, hcs2, hx2⟩ := HL.out 0 (by omega)
       subst e
       obtain ⟨e0, he0⟩ : ∃ e0, t'.elem = [e0] := List.length_eq_one_iff.1 f4
       have hx2' : TyAt n K wr cs2 e0 := by have := hx2; simp only [he0] at this; exact this
       have HBN : Hid (B = true ↔ MayTy (64 - (k + 1)) e0) := by
        show _ ↔ _
        rw [HBX.out, show 64 - (k + 1) = r by omega]
        constructor
        ·rintro ⟨_, _, _, e, he, hm⟩
         rw [he0] at he
         cases he
         exact hm
        ·exact fun hm => ⟨f1, f2, f3, e0, he0, hm⟩
       have hrg : Hid (wr.rangeAt b o cs2) := by
        intro j u hj
        have hj4 : j < 4 := by rw [← hl2]; exact (List.getElem?_eq_some_iff.1 hj).1
        have := hcs2 j hj4
        rw [Nat.zero_mul, Nat.add_zero] at this
        rw [this]; exact hj
       have hi : Hid ((Tryz.prog.info? 36).map (·.size) = some cs2.length) := by show _ = _; rw [hl2]; kernel_rfl
       have hi' : Hid ((Tryz.prog.info? 36).map (·.size) = some cs2.toArray.size) := by show _ = _; rw [List.size_toArray]; exact hi.out
       have hl' : Hid ((#[Value.int .i64 t'.kind, .string (str t'.name), .slice ao2 t'.lives.length cap2, .slice (some ⟨b, o, none⟩) t'.elem.length cap3] : Array Value).size = cs2.toArray.size) := by show 4 = _; rw [List.size_toArray]; exact hl2.symm
       have h1 : Hid (cs2.toArray.all (·.oneCell') = true) := one_mem hx2'.one
       have HX2 : Hid (TyAt n K wr cs2 e0) := hx2'
       have g4 : ((t'.elem.length : Int) != 1) = false := by rw [f4]; rfl
       have g4' : (0 : Int) < (t'.elem.length : Int) := by omega
       clear HBX f1 f2 f3 f4 HL hx2 hx2' hcs2 hl2 he0
       have HKg : Hid (K.C <= w.heap.size) := HE.out.C
       generalize t'.kind = kd at *
       generalize str t'.name = S at *
       generalize hg : w.heap.size = g at *
       have HG : Hid (w.heap.size = g) := hg
       clear hg HE2 HE
       go_wp2_with (first | (go_at_call 195; refine P.out.mono ?_; rintro ev w2 ⟨rfl, rfl⟩) | (refine wpList_load_mid rfl 36 (.tmp 57) rfl b o rfl cs2 _ hrg.out Tryz.underlying36 rfl hi.out ?_) | (refine wpList_store_row rfl 36 (.tmp 1) (.tmp 58) rfl g cs2.toArray rfl rfl 36 _ HR.out.heap hi'.out hl'.out h1.out ?_))
       go_roundw
       case rel => exact ⟨k + 1, by omega, by go_num, below_setRow HW.out (Nat.le_refl _) _, cs2, e0, HR.out.setRow cs2, ⟨n, HX2.out.below (below_setRow (Below.refl _ _) HKg.out _)⟩, HBN.out⟩
       case measure => simp [intOf]; omega
      ·have b4 : (t'.kind == 4) = false := by simp; omega
       have b5 : (t'.kind == 5) = true := by simp; omega
       clear k5
       clear HBB HIT HS2 k1 k3 k4
       by_cases f1 : t'.name = []
       rotate_left
       ·have HF : Hid (B = false) := bool_false HBX.out (fun h => f1 h.1)
        rw [decide_eq_false f1] at n0
        have n1 := empty_ne n0
        clear HBX f1 P HL HR HE2
        generalize t'.kind = kd at *
        generalize str t'.name = S at *
        go_wp2_with fail
        go_ret
        exact ⟨by rw [HF.out]; rfl, HW.out⟩
       rw [decide_eq_true f1] at n0
       have n1 := empty_nil n0
       by_cases f2 : t'.lives.length <= 1
       rotate_left
       ·have HF : Hid (B = false) := bool_false HBX.out (fun h => f2 h.2.1)
        have g2 : decide ((1 : Int) < (t'.lives.length : Int)) = true := by simp; omega
        have g2' : (1 : Int) < (t'.lives.length : Int) := by omega
        clear HBX f1 f2 P HL HR HE2
        generalize t'.kind = kd at *
        generalize str t'.name = S at *
        go_wp2_with fail
        go_ret
        exact ⟨by rw [HF.out]; rfl, HW.out⟩
       have g2 : decide ((1 : Int) < (t'.lives.length : Int)) = false := by simp; omega
       have g2' : ¬ (1 : Int) < (t'.lives.length : Int) := by omega
       cases f3 : t'.lives.all lifeB
       ·have HF : Hid (B = false) := bool_false HBX.out (fun h => by rw [f3] at h; cases h.2.2.1)
        rw [f3] at P
        clear HBX f1 f2 f3 HL HR HE2
        generalize t'.kind = kd at *
        generalize str t'.name = S at *
        go_wp2_with (go_at_call 195; refine P.out.mono ?_; rintro ev w2 ⟨rfl, rfl⟩)
        go_ret
        exact ⟨by rw [HF.out]; rfl, HW.out⟩
       rw [f3] at P
       by_cases f4 : t'.elem.length = 1
       rotate_left
       ·have HF : Hid (B = false) := bool_false HBX.out (fun h => by obtain ⟨_, _, _, e, he, _⟩ := h; rw [he] at f4; exact f4 rfl)
        have g4 : ((t'.elem.length : Int) != 1) = true := by rw [bne_iff_ne]; omega
        have g4' : (t'.elem.length : Int) ≠ 1 := by omega
        clear HBX f1 f2 f3 f4 HL HR HE2
        generalize t'.kind = kd at *
        generalize str t'.name = S at *
        go_wp2_with (go_at_call 195; refine P.out.mono ?_; rintro ev w2 ⟨rfl, rfl⟩)
        go_ret
        exact ⟨by rw [HF.out]; rfl, HW.out⟩
       obtain ⟨b, o, e, hbC, cs2, hl2, hcs2, hx2⟩ := HL.out 0 (by omega)
       subst e
       obtain ⟨e0, he0⟩ : ∃ e0, t'.elem = [e0] := List.length_eq_one_iff.1 f4
       have hx2' : TyAt n K wr cs2 e0 := by have := hx2; simp only [he0] at this; exact this
       have HBN : Hid (B = true ↔ MayTy (64 - (k + 1)) e0) := by
        show _ ↔ _
        rw [HBX.out, show 64 - (k + 1) = r by omega]
        constructor
        ·rintro ⟨_, _, _, e, he, hm⟩
         rw [he0] at he
         cases he
         exact hm
        ·exact fun hm => ⟨f1, f2, f3, e0, he0, hm⟩
       have hrg : Hid (wr.rangeAt b o cs2) := by
        intro j u hj
        have hj4 : j < 4 := by rw [← hl2]; exact (List.getElem?_eq_some_iff.1 hj).1
        have := hcs2 j hj4
        rw [Nat.zero_mul, Nat.add_zero] at this
        rw [this]; exact hj
       have hi : Hid ((Tryz.prog.info? 36).map (·.size) = some cs2.length) := by show _ = _; rw [hl2]; kernel_rfl
       have hi' : Hid ((Tryz.prog.info? 36).map (·.size) = some cs2.toArray.size) := by show _ = _; rw [List.size_toArray]; exact hi.out
       have hl' : Hid ((#[Value.int .i64 t'.kind, .string (str t'.name), .slice ao2 t'.lives.length cap2, .slice (some ⟨b, o, none⟩) t'.elem.length cap3] : Array Value).size = cs2.toArray.size) := by show 4 = _; rw [List.size_toArray]; exact hl2.symm
       have h1 : Hid (cs2.toArray.all (·.oneCell') = true) := one_mem hx2'.one
       have HX2 : Hid (TyAt n K wr cs2 e0) := hx2'
       have g4 : ((t'.elem.length : Int) != 1) = false := by rw [f4]; rfl
       have g4' : (0 : Int) < (t'.elem.length : Int) := by omega
       clear HBX f1 f2 f3 f4 HL hx2 hx2' hcs2 hl2 he0
       have HKg : Hid (K.C <= w.heap.size) := HE.out.C
       generalize t'.kind = kd at *
       generalize str t'.name = S at *
       generalize hg : w.heap.size = g at *
       have HG : Hid (w.heap.size = g) := hg
       clear hg HE2 HE
       go_wp2_with (first | (go_at_call 195; refine P.out.mono ?_; rintro ev w2 ⟨rfl, rfl⟩) | (refine wpList_load_mid rfl 36 (.tmp 57) rfl b o rfl cs2 _ hrg.out Tryz.underlying36 rfl hi.out ?_) | (refine wpList_store_row rfl 36 (.tmp 1) (.tmp 58) rfl g cs2.toArray rfl rfl 36 _ HR.out.heap hi'.out hl'.out h1.out ?_))
       go_roundw
       case rel => exact ⟨k + 1, by omega, by go_num, below_setRow HW.out (Nat.le_refl _) _, cs2, e0, HR.out.setRow cs2, ⟨n, HX2.out.below (below_setRow (Below.refl _ _) HKg.out _)⟩, HBN.out⟩
       case measure => simp [intOf]; omega
     ·have b4 : (t'.kind == 4) = false := by simp; omega
      have b5 : (t'.kind == 5) = false := by simp; omega
      have HF : Hid (B = false) := bool_false HBB.out (mayTy_none (by omega))
      clear HBB HIT HS2 HL HR HE2 k1 k3 k4
      generalize t'.kind = kd at *
      generalize str t'.name = S at *
      go_wp2_with fail
      go_ret
      exact ⟨by rw [HF.out]; rfl, HW.out⟩
  ·have HF : Hid (B = false) := bool_false hB (by rw [show 64 - k = 0 by omega]; exact fun h => h)
   have HW : Hid (Below w.heap.size w wr) := hbw
   have i1 : ¬ (k : Int) < 64 := by omega
   clear hty hrow hB hbw
   go_wp2_with fail
   go_ret
   exact ⟨by rw [HF.out]; rfl, HW.out⟩
end Go.Proofs.YtldbbkheemnnhaaGreatDoor
