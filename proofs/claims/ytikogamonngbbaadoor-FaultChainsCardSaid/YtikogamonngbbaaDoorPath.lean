/-
  The program's Path, on an error that lies in memory (at most a hundred links in its chain): a new list of the places, from the outside to the inside.
-/
import Derived.Test.YtikogamonngbbaaDoorAsk
namespace Go.Proofs.YtikogamonngbbaaDoor
open Go.RowKit Go.Extern.Stop Go.Stop Go.Extern Err

theorem own_mono {w : World} {base base' : Nat} {t : TypeId} {v : Value} {n : Nat} {xs : List Value} (h : w.ownsRow base t 1 v n xs) (hb : base' ≤ base) : w.ownsRow base' t 1 v n xs := by
  obtain ⟨hlen, h | ⟨g, cap, cur, hv, hbg, h⟩⟩ := h
  · exact ⟨hlen, .inl h⟩
  · exact ⟨hlen, .inr ⟨g, cap, cur, hv, by omega, h⟩⟩
theorem Tryd.info3 : (Tryd.prog.info? 3).map (fun i => (i.zero, i.size, i.bytes)) = some (some (.int .i64 0), 1, 8) := by kernel_rfl
def ints (l : List Int) : List Value := l.map (Value.int .i64)
theorem ints_snoc (l : List Int) (k : Nat) (h : k < l.length) : ints (l.take (k + 1)) = ints (l.take k) ++ [.int .i64 (l.getD k 0)] := by
  unfold ints
  have hq : l.getD k 0 = l[k] := by simp [List.getD, List.getElem?_eq_getElem h]
  rw [hq, List.take_succ_eq_append_getElem h, List.map_append]
  rfl

/-- What the loop of Path has gathered. -/
structure PRel (w : World) (l : List Int) (k : Nat) (v : Value) (wr : World) : Prop where
  own : wr.ownsRow w.heap.size 3 1 v k (ints (l.take k))
  below : Below w.heap.size w wr
theorem PRel.step {w wr w1 : World} {l : List Int} {k : Nat} {v v' : Value} {o : Obj} (h : PRel w l k v wr) (hk : k < l.length)
    (hown : w1.ownsRow w.heap.size 3 1 v' (k + 1) (ints (l.take k) ++ [.int .i64 (l.getD k 0)])) (hgrow : (wr.alloc o).grownBy w1 v.ownBlock) : PRel w l (k + 1) v' w1 :=
  ⟨by rw [ints_snoc l k hk]; exact hown, (h.below.alloc h.below.size o).grown hgrow (by have := h.below.size; simp; omega) (fun k hk => (h.own.lt k hk).1)⟩

set_option maxHeartbeats 2000000 in
set_option maxRecDepth 5000 in
theorem path_any (e : Err) (w : World) (hg : Glob w) (he : lies w e) (hl : (links (ff e)).length ≤ 100) :
    Calls Tryd.prog 12 #[val e] w fun ev w' => ∃ v, ev = .returned v ∧ w'.ownsRow w.heap.size 3 1 v (path e).length (ints (path e)) ∧ Below w.heap.size w w' := by
  obtain ⟨i0, hi, hz0, hz1, hz2⟩ := info_parts Tryd.info3
  have C := first_any e w hg he
  rw [first_ptr] at C
  have hf := lies_ff he
  have HD : Hid (∀ w1, Below w.heap.size w w1 → Calls Tryd.prog 17 #[ptr (ff e)] w1 fun ev w' => ∃ v, ev = .returned v ∧ w'.ownsRow w1.heap.size 34 1 v (links (ff e)).length ((links (ff e)).map lp) ∧ Below w1.heap.size w1 w') := fun w1 hB => chain_any (ff e) w1 (lies_below hB (Nat.le_refl _) hf) hl
  have HA : Hid (∀ w1, Below w.heap.size w w1 → ∀ k, k < (links (ff e)).length → w1.cell? ⟨((links (ff e)).getD k (0, 0)).1, 1, none⟩ = some (.int .i64 ((path e).getD k 0))) := by
    intro w1 hB k hk
    have h := links_cell (lies_below hB (Nat.le_refl _) hf) k hk
    have q1 : (links (ff e)).getD k (0, 0) = (links (ff e))[k] := by simp [List.getD, List.getElem?_eq_getElem hk]
    have q2 : (path e).getD k 0 = ((links (ff e))[k]).2 := by simp [path, List.getD, List.getElem?_eq_getElem hk]
    rw [q1, q2]; exact h
  have HL : Hid (∀ (w2 : World) (g : Nat), (∀ j, (hj : j < ((links (ff e)).map lp).length) → w2.cell? ⟨g, j, none⟩ = some ((links (ff e)).map lp)[j]) → ∀ k, k < (links (ff e)).length → w2.cell? ⟨g, k, none⟩ = some (.pointer (some ⟨((links (ff e)).getD k (0, 0)).1, 0, none⟩))) := by
    intro w2 g h k hk
    rw [h k (by simpa using hk)]
    simp [lp, List.getD, List.getElem?_eq_getElem hk]
  have HP : Hid ((path e).length = (links (ff e)).length) := by show _ = _; simp [path]
  generalize path e = l at HA HP ⊢
  generalize hF : (fun k => ((links (ff e)).getD k (0, 0)).1) = F
  have HF : ∀ k, ((links (ff e)).getD k (0, 0)).1 = F k := fun k => by rw [← hF]
  simp only [HF] at HA HL
  clear hF HF hf he
  generalize (links (ff e)).map lp = xs at HD HL
  generalize (links (ff e)).length = n at HD HA HL HP hl
  generalize ptr (ff e) = p at C HD
  go_enter Tryd.func12, Tryd.ntmps12
  go_wp2_with fail
  refine C.mono ?_
  rintro ev w1 ⟨rfl, hB⟩
  have D := HD.out w1 hB
  go_wp2_with fail
  refine D.mono ?_
  rintro ev w2 ⟨v, rfl, hown, hB2⟩
  have hB12 := hB.trans (hB2.mono hB.size)
  obtain ⟨ao, cap, rfl⟩ : ∃ ao cap, v = .slice ao n cap := by
    rcases Nat.eq_zero_or_pos n with rfl | hn
    · exact own_none hown
    · obtain ⟨g, cap, rfl, _⟩ := own_some hown hn
      exact ⟨_, _, rfl⟩
  have HC : Hid (∀ wr, Below w2.heap.size w2 wr → ∀ k, k < n → ∃ g, ao = some ⟨g, 0, none⟩ ∧ wr.cell? ⟨g, k, none⟩ = some (.pointer (some ⟨F k, 0, none⟩)) ∧ n ≤ cap) := by
    intro wr hb k hk
    obtain ⟨g, cap', hv, -, hgl, hnc, -, hcl⟩ := own_some hown (by omega)
    cases hv
    exact ⟨g, rfl, (hb.cell (p := ⟨g, k, none⟩) hgl).trans (HL.out w2 g hcl k hk), hnc⟩
  have HA2 : Hid (∀ wr, Below w2.heap.size w2 wr → ∀ k, k < n → wr.cell? ⟨F k, 1, none⟩ = some (.int .i64 (l.getD k 0))) := by
    intro wr hb k hk
    exact HA.out wr (hB12.trans (hb.mono hB12.size)) k hk
  clear hown HL HA HD D C
  go_wp2
  go_loopw [3, 10] (fun v i wr => ∃ k : Nat, k ≤ n ∧ i = .int .i64 k ∧ PRel w2 l k v wr) (fun _ i _ => n - (intOf i).toNat)
  case atStart => exact ⟨0, Nat.zero_le _, rfl, World.ownsRow_nil _ _ _ _, Below.refl _ _⟩
  case round =>
    obtain ⟨k, hk, rfl, hR⟩ := hrel
    have hown := hR.own
    have hsz := hR.below.size
    have A : Aside (PRel w2 l k u3 wr) := hR
    by_cases hlt : k < n
    · obtain ⟨g, rfl, q1, hnc⟩ := HC.out wr hR.below k hlt
      have q2 := HA2.out wr hR.below k hlt
      have hkl : Hid (k < l.length) := by show _ < _; have := HP.out; omega
      clear hR
      generalize hvk : l.getD k 0 = y at q2
      have HV : Hid (l.getD k 0 = y) := hvk
      clear hvk
      go_wp2_with (first
        | (at_builtin; refine wpList_append_own _ rfl _ _ 22 rfl w2.heap.size 3 i0 (.int .i64 0) 1 8 Tryd.underlying22 hi hz0 hz1 hz2 rfl (by decide) _ _ _ rfl (hown.alloc _) ⟨wr.heap.size, 0, none⟩ 1 1 [.int .i64 y] rfl rfl ?c1 ?c2 ?c3 ?c4 ?c5 ?_)
        | go_in)
      case c1 =>
        intro j u hj
        match j, hj with
        | 0, hj => simp at hj; subst hj; simp [Addr.add]
      case c2 => intro u hu; simp at hu; subst hu; rfl
      case c3 => unfold maxLen; omega
      case c4 => omega
      case c5 => simp; omega
      intro v' w1' hown' hgrow _
      have R := A.out.step hkl.out (by rw [HV.out]; exact hown') hgrow
      clear hown' hgrow hown A
      go_wp2
      go_roundw
      case rel => exact ⟨k + 1, by omega, by go_num, R⟩
      case measure => simp [intOf]; omega
    · clear hR
      go_wp2
      go_ret
      have hkn : k = n := by omega
      have R := A.out
      have hll := HP.out
      refine ⟨_, rfl, ?_, hB12.trans (R.below.mono hB12.size)⟩
      have := own_mono R.own hB12.size
      rw [show k = l.length by omega, List.take_length] at this
      exact this
end Go.Proofs.YtikogamonngbbaaDoor
