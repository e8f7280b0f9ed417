/-
  What was written is read: a thing at the place where its bytes begin.
-/
import Derived.Test.YtkgmjhchefkmaaaLst
namespace Go.Proofs.Ytkgmjhchefkmaaa
open Go.RowKit

theorem msgs_mono (f : Nat → Opv) {k K : Nat} (h : k ≤ K) : (msgs f k).length ≤ (msgs f K).length := by
  induction K with
  | zero => obtain rfl : k = 0 := by omega
            exact Nat.le_refl _
  | succ K ih =>
    rcases Nat.lt_or_ge k (K + 1) with hk | hk
    · have := ih (by omega)
      simp only [msgs, List.length_append]
      omega
    · obtain rfl : k = K + 1 := by omega
      exact Nat.le_refl _
theorem msgs_split (f : Nat → Opv) {k K : Nat} (h : k < K) : ∃ t, (msgs f K).drop (msgs f k).length = (f k).msg ++ t := by
  induction K with
  | zero => omega
  | succ K ih =>
    rcases Nat.lt_or_ge k K with hk | hk
    · obtain ⟨t, ht⟩ := ih hk
      refine ⟨t ++ (f K).msg, ?_⟩
      have hle := msgs_mono f (show k ≤ K by omega)
      simp only [msgs]
      rw [List.drop_append_of_le_length hle, ht, List.append_assoc]
    · obtain rfl : k = K := by omega
      refine ⟨[], ?_⟩
      simp [msgs]

/-- The thing was read: no error, and the Reader stands behind it. -/
def Back (w w' : World) (rb : Nat) (v : Value) (l : List UInt8) (q : Nat) (e : Value) : Prop := e = .nilIface ∧ Rd w' rb v l q ∧ w.grownBy w' (some rb)
theorem Out.back {w w' : World} {rb : Nat} {v : Value} {l : List UInt8} {p q q' c : Nat} {e : Value} (h : Out w w' rb v l p q c e) (hc : c = 0) (hq : q = q') : Back w w' rb v l q' e := by
  subst hc hq
  exact ⟨(h.err.resolve_right (by simp)).2, h.rd, h.grown⟩

theorem back_uint (o : Opv) (ho : o.ok) (hk : o.sort = 0 ∨ o.sort = 2) (w : World) (rb p : Nat) (v : Value) (l t : List UInt8) (h : Rd w rb v l p) (hl : l.drop p = o.msg ++ t) :
    Calls Try.prog 19 #[.pointer (some ⟨rb, 0, none⟩)] w fun ev w' => ∃ e, ev = .returned (.tuple #[.int .u64 (o.v : Int), e]) ∧ Back w w' rb v l (p + o.msg.length) e := by
  have hm : o.msg = enc o.v := by unfold Opv.msg; rw [if_pos hk]
  have hS : scan 0 0 (l.drop p) = (o.v, o.msg.length, 0) := by rw [hl, hm]; exact scan_of_enc o.v ho.v1 t
  refine (rUint_any w rb v l p h).mono ?_
  rintro ev w' ⟨e, rfl, hO⟩
  rw [hS] at hO ⊢
  exact ⟨e, rfl, hO.back rfl rfl⟩
theorem back_int (o : Opv) (ho : o.ok) (hk : o.sort = 1) (w : World) (rb p : Nat) (v : Value) (l t : List UInt8) (h : Rd w rb v l p) (hl : l.drop p = o.msg ++ t) :
    Calls Try.prog 20 #[.pointer (some ⟨rb, 0, none⟩)] w fun ev w' => ∃ e, ev = .returned (.tuple #[.int .i64 o.n, e]) ∧ Back w w' rb v l (p + o.msg.length) e := by
  have hm : o.msg = enc (zig o.n) := by unfold Opv.msg; rw [if_neg (by omega), if_pos hk]
  have hS : scan 0 0 (l.drop p) = (zig o.n, o.msg.length, 0) := by rw [hl, hm]; exact scan_of_enc _ (zig_lt ho.n0 ho.n1) t
  refine (rInt_any w rb v l p h).mono ?_
  rintro ev w' ⟨e, rfl, hO⟩
  rw [hS] at hO ⊢
  exact ⟨e, by rw [zag_zig], hO.back rfl rfl⟩
theorem back_bool (o : Opv) (hk : o.sort = 3) (w : World) (rb p : Nat) (v : Value) (l t : List UInt8) (h : Rd w rb v l p) (hl : l.drop p = o.msg ++ t) :
    Calls Try.prog 21 #[.pointer (some ⟨rb, 0, none⟩)] w fun ev w' => ∃ e, ev = .returned (.tuple #[.bool o.b, e]) ∧ Back w w' rb v l (p + o.msg.length) e := by
  have hm : o.msg = [if o.b then 1 else 0] := by unfold Opv.msg; rw [if_neg (by omega), if_neg (by omega), if_pos hk]
  have hp : p < l.length := by
    have := congrArg List.length hl
    rw [hm] at this
    simp at this; omega
  have hx : l.getD p 0 = if o.b then 1 else 0 := by
    have := congrArg (fun l => l[0]?) hl
    rw [hm] at this
    simp [List.getElem?_drop] at this
    simp [List.getD, this]
  have hS : rbool l p = (o.b, p + 1, 0) := by
    unfold rbool
    rw [if_neg (by omega), hx]
    cases o.b <;> simp
  have hlen : o.msg.length = 1 := by rw [hm]; rfl
  refine (rBool_any w rb v l p h).mono ?_
  rintro ev w' ⟨e, rfl, hO⟩
  rw [hS] at hO ⊢
  exact ⟨e, rfl, hO.back rfl (by rw [hlen])⟩
theorem back_text (o : Opv) (hk : o.sort = 4) (hs : o.s.size ≤ 500) (w : World) (rb p : Nat) (v : Value) (l t : List UInt8) (h : Rd w rb v l p) (hl : l.drop p = o.msg ++ t) :
    Calls Try.prog 22 #[.pointer (some ⟨rb, 0, none⟩), .int .i64 500] w fun ev w' => ∃ e, ev = .returned (.tuple #[.string o.s, e]) ∧ Back w w' rb v l (p + o.msg.length) e := by
  have hm : o.msg = enc o.s.size ++ o.s.data.toList := by unfold Opv.msg; rw [if_neg (by omega), if_neg (by omega), if_neg (by omega), if_pos hk]
  have hsz : o.s.data.toList.length = o.s.size := by simp
  have hlen : o.msg.length = (enc o.s.size).length + o.s.size := by rw [hm, List.length_append, hsz]
  have hS : scan 0 0 (l.drop p) = (o.s.size, (enc o.s.size).length, 0) := by rw [hl, hm, List.append_assoc]; exact scan_of_enc _ (by omega) _
  have hll : l.length - p = o.msg.length + t.length := by
    have := congrArg List.length hl
    rw [List.length_drop, List.length_append] at this
    exact this
  have hd : l.drop (p + (enc o.s.size).length) = o.s.data.toList ++ t := by
    rw [← List.drop_drop, hl, hm, List.append_assoc, List.drop_left]
  have hT : rtext l p 500 = (o.s.data.toList, p + o.msg.length, 0) := by
    unfold rtext
    have ho : over o.s.size 500 = false := by simp [over]; omega
    rw [hS, if_neg (by simp), ho, if_neg (by simp), if_neg (by show ¬ l.length - p - (enc o.s.size).length < o.s.size; omega), hd, hlen]
    simp only [Prod.mk.injEq, and_true]
    rw [List.take_append_of_le_length (by omega), List.take_of_length_le (by omega)]
  refine (rText_any w rb v l p 500 h (by omega) (by omega)).mono ?_
  rintro ev w' ⟨e, rfl, hO⟩
  rw [hT] at hO ⊢
  exact ⟨e, by rw [str_of], hO.back rfl rfl⟩
theorem back_hash (o : Opv) (ho : o.ok) (hk : o.sort = 5) (w : World) (rb p : Nat) (v : Value) (l t : List UInt8) (h : Rd w rb v l p) (hl : l.drop p = o.msg ++ t) :
    Calls Try.prog 23 #[.pointer (some ⟨rb, 0, none⟩)] w fun ev w' => ∃ e, ev = .returned (.tuple #[.agg (bys o.h).toArray, e]) ∧ Back w w' rb v l (p + o.msg.length) e := by
  have hm : o.msg = o.h := by unfold Opv.msg; rw [if_neg (by omega), if_neg (by omega), if_neg (by omega), if_neg (by omega)]
  have h32 := ho.h32
  have hll : l.length - p = o.msg.length + t.length := by
    have := congrArg List.length hl
    rw [List.length_drop, List.length_append] at this
    exact this
  have hT : rhash l p = (o.h, p + 32, 0) := by
    unfold rhash
    rw [if_neg (by rw [hm] at hll; omega), hl, hm]
    simp only [Prod.mk.injEq, and_true]
    rw [List.take_append_of_le_length (by omega), List.take_of_length_le (by omega)]
  refine (rHash_any w rb v l p h).mono ?_
  rintro ev w' ⟨e, rfl, hO⟩
  rw [hT] at hO ⊢
  exact ⟨e, rfl, hO.back rfl (by rw [hm, h32])⟩
end Go.Proofs.Ytkgmjhchefkmaaa
