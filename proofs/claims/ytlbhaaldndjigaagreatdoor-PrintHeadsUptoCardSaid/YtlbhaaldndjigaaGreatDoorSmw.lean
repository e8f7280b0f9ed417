/-
  The writer's branch, stmt.
-/
import Derived.Test.YtlbhaaldndjigaaGreatDoorJStw2
namespace Go.Proofs.YtlbhaaldndjigaaGreatDoor
open Go.RowKit

set_option maxHeartbeats 4000000 in
theorem branch_of {N : Nat} (ih : WBlk N) {K : Ctx} (hK : 1 < K.C) {b bx ox d m : Nat} {S : Bs} {w : World} (tb : Tb w) {s : St} (hx : Stx N K w bx ox s) (hc : MayOpr s.cond) (hm : MayBlk m s.thn) (hd : d + m ≤ 65) (word : Bs) (h : Wtr K.C b S (d : Int) w) (hlen : S.length + (word ++ operT Lib.itoa s.cond ++ [32] ++ blkT Lib.itoa s.thn d).length ≤ 140737488355328) :
    Calls Tryz.prog 131 #[.pointer (some ⟨b, 0, none⟩), .string (str word), .pointer (some ⟨bx, ox, none⟩)] w fun e w' => e = .returned (.tuple #[]) ∧ (∃ T, Out S (word ++ operT Lib.itoa s.cond ++ [32] ++ blkT Lib.itoa s.thn d) T ∧ Wtr K.C b T (d : Int) w') ∧ Fr K.C w w' := by
  simp only [List.length_append, List.length_cons, List.length_nil] at hlen
  obtain ⟨os, ho, hol⟩ := hx.co
  obtain ⟨ao, cap, c30, hth⟩ := hx.th
  have HX : Hid (∀ y, Fr K.C w y → y.cell? ⟨bx, ox + 30, none⟩ = some (.slice ao s.thn.length cap)) := fun y hy => (hy.below.cell (p := ⟨bx, ox + 30, none⟩) hx.bC).trans c30
  have D0 : Hid (Calls Tryz.prog 47 #[.pointer (some ⟨b, 0, none⟩), .slice (some ⟨w.heap.size, 0, none⟩) 1 1] (w.alloc (.cells #[.string (str word)] 9)) fun e w' => e = .returned (.tuple #[]) ∧ Wtr K.C b (S ++ word) (d : Int) w' ∧ Fr K.C w w') := put1 h word (by omega)
  have D1 : Hid (∀ y, Fr K.C w y → Wtr K.C b (S ++ word) (d : Int) y → Calls Tryz.prog 147 #[.pointer (some ⟨b, 0, none⟩), .pointer (some ⟨bx, ox + 26, none⟩)] y fun e w' => e = .returned (.tuple #[]) ∧ Wtr K.C b (S ++ word ++ operT Lib.itoa s.cond) (d : Int) w' ∧ Fr K.C y w') := fun y hy hw => oper_any (tb.below hy.below hK) hc (ho.below hy.below) (hol.below hy.below) hw (by rw [List.length_append]; omega)
  have D2 : Hid (∀ y, Wtr K.C b (S ++ word ++ operT Lib.itoa s.cond) (d : Int) y → Calls Tryz.prog 47 #[.pointer (some ⟨b, 0, none⟩), .slice (some ⟨y.heap.size, 0, none⟩) 1 1] (y.alloc (.cells #[.string (str [32])] 9)) fun e w' => e = .returned (.tuple #[]) ∧ Wtr K.C b (S ++ word ++ operT Lib.itoa s.cond ++ [32]) (d : Int) w' ∧ Fr K.C y w') := fun y hw => put1 hw [32] (by simp only [List.length_append, List.length_cons, List.length_nil]; omega)
  have D3 : Hid (∀ y, Fr K.C w y → Wtr K.C b (S ++ word ++ operT Lib.itoa s.cond ++ [32]) (d : Int) y → Calls Tryz.prog 74 #[.pointer (some ⟨b, 0, none⟩), .slice ao s.thn.length cap] y fun e w' => e = .returned (.tuple #[]) ∧ (∃ T, Out S (word ++ operT Lib.itoa s.cond ++ [32] ++ blkT Lib.itoa s.thn d) T ∧ Wtr K.C b T (d : Int) w') ∧ Fr K.C y w') := by
    intro y hy hw
    refine (ih hK (tb.below hy.below hK) (hth.mono hy.below fun _ _ _ h => h.below hy.below) hm hd hw (by simp only [List.length_append, List.length_cons, List.length_nil]; omega)).mono ?_
    rintro _ _ ⟨rfl, ⟨T, hO, hT⟩, p2⟩
    exact ⟨rfl, ⟨T, by have := (Out.full S (word ++ operT Lib.itoa s.cond ++ [32])).trans (T := S ++ (word ++ operT Lib.itoa s.cond ++ [32])) (G := blkT Lib.itoa s.thn d) (U := T) (by simpa [List.append_assoc] using hO); exact this, hT⟩, p2⟩
  clear h hlen hx ho hol hth tb hc hm hd c30 ih
  generalize (d : Int) = d0 at *
  generalize operT Lib.itoa s.cond = TO at *
  generalize blkT Lib.itoa s.thn d = TB at *
  generalize s.thn.length = ll at *
  go_enter Tryz.func131, Tryz.ntmps131
  go_wp2_with fail
  refine D0.out.mono ?_
  rintro ev w1 ⟨rfl, p1, q1⟩
  go_wp2_with fail
  refine (D1.out _ q1 p1).mono ?_
  rintro ev w2 ⟨rfl, p2, q2⟩
  have q2' := q1.trans q2
  go_wp2_with fail
  refine (D2.out _ p2).mono ?_
  rintro ev w3 ⟨rfl, p3, q3⟩
  have q3' := q2'.trans q3
  have x3 := HX.out _ q3'
  go_wp2_with fail
  refine (D3.out _ q3' p3).mono ?_
  rintro ev w4 ⟨rfl, p4, q4⟩
  go_wp2_with fail
  go_end0
  exact ⟨rfl, p4, q3'.trans q4⟩

theorem out_of {C b : Nat} {S F : Bs} {n : Int} {w : World} (h : Wtr C b (S ++ F) n w) : ∃ T, Out S F T ∧ Wtr C b T n w := ⟨_, Out.full S F, h⟩

set_option maxHeartbeats 8000000 in
set_option maxRecDepth 20000 in
theorem stmt_1 {N : Nat} {K : Ctx} (hK : 1 < K.C) {b bx ox d : Nat} {S : Bs} {w : World} (tb : Tb w) {s : St} (hx : Stx N K w bx ox s) (hk : s.kind = 1) (hm : s.has = true → MayVa s.val) (h : Wtr K.C b S (d : Int) w) (hlen : S.length + (stT Lib.itoa s d).length ≤ 140737488355328) :
    Calls Tryz.prog 100 #[.pointer (some ⟨b, 0, none⟩), .pointer (some ⟨bx, ox, none⟩)] w fun e w' => e = .returned (.tuple #[]) ∧ (∃ T, Out S (stT Lib.itoa s d) T ∧ Wtr K.C b T (d : Int) w') ∧ Fr K.C w w' := by
  rw [stT_1 Lib.itoa hk] at hlen ⊢
  have c0 := hx.c0
  have b1 : (s.kind == 1) = true := by rw [hk]; rfl
  have D1 := hid0 (let_any hK tb hm hx h hlen)
  clear h hlen hx tb hm
  generalize ([108, 101, 116, 32] : Bs) ++ mutT s.mu ++ (s.name ++ [58, 32]) ++ tyT s.ty ++ endT Lib.itoa [32, 61, 32] s.has s.val = TL at *
  clear hk
  generalize (d : Int) = d0 at *
  generalize s.kind = kd at *
  go_enter Tryz.func100, Tryz.ntmps100
  go_wp2_with fail
  refine D1.out.mono ?_
  rintro ev w1 ⟨rfl, p1, q1⟩
  go_wp2_with fail
  go_end0
  exact ⟨rfl, out_of p1, q1⟩

set_option maxHeartbeats 8000000 in
set_option maxRecDepth 20000 in
theorem stmt_2 {N : Nat} {K : Ctx} (hK : 1 < K.C) {b bx ox d : Nat} {S : Bs} {w : World} (tb : Tb w) {s : St} (hx : Stx N K w bx ox s) (hk : s.kind = 2) (hm : MayVa s.val) (h : Wtr K.C b S (d : Int) w) (hlen : S.length + (stT Lib.itoa s d).length ≤ 140737488355328) :
    Calls Tryz.prog 100 #[.pointer (some ⟨b, 0, none⟩), .pointer (some ⟨bx, ox, none⟩)] w fun e w' => e = .returned (.tuple #[]) ∧ (∃ T, Out S (stT Lib.itoa s d) T ∧ Wtr K.C b T (d : Int) w') ∧ Fr K.C w w' := by
  rw [stT_2 Lib.itoa hk] at hlen ⊢
  have c0 := hx.c0
  have b1 : (s.kind == 1) = false := by rw [hk]; rfl
  have b2 : (s.kind == 2) = true := by rw [hk]; rfl
  obtain ⟨ps, hp, hpl⟩ := hx.pl
  obtain ⟨vs, hv, hvl⟩ := hx.va
  have fr0 := Fr.refl K.C w
  have p0 := h
  have D0 : Hid (∀ y, Fr K.C w y → Wtr K.C b (S) (d : Int) y → Calls Tryz.prog 129 #[.pointer (some ⟨b, 0, none⟩), .pointer (some ⟨bx, ox + 9, none⟩)] y fun e w' => e = .returned (.tuple #[]) ∧ Wtr K.C b (S ++ placeT s.place) (d : Int) w' ∧ Fr K.C y w') := fun y hy hw => place_any (hp.below hy.below) (hpl.below hy.below) hw (by simp only [List.length_append, List.length_cons, List.length_nil] at hlen ⊢; omega)
  have D1 : Hid (∀ y, Wtr K.C b (S ++ placeT s.place) (d : Int) y → Calls Tryz.prog 47 #[.pointer (some ⟨b, 0, none⟩), .slice (some ⟨y.heap.size, 0, none⟩) 1 1] (y.alloc (.cells #[.string (str [32, 61, 32])] 9)) fun e w' => e = .returned (.tuple #[]) ∧ Wtr K.C b (S ++ placeT s.place ++ [32, 61, 32]) (d : Int) w' ∧ Fr K.C y w') := fun y hw => put1 hw [32, 61, 32] (by simp only [List.length_append, List.length_cons, List.length_nil] at hlen ⊢; omega)
  have D2 : Hid (∀ y, Fr K.C w y → Wtr K.C b (S ++ placeT s.place ++ [32, 61, 32]) (d : Int) y → Calls Tryz.prog 130 #[.pointer (some ⟨b, 0, none⟩), .pointer (some ⟨bx, ox + 11, none⟩)] y fun e w' => e = .returned (.tuple #[]) ∧ Wtr K.C b (S ++ placeT s.place ++ [32, 61, 32] ++ valT Lib.itoa s.val) (d : Int) w' ∧ Fr K.C y w') := fun y hy hw => value_any hK (tb.below hy.below hK) hm (hv.below hy.below) (hvl.below hy.below) hw (by simp only [List.length_append, List.length_cons, List.length_nil] at hlen ⊢; omega)
  have D3 : Hid (∀ y, Wtr K.C b (S ++ placeT s.place ++ [32, 61, 32] ++ valT Lib.itoa s.val) (d : Int) y → Calls Tryz.prog 47 #[.pointer (some ⟨b, 0, none⟩), .slice (some ⟨y.heap.size, 0, none⟩) 1 1] (y.alloc (.cells #[.string (str [59])] 9)) fun e w' => e = .returned (.tuple #[]) ∧ Wtr K.C b (S ++ placeT s.place ++ [32, 61, 32] ++ valT Lib.itoa s.val ++ [59]) (d : Int) w' ∧ Fr K.C y w') := fun y hw => put1 hw [59] (by simp only [List.length_append, List.length_cons, List.length_nil] at hlen ⊢; omega)
  generalize placeT s.place = TP at *
  generalize valT Lib.itoa s.val = TV at *
  clear h hlen hx tb hm hk hp hpl hv hvl
  generalize (d : Int) = d0 at *
  generalize s.kind = kd at *
  go_enter Tryz.func100, Tryz.ntmps100
  go_wp2_with fail
  refine (D0.out _ fr0 p0).mono ?_
  rintro ev w1 ⟨rfl, p1, q1⟩
  go_wp2_with fail
  refine (D1.out _ p1).mono ?_
  rintro ev w2 ⟨rfl, p2, q2⟩
  have q2n := q1.trans q2
  go_wp2_with fail
  refine (D2.out _ q2n p2).mono ?_
  rintro ev w3 ⟨rfl, p3, q3⟩
  have q3n := q2n.trans q3
  go_wp2_with fail
  refine (D3.out _ p3).mono ?_
  rintro ev w4 ⟨rfl, p4, q4⟩
  have q4n := q3n.trans q4
  go_wp2_with fail
  go_end0
  exact ⟨rfl, out_of (by simpa [List.append_assoc] using p4), q4n⟩

set_option maxHeartbeats 8000000 in
set_option maxRecDepth 20000 in
theorem stmt_3 {N : Nat} {K : Ctx} (hK : 1 < K.C) {b bx ox d : Nat} {S : Bs} {w : World} (tb : Tb w) {s : St} (hx : Stx N K w bx ox s) (hk : s.kind = 3) (hm : MayVa s.val) (h : Wtr K.C b S (d : Int) w) (hlen : S.length + (stT Lib.itoa s d).length ≤ 140737488355328) :
    Calls Tryz.prog 100 #[.pointer (some ⟨b, 0, none⟩), .pointer (some ⟨bx, ox, none⟩)] w fun e w' => e = .returned (.tuple #[]) ∧ (∃ T, Out S (stT Lib.itoa s d) T ∧ Wtr K.C b T (d : Int) w') ∧ Fr K.C w w' := by
  rw [stT_3 Lib.itoa hk] at hlen ⊢
  have c0 := hx.c0
  have b1 : (s.kind == 1) = false := by rw [hk]; rfl
  have b2 : (s.kind == 2) = false := by rw [hk]; rfl
  have b3 : (s.kind == 3) = true := by rw [hk]; rfl
  obtain ⟨vs, hv, hvl⟩ := hx.va
  have fr0 := Fr.refl K.C w
  have p0 := h
  have D0 : Hid (∀ y, Fr K.C w y → Wtr K.C b (S) (d : Int) y → Calls Tryz.prog 130 #[.pointer (some ⟨b, 0, none⟩), .pointer (some ⟨bx, ox + 11, none⟩)] y fun e w' => e = .returned (.tuple #[]) ∧ Wtr K.C b (S ++ valT Lib.itoa s.val) (d : Int) w' ∧ Fr K.C y w') := fun y hy hw => value_any hK (tb.below hy.below hK) hm (hv.below hy.below) (hvl.below hy.below) hw (by simp only [List.length_append, List.length_cons, List.length_nil] at hlen ⊢; omega)
  have D1 : Hid (∀ y, Wtr K.C b (S ++ valT Lib.itoa s.val) (d : Int) y → Calls Tryz.prog 47 #[.pointer (some ⟨b, 0, none⟩), .slice (some ⟨y.heap.size, 0, none⟩) 1 1] (y.alloc (.cells #[.string (str [59])] 9)) fun e w' => e = .returned (.tuple #[]) ∧ Wtr K.C b (S ++ valT Lib.itoa s.val ++ [59]) (d : Int) w' ∧ Fr K.C y w') := fun y hw => put1 hw [59] (by simp only [List.length_append, List.length_cons, List.length_nil] at hlen ⊢; omega)
  generalize valT Lib.itoa s.val = TV at *
  clear h hlen hx tb hm hk hv hvl
  generalize (d : Int) = d0 at *
  generalize s.kind = kd at *
  go_enter Tryz.func100, Tryz.ntmps100
  go_wp2_with fail
  refine (D0.out _ fr0 p0).mono ?_
  rintro ev w1 ⟨rfl, p1, q1⟩
  go_wp2_with fail
  refine (D1.out _ p1).mono ?_
  rintro ev w2 ⟨rfl, p2, q2⟩
  have q2n := q1.trans q2
  go_wp2_with fail
  go_end0
  exact ⟨rfl, out_of (by simpa [List.append_assoc] using p2), q2n⟩

set_option maxHeartbeats 8000000 in
set_option maxRecDepth 20000 in
theorem stmt_8 {N : Nat} {K : Ctx} {b bx ox d : Nat} {S : Bs} {w : World} {s : St} (hx : Stx N K w bx ox s) (hk : s.kind = 8) (h : Wtr K.C b S (d : Int) w) (hlen : S.length + (stT Lib.itoa s d).length ≤ 140737488355328) :
    Calls Tryz.prog 100 #[.pointer (some ⟨b, 0, none⟩), .pointer (some ⟨bx, ox, none⟩)] w fun e w' => e = .returned (.tuple #[]) ∧ (∃ T, Out S (stT Lib.itoa s d) T ∧ Wtr K.C b T (d : Int) w') ∧ Fr K.C w w' := by
  rw [stT_8 Lib.itoa hk] at hlen ⊢
  have c0 := hx.c0
  have b1 : (s.kind == 1) = false := by rw [hk]; rfl
  have b2 : (s.kind == 2) = false := by rw [hk]; rfl
  have b3 : (s.kind == 3) = false := by rw [hk]; rfl
  have b4 : (s.kind == 4) = false := by rw [hk]; rfl
  have b5 : (s.kind == 5) = false := by rw [hk]; rfl
  have b6 : (s.kind == 6) = false := by rw [hk]; rfl
  have b7 : (s.kind == 7) = false := by rw [hk]; rfl
  have b8 : (s.kind == 8) = true := by rw [hk]; rfl
  have D0 : Hid (Calls Tryz.prog 47 #[.pointer (some ⟨b, 0, none⟩), .slice (some ⟨w.heap.size, 0, none⟩) 1 1] (w.alloc (.cells #[.string (str [98, 114, 101, 97, 107, 59])] 9)) fun e w' => e = .returned (.tuple #[]) ∧ Wtr K.C b (S ++ [98, 114, 101, 97, 107, 59]) (d : Int) w' ∧ Fr K.C w w') := put1 h [98, 114, 101, 97, 107, 59] (by simp only [List.length_cons, List.length_nil] at hlen ⊢; omega)
  clear h hlen hx hk
  generalize (d : Int) = d0 at *
  generalize s.kind = kd at *
  go_enter Tryz.func100, Tryz.ntmps100
  go_wp2_with fail
  refine D0.out.mono ?_
  rintro ev w1 ⟨rfl, p1, q1⟩
  go_wp2_with fail
  go_end0
  exact ⟨rfl, out_of p1, q1⟩

set_option maxHeartbeats 8000000 in
set_option maxRecDepth 20000 in
theorem stmt_9 {N : Nat} {K : Ctx} {b bx ox d : Nat} {S : Bs} {w : World} {s : St} (hx : Stx N K w bx ox s) (hk : s.kind = 9) (h : Wtr K.C b S (d : Int) w) (hlen : S.length + (stT Lib.itoa s d).length ≤ 140737488355328) :
    Calls Tryz.prog 100 #[.pointer (some ⟨b, 0, none⟩), .pointer (some ⟨bx, ox, none⟩)] w fun e w' => e = .returned (.tuple #[]) ∧ (∃ T, Out S (stT Lib.itoa s d) T ∧ Wtr K.C b T (d : Int) w') ∧ Fr K.C w w' := by
  rw [stT_9 Lib.itoa hk] at hlen ⊢
  have c0 := hx.c0
  have b1 : (s.kind == 1) = false := by rw [hk]; rfl
  have b2 : (s.kind == 2) = false := by rw [hk]; rfl
  have b3 : (s.kind == 3) = false := by rw [hk]; rfl
  have b4 : (s.kind == 4) = false := by rw [hk]; rfl
  have b5 : (s.kind == 5) = false := by rw [hk]; rfl
  have b6 : (s.kind == 6) = false := by rw [hk]; rfl
  have b7 : (s.kind == 7) = false := by rw [hk]; rfl
  have b8 : (s.kind == 8) = false := by rw [hk]; rfl
  have b9 : (s.kind == 9) = true := by rw [hk]; rfl
  have D0 : Hid (Calls Tryz.prog 47 #[.pointer (some ⟨b, 0, none⟩), .slice (some ⟨w.heap.size, 0, none⟩) 1 1] (w.alloc (.cells #[.string (str [99, 111, 110, 116, 105, 110, 117, 101, 59])] 9)) fun e w' => e = .returned (.tuple #[]) ∧ Wtr K.C b (S ++ [99, 111, 110, 116, 105, 110, 117, 101, 59]) (d : Int) w' ∧ Fr K.C w w') := put1 h [99, 111, 110, 116, 105, 110, 117, 101, 59] (by simp only [List.length_cons, List.length_nil] at hlen ⊢; omega)
  clear h hlen hx hk
  generalize (d : Int) = d0 at *
  generalize s.kind = kd at *
  go_enter Tryz.func100, Tryz.ntmps100
  go_wp2_with fail
  refine D0.out.mono ?_
  rintro ev w1 ⟨rfl, p1, q1⟩
  go_wp2_with fail
  go_end0
  exact ⟨rfl, out_of p1, q1⟩

set_option maxHeartbeats 8000000 in
set_option maxRecDepth 20000 in
theorem stmt_10 {N : Nat} {K : Ctx} (hK : 1 < K.C) {b bx ox d : Nat} {S : Bs} {w : World} (tb : Tb w) {s : St} (hx : Stx N K w bx ox s) (hk : s.kind = 10) (hm : s.has = true → MayVa s.val) (h : Wtr K.C b S (d : Int) w) (hlen : S.length + (stT Lib.itoa s d).length ≤ 140737488355328) :
    Calls Tryz.prog 100 #[.pointer (some ⟨b, 0, none⟩), .pointer (some ⟨bx, ox, none⟩)] w fun e w' => e = .returned (.tuple #[]) ∧ (∃ T, Out S (stT Lib.itoa s d) T ∧ Wtr K.C b T (d : Int) w') ∧ Fr K.C w w' := by
  rw [stT_10 Lib.itoa hk] at hlen ⊢
  have c0 := hx.c0
  have b1 : (s.kind == 1) = false := by rw [hk]; rfl
  have b2 : (s.kind == 2) = false := by rw [hk]; rfl
  have b3 : (s.kind == 3) = false := by rw [hk]; rfl
  have b4 : (s.kind == 4) = false := by rw [hk]; rfl
  have b5 : (s.kind == 5) = false := by rw [hk]; rfl
  have b6 : (s.kind == 6) = false := by rw [hk]; rfl
  have b7 : (s.kind == 7) = false := by rw [hk]; rfl
  have b8 : (s.kind == 8) = false := by rw [hk]; rfl
  have b9 : (s.kind == 9) = false := by rw [hk]; rfl
  have b10 : (s.kind == 10) = true := by rw [hk]; rfl
  have D0 : Hid (Calls Tryz.prog 47 #[.pointer (some ⟨b, 0, none⟩), .slice (some ⟨w.heap.size, 0, none⟩) 1 1] (w.alloc (.cells #[.string (str [114, 101, 116, 117, 114, 110])] 9)) fun e w' => e = .returned (.tuple #[]) ∧ Wtr K.C b (S ++ [114, 101, 116, 117, 114, 110]) (d : Int) w' ∧ Fr K.C w w') := put1 h [114, 101, 116, 117, 114, 110] (by simp only [List.length_append, List.length_cons, List.length_nil] at hlen ⊢; omega)
  have D1 : Hid (∀ y, Fr K.C w y → Wtr K.C b (S ++ [114, 101, 116, 117, 114, 110]) (d : Int) y → Calls Tryz.prog 132 #[.pointer (some ⟨b, 0, none⟩), .string (str [32]), .pointer (some ⟨bx, ox, none⟩)] y fun e w' => e = .returned (.tuple #[]) ∧ Wtr K.C b (S ++ [114, 101, 116, 117, 114, 110] ++ endT Lib.itoa [32] s.has s.val) (d : Int) w' ∧ Fr K.C y w') := fun y hy hw => valueIfAny_any hK (tb.below hy.below hK) hm (hx.below hy.below) [32] hw (by simp only [List.length_append, List.length_cons, List.length_nil] at hlen ⊢; omega)
  generalize endT Lib.itoa [32] s.has s.val = TE at *
  clear h hlen hx tb hm hk
  generalize (d : Int) = d0 at *
  generalize s.kind = kd at *
  go_enter Tryz.func100, Tryz.ntmps100
  go_wp2_with fail
  refine D0.out.mono ?_
  rintro ev w1 ⟨rfl, p1, q1⟩
  go_wp2_with fail
  refine (D1.out _ q1 p1).mono ?_
  rintro ev w2 ⟨rfl, p2, q2⟩
  have q2n := q1.trans q2
  go_wp2_with fail
  go_end0
  exact ⟨rfl, out_of (by simpa [List.append_assoc] using p2), q2n⟩

set_option maxHeartbeats 8000000 in
set_option maxRecDepth 20000 in
theorem stmt_11 {N : Nat} {K : Ctx} {b bx ox d : Nat} {S : Bs} {w : World} {s : St} (hx : Stx N K w bx ox s) (hk : s.kind = 11) (h : Wtr K.C b S (d : Int) w) (hlen : S.length + (stT Lib.itoa s d).length ≤ 140737488355328) :
    Calls Tryz.prog 100 #[.pointer (some ⟨b, 0, none⟩), .pointer (some ⟨bx, ox, none⟩)] w fun e w' => e = .returned (.tuple #[]) ∧ (∃ T, Out S (stT Lib.itoa s d) T ∧ Wtr K.C b T (d : Int) w') ∧ Fr K.C w w' := by
  rw [stT_11 Lib.itoa hk] at hlen ⊢
  have c0 := hx.c0
  have b1 : (s.kind == 1) = false := by rw [hk]; rfl
  have b2 : (s.kind == 2) = false := by rw [hk]; rfl
  have b3 : (s.kind == 3) = false := by rw [hk]; rfl
  have b4 : (s.kind == 4) = false := by rw [hk]; rfl
  have b5 : (s.kind == 5) = false := by rw [hk]; rfl
  have b6 : (s.kind == 6) = false := by rw [hk]; rfl
  have b7 : (s.kind == 7) = false := by rw [hk]; rfl
  have b8 : (s.kind == 8) = false := by rw [hk]; rfl
  have b9 : (s.kind == 9) = false := by rw [hk]; rfl
  have b10 : (s.kind == 10) = false := by rw [hk]; rfl
  have b11 : (s.kind == 11) = true := by rw [hk]; rfl
  obtain ⟨ps, hp, hpl⟩ := hx.pl
  have D0 : Hid (Calls Tryz.prog 47 #[.pointer (some ⟨b, 0, none⟩), .slice (some ⟨w.heap.size, 0, none⟩) 1 1] (w.alloc (.cells #[.string (str [100, 114, 111, 112, 32])] 9)) fun e w' => e = .returned (.tuple #[]) ∧ Wtr K.C b (S ++ [100, 114, 111, 112, 32]) (d : Int) w' ∧ Fr K.C w w') := put1 h [100, 114, 111, 112, 32] (by simp only [List.length_append, List.length_cons, List.length_nil] at hlen ⊢; omega)
  have D1 : Hid (∀ y, Fr K.C w y → Wtr K.C b (S ++ [100, 114, 111, 112, 32]) (d : Int) y → Calls Tryz.prog 129 #[.pointer (some ⟨b, 0, none⟩), .pointer (some ⟨bx, ox + 9, none⟩)] y fun e w' => e = .returned (.tuple #[]) ∧ Wtr K.C b (S ++ [100, 114, 111, 112, 32] ++ placeT s.place) (d : Int) w' ∧ Fr K.C y w') := fun y hy hw => place_any (hp.below hy.below) (hpl.below hy.below) hw (by simp only [List.length_append, List.length_cons, List.length_nil] at hlen ⊢; omega)
  have D2 : Hid (∀ y, Wtr K.C b (S ++ [100, 114, 111, 112, 32] ++ placeT s.place) (d : Int) y → Calls Tryz.prog 47 #[.pointer (some ⟨b, 0, none⟩), .slice (some ⟨y.heap.size, 0, none⟩) 1 1] (y.alloc (.cells #[.string (str [59])] 9)) fun e w' => e = .returned (.tuple #[]) ∧ Wtr K.C b (S ++ [100, 114, 111, 112, 32] ++ placeT s.place ++ [59]) (d : Int) w' ∧ Fr K.C y w') := fun y hw => put1 hw [59] (by simp only [List.length_append, List.length_cons, List.length_nil] at hlen ⊢; omega)
  generalize placeT s.place = TP at *
  clear h hlen hx hk hp hpl
  generalize (d : Int) = d0 at *
  generalize s.kind = kd at *
  go_enter Tryz.func100, Tryz.ntmps100
  go_wp2_with fail
  refine D0.out.mono ?_
  rintro ev w1 ⟨rfl, p1, q1⟩
  go_wp2_with fail
  refine (D1.out _ q1 p1).mono ?_
  rintro ev w2 ⟨rfl, p2, q2⟩
  have q2n := q1.trans q2
  go_wp2_with fail
  refine (D2.out _ p2).mono ?_
  rintro ev w3 ⟨rfl, p3, q3⟩
  have q3n := q2n.trans q3
  go_wp2_with fail
  go_end0
  exact ⟨rfl, out_of (by simpa [List.append_assoc] using p3), q3n⟩

set_option maxHeartbeats 8000000 in
set_option maxRecDepth 20000 in
theorem stmt_5 {N : Nat} (ih : WBlk N) {K : Ctx} (hK : 1 < K.C) {b bx ox m d : Nat} {S : Bs} {w : World} (tb : Tb w) {s : St} (hx : Stx N K w bx ox s) (hk : s.kind = 5) (hc : MayOpr s.cond) (hm : MayBlk m s.thn) (hd : d + m ≤ 65) (h : Wtr K.C b S (d : Int) w) (hlen : S.length + (stT Lib.itoa s d).length ≤ 140737488355328) :
    Calls Tryz.prog 100 #[.pointer (some ⟨b, 0, none⟩), .pointer (some ⟨bx, ox, none⟩)] w fun e w' => e = .returned (.tuple #[]) ∧ (∃ T, Out S (stT Lib.itoa s d) T ∧ Wtr K.C b T (d : Int) w') ∧ Fr K.C w w' := by
  rw [stT_5 Lib.itoa hk] at hlen ⊢
  have c0 := hx.c0
  have b1 : (s.kind == 1) = false := by rw [hk]; rfl
  have b2 : (s.kind == 2) = false := by rw [hk]; rfl
  have b3 : (s.kind == 3) = false := by rw [hk]; rfl
  have b4 : (s.kind == 4) = false := by rw [hk]; rfl
  have b5 : (s.kind == 5) = true := by rw [hk]; rfl
  have D1 := hid0 (branch_of ih hK tb hx hc hm hd [119, 104, 105, 108, 101, 32] h hlen)
  clear h hlen hx tb hm hk hc hd ih
  generalize ([119, 104, 105, 108, 101, 32] : Bs) ++ operT Lib.itoa s.cond ++ [32] ++ blkT Lib.itoa s.thn d = TL at *
  generalize (d : Int) = d0 at *
  generalize s.kind = kd at *
  go_enter Tryz.func100, Tryz.ntmps100
  go_wp2_with fail
  refine D1.out.mono ?_
  rintro ev w1 ⟨rfl, p1, q1⟩
  go_wp2_with fail
  go_end0
  exact ⟨rfl, p1, q1⟩

set_option maxHeartbeats 8000000 in
set_option maxRecDepth 20000 in
theorem stmt_7 {N : Nat} (ih : WBlk N) {K : Ctx} (hK : 1 < K.C) {b bx ox m d : Nat} {S : Bs} {w : World} (tb : Tb w) {s : St} (hx : Stx N K w bx ox s) (hk : s.kind = 7) (hm : MayBlk m s.thn) (hd : d + m ≤ 65) (h : Wtr K.C b S (d : Int) w) (hlen : S.length + (stT Lib.itoa s d).length ≤ 140737488355328) :
    Calls Tryz.prog 100 #[.pointer (some ⟨b, 0, none⟩), .pointer (some ⟨bx, ox, none⟩)] w fun e w' => e = .returned (.tuple #[]) ∧ (∃ T, Out S (stT Lib.itoa s d) T ∧ Wtr K.C b T (d : Int) w') ∧ Fr K.C w w' := by
  rw [stT_7 Lib.itoa hk] at hlen ⊢
  have c0 := hx.c0
  have b1 : (s.kind == 1) = false := by rw [hk]; rfl
  have b2 : (s.kind == 2) = false := by rw [hk]; rfl
  have b3 : (s.kind == 3) = false := by rw [hk]; rfl
  have b4 : (s.kind == 4) = false := by rw [hk]; rfl
  have b5 : (s.kind == 5) = false := by rw [hk]; rfl
  have b6 : (s.kind == 6) = false := by rw [hk]; rfl
  have b7 : (s.kind == 7) = true := by rw [hk]; rfl
  obtain ⟨ao, cap, c30, hth⟩ := hx.th
  have HX : Hid (∀ y, Fr K.C w y → y.cell? ⟨bx, ox + 30, none⟩ = some (.slice ao s.thn.length cap)) := fun y hy => (hy.below.cell (p := ⟨bx, ox + 30, none⟩) hx.bC).trans c30
  have D1 := hid0 (ih hK tb hth hm hd h hlen)
  clear h hlen hx tb hm hk hd ih HX hth
  generalize blkT Lib.itoa s.thn d = TL at *
  generalize s.thn.length = ll at *
  generalize (d : Int) = d0 at *
  generalize s.kind = kd at *
  go_enter Tryz.func100, Tryz.ntmps100
  go_wp2_with fail
  refine D1.out.mono ?_
  rintro ev w1 ⟨rfl, p1, q1⟩
  go_wp2_with fail
  go_end0
  exact ⟨rfl, p1, q1⟩

set_option maxHeartbeats 8000000 in
set_option maxRecDepth 20000 in
theorem stmt_6 {N : Nat} (ih : WBlk N) {K : Ctx} (hK : 1 < K.C) {b bx ox m d : Nat} {S : Bs} {w : World} (tb : Tb w) {s : St} (hx : Stx N K w bx ox s) (hk : s.kind = 6) (hm : MayBlk m s.thn) (hd : d + m ≤ 65) (h : Wtr K.C b S (d : Int) w) (hlen : S.length + (stT Lib.itoa s d).length ≤ 140737488355328) :
    Calls Tryz.prog 100 #[.pointer (some ⟨b, 0, none⟩), .pointer (some ⟨bx, ox, none⟩)] w fun e w' => e = .returned (.tuple #[]) ∧ (∃ T, Out S (stT Lib.itoa s d) T ∧ Wtr K.C b T (d : Int) w') ∧ Fr K.C w w' := by
  rw [stT_6 Lib.itoa hk] at hlen ⊢
  have c0 := hx.c0
  have b1 : (s.kind == 1) = false := by rw [hk]; rfl
  have b2 : (s.kind == 2) = false := by rw [hk]; rfl
  have b3 : (s.kind == 3) = false := by rw [hk]; rfl
  have b4 : (s.kind == 4) = false := by rw [hk]; rfl
  have b5 : (s.kind == 5) = false := by rw [hk]; rfl
  have b6 : (s.kind == 6) = true := by rw [hk]; rfl
  obtain ⟨ao, cap, c30, hth⟩ := hx.th
  have HX : Hid (∀ y, Fr K.C w y → y.cell? ⟨bx, ox + 30, none⟩ = some (.slice ao s.thn.length cap)) := fun y hy => (hy.below.cell (p := ⟨bx, ox + 30, none⟩) hx.bC).trans c30
  have D0 : Hid (Calls Tryz.prog 47 #[.pointer (some ⟨b, 0, none⟩), .slice (some ⟨w.heap.size, 0, none⟩) 1 1] (w.alloc (.cells #[.string (str [108, 111, 111, 112, 32])] 9)) fun e w' => e = .returned (.tuple #[]) ∧ Wtr K.C b (S ++ [108, 111, 111, 112, 32]) (d : Int) w' ∧ Fr K.C w w') := put1 h [108, 111, 111, 112, 32] (by simp only [List.length_append, List.length_cons, List.length_nil] at hlen ⊢; omega)
  have D1 : Hid (∀ y, Fr K.C w y → Wtr K.C b (S ++ [108, 111, 111, 112, 32]) (d : Int) y → Calls Tryz.prog 74 #[.pointer (some ⟨b, 0, none⟩), .slice ao s.thn.length cap] y fun e w' => e = .returned (.tuple #[]) ∧ (∃ T, Out S ([108, 111, 111, 112, 32] ++ blkT Lib.itoa s.thn d) T ∧ Wtr K.C b T (d : Int) w') ∧ Fr K.C y w') := by
    intro y hy hw
    refine (ih hK (tb.below hy.below hK) (hth.mono hy.below fun _ _ _ h => h.below hy.below) hm hd hw (by simp only [List.length_append, List.length_cons, List.length_nil] at hlen ⊢; omega)).mono ?_
    rintro _ _ ⟨rfl, ⟨T, hO, hT⟩, p2⟩
    exact ⟨rfl, ⟨T, (Out.full S _).trans hO, hT⟩, p2⟩
  clear h hlen hx tb hm hk hd ih hth c30
  generalize blkT Lib.itoa s.thn d = TL at *
  generalize s.thn.length = ll at *
  generalize (d : Int) = d0 at *
  generalize s.kind = kd at *
  go_enter Tryz.func100, Tryz.ntmps100
  go_wp2_with fail
  refine D0.out.mono ?_
  rintro ev w1 ⟨rfl, p1, q1⟩
  have x1 := HX.out _ q1
  go_wp2_with fail
  refine (D1.out _ q1 p1).mono ?_
  rintro ev w2 ⟨rfl, p2, q2⟩
  have q2n := q1.trans q2
  go_wp2_with fail
  go_end0
  exact ⟨rfl, p2, q2n⟩

set_option maxHeartbeats 8000000 in
set_option maxRecDepth 20000 in
theorem stmt_4 {N : Nat} (ih : WBlk N) {K : Ctx} (hK : 1 < K.C) {b bx ox m d : Nat} {S : Bs} {w : World} (tb : Tb w) {s : St} (hx : Stx N K w bx ox s) (hk : s.kind = 4) (hc : MayOpr s.cond) (hm : MayBlk m s.thn) (he : s.has = true → MayBlk m s.els) (hd : d + m ≤ 65) (h : Wtr K.C b S (d : Int) w) (hlen : S.length + (stT Lib.itoa s d).length ≤ 140737488355328) :
    Calls Tryz.prog 100 #[.pointer (some ⟨b, 0, none⟩), .pointer (some ⟨bx, ox, none⟩)] w fun e w' => e = .returned (.tuple #[]) ∧ (∃ T, Out S (stT Lib.itoa s d) T ∧ Wtr K.C b T (d : Int) w') ∧ Fr K.C w w' := by
  rw [stT_4 Lib.itoa hk] at hlen ⊢
  have c0 := hx.c0
  have b1 : (s.kind == 1) = false := by rw [hk]; rfl
  have b2 : (s.kind == 2) = false := by rw [hk]; rfl
  have b3 : (s.kind == 3) = false := by rw [hk]; rfl
  have b4 : (s.kind == 4) = true := by rw [hk]; rfl
  simp only [List.length_append, List.length_cons, List.length_nil] at hlen
  have D1 := hid0 (branch_of ih hK tb hx hc hm hd [105, 102, 32] h (by simp only [List.length_append, List.length_cons, List.length_nil]; omega))
  obtain ⟨ao, cap, c31, hel⟩ := hx.el
  have HX : Hid (∀ y, Fr K.C w y → y.cell? ⟨bx, ox + 8, none⟩ = some (.bool s.has) ∧ y.cell? ⟨bx, ox + 31, none⟩ = some (.slice ao s.els.length cap)) := fun y hy => ⟨(hx.below hy.below).c8, (hy.below.cell (p := ⟨bx, ox + 31, none⟩) hx.bC).trans c31⟩
  cases hh : s.has
  · rw [hh] at HX
    clear h hlen hx tb hm hk hd ih hel c31 he hc hh
    simp only [Bool.false_eq_true, if_false, List.append_nil]
    generalize ([105, 102, 32] : Bs) ++ operT Lib.itoa s.cond ++ [32] ++ blkT Lib.itoa s.thn d = TL at *
    generalize (d : Int) = d0 at *
    generalize s.kind = kd at *
    go_enter Tryz.func100, Tryz.ntmps100
    go_wp2_with fail
    refine D1.out.mono ?_
    rintro ev w1 ⟨rfl, p1, q1⟩
    obtain ⟨x1, _⟩ := HX.out _ q1
    go_wp2_with fail
    go_end0
    exact ⟨rfl, p1, q1⟩
  · rw [hh] at HX hlen
    have e4 : ([105, 102, 32] ++ operT Lib.itoa s.cond ++ [32] ++ blkT Lib.itoa s.thn d ++ (if true = true then [32, 101, 108, 115, 101, 32] ++ blkT Lib.itoa s.els d else []) : Bs) = [105, 102, 32] ++ operT Lib.itoa s.cond ++ [32] ++ blkT Lib.itoa s.thn d ++ ([32, 101, 108, 115, 101, 32] ++ blkT Lib.itoa s.els d) := by rw [if_pos rfl]
    rw [e4]
    simp only [if_true, List.length_append, List.length_cons, List.length_nil] at hlen
    have hA : ([105, 102, 32] ++ operT Lib.itoa s.cond ++ [32] ++ blkT Lib.itoa s.thn d : Bs).length = 3 + (operT Lib.itoa s.cond).length + 1 + (blkT Lib.itoa s.thn d).length := by simp only [List.length_append, List.length_cons, List.length_nil]
    have D2 : Hid (∀ y T, Out S ([105, 102, 32] ++ operT Lib.itoa s.cond ++ [32] ++ blkT Lib.itoa s.thn d) T → Wtr K.C b T (d : Int) y → Calls Tryz.prog 47 #[.pointer (some ⟨b, 0, none⟩), .slice (some ⟨y.heap.size, 0, none⟩) 1 1] (y.alloc (.cells #[.string (str [32, 101, 108, 115, 101, 32])] 9)) fun e w' => e = .returned (.tuple #[]) ∧ Wtr K.C b (T ++ [32, 101, 108, 115, 101, 32]) (d : Int) w' ∧ Fr K.C y w') := fun y T hO hw => put1 hw _ (by have := hO.len; simp only [List.length_cons, List.length_nil]; omega)
    have D3 : Hid (∀ y T, Fr K.C w y → Out S ([105, 102, 32] ++ operT Lib.itoa s.cond ++ [32] ++ blkT Lib.itoa s.thn d) T → Wtr K.C b (T ++ [32, 101, 108, 115, 101, 32]) (d : Int) y → Calls Tryz.prog 74 #[.pointer (some ⟨b, 0, none⟩), .slice ao s.els.length cap] y fun e w' => e = .returned (.tuple #[]) ∧ (∃ T, Out S ([105, 102, 32] ++ operT Lib.itoa s.cond ++ [32] ++ blkT Lib.itoa s.thn d ++ ([32, 101, 108, 115, 101, 32] ++ blkT Lib.itoa s.els d)) T ∧ Wtr K.C b T (d : Int) w') ∧ Fr K.C y w') := by
      intro y T hy hO hw
      have := hO.len
      refine (ih hK (tb.below hy.below hK) (hel.mono hy.below fun _ _ _ h => h.below hy.below) (he hh) hd hw (by simp only [List.length_append, List.length_cons, List.length_nil]; omega)).mono ?_
      rintro _ _ ⟨rfl, ⟨U, hU, hT⟩, p2⟩
      exact ⟨rfl, ⟨U, hO.trans ((Out.full T _).trans hU), hT⟩, p2⟩
    clear h hlen hx tb hm hk hd ih hel c31 he hc hh e4 hA
    generalize ([105, 102, 32] : Bs) ++ operT Lib.itoa s.cond ++ [32] ++ blkT Lib.itoa s.thn d = TL at *
    generalize blkT Lib.itoa s.els d = TE at *
    generalize (d : Int) = d0 at *
    generalize s.kind = kd at *
    generalize s.els.length = ll at *
    go_enter Tryz.func100, Tryz.ntmps100
    go_wp2_with fail
    refine D1.out.mono ?_
    rintro ev w1 ⟨rfl, ⟨T, hO, p1⟩, q1⟩
    obtain ⟨x1, _⟩ := HX.out _ q1
    go_wp2_with fail
    refine (D2.out _ T hO p1).mono ?_
    rintro ev w2 ⟨rfl, p2, q2⟩
    have q2n := q1.trans q2
    obtain ⟨_, x2⟩ := HX.out _ q2n
    go_wp2_with fail
    refine (D3.out _ T q2n hO p2).mono ?_
    rintro ev w3 ⟨rfl, p3, q3⟩
    go_wp2_with fail
    go_end0
    exact ⟨rfl, p3, q2n.trans q3⟩

theorem stmt_zero : WStm 0 := by
  intro K hK b bx ox d m S w tb cs s hx
  exact hx.elim
theorem stmt_of {N : Nat} (ih : WBlk N) : WStm (N + 1) := by
  intro K hK b bx ox d m S w tb cs s hx hl hs hd h hlen
  have hy := hx.at hl
  rcases hs with ⟨k, -, -, h3, -⟩ | ⟨k, -, h2, -⟩ | ⟨k, h1, -⟩ | ⟨k, h1, h2, h3, -⟩ | ⟨k, h1, h2, -⟩ | ⟨k, h1, -⟩ | ⟨k, -⟩ | ⟨k, h1, -⟩ | ⟨k, -, -⟩
  · exact stmt_1 hK tb hy k h3 h hlen
  · exact stmt_2 hK tb hy k h2 h hlen
  · exact stmt_3 hK tb hy k h1.2 h hlen
  · exact stmt_4 ih hK tb hy k h2 h3 h1 hd h hlen
  · exact stmt_5 ih hK tb hy k h1 h2 hd h hlen
  · rcases k with k | k
    · exact stmt_6 ih hK tb hy k h1 hd h hlen
    · exact stmt_7 ih hK tb hy k h1 hd h hlen
  · rcases k with k | k
    · exact stmt_8 hy k h hlen
    · exact stmt_9 hy k h hlen
  · exact stmt_10 hK tb hy k h1 h hlen
  · exact stmt_11 hy k h hlen
theorem stmt_all : ∀ N, WStm N
  | 0 => stmt_zero
  | N + 1 => stmt_of (block_of (stmt_all N))
theorem block_all (N : Nat) : WBlk N := block_of (stmt_all N)
end Go.Proofs.YtlbhaaldndjigaaGreatDoor
