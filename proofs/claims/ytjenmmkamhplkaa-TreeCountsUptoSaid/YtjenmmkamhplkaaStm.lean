/-
  Statements: may one be? The program says it, whatever its kind; blocks, however deep.
-/
import Derived.Test.YtjenmmkamhplkaaSt2
import Derived.Test.YtjenmmkamhplkaaSt5
import Derived.Test.YtjenmmkamhplkaaSt8
import Derived.Test.YtjenmmkamhplkaaSt1
import Derived.Test.YtjenmmkamhplkaaSt4
import Derived.Test.YtjenmmkamhplkaaSt0
namespace Go.Proofs.Ytjenmmkamhplkaa
open Go.RowKit

set_option maxHeartbeats 8000000 in
set_option maxRecDepth 20000 in
theorem mayStm_no {n m : Nat} {K : Ctx} {w : World} {gb L : Nat} (hb : Bod K gb L w) {x : St} {pa pb pp pn pv t2 t3 lp qp tp ep : Option Addr} {na nb np ca cb cp cn cv m2 d2 m3 d3 ln lc qn qc tc ec : Nat} (k0 : ¬ (1 ≤ x.kind ∧ x.kind ≤ 11)) (B : Bool) (hB : B = true ↔ StOk (MayBlk m) x ∧ inner (n + 1) x ≤ L) :
    Calls Try.prog 55 #[.pointer (some ⟨gb, 0, none⟩), .agg #[.int .i64 x.kind, .int .i64 x.pos, .bool x.mu, .string (str x.name), .int .i64 x.ty.kind, .string (str x.ty.name), .slice t2 m2 d2, .slice t3 m3 d3, .bool x.has, .string (str x.place.name), .slice lp ln lc, .int .i64 x.val.kind, .int .i64 x.val.a.kind, .int .i64 x.val.a.n, .string (str x.val.a.place.name), .slice pa na ca, .int .i64 x.val.b.kind, .int .i64 x.val.b.n, .string (str x.val.b.place.name), .slice pb nb cb, .int .i64 x.val.op, .string (str x.val.place.name), .slice pp np cp, .string (str x.val.name), .slice pn x.val.names.length cn, .slice pv x.val.args.length cv, .int .i64 x.cond.kind, .int .i64 x.cond.n, .string (str x.cond.place.name), .slice qp qn qc, .slice tp x.thn.length tc, .slice ep x.els.length ec], .int .i64 (64 - (m : Int))] w fun ev y' => ev = .returned (.bool B) ∧ Stay (fun k => k = gb) w y' ∧ Spent gb B L (inner (n + 1) x) y' := by
  obtain rfl := bool_false hB (fun h => ok_none k0 h.1)
  have HS : Hid (Sm K w gb m L [.int .i64 x.kind, .int .i64 x.pos, .bool x.mu, .string (str x.name), .int .i64 x.ty.kind, .string (str x.ty.name), .slice t2 m2 d2, .slice t3 m3 d3, .bool x.has, .string (str x.place.name), .slice lp ln lc, .int .i64 x.val.kind, .int .i64 x.val.a.kind, .int .i64 x.val.a.n, .string (str x.val.a.place.name), .slice pa na ca, .int .i64 x.val.b.kind, .int .i64 x.val.b.n, .string (str x.val.b.place.name), .slice pb nb cb, .int .i64 x.val.op, .string (str x.val.place.name), .slice pp np cp, .string (str x.val.name), .slice pn x.val.names.length cn, .slice pv x.val.args.length cv, .int .i64 x.cond.kind, .int .i64 x.cond.n, .string (str x.cond.place.name), .slice qp qn qc, .slice tp x.thn.length tc, .slice ep x.els.length ec] (((w.alloc (.cells #[.pointer (some ⟨gb, 0, none⟩)] 94)).alloc (.cells #[.int .i64 x.kind, .int .i64 x.pos, .bool x.mu, .string (str x.name), .int .i64 x.ty.kind, .string (str x.ty.name), .slice t2 m2 d2, .slice t3 m3 d3, .bool x.has, .string (str x.place.name), .slice lp ln lc, .int .i64 x.val.kind, .int .i64 x.val.a.kind, .int .i64 x.val.a.n, .string (str x.val.a.place.name), .slice pa na ca, .int .i64 x.val.b.kind, .int .i64 x.val.b.n, .string (str x.val.b.place.name), .slice pb nb cb, .int .i64 x.val.op, .string (str x.val.place.name), .slice pp np cp, .string (str x.val.name), .slice pn x.val.names.length cn, .slice pv x.val.args.length cv, .int .i64 x.cond.kind, .int .i64 x.cond.n, .string (str x.cond.place.name), .slice qp qn qc, .slice tp x.thn.length tc, .slice ep x.els.length ec] 50)).alloc (.cells #[.int .i64 (64 - (m : Int))] 3))) := Sm.first _ hb
  have hmf : ∀ (fn : Fn) (first cap : Array Value) (w : World), (Instr.makeFunc fn first cap).run Try.prog w = .ok (.func fn first cap) w := fun _ _ _ _ => rfl
  have s1 : (x.kind == 1) = false := by simp; omega
  have s2 : (x.kind == 2) = false := by simp; omega
  have s3 : (x.kind == 3) = false := by simp; omega
  have s4 : (x.kind == 4) = false := by simp; omega
  have s5 : (x.kind == 5) = false := by simp; omega
  have s6 : (x.kind == 6) = false := by simp; omega
  have s7 : (x.kind == 7) = false := by simp; omega
  have s8 : (x.kind == 8) = false := by simp; omega
  have s9 : (x.kind == 9) = false := by simp; omega
  have s10 : (x.kind == 10) = false := by simp; omega
  have s11 : (x.kind == 11) = false := by simp; omega
  generalize inner (n + 1) x = ii at *
  clear hB k0 hb
  generalize x.kind = kd at *
  generalize x.pos = ps at *
  generalize x.mu = mu at *
  generalize str x.name = nm1 at *
  generalize x.ty.kind = tk at *
  generalize str x.ty.name = tn1 at *
  generalize x.has = hs at *
  generalize str x.place.name = pl1 at *
  generalize x.val.kind = vk at *
  generalize x.val.a.kind = ak at *
  generalize x.val.a.n = an at *
  generalize str x.val.a.place.name = as1 at *
  generalize x.val.b.kind = bk at *
  generalize x.val.b.n = bn at *
  generalize str x.val.b.place.name = bs1 at *
  generalize x.val.op = vo at *
  generalize str x.val.place.name = vp1 at *
  generalize str x.val.name = vn1 at *
  generalize x.val.names.length = vl1 at *
  generalize x.val.args.length = vl2 at *
  generalize x.cond.kind = ck at *
  generalize x.cond.n = cn2 at *
  generalize str x.cond.place.name = cs1 at *
  generalize x.thn.length = th1 at *
  generalize x.els.length = el1 at *
  go_enter Try.func55, Try.ntmps55
  go_wp2_with fail
  go_ret
  exact ⟨rfl, HS.out.stay, L, HS.out.bod.row, HS.out.bod.most, fun h => by cases h⟩
theorem stm_of {n m : Nat} (hm : m ≤ 64) (ih : BlkC n m) : StmC (n + 1) m := by
  intro K w gb L cs x hb hs B hB
  obtain ⟨ts, ps, vs, os, vt, ve, rfl, hl, hty, hpl, hvl, hcd, hth, hel⟩ := hs
  obtain ⟨t2, m2, d2, t3, m3, d3, rfl⟩ := hty.open
  obtain ⟨lp, ln, lc, rfl⟩ := hpl.open
  obtain ⟨pa, pb, pp, pn, pv, na, nb, np, ca, cb, cp, cn, cv, rfl, _⟩ := hvl.open
  obtain ⟨qp, qn, qc, rfl⟩ := hcd.open
  obtain ⟨tp, tc, rfl⟩ := hth.form
  obtain ⟨ep, ec, rfl⟩ := hel.form
  by_cases k1 : x.kind = 1
  · by_cases kh : x.has = true
    · exact mayStm_1t hm ih hb hty hpl hvl hcd hl hth hel k1 kh B hB
    · exact mayStm_1f hm ih hb hty hpl hvl hcd hl hth hel k1 (Bool.eq_false_iff.2 kh) B hB
  by_cases k2 : x.kind = 2
  · exact mayStm_2 hm ih hb hty hpl hvl hcd hl hth hel k2 B hB
  by_cases k3 : x.kind = 3
  · exact mayStm_3 hm ih hb hty hpl hvl hcd hl hth hel k3 B hB
  by_cases k4 : x.kind = 4
  · by_cases kh : x.has = true
    · exact mayStm_4t hm ih hb hty hpl hvl hcd hl hth hel k4 kh B hB
    · exact mayStm_4f hm ih hb hty hpl hvl hcd hl hth hel k4 (Bool.eq_false_iff.2 kh) B hB
  by_cases k5 : x.kind = 5
  · exact mayStm_5 hm ih hb hty hpl hvl hcd hl hth hel k5 B hB
  by_cases k6 : x.kind = 6
  · exact mayStm_6 hm ih hb hty hpl hvl hcd hl hth hel k6 B hB
  by_cases k7 : x.kind = 7
  · exact mayStm_7 hm ih hb hty hpl hvl hcd hl hth hel k7 B hB
  by_cases k8 : x.kind = 8
  · exact mayStm_8 hm ih hb hty hpl hvl hcd hl hth hel k8 B hB
  by_cases k9 : x.kind = 9
  · exact mayStm_9 hm ih hb hty hpl hvl hcd hl hth hel k9 B hB
  by_cases k10 : x.kind = 10
  · by_cases kh : x.has = true
    · exact mayStm_10t hm ih hb hty hpl hvl hcd hl hth hel k10 kh B hB
    · exact mayStm_10f hm ih hb hty hpl hvl hcd hl hth hel k10 (Bool.eq_false_iff.2 kh) B hB
  by_cases k11 : x.kind = 11
  · exact mayStm_11 hm ih hb hty hpl hvl hcd hl hth hel k11 B hB
  exact mayStm_no hb (by omega) B hB
theorem stm_all : ∀ (n m : Nat), m ≤ 64 → StmC n m
  | 0, _, _ => fun _ hs _ _ => hs.elim
  | n + 1, m, hm => stm_of hm (blk_of (fun m hm => stm_all n m hm) m hm)
/-- A function's body: the document's count and depth. -/
theorem body_any {n : Nat} {K : Ctx} {y : World} {gb L : Nat} {v : Value} {l : List St} (hb : Bod K gb L y) (ha : Ar 32 496 (StAt n K y) K y v l) (B : Bool) (hB : B = true ↔ MayBlk 64 l ∧ cnt n l ≤ L) :
    Calls Try.prog 37 #[.pointer (some ⟨gb, 0, none⟩), v, .int .i64 1] y fun ev y' => ev = .returned (.bool B) ∧ Stay (fun k => k = gb) y y' := by
  have h := blk_of (fun m hm => stm_all n m hm) 64 (by omega) hb ha B hB
  refine Calls.mono h fun _ _ h => ⟨h.1, h.2.1⟩
end Go.Proofs.Ytjenmmkamhplkaa
