/-
  The texts of trees, as chapter 9 says them.
-/
import Derived.Test.YtlbhaaldndjigaaGreatDoorJMat4
namespace Go.Proofs.YtlbhaaldndjigaaGreatDoor
open Go.RowKit

/-- Texts one behind the other, sep between. -/
def jn (sep : Bs) (l : List Bs) : Bs := (l.mapIdx fun i x => (if i = 0 then [] else sep) ++ x).flatten
theorem jn_nil (sep : Bs) : jn sep [] = [] := rfl
theorem jn_take (sep : Bs) (l : List Bs) (k : Nat) (h : k < l.length) : jn sep (l.take (k + 1)) = jn sep (l.take k) ++ ((if k = 0 then [] else sep) ++ l[k]) := by
  rw [List.take_add_one, List.getElem?_eq_getElem h]
  unfold jn
  rw [Option.toList_some, List.mapIdx_append]
  simp [List.length_take, Nat.min_eq_left (Nat.le_of_lt h)]
theorem jn_full (sep : Bs) (l : List Bs) (k : Nat) (h : ¬ k < l.length) : jn sep (l.take k) = jn sep l := by
  rw [List.take_of_length_le (by omega)]
theorem jn_le (sep : Bs) (l : List Bs) (k : Nat) : (jn sep (l.take k)).length ≤ (jn sep l).length := by
  conv => rhs; rw [← List.take_append_drop k l]
  unfold jn
  rw [List.mapIdx_append, List.flatten_append, List.length_append]
  omega
theorem jn_empty (sep : Bs) (l : List Bs) (h : ∀ x ∈ l, x ≠ []) : jn sep l = [] ↔ l = [] := by
  constructor
  · intro e
    cases l with
    | nil => rfl
    | cons a l =>
      have : a ≠ [] := h a (by simp)
      unfold jn at e
      rw [List.mapIdx_cons, List.flatten_cons] at e
      simp at e
      exact absurd e.1 this
  · rintro rfl; rfl
theorem jn_len (sep : Bs) (l : List Bs) (b : Nat) (h : ∀ x ∈ l, x.length ≤ b) : (jn sep l).length ≤ l.length * (sep.length + b) := by
  have key : ∀ k, k ≤ l.length → (jn sep (l.take k)).length ≤ k * (sep.length + b) := by
    intro k
    induction k with
    | zero => intro _; simp [jn]
    | succ k ih =>
      intro hk
      rw [jn_take sep l k (by omega), List.length_append, List.length_append, Nat.succ_mul]
      have h1 := ih (by omega)
      have h2 := h l[k] (List.getElem_mem _)
      have h3 : (if k = 0 then ([] : Bs) else sep).length ≤ sep.length := by split <;> simp
      omega
  have := key l.length (Nat.le_refl _)
  rwa [List.take_length] at this

def angT (l : List Bs) : Bs := if l = [] then [] else [60] ++ jn [44, 32] l ++ [62]
def lifT (x : Bs) : Bs := [39] ++ x
def markT (l : List Bs) : Bs := angT (l.map lifT)
def liveT : List Bs → Bs
  | [] => []
  | a :: _ => [39] ++ a ++ [32]
/-- 9.2: a type. -/
def tyT : Ty → Bs
  | ⟨k, nm, lv, el⟩ => if k = 1 then [105, 110, 116] else if k = 2 then [98, 111, 111, 108] else if k = 3 then nm ++ markT lv
    else if k = 4 ∨ k = 5 then (match el with | [] => [] | e :: _ => [38] ++ liveT lv ++ (if k = 5 then [109, 117, 116, 32] else []) ++ tyT e) else []
theorem tyT_int {t : Ty} (h : t.kind = 1) : tyT t = [105, 110, 116] := by
  obtain ⟨k, nm, lv, el⟩ := t; simp only at h; subst h; unfold tyT; rw [if_pos rfl]
theorem tyT_bool {t : Ty} (h : t.kind = 2) : tyT t = [98, 111, 111, 108] := by
  obtain ⟨k, nm, lv, el⟩ := t; simp only at h; subst h; unfold tyT; rw [if_neg (by decide), if_pos rfl]
theorem tyT_sct {t : Ty} (h : t.kind = 3) : tyT t = t.name ++ markT t.lives := by
  obtain ⟨k, nm, lv, el⟩ := t; simp only at h; subst h; unfold tyT; rw [if_neg (by decide), if_neg (by decide), if_pos rfl]
theorem tyT_ref {t : Ty} (h : t.kind = 4 ∨ t.kind = 5) (hl : 0 < t.elem.length) : tyT t = ([38] : Bs) ++ liveT t.lives ++ (if t.kind = 5 then ([109, 117, 116, 32] : Bs) else []) ++ tyT t.elem[0] := by
  obtain ⟨k, nm, lv, el⟩ := t
  simp only at h hl
  cases el with
  | nil => simp at hl
  | cons e r => conv => lhs; unfold tyT
                rw [if_neg (by omega), if_neg (by omega), if_neg (by omega), if_pos h]; rfl
theorem tyT_none {t : Ty} (h : t.kind = 4 ∨ t.kind = 5) (hl : t.elem.length = 0) : tyT t = [] := by
  obtain ⟨k, nm, lv, el⟩ := t
  simp only at h hl
  cases el with
  | nil => unfold tyT; rw [if_neg (by omega), if_neg (by omega), if_neg (by omega), if_pos h]
  | cons e r => simp at hl
theorem tyT_else {t : Ty} (h1 : t.kind ≠ 1) (h2 : t.kind ≠ 2) (h3 : t.kind ≠ 3) (h4 : t.kind ≠ 4) (h5 : t.kind ≠ 5) : tyT t = [] := by
  obtain ⟨k, nm, lv, el⟩ := t
  unfold tyT
  rw [if_neg h1, if_neg h2, if_neg h3, if_neg (by simp only at h4 h5; omega)]

def mutT (b : Bool) : Bs := if b then [109, 117, 116, 32] else []
def pubT (b : Bool) : Bs := if b then [112, 117, 98, 32] else []
def fldT (x : Fld) : Bs := mutT x.mu ++ (x.name ++ [58, 32] ++ tyT x.ty)
theorem fldT_ne (x : Fld) : fldT x ≠ [] := by unfold fldT; simp
def overT (l : List Bs) : Bs := if l = [] then [] else [58, 32] ++ jn [32, 43, 32] (l.map lifT)
def lfeT (x : Lfe) : Bs := lifT x.name ++ overT x.over
def resT (t : Ty) : Bs := if t.kind = 0 then [] else [32, 45, 62, 32] ++ tyT t
/-- 9.2: a function's head. -/
def headT (f : Fnc) : Bs := pubT f.pub ++ ([102, 110, 32] ++ f.name) ++ angT (f.lives.map lfeT) ++ ([40] ++ jn [44, 32] (f.params.map fldT) ++ [41]) ++ resT f.result

def stepsT (l : List Bs) : Bs := l.flatMap fun x => [46] ++ x
def placeT (p : Pl) : Bs := p.name ++ stepsT p.path
theorem stepsT_take (l : List Bs) (k : Nat) (h : k < l.length) : stepsT (l.take (k + 1)) = stepsT (l.take k) ++ ([46] ++ l[k]) := by
  unfold stepsT
  rw [List.take_add_one, List.getElem?_eq_getElem h, List.flatMap_append]
  simp
/-- A number's digits. -/
def digT : Nat → Nat → Bs
  | 0, _ => []
  | f + 1, n => (if n < 10 then [] else digT f (n / 10)) ++ [UInt8.ofNat (48 + n % 10)]
def boolT (n : Int) : Bs := if n = 1 then [116, 114, 117, 101] else [102, 97, 108, 115, 101]
def operT (it : Int → Bs) (o : Opr) : Bs := if o.kind = 1 then it o.n else if o.kind = 2 then boolT o.n else placeT o.place
def signT (op : Int) : Bs := if op = 1 then [43] else if op = 2 then [45] else if op = 3 then [60] else [61, 61]
def valT (it : Int → Bs) (v : Va) : Bs :=
  if v.kind = 1 then operT it v.a else if v.kind = 2 then [38] ++ placeT v.place else if v.kind = 3 then [38, 109, 117, 116, 32] ++ placeT v.place
  else if v.kind = 4 then [33] ++ operT it v.a else if v.kind = 5 then operT it v.a ++ ([32] ++ signT v.op ++ [32]) ++ operT it v.b
  else if v.kind = 6 then v.name ++ ([40] ++ jn [44, 32] (v.args.map (operT it)) ++ [41])
  else v.name ++ [32] ++ ([123, 32] ++ jn [44, 32] (List.zipWith (fun a b => a ++ [58, 32] ++ operT it b) v.names v.args) ++ (if v.names = [] then [] else [32]) ++ [125])
def tabsT (d : Nat) : Bs := List.replicate d 9
def nlT (d : Nat) : Bs := [10] ++ tabsT d
def endT (it : Int → Bs) (before : Bs) (has : Bool) (v : Va) : Bs := (if has then before ++ valT it v else []) ++ [59]
def stsT (it : Int → Bs) : List St → Nat → Bs
  | [], _ => []
  | ⟨k, _, mu, nm, ty, has, pl, va, co, thn, els⟩ :: l, d =>
    (nlT (d + 1) ++ (if k = 1 then [108, 101, 116, 32] ++ mutT mu ++ (nm ++ [58, 32]) ++ tyT ty ++ endT it [32, 61, 32] has va
    else if k = 2 then placeT pl ++ [32, 61, 32] ++ (valT it va ++ [59])
    else if k = 3 then valT it va ++ [59]
    else if k = 4 then ([105, 102, 32] ++ operT it co ++ [32] ++ ([123] ++ stsT it thn (d + 1) ++ nlT (d + 1) ++ [125])) ++ (if has then [32, 101, 108, 115, 101, 32] ++ ([123] ++ stsT it els (d + 1) ++ nlT (d + 1) ++ [125]) else [])
    else if k = 5 then [119, 104, 105, 108, 101, 32] ++ operT it co ++ [32] ++ ([123] ++ stsT it thn (d + 1) ++ nlT (d + 1) ++ [125])
    else if k = 6 then [108, 111, 111, 112, 32] ++ ([123] ++ stsT it thn (d + 1) ++ nlT (d + 1) ++ [125])
    else if k = 7 then [123] ++ stsT it thn (d + 1) ++ nlT (d + 1) ++ [125]
    else if k = 8 then [98, 114, 101, 97, 107, 59]
    else if k = 9 then [99, 111, 110, 116, 105, 110, 117, 101, 59]
    else if k = 10 then [114, 101, 116, 117, 114, 110] ++ endT it [32] has va
    else [100, 114, 111, 112, 32] ++ placeT pl ++ [59])) ++ stsT it l d
def stT (it : Int → Bs) (s : St) (d : Nat) : Bs :=
    if s.kind = 1 then [108, 101, 116, 32] ++ mutT s.mu ++ (s.name ++ [58, 32]) ++ tyT s.ty ++ endT it [32, 61, 32] s.has s.val
    else if s.kind = 2 then placeT s.place ++ [32, 61, 32] ++ (valT it s.val ++ [59])
    else if s.kind = 3 then valT it s.val ++ [59]
    else if s.kind = 4 then ([105, 102, 32] ++ operT it s.cond ++ [32] ++ ([123] ++ stsT it s.thn d ++ nlT d ++ [125])) ++ (if s.has then [32, 101, 108, 115, 101, 32] ++ ([123] ++ stsT it s.els d ++ nlT d ++ [125]) else [])
    else if s.kind = 5 then [119, 104, 105, 108, 101, 32] ++ operT it s.cond ++ [32] ++ ([123] ++ stsT it s.thn d ++ nlT d ++ [125])
    else if s.kind = 6 then [108, 111, 111, 112, 32] ++ ([123] ++ stsT it s.thn d ++ nlT d ++ [125])
    else if s.kind = 7 then [123] ++ stsT it s.thn d ++ nlT d ++ [125]
    else if s.kind = 8 then [98, 114, 101, 97, 107, 59]
    else if s.kind = 9 then [99, 111, 110, 116, 105, 110, 117, 101, 59]
    else if s.kind = 10 then [114, 101, 116, 117, 114, 110] ++ endT it [32] s.has s.val
    else [100, 114, 111, 112, 32] ++ placeT s.place ++ [59]
theorem stsT_nil (it : Int → Bs) (d : Nat) : stsT it [] d = [] := by rw [stsT]
theorem stsT_cons (it : Int → Bs) (s : St) (l : List St) (d : Nat) : stsT it (s :: l) d = (nlT (d + 1) ++ stT it s (d + 1)) ++ stsT it l d := by
  cases s
  rw [stsT]
  rfl
def blkT (it : Int → Bs) (l : List St) (d : Nat) : Bs := [123] ++ stsT it l d ++ nlT d ++ [125]
theorem stsT_flat (it : Int → Bs) (d : Nat) : ∀ l : List St, stsT it l d = l.flatMap fun s => nlT (d + 1) ++ stT it s (d + 1)
  | [] => by rw [stsT_nil]; rfl
  | s :: l => by rw [stsT_cons, List.flatMap_cons, stsT_flat it d l]
theorem stT_1 (it : Int → Bs) {s : St} (h : s.kind = 1) (d : Nat) : stT it s d = ([108, 101, 116, 32] : Bs) ++ mutT s.mu ++ (s.name ++ [58, 32]) ++ tyT s.ty ++ endT it [32, 61, 32] s.has s.val := by
  unfold stT; rw [if_pos h]
theorem stT_2 (it : Int → Bs) {s : St} (h : s.kind = 2) (d : Nat) : stT it s d = placeT s.place ++ [32, 61, 32] ++ (valT it s.val ++ [59]) := by
  unfold stT; rw [if_neg (by omega), if_pos h]
theorem stT_3 (it : Int → Bs) {s : St} (h : s.kind = 3) (d : Nat) : stT it s d = valT it s.val ++ [59] := by
  unfold stT; rw [if_neg (by omega), if_neg (by omega), if_pos h]
theorem stT_4 (it : Int → Bs) {s : St} (h : s.kind = 4) (d : Nat) : stT it s d = ([105, 102, 32] ++ operT it s.cond ++ [32] ++ blkT it s.thn d) ++ (if s.has then [32, 101, 108, 115, 101, 32] ++ blkT it s.els d else []) := by
  unfold stT; rw [if_neg (by omega), if_neg (by omega), if_neg (by omega), if_pos h]; rfl
theorem stT_5 (it : Int → Bs) {s : St} (h : s.kind = 5) (d : Nat) : stT it s d = ([119, 104, 105, 108, 101, 32] : Bs) ++ operT it s.cond ++ [32] ++ blkT it s.thn d := by
  unfold stT; rw [if_neg (by omega), if_neg (by omega), if_neg (by omega), if_neg (by omega), if_pos h]; rfl
theorem stT_6 (it : Int → Bs) {s : St} (h : s.kind = 6) (d : Nat) : stT it s d = ([108, 111, 111, 112, 32] : Bs) ++ blkT it s.thn d := by
  unfold stT; rw [if_neg (by omega), if_neg (by omega), if_neg (by omega), if_neg (by omega), if_neg (by omega), if_pos h]; rfl
theorem stT_7 (it : Int → Bs) {s : St} (h : s.kind = 7) (d : Nat) : stT it s d = blkT it s.thn d := by
  unfold stT; rw [if_neg (by omega), if_neg (by omega), if_neg (by omega), if_neg (by omega), if_neg (by omega), if_neg (by omega), if_pos h]; rfl
theorem stT_8 (it : Int → Bs) {s : St} (h : s.kind = 8) (d : Nat) : stT it s d = [98, 114, 101, 97, 107, 59] := by
  unfold stT; rw [if_neg (by omega), if_neg (by omega), if_neg (by omega), if_neg (by omega), if_neg (by omega), if_neg (by omega), if_neg (by omega), if_pos h]
theorem stT_9 (it : Int → Bs) {s : St} (h : s.kind = 9) (d : Nat) : stT it s d = [99, 111, 110, 116, 105, 110, 117, 101, 59] := by
  unfold stT; rw [if_neg (by omega), if_neg (by omega), if_neg (by omega), if_neg (by omega), if_neg (by omega), if_neg (by omega), if_neg (by omega), if_neg (by omega), if_pos h]
theorem stT_10 (it : Int → Bs) {s : St} (h : s.kind = 10) (d : Nat) : stT it s d = ([114, 101, 116, 117, 114, 110] : Bs) ++ endT it [32] s.has s.val := by
  unfold stT; rw [if_neg (by omega), if_neg (by omega), if_neg (by omega), if_neg (by omega), if_neg (by omega), if_neg (by omega), if_neg (by omega), if_neg (by omega), if_neg (by omega), if_pos h]
theorem stT_11 (it : Int → Bs) {s : St} (h : s.kind = 11) (d : Nat) : stT it s d = ([100, 114, 111, 112, 32] : Bs) ++ placeT s.place ++ [59] := by
  unfold stT; rw [if_neg (by omega), if_neg (by omega), if_neg (by omega), if_neg (by omega), if_neg (by omega), if_neg (by omega), if_neg (by omega), if_neg (by omega), if_neg (by omega), if_neg (by omega)]
def fncT (it : Int → Bs) (f : Fnc) : Bs := headT f ++ [32] ++ blkT it f.body 0
def bracT (l : List Bs) : Bs := [123, 32] ++ jn [44, 32] l ++ (if l = [] then [] else [32]) ++ [125]
def sctT (x : Sct) : Bs := pubT x.pub ++ ([115, 116, 114, 117, 99, 116, 32] ++ x.name) ++ markT x.lives ++ [32] ++ bracT (x.fields.map fldT)
def crtT (it : Int → Bs) (c : Crt) : Bs := (c.structs.flatMap fun s => sctT s ++ [10]) ++ (c.funcs.flatMap fun f => fncT it f ++ [10])

/-- Of a text that is full behind S what is written: all, or too much. -/
def Out (S F T : Bs) : Prop := T = S ++ F ∨ (1048576 < T.length ∧ 1048576 < (S ++ F).length ∧ T.length ≤ (S ++ F).length)
theorem Out.full (S F : Bs) : Out S F (S ++ F) := .inl rfl
theorem Out.nil (S : Bs) : Out S [] S := .inl (by simp)
theorem Out.len {S F T : Bs} (h : Out S F T) : T.length ≤ S.length + F.length := by
  rcases h with rfl | ⟨_, _, h⟩
  · simp
  · simpa using h
theorem Out.trans {S F T G U : Bs} (h : Out S F T) (k : Out T G U) : Out S (F ++ G) U := by
  rcases h with rfl | ⟨h1, h2, h3⟩
  · rcases k with rfl | ⟨k1, k2, k3⟩
    · exact .inl (by simp)
    · exact .inr ⟨k1, by simpa using k2, by simpa using k3⟩
  · simp only [List.length_append] at h2 h3
    rcases k with rfl | ⟨k1, k2, k3⟩
    · refine .inr ⟨?_, ?_, ?_⟩ <;> simp only [List.length_append] <;> omega
    · simp only [List.length_append] at k2 k3
      refine .inr ⟨k1, ?_, ?_⟩ <;> simp only [List.length_append] <;> omega
theorem Out.put {S F T : Bs} (h : Out S F T) (x : Bs) : Out S (F ++ x) (T ++ x) := h.trans (Out.full T x)
/-- What is left out when it is too much already. -/
theorem Out.stop {S F T : Bs} (h : Out S F T) (ht : 1048576 < T.length) (G : Bs) : Out S (F ++ G) T := by
  rcases h with rfl | ⟨h1, h2, h3⟩
  · refine .inr ⟨ht, ?_, ?_⟩ <;> simp only [List.length_append] at * <;> omega
  · refine .inr ⟨ht, ?_, ?_⟩ <;> simp only [List.length_append] at * <;> omega
theorem Out.whole {F T : Bs} (h : Out [] F T) : if F.length ≤ 1048576 then T = F else 1048576 < T.length := by
  rcases h with rfl | ⟨h1, h2, h3⟩
  · split
    · simp
    · simp at *; omega
  · rw [if_neg (by simp at h2; omega)]; exact h1
end Go.Proofs.YtlbhaaldndjigaaGreatDoor
