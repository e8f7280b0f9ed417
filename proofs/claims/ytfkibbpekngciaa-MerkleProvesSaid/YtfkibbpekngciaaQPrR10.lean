/-
  The region of told in which all is held against what the document says.
-/
import Derived.Test.YtfkibbpekngciaaQPrPrv
import Derived.Test.YtfkibbpekngciaaQPrXcm
namespace Go.Proofs.Ytfkibbpekngciaa
open Go.RowKit

theorem no_panic' {c} (h : Exit.panic c = Exit.normal) : False := by cases h
/-- Ways that meet again. -/
theorem join {ι : Type} {P : Program} {md : Region.Mode} {ops : Array Oper} {Q : Exit → Act → World → Prop} {S : World → Prop} {fuel fuel' : Nat} {listed listed' : Array Bool} {a : Act} {w : World} (Fr : ι → Act) (fact : ι → World → Prop)
    (hrest : ∀ x y, fact x y → wpAnyH P md ops Q S fuel' listed' (Fr x) y) (hway : (∀ x y, fact x y → wpAnyH P md ops Q S fuel' listed' (Fr x) y) → wpAnyH P md ops Q S fuel listed a w) : wpAnyH P md ops Q S fuel listed a w := hway hrest
theorem listed_eq {P : Program} {md : Region.Mode} {ops : Array Oper} {Q : Exit → Act → World → Prop} {S : World → Prop} {fuel : Nat} {listed listed' : Array Bool} {a : Act} {w : World} (h : listed' = listed) (hw : wpAnyH P md ops Q S fuel listed' a w) : wpAnyH P md ops Q S fuel listed a w := h ▸ hw
theorem new5 (w : World) (l : Bys) (cs : Array Value) (hc : cs.toList = bys l) : ∃ (y : World) (g : Nat), y = w.alloc (.cells cs 5) ∧ g = w.heap.size ∧ Below w.heap.size w y ∧ Row y g 5 (bys l) := by
  obtain rfl : cs = (bys l).toArray := by rw [← hc]
  exact ⟨_, _, rfl, rfl, (Below.refl _ _).alloc (Nat.le_refl _) _, Row.new w 5 (bys l)⟩
/-- A constant's bytes, as a slice: its row is marked. -/
theorem wpo_conv39 {o : Oper} {a : Act} {K : Act → World → Prop} {Q : Exit → Act → World → Prop} {w : World} (x : Operand) (ho : o.op = .convert 39 39 x) (w0 : World) (g B : Nat) (l : Bys) (hx : a.eval x = .slice (some ⟨g, 0, none⟩) l.length l.length) (hr : Row w g 5 (bys l)) (hb : Below B w0 w) (hB : B ≤ g)
    (k : ∀ w', Sl w' (.slice (some ⟨g, 0, none⟩) l.length l.length) l → Below B w0 w' → w.grownBy w' (some g) → K (a.put o.dst (.slice (some ⟨g, 0, none⟩) l.length l.length)) w') : Oper.wp Try.prog o a w K Q := by
  have hsh : w.shape? g = some (5, (bys l).length) := by
    unfold World.shape?
    rw [hr.heap]; simp
  have hrun : (convert 39 39 (.slice (some ⟨g, 0, none⟩) l.length l.length)).run Try.prog w = .ok (.slice (some ⟨g, 0, none⟩) l.length l.length) (w.freeze ⟨g, (bys l).length, none⟩ 1) := by
    simp [convert, run_underlying Try.underlying39, run_underlying Try.underlying5, markStringish, hsh]
  have hg : w.grownBy (w.freeze ⟨g, (bys l).length, none⟩ 1) (some g) := by
    unfold World.freeze
    rw [if_neg (by decide)]
    refine ⟨rfl, rfl, rfl, by simp, fun q _ hq => ?_⟩
    rw [Array.getElem?_modify, if_neg (fun e => hq (by rw [← e]))]
  have hh : (w.freeze ⟨g, (bys l).length, none⟩ 1).heap[g]? = some (.cells (bys l).toArray 5 ((bys l).length, (bys l).length + 1)) := by
    unfold World.freeze
    rw [if_neg (by decide)]
    show (w.heap.modify g _)[g]? = _
    rw [Array.getElem?_modify, if_pos rfl, hr.heap]; rfl
  unfold Oper.wp execOp
  simp only [ho, hx, Sem.run_bind, Sem.run_pure, Result.andThen_ok, hrun]
  refine k _ ⟨.inr ⟨g, 0, l.length, rfl, Nat.le_refl _, fun i hi => ?_⟩⟩ (hb.grown hg (Nat.le_trans hB (Nat.le_of_lt hr.lt)) (fun q e => by cases e; exact hB)) hg
  rw [Nat.zero_add, cell_of_row _ g i _ 5 _ hh, ← bys_get l i hi]; simp
set_option maxHeartbeats 16000000 in
set_option maxRecDepth 20000 in
theorem reg10_any (w : World) (lv ev : Value) (ga gb ca cb : Nat) (aa ab : Option Addr) (Y1 Y2 Y3 : Array Value)
    (hA : w.cell? ⟨ga, 2, none⟩ = some (.slice aa 1 ca)) (hB : Row w gb 30 [.int .i64 0, .int .i64 3, .slice ab 2 cb])
    (he1 : ∀ y, (Op.equalIn 10000 26 (.agg Y1) (.agg Y1)).run Try.prog y = .ok true y) (he2 : ∀ y, (Op.equalIn 10000 26 (.agg Y2) (.agg Y2)).run Try.prog y = .ok true y)
    (c0_ : ∀ y, Below w.heap.size w y → Calls Try.prog 11 #[.slice none 0 0] y fun ev y' => ev = .returned (.agg Y1) ∧ Below y.heap.size y y')
    (c2_ : ∀ y g, Row y g 5 (bys [2, 0, 0, 0, 0, 0, 0, 0, 0]) → Below w.heap.size w y → Calls Try.prog 22 #[.slice (some ⟨g, 0, none⟩) 9 9] y fun ev y' => ev = .returned (.agg Y1) ∧ Below y.heap.size y y')
    (c7_ : ∀ y g, Sl y (.slice (some ⟨g, 0, none⟩) 1 1) [120] → Below w.heap.size w y → Calls Try.prog 23 #[.slice (some ⟨g, 0, none⟩) 1 1] y fun ev y' => ev = .returned (.agg Y2) ∧ Below y.heap.size y y')
    (c9_ : ∀ y g, Row y g 5 (bys [0, 120]) → Below w.heap.size w y → Calls Try.prog 22 #[.slice (some ⟨g, 0, none⟩) 2 2] y fun ev y' => ev = .returned (.agg Y2) ∧ Below y.heap.size y y')
    (c34_ : ∀ y, Below w.heap.size w y → Calls Try.prog 11 #[lv] y fun ev y' => ev = .returned (.agg Y3) ∧ Below y.heap.size y y')
    (c37_ : ∀ y g, Row y g 5 (bys [1]) → Below w.heap.size w y → Calls Try.prog 17 #[.agg Y3, .slice (some ⟨g, 0, none⟩) 1 1, .agg #[.int .i64 0, .int .i64 3, .slice ab 2 cb]] y fun ev y' => ev = .returned (.bool true) ∧ Below y.heap.size y y')
    (c44_ : ∀ y g, Row y g 5 (bys [2]) → Below w.heap.size w y → Calls Try.prog 17 #[.agg Y3, .slice (some ⟨g, 0, none⟩) 1 1, .agg #[.int .i64 0, .int .i64 3, .slice ab 2 cb]] y fun ev y' => ev = .returned (.bool false) ∧ Below y.heap.size y y')
    (c49_ : ∀ y, Below w.heap.size w y → Calls Try.prog 14 #[ev, .int .i64 2, .int .i64 0] y fun ev y' => ev = .returned (.bool true) ∧ Below y.heap.size y y')
    (c0 c6 c8 c9 c10 c11 c12 c13 c14 c15 c16 c17 c18 c19 c20 c21 c22 c23 c24 c25 c26 c27 c28 c29 c30 c31 c32 c33 c34 c35 c36 c37 c38 c39 c40 c41 c42 c43 c44 c45 c46 c47 c48 c49 c50 c51 c52 c53 c54 c55 c56 c57 c58 c59 c60 c61 c62 c63 c64 c65 c66 c67 c68 c69 c70 c71 c72 c73 c74 c75 c76 c77 : Value) :
    (Code.region 5 #[{ dst := some 27, op := Op.call { callee := Callee.value (Operand.func 11), args := #[Operand.const (Value.slice none 0 0)], argTypes := #[22] }, type := 26, pos := "law.go:18", after := #[], guard := none }, { dst := some 28, op := Op.buildSlice 39 9 #[(0, Operand.const (Value.int IntKind.u8 2)), (1, Operand.const (Value.int IntKind.u8 0)), (2, Operand.const (Value.int IntKind.u8 0)), (3, Operand.const (Value.int IntKind.u8 0)), (4, Operand.const (Value.int IntKind.u8 0)), (5, Operand.const (Value.int IntKind.u8 0)), (6, Operand.const (Value.int IntKind.u8 0)), (7, Operand.const (Value.int IntKind.u8 0)), (8, Operand.const (Value.int IntKind.u8 0))], type := 39, pos := "law.go:18", after := #[], guard := none }, { dst := some 29, op := Op.call { callee := Callee.value (Operand.func 22), args := #[Operand.tmp 28], argTypes := #[39] }, type := 26, pos := "law.go:18", after := #[{ on := 1, ground := Ground.data }, { on := 0, ground := Ground.chain }], guard := none }, { dst := some 30, op := Op.binOp BinOp.eql 26 (Operand.tmp 27) (Operand.tmp 29) 26, type := 4, pos := "law.go:18", after := #[{ on := 0, ground := Ground.data }, { on := 2, ground := Ground.data }], guard := none }, { dst := some 31, op := Op.move (Operand.tmp 30), type := 4, pos := "law.go:18", after := #[{ on := 3, ground := Ground.data }, { on := 2, ground := Ground.chain }], guard := none }, { dst := some 32, op := Op.buildSlice 39 1 #[(0, Operand.const (Value.int IntKind.u8 120))], type := 39, pos := "law.go:18", after := #[{ on := 4, ground := Ground.guard }], guard := some (4, true) }, { dst := some 33, op := Op.convert 39 39 (Operand.tmp 32), type := 39, pos := "law.go:18", after := #[{ on := 5, ground := Ground.data }, { on := 4, ground := Ground.guard }], guard := some (4, true) }, { dst := some 34, op := Op.call { callee := Callee.value (Operand.func 23), args := #[Operand.tmp 33], argTypes := #[39] }, type := 26, pos := "law.go:18", after := #[{ on := 6, ground := Ground.data }, { on := 4, ground := Ground.chain }, { on := 4, ground := Ground.guard }], guard := some (4, true) }, { dst := some 35, op := Op.buildSlice 39 2 #[(0, Operand.const (Value.int IntKind.u8 0)), (1, Operand.const (Value.int IntKind.u8 120))], type := 39, pos := "law.go:18", after := #[{ on := 4, ground := Ground.guard }], guard := some (4, true) }, { dst := some 36, op := Op.call { callee := Callee.value (Operand.func 22), args := #[Operand.tmp 35], argTypes := #[39] }, type := 26, pos := "law.go:18", after := #[{ on := 8, ground := Ground.data }, { on := 7, ground := Ground.chain }, { on := 4, ground := Ground.guard }], guard := some (4, true) }, { dst := some 37, op := Op.binOp BinOp.eql 26 (Operand.tmp 34) (Operand.tmp 36) 26, type := 4, pos := "law.go:18", after := #[{ on := 7, ground := Ground.data }, { on := 9, ground := Ground.data }, { on := 4, ground := Ground.guard }], guard := some (4, true) }, { dst := some 38, op := Op.pick (Operand.tmp 31) (Operand.tmp 37) (Operand.const (Value.bool false)), type := 4, pos := "law.go:18", after := #[{ on := 4, ground := Ground.data }, { on := 10, ground := Ground.data }], guard := none }, { dst := some 39, op := Op.move (Operand.tmp 38), type := 4, pos := "law.go:18", after := #[{ on := 11, ground := Ground.data }, { on := 9, ground := Ground.chain }], guard := none }, { dst := some 40, op := Op.move (Operand.tmp 3), type := 32, pos := "law.go:18", after := #[{ on := 12, ground := Ground.guard }], guard := some (12, true) }, { dst := some 41, op := Op.binOp BinOp.eql 32 (Operand.tmp 40) (Operand.const Value.nilIface) 32, type := 4, pos := "law.go:18", after := #[{ on := 13, ground := Ground.data }, { on := 12, ground := Ground.guard }], guard := some (12, true) }, { dst := some 42, op := Op.pick (Operand.tmp 39) (Operand.tmp 41) (Operand.const (Value.bool false)), type := 4, pos := "law.go:18", after := #[{ on := 12, ground := Ground.data }, { on := 14, ground := Ground.data }], guard := none }, { dst := some 43, op := Op.move (Operand.tmp 42), type := 4, pos := "law.go:18", after := #[{ on := 15, ground := Ground.data }, { on := 12, ground := Ground.chain }], guard := none }, { dst := some 44, op := Op.move (Operand.tmp 5), type := 32, pos := "law.go:18", after := #[{ on := 16, ground := Ground.guard }], guard := some (16, true) }, { dst := some 45, op := Op.binOp BinOp.eql 32 (Operand.tmp 44) (Operand.const Value.nilIface) 32, type := 4, pos := "law.go:18", after := #[{ on := 17, ground := Ground.data }, { on := 16, ground := Ground.guard }], guard := some (16, true) }, { dst := some 46, op := Op.pick (Operand.tmp 43) (Operand.tmp 45) (Operand.const (Value.bool false)), type := 4, pos := "law.go:18", after := #[{ on := 16, ground := Ground.data }, { on := 18, ground := Ground.data }], guard := none }, { dst := some 47, op := Op.move (Operand.tmp 46), type := 4, pos := "law.go:18", after := #[{ on := 19, ground := Ground.data }, { on := 16, ground := Ground.chain }], guard := none }, { dst := some 48, op := Op.fieldAddr 30 (Operand.tmp 2) 2, type := 0, pos := "law.go:18", after := #[{ on := 20, ground := Ground.guard }], guard := some (20, true) }, { dst := some 49, op := Op.load 28 (Operand.tmp 48), type := 28, pos := "law.go:18", after := #[{ on := 21, ground := Ground.data }, { on := 20, ground := Ground.guard }], guard := some (20, true) }, { dst := some 50, op := Op.call { callee := Callee.builtin Builtin.len, args := #[Operand.tmp 49], argTypes := #[28] }, type := 3, pos := "law.go:18", after := #[{ on := 22, ground := Ground.data }, { on := 20, ground := Ground.guard }], guard := some (20, true) }, { dst := some 51, op := Op.binOp BinOp.eql 3 (Operand.tmp 50) (Operand.const (Value.int IntKind.i64 1)) 3, type := 4, pos := "law.go:18", after := #[{ on := 23, ground := Ground.data }, { on := 20, ground := Ground.guard }], guard := some (20, true) }, { dst := some 52, op := Op.pick (Operand.tmp 47) (Operand.tmp 51) (Operand.const (Value.bool false)), type := 4, pos := "law.go:18", after := #[{ on := 20, ground := Ground.data }, { on := 24, ground := Ground.data }], guard := none }, { dst := some 53, op := Op.move (Operand.tmp 52), type := 4, pos := "law.go:18", after := #[{ on := 25, ground := Ground.data }, { on := 20, ground := Ground.chain }], guard := none }, { dst := some 54, op := Op.fieldAddr 30 (Operand.tmp 4) 2, type := 0, pos := "law.go:18", after := #[{ on := 26, ground := Ground.guard }], guard := some (26, true) }, { dst := some 55, op := Op.load 28 (Operand.tmp 54), type := 28, pos := "law.go:18", after := #[{ on := 27, ground := Ground.data }, { on := 26, ground := Ground.guard }], guard := some (26, true) }, { dst := some 56, op := Op.call { callee := Callee.builtin Builtin.len, args := #[Operand.tmp 55], argTypes := #[28] }, type := 3, pos := "law.go:18", after := #[{ on := 28, ground := Ground.data }, { on := 26, ground := Ground.guard }], guard := some (26, true) }, { dst := some 57, op := Op.binOp BinOp.eql 3 (Operand.tmp 56) (Operand.const (Value.int IntKind.i64 2)) 3, type := 4, pos := "law.go:18", after := #[{ on := 29, ground := Ground.data }, { on := 26, ground := Ground.guard }], guard := some (26, true) }, { dst := some 58, op := Op.pick (Operand.tmp 53) (Operand.tmp 57) (Operand.const (Value.bool false)), type := 4, pos := "law.go:18", after := #[{ on := 26, ground := Ground.data }, { on := 30, ground := Ground.data }], guard := none }, { dst := some 59, op := Op.move (Operand.tmp 58), type := 4, pos := "law.go:18", after := #[{ on := 31, ground := Ground.data }, { on := 26, ground := Ground.chain }], guard := none }, { dst := some 60, op := Op.move (Operand.tmp 1), type := 22, pos := "law.go:18", after := #[{ on := 32, ground := Ground.guard }], guard := some (32, true) }, { dst := some 61, op := Op.call { callee := Callee.value (Operand.func 11), args := #[Operand.tmp 60], argTypes := #[22] }, type := 26, pos := "law.go:18", after := #[{ on := 33, ground := Ground.data }, { on := 32, ground := Ground.chain }, { on := 32, ground := Ground.guard }], guard := some (32, true) }, { dst := some 62, op := Op.buildSlice 39 1 #[(0, Operand.const (Value.int IntKind.u8 1))], type := 39, pos := "law.go:18", after := #[{ on := 32, ground := Ground.guard }], guard := some (32, true) }, { dst := some 63, op := Op.load 30 (Operand.tmp 4), type := 30, pos := "law.go:18", after := #[{ on := 32, ground := Ground.guard }], guard := some (32, true) }, { dst := some 64, op := Op.call { callee := Callee.value (Operand.func 17), args := #[Operand.tmp 61, Operand.tmp 62, Operand.tmp 63], argTypes := #[26, 39, 30] }, type := 4, pos := "law.go:18", after := #[{ on := 34, ground := Ground.data }, { on := 35, ground := Ground.data }, { on := 36, ground := Ground.data }, { on := 34, ground := Ground.chain }, { on := 32, ground := Ground.guard }], guard := some (32, true) }, { dst := some 65, op := Op.pick (Operand.tmp 59) (Operand.tmp 64) (Operand.const (Value.bool false)), type := 4, pos := "law.go:18", after := #[{ on := 32, ground := Ground.data }, { on := 37, ground := Ground.data }], guard := none }, { dst := some 66, op := Op.move (Operand.tmp 65), type := 4, pos := "law.go:18", after := #[{ on := 38, ground := Ground.data }, { on := 37, ground := Ground.chain }], guard := none }, { dst := some 67, op := Op.move (Operand.tmp 1), type := 22, pos := "law.go:18", after := #[{ on := 39, ground := Ground.guard }], guard := some (39, true) }, { dst := some 68, op := Op.call { callee := Callee.value (Operand.func 11), args := #[Operand.tmp 67], argTypes := #[22] }, type := 26, pos := "law.go:18", after := #[{ on := 40, ground := Ground.data }, { on := 39, ground := Ground.chain }, { on := 39, ground := Ground.guard }], guard := some (39, true) }, { dst := some 69, op := Op.buildSlice 39 1 #[(0, Operand.const (Value.int IntKind.u8 2))], type := 39, pos := "law.go:18", after := #[{ on := 39, ground := Ground.guard }], guard := some (39, true) }, { dst := some 70, op := Op.load 30 (Operand.tmp 4), type := 30, pos := "law.go:18", after := #[{ on := 39, ground := Ground.guard }], guard := some (39, true) }, { dst := some 71, op := Op.call { callee := Callee.value (Operand.func 17), args := #[Operand.tmp 68, Operand.tmp 69, Operand.tmp 70], argTypes := #[26, 39, 30] }, type := 4, pos := "law.go:18", after := #[{ on := 41, ground := Ground.data }, { on := 42, ground := Ground.data }, { on := 43, ground := Ground.data }, { on := 41, ground := Ground.chain }, { on := 39, ground := Ground.guard }], guard := some (39, true) }, { dst := some 72, op := Op.unOp UnOp.not 4 (Operand.tmp 71), type := 4, pos := "law.go:18", after := #[{ on := 44, ground := Ground.data }, { on := 39, ground := Ground.guard }], guard := some (39, true) }, { dst := some 73, op := Op.pick (Operand.tmp 66) (Operand.tmp 72) (Operand.const (Value.bool false)), type := 4, pos := "law.go:18", after := #[{ on := 39, ground := Ground.data }, { on := 45, ground := Ground.data }], guard := none }, { dst := some 74, op := Op.move (Operand.tmp 73), type := 4, pos := "law.go:18", after := #[{ on := 46, ground := Ground.data }, { on := 44, ground := Ground.chain }], guard := none }, { dst := some 75, op := Op.move (Operand.tmp 7), type := 32, pos := "law.go:18", after := #[{ on := 47, ground := Ground.guard }], guard := some (47, true) }, { dst := some 76, op := Op.call { callee := Callee.value (Operand.func 14), args := #[Operand.tmp 75, Operand.const (Value.int IntKind.i64 2), Operand.const (Value.int IntKind.i64 0)], argTypes := #[32, 3, 3] }, type := 4, pos := "law.go:18", after := #[{ on := 48, ground := Ground.data }, { on := 47, ground := Ground.chain }, { on := 47, ground := Ground.guard }], guard := some (47, true) }, { dst := some 77, op := Op.pick (Operand.tmp 74) (Operand.tmp 76) (Operand.const (Value.bool false)), type := 4, pos := "law.go:18", after := #[{ on := 47, ground := Ground.data }, { on := 49, ground := Ground.data }], guard := none }, { dst := some 0, op := Op.assign (Operand.tmp 77), type := 4, pos := "law.go:18", after := #[{ on := 50, ground := Ground.data }, { on := 49, ground := Ground.chain }, { on := 0, ground := Ground.phase }, { on := 1, ground := Ground.phase }, { on := 2, ground := Ground.phase }, { on := 3, ground := Ground.phase }, { on := 4, ground := Ground.phase }, { on := 5, ground := Ground.phase }, { on := 6, ground := Ground.phase }, { on := 7, ground := Ground.phase }, { on := 8, ground := Ground.phase }, { on := 9, ground := Ground.phase }, { on := 10, ground := Ground.phase }, { on := 11, ground := Ground.phase }, { on := 12, ground := Ground.phase }, { on := 13, ground := Ground.phase }, { on := 14, ground := Ground.phase }, { on := 15, ground := Ground.phase }, { on := 16, ground := Ground.phase }, { on := 17, ground := Ground.phase }, { on := 18, ground := Ground.phase }, { on := 19, ground := Ground.phase }, { on := 20, ground := Ground.phase }, { on := 21, ground := Ground.phase }, { on := 22, ground := Ground.phase }, { on := 23, ground := Ground.phase }, { on := 24, ground := Ground.phase }, { on := 25, ground := Ground.phase }, { on := 26, ground := Ground.phase }, { on := 27, ground := Ground.phase }, { on := 28, ground := Ground.phase }, { on := 29, ground := Ground.phase }, { on := 30, ground := Ground.phase }, { on := 31, ground := Ground.phase }, { on := 32, ground := Ground.phase }, { on := 33, ground := Ground.phase }, { on := 34, ground := Ground.phase }, { on := 35, ground := Ground.phase }, { on := 36, ground := Ground.phase }, { on := 37, ground := Ground.phase }, { on := 38, ground := Ground.phase }, { on := 39, ground := Ground.phase }, { on := 40, ground := Ground.phase }, { on := 41, ground := Ground.phase }, { on := 42, ground := Ground.phase }, { on := 43, ground := Ground.phase }, { on := 44, ground := Ground.phase }, { on := 45, ground := Ground.phase }, { on := 46, ground := Ground.phase }, { on := 47, ground := Ground.phase }, { on := 48, ground := Ground.phase }, { on := 49, ground := Ground.phase }, { on := 50, ground := Ground.phase }], guard := none }] true).wp Try.prog (fun e a' w' => e = .normal ∧ a'.defers = [] ∧ a'.tmps.getD 0 undef = .bool true ∧ Below w.heap.size w w') ⟨#[c0, lv, .pointer (some ⟨ga, 0, none⟩), .nilIface, .pointer (some ⟨gb, 0, none⟩), .nilIface, c6, ev, c8, c9, c10, c11, c12, c13, c14, c15, c16, c17, c18, c19, c20, c21, c22, c23, c24, c25, c26, c27, c28, c29, c30, c31, c32, c33, c34, c35, c36, c37, c38, c39, c40, c41, c42, c43, c44, c45, c46, c47, c48, c49, c50, c51, c52, c53, c54, c55, c56, c57, c58, c59, c60, c61, c62, c63, c64, c65, c66, c67, c68, c69, c70, c71, c72, c73, c74, c75, c76, c77], []⟩ w := by
  obtain ⟨W, hW⟩ : ∃ W, W = w.drew := ⟨_, rfl⟩
  have hw0 : Below w.heap.size w W := by rw [hW]; exact (Below.refl _ _).drew
  have hQ : ∀ y, Below W.heap.size W y → Below w.heap.size w y := fun y hy => nextB hw0 hy
  have HE1 : Hid (∀ y, (Op.equalIn 10000 26 (.agg Y1) (.agg Y1)).run Try.prog y = .ok true y) := he1
  have HE2 : Hid (∀ y, (Op.equalIn 10000 26 (.agg Y2) (.agg Y2)).run Try.prog y = .ok true y) := he2
  have HA : Hid (∀ y, Below W.heap.size W y → y.cell? ⟨ga, 2, none⟩ = some (.slice aa 1 ca)) := fun y hy => ((hQ y hy).cell (p := ⟨ga, 2, none⟩) (World.block_lt_of_cell? w _ hA)).trans hA
  have HBR : Hid (∀ y, Below W.heap.size W y → y.rangeAt gb 0 [.int .i64 0, .int .i64 3, .slice ab 2 cb]) := fun y hy => (hB.below (hQ y hy) hB.lt).range
  have HB : Hid (∀ y, Below W.heap.size W y → y.cell? ⟨gb, 2, none⟩ = some (.slice ab 2 cb)) := fun y hy => (hB.below (hQ y hy) hB.lt).cell 2
  have C0 : Hid (∀ y, Below W.heap.size W y → _) := fun y hy => c0_ y (hQ y hy)
  have C2 : Hid (∀ y g, Row y g 5 (bys [2, 0, 0, 0, 0, 0, 0, 0, 0]) → Below W.heap.size W y → _) := fun y g r hy => c2_ y g r (hQ y hy)
  have C7 : Hid (∀ y g, Sl y (.slice (some ⟨g, 0, none⟩) 1 1) [120] → Below W.heap.size W y → _) := fun y g r hy => c7_ y g r (hQ y hy)
  have C9 : Hid (∀ y g, Row y g 5 (bys [0, 120]) → Below W.heap.size W y → _) := fun y g r hy => c9_ y g r (hQ y hy)
  have C34 : Hid (∀ y, Below W.heap.size W y → _) := fun y hy => c34_ y (hQ y hy)
  have C37 : Hid (∀ y g, Row y g 5 (bys [1]) → Below W.heap.size W y → _) := fun y g r hy => c37_ y g r (hQ y hy)
  have C44 : Hid (∀ y g, Row y g 5 (bys [2]) → Below W.heap.size W y → _) := fun y g r hy => c44_ y g r (hQ y hy)
  have C49 : Hid (∀ y, Below W.heap.size W y → _) := fun y hy => c49_ y (hQ y hy)
  clear he1 he2 hA hB c0_ c2_ c7_ c9_ c34_ c37_ c44_ c49_ hw0
  refine wp_region_held_drew (S := fun y => Below W.heap.size W y) (by kernel_rfl) (by rw [← hW]; exact Below.refl _ _) (fun hS0 => ?_)
  rw [← hW] at hS0 ⊢
  clear hW
  refine join (fuel' := 49) (listed' := ((((Array.replicate 52 false).setIfInBounds 0 true).setIfInBounds 1 true).setIfInBounds 2 true)) (fun (g : Nat) => ⟨#[c0, lv, .pointer (some ⟨ga, 0, none⟩), .nilIface, .pointer (some ⟨gb, 0, none⟩), .nilIface, c6, ev, c8, c9, c10, c11, c12, c13, c14, c15, c16, c17, c18, c19, c20, c21, c22, c23, c24, c25, c26, .agg Y1, .slice (some ⟨g, 0, none⟩) 9 9, .agg Y1, c30, c31, c32, c33, c34, c35, c36, c37, c38, c39, c40, c41, c42, c43, c44, c45, c46, c47, c48, c49, c50, c51, c52, c53, c54, c55, c56, c57, c58, c59, c60, c61, c62, c63, c64, c65, c66, c67, c68, c69, c70, c71, c72, c73, c74, c75, c76, c77], []⟩) (fun (g : Nat) y => Below W.heap.size W y) ?_ (fun HJ => ?_)
  rotate_left
  refine wpAnyH_ready (rs := [0, 1]) (by kernel_rfl) (by simp) ?_
  refine AllReadyH.cons rfl (fun K hK => ?_) (AllReadyH.cons rfl (fun K hK => ?_) AllReadyH.nil)
  · go_simp
    refine (C0.out _ hS0).mono ?_
    rintro ev_ y1 ⟨rfl, hb2⟩
    have hS3 := nextB hS0 hb2
    refine hK.out _ _ hS3 (fun _ => ?_)
    clear hK K
    refine wpAnyH_ready (rs := [1]) (by kernel_rfl) (by simp) ?_
    refine AllReadyH.cons rfl (fun K hK => ?_) AllReadyH.nil
    go_simp
    obtain ⟨y4, gg5, hy_, hg_, hb6, R7⟩ := new5 y1 [2, 0, 0, 0, 0, 0, 0, 0, 0] #[Value.int .u8 2, Value.int .u8 0, Value.int .u8 0, Value.int .u8 0, Value.int .u8 0, Value.int .u8 0, Value.int .u8 0, Value.int .u8 0, Value.int .u8 0] rfl
    rw [← hy_, ← hg_]
    have e9 : W.heap.size ≤ gg5 := by rw [hg_]; exact hS3.size
    clear hy_ hg_
    have hS8 := nextB hS3 hb6
    refine hK.out _ _ hS8 (fun _ => ?_)
    clear hK K
    refine wpAnyH_ready (rs := [2]) (by kernel_rfl) (by simp) ?_
    refine AllReadyH.cons rfl (fun K hK => ?_) AllReadyH.nil
    go_simp
    refine (C2.out _ gg5 R7 hS8).mono ?_
    rintro ev_ y10 ⟨rfl, hb11⟩
    have hS12 := nextB hS8 hb11
    have R13 := R7.below hb11 R7.lt
    refine hK.out _ _ hS12 (fun _ => ?_)
    clear hK K
    refine listed_eq (by kernel_rfl) (HJ gg5 _ hS12)
  · go_simp
    obtain ⟨y14, gg15, hy_, hg_, hb16, R17⟩ := new5 W [2, 0, 0, 0, 0, 0, 0, 0, 0] #[Value.int .u8 2, Value.int .u8 0, Value.int .u8 0, Value.int .u8 0, Value.int .u8 0, Value.int .u8 0, Value.int .u8 0, Value.int .u8 0, Value.int .u8 0] rfl
    rw [← hy_, ← hg_]
    have e19 : W.heap.size ≤ gg15 := by rw [hg_]; exact hS0.size
    clear hy_ hg_
    have hS18 := nextB hS0 hb16
    refine hK.out _ _ hS18 (fun _ => ?_)
    clear hK K
    refine wpAnyH_ready (rs := [0]) (by kernel_rfl) (by simp) ?_
    refine AllReadyH.cons rfl (fun K hK => ?_) AllReadyH.nil
    go_simp
    refine (C0.out _ hS18).mono ?_
    rintro ev_ y20 ⟨rfl, hb21⟩
    have hS22 := nextB hS18 hb21
    have R23 := R17.below hb21 R17.lt
    refine hK.out _ _ hS22 (fun _ => ?_)
    clear hK K
    refine wpAnyH_ready (rs := [2]) (by kernel_rfl) (by simp) ?_
    refine AllReadyH.cons rfl (fun K hK => ?_) AllReadyH.nil
    go_simp
    refine (C2.out _ gg15 R23 hS22).mono ?_
    rintro ev_ y24 ⟨rfl, hb25⟩
    have hS26 := nextB hS22 hb25
    have R27 := R23.below hb25 R23.lt
    refine hK.out _ _ hS26 (fun _ => ?_)
    clear hK K
    refine listed_eq (by kernel_rfl) (HJ gg15 _ hS26)
  intro g1 y1 hS1
  refine take_in 3 (v := ?vp28) rfl (some 30) rfl (by kernel_rfl) (by kernel_rfl) (by kernel_rfl) (fun _ _ _ h => (no_panic' h.1).elim) (Or.inl ⟨by rfl, ?hp28⟩) hS1 ?rp28
  case hp28 => (intro y hy; have e1 := HE1.out y; go_simp; with_reducible rfl)
  simp only [Act.put, List.setIfInBounds_toArray, List.set_cons_zero, List.set_cons_succ]
  refine take_in 4 (v := ?vp29) rfl (some 31) rfl (by kernel_rfl) (by kernel_rfl) (by kernel_rfl) (fun _ _ _ h => (no_panic' h.1).elim) (Or.inl ⟨by rfl, ?hp29⟩) hS1 ?rp29
  case hp29 => (intro y hy; go_simp; with_reducible rfl)
  simp only [Act.put, List.setIfInBounds_toArray, List.set_cons_zero, List.set_cons_succ]
  refine join (fuel' := 42) (listed' := (((((((((((Array.replicate 52 false).setIfInBounds 0 true).setIfInBounds 1 true).setIfInBounds 2 true).setIfInBounds 3 true).setIfInBounds 4 true).setIfInBounds 5 true).setIfInBounds 6 true).setIfInBounds 7 true).setIfInBounds 8 true).setIfInBounds 9 true)) (fun (gg : Nat × Nat) => ⟨#[c0, lv, .pointer (some ⟨ga, 0, none⟩), .nilIface, .pointer (some ⟨gb, 0, none⟩), .nilIface, c6, ev, c8, c9, c10, c11, c12, c13, c14, c15, c16, c17, c18, c19, c20, c21, c22, c23, c24, c25, c26, .agg Y1, .slice (some ⟨g1, 0, none⟩) 9 9, .agg Y1, .bool true, .bool true, .slice (some ⟨gg.1, 0, none⟩) 1 1, .slice (some ⟨gg.1, 0, none⟩) 1 1, .agg Y2, .slice (some ⟨gg.2, 0, none⟩) 2 2, .agg Y2, c37, c38, c39, c40, c41, c42, c43, c44, c45, c46, c47, c48, c49, c50, c51, c52, c53, c54, c55, c56, c57, c58, c59, c60, c61, c62, c63, c64, c65, c66, c67, c68, c69, c70, c71, c72, c73, c74, c75, c76, c77], []⟩) (fun (gg : Nat × Nat) y => Below W.heap.size W y) ?_ (fun HJ => ?_)
  rotate_left
  refine wpAnyH_ready (rs := [5, 8]) (by kernel_rfl) (by simp) ?_
  refine AllReadyH.cons rfl (fun K hK => ?_) (AllReadyH.cons rfl (fun K hK => ?_) AllReadyH.nil)
  · go_simp
    obtain ⟨y30, gg31, hy_, hg_, hb32, R33⟩ := new5 y1 [120] #[Value.int .u8 120] rfl
    rw [← hy_, ← hg_]
    have e35 : W.heap.size ≤ gg31 := by rw [hg_]; exact hS1.size
    clear hy_ hg_
    have hS34 := nextB hS1 hb32
    refine hK.out _ _ hS34 (fun _ => ?_)
    clear hK K
    refine wpAnyH_ready (rs := [6, 8]) (by kernel_rfl) (by simp) ?_
    refine AllReadyH.cons rfl (fun K hK => ?_) (AllReadyH.cons rfl (fun K hK => ?_) AllReadyH.nil)
    · refine want (by rfl) ?_
      refine wpo_conv39 _ rfl W gg31 W.heap.size [120] rfl R33 hS34 e35 ?_
      intro y36 Z37 hS38 hg39
      refine hK.out _ _ hS38 (fun _ => ?_)
      clear hK K
      refine wpAnyH_ready (rs := [7, 8]) (by kernel_rfl) (by simp) ?_
      refine AllReadyH.cons rfl (fun K hK => ?_) (AllReadyH.cons rfl (fun K hK => ?_) AllReadyH.nil)
      · go_simp
        refine (C7.out _ gg31 Z37 hS38).mono ?_
        rintro ev_ y40 ⟨rfl, hb41⟩
        have hS42 := nextB hS38 hb41
        have Z43 := Z37.below hb41
        refine hK.out _ _ hS42 (fun _ => ?_)
        clear hK K
        refine wpAnyH_ready (rs := [8]) (by kernel_rfl) (by simp) ?_
        refine AllReadyH.cons rfl (fun K hK => ?_) AllReadyH.nil
        go_simp
        obtain ⟨y44, gg45, hy_, hg_, hb46, R47⟩ := new5 y40 [0, 120] #[Value.int .u8 0, Value.int .u8 120] rfl
        rw [← hy_, ← hg_]
        have e49 : W.heap.size ≤ gg45 := by rw [hg_]; exact hS42.size
        clear hy_ hg_
        have hS48 := nextB hS42 hb46
        have Z50 := Z43.below hb46
        refine hK.out _ _ hS48 (fun _ => ?_)
        clear hK K
        refine wpAnyH_ready (rs := [9]) (by kernel_rfl) (by simp) ?_
        refine AllReadyH.cons rfl (fun K hK => ?_) AllReadyH.nil
        go_simp
        refine (C9.out _ gg45 R47 hS48).mono ?_
        rintro ev_ y51 ⟨rfl, hb52⟩
        have hS53 := nextB hS48 hb52
        have Z54 := Z50.below hb52
        have R55 := R47.below hb52 R47.lt
        refine hK.out _ _ hS53 (fun _ => ?_)
        clear hK K
        refine listed_eq (by kernel_rfl) (HJ (gg31, gg45) _ hS53)
      · go_simp
        obtain ⟨y56, gg57, hy_, hg_, hb58, R59⟩ := new5 y36 [0, 120] #[Value.int .u8 0, Value.int .u8 120] rfl
        rw [← hy_, ← hg_]
        have e61 : W.heap.size ≤ gg57 := by rw [hg_]; exact hS38.size
        clear hy_ hg_
        have hS60 := nextB hS38 hb58
        have Z62 := Z37.below hb58
        refine hK.out _ _ hS60 (fun _ => ?_)
        clear hK K
        refine wpAnyH_ready (rs := [7]) (by kernel_rfl) (by simp) ?_
        refine AllReadyH.cons rfl (fun K hK => ?_) AllReadyH.nil
        go_simp
        refine (C7.out _ gg31 Z62 hS60).mono ?_
        rintro ev_ y63 ⟨rfl, hb64⟩
        have hS65 := nextB hS60 hb64
        have Z66 := Z62.below hb64
        have R67 := R59.below hb64 R59.lt
        refine hK.out _ _ hS65 (fun _ => ?_)
        clear hK K
        refine wpAnyH_ready (rs := [9]) (by kernel_rfl) (by simp) ?_
        refine AllReadyH.cons rfl (fun K hK => ?_) AllReadyH.nil
        go_simp
        refine (C9.out _ gg57 R67 hS65).mono ?_
        rintro ev_ y68 ⟨rfl, hb69⟩
        have hS70 := nextB hS65 hb69
        have Z71 := Z66.below hb69
        have R72 := R67.below hb69 R67.lt
        refine hK.out _ _ hS70 (fun _ => ?_)
        clear hK K
        refine listed_eq (by kernel_rfl) (HJ (gg31, gg57) _ hS70)
    · go_simp
      obtain ⟨y73, gg74, hy_, hg_, hb75, R76⟩ := new5 y30 [0, 120] #[Value.int .u8 0, Value.int .u8 120] rfl
      rw [← hy_, ← hg_]
      have e78 : W.heap.size ≤ gg74 := by rw [hg_]; exact hS34.size
      have ne79 : gg31 ≠ gg74 := by have := R33.lt; omega
      clear hy_ hg_
      have hS77 := nextB hS34 hb75
      have R80 := R33.below hb75 R33.lt
      refine hK.out _ _ hS77 (fun _ => ?_)
      clear hK K
      refine wpAnyH_ready (rs := [6]) (by kernel_rfl) (by simp) ?_
      refine AllReadyH.cons rfl (fun K hK => ?_) AllReadyH.nil
      refine want (by rfl) ?_
      refine wpo_conv39 _ rfl W gg31 W.heap.size [120] rfl R80 hS77 e35 ?_
      intro y81 Z82 hS83 hg84
      have R85 := R76.grown hg84 (fun e => ne79 (Option.some.inj e))
      refine hK.out _ _ hS83 (fun _ => ?_)
      clear hK K
      refine wpAnyH_ready (rs := [7]) (by kernel_rfl) (by simp) ?_
      refine AllReadyH.cons rfl (fun K hK => ?_) AllReadyH.nil
      go_simp
      refine (C7.out _ gg31 Z82 hS83).mono ?_
      rintro ev_ y86 ⟨rfl, hb87⟩
      have hS88 := nextB hS83 hb87
      have R89 := R85.below hb87 R85.lt
      have Z90 := Z82.below hb87
      refine hK.out _ _ hS88 (fun _ => ?_)
      clear hK K
      refine wpAnyH_ready (rs := [9]) (by kernel_rfl) (by simp) ?_
      refine AllReadyH.cons rfl (fun K hK => ?_) AllReadyH.nil
      go_simp
      refine (C9.out _ gg74 R89 hS88).mono ?_
      rintro ev_ y91 ⟨rfl, hb92⟩
      have hS93 := nextB hS88 hb92
      have R94 := R89.below hb92 R89.lt
      have Z95 := Z90.below hb92
      refine hK.out _ _ hS93 (fun _ => ?_)
      clear hK K
      refine listed_eq (by kernel_rfl) (HJ (gg31, gg74) _ hS93)
  · go_simp
    obtain ⟨y96, gg97, hy_, hg_, hb98, R99⟩ := new5 y1 [0, 120] #[Value.int .u8 0, Value.int .u8 120] rfl
    rw [← hy_, ← hg_]
    have e101 : W.heap.size ≤ gg97 := by rw [hg_]; exact hS1.size
    clear hy_ hg_
    have hS100 := nextB hS1 hb98
    refine hK.out _ _ hS100 (fun _ => ?_)
    clear hK K
    refine wpAnyH_ready (rs := [5]) (by kernel_rfl) (by simp) ?_
    refine AllReadyH.cons rfl (fun K hK => ?_) AllReadyH.nil
    go_simp
    obtain ⟨y102, gg103, hy_, hg_, hb104, R105⟩ := new5 y96 [120] #[Value.int .u8 120] rfl
    rw [← hy_, ← hg_]
    have e107 : W.heap.size ≤ gg103 := by rw [hg_]; exact hS100.size
    have ne108 : gg103 ≠ gg97 := by have := R99.lt; omega
    clear hy_ hg_
    have hS106 := nextB hS100 hb104
    have R109 := R99.below hb104 R99.lt
    refine hK.out _ _ hS106 (fun _ => ?_)
    clear hK K
    refine wpAnyH_ready (rs := [6]) (by kernel_rfl) (by simp) ?_
    refine AllReadyH.cons rfl (fun K hK => ?_) AllReadyH.nil
    refine want (by rfl) ?_
    refine wpo_conv39 _ rfl W gg103 W.heap.size [120] rfl R105 hS106 e107 ?_
    intro y110 Z111 hS112 hg113
    have R114 := R109.grown hg113 (fun e => ne108 (Option.some.inj e))
    refine hK.out _ _ hS112 (fun _ => ?_)
    clear hK K
    refine wpAnyH_ready (rs := [7]) (by kernel_rfl) (by simp) ?_
    refine AllReadyH.cons rfl (fun K hK => ?_) AllReadyH.nil
    go_simp
    refine (C7.out _ gg103 Z111 hS112).mono ?_
    rintro ev_ y115 ⟨rfl, hb116⟩
    have hS117 := nextB hS112 hb116
    have R118 := R114.below hb116 R114.lt
    have Z119 := Z111.below hb116
    refine hK.out _ _ hS117 (fun _ => ?_)
    clear hK K
    refine wpAnyH_ready (rs := [9]) (by kernel_rfl) (by simp) ?_
    refine AllReadyH.cons rfl (fun K hK => ?_) AllReadyH.nil
    go_simp
    refine (C9.out _ gg97 R118 hS117).mono ?_
    rintro ev_ y120 ⟨rfl, hb121⟩
    have hS122 := nextB hS117 hb121
    have R123 := R118.below hb121 R118.lt
    have Z124 := Z119.below hb121
    refine hK.out _ _ hS122 (fun _ => ?_)
    clear hK K
    refine listed_eq (by kernel_rfl) (HJ (gg103, gg97) _ hS122)
  rintro ⟨g2, g3⟩ y2 hS2
  refine take_in 10 (v := ?vp125) rfl (some 37) rfl (by kernel_rfl) (by kernel_rfl) (by kernel_rfl) (fun _ _ _ h => (no_panic' h.1).elim) (Or.inl ⟨by rfl, ?hp125⟩) hS2 ?rp125
  case hp125 => (intro y hy; have e1 := HE2.out y; go_simp; with_reducible rfl)
  simp only [Act.put, List.setIfInBounds_toArray, List.set_cons_zero, List.set_cons_succ]
  refine take_in 11 (v := ?vp126) rfl (some 38) rfl (by kernel_rfl) (by kernel_rfl) (by kernel_rfl) (fun _ _ _ h => (no_panic' h.1).elim) (Or.inl ⟨by rfl, ?hp126⟩) hS2 ?rp126
  case hp126 => (intro y hy; go_simp; with_reducible rfl)
  simp only [Act.put, List.setIfInBounds_toArray, List.set_cons_zero, List.set_cons_succ]
  refine take_in 12 (v := ?vp127) rfl (some 39) rfl (by kernel_rfl) (by kernel_rfl) (by kernel_rfl) (fun _ _ _ h => (no_panic' h.1).elim) (Or.inl ⟨by rfl, ?hp127⟩) hS2 ?rp127
  case hp127 => (intro y hy; go_simp; with_reducible rfl)
  simp only [Act.put, List.setIfInBounds_toArray, List.set_cons_zero, List.set_cons_succ]
  refine take_in 13 (v := ?vp128) rfl (some 40) rfl (by kernel_rfl) (by kernel_rfl) (by kernel_rfl) (fun _ _ _ h => (no_panic' h.1).elim) (Or.inl ⟨by rfl, ?hp128⟩) hS2 ?rp128
  case hp128 => (intro y hy; go_simp; with_reducible rfl)
  simp only [Act.put, List.setIfInBounds_toArray, List.set_cons_zero, List.set_cons_succ]
  refine take_in 14 (v := ?vp129) rfl (some 41) rfl (by kernel_rfl) (by kernel_rfl) (by kernel_rfl) (fun _ _ _ h => (no_panic' h.1).elim) (Or.inl ⟨by rfl, ?hp129⟩) hS2 ?rp129
  case hp129 => (intro y hy; go_simp; with_reducible rfl)
  simp only [Act.put, List.setIfInBounds_toArray, List.set_cons_zero, List.set_cons_succ]
  refine take_in 15 (v := ?vp130) rfl (some 42) rfl (by kernel_rfl) (by kernel_rfl) (by kernel_rfl) (fun _ _ _ h => (no_panic' h.1).elim) (Or.inl ⟨by rfl, ?hp130⟩) hS2 ?rp130
  case hp130 => (intro y hy; go_simp; with_reducible rfl)
  simp only [Act.put, List.setIfInBounds_toArray, List.set_cons_zero, List.set_cons_succ]
  refine take_in 16 (v := ?vp131) rfl (some 43) rfl (by kernel_rfl) (by kernel_rfl) (by kernel_rfl) (fun _ _ _ h => (no_panic' h.1).elim) (Or.inl ⟨by rfl, ?hp131⟩) hS2 ?rp131
  case hp131 => (intro y hy; go_simp; with_reducible rfl)
  simp only [Act.put, List.setIfInBounds_toArray, List.set_cons_zero, List.set_cons_succ]
  refine take_in 17 (v := ?vp132) rfl (some 44) rfl (by kernel_rfl) (by kernel_rfl) (by kernel_rfl) (fun _ _ _ h => (no_panic' h.1).elim) (Or.inl ⟨by rfl, ?hp132⟩) hS2 ?rp132
  case hp132 => (intro y hy; go_simp; with_reducible rfl)
  simp only [Act.put, List.setIfInBounds_toArray, List.set_cons_zero, List.set_cons_succ]
  refine take_in 18 (v := ?vp133) rfl (some 45) rfl (by kernel_rfl) (by kernel_rfl) (by kernel_rfl) (fun _ _ _ h => (no_panic' h.1).elim) (Or.inl ⟨by rfl, ?hp133⟩) hS2 ?rp133
  case hp133 => (intro y hy; go_simp; with_reducible rfl)
  simp only [Act.put, List.setIfInBounds_toArray, List.set_cons_zero, List.set_cons_succ]
  refine take_in 19 (v := ?vp134) rfl (some 46) rfl (by kernel_rfl) (by kernel_rfl) (by kernel_rfl) (fun _ _ _ h => (no_panic' h.1).elim) (Or.inl ⟨by rfl, ?hp134⟩) hS2 ?rp134
  case hp134 => (intro y hy; go_simp; with_reducible rfl)
  simp only [Act.put, List.setIfInBounds_toArray, List.set_cons_zero, List.set_cons_succ]
  refine take_in 20 (v := ?vp135) rfl (some 47) rfl (by kernel_rfl) (by kernel_rfl) (by kernel_rfl) (fun _ _ _ h => (no_panic' h.1).elim) (Or.inl ⟨by rfl, ?hp135⟩) hS2 ?rp135
  case hp135 => (intro y hy; go_simp; with_reducible rfl)
  simp only [Act.put, List.setIfInBounds_toArray, List.set_cons_zero, List.set_cons_succ]
  refine take_in 21 (v := ?vp136) rfl (some 48) rfl (by kernel_rfl) (by kernel_rfl) (by kernel_rfl) (fun _ _ _ h => (no_panic' h.1).elim) (Or.inl ⟨by rfl, ?hp136⟩) hS2 ?rp136
  case hp136 => (intro y hy; go_simp; with_reducible rfl)
  simp only [Act.put, List.setIfInBounds_toArray, List.set_cons_zero, List.set_cons_succ]
  refine take_in 22 (v := ?vp137) rfl (some 49) rfl (by kernel_rfl) (by kernel_rfl) (by kernel_rfl) (fun _ _ _ h => (no_panic' h.1).elim) (Or.inl ⟨by rfl, ?hp137⟩) hS2 ?rp137
  case hp137 => (intro y hy; have c1 := HA.out y hy; go_simp; with_reducible rfl)
  simp only [Act.put, List.setIfInBounds_toArray, List.set_cons_zero, List.set_cons_succ]
  refine take_in 23 (v := ?vp138) rfl (some 50) rfl (by kernel_rfl) (by kernel_rfl) (by kernel_rfl) (fun _ _ _ h => (no_panic' h.1).elim) (Or.inl ⟨by rfl, ?hp138⟩) hS2 ?rp138
  case hp138 => (intro y hy; go_simp; with_reducible rfl)
  simp only [Act.put, List.setIfInBounds_toArray, List.set_cons_zero, List.set_cons_succ]
  refine take_in 24 (v := ?vp139) rfl (some 51) rfl (by kernel_rfl) (by kernel_rfl) (by kernel_rfl) (fun _ _ _ h => (no_panic' h.1).elim) (Or.inl ⟨by rfl, ?hp139⟩) hS2 ?rp139
  case hp139 => (intro y hy; go_simp; with_reducible rfl)
  simp only [Act.put, List.setIfInBounds_toArray, List.set_cons_zero, List.set_cons_succ]
  refine take_in 25 (v := ?vp140) rfl (some 52) rfl (by kernel_rfl) (by kernel_rfl) (by kernel_rfl) (fun _ _ _ h => (no_panic' h.1).elim) (Or.inl ⟨by rfl, ?hp140⟩) hS2 ?rp140
  case hp140 => (intro y hy; go_simp; with_reducible rfl)
  simp only [Act.put, List.setIfInBounds_toArray, List.set_cons_zero, List.set_cons_succ]
  refine take_in 26 (v := ?vp141) rfl (some 53) rfl (by kernel_rfl) (by kernel_rfl) (by kernel_rfl) (fun _ _ _ h => (no_panic' h.1).elim) (Or.inl ⟨by rfl, ?hp141⟩) hS2 ?rp141
  case hp141 => (intro y hy; go_simp; with_reducible rfl)
  simp only [Act.put, List.setIfInBounds_toArray, List.set_cons_zero, List.set_cons_succ]
  refine take_in 27 (v := ?vp142) rfl (some 54) rfl (by kernel_rfl) (by kernel_rfl) (by kernel_rfl) (fun _ _ _ h => (no_panic' h.1).elim) (Or.inl ⟨by rfl, ?hp142⟩) hS2 ?rp142
  case hp142 => (intro y hy; go_simp; with_reducible rfl)
  simp only [Act.put, List.setIfInBounds_toArray, List.set_cons_zero, List.set_cons_succ]
  refine take_in 28 (v := ?vp143) rfl (some 55) rfl (by kernel_rfl) (by kernel_rfl) (by kernel_rfl) (fun _ _ _ h => (no_panic' h.1).elim) (Or.inl ⟨by rfl, ?hp143⟩) hS2 ?rp143
  case hp143 => (intro y hy; have c1 := HB.out y hy; go_simp; with_reducible rfl)
  simp only [Act.put, List.setIfInBounds_toArray, List.set_cons_zero, List.set_cons_succ]
  refine take_in 29 (v := ?vp144) rfl (some 56) rfl (by kernel_rfl) (by kernel_rfl) (by kernel_rfl) (fun _ _ _ h => (no_panic' h.1).elim) (Or.inl ⟨by rfl, ?hp144⟩) hS2 ?rp144
  case hp144 => (intro y hy; go_simp; with_reducible rfl)
  simp only [Act.put, List.setIfInBounds_toArray, List.set_cons_zero, List.set_cons_succ]
  refine take_in 30 (v := ?vp145) rfl (some 57) rfl (by kernel_rfl) (by kernel_rfl) (by kernel_rfl) (fun _ _ _ h => (no_panic' h.1).elim) (Or.inl ⟨by rfl, ?hp145⟩) hS2 ?rp145
  case hp145 => (intro y hy; go_simp; with_reducible rfl)
  simp only [Act.put, List.setIfInBounds_toArray, List.set_cons_zero, List.set_cons_succ]
  refine take_in 31 (v := ?vp146) rfl (some 58) rfl (by kernel_rfl) (by kernel_rfl) (by kernel_rfl) (fun _ _ _ h => (no_panic' h.1).elim) (Or.inl ⟨by rfl, ?hp146⟩) hS2 ?rp146
  case hp146 => (intro y hy; go_simp; with_reducible rfl)
  simp only [Act.put, List.setIfInBounds_toArray, List.set_cons_zero, List.set_cons_succ]
  refine take_in 32 (v := ?vp147) rfl (some 59) rfl (by kernel_rfl) (by kernel_rfl) (by kernel_rfl) (fun _ _ _ h => (no_panic' h.1).elim) (Or.inl ⟨by rfl, ?hp147⟩) hS2 ?rp147
  case hp147 => (intro y hy; go_simp; with_reducible rfl)
  simp only [Act.put, List.setIfInBounds_toArray, List.set_cons_zero, List.set_cons_succ]
  refine take_in 33 (v := ?vp148) rfl (some 60) rfl (by kernel_rfl) (by kernel_rfl) (by kernel_rfl) (fun _ _ _ h => (no_panic' h.1).elim) (Or.inl ⟨by rfl, ?hp148⟩) hS2 ?rp148
  case hp148 => (intro y hy; go_simp; with_reducible rfl)
  simp only [Act.put, List.setIfInBounds_toArray, List.set_cons_zero, List.set_cons_succ]
  refine take_in 36 (v := .agg #[.int .i64 0, .int .i64 3, .slice ab 2 cb]) rfl (some 63) rfl (by kernel_rfl) (by kernel_rfl) (by kernel_rfl) (fun _ _ _ h => (no_panic' h.1).elim) (yieldsIf_load_mid (by rfl) 30 _ rfl gb 0 rfl [.int .i64 0, .int .i64 3, .slice ab 2 cb] _ (fun y hy => HBR.out y hy) Try.underlying30 rfl Try.info30) hS2 ?_
  simp only [Act.put, List.setIfInBounds_toArray, List.set_cons_zero, List.set_cons_succ]
  refine join (fuel' := 15) (listed' := ((((((((((((((((((((((((((((((((((((((Array.replicate 52 false).setIfInBounds 0 true).setIfInBounds 1 true).setIfInBounds 2 true).setIfInBounds 3 true).setIfInBounds 4 true).setIfInBounds 5 true).setIfInBounds 6 true).setIfInBounds 7 true).setIfInBounds 8 true).setIfInBounds 9 true).setIfInBounds 10 true).setIfInBounds 11 true).setIfInBounds 12 true).setIfInBounds 13 true).setIfInBounds 14 true).setIfInBounds 15 true).setIfInBounds 16 true).setIfInBounds 17 true).setIfInBounds 18 true).setIfInBounds 19 true).setIfInBounds 20 true).setIfInBounds 21 true).setIfInBounds 22 true).setIfInBounds 23 true).setIfInBounds 24 true).setIfInBounds 25 true).setIfInBounds 26 true).setIfInBounds 27 true).setIfInBounds 28 true).setIfInBounds 29 true).setIfInBounds 30 true).setIfInBounds 31 true).setIfInBounds 32 true).setIfInBounds 33 true).setIfInBounds 34 true).setIfInBounds 35 true).setIfInBounds 36 true)) (fun (g : Nat) => ⟨#[c0, lv, .pointer (some ⟨ga, 0, none⟩), .nilIface, .pointer (some ⟨gb, 0, none⟩), .nilIface, c6, ev, c8, c9, c10, c11, c12, c13, c14, c15, c16, c17, c18, c19, c20, c21, c22, c23, c24, c25, c26, .agg Y1, .slice (some ⟨g1, 0, none⟩) 9 9, .agg Y1, .bool true, .bool true, .slice (some ⟨g2, 0, none⟩) 1 1, .slice (some ⟨g2, 0, none⟩) 1 1, .agg Y2, .slice (some ⟨g3, 0, none⟩) 2 2, .agg Y2, .bool true, .bool true, .bool true, .nilIface, .bool true, .bool true, .bool true, .nilIface, .bool true, .bool true, .bool true, .pointer (some ⟨ga, 2, none⟩), .slice aa 1 ca, .int .i64 1, .bool true, .bool true, .bool true, .pointer (some ⟨gb, 2, none⟩), .slice ab 2 cb, .int .i64 2, .bool true, .bool true, .bool true, lv, .agg Y3, .slice (some ⟨g, 0, none⟩) 1 1, .agg #[.int .i64 0, .int .i64 3, .slice ab 2 cb], c64, c65, c66, c67, c68, c69, c70, c71, c72, c73, c74, c75, c76, c77], []⟩) (fun (g : Nat) y => Below W.heap.size W y ∧ Row y g 5 (bys [1])) ?_ (fun HJ => ?_)
  rotate_left
  refine wpAnyH_ready (rs := [34, 35]) (by kernel_rfl) (by simp) ?_
  refine AllReadyH.cons rfl (fun K hK => ?_) (AllReadyH.cons rfl (fun K hK => ?_) AllReadyH.nil)
  · go_simp
    refine (C34.out _ hS2).mono ?_
    rintro ev_ y149 ⟨rfl, hb150⟩
    have hS151 := nextB hS2 hb150
    refine hK.out _ _ hS151 (fun _ => ?_)
    clear hK K
    refine wpAnyH_ready (rs := [35]) (by kernel_rfl) (by simp) ?_
    refine AllReadyH.cons rfl (fun K hK => ?_) AllReadyH.nil
    go_simp
    obtain ⟨y152, gg153, hy_, hg_, hb154, R155⟩ := new5 y149 [1] #[Value.int .u8 1] rfl
    rw [← hy_, ← hg_]
    have e157 : W.heap.size ≤ gg153 := by rw [hg_]; exact hS151.size
    clear hy_ hg_
    have hS156 := nextB hS151 hb154
    refine hK.out _ _ hS156 (fun _ => ?_)
    clear hK K
    refine listed_eq (by kernel_rfl) (HJ gg153 _ ⟨hS156, R155⟩)
  · go_simp
    obtain ⟨y158, gg159, hy_, hg_, hb160, R161⟩ := new5 y2 [1] #[Value.int .u8 1] rfl
    rw [← hy_, ← hg_]
    have e163 : W.heap.size ≤ gg159 := by rw [hg_]; exact hS2.size
    clear hy_ hg_
    have hS162 := nextB hS2 hb160
    refine hK.out _ _ hS162 (fun _ => ?_)
    clear hK K
    refine wpAnyH_ready (rs := [34]) (by kernel_rfl) (by simp) ?_
    refine AllReadyH.cons rfl (fun K hK => ?_) AllReadyH.nil
    go_simp
    refine (C34.out _ hS162).mono ?_
    rintro ev_ y164 ⟨rfl, hb165⟩
    have hS166 := nextB hS162 hb165
    have R167 := R161.below hb165 R161.lt
    refine hK.out _ _ hS166 (fun _ => ?_)
    clear hK K
    refine listed_eq (by kernel_rfl) (HJ gg159 _ ⟨hS166, R167⟩)
  rintro g4 y4 ⟨hS4, R4⟩
  refine wpAnyH_ready (rs := [37]) (by kernel_rfl) (by simp) ?_
  refine AllReadyH.cons rfl (fun K hK => ?_) AllReadyH.nil
  go_simp
  refine (C37.out _ g4 R4 hS4).mono ?_
  rintro ev_ y168 ⟨rfl, hb169⟩
  have hS170 := nextB hS4 hb169
  refine hK.out _ _ hS170 (fun _ => ?_)
  clear hK K
  refine take_in 38 (v := ?vp171) rfl (some 65) rfl (by kernel_rfl) (by kernel_rfl) (by kernel_rfl) (fun _ _ _ h => (no_panic' h.1).elim) (Or.inl ⟨by rfl, ?hp171⟩) hS170 ?rp171
  case hp171 => (intro y hy; go_simp; with_reducible rfl)
  simp only [Act.put, List.setIfInBounds_toArray, List.set_cons_zero, List.set_cons_succ]
  refine take_in 39 (v := ?vp172) rfl (some 66) rfl (by kernel_rfl) (by kernel_rfl) (by kernel_rfl) (fun _ _ _ h => (no_panic' h.1).elim) (Or.inl ⟨by rfl, ?hp172⟩) hS170 ?rp172
  case hp172 => (intro y hy; go_simp; with_reducible rfl)
  simp only [Act.put, List.setIfInBounds_toArray, List.set_cons_zero, List.set_cons_succ]
  refine take_in 40 (v := ?vp173) rfl (some 67) rfl (by kernel_rfl) (by kernel_rfl) (by kernel_rfl) (fun _ _ _ h => (no_panic' h.1).elim) (Or.inl ⟨by rfl, ?hp173⟩) hS170 ?rp173
  case hp173 => (intro y hy; go_simp; with_reducible rfl)
  simp only [Act.put, List.setIfInBounds_toArray, List.set_cons_zero, List.set_cons_succ]
  refine take_in 43 (v := .agg #[.int .i64 0, .int .i64 3, .slice ab 2 cb]) rfl (some 70) rfl (by kernel_rfl) (by kernel_rfl) (by kernel_rfl) (fun _ _ _ h => (no_panic' h.1).elim) (yieldsIf_load_mid (by rfl) 30 _ rfl gb 0 rfl [.int .i64 0, .int .i64 3, .slice ab 2 cb] _ (fun y hy => HBR.out y hy) Try.underlying30 rfl Try.info30) hS170 ?_
  simp only [Act.put, List.setIfInBounds_toArray, List.set_cons_zero, List.set_cons_succ]
  refine join (fuel' := 8) (listed' := (((((((((((((((((((((((((((((((((((((((((((((Array.replicate 52 false).setIfInBounds 0 true).setIfInBounds 1 true).setIfInBounds 2 true).setIfInBounds 3 true).setIfInBounds 4 true).setIfInBounds 5 true).setIfInBounds 6 true).setIfInBounds 7 true).setIfInBounds 8 true).setIfInBounds 9 true).setIfInBounds 10 true).setIfInBounds 11 true).setIfInBounds 12 true).setIfInBounds 13 true).setIfInBounds 14 true).setIfInBounds 15 true).setIfInBounds 16 true).setIfInBounds 17 true).setIfInBounds 18 true).setIfInBounds 19 true).setIfInBounds 20 true).setIfInBounds 21 true).setIfInBounds 22 true).setIfInBounds 23 true).setIfInBounds 24 true).setIfInBounds 25 true).setIfInBounds 26 true).setIfInBounds 27 true).setIfInBounds 28 true).setIfInBounds 29 true).setIfInBounds 30 true).setIfInBounds 31 true).setIfInBounds 32 true).setIfInBounds 33 true).setIfInBounds 34 true).setIfInBounds 35 true).setIfInBounds 36 true).setIfInBounds 37 true).setIfInBounds 38 true).setIfInBounds 39 true).setIfInBounds 40 true).setIfInBounds 41 true).setIfInBounds 42 true).setIfInBounds 43 true)) (fun (g : Nat) => ⟨#[c0, lv, .pointer (some ⟨ga, 0, none⟩), .nilIface, .pointer (some ⟨gb, 0, none⟩), .nilIface, c6, ev, c8, c9, c10, c11, c12, c13, c14, c15, c16, c17, c18, c19, c20, c21, c22, c23, c24, c25, c26, .agg Y1, .slice (some ⟨g1, 0, none⟩) 9 9, .agg Y1, .bool true, .bool true, .slice (some ⟨g2, 0, none⟩) 1 1, .slice (some ⟨g2, 0, none⟩) 1 1, .agg Y2, .slice (some ⟨g3, 0, none⟩) 2 2, .agg Y2, .bool true, .bool true, .bool true, .nilIface, .bool true, .bool true, .bool true, .nilIface, .bool true, .bool true, .bool true, .pointer (some ⟨ga, 2, none⟩), .slice aa 1 ca, .int .i64 1, .bool true, .bool true, .bool true, .pointer (some ⟨gb, 2, none⟩), .slice ab 2 cb, .int .i64 2, .bool true, .bool true, .bool true, lv, .agg Y3, .slice (some ⟨g4, 0, none⟩) 1 1, .agg #[.int .i64 0, .int .i64 3, .slice ab 2 cb], .bool true, .bool true, .bool true, lv, .agg Y3, .slice (some ⟨g, 0, none⟩) 1 1, .agg #[.int .i64 0, .int .i64 3, .slice ab 2 cb], c71, c72, c73, c74, c75, c76, c77], []⟩) (fun (g : Nat) y => Below W.heap.size W y ∧ Row y g 5 (bys [2])) ?_ (fun HJ => ?_)
  rotate_left
  refine wpAnyH_ready (rs := [41, 42]) (by kernel_rfl) (by simp) ?_
  refine AllReadyH.cons rfl (fun K hK => ?_) (AllReadyH.cons rfl (fun K hK => ?_) AllReadyH.nil)
  · go_simp
    refine (C34.out _ hS170).mono ?_
    rintro ev_ y174 ⟨rfl, hb175⟩
    have hS176 := nextB hS170 hb175
    refine hK.out _ _ hS176 (fun _ => ?_)
    clear hK K
    refine wpAnyH_ready (rs := [42]) (by kernel_rfl) (by simp) ?_
    refine AllReadyH.cons rfl (fun K hK => ?_) AllReadyH.nil
    go_simp
    obtain ⟨y177, gg178, hy_, hg_, hb179, R180⟩ := new5 y174 [2] #[Value.int .u8 2] rfl
    rw [← hy_, ← hg_]
    have e182 : W.heap.size ≤ gg178 := by rw [hg_]; exact hS176.size
    clear hy_ hg_
    have hS181 := nextB hS176 hb179
    refine hK.out _ _ hS181 (fun _ => ?_)
    clear hK K
    refine listed_eq (by kernel_rfl) (HJ gg178 _ ⟨hS181, R180⟩)
  · go_simp
    obtain ⟨y183, gg184, hy_, hg_, hb185, R186⟩ := new5 y168 [2] #[Value.int .u8 2] rfl
    rw [← hy_, ← hg_]
    have e188 : W.heap.size ≤ gg184 := by rw [hg_]; exact hS170.size
    clear hy_ hg_
    have hS187 := nextB hS170 hb185
    refine hK.out _ _ hS187 (fun _ => ?_)
    clear hK K
    refine wpAnyH_ready (rs := [41]) (by kernel_rfl) (by simp) ?_
    refine AllReadyH.cons rfl (fun K hK => ?_) AllReadyH.nil
    go_simp
    refine (C34.out _ hS187).mono ?_
    rintro ev_ y189 ⟨rfl, hb190⟩
    have hS191 := nextB hS187 hb190
    have R192 := R186.below hb190 R186.lt
    refine hK.out _ _ hS191 (fun _ => ?_)
    clear hK K
    refine listed_eq (by kernel_rfl) (HJ gg184 _ ⟨hS191, R192⟩)
  rintro g5 y5 ⟨hS5, R5⟩
  refine wpAnyH_ready (rs := [44]) (by kernel_rfl) (by simp) ?_
  refine AllReadyH.cons rfl (fun K hK => ?_) AllReadyH.nil
  go_simp
  refine (C44.out _ g5 R5 hS5).mono ?_
  rintro ev_ y193 ⟨rfl, hb194⟩
  have hS195 := nextB hS5 hb194
  refine hK.out _ _ hS195 (fun _ => ?_)
  clear hK K
  refine take_in 45 (v := ?vp196) rfl (some 72) rfl (by kernel_rfl) (by kernel_rfl) (by kernel_rfl) (fun _ _ _ h => (no_panic' h.1).elim) (Or.inl ⟨by rfl, ?hp196⟩) hS195 ?rp196
  case hp196 => (intro y hy; go_simp; with_reducible rfl)
  simp only [Act.put, List.setIfInBounds_toArray, List.set_cons_zero, List.set_cons_succ]
  refine take_in 46 (v := ?vp197) rfl (some 73) rfl (by kernel_rfl) (by kernel_rfl) (by kernel_rfl) (fun _ _ _ h => (no_panic' h.1).elim) (Or.inl ⟨by rfl, ?hp197⟩) hS195 ?rp197
  case hp197 => (intro y hy; go_simp; with_reducible rfl)
  simp only [Act.put, List.setIfInBounds_toArray, List.set_cons_zero, List.set_cons_succ]
  refine take_in 47 (v := ?vp198) rfl (some 74) rfl (by kernel_rfl) (by kernel_rfl) (by kernel_rfl) (fun _ _ _ h => (no_panic' h.1).elim) (Or.inl ⟨by rfl, ?hp198⟩) hS195 ?rp198
  case hp198 => (intro y hy; go_simp; with_reducible rfl)
  simp only [Act.put, List.setIfInBounds_toArray, List.set_cons_zero, List.set_cons_succ]
  refine take_in 48 (v := ?vp199) rfl (some 75) rfl (by kernel_rfl) (by kernel_rfl) (by kernel_rfl) (fun _ _ _ h => (no_panic' h.1).elim) (Or.inl ⟨by rfl, ?hp199⟩) hS195 ?rp199
  case hp199 => (intro y hy; go_simp; with_reducible rfl)
  simp only [Act.put, List.setIfInBounds_toArray, List.set_cons_zero, List.set_cons_succ]
  refine wpAnyH_ready (rs := [49]) (by kernel_rfl) (by simp) ?_
  refine AllReadyH.cons rfl (fun K hK => ?_) AllReadyH.nil
  go_simp
  refine (C49.out _ hS195).mono ?_
  rintro ev_ y200 ⟨rfl, hb201⟩
  have hS202 := nextB hS195 hb201
  refine hK.out _ _ hS202 (fun _ => ?_)
  clear hK K
  refine take_in 50 (v := ?vp203) rfl (some 77) rfl (by kernel_rfl) (by kernel_rfl) (by kernel_rfl) (fun _ _ _ h => (no_panic' h.1).elim) (Or.inl ⟨by rfl, ?hp203⟩) hS202 ?rp203
  case hp203 => (intro y hy; go_simp; with_reducible rfl)
  simp only [Act.put, List.setIfInBounds_toArray, List.set_cons_zero, List.set_cons_succ]
  refine take_in 51 (v := ?vp204) rfl (some 0) rfl (by kernel_rfl) (by kernel_rfl) (by kernel_rfl) (fun _ _ _ h => (no_panic' h.1).elim) (Or.inl ⟨by rfl, ?hp204⟩) hS202 ?rp204
  case hp204 => (intro y hy; go_simp; with_reducible rfl)
  simp only [Act.put, List.setIfInBounds_toArray, List.set_cons_zero]
  refine wpAnyH_done (by kernel_rfl) ?_ _
  exact ⟨rfl, rfl, rfl, hQ _ hS202⟩
end Go.Proofs.Ytfkibbpekngciaa
