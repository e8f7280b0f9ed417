/-
  What errors.as and errors.is do to an error that lies in memory: the first fault, the first number, whether a number is in it.
-/
import Derived.Test.YtikogamonngbbaaDoorRep
namespace Go.Proofs.YtikogamonngbbaaDoor
open Go.RowKit Go.Extern.Stop Go.Stop Go.Extern Err
theorem unwrap_fault (b : Nat) (c a : Int) (e : Err) (w : World) (h : lies w (fault b c a e)) :
    Calls Tryd.prog 52 #[.pointer (some ⟨b, 0, none⟩)] w fun ev w' => ev = .returned (val e) ∧ w' = w := by
  obtain ⟨-, -, h2⟩ := cell_of h
  clear h
  generalize val e = u at h2 ⊢
  go_enter Tryd.func52, Tryd.ntmps52
  go_wp2
  go_ret
  exact ⟨rfl, rfl⟩
theorem unwrap_odd (u : Value) (w : World) :
    Calls Tryd.prog 54 #[.agg #[u]] w fun ev w' => ev = .returned u ∧ w' = w.alloc (.cells #[u] 41) := by
  go_enter Tryd.func54, Tryd.ntmps54
  go_wp2
  go_ret
  exact ⟨rfl, rfl⟩
theorem eqlNil (e : Err) (w : World) : (binOp .eql 25 (val e) .nilIface).run Tryd.prog w = .ok (.bool false) w := by
  cases e using four with
  | num c => rw [val_num]; kernel_rfl
  | bare => rw [val_bare]; kernel_rfl
  | odd e => rw [val_odd]; kernel_rfl
  | fault b c a e => rw [val_fault]; kernel_rfl
theorem guardNil (e : Err) (x : Operand) (w : World) : (eqGuard .eql 25 x (.const .nilIface) (val e) .nilIface).run Tryd.prog w = .ok () w := by
  cases e using four with
  | num c => rw [val_num]; cases x <;> kernel_rfl
  | bare => rw [val_bare]; cases x <;> kernel_rfl
  | odd e => rw [val_odd]; cases x <;> kernel_rfl
  | fault b c a e => rw [val_fault]; cases x <;> kernel_rfl
theorem first_val {x : Err} : ∀ {f : Err}, first x = some f → ∃ b c a e, f = fault b c a e := by
  induction x using ind with
  | num c => intro f h; cases h
  | bare => intro f h; cases h
  | odd e ih => exact fun h => ih h
  | fault b c a e => intro f h; exact ⟨b, c, a, e, (Option.some.inj h).symm⟩

/-- What is left where something was found, or nothing: the target is set, or not. -/
def laidIn (t : Addr) (r : Option Value) (w : World) : World :=
  match r with
  | none => w
  | some v => w.setCell t v
/-- What errors.as leaves: nothing found, or the target set. -/
def AsPost (w : World) (t : Addr) (r : Option Value) (ev : Ending) (w' : World) : Prop :=
  ev = .returned (.bool r.isSome) ∧ ∃ w1, Below w.heap.size w w1 ∧ w' = laidIn t r w1
theorem as_none {w w' : World} {t : Addr} {o : Obj} {r : Option Value} {ev : Ending} (hr : r = none) (he : ev = .returned (.bool false)) (hB : Below (w.heap.size + 1) (w.alloc o) w') : AsPost w t r ev w' := by
  subst hr
  exact ⟨he, w', (((Below.refl w.heap.size w).alloc (Nat.le_refl _) o).trans (hB.mono (Nat.le_succ _))), rfl⟩
theorem as_some {w w' : World} {t : Addr} {o : Obj} {r : Option Value} {v : Value} {ev : Ending} (hr : r = some v) (he : ev = .returned (.bool true)) (hB : Below (w.heap.size + 1) (w.alloc o) w') : AsPost w t r ev (w'.setCell t v) := by
  subst hr
  exact ⟨he, w', (((Below.refl w.heap.size w).alloc (Nat.le_refl _) o).trans (hB.mono (Nat.le_succ _))), rfl⟩
set_option maxHeartbeats 1000000 in
theorem as_fault (e : Err) (tv : Value) (t a : Addr) (old : Value) (w : World) (he : lies w e) (ha : w.cell? a = some (.pointer (some t))) (ht : w.cell? t = some old) (hf : w.frozen? t = false) :
    Calls Tryd.prog 28 #[val e, tv, .agg #[.pointer (some ⟨1, 48, none⟩), .pointer (some a), .int .u64 150], .iface 67 (.agg #[.pointer (some ⟨1, 34, none⟩)])] w (AsPost w t ((first e).map ptr)) := by
  have h25 := @run_callFunc_extern Tryd.prog 25 _ (fun args => ReflectliteValue.unpack (args.getD 0 (.tuple #[]))) Tryd.func25 (by kernel_rfl) (by kernel_rfl) (by kernel_rfl) (by kernel_rfl)
  have h29 := @run_callFunc_extern Tryd.prog 29 _ ReflectliteType.typeOf Tryd.func29 (by kernel_rfl) (by kernel_rfl) (by kernel_rfl) (by kernel_rfl)
  have h59 := @run_callFunc_extern Tryd.prog 59 _ (ReflectliteType.relation "AssignableTo" ReflectliteType.assignableTo) Tryd.func59 (by kernel_rfl) (by kernel_rfl) (by kernel_rfl) (by kernel_rfl)
  have h31 := @run_callFunc_extern Tryd.prog 31 _ (ReflectliteValue.method (ReflectliteValue.valueError "reflectlite.Value.Elem" 0) ReflectliteValue.elem) Tryd.func31 (by kernel_rfl) (by kernel_rfl) (by kernel_rfl) (by kernel_rfl)
  have h32 := @run_callFunc_extern Tryd.prog 32 _ ReflectliteValue.set Tryd.func32 (by kernel_rfl) (by kernel_rfl) (by kernel_rfl) (by kernel_rfl)
  have mA := Tryd.methodAssignableTo
  have hal := World.block_lt_of_cell? w a ha
  have htl := World.block_lt_of_cell? w t ht
  go_enter Tryd.func28, Tryd.ntmps28
  go_wp2
  go_loopg [0] (depth e) (fun k v wr => ∃ x : Err, v = val x ∧ lies wr x ∧ depth x ≤ k ∧ first x = first e ∧ Below (w.heap.size + 1) (w.alloc (.cells #[.pointer (some ⟨1, 48, none⟩), .pointer (some a), .int .u64 150] 55)) wr)
  case atStart =>
    exact ⟨e, rfl, lies_below ((Below.refl w.heap.size w).alloc (Nat.le_refl _) _) (Nat.le_refl _) he, Nat.le_refl _, rfl, Below.refl _ _⟩
  case round =>
    obtain ⟨x, rfl, hx, hd, hfst, hB⟩ := hrel
    have A : Aside (depth x ≤ gk ∧ first x = first e) := ⟨hd, hfst⟩
    clear hd hfst
    cases x using four with
    | num c =>
      have tO := Tryd.typeOf27
      have aA := Tryd.assignable27_34
      have n1 := Tryd.noAs27
      have n2 := Tryd.unwraps27
      have n3 := Tryd.many27
      simp only [val_num]
      go_wp2
      go_ret
      obtain ⟨-, hfst⟩ := A.out
      exact as_none (by rw [← hfst]; rfl) rfl hB
    | bare =>
      have tO := Tryd.typeOf41
      have aA := Tryd.assignable41_34
      have n1 := Tryd.noAs41
      have n2 := Tryd.unwraps41
      have mU := Tryd.methodUnwrap41
      simp only [val_bare]
      go_wp2_with (go_at_call 54; refine (unwrap_odd _ _).mono ?_; rintro e w' ⟨rfl, rfl⟩)
      go_ret
      obtain ⟨-, hfst⟩ := A.out
      exact as_none (by rw [← hfst]; rfl) rfl (hB.alloc (by have := hB.size; simpa using this) _)
    | odd e' =>
      have tO := Tryd.typeOf41
      have aA := Tryd.assignable41_34
      have n1 := Tryd.noAs41
      have n2 := Tryd.unwraps41
      have mU := Tryd.methodUnwrap41
      have nN := eqlNil e'
      have nG := guardNil e'
      simp only [val_odd]
      go_wp2_with (go_at_call 54; refine (unwrap_odd _ _).mono ?_; rintro e w' ⟨rfl, rfl⟩)
      obtain ⟨hd, hfst⟩ := A.out
      go_roundg (depth e')
      case measure => rw [depth_odd] at hd; omega
      case rel => exact ⟨e', rfl, lies_below ((Below.refl wr.heap.size wr).alloc (Nat.le_refl _) _) (Nat.le_refl _) hx, Nat.le_refl _, hfst, hB.alloc (by have := hB.size; simpa using this) _⟩
    | fault b c a' e' =>
      have tO := Tryd.typeOf34
      have aA := Tryd.assignable34_34
      have vO := Tryd.valueOf34
      have hsz := hB.size
      simp only [World.size_alloc] at hsz
      have q0 : wr.cell? ⟨w.heap.size, 0, none⟩ = some (.pointer (some ⟨1, 48, none⟩)) := by rw [hB.cell (by simp)]; simp
      have q1 : wr.cell? ⟨w.heap.size, 1, none⟩ = some (.pointer (some a)) := by rw [hB.cell (by simp)]; simp
      have q2 : wr.cell? ⟨w.heap.size, 2, none⟩ = some (.int .u64 150) := by rw [hB.cell (by simp)]; simp
      have qa : wr.cell? a = some (.pointer (some t)) := by rw [hB.cell (by omega), World.cell?_alloc_lt _ _ a hal]; exact ha
      have eV := Tryd.elemV48 a t wr qa
      have st := Tryd.set34 t ⟨wr.heap.size, 0, none⟩ ⟨b, 0, none⟩ old (wr.alloc (.cells #[.pointer (some ⟨b, 0, none⟩)] 34)) (by simp)
        (by rw [World.cell?_alloc_lt _ _ t (by omega), hB.cell (by omega), World.cell?_alloc_lt _ _ t htl]; exact ht)
        (by rw [World.frozen?_alloc_old _ _ t (by omega), hB.frozen (by omega), World.frozen?_alloc_old _ _ t (by omega)]; exact hf)
      simp only [val_fault]
      go_wp2
      go_ret
      obtain ⟨-, hfst⟩ := A.out
      exact as_some (by rw [← hfst]; rfl) rfl (hB.alloc (by omega) _)
set_option maxHeartbeats 1000000 in
theorem as_num (e : Err) (tv : Value) (t a : Addr) (old : Value) (w : World) (he : lies w e) (ha : w.cell? a = some (.pointer (some t))) (ht : w.cell? t = some old) (hf : w.frozen? t = false) :
    Calls Tryd.prog 28 #[val e, tv, .agg #[.pointer (some ⟨1, 49, none⟩), .pointer (some a), .int .u64 150], .iface 67 (.agg #[.pointer (some ⟨1, 27, none⟩)])] w (AsPost w t ((number e).map (Value.int .i64))) := by
  have h25 := @run_callFunc_extern Tryd.prog 25 _ (fun args => ReflectliteValue.unpack (args.getD 0 (.tuple #[]))) Tryd.func25 (by kernel_rfl) (by kernel_rfl) (by kernel_rfl) (by kernel_rfl)
  have h29 := @run_callFunc_extern Tryd.prog 29 _ ReflectliteType.typeOf Tryd.func29 (by kernel_rfl) (by kernel_rfl) (by kernel_rfl) (by kernel_rfl)
  have h59 := @run_callFunc_extern Tryd.prog 59 _ (ReflectliteType.relation "AssignableTo" ReflectliteType.assignableTo) Tryd.func59 (by kernel_rfl) (by kernel_rfl) (by kernel_rfl) (by kernel_rfl)
  have h31 := @run_callFunc_extern Tryd.prog 31 _ (ReflectliteValue.method (ReflectliteValue.valueError "reflectlite.Value.Elem" 0) ReflectliteValue.elem) Tryd.func31 (by kernel_rfl) (by kernel_rfl) (by kernel_rfl) (by kernel_rfl)
  have h32 := @run_callFunc_extern Tryd.prog 32 _ ReflectliteValue.set Tryd.func32 (by kernel_rfl) (by kernel_rfl) (by kernel_rfl) (by kernel_rfl)
  have mA := Tryd.methodAssignableTo
  have hal := World.block_lt_of_cell? w a ha
  have htl := World.block_lt_of_cell? w t ht
  go_enter Tryd.func28, Tryd.ntmps28
  go_wp2
  go_loopg [0] (depth e) (fun k v wr => ∃ x : Err, v = val x ∧ lies wr x ∧ depth x ≤ k ∧ number x = number e ∧ Below (w.heap.size + 1) (w.alloc (.cells #[.pointer (some ⟨1, 49, none⟩), .pointer (some a), .int .u64 150] 55)) wr)
  case atStart =>
    exact ⟨e, rfl, lies_below ((Below.refl w.heap.size w).alloc (Nat.le_refl _) _) (Nat.le_refl _) he, Nat.le_refl _, rfl, Below.refl _ _⟩
  case round =>
    obtain ⟨x, rfl, hx, hd, hfst, hB⟩ := hrel
    have A : Aside (depth x ≤ gk ∧ number x = number e) := ⟨hd, hfst⟩
    clear hd hfst
    cases x using four with
    | num c =>
      have tO := Tryd.typeOf27
      have aA := Tryd.assignable27_27
      have vO := Tryd.valueOf27
      have hsz := hB.size
      simp only [World.size_alloc] at hsz
      have q0 : wr.cell? ⟨w.heap.size, 0, none⟩ = some (.pointer (some ⟨1, 49, none⟩)) := by rw [hB.cell (by simp)]; simp
      have q1 : wr.cell? ⟨w.heap.size, 1, none⟩ = some (.pointer (some a)) := by rw [hB.cell (by simp)]; simp
      have q2 : wr.cell? ⟨w.heap.size, 2, none⟩ = some (.int .u64 150) := by rw [hB.cell (by simp)]; simp
      have qa : wr.cell? a = some (.pointer (some t)) := by rw [hB.cell (by omega), World.cell?_alloc_lt _ _ a hal]; exact ha
      have eV := Tryd.elemV49 a t wr qa
      have st := Tryd.set27 t ⟨wr.heap.size, 0, none⟩ c old (wr.alloc (.cells #[.int .i64 c] 27)) (by simp)
        (by rw [World.cell?_alloc_lt _ _ t (by omega), hB.cell (by omega), World.cell?_alloc_lt _ _ t htl]; exact ht)
        (by rw [World.frozen?_alloc_old _ _ t (by omega), hB.frozen (by omega), World.frozen?_alloc_old _ _ t (by omega)]; exact hf)
      simp only [val_num]
      go_wp2
      go_ret
      obtain ⟨-, hfst⟩ := A.out
      exact as_some (by rw [← hfst]; rfl) rfl (hB.alloc (by omega) _)
    | bare =>
      have tO := Tryd.typeOf41
      have aA := Tryd.assignable41_27
      have n1 := Tryd.noAs41
      have n2 := Tryd.unwraps41
      have mU := Tryd.methodUnwrap41
      simp only [val_bare]
      go_wp2_with (go_at_call 54; refine (unwrap_odd _ _).mono ?_; rintro e w' ⟨rfl, rfl⟩)
      go_ret
      obtain ⟨-, hfst⟩ := A.out
      exact as_none (by rw [← hfst]; rfl) rfl (hB.alloc (by have := hB.size; simpa using this) _)
    | odd e' =>
      have tO := Tryd.typeOf41
      have aA := Tryd.assignable41_27
      have n1 := Tryd.noAs41
      have n2 := Tryd.unwraps41
      have mU := Tryd.methodUnwrap41
      have nN := eqlNil e'
      have nG := guardNil e'
      simp only [val_odd]
      go_wp2_with (go_at_call 54; refine (unwrap_odd _ _).mono ?_; rintro e w' ⟨rfl, rfl⟩)
      obtain ⟨hd, hfst⟩ := A.out
      go_roundg (depth e')
      case measure => rw [depth_odd] at hd; omega
      case rel => exact ⟨e', rfl, lies_below ((Below.refl wr.heap.size wr).alloc (Nat.le_refl _) _) (Nat.le_refl _) hx, Nat.le_refl _, hfst, hB.alloc (by have := hB.size; simpa using this) _⟩
    | fault b c a' e' =>
      have tO := Tryd.typeOf34
      have aA := Tryd.assignable34_27
      have n1 := Tryd.noAs34
      have n2 := Tryd.unwraps34
      have mU := Tryd.methodUnwrap34
      have nN := eqlNil e'
      have nG := guardNil e'
      simp only [val_fault]
      go_wp2_with (go_at_call 52; refine (unwrap_fault b c a' e' _ hx).mono ?_; rintro e w' ⟨rfl, rfl⟩)
      obtain ⟨hd, hfst⟩ := A.out
      go_roundg (depth e')
      case measure => rw [depth_fault] at hd; omega
      case rel => exact ⟨e', rfl, (lies_fault hx).2.2, Nat.le_refl _, hfst, hB⟩

set_option maxHeartbeats 1000000 in
theorem is_any (e : Err) (k : Int) (w : World) (he : lies w e) :
    Calls Tryd.prog 30 #[val e, .iface 27 (.int .i64 k), .bool true] w fun ev w' => ev = .returned (.bool (has k e)) ∧ Below w.heap.size w w' := by
  go_enter Tryd.func30, Tryd.ntmps30
  go_wp2
  go_loopg [0] (depth e) (fun n v wr => ∃ x : Err, v = val x ∧ lies wr x ∧ depth x ≤ n ∧ has k x = has k e ∧ Below w.heap.size w wr)
  case atStart =>
    exact ⟨e, rfl, he, Nat.le_refl _, rfl, Below.refl _ _⟩
  case round =>
    obtain ⟨x, rfl, hx, hd, hfst, hB⟩ := hrel
    have A : Aside (depth x ≤ gk ∧ has k x = has k e) := ⟨hd, hfst⟩
    clear hd hfst
    cases x using four with
    | num c =>
      have q := Tryd.eql27 c k
      have n1 := Tryd.noIs27
      have n2 := Tryd.unwraps27
      have n3 := Tryd.many27
      simp only [val_num]
      by_cases hck : c = k
      · have hb : (c == k) = true := by simpa using hck
        clear hck
        go_wp2
        go_ret
        obtain ⟨-, hfst⟩ := A.out
        exact ⟨by rw [← hfst]; show _ = Ending.returned (.bool (c == k)); rw [hb]; rfl, hB⟩
      · have hb : (c == k) = false := by simpa using hck
        clear hck
        go_wp2
        go_ret
        obtain ⟨-, hfst⟩ := A.out
        exact ⟨by rw [← hfst]; show _ = Ending.returned (.bool (c == k)); rw [hb]; rfl, hB⟩
    | bare =>
      have q := Tryd.eql41_27
      have n1 := Tryd.noIs41
      have n2 := Tryd.unwraps41
      have mU := Tryd.methodUnwrap41
      simp only [val_bare]
      go_wp2_with (go_at_call 54; refine (unwrap_odd _ _).mono ?_; rintro e w' ⟨rfl, rfl⟩)
      go_ret
      obtain ⟨-, hfst⟩ := A.out
      exact ⟨by rw [← hfst]; rfl, hB.alloc hB.size _⟩
    | odd e' =>
      have q := Tryd.eql41_27
      have n1 := Tryd.noIs41
      have n2 := Tryd.unwraps41
      have mU := Tryd.methodUnwrap41
      have nN := eqlNil e'
      have nG := guardNil e'
      simp only [val_odd]
      go_wp2_with (go_at_call 54; refine (unwrap_odd _ _).mono ?_; rintro e w' ⟨rfl, rfl⟩)
      obtain ⟨hd, hfst⟩ := A.out
      go_roundg (depth e')
      case measure => rw [depth_odd] at hd; omega
      case rel => exact ⟨e', rfl, lies_below ((Below.refl wr.heap.size wr).alloc (Nat.le_refl _) _) (Nat.le_refl _) hx, Nat.le_refl _, hfst, hB.alloc hB.size _⟩
    | fault b c a' e' =>
      have q := Tryd.eql34_27
      have n1 := Tryd.noIs34
      have n2 := Tryd.unwraps34
      have mU := Tryd.methodUnwrap34
      have nN := eqlNil e'
      have nG := guardNil e'
      simp only [val_fault]
      go_wp2_with (go_at_call 52; refine (unwrap_fault b c a' e' _ hx).mono ?_; rintro e w' ⟨rfl, rfl⟩)
      obtain ⟨hd, hfst⟩ := A.out
      go_roundg (depth e')
      case measure => rw [depth_fault] at hd; omega
      case rel => exact ⟨e', rfl, (lies_fault hx).2.2, Nat.le_refl _, hfst, hB⟩
end Go.Proofs.YtikogamonngbbaaDoor
