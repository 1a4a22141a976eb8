/-
  The walks through errors.as, errors.As, errors.Is and package fault's own, New, Wrap, originOf, Code, Is, at an error that New and Wrap made, or nil.
-/
import Derived.Test.YtfpbilhangdccaaDoorErrs
import Derived.Lib.Hide
namespace Go.Proofs.YtfpbilhangdccaaDoor
open Go.RowKit Go.Extern.Stop Go.Stop Go.Extern

theorem below_both {B : Nat} {w x : World} (h : Below B w x) (p : Addr) (u : Value) : Below B (w.setCell p u) (x.setCell p u) :=
  ⟨h.os, h.tape, h.output, by simpa [World.setCell] using h.size, fun k hk => by simp only [World.setCell, Array.getElem?_modify]; rw [h.block k hk]⟩

/-- What errors.as is asked in: the target's own Value at block a, which points to the variable t. -/
structure AsIn (w : World) (a t : Nat) : Prop where
  val : w.cell? ⟨a, 0, none⟩ = some (.pointer (some ⟨t, 0, none⟩))
  var : w.cell? ⟨t, 0, none⟩ = some (.pointer none)
  free : w.frozen? ⟨t, 0, none⟩ = false

set_option maxHeartbeats 1000000 in
theorem as_any (a t o : Nat) (n : Int) (ps : List ByteArray) (v : Value) (w : World) (hi : AsIn w a t) (hc : Chn w o n ps v) :
    Calls Tryd.prog 26 #[v, .iface 54 (.pointer (some ⟨t, 0, none⟩)), .agg #[.pointer (some ⟨1, 54, none⟩), .pointer (some ⟨a, 0, none⟩), .int .u64 150], .iface 70 (.agg #[.pointer (some ⟨1, 42, none⟩)])] w fun e w' =>
      e = .returned (.bool true) ∧ w' = ((w.alloc (.cells #[.pointer (some ⟨1, 54, none⟩), .pointer (some ⟨a, 0, none⟩), .int .u64 150] 62)).setCell ⟨t, 0, none⟩ (.pointer (some ⟨o, 0, none⟩))).alloc (.cells #[.pointer (some ⟨o, 0, none⟩)] 42) := by
  have h21 := @run_callFunc_extern Tryd.prog 21 _ ReflectliteType.typeOf Tryd.func21 (by kernel_rfl) (by kernel_rfl) (by kernel_rfl) (by kernel_rfl)
  have h55 := @run_callFunc_extern Tryd.prog 55 _ (ReflectliteType.relation "AssignableTo" ReflectliteType.assignableTo) Tryd.func55 (by kernel_rfl) (by kernel_rfl) (by kernel_rfl) (by kernel_rfl)
  have h27 := @run_callFunc_extern Tryd.prog 27 _ (ReflectliteValue.method (ReflectliteValue.valueError "reflectlite.Value.Elem" 0) ReflectliteValue.elem) Tryd.func27 (by kernel_rfl) (by kernel_rfl) (by kernel_rfl) (by kernel_rfl)
  have h23 := @run_callFunc_extern Tryd.prog 23 _ (fun args => ReflectliteValue.unpack (args.getD 0 (.tuple #[]))) Tryd.func23 (by kernel_rfl) (by kernel_rfl) (by kernel_rfl) (by kernel_rfl)
  have h28 := @run_callFunc_extern Tryd.prog 28 _ ReflectliteValue.set Tryd.func28 (by kernel_rfl) (by kernel_rfl) (by kernel_rfl) (by kernel_rfl)
  have t42 := f_typeOf42
  have t47 := f_typeOf47
  have mA := f_methodAssignableTo
  have a42 := f_assignable42
  have a47 := f_assignable47
  have v42 := f_valueOf42
  have nA := f_noAs47
  have uW := f_unwrap47
  have mU := f_methodUnwrap47
  go_enter Tryd.func26, Tryd.ntmps26
  go_wp2
  go_loopg [0] ps.length (fun k x wr => Hid (wr = w.alloc (.cells #[.pointer (some ⟨1, 54, none⟩), .pointer (some ⟨a, 0, none⟩), .int .u64 150] 62)) ∧ ∃ qs : List ByteArray, Hid (qs.length = k) ∧ Chn wr o n qs x)
  case atStart =>
    exact ⟨Lib.hid rfl, ps, Lib.hid rfl, hc.under ((Below.refl _ _).alloc (Nat.le_refl _) _)⟩
  case round =>
    obtain ⟨HW, qs, HL, hq⟩ := hrel
    have va : wr.cell? ⟨a, 0, none⟩ = some (.pointer (some ⟨t, 0, none⟩)) := by rw [HW.out, World.cell?_alloc_lt _ _ _ (lt_of_cell hi.val)]; exact hi.val
    have vt : wr.cell? ⟨t, 0, none⟩ = some (.pointer none) := by rw [HW.out, World.cell?_alloc_lt _ _ _ (lt_of_cell hi.var)]; exact hi.var
    have ft : wr.frozen? ⟨t, 0, none⟩ = false := by rw [HW.out, World.frozen?_alloc_old _ _ _ (Nat.ne_of_lt (lt_of_cell hi.var))]; exact hi.free
    have b0 : wr.cell? ⟨w.heap.size, 0, none⟩ = some (.pointer (some ⟨1, 54, none⟩)) := by rw [HW.out]; simp
    have b1 : wr.cell? ⟨w.heap.size, 1, none⟩ = some (.pointer (some ⟨a, 0, none⟩)) := by rw [HW.out]; simp
    have b2 : wr.cell? ⟨w.heap.size, 2, none⟩ = some (.int .u64 150) := by rw [HW.out]; simp
    have el := f_elemV54 ⟨a, 0, none⟩ ⟨t, 0, none⟩ wr va
    cases hq with
    | org s h0 =>
      clear h0
      have hlt := lt_of_cell vt
      have st := f_set42 ⟨t, 0, none⟩ ⟨wr.heap.size, 0, none⟩ ⟨o, 0, none⟩ (.pointer none) (wr.alloc (.cells #[.pointer (some ⟨o, 0, none⟩)] 42)) (by simp) (by rw [World.cell?_alloc_lt _ _ _ hlt]; exact vt) (by rw [World.frozen?_alloc_old _ _ _ (Nat.ne_of_lt hlt)]; exact ft)
      go_wp2
      go_ret
      exact ⟨rfl, by rw [HW.out]⟩
    | on s b qs u h0 h =>
      have h1 : wr.cell? ⟨b, 1, none⟩ = some u := by rw [cell_of_row wr b 1 _ _ _ h0]; rfl
      clear h0
      obtain ⟨T, p, rfl, _⟩ := h.form
      go_wp2_with (go_at_call 50; refine (unwrap47 _ _ _ h1).mono ?_; rintro e w' ⟨rfl, rfl⟩)
      go_roundg qs.length
      case measure => have := HL.out; simp at this; omega
      case rel => exact ⟨HW, qs, Lib.hid rfl, h⟩

/-- The variable errors.errorType, as the row lays it. -/
def Gl (w : World) : Prop := w.cell? ⟨0, 0, none⟩ = some (.iface 70 (.agg #[.pointer (some ⟨1, 25, none⟩)]))
theorem Gl.under {w w' : World} (h : Gl w) (hb : Below w.heap.size w w') : Gl w' := (hb.cell (p := ⟨0, 0, none⟩) (lt_of_cell h)).trans h

set_option maxHeartbeats 1000000 in
theorem As_any (t o : Nat) (n : Int) (ps : List ByteArray) (v : Value) (w : World) (hg : Gl w) (vt : w.cell? ⟨t, 0, none⟩ = some (.pointer none)) (ft : w.frozen? ⟨t, 0, none⟩ = false) (hc : Chn w o n ps v) :
    Calls Tryd.prog 20 #[v, .iface 54 (.pointer (some ⟨t, 0, none⟩))] w fun e w' =>
      e = .returned (.bool true) ∧ Below w.heap.size (w.setCell ⟨t, 0, none⟩ (.pointer (some ⟨o, 0, none⟩))) w' := by
  have h23 := @run_callFunc_extern Tryd.prog 23 _ (fun args => ReflectliteValue.unpack (args.getD 0 (.tuple #[]))) Tryd.func23 (by kernel_rfl) (by kernel_rfl) (by kernel_rfl) (by kernel_rfl)
  have h24 := @run_callFunc_extern Tryd.prog 24 _ (ReflectliteValue.methodAny (ReflectliteValue.valueError "reflectlite.Value.Type" 0) (fun t _ _ _ => ReflectliteType.toType t)) Tryd.func24 (by kernel_rfl) (by kernel_rfl) (by kernel_rfl) (by kernel_rfl)
  have h25 := @run_callFunc_extern Tryd.prog 25 _ (ReflectliteValue.method (ReflectliteValue.valueError "reflectlite.Value.IsNil" 0) ReflectliteValue.isNil) Tryd.func25 (by kernel_rfl) (by kernel_rfl) (by kernel_rfl) (by kernel_rfl)
  have h43 := @run_callFunc_extern Tryd.prog 43 _ (ReflectliteType.abiMethod fun t => do pure (.int .u8 (← Rtype.kind t))) Tryd.func43 (by kernel_rfl) (by kernel_rfl) (by kernel_rfl) (by kernel_rfl)
  have h57 := @run_callFunc_extern Tryd.prog 57 _ (ReflectliteType.method ReflectliteType.elem) Tryd.func57 (by kernel_rfl) (by kernel_rfl) (by kernel_rfl) (by kernel_rfl)
  have h58 := @run_callFunc_extern Tryd.prog 58 _ (ReflectliteType.relation "Implements" ReflectliteType.implements_) Tryd.func58 (by kernel_rfl) (by kernel_rfl) (by kernel_rfl) (by kernel_rfl)
  have f6 := f_valueOf54
  have f7 := f_type54
  have mK := f_methodKind
  have mE := f_methodElem
  have mI := f_methodImplements
  have k54 := f_kind54
  have k42 := f_kind42
  have e54 := f_elem54
  have i42 := f_implements42
  have hlt := lt_of_cell vt
  have hg0 := lt_of_cell hg
  have n8 := f_isNil54 ⟨w.heap.size, 0, none⟩ ⟨t, 0, none⟩ ((w.alloc (.cells #[.pointer (some ⟨t, 0, none⟩)] 54)).alloc (.cells #[.pointer (some ⟨1, 54, none⟩), .pointer (some ⟨w.heap.size, 0, none⟩), .int .u64 150] 62)) (by simp)
  have hg2 : ((w.alloc (.cells #[.pointer (some ⟨t, 0, none⟩)] 54)).alloc (.cells #[.pointer (some ⟨1, 54, none⟩), .pointer (some ⟨w.heap.size, 0, none⟩), .int .u64 150] 62)).cell? ⟨0, 0, none⟩ = some (.iface 70 (.agg #[.pointer (some ⟨1, 25, none⟩)])) := by
    rw [World.cell?_alloc_lt _ _ ⟨0, 0, none⟩ (by simp), World.cell?_alloc_lt _ _ ⟨0, 0, none⟩ hg0]; exact hg
  have HC := Lib.hid hc
  have HV := Lib.hid vt
  have HF := Lib.hid ft
  clear hc vt ft
  obtain ⟨T, p, rfl, _⟩ := HC.out.form
  go_enter Tryd.func20, Tryd.ntmps20
  go_wp2_with (go_at_call 26; refine (as_any w.heap.size t o n ps _ _ ⟨by simp, by rw [World.cell?_alloc_lt _ _ _ (by simp; omega), World.cell?_alloc_lt _ _ _ hlt]; exact HV.out, by rw [World.frozen?_alloc_old _ _ _ (by simp; omega), World.frozen?_alloc_old _ _ _ (Nat.ne_of_lt hlt)]; exact HF.out⟩ (HC.out.under (((Below.refl _ _).alloc (Nat.le_refl _) _).alloc (by simp) _))).mono ?_; rintro e w' ⟨rfl, rfl⟩)
  go_ret
  refine ⟨rfl, ?_⟩
  exact (below_both ((((Below.refl _ _).alloc (Nat.le_refl _) _).alloc (by simp) _).alloc (by simp; omega) _) _ _).alloc (by simp; omega) _

set_option maxHeartbeats 400000 in
theorem originOf_any (o : Nat) (n : Int) (ps : List ByteArray) (v : Value) (w : World) (hg : Gl w) (hc : Chn w o n ps v) :
    Calls Tryd.prog 18 #[v] w fun e w' => e = .returned (.pointer (some ⟨o, 0, none⟩)) ∧ Below w.heap.size w w' := by
  have HC := Lib.hid hc
  have HG := Lib.hid hg
  clear hc hg
  go_enter Tryd.func18, Tryd.ntmps18
  go_wp2_with fail
  refine (As_any w.heap.size o n ps _ _ (HG.out.under ((Below.refl _ _).alloc (Nat.le_refl _) _)) (by simp) (by simp) (HC.out.under ((Below.refl _ _).alloc (Nat.le_refl _) _))).mono ?_
  rintro e w1 ⟨rfl, hb⟩
  have hv : w1.cell? ⟨w.heap.size, 0, none⟩ = some (.pointer (some ⟨o, 0, none⟩)) := by rw [hb.cell (p := ⟨w.heap.size, 0, none⟩) (by simp)]; simp [go_sem]
  go_wp2
  go_ret
  exact ⟨rfl, (((Below.refl _ _).alloc (Nat.le_refl _) _).setCell (Nat.le_refl _) _).trans (hb.mono (by simp))⟩

theorem f_a42_42 (v : Value) (xT : TypeId) (w : World) : (Instr.typeAssert (.iface 42 v) xT 42 true).run Tryd.prog w = .ok (.tuple #[v, .bool true]) w := by kernel_rfl
theorem f_a47_42 (v : Value) (xT : TypeId) (w : World) : (Instr.typeAssert (.iface 47 v) xT 42 true).run Tryd.prog w = .ok (.tuple #[.pointer none, .bool false]) w := by kernel_rfl
theorem f_a42_47 (v : Value) (xT : TypeId) (w : World) : (Instr.typeAssert (.iface 42 v) xT 47 true).run Tryd.prog w = .ok (.tuple #[.pointer none, .bool false]) w := by kernel_rfl
theorem f_a47_47 (v : Value) (xT : TypeId) (w : World) : (Instr.typeAssert (.iface 47 v) xT 47 true).run Tryd.prog w = .ok (.tuple #[v, .bool true]) w := by kernel_rfl
theorem f_anil_42 (xT : TypeId) (w : World) : (Instr.typeAssert .nilIface xT 42 true).run Tryd.prog w = .ok (.tuple #[.pointer none, .bool false]) w := by kernel_rfl
theorem f_anil_47 (xT : TypeId) (w : World) : (Instr.typeAssert .nilIface xT 47 true).run Tryd.prog w = .ok (.tuple #[.pointer none, .bool false]) w := by kernel_rfl

set_option maxHeartbeats 400000 in
theorem own_yes (o : Nat) (n : Int) (ps : List ByteArray) (v : Value) (w : World) (hc : Chn w o n ps v) :
    Calls Tryd.prog 17 #[v] w fun e w' => e = .returned (.bool true) ∧ w = w' := by
  have a1 := f_a42_42
  have a2 := f_a47_42
  have a3 := f_a42_47
  have a4 := f_a47_47
  cases hc with
  | org s h0 =>
    clear h0
    go_enter Tryd.func17, Tryd.ntmps17
    go_wp2
    go_ret
    exact ⟨rfl, rfl⟩
  | on s b ps u h0 h =>
    clear h0 h
    go_enter Tryd.func17, Tryd.ntmps17
    go_wp2
    go_ret
    exact ⟨rfl, rfl⟩

set_option maxHeartbeats 400000 in
theorem own_nil (w : World) : Calls Tryd.prog 17 #[.nilIface] w fun e w' => e = .returned (.bool false) ∧ w = w' := by
  have a1 := f_anil_42
  have a2 := f_anil_47
  go_enter Tryd.func17, Tryd.ntmps17
  go_wp2
  go_ret
  exact ⟨rfl, rfl⟩

set_option maxHeartbeats 400000 in
theorem new_ok (s : ByteArray) (w : World) : Calls Tryd.prog 9 #[.int .i64 0, .string s] w fun e w' => e = .returned .nilIface ∧ w = w' := by
  go_enter Tryd.func9, Tryd.ntmps9
  go_wp2
  go_ret
  exact ⟨rfl, rfl⟩

/-- What New and Wrap leave: a chain, in memory that has grown. -/
def Made (n : Int) (ps : List ByteArray) (w : World) (e : Ending) (w' : World) : Prop := ∃ o v, e = .returned v ∧ Chn w' o n ps v ∧ Below w.heap.size w w'

set_option maxHeartbeats 400000 in
theorem new_err (n : Int) (s : ByteArray) (w : World) (hn : (n == 0) = false) : Calls Tryd.prog 9 #[.int .i64 n, .string s] w (Made n [s] w) := by
  go_enter Tryd.func9, Tryd.ntmps9
  go_wp2
  go_ret
  exact ⟨w.heap.size, _, rfl, .org s (heap_alloc_new w _), (Below.refl _ _).alloc (Nat.le_refl _) _⟩

set_option maxHeartbeats 400000 in
theorem wrap_nil (s : ByteArray) (w : World) : Calls Tryd.prog 10 #[.nilIface, .string s] w fun e w' => e = .returned .nilIface ∧ w = w' := by
  go_enter Tryd.func10, Tryd.ntmps10
  go_wp2
  go_ret
  exact ⟨rfl, rfl⟩

set_option maxHeartbeats 400000 in
theorem wrap_err (o : Nat) (n : Int) (ps : List ByteArray) (v : Value) (s : ByteArray) (w : World) (hc : Chn w o n ps v) : Calls Tryd.prog 10 #[v, .string s] w (Made n (s :: ps) w) := by
  obtain ⟨T, p, rfl, _⟩ := hc.form
  have HC := Lib.hid hc
  clear hc
  go_enter Tryd.func10, Tryd.ntmps10
  go_wp2_with (go_at_call 17; refine (own_yes o n ps _ _ HC.out).mono ?_; rintro e w' ⟨rfl, rfl⟩)
  go_ret
  exact ⟨o, _, rfl, .on s w.heap.size ps _ (heap_alloc_new w _) (HC.out.under ((Below.refl _ _).alloc (Nat.le_refl _) _)), (Below.refl _ _).alloc (Nat.le_refl _) _⟩

set_option maxHeartbeats 400000 in
theorem code_nil (w : World) : Calls Tryd.prog 11 #[.nilIface] w fun e w' => e = .returned (.int .i64 0) ∧ w = w' := by
  go_enter Tryd.func11, Tryd.ntmps11
  go_wp2
  go_ret
  exact ⟨rfl, rfl⟩

set_option maxHeartbeats 400000 in
theorem code_err (o : Nat) (n : Int) (ps : List ByteArray) (v : Value) (w : World) (hg : Gl w) (hc : Chn w o n ps v) :
    Calls Tryd.prog 11 #[v] w fun e w' => e = .returned (.int .i64 n) ∧ Below w.heap.size w w' := by
  obtain ⟨T, p, rfl, _⟩ := hc.form
  obtain ⟨ho, h0⟩ := hc.olt
  have HC := Lib.hid hc
  have HG := Lib.hid hg
  clear hc hg
  go_enter Tryd.func11, Tryd.ntmps11
  go_wp2_with (go_at_call 17; refine (own_yes o n ps _ _ HC.out).mono ?_; rintro e w' ⟨rfl, rfl⟩)
  refine (originOf_any o n ps _ _ HG.out HC.out).mono ?_
  rintro e w1 ⟨rfl, hb⟩
  have h1 : w1.cell? ⟨o, 0, none⟩ = some (.int .i64 n) := (hb.cell (p := ⟨o, 0, none⟩) ho).trans h0
  go_wp2
  go_ret
  exact ⟨rfl, hb⟩

/-- Two numbers as errors: equal just if they are the same. -/
theorem eql43 (a b : Int) (w : World) : (binOp .eql 25 (.iface 43 (.int .i64 a)) (.iface 43 (.int .i64 b))).run Tryd.prog w = .ok (.bool (a == b)) w := by
  obtain ⟨i, hi, hc⟩ := Option.map_eq_some_iff.1 (show (Tryd.prog.info? 43).map (·.comparable) = some true by kernel_rfl)
  have h : ∀ d : Nat, (Op.equalIn (d + 2) 25 (.iface 43 (.int .i64 a)) (.iface 43 (.int .i64 b))).run Tryd.prog w = .ok (a == b) w := fun d => by
    simp [Op.equalIn, run_underlying Tryd.underlying25, run_underlying Tryd.underlying43, typeInfo, hi, hc]
  simp only [binOp]
  simp [Op.equal, Op.maxDepth, h 9998]

set_option maxHeartbeats 1000000 in
theorem is22_yes (b : Int) (w : World) :
    Calls Tryd.prog 22 #[.iface 43 (.int .i64 b), .iface 43 (.int .i64 b), .bool true] w fun e w' => e = .returned (.bool true) ∧ w = w' := by
  have heq := eql43
  go_enter Tryd.func22, Tryd.ntmps22
  go_wp2
  refine wp_loop_rounds 1 ?_
  rw [rounds_succ]
  go_wp2
  go_ret
  exact ⟨rfl, rfl⟩

set_option maxHeartbeats 1000000 in
theorem is22_no (a b : Int) (w : World) (h1 : (a == b) = false) :
    Calls Tryd.prog 22 #[.iface 43 (.int .i64 a), .iface 43 (.int .i64 b), .bool true] w fun e w' => e = .returned (.bool false) ∧ w = w' := by
  have nE := f_noIs43
  have uE := f_noUnwrap43
  have vE := f_noUnwraps43
  have heq := eql43
  go_enter Tryd.func22, Tryd.ntmps22
  go_wp2
  refine wp_loop_rounds 1 ?_
  rw [rounds_succ]
  go_wp2
  go_ret
  exact ⟨rfl, rfl⟩

theorem is22 (a b : Int) (w : World) :
    Calls Tryd.prog 22 #[.iface 43 (.int .i64 a), .iface 43 (.int .i64 b), .bool true] w fun e w' => e = .returned (.bool (a == b)) ∧ w = w' := by
  by_cases hab : a = b
  · subst hab
    rw [beq_self_eq_true]
    exact is22_yes a w
  · have h1 : (a == b) = false := by simpa using hab
    rw [h1]
    exact is22_no a b w h1

set_option maxHeartbeats 1000000 in
theorem errorsIs_num (a b : Int) (w : World) :
    Calls Tryd.prog 19 #[.iface 43 (.int .i64 a), .iface 43 (.int .i64 b)] w fun e w' => e = .returned (.bool (a == b)) ∧ w = w' := by
  have h21 := @run_callFunc_extern Tryd.prog 21 _ ReflectliteType.typeOf Tryd.func21 (by kernel_rfl) (by kernel_rfl) (by kernel_rfl) (by kernel_rfl)
  have h56 := @run_callFunc_extern Tryd.prog 56 _ comparableOf Tryd.func56 (by kernel_rfl) (by kernel_rfl) (by kernel_rfl) (by kernel_rfl)
  have tT := f_typeOf43
  have cT := f_comparable43
  have mR := f_methodComparable
  go_enter Tryd.func19, Tryd.ntmps19
  go_wp2_with (go_at_call 22; refine (is22 _ _ _).mono ?_; rintro e w' ⟨rfl, rfl⟩)
  go_ret
  exact ⟨rfl, rfl⟩

set_option maxHeartbeats 400000 in
theorem is_nil (m : Int) (w : World) : Calls Tryd.prog 13 #[.nilIface, .int .i64 m] w fun e w' => e = .returned (.bool (0 == m)) ∧ w = w' := by
  go_enter Tryd.func13, Tryd.ntmps13
  go_wp2_with (first | (go_at_call 11; refine (code_nil _).mono ?_; rintro e w' ⟨rfl, rfl⟩) | (go_at_call 19; refine (errorsIs_num _ _ _).mono ?_; rintro e w' ⟨rfl, rfl⟩))
  go_ret
  exact ⟨rfl, rfl⟩

set_option maxHeartbeats 400000 in
theorem is_err (o : Nat) (n m : Int) (ps : List ByteArray) (v : Value) (w : World) (hg : Gl w) (hc : Chn w o n ps v) :
    Calls Tryd.prog 13 #[v, .int .i64 m] w fun e w' => e = .returned (.bool (n == m)) ∧ Below w.heap.size w w' := by
  have HC := Lib.hid hc
  have HG := Lib.hid hg
  clear hc hg
  go_enter Tryd.func13, Tryd.ntmps13
  go_wp2_with (go_at_call 11; refine (code_err o n ps _ _ HG.out HC.out).mono ?_; rintro e w1 ⟨rfl, hb⟩)
  refine (errorsIs_num _ _ _).mono ?_
  rintro e w' ⟨rfl, rfl⟩
  go_wp2
  go_ret
  exact ⟨rfl, hb⟩

end Go.Proofs.YtfpbilhangdccaaDoor
