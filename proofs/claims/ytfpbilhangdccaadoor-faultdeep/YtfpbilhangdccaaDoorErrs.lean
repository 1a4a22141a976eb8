/-
  What package fault's functions, and errors.Is and errors.As beneath them, answer of an error that New and Wrap made (a chain of blocks): own, New, Wrap, originOf, Code, Is. Nothing that was there before turns.
-/
import Derived.Test.YtfpbilhangdccaaDoorRows
import Derived.WalkKit
import Derived.LaidEql
import Derived.Stop.Asserts
import Derived.RowKitTokens
import Derived.Deep.LoopGhost
namespace Go.Proofs.YtfpbilhangdccaaDoor
open Go.RowKit Go.Extern.Stop Go.Stop Go.Extern

/-! Closed facts: what internal/reflectlite's entries give at the types 42 (*origin), 43 (number), 47 (*seen), 54 (**origin), 70 (rtype), 25 (error). -/
theorem f_valueOf54 (t : Addr) (w : World) : (ReflectliteValue.unpack (.iface 54 (.pointer (some t)))).run Tryd.prog w
    = .ok (.agg #[.pointer (some ⟨1, 54, none⟩), .pointer (some ⟨w.heap.size, 0, none⟩), .int .u64 150]) (w.alloc (.cells #[.pointer (some t)] 54)) := by kernel_rfl
theorem f_type54 (a : Addr) (w : World) : (ReflectliteValue.methodAny (ReflectliteValue.valueError "reflectlite.Value.Type" 0) (fun t _ _ _ => ReflectliteType.toType t) #[.agg #[.pointer (some ⟨1, 54, none⟩), .pointer (some a), .int .u64 150]]).run Tryd.prog w
    = .ok (.iface 70 (.agg #[.pointer (some ⟨1, 54, none⟩)])) w := by kernel_rfl
theorem f_methodKind (h : Value) (w : World) : (Go.method 213 70 (.agg #[h]) "Kind").run Tryd.prog w = .ok (43, h) w := by kernel_rfl
theorem f_kind54 (w : World) : ((ReflectliteType.abiMethod fun t => (fun a : Nat => Value.int IntKind.u8 (a : Int)) <$> Rtype.kind t) #[.pointer (some ⟨1, 54, none⟩)]).run Tryd.prog w = .ok (.int .u8 22) w := by kernel_rfl
theorem f_kind42 (w : World) : ((ReflectliteType.abiMethod fun t => (fun a : Nat => Value.int IntKind.u8 (a : Int)) <$> Rtype.kind t) #[.pointer (some ⟨1, 42, none⟩)]).run Tryd.prog w = .ok (.int .u8 22) w := by kernel_rfl
theorem f_methodElem (h : Value) (w : World) : (Go.method 213 70 (.agg #[h]) "Elem").run Tryd.prog w = .ok (57, .agg #[h]) w := by kernel_rfl
theorem f_methodImplements (h : Value) (w : World) : (Go.method 213 70 (.agg #[h]) "Implements").run Tryd.prog w = .ok (58, .agg #[h]) w := by kernel_rfl
theorem f_methodAssignableTo (h : Value) (w : World) : (Go.method 213 70 (.agg #[h]) "AssignableTo").run Tryd.prog w = .ok (55, .agg #[h]) w := by kernel_rfl
theorem f_methodComparable (h : Value) (w : World) : (Go.method 213 70 (.agg #[h]) "Comparable").run Tryd.prog w = .ok (56, .agg #[h]) w := by kernel_rfl
theorem f_elem54 (w : World) : (ReflectliteType.method ReflectliteType.elem #[.agg #[.pointer (some ⟨1, 54, none⟩)]]).run Tryd.prog w = .ok (.iface 70 (.agg #[.pointer (some ⟨1, 42, none⟩)])) w := by kernel_rfl
theorem f_implements42 (w : World) : (ReflectliteType.relation "Implements" ReflectliteType.implements_ #[.agg #[.pointer (some ⟨1, 42, none⟩)], .iface 70 (.agg #[.pointer (some ⟨1, 25, none⟩)])]).run Tryd.prog w = .ok (.bool true) w := by kernel_rfl
theorem f_typeOf42 (v : Value) (w : World) : (ReflectliteType.typeOf #[.iface 42 v]).run Tryd.prog w = .ok (.iface 70 (.agg #[.pointer (some ⟨1, 42, none⟩)])) w := by kernel_rfl
theorem f_typeOf47 (v : Value) (w : World) : (ReflectliteType.typeOf #[.iface 47 v]).run Tryd.prog w = .ok (.iface 70 (.agg #[.pointer (some ⟨1, 47, none⟩)])) w := by kernel_rfl
theorem f_typeOf43 (v : Value) (w : World) : (ReflectliteType.typeOf #[.iface 43 v]).run Tryd.prog w = .ok (.iface 70 (.agg #[.pointer (some ⟨1, 43, none⟩)])) w := by kernel_rfl
/-- The entry of (rtype).Comparable, by a name that no walk opens. -/
def comparableOf : Array Value → Sem Value := ReflectliteType.method fun t => do Rtype.noPackHeld "Comparable" t; pure (.bool (← typeInfo t).comparable)
theorem f_comparable43 (w : World) : (comparableOf #[.agg #[.pointer (some ⟨1, 43, none⟩)]]).run Tryd.prog w = .ok (.bool true) w := by kernel_rfl
theorem f_assignable42 (w : World) : (ReflectliteType.relation "AssignableTo" ReflectliteType.assignableTo #[.agg #[.pointer (some ⟨1, 42, none⟩)], .iface 70 (.agg #[.pointer (some ⟨1, 42, none⟩)])]).run Tryd.prog w = .ok (.bool true) w := by kernel_rfl
theorem f_assignable47 (w : World) : (ReflectliteType.relation "AssignableTo" ReflectliteType.assignableTo #[.agg #[.pointer (some ⟨1, 47, none⟩)], .iface 70 (.agg #[.pointer (some ⟨1, 42, none⟩)])]).run Tryd.prog w = .ok (.bool false) w := by kernel_rfl
theorem f_valueOf42 (e : Addr) (w : World) : (ReflectliteValue.unpack (.iface 42 (.pointer (some e)))).run Tryd.prog w
    = .ok (.agg #[.pointer (some ⟨1, 42, none⟩), .pointer (some ⟨w.heap.size, 0, none⟩), .int .u64 150]) (w.alloc (.cells #[.pointer (some e)] 42)) := by kernel_rfl
theorem f_noAs47 (v : Value) (xT : TypeId) (w : World) : (Instr.typeAssert (.iface 47 v) xT 80 true).run Tryd.prog w = .ok (.tuple #[.nilIface, .bool false]) w := run_typeAssert_lacksB Tryd.underlying80 (by kernel_rfl) (by kernel_rfl) v xT w
theorem f_unwrap47 (v : Value) (xT : TypeId) (w : World) : (Instr.typeAssert (.iface 47 v) xT 74 true).run Tryd.prog w = .ok (.tuple #[.iface 47 v, .bool true]) w := run_typeAssert_hasB Tryd.underlying74 (by kernel_rfl) v xT w
theorem f_methodUnwrap47 (v : Value) (w : World) : (Go.method 213 47 v "Unwrap").run Tryd.prog w = .ok (50, v) w := by kernel_rfl
theorem f_noIs43 (v : Value) (xT : TypeId) (w : World) : (Instr.typeAssert (.iface 43 v) xT 72 true).run Tryd.prog w = .ok (.tuple #[.nilIface, .bool false]) w := run_typeAssert_lacksB Tryd.underlying72 (by kernel_rfl) (by kernel_rfl) v xT w
theorem f_noUnwrap43 (v : Value) (xT : TypeId) (w : World) : (Instr.typeAssert (.iface 43 v) xT 74 true).run Tryd.prog w = .ok (.tuple #[.nilIface, .bool false]) w := run_typeAssert_lacksB Tryd.underlying74 (by kernel_rfl) (by kernel_rfl) v xT w
theorem f_noUnwraps43 (v : Value) (xT : TypeId) (w : World) : (Instr.typeAssert (.iface 43 v) xT 76 true).run Tryd.prog w = .ok (.tuple #[.nilIface, .bool false]) w := run_typeAssert_lacksB Tryd.underlying76 (by kernel_rfl) (by kernel_rfl) v xT w

/-! The entries that read or write memory. -/
theorem f_parts54 (a : Addr) (w : World) : (ReflectliteValue.parts (.agg #[.pointer (some ⟨1, 54, none⟩), .pointer (some a), .int .u64 150])).run Tryd.prog w = .ok (some (54, a, 150)) w := by kernel_rfl
theorem f_isNil54 (a p : Addr) (W : World) (ha : W.cell? a = some (.pointer (some p))) :
    (ReflectliteValue.method (ReflectliteValue.valueError "reflectlite.Value.IsNil" 0) ReflectliteValue.isNil #[.agg #[.pointer (some ⟨1, 54, none⟩), .pointer (some a), .int .u64 150]]).run Tryd.prog W = .ok (.bool false) W := by
  change Sem.run Tryd.prog (ReflectliteValue.parts (.agg #[.pointer (some ⟨1, 54, none⟩), .pointer (some a), .int .u64 150]) >>= _) W = _
  simp only [Sem.run_bind, f_parts54, Result.andThen]
  simp [ReflectliteValue.isNil, loadVar, isAgg, underlying, Tryd.underlying54, ha, Result.andThen]
theorem f_elemOf54 (w : World) : (Rtype.elem? 54).run Tryd.prog w = .ok (some 42) w := by kernel_rfl
theorem f_mk42 (p : Addr) (w : World) : (ReflectliteValue.mk 42 p ReflectliteValue.flagAddr).run Tryd.prog w = .ok (.agg #[.pointer (some ⟨1, 42, none⟩), .pointer (some p), .int .u64 406]) w := by kernel_rfl
theorem f_elemV54 (a p : Addr) (W : World) (ha : W.cell? a = some (.pointer (some p))) :
    (ReflectliteValue.method (ReflectliteValue.valueError "reflectlite.Value.Elem" 0) ReflectliteValue.elem #[.agg #[.pointer (some ⟨1, 54, none⟩), .pointer (some a), .int .u64 150]]).run Tryd.prog W
      = .ok (.agg #[.pointer (some ⟨1, 42, none⟩), .pointer (some p), .int .u64 406]) W := by
  change Sem.run Tryd.prog (ReflectliteValue.parts (.agg #[.pointer (some ⟨1, 54, none⟩), .pointer (some a), .int .u64 150]) >>= _) W = _
  simp only [Sem.run_bind, f_parts54, Result.andThen]
  simp [ReflectliteValue.elem, loadVar, isAgg, underlying, Tryd.underlying54, ha, Result.andThen, f_elemOf54, f_mk42]
theorem f_parts42a (a : Addr) (w : World) : (ReflectliteValue.parts (.agg #[.pointer (some ⟨1, 42, none⟩), .pointer (some a), .int .u64 406])).run Tryd.prog w = .ok (some (42, a, 406)) w := by kernel_rfl
theorem f_parts42 (a : Addr) (w : World) : (ReflectliteValue.parts (.agg #[.pointer (some ⟨1, 42, none⟩), .pointer (some a), .int .u64 150])).run Tryd.prog w = .ok (some (42, a, 150)) w := by kernel_rfl
theorem f_direct42 (w : World) : (Rtype.directlyAssignable 42 42).run Tryd.prog w = .ok true w := by kernel_rfl
theorem f_set42 (ta b e : Addr) (old : Value) (W : World) (hb : W.cell? b = some (.pointer (some e))) (ht : W.cell? ta = some old) (hf : W.frozen? ta = false) :
    (ReflectliteValue.set #[.agg #[.pointer (some ⟨1, 42, none⟩), .pointer (some ta), .int .u64 406], .agg #[.pointer (some ⟨1, 42, none⟩), .pointer (some b), .int .u64 150]]).run Tryd.prog W
      = .ok (.tuple #[]) (W.setCell ta (.pointer (some e))) := by
  change Sem.run Tryd.prog (ReflectliteValue.parts (.agg #[.pointer (some ⟨1, 42, none⟩), .pointer (some ta), .int .u64 406]) >>= fun x => ReflectliteValue.parts (.agg #[.pointer (some ⟨1, 42, none⟩), .pointer (some b), .int .u64 150]) >>= fun y => _) W = _
  simp only [Sem.run_bind, f_parts42a, f_parts42, Result.andThen]
  simp [ReflectliteValue.flagAddr, loadVar, isAgg, underlying, Tryd.underlying42, hb, Result.andThen, f_direct42, storeVar, Value.cells, storeCells, Addr.add]
  rw [run_store Tryd.prog W ta _ _ (by rfl)]
  simp [ht, hf]

/-! An error that New and Wrap made: blocks, one a place; the origin's block at the end. -/
inductive Chn (w : World) (o : Nat) (n : Int) : List ByteArray → Value → Prop
  | org (s : ByteArray) (h0 : w.heap[o]? = some (.cells #[.int .i64 n, .string s, .nilIface] 45 (0, 0))) : Chn w o n [s] (.iface 42 (.pointer (some ⟨o, 0, none⟩)))
  | on (s : ByteArray) (b : Nat) (ps : List ByteArray) (u : Value) (h0 : w.heap[b]? = some (.cells #[.string s, u] 49 (0, 0))) (h : Chn w o n ps u) : Chn w o n (s :: ps) (.iface 47 (.pointer (some ⟨b, 0, none⟩)))

theorem lt_of_cell {w : World} {b k : Nat} {v : Value} (h : w.cell? ⟨b, k, none⟩ = some v) : b < w.heap.size := by
  rcases Nat.lt_or_ge b w.heap.size with hlt | hge
  · exact hlt
  · simp [World.cell?, Array.getElem?_eq_none hge] at h
theorem lt_of_block {w : World} {b : Nat} {x : Obj} (h : w.heap[b]? = some x) : b < w.heap.size := by
  rcases Nat.lt_or_ge b w.heap.size with hlt | hge
  · exact hlt
  · rw [Array.getElem?_eq_none hge] at h; cases h

theorem Chn.keep {w w' : World} {o : Nat} {n : Int} {ps : List ByteArray} {v : Value} (h : Chn w o n ps v) (hk : ∀ (b : Nat) (cs : Array Value) (t : TypeId), w.heap[b]? = some (.cells cs t (0, 0)) → (t = 45 ∨ t = 49) → w'.heap[b]? = w.heap[b]?) : Chn w' o n ps v := by
  induction h with
  | org s h0 => exact .org s ((hk _ _ _ h0 (.inl rfl)).trans h0)
  | on s b ps u h0 _ ih => exact .on s b ps u ((hk _ _ _ h0 (.inr rfl)).trans h0) ih

theorem Chn.under {w w' : World} {o : Nat} {n : Int} {ps : List ByteArray} {v : Value} (h : Chn w o n ps v) (hb : Below w.heap.size w w') : Chn w' o n ps v :=
  h.keep fun b _ _ hh _ => hb.block b (lt_of_block hh)

/-- A chain stays while a row of other elements is appended to. -/
theorem Chn.grown {w w' : World} {o : Nat} {n : Int} {ps : List ByteArray} {v : Value} {row : Option Nat} (h : Chn w o n ps v) (hg : w.grownBy w' row) (hr : ∀ g : Nat, row = some g → ∃ (cs : Array Value) (t : TypeId), w.heap[g]? = some (.cells cs t (0, 0)) ∧ t ≠ 45 ∧ t ≠ 49) : Chn w' o n ps v :=
  h.keep fun b cs t hh ht => hg.block b (lt_of_block hh) fun e => by
    obtain ⟨cs', t', h', n1, n2⟩ := hr b e.symm
    rw [hh] at h'
    injection h' with h'
    injection h' with _ h'
    subst h'
    rcases ht with rfl | rfl
    · exact n1 rfl
    · exact n2 rfl

theorem Chn.olt {w : World} {o : Nat} {n : Int} {ps : List ByteArray} {v : Value} (h : Chn w o n ps v) : o < w.heap.size ∧ w.cell? ⟨o, 0, none⟩ = some (.int .i64 n) := by
  induction h with
  | org s h0 => exact ⟨lt_of_block h0, by rw [cell_of_row w o 0 _ _ _ h0]; rfl⟩
  | on s b ps u h0 _ ih => exact ih

theorem Chn.form {w : World} {o : Nat} {n : Int} {ps : List ByteArray} {v : Value} (h : Chn w o n ps v) : ∃ T p, v = .iface T (.pointer (some p)) ∧ (T = 42 ∨ T = 47) := by
  cases h with
  | org s h0 => exact ⟨42, _, rfl, .inl rfl⟩
  | on s b ps u h0 h => exact ⟨47, _, rfl, .inr rfl⟩

set_option maxHeartbeats 400000 in
theorem unwrap47 (b : Nat) (u : Value) (w : World) (h1 : w.cell? ⟨b, 1, none⟩ = some u) :
    Calls Tryd.prog 50 #[.pointer (some ⟨b, 0, none⟩)] w fun e w' => e = .returned u ∧ w = w' := by
  go_enter Tryd.func50, Tryd.ntmps50
  go_wp2
  go_ret
  exact ⟨rfl, rfl⟩

end Go.Proofs.YtfpbilhangdccaaDoor
