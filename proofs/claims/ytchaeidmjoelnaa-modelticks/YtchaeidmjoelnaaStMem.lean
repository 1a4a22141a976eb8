/-
  Structs that lie in one block, and loads and stores of them whole.
-/
import Derived.Test.YtchaeidmjoelnaaChecked
import Derived.Laws.BitsAllLaws
import Derived.Laws.Rows
import Derived.RowKit
import Derived.ProofKit
import Derived.WalkKit
import Derived.Lib.Hide
import Derived.Deep.LoopGhost
import Derived.Deep.QuietTactic
import Derived.BigQuiet
import Derived.IntWalk
import Derived.Deep.Cut
import Derived.StillTailTactics
import Derived.OneCell
import Derived.WalkSpells
namespace Go.Proofs.Ytchaeidmjoelnaa
open Go.RowKit

theorem lt_of_block {w : World} {g : Nat} {o : Obj} (h : w.heap[g]? = some o) : g < w.heap.size := by
  rcases Nat.lt_or_ge g w.heap.size with hlt | hge
  · exact hlt
  · rw [Array.getElem?_eq_none hge] at h; cases h
theorem below_drewN (B : Nat) (w : World) (n : Nat) : Below B w (w.drewN n) := ⟨rfl, rfl, rfl, Nat.le_refl _, fun _ _ => rfl⟩
/-- A goal's world under a name, with what is known of it. -/
theorem name_w {P : Program} {c : Code} {Q : Exit → Act → World → Prop} {a : Act} {W : World} (R : World → Prop) (hR : R W) (h : ∀ W', R W' → Code.wp P c Q a W') : Code.wp P c Q a W := h W hR
/-- A drawn region whose operations but the last ones only read: its world under a name. -/
theorem still_named {P : Program} {id : Nat} {Q : Exit → Act → World → Prop} {a : Act} {W : World} {l : List Oper} (n : Nat) (hm : P.follows .mixedOrders = true) (hB : Region.lexTailB .any l.toArray n = true) (R : World → Prop) (hR : R W.drew)
    (h : ∀ W2, R W2 → wpStill P l.toArray W2 (fun a' => wpList P l.toArray Q (l.drop n) a' W2) (l.take n) a) : (Code.region id l.toArray true).wp P Q a W :=
  wp_region_still_tail n hm hB (h _ hR)
theorem below_drew {B : Nat} {a W : World} (h : Below B a W) : Below B a W.drew := ⟨h.os, h.tape, h.output, h.size, h.block⟩
/-- Block b is just these cells. -/
def Rw (W : World) (b : Nat) (cs : Array Value) (t : TypeId) : Prop := W.heap[b]? = some (.cells cs t (0, 0))
theorem Rw.cell {W : World} {b : Nat} {cs : Array Value} {t : TypeId} (h : Rw W b cs t) (j : Nat) : W.cell? ⟨b, j, none⟩ = cs[j]? := cell_of_row W b j cs t _ h
theorem Rw.lt {W : World} {b : Nat} {cs : Array Value} {t : TypeId} (h : Rw W b cs t) : b < W.heap.size := lt_of_block h
theorem Rw.under {W W' : World} {b B : Nat} {cs : Array Value} {t : TypeId} (h : Rw W b cs t) (hb : Below B W W') (hB : b < B) : Rw W' b cs t := (hb.block b hB).trans h
theorem Rw.new (W : World) (cs : Array Value) (t : TypeId) : Rw (W.alloc (.cells cs t)) W.heap.size cs t := heap_alloc_new W _
theorem Rw.alloc {W : World} {b : Nat} {cs : Array Value} {t : TypeId} (h : Rw W b cs t) (o : Obj) : Rw (W.alloc o) b cs t := by
  show (W.heap.push o)[b]? = _
  rw [Array.getElem?_push, if_neg (Nat.ne_of_lt h.lt)]
  exact h
theorem Rw.drew {W : World} {b : Nat} {cs : Array Value} {t : TypeId} (h : Rw W b cs t) : Rw W.drew b cs t := h
theorem Rw.set {W : World} {b : Nat} {old : Array Value} {t : TypeId} (h : Rw W b old t) (cs : Array Value) : Rw (W.setRow b cs) b cs t := setRow_heap W b old cs t _ h
theorem Rw.fr {W : World} {b : Nat} {cs : Array Value} {t : TypeId} (h : Rw W b cs t) (i : Nat) : W.frozen? ⟨b, i, none⟩ = false := by
  unfold Rw at h
  simp [World.frozen?, h]
theorem setRow_block (W : World) (b k : Nat) (cs : Array Value) (hk : k ≠ b) : (W.setRow b cs).heap[k]? = W.heap[k]? := by
  unfold World.setRow
  simp only [Array.getElem?_modify]
  split
  · rename_i e; exact absurd e.symm hk
  · rfl
theorem below_setRow {B b : Nat} {a W : World} (h : Below B a W) (hB : B ≤ b) (cs : Array Value) : Below B a (W.setRow b cs) :=
  ⟨h.os, h.tape, h.output, by rw [size_setRow]; exact h.size, fun k hk => (setRow_block W b k cs (by omega)).trans (h.block k hk)⟩
theorem size_alloc (W : World) (o : Obj) : (W.alloc o).heap.size = W.heap.size + 1 := by simp
theorem below_setCell {B b f : Nat} {a W : World} (h : Below B a W) (hB : B ≤ b) (u : Value) : Below B a (W.setCell ⟨b, f, none⟩ u) :=
  ⟨h.os, h.tape, h.output, by simpa [World.setCell] using h.size, fun k hk => (Below.heap_setCell W ⟨b, f, none⟩ u k (by show k ≠ b; omega)).trans (h.block k hk)⟩
theorem results_cell_tmp {P : Program} {fn : Func} {p q : Tmp} {ty : TypeId} (h : fn.results = #[.cell p ty, .tmp q]) (tmps : Array Value) (w : World) (g : Nat) (t : TypeId) (cs : Array Value) (fr : Nat × Nat) (d : TypeDesc)
    (hp : tmps.getD p undef = .pointer (some ⟨g, 0, none⟩)) (hg : w.heap[g]? = some (.cells cs t fr))
    (hu : P.underlying ty = some d) (hd : (match d with | .struct _ | .array _ _ => true | _ => false) = true) (hi : (P.info? ty).map (·.size) = some cs.size) :
    (results fn tmps).run P w = .ok (.tuple #[.agg cs, tmps.getD q undef]) w := by
  have hp' : tmps[p]?.getD undef = .pointer (some ⟨g, 0, none⟩) := by simpa using hp
  simp [results, h, hp', asAddr, run_loadVar_row w g t ty cs fr d hg hu hd hi]
/-- A load of a whole block, where the operation is wanted. -/
theorem wpList_load_any {P : Program} {ops : Array Oper} {rest : List Oper} {o : Oper} {a : Act} {w : World} {Q : Exit → Act → World → Prop} (hw : Region.wanted o (yielded ops a.tmps) = true) (ty : TypeId) (x : Operand) (ho : o.op = .load ty x)
    (g : Nat) (hx : a.eval x = .pointer (some ⟨g, 0, none⟩)) (t : TypeId) (cs : Array Value) (fr : Nat × Nat) (d : TypeDesc) (hg : w.heap[g]? = some (.cells cs t fr))
    (hu : P.underlying ty = some d) (hd : (match d with | .struct _ | .array _ _ => true | _ => false) = true) (hi : (P.info? ty).map (·.size) = some cs.size)
    (h : wpList P ops Q rest (a.put o.dst (.agg cs)) w) : wpList P ops Q (o :: rest) a w :=
  wpList_step fun _ hK => by rw [if_pos hw]; exact wp_load_row ty x ho g hx t cs fr d hg hu hd hi (hK _ _ h)

end Go.Proofs.Ytchaeidmjoelnaa
