/-
  What package intent's bit and numbersOf answer.
-/
import Derived.Test.YthombepmlepgfaaDoorField
import Derived.Test.YthombepmlepgfaaDoorSpec
import Derived.RegionTactic
import Derived.Deep.RegionWith
import Derived.StillTailTactics
namespace Go.Proofs.YthombepmlepgfaaDoor
open Go.RowKit

/-- A record as a value. -/
def recC (r : Rc) : Array Value := #[.int .i64 r.kind, .int .i64 r.rev, .int .i64 r.cnt, .int .i64 r.delay, .int .i64 r.gen, .int .i64 r.tick, .bool r.pass, .int .i64 r.phase, .int .i64 r.active, .int .i64 r.r0, .int .i64 r.r1, .int .i64 r.w0, .int .i64 r.w1, .bool r.p0, .bool r.p1, .int .i64 r.sdelay, .int .i64 r.sgen, .int .i64 r.sw, .int .i64 r.flip]
def recV (r : Rc) : Value := .agg (recC r)
def arrV (l : List Int) : Value := .agg (ints l).toArray
theorem bit_any (b : Bool) (w : World) : Calls Tryd.prog 27 #[.bool b] w fun e w' => e = .returned (.int .i64 (bitI b)) ∧ w' = w := by
  cases b
  · go_enter Tryd.func27, Tryd.ntmps27
    go_wp2
    go_ret
    exact ⟨rfl, rfl⟩
  · go_enter Tryd.func27, Tryd.ntmps27
    go_wp2
    go_ret
    exact ⟨rfl, rfl⟩

/-- A goal's world under a name, with what is known of it. -/
theorem name_w {P : Program} {c : Code} {Q : Exit → Act → World → Prop} {a : Act} {W : World} (R : World → Prop) (hR : R W) (h : ∀ W', R W' → Code.wp P c Q a W') : Code.wp P c Q a W := h W hR
/-- A drawn region whose operations but the last ones only read: its world under a name. -/
theorem still_named {P : Program} {id : Nat} {Q : Exit → Act → World → Prop} {a : Act} {W : World} {l : List Oper} (n : Nat) (hm : P.follows .mixedOrders = true) (hB : Region.lexTailB .any l.toArray n = true) (R : World → Prop) (hR : R W.drew)
    (h : ∀ W2, R W2 → wpStill P l.toArray W2 (fun a' => wpList P l.toArray Q (l.drop n) a' W2) (l.take n) a) : (Code.region id l.toArray true).wp P Q a W :=
  wp_region_still_tail n hm hB (h _ hR)
theorem below_drew {B : Nat} {a W : World} (h : Below B a W) : Below B a W.drew := ⟨h.os, h.tape, h.output, h.size, h.block⟩
/-- Block b is just these cells. -/
def Rw (W : World) (b : Nat) (cs : Array Value) (t : TypeId) : Prop := W.heap[b]? = some (.cells cs t (0, 0))
theorem Rw.cell {W : World} {b : Nat} {cs : Array Value} {t : TypeId} (h : Rw W b cs t) (j : Nat) : W.cell? ⟨b, j, none⟩ = cs[j]? := cell_of_row W b j cs t _ h
theorem Rw.lt {W : World} {b : Nat} {cs : Array Value} {t : TypeId} (h : Rw W b cs t) : b < W.heap.size := lt_of_block h
theorem Rw.under {W W' : World} {b B : Nat} {cs : Array Value} {t : TypeId} (h : Rw W b cs t) (hb : Below B W W') (hB : b < B) : Rw W' b cs t := (hb.block b hB).trans h
theorem Rw.new (W : World) (cs : Array Value) (t : TypeId) : Rw (W.alloc (.cells cs t)) W.heap.size cs t := heap_alloc_new W _
theorem Rw.alloc {W : World} {b : Nat} {cs : Array Value} {t : TypeId} (h : Rw W b cs t) (o : Obj) : Rw (W.alloc o) b cs t := by
  show (W.heap.push o)[b]? = _
  rw [Array.getElem?_push, if_neg (Nat.ne_of_lt h.lt)]
  exact h
theorem Rw.drew {W : World} {b : Nat} {cs : Array Value} {t : TypeId} (h : Rw W b cs t) : Rw W.drew b cs t := h
theorem Rw.set {W : World} {b : Nat} {old : Array Value} {t : TypeId} (h : Rw W b old t) (cs : Array Value) : Rw (W.setRow b cs) b cs t := setRow_heap W b old cs t _ h
theorem Rw.fr {W : World} {b : Nat} {cs : Array Value} {t : TypeId} (h : Rw W b cs t) (i : Nat) : W.frozen? ⟨b, i, none⟩ = false := by
  unfold Rw at h
  simp [World.frozen?, h]
theorem setRow_block (W : World) (b k : Nat) (cs : Array Value) (hk : k ≠ b) : (W.setRow b cs).heap[k]? = W.heap[k]? := by
  unfold World.setRow
  simp only [Array.getElem?_modify]
  split
  · rename_i e; exact absurd e.symm hk
  · rfl
theorem below_setRow {B b : Nat} {a W : World} (h : Below B a W) (hB : B ≤ b) (cs : Array Value) : Below B a (W.setRow b cs) :=
  ⟨h.os, h.tape, h.output, by rw [size_setRow]; exact h.size, fun k hk => (setRow_block W b k cs (by omega)).trans (h.block k hk)⟩
theorem size_alloc (W : World) (o : Obj) : (W.alloc o).heap.size = W.heap.size + 1 := by simp
def stC (r : Rc) : Array Value := #[.int .i64 r.phase, .int .i64 r.active, .int .i64 r.r0, .int .i64 r.r1, .int .i64 r.w0, .int .i64 r.w1, .bool r.p0, .bool r.p1, .int .i64 r.sdelay, .int .i64 r.sgen, .int .i64 r.sw, .int .i64 r.flip]

set_option maxRecDepth 100000 in
set_option maxHeartbeats 4000000 in
theorem numbersOf_any (r : Rc) (w : World) : Calls Tryd.prog 16 #[recV r] w fun e w' => e = .returned (arrV r.all) ∧ Below w.heap.size w w' := by
  obtain ⟨k, rev, cnt, delay, gen, tick, pass, phase, active, r0, r1, w0, w1, p0, p1, sdelay, sgen, sw, flip⟩ := r
  unfold recV recC
  simp only
  have hB : Hid (∀ b W, Calls Tryd.prog 27 #[.bool b] W fun e w' => e = .returned (.int .i64 (bitI b)) ∧ w' = W) := Lib.hid bit_any
  go_enter Tryd.func16, Tryd.ntmps16
  go_wp2
  refine name_w (fun W => Rw W w.heap.size (recC ⟨k, rev, cnt, delay, gen, tick, pass, phase, active, r0, r1, w0, w1, p0, p1, sdelay, sgen, sw, flip⟩) 27 ∧ Rw W (w.heap.size + 1) (ints zeros).toArray 49 ∧ Rw W (w.heap.size + 1 + 1) (stC ⟨k, rev, cnt, delay, gen, tick, pass, phase, active, r0, r1, w0, w1, p0, p1, sdelay, sgen, sw, flip⟩) 25 ∧ Below w.heap.size w W) ⟨((Rw.new _ _ _).alloc _).alloc _, ?_, ?_, ?_⟩ ?_
  · have h1 := (Rw.new (w.alloc (.cells (recC ⟨k, rev, cnt, delay, gen, tick, pass, phase, active, r0, r1, w0, w1, p0, p1, sdelay, sgen, sw, flip⟩) 27)) (ints zeros).toArray 49).alloc (.cells (stC ⟨k, rev, cnt, delay, gen, tick, pass, phase, active, r0, r1, w0, w1, p0, p1, sdelay, sgen, sw, flip⟩) 25)
    rw [size_alloc] at h1
    exact h1
  · have h1 := Rw.new ((w.alloc (.cells (recC ⟨k, rev, cnt, delay, gen, tick, pass, phase, active, r0, r1, w0, w1, p0, p1, sdelay, sgen, sw, flip⟩) 27)).alloc (.cells (ints zeros).toArray 49)) (stC ⟨k, rev, cnt, delay, gen, tick, pass, phase, active, r0, r1, w0, w1, p0, p1, sdelay, sgen, sw, flip⟩) 25
    rw [size_alloc, size_alloc] at h1
    exact h1
  · exact (((Below.refl _ _).alloc (Nat.le_refl _) _).alloc (by simp) _).alloc (by simp; omega) _
  rintro W ⟨hR, hZ, hS, hBl⟩
  refine still_named 46 (by kernel_rfl) (by kernel_rfl) (fun W => Rw W _ _ 27 ∧ Rw W _ _ 49 ∧ Rw W _ _ 25 ∧ Below w.heap.size w W) ⟨hR, hZ, hS, below_drew hBl⟩ ?_
  clear hR hZ hS hBl W
  rintro W2 ⟨hR2, hZ, hS2, hBl⟩
  have hZ2 := Lib.hid hZ
  have hB2 := Lib.hid hBl
  clear hZ hBl
  simp only [List.take_succ_cons, List.take_zero, List.drop_succ_cons, List.drop_zero]
  have c1 := hR2.cell 1
  have c2 := hR2.cell 2
  have c3 := hR2.cell 3
  have c4 := hR2.cell 4
  have c5 := hR2.cell 5
  have c6 := hR2.cell 6
  have d0 := hS2.cell 0
  have d1 := hS2.cell 1
  have d2 := hS2.cell 2
  have d3 := hS2.cell 3
  have d4 := hS2.cell 4
  have d5 := hS2.cell 5
  have d6 := hS2.cell 6
  have d7 := hS2.cell 7
  have d8 := hS2.cell 8
  have d9 := hS2.cell 9
  have d10 := hS2.cell 10
  have d11 := hS2.cell 11
  simp [recC, stC] at c1 c2 c3 c4 c5 c6 d0 d1 d2 d3 d4 d5 d6 d7 d8 d9 d10 d11
  clear hR2 hS2
  repeat (first | still_call (hB.out _ _) | still_step)
  refine wpStill_nil ?_
  refine wpList_plain rfl fun _ hK => wp_store_row 49 _ _ rfl (w.heap.size + 1) _ rfl rfl 49 _ hZ2.out (by kernel_rfl) rfl (by simp [Value.oneCell']) (hK _ _ ?_)
  clear hK
  have hE := Lib.hid (hZ2.out.set (ints (Rc.all ⟨k, rev, cnt, delay, gen, tick, pass, phase, active, r0, r1, w0, w1, p0, p1, sdelay, sgen, sw, flip⟩)).toArray)
  have hBE := Lib.hid (below_setRow hB2.out (by omega) (b := w.heap.size + 1) (ints (Rc.all ⟨k, rev, cnt, delay, gen, tick, pass, phase, active, r0, r1, w0, w1, p0, p1, sdelay, sgen, sw, flip⟩)).toArray)
  go_wp2
  (try simp only [Exit.inBlock, Exit.then])
  refine bodyPost_ret (results_cell_row rfl _ _ (w.heap.size + 1) 49 (ints (Rc.all ⟨k, rev, cnt, delay, gen, tick, pass, phase, active, r0, r1, w0, w1, p0, p1, sdelay, sgen, sw, flip⟩)).toArray (0, 0) _ rfl hE.out Tryd.underlying49 rfl (by kernel_rfl)) rfl ?_
  exact ⟨rfl, hBE.out⟩
end Go.Proofs.YthombepmlepgfaaDoor
