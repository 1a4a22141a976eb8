/-
  Plain facts of a slot's replicas: l says which of the wanted ones are ready.
  Acts that came in.
  The document's own Set in memory: its block, its list.
  The document's own Set: Scale, Ready, Count, Full.
-/
import Derived.Test.YtchaeidmjoelnaaGreatFoC
import Derived.Test.YtchaeidmjoelnaaGreatRows
import Derived.WalkKit
import Derived.Below
import Derived.Lib.Hide
import Derived.ChangeSame
import Derived.ChangeVars
import Derived.JoinedOf
import Derived.RowKit
import Derived.RowKitTokens
import Derived.LaidLaws
import Derived.Stop.Joined
import Derived.Carry
import Derived.ProofKit
import Derived.OpenShut
import Derived.ChangeMaps5
import Derived.Deep.Slices
import Derived.OneCell
import Derived.Deep.AppendLies
import Derived.Laws.AppendOwnNone
import Derived.Laws.OwnMore
import Derived.IntWalk
import Derived.Great.BuildSlice
import Derived.Deep.LoopGhost
import Derived.Deep.QuietTactic
import Derived.BigQuiet
namespace Go.Proofs.YtchaeidmjoelnaaGreat

/-- How many are ready. -/
def cntL (l : List Bool) : Nat := l.countP id
/-- The first i of them, and others that are not. -/
def padL (l : List Bool) (i : Nat) : List Bool := l.take i ++ List.replicate (i - l.length) false
def clampN (n : Int) : Nat := (min (max n 0) 32).toNat
theorem clampN_le (n : Int) : clampN n ≤ 32 := by unfold clampN; omega
/-- So many are wanted. -/
def scaleL (l : List Bool) (n : Int) : List Bool := padL l (clampN n)
def isW (l : List Bool) (i : Int) : Prop := 0 ≤ i ∧ i < l.length
instance (l : List Bool) (i : Int) : Decidable (isW l i) := by unfold isW; infer_instance
/-- One of them is ready, or isn't. -/
def readyL (l : List Bool) (i : Int) (on : Bool) : List Bool := if isW l i then l.set i.toNat on else l
def fullL (l : List Bool) : Bool := decide (0 < l.length) && decide (cntL l = l.length)
theorem padL_len (l : List Bool) (i : Nat) : (padL l i).length = i := by unfold padL; simp; omega
theorem scaleL_len (l : List Bool) (n : Int) : (scaleL l n).length = clampN n := padL_len l _
theorem readyL_len (l : List Bool) (i : Int) (on : Bool) : (readyL l i on).length = l.length := by
  unfold readyL
  by_cases h : isW l i
  · rw [if_pos h, List.length_set]
  · rw [if_neg h]
theorem padL_zero (l : List Bool) : padL l 0 = [] := by unfold padL; simp
theorem padL_succ (l : List Bool) (i : Nat) : padL l (i + 1) = padL l i ++ [l.getD i false] := by
  unfold padL
  by_cases h : i < l.length
  · have e1 : i + 1 - l.length = 0 := by omega
    have e2 : i - l.length = 0 := by omega
    rw [e1, e2, List.take_add_one, List.getD_eq_getElem?_getD, List.getElem?_eq_getElem h]
    simp
  · have e1 : i + 1 - l.length = (i - l.length) + 1 := by omega
    rw [e1, List.replicate_succ', List.take_of_length_le (by omega), List.take_of_length_le (by omega), List.getD_eq_getElem?_getD, List.getElem?_eq_none (by omega)]
    simp
theorem padL_at (l : List Bool) (i k : Nat) : (padL l i).getD k false = if k < i then l.getD k false else false := by
  simp only [List.getD_eq_getElem?_getD]
  unfold padL
  rw [List.getElem?_append]
  by_cases h1 : k < i
  · rw [if_pos h1]
    by_cases h2 : k < l.length
    · rw [if_pos (by simp; omega), List.getElem?_take_of_lt h1]
    · rw [if_neg (by simp; omega), List.getElem?_eq_none (l := l) (by omega)]
      rw [List.getElem?_replicate]
      split <;> rfl
  · rw [if_neg h1]
    rw [if_neg (by simp; omega), List.getElem?_replicate]
    split <;> rfl
theorem cnt_le (l : List Bool) : cntL l ≤ l.length := List.countP_le_length
theorem cnt_nil : cntL [] = 0 := rfl
theorem cnt_take_succ (l : List Bool) (k : Nat) (h : k < l.length) : cntL (l.take (k + 1)) = cntL (l.take k) + (if l.getD k false = true then 1 else 0) := by
  have e : l.getD k false = l[k] := by simp [List.getD_eq_getElem?_getD, h]
  rw [e]
  unfold cntL
  rw [List.take_add_one, List.getElem?_eq_getElem h, List.countP_append]
  cases l[k] <;> rfl
theorem set_getD (l : List Bool) (i k : Nat) (on : Bool) (h : i < l.length) : (l.set i on).getD k false = if k = i then on else l.getD k false := by
  simp only [List.getD_eq_getElem?_getD, List.getElem?_set]
  by_cases h1 : i = k
  · subst h1
    rw [if_pos rfl, if_pos h, if_pos rfl]
    rfl
  · rw [if_neg h1, if_neg (fun e => h1 e.symm)]
theorem ready_getD (l : List Bool) (i : Int) (k : Nat) (on : Bool) : (readyL l i on).getD k false = if isW l i ∧ (k : Int) = i then on else l.getD k false := by
  unfold readyL
  by_cases h : isW l i
  · rw [if_pos h, set_getD _ _ _ _ (by unfold isW at h; omega)]
    by_cases h1 : (k : Int) = i
    · rw [if_pos (by omega), if_pos ⟨h, h1⟩]
    · rw [if_neg (by unfold isW at h; omega), if_neg (fun h2 => h1 h2.2)]
  · rw [if_neg h, if_neg (fun h2 => h h2.1)]
theorem cnt_set (l : List Bool) : ∀ (i : Nat) (on : Bool), i < l.length → cntL (l.set i on) + (if l.getD i false = true then 1 else 0) = cntL l + (if on = true then 1 else 0) := by
  induction l with
  | nil => intro i on h; simp at h
  | cons x xs ih =>
    intro i on h
    cases i with
    | zero =>
      show cntL (on :: xs) + (if x = true then 1 else 0) = _
      unfold cntL
      cases x <;> cases on <;> simp
    | succ i =>
      have h2 := ih i on (by simpa using h)
      show cntL (x :: xs.set i on) + (if xs.getD i false = true then 1 else 0) = _
      unfold cntL at h2 ⊢
      rw [List.countP_cons, List.countP_cons]
      omega
theorem ext_getD {l m : List Bool} (hl : l.length = m.length) (h : ∀ k, l.getD k false = m.getD k false) : l = m := by
  apply List.ext_getElem hl
  intro k h1 h2
  have := h k
  simpa [List.getD_eq_getElem?_getD, List.getElem?_eq_getElem h1, List.getElem?_eq_getElem h2] using this
end Go.Proofs.YtchaeidmjoelnaaGreat
namespace Go.Proofs.YtchaeidmjoelnaaGreat
open Go.ChangeShapes Go.WideShapes Go.ChangeAt Go.RowKit

theorem k3 : Tryz.prog.cellsOf 3 = 1 := by kernel_rfl
theorem k28 : Tryz.prog.cellsOf 30 = 2 := by kernel_rfl
theorem k4 : Tryz.prog.cellsOf 4 = 1 := by kernel_rfl
theorem addr_add (b off : Nat) : ∀ i, (⟨b, off, none⟩ : Addr).add i = ⟨b, off + i, none⟩ := fun i => by unfold Addr.add; split <;> simp_all
section
variable {H : Type} {enc : TypeId × Value → H} {W : World} {n : Nat}
theorem one_int {v : Value} {x : DataW H × List MemPlace} (h : DataW.trod enc Tryz.prog W 0 (fun _ => true) true n 3 [v] = some x) : ∃ a, v = .int .i64 a ∧ Fits a := by
  obtain ⟨a, h1, _, h2⟩ := DataW.trod_int Tryz.underlying3 h
  exact ⟨a, by simpa using h1, bounds_i64 h2⟩
theorem one_bool {v : Value} {x : DataW H × List MemPlace} (h : DataW.trod enc Tryz.prog W 0 (fun _ => true) true n 4 [v] = some x) : ∃ a, v = .bool a := by
  obtain ⟨a, h1, _⟩ := DataW.trod_bool Tryz.underlying4 h
  exact ⟨a, by simpa using h1⟩
theorem one_two {v u : Value} {x : DataW H × List MemPlace} (h : DataW.trod enc Tryz.prog W 0 (fun _ => true) true n 30 [v, u] = some x) : ∃ a b, v = .int .i64 a ∧ u = .int .i64 b ∧ Fits a ∧ Fits b := by
  obtain ⟨ys, m, _, _, hl, hyl, hi⟩ := DataW.trod_array Tryz.underlying30 h
  match ys, hyl with
  | [y0, y1], _ =>
    have g0 := hi 0 (by omega)
    have g1 := hi 1 (by omega)
    simp [k3] at g0 g1
    obtain ⟨a, rfl, w0⟩ := one_int g0
    obtain ⟨b, rfl, w1⟩ := one_int g1
    exact ⟨a, b, rfl, rfl, w0, w1⟩
end
end Go.Proofs.YtchaeidmjoelnaaGreat
namespace Go.Proofs.YtchaeidmjoelnaaGreat
open Go.RowKit

theorem heap_setCell_same (W : World) (b i : Nat) (cur : Array Value) (t : TypeId) (u : Value) (h : W.heap[b]? = some (.cells cur t (0, 0))) : (W.setCell ⟨b, i, none⟩ u).heap[b]? = some (.cells (cur.setIfInBounds i u) t (0, 0)) := by
  simp [World.setCell, Array.getElem?_modify, h]
theorem below_alloc (W : World) (o : Obj) : Below W.heap.size W (W.alloc o) := (Below.refl _ _).alloc (Nat.le_refl _) _
def bools (l : List Bool) : List Value := l.map Value.bool
theorem bools_len (l : List Bool) : (bools l).length = l.length := List.length_map _
theorem bools_at (l : List Bool) (k : Nat) (h : k < l.length) : (bools l)[k]? = some (.bool (l.getD k false)) := by simp [bools, h, List.getD_eq_getElem?_getD]
theorem bools_append (l m : List Bool) : bools (l ++ m) = bools l ++ bools m := List.map_append ..
theorem bools_one (l : List Bool) : ∀ u ∈ bools l, u.oneCell' = true := by
  intro u hu
  obtain ⟨x, _, rfl⟩ := List.mem_map.1 hu
  rfl
/-- A slice that reads as these, in memory of its own from block B on. -/
def OwnL (B : Nat) (W : World) (v : Value) (l : List Bool) : Prop := W.ownsRow B 4 1 v l.length (bools l)
theorem OwnL.shape {B : Nat} {W : World} {v : Value} {l : List Bool} (h : OwnL B W v l) : ∃ A c, v = .slice A l.length c := by
  rcases h.2 with ⟨rfl, hn⟩ | ⟨g, cap, cur, rfl, _⟩
  · exact ⟨none, 0, by rw [hn]⟩
  · exact ⟨_, _, rfl⟩
theorem OwnL.shape3 {B : Nat} {W : World} {v : Value} {l : List Bool} (h : OwnL B W v l) : ∃ A n c, v = .slice A n c := by
  obtain ⟨A, c, h⟩ := h.shape
  exact ⟨A, _, c, h⟩
/-- Where it lies, and that it may be written. -/
theorem OwnL.kth {B : Nat} {W : World} {A : Option Addr} {c : Nat} {l : List Bool} (h : OwnL B W (.slice A l.length c) l) {k : Nat} (hk : k < l.length) : ∃ g, A = some ⟨g, 0, none⟩ ∧ B ≤ g ∧ W.cell? ⟨g, k, none⟩ = some (.bool (l.getD k false)) ∧ W.frozen? ⟨g, k, none⟩ = false := by
  rcases h.2 with ⟨hv, hn⟩ | ⟨g, cap, cur, hv, hB, hg, hn, hc, hs, ht⟩
  · simp at hv; omega
  · simp only [Value.slice.injEq] at hv
    obtain ⟨rfl, _, _⟩ := hv
    refine ⟨g, rfl, hB, ?_, by simp [World.frozen?, hg]⟩
    rw [cell_of_row W g _ cur 4 (0, 0) hg]
    have h1 := bools_at l k hk
    rw [← ht, List.getElem?_take_of_lt (by omega)] at h1
    simpa using h1
theorem OwnL.set {B : Nat} {W : World} {g c : Nat} {l : List Bool} (h : OwnL B W (.slice (some ⟨g, 0, none⟩) l.length c) l) (k : Nat) (x : Bool) : OwnL B (W.setCell ⟨g, k, none⟩ (.bool x)) (.slice (some ⟨g, 0, none⟩) (l.set k x).length c) (l.set k x) := by
  refine ⟨by rw [bools_len, Nat.mul_one], ?_⟩
  rcases h.2 with ⟨hv, hn⟩ | ⟨g', cap, cur, hv, hB, hg, hn, hc, hs, ht⟩
  · simp at hv
  · simp only [Value.slice.injEq, Option.some.injEq, Addr.mk.injEq, and_true, true_and] at hv
    obtain ⟨rfl, rfl⟩ := hv
    refine .inr ⟨g, c, cur.setIfInBounds k (.bool x), by rw [List.length_set], hB, heap_setCell_same W g k cur 4 _ hg, by rw [List.length_set]; exact hn, hc, by simpa using hs, ?_⟩
    rw [Array.toList_setIfInBounds, List.length_set, List.take_set, ht]
    simp [bools, List.map_set]
theorem OwnL.block {B : Nat} {W W' : World} {v : Value} {l : List Bool} (h : OwnL B W v l) (hk : ∀ k, v.ownBlock = some k → W'.heap[k]? = W.heap[k]?) : OwnL B W' v l := by
  refine ⟨h.1, ?_⟩
  rcases h.2 with h | ⟨g, cap, cur, rfl, h2, h3, h4⟩
  · exact .inl h
  · exact .inr ⟨g, cap, cur, rfl, h2, (hk g rfl).trans h3, h4⟩
theorem OwnL.own {B : Nat} {W : World} {v : Value} {l : List Bool} (h : OwnL B W v l) : ∀ k, v.ownBlock = some k → B ≤ k ∧ k < W.heap.size ∧ ∃ c, W.heap[k]? = some (.cells c 4 (0, 0)) := by
  intro k hk
  rcases h.2 with ⟨rfl, _⟩ | ⟨g, cap, cur, rfl, h1, h2, _⟩
  · cases hk
  · obtain rfl : g = k := by simpa [Value.ownBlock] using hk
    exact ⟨h1, lt_of_block h2, cur, h2⟩
theorem OwnL.lower {B : Nat} {W : World} {v : Value} {l : List Bool} (h : OwnL B W v l) : OwnL 0 W v l := by
  refine ⟨h.1, ?_⟩
  rcases h.2 with h | ⟨g, cap, cur, h1, _, h2⟩
  · exact .inl h
  · exact .inr ⟨g, cap, cur, h1, Nat.zero_le _, h2⟩
theorem some4 : (Tryz.prog.info? 4).isSome = true := by kernel_rfl
noncomputable def ie4 : TypeInfo := (Tryz.prog.info? 4).get some4
theorem ie4_is : Tryz.prog.info? 4 = some ie4 := (Option.some_get some4).symm
theorem ie4_size : ie4.size = 1 := by kernel_rfl
theorem ie4_bytes : ie4.bytes = 1 := by kernel_rfl
theorem ie4_zero : ie4.zero = some (.bool false) := by kernel_rfl
theorem buildL0 (W : World) : (Instr.buildSlice 95 0 #[]).run Tryz.prog W = .ok (.slice (some ⟨W.heap.size, 0, none⟩) 0 0) (W.alloc (.cells #[] 4)) := by
  simp [Instr.buildSlice, run_underlying Tryz.underlying95, sizeOf, typeInfo, ie4_is, newRow, Instr.fill]
  rw [show Array.range 0 = #[] from by kernel_rfl]
  simp
theorem buildL1 (W : World) (x : Bool) : (Instr.buildSlice 95 1 #[(0, .bool x)]).run Tryz.prog W = .ok (.slice (some ⟨W.heap.size, 0, none⟩) 1 1) (W.alloc (.cells #[.bool x] 4)) := by
  simp [Instr.buildSlice, run_underlying Tryz.underlying95, sizeOf, typeInfo, zeroValue, ie4_is, ie4_size, ie4_zero, newRow, Instr.fill]
  rw [show Array.range 1 = #[0] from by kernel_rfl]
  simp [Value.cells]
theorem ownL0 (W : World) {B : Nat} (hb : B ≤ W.heap.size) : OwnL B (W.alloc (.cells #[] 4)) (.slice (some ⟨W.heap.size, 0, none⟩) 0 0) [] :=
  ⟨rfl, .inr ⟨W.heap.size, 0, #[], rfl, hb, heap_alloc_new W _, Nat.le_refl _, by unfold maxLen; omega, rfl, rfl⟩⟩
/-- One more, out of a block of one cell. -/
theorem appendL1 {W : World} {B : Nat} {bv : Value} {l : List Bool} (x : Bool) (hown : OwnL B W bv l) (hb : B ≤ W.heap.size) (hn : l.length ≤ 1000000) :
    ∃ v' W', (Builtin.append_ #[95, 95] 95 #[bv, .slice (some ⟨W.heap.size, 0, none⟩) 1 1]).run Tryz.prog (W.alloc (.cells #[.bool x] 4)) = .ok v' W' ∧ OwnL B W' v' (l ++ [x]) ∧ W.grownBy W' bv.ownBlock := by
  have ho : OwnL B (W.alloc (.cells #[.bool x] 4)) bv l := hown.block fun k hk => (below_alloc W _).block k (hown.own k hk).2.1
  obtain ⟨v', W', hr, ho', hg, _, _⟩ := run_append_own_at (P := Tryz.prog) (W.alloc (.cells #[.bool x] 4)) B 95 95 4 ie4 _ 1 1 Tryz.underlying95 ie4_is ie4_zero ie4_size ie4_bytes rfl (by decide) bv l.length (bools l) ho ⟨W.heap.size, 0, none⟩ 1 1 (bools [x]) rfl (fun j u hu => by
    have hj : j = 0 := by have := (List.getElem?_eq_some_iff.1 hu).1; simp [bools] at this; exact this
    subst hj
    rw [addr_add, cell_of_row _ _ _ _ _ _ (heap_alloc_new W (.cells #[.bool x] 4)), ← hu]
    rfl) (bools_one [x]) (by unfold maxLen; omega) (by omega) (by simp; omega)
  exact ⟨v', W', hr, by unfold OwnL; rw [List.length_append, bools_append]; exact ho', (World.grownBy_alloc W _ _).trans hg⟩
/-- A whole list, into a new block. -/
theorem appendL {W : World} {B : Nat} {v : Value} {l : List Bool} (hown : OwnL B W v l) (hn : l.length ≤ 1000000) :
    ∃ v' W', (Builtin.append_ #[95, 95] 95 #[.slice (some ⟨W.heap.size, 0, none⟩) 0 0, v]).run Tryz.prog (W.alloc (.cells #[] 4)) = .ok v' W' ∧ OwnL W.heap.size W' v' l ∧ Below W.heap.size W W' := by
  have ba := below_alloc W (.cells #[] 4)
  have o0 := ownL0 W (Nat.le_refl _)
  have hv : OwnL B (W.alloc (.cells #[] 4)) v l := hown.block fun k hk => ba.block k (hown.own k hk).2.1
  obtain ⟨A, c, rfl⟩ := hown.shape
  cases A with
  | none =>
    have hl : l = [] := by
      rcases hown.2 with ⟨_, hn⟩ | ⟨g, cap, cur, h, _⟩
      · exact List.length_eq_zero_iff.1 hn
      · simp at h
    subst hl
    have hc : c = 0 := by
      rcases hown.2 with ⟨h, _⟩ | ⟨g, cap, cur, h, _⟩
      · simpa using h
      · simp at h
    subst hc
    exact ⟨_, _, run_append_owned_none (P := Tryz.prog) _ W.heap.size 95 95 4 ie4 1 Tryz.underlying95 ie4_is _ 0 (bools []) o0, o0, ba⟩
  | some a =>
    have hcell : ∀ (j : Nat) (u : Value), (bools l)[j]? = some u → (W.alloc (.cells #[] 4)).cell? (a.add j) = some u := by
      intro j u hu
      have hj : j < l.length := by have := (List.getElem?_eq_some_iff.1 hu).1; rw [bools_len] at this; exact this
      obtain ⟨g, hA, _, hc, _⟩ := hv.kth hj
      injection hA with hA
      subst hA
      rw [addr_add, Nat.zero_add, hc, ← bools_at l j hj, hu]
    obtain ⟨v', W', hr, ho', hg, _, _⟩ := run_append_own_at (P := Tryz.prog) (W.alloc (.cells #[] 4)) W.heap.size 95 95 4 ie4 _ 1 1 Tryz.underlying95 ie4_is ie4_zero ie4_size ie4_bytes rfl (by decide) (.slice (some ⟨W.heap.size, 0, none⟩) 0 0) 0 (bools []) o0 a l.length c (bools l) (by rw [bools_len]; omega) hcell (bools_one l) (by unfold maxLen; omega) (by omega) (by simp)
    refine ⟨v', W', hr, ?_, ?_⟩
    · unfold OwnL
      have e : 0 + l.length = l.length := by omega
      rw [e] at ho'
      exact ho'
    · have hs := ba.size
      exact ⟨hg.os.trans ba.os, hg.tape.trans ba.tape, hg.output.trans ba.output, Nat.le_trans ba.size hg.size, fun k hk => (hg.block k (by omega) (fun e => by simp [Value.ownBlock] at e; omega)).trans (ba.block k hk)⟩
/-- A Set in memory: block b, its list in memory of its own. -/
structure RsM (W : World) (b : Nat) (v : Value) (l : List Bool) : Prop where
  row : W.heap[b]? = some (.cells #[v] 97 (0, 0))
  own : OwnL 0 W v l
  le : l.length ≤ 32
/-- Nothing but block b turned, of those that were. -/
structure But1 (b : Nat) (w w' : World) : Prop where
  os : w'.os = w.os
  tape : w'.tape = w.tape
  output : w'.output = w.output
  size : w.heap.size ≤ w'.heap.size
  block : ∀ k, k < w.heap.size → k ≠ b → w'.heap[k]? = w.heap[k]?
theorem But1.refl (b : Nat) (w : World) : But1 b w w := ⟨rfl, rfl, rfl, Nat.le_refl _, fun _ _ _ => rfl⟩
theorem But1.of_below {b : Nat} {w w' : World} (h : Below w.heap.size w w') : But1 b w w' := ⟨h.os, h.tape, h.output, h.size, fun k hk _ => h.block k hk⟩
theorem But1.set {b : Nat} {w w' : World} (h : But1 b w w') (i : Nat) (u : Value) : But1 b w (w'.setCell ⟨b, i, none⟩ u) :=
  ⟨h.os, h.tape, h.output, by simpa [World.setCell] using h.size, fun k hk h1 => (Below.heap_setCell w' ⟨b, i, none⟩ u k h1).trans (h.block k hk h1)⟩
theorem But1.below {b B : Nat} {a w w' : World} (h : But1 b w w') (hb : Below B a w) (h1 : B ≤ b) (hB : B ≤ w.heap.size) : Below B a w' :=
  ⟨h.os.trans hb.os, h.tape.trans hb.tape, h.output.trans hb.output, Nat.le_trans hb.size h.size, fun k hk => (h.block k (by omega) (by omega)).trans (hb.block k hk)⟩
/-- The list is new, or as it lay. -/
def NewV (w : World) (v v' : Value) : Prop := ∀ k, v'.ownBlock = some k → v.ownBlock = some k ∨ w.heap.size ≤ k
theorem RsM.c0 {W : World} {b : Nat} {v : Value} {l : List Bool} (h : RsM W b v l) : W.cell? ⟨b, 0, none⟩ = some v := by rw [cell_of_row W b 0 _ _ _ h.row]; rfl
theorem RsM.fr {W : World} {b : Nat} {v : Value} {l : List Bool} (h : RsM W b v l) : W.frozen? ⟨b, 0, none⟩ = false := by simp [World.frozen?, h.row]
theorem RsM.keep {W W' : World} {b : Nat} {v : Value} {l : List Bool} (h : RsM W b v l) (hk : ∀ k, k < W.heap.size → W'.heap[k]? = W.heap[k]?) : RsM W' b v l :=
  ⟨(hk b (lt_of_block h.row)).trans h.row, h.own.block fun k h' => hk k (h.own.own k h').2.1, h.le⟩
/-- The list's field is written. -/
theorem RsM.put {w W : World} {b : Nat} {v v' : Value} {l l' : List Bool} (h : RsM w b v l) (hb : Below w.heap.size w W) (ho : OwnL w.heap.size W v' l') (hle : l'.length ≤ 32) : RsM (W.setCell ⟨b, 0, none⟩ v') b v' l' ∧ NewV w v v' ∧ But1 b w (W.setCell ⟨b, 0, none⟩ v') := by
  have hb1 := lt_of_block h.row
  have hr : W.heap[b]? = some (.cells #[v] 97 (0, 0)) := (hb.block b hb1).trans h.row
  refine ⟨⟨heap_setCell_same W b 0 #[v] 97 v' hr, ?_, hle⟩, fun k hk => .inr (ho.own k hk).1, (But1.of_below hb).set 0 v'⟩
  exact ho.lower.block fun k hk => Below.heap_setCell W ⟨b, 0, none⟩ v' k (by have := (ho.own k hk).1; intro e; subst e; omega)
theorem wpList_append_is {P : Program} {ops : Array Oper} {rest : List Oper} {o : Oper} {a : Act} {w w' : World} {Q : Exit → Act → World → Prop} (hgd : o.guard = none) (s x : Operand) (t : TypeId) (ho : o.op = .call { callee := .builtin .append, args := #[s, x], argTypes := #[t, t] })
    {bv v v' : Value} (hs : a.eval s = bv) (hx : a.eval x = v) (hr : (Builtin.append_ #[t, t] o.type #[bv, v]).run P w = .ok v' w') (h : wpList P ops Q rest (a.put o.dst v') w') : wpList P ops Q (o :: rest) a w :=
  wpList_plain hgd fun _ hK => by
    unfold Oper.wp execOp
    simp only [ho, resolve, invoke, builtin, Sem.run_bind, Sem.run_pure, Result.andThen_ok, List.map_toArray, List.map_cons, List.map_nil, hs, hx, hr]
    exact hK _ _ h
end Go.Proofs.YtchaeidmjoelnaaGreat
namespace Go.Proofs.YtchaeidmjoelnaaGreat
open Go.RowKit

set_option maxRecDepth 100000 in
set_option maxHeartbeats 4000000 in
theorem mscale_any (b : Nat) (v : Value) (l : List Bool) (n : Int) (w : World) (h : RsM w b v l) : Calls Tryz.prog 53 #[.pointer (some ⟨b, 0, none⟩), .int .i64 n] w fun e w' => e = .returned (.tuple #[]) ∧ ∃ v', RsM w' b v' (scaleL l n) ∧ NewV w v v' ∧ But1 b w w' := by
  have HR := Lib.hid h
  have bs0 := buildL0
  have bs1 := buildL1
  obtain ⟨c, hc⟩ : ∃ c, c = clampN n := ⟨_, rfl⟩
  have HC : Hid (scaleL l n = padL l c) := Lib.hid (by rw [hc]; rfl)
  have hn1 : Hid (∀ i : Nat, i < c → (i : Int) < n ∧ i < 32) := Lib.hid (fun i hi => by rw [hc] at hi; unfold clampN at hi; omega)
  have hn2 : Hid (∀ i : Nat, ¬ i < c → ¬ (i : Int) < n ∨ ¬ (i : Int) < 32) := Lib.hid (fun i hi => by rw [hc] at hi; unfold clampN at hi; omega)
  have hc32 : c ≤ 32 := by rw [hc]; exact clampN_le n
  clear h hc
  go_enter Tryz.func53, Tryz.ntmps53
  go_wp2
  go_loopg [4, 5] c (fun gg ov iv wr => ∃ i : Nat, Hid (gg = c - i) ∧ i ≤ c ∧ iv = .int .i64 (i : Int) ∧ Hid (OwnL w.heap.size wr ov (padL l i)) ∧ Hid (Below w.heap.size w wr))
  case atStart => exact ⟨0, Lib.hid rfl, Nat.zero_le _, rfl, Lib.hid (by rw [padL_zero]; exact ownL0 w (Nat.le_refl _)), Lib.hid (below_alloc w _)⟩
  case round =>
    obtain ⟨i, HG, hi, rfl, HO, HB⟩ := hrel
    obtain ⟨Ao, no, co, rfl⟩ := HO.out.shape3
    have HRw := Lib.hid (HR.out.keep HB.out.block)
    have k0 := HRw.out.c0
    have kf := HRw.out.fr
    by_cases hlt : i < c
    case neg =>
      obtain rfl : i = c := by omega
      have hput := HRw.out
      obtain ⟨hA, hN, hU⟩ := HR.out.put HB.out HO.out (by rw [padL_len]; exact hc32)
      rw [← HC.out] at hA
      have HA := Lib.hid (And.intro hA (And.intro hN hU))
      clear hA hN hU hput HC
      by_cases hn : (i : Int) < n
      case neg =>
        have e1 : decide ((i : Int) < n) = false := decide_eq_false hn
        clear hn
        go_wp2
        go_end0
        exact ⟨rfl, _, HA.out.1, HA.out.2.1, HA.out.2.2⟩
      have e1 : decide ((i : Int) < n) = true := decide_eq_true hn
      have e2 : decide ((i : Int) < 32) = false := decide_eq_false (by have := hn2.out i hlt; omega)
      have e3 : decide (i < 32) = false := decide_eq_false (by have := hn2.out i hlt; omega)
      clear hn
      go_wp2
      go_end0
      exact ⟨rfl, _, HA.out.1, HA.out.2.1, HA.out.2.2⟩
    obtain ⟨h1, h2⟩ := hn1.out i hlt
    have e1 : decide ((i : Int) < n) = true := decide_eq_true h1
    have e2 : decide ((i : Int) < 32) = true := decide_eq_true (by omega)
    have e3 : decide (i < 32) = true := decide_eq_true h2
    have HLT := Lib.hid hlt
    clear h1 h2 hlt
    obtain ⟨A, cp, rfl⟩ := HRw.out.own.shape
    by_cases hl : i < l.length
    case pos =>
      have e4 : decide ((i : Int) < (l.length : Int)) = true := decide_eq_true (by omega)
      have e5 : decide (i < l.length) = true := decide_eq_true hl
      obtain ⟨g, rfl, hg, kc, _⟩ := HRw.out.own.kth hl
      obtain ⟨x, hx⟩ : ∃ x, x = l.getD i false := ⟨_, rfl⟩
      rw [← hx] at kc
      have HX := Lib.hid hx
      obtain ⟨v', W', hr, ho, hgr⟩ := appendL1 x HO.out HB.out.size (by rw [padL_len]; omega)
      have HRUN := Lib.hid hr
      have HO' := Lib.hid ho
      have HB' : Hid (Below w.heap.size w W') := Lib.hid ⟨hgr.os.trans HB.out.os, hgr.tape.trans HB.out.tape, hgr.output.trans HB.out.output, Nat.le_trans HB.out.size hgr.size, fun k hk => (hgr.block k (Nat.lt_of_lt_of_le hk HB.out.size) (fun e => by have := (HO.out.own k e.symm).1; omega)).trans (HB.out.block k hk)⟩
      clear hx hr ho hgr hg
      go_wp2_with (first | (at_builtin; refine wpList_append_is rfl (.tmp 23) (.tmp 31) 95 rfl rfl rfl HRUN.out ?_))
      go_roundg (c - (i + 1))
      case measure => have := HG.out; have := HLT.out; omega
      case rel => exact ⟨i + 1, Lib.hid rfl, HLT.out, by go_num, Lib.hid (by rw [padL_succ, ← HX.out]; exact HO'.out), HB'⟩
    have e4 : decide ((i : Int) < (l.length : Int)) = false := decide_eq_false (by omega)
    have e5 : decide (i < l.length) = false := decide_eq_false hl
    have HX : Hid (l.getD i false = false) := Lib.hid (by rw [List.getD_eq_getElem?_getD, List.getElem?_eq_none (by omega)]; rfl)
    obtain ⟨v', W', hr, ho, hgr⟩ := appendL1 false HO.out HB.out.size (by rw [padL_len]; omega)
    have HRUN := Lib.hid hr
    have HO' := Lib.hid ho
    have HB' : Hid (Below w.heap.size w W') := Lib.hid ⟨hgr.os.trans HB.out.os, hgr.tape.trans HB.out.tape, hgr.output.trans HB.out.output, Nat.le_trans HB.out.size hgr.size, fun k hk => (hgr.block k (Nat.lt_of_lt_of_le hk HB.out.size) (fun e => by have := (HO.out.own k e.symm).1; omega)).trans (HB.out.block k hk)⟩
    clear hr ho hgr hl
    go_wp2_with (first | (at_builtin; refine wpList_append_is rfl (.tmp 33) (.tmp 34) 95 rfl rfl rfl HRUN.out ?_))
    go_roundg (c - (i + 1))
    case measure => have := HG.out; have := HLT.out; omega
    case rel => exact ⟨i + 1, Lib.hid rfl, HLT.out, by go_num, Lib.hid (by rw [padL_succ, HX.out]; exact HO'.out), HB'⟩
set_option maxRecDepth 100000 in
set_option maxHeartbeats 4000000 in
theorem mready_any (b : Nat) (v : Value) (l : List Bool) (i : Int) (on : Bool) (w : World) (h : RsM w b v l) : Calls Tryz.prog 13 #[.pointer (some ⟨b, 0, none⟩), .int .i64 i, .bool on] w fun e w' => e = .returned (.bool (decide (isW l i))) ∧ ∃ v', RsM w' b v' (readyL l i on) ∧ NewV w v v' ∧ But1 b w w' := by
  have HR := Lib.hid h
  have k0 := h.c0
  clear h
  obtain ⟨A, cp, rfl⟩ := HR.out.own.shape
  by_cases h1 : i < 0
  case pos =>
    have e1 : decide (i < 0) = true := decide_eq_true h1
    have HN : Hid (¬ isW l i) := Lib.hid (fun h => by unfold isW at h; omega)
    clear h1
    go_enter Tryz.func13, Tryz.ntmps13
    go_wp2
    go_ret
    exact ⟨by rw [decide_eq_false HN.out]; rfl, _, by unfold readyL; rw [if_neg HN.out]; exact HR.out, fun k hk => .inl hk, But1.refl _ _⟩
  have e1 : decide (i < 0) = false := decide_eq_false h1
  by_cases h2 : (l.length : Int) ≤ i
  case pos =>
    have e2 : decide ((l.length : Int) ≤ i) = true := decide_eq_true h2
    have HN : Hid (¬ isW l i) := Lib.hid (fun h => by unfold isW at h; omega)
    clear h1 h2
    go_enter Tryz.func13, Tryz.ntmps13
    go_wp2
    go_ret
    exact ⟨by rw [decide_eq_false HN.out]; rfl, _, by unfold readyL; rw [if_neg HN.out]; exact HR.out, fun k hk => .inl hk, But1.refl _ _⟩
  have e2 : decide ((l.length : Int) ≤ i) = false := decide_eq_false h2
  have HN : Hid (isW l i) := Lib.hid (by unfold isW; omega)
  obtain ⟨j, rfl⟩ : ∃ j : Nat, i = j := ⟨i.toNat, by omega⟩
  have hj : j < l.length := by omega
  have hj9 : j < 32 := by have := HR.out.le; omega
  have e3 : decide (l.length ≤ j) = false := decide_eq_false (by omega)
  obtain ⟨v', W', hr, ho, hb⟩ := appendL HR.out.own (by have := HR.out.le; omega)
  obtain ⟨A', c', rfl⟩ := ho.shape
  obtain ⟨g, rfl, hg, kc, kfr⟩ := ho.kth hj
  have HRUN := Lib.hid hr
  have ho2 := ho.set j on
  have hb2 : Below w.heap.size w (W'.setCell ⟨g, j, none⟩ (.bool on)) := ⟨hb.os, hb.tape, hb.output, by simpa [World.setCell] using hb.size, fun k hk => (Below.heap_setCell W' ⟨g, j, none⟩ (.bool on) k (by intro e; subst e; omega)).trans (hb.block k hk)⟩
  obtain ⟨hA, hN', hU⟩ := HR.out.put hb2 ho2 (by rw [List.length_set]; exact HR.out.le)
  have HA := Lib.hid (And.intro hA (And.intro hN' hU))
  have HK := Lib.hid (HR.out.keep hb2.block)
  have k1 : (w.alloc (.cells #[] 4)).cell? ⟨b, 0, none⟩ = some (.slice A l.length cp) := ((below_alloc w _).cell (p := ⟨b, 0, none⟩) (lt_of_block HR.out.row)).trans HR.out.c0
  have k2 := HK.out.fr
  have k3' := HK.out.c0
  have bs0 := buildL0
  rw [List.length_set] at HA
  clear h1 h2 hr ho ho2 hb hb2 hA hN' hU
  go_enter Tryz.func13, Tryz.ntmps13
  go_wp2_with (first | (at_builtin; refine wpList_append_is rfl (.tmp 19) (.tmp 23) 95 rfl rfl rfl HRUN.out ?_))
  go_ret
  exact ⟨by rw [decide_eq_true HN.out]; rfl, _, by unfold readyL; rw [if_pos HN.out]; exact HA.out.1, HA.out.2.1, HA.out.2.2⟩
set_option maxRecDepth 100000 in
set_option maxHeartbeats 4000000 in
theorem mcount_any (b : Nat) (v : Value) (l : List Bool) (w : World) (h : RsM w b v l) : Calls Tryz.prog 57 #[.pointer (some ⟨b, 0, none⟩)] w fun e w' => e = .returned (.int .i64 (cntL l : Int)) ∧ w = w' := by
  have HR := Lib.hid h
  have k0 := h.c0
  clear h
  obtain ⟨A, cp, rfl⟩ := HR.out.own.shape
  go_enter Tryz.func57, Tryz.ntmps57
  go_wp2
  go_loopg [3, 4] l.length (fun gg nv iv wr => ∃ i : Nat, Hid (gg = l.length - i) ∧ i ≤ l.length ∧ nv = .int .i64 (cntL (l.take i) : Int) ∧ iv = .int .i64 (i : Int) ∧ wr = w)
  case atStart => exact ⟨0, Lib.hid rfl, Nat.zero_le _, rfl, rfl, rfl⟩
  case round =>
    obtain ⟨i, HG, hi, rfl, rfl, rfl⟩ := hrel
    have h32 := HR.out.le
    by_cases hl : i < l.length
    case neg =>
      have e4 : decide ((i : Int) < (l.length : Int)) = false := decide_eq_false (by omega)
      have e5 : decide (i < l.length) = false := decide_eq_false hl
      obtain rfl : i = l.length := by omega
      have HT : Hid (cntL (l.take l.length) = cntL l) := Lib.hid (by rw [List.take_length])
      clear hl
      go_wp2
      go_ret
      exact ⟨by rw [← HT.out]; rfl, rfl⟩
    have e4 : decide ((i : Int) < (l.length : Int)) = true := decide_eq_true (by omega)
    have e5 : decide (i < l.length) = true := decide_eq_true hl
    obtain ⟨g, rfl, hg, kc, _⟩ := HR.out.own.kth hl
    have hs := cnt_take_succ l i hl
    have hcle : cntL (l.take i) ≤ 32 := Nat.le_trans (cnt_le _) (by rw [List.length_take]; omega)
    obtain ⟨q, hq⟩ : ∃ q, q = cntL (l.take i) := ⟨_, rfl⟩
    rw [← hq] at hs hcle ⊢
    have HLT := Lib.hid hl
    obtain ⟨x, hx⟩ : ∃ x, x = l.getD i false := ⟨_, rfl⟩
    rw [← hx] at kc hs
    clear hq hg
    cases x with
    | true =>
      have HS := Lib.hid hs
      clear hs hx
      go_wp2
      go_roundg (l.length - (i + 1))
      case measure => have := HG.out; have := HLT.out; omega
      case rel => exact ⟨i + 1, Lib.hid rfl, HLT.out, by rw [HS.out]; go_num, by go_num, rfl⟩
    | false =>
      have HS := Lib.hid hs
      clear hs hx
      go_wp2
      go_roundg (l.length - (i + 1))
      case measure => have := HG.out; have := HLT.out; omega
      case rel => exact ⟨i + 1, Lib.hid rfl, HLT.out, by rw [HS.out]; rfl, by go_num, rfl⟩
theorem RsM.drewN {W : World} {b : Nat} {v : Value} {l : List Bool} (h : RsM W b v l) (n : Nat) : RsM (W.drewN n) b v l := h.keep (fun _ _ => by simp)
theorem mcount_q (b : Nat) (v : Value) (l : List Bool) (n : Nat) (w : World) (h : RsM w b v l) : Calls Tryz.prog 57 #[.pointer (some ⟨b, 0, none⟩)] (w.drewN n) fun e w' => e = .returned (.int .i64 (cntL l : Int)) ∧ ∃ m, w' = w.drewN m :=
  Calls.quiet_of_same ((mcount_any b v l _ (h.drewN n)).mono fun _ _ ⟨he, hw⟩ => ⟨he, hw.symm⟩)
end Go.Proofs.YtchaeidmjoelnaaGreat
