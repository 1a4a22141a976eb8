/-
  The document's own Set in memory: its block, its list.
-/
import Derived.Test.YtchaeidmjoelnaaRepL
import Derived.Test.YtchaeidmjoelnaaRepS
import Derived.Deep.AppendLies
import Derived.Laws.AppendOwnNone
import Derived.Laws.OwnMore
import Derived.IntWalk
import Derived.Great.BuildSlice
namespace Go.Proofs.Ytchaeidmjoelnaa
open Go.RowKit

theorem heap_setCell_same (W : World) (b i : Nat) (cur : Array Value) (t : TypeId) (u : Value) (h : W.heap[b]? = some (.cells cur t (0, 0))) : (W.setCell ⟨b, i, none⟩ u).heap[b]? = some (.cells (cur.setIfInBounds i u) t (0, 0)) := by
  simp [World.setCell, Array.getElem?_modify, h]
theorem below_alloc (W : World) (o : Obj) : Below W.heap.size W (W.alloc o) := (Below.refl _ _).alloc (Nat.le_refl _) _
def bools (l : List Bool) : List Value := l.map Value.bool
theorem bools_len (l : List Bool) : (bools l).length = l.length := List.length_map _
theorem bools_at (l : List Bool) (k : Nat) (h : k < l.length) : (bools l)[k]? = some (.bool (l.getD k false)) := by simp [bools, h, List.getD_eq_getElem?_getD]
theorem bools_append (l m : List Bool) : bools (l ++ m) = bools l ++ bools m := List.map_append ..
theorem bools_one (l : List Bool) : ∀ u ∈ bools l, u.oneCell' = true := by
  intro u hu
  obtain ⟨x, _, rfl⟩ := List.mem_map.1 hu
  rfl
/-- A slice that reads as these, in memory of its own from block B on. -/
def OwnL (B : Nat) (W : World) (v : Value) (l : List Bool) : Prop := W.ownsRow B 4 1 v l.length (bools l)
theorem OwnL.shape {B : Nat} {W : World} {v : Value} {l : List Bool} (h : OwnL B W v l) : ∃ A c, v = .slice A l.length c := by
  rcases h.2 with ⟨rfl, hn⟩ | ⟨g, cap, cur, rfl, _⟩
  · exact ⟨none, 0, by rw [hn]⟩
  · exact ⟨_, _, rfl⟩
theorem OwnL.shape3 {B : Nat} {W : World} {v : Value} {l : List Bool} (h : OwnL B W v l) : ∃ A n c, v = .slice A n c := by
  obtain ⟨A, c, h⟩ := h.shape
  exact ⟨A, _, c, h⟩
/-- Where it lies, and that it may be written. -/
theorem OwnL.kth {B : Nat} {W : World} {A : Option Addr} {c : Nat} {l : List Bool} (h : OwnL B W (.slice A l.length c) l) {k : Nat} (hk : k < l.length) : ∃ g, A = some ⟨g, 0, none⟩ ∧ B ≤ g ∧ W.cell? ⟨g, k, none⟩ = some (.bool (l.getD k false)) ∧ W.frozen? ⟨g, k, none⟩ = false := by
  rcases h.2 with ⟨hv, hn⟩ | ⟨g, cap, cur, hv, hB, hg, hn, hc, hs, ht⟩
  · simp at hv; omega
  · simp only [Value.slice.injEq] at hv
    obtain ⟨rfl, _, _⟩ := hv
    refine ⟨g, rfl, hB, ?_, by simp [World.frozen?, hg]⟩
    rw [cell_of_row W g _ cur 4 (0, 0) hg]
    have h1 := bools_at l k hk
    rw [← ht, List.getElem?_take_of_lt (by omega)] at h1
    simpa using h1
theorem OwnL.set {B : Nat} {W : World} {g c : Nat} {l : List Bool} (h : OwnL B W (.slice (some ⟨g, 0, none⟩) l.length c) l) (k : Nat) (x : Bool) : OwnL B (W.setCell ⟨g, k, none⟩ (.bool x)) (.slice (some ⟨g, 0, none⟩) (l.set k x).length c) (l.set k x) := by
  refine ⟨by rw [bools_len, Nat.mul_one], ?_⟩
  rcases h.2 with ⟨hv, hn⟩ | ⟨g', cap, cur, hv, hB, hg, hn, hc, hs, ht⟩
  · simp at hv
  · simp only [Value.slice.injEq, Option.some.injEq, Addr.mk.injEq, and_true, true_and] at hv
    obtain ⟨rfl, rfl⟩ := hv
    refine .inr ⟨g, c, cur.setIfInBounds k (.bool x), by rw [List.length_set], hB, heap_setCell_same W g k cur 4 _ hg, by rw [List.length_set]; exact hn, hc, by simpa using hs, ?_⟩
    rw [Array.toList_setIfInBounds, List.length_set, List.take_set, ht]
    simp [bools, List.map_set]
theorem OwnL.block {B : Nat} {W W' : World} {v : Value} {l : List Bool} (h : OwnL B W v l) (hk : ∀ k, v.ownBlock = some k → W'.heap[k]? = W.heap[k]?) : OwnL B W' v l := by
  refine ⟨h.1, ?_⟩
  rcases h.2 with h | ⟨g, cap, cur, rfl, h2, h3, h4⟩
  · exact .inl h
  · exact .inr ⟨g, cap, cur, rfl, h2, (hk g rfl).trans h3, h4⟩
theorem OwnL.own {B : Nat} {W : World} {v : Value} {l : List Bool} (h : OwnL B W v l) : ∀ k, v.ownBlock = some k → B ≤ k ∧ k < W.heap.size ∧ ∃ c, W.heap[k]? = some (.cells c 4 (0, 0)) := by
  intro k hk
  rcases h.2 with ⟨rfl, _⟩ | ⟨g, cap, cur, rfl, h1, h2, _⟩
  · cases hk
  · obtain rfl : g = k := by simpa [Value.ownBlock] using hk
    exact ⟨h1, lt_of_block h2, cur, h2⟩
theorem OwnL.lower {B : Nat} {W : World} {v : Value} {l : List Bool} (h : OwnL B W v l) : OwnL 0 W v l := by
  refine ⟨h.1, ?_⟩
  rcases h.2 with h | ⟨g, cap, cur, h1, _, h2⟩
  · exact .inl h
  · exact .inr ⟨g, cap, cur, h1, Nat.zero_le _, h2⟩
theorem some4 : (Try.prog.info? 4).isSome = true := by kernel_rfl
noncomputable def ie4 : TypeInfo := (Try.prog.info? 4).get some4
theorem ie4_is : Try.prog.info? 4 = some ie4 := (Option.some_get some4).symm
theorem ie4_size : ie4.size = 1 := by kernel_rfl
theorem ie4_bytes : ie4.bytes = 1 := by kernel_rfl
theorem ie4_zero : ie4.zero = some (.bool false) := by kernel_rfl
theorem buildL0 (W : World) : (Instr.buildSlice 109 0 #[]).run Try.prog W = .ok (.slice (some ⟨W.heap.size, 0, none⟩) 0 0) (W.alloc (.cells #[] 4)) := by
  simp [Instr.buildSlice, run_underlying Try.underlying109, sizeOf, typeInfo, ie4_is, newRow, Instr.fill]
  rw [show Array.range 0 = #[] from by kernel_rfl]
  simp
theorem buildL1 (W : World) (x : Bool) : (Instr.buildSlice 109 1 #[(0, .bool x)]).run Try.prog W = .ok (.slice (some ⟨W.heap.size, 0, none⟩) 1 1) (W.alloc (.cells #[.bool x] 4)) := by
  simp [Instr.buildSlice, run_underlying Try.underlying109, sizeOf, typeInfo, zeroValue, ie4_is, ie4_size, ie4_zero, newRow, Instr.fill]
  rw [show Array.range 1 = #[0] from by kernel_rfl]
  simp [Value.cells]
theorem ownL0 (W : World) {B : Nat} (hb : B ≤ W.heap.size) : OwnL B (W.alloc (.cells #[] 4)) (.slice (some ⟨W.heap.size, 0, none⟩) 0 0) [] :=
  ⟨rfl, .inr ⟨W.heap.size, 0, #[], rfl, hb, heap_alloc_new W _, Nat.le_refl _, by unfold maxLen; omega, rfl, rfl⟩⟩
/-- One more, out of a block of one cell. -/
theorem appendL1 {W : World} {B : Nat} {bv : Value} {l : List Bool} (x : Bool) (hown : OwnL B W bv l) (hb : B ≤ W.heap.size) (hn : l.length ≤ 1000000) :
    ∃ v' W', (Builtin.append_ #[109, 109] 109 #[bv, .slice (some ⟨W.heap.size, 0, none⟩) 1 1]).run Try.prog (W.alloc (.cells #[.bool x] 4)) = .ok v' W' ∧ OwnL B W' v' (l ++ [x]) ∧ W.grownBy W' bv.ownBlock := by
  have ho : OwnL B (W.alloc (.cells #[.bool x] 4)) bv l := hown.block fun k hk => (below_alloc W _).block k (hown.own k hk).2.1
  obtain ⟨v', W', hr, ho', hg, _, _⟩ := run_append_own_at (P := Try.prog) (W.alloc (.cells #[.bool x] 4)) B 109 109 4 ie4 _ 1 1 Try.underlying109 ie4_is ie4_zero ie4_size ie4_bytes rfl (by decide) bv l.length (bools l) ho ⟨W.heap.size, 0, none⟩ 1 1 (bools [x]) rfl (fun j u hu => by
    have hj : j = 0 := by have := (List.getElem?_eq_some_iff.1 hu).1; simp [bools] at this; exact this
    subst hj
    rw [addr_add, cell_of_row _ _ _ _ _ _ (heap_alloc_new W (.cells #[.bool x] 4)), ← hu]
    rfl) (bools_one [x]) (by unfold maxLen; omega) (by omega) (by simp; omega)
  exact ⟨v', W', hr, by unfold OwnL; rw [List.length_append, bools_append]; exact ho', (World.grownBy_alloc W _ _).trans hg⟩
/-- A whole list, into a new block. -/
theorem appendL {W : World} {B : Nat} {v : Value} {l : List Bool} (hown : OwnL B W v l) (hn : l.length ≤ 1000000) :
    ∃ v' W', (Builtin.append_ #[109, 109] 109 #[.slice (some ⟨W.heap.size, 0, none⟩) 0 0, v]).run Try.prog (W.alloc (.cells #[] 4)) = .ok v' W' ∧ OwnL W.heap.size W' v' l ∧ Below W.heap.size W W' := by
  have ba := below_alloc W (.cells #[] 4)
  have o0 := ownL0 W (Nat.le_refl _)
  have hv : OwnL B (W.alloc (.cells #[] 4)) v l := hown.block fun k hk => ba.block k (hown.own k hk).2.1
  obtain ⟨A, c, rfl⟩ := hown.shape
  cases A with
  | none =>
    have hl : l = [] := by
      rcases hown.2 with ⟨_, hn⟩ | ⟨g, cap, cur, h, _⟩
      · exact List.length_eq_zero_iff.1 hn
      · simp at h
    subst hl
    have hc : c = 0 := by
      rcases hown.2 with ⟨h, _⟩ | ⟨g, cap, cur, h, _⟩
      · simpa using h
      · simp at h
    subst hc
    exact ⟨_, _, run_append_owned_none (P := Try.prog) _ W.heap.size 109 109 4 ie4 1 Try.underlying109 ie4_is _ 0 (bools []) o0, o0, ba⟩
  | some a =>
    have hcell : ∀ (j : Nat) (u : Value), (bools l)[j]? = some u → (W.alloc (.cells #[] 4)).cell? (a.add j) = some u := by
      intro j u hu
      have hj : j < l.length := by have := (List.getElem?_eq_some_iff.1 hu).1; rw [bools_len] at this; exact this
      obtain ⟨g, hA, _, hc, _⟩ := hv.kth hj
      injection hA with hA
      subst hA
      rw [addr_add, Nat.zero_add, hc, ← bools_at l j hj, hu]
    obtain ⟨v', W', hr, ho', hg, _, _⟩ := run_append_own_at (P := Try.prog) (W.alloc (.cells #[] 4)) W.heap.size 109 109 4 ie4 _ 1 1 Try.underlying109 ie4_is ie4_zero ie4_size ie4_bytes rfl (by decide) (.slice (some ⟨W.heap.size, 0, none⟩) 0 0) 0 (bools []) o0 a l.length c (bools l) (by rw [bools_len]; omega) hcell (bools_one l) (by unfold maxLen; omega) (by omega) (by simp)
    refine ⟨v', W', hr, ?_, ?_⟩
    · unfold OwnL
      have e : 0 + l.length = l.length := by omega
      rw [e] at ho'
      exact ho'
    · have hs := ba.size
      exact ⟨hg.os.trans ba.os, hg.tape.trans ba.tape, hg.output.trans ba.output, Nat.le_trans ba.size hg.size, fun k hk => (hg.block k (by omega) (fun e => by simp [Value.ownBlock] at e; omega)).trans (ba.block k hk)⟩
/-- Nothing but block b turned, of those that were. -/
structure But1 (b : Nat) (w w' : World) : Prop where
  os : w'.os = w.os
  tape : w'.tape = w.tape
  output : w'.output = w.output
  size : w.heap.size ≤ w'.heap.size
  block : ∀ k, k < w.heap.size → k ≠ b → w'.heap[k]? = w.heap[k]?
theorem But1.refl (b : Nat) (w : World) : But1 b w w := ⟨rfl, rfl, rfl, Nat.le_refl _, fun _ _ _ => rfl⟩
theorem But1.of_below {b : Nat} {w w' : World} (h : Below w.heap.size w w') : But1 b w w' := ⟨h.os, h.tape, h.output, h.size, fun k hk _ => h.block k hk⟩
theorem But1.set {b : Nat} {w w' : World} (h : But1 b w w') (i : Nat) (u : Value) : But1 b w (w'.setCell ⟨b, i, none⟩ u) :=
  ⟨h.os, h.tape, h.output, by simpa [World.setCell] using h.size, fun k hk h1 => (Below.heap_setCell w' ⟨b, i, none⟩ u k h1).trans (h.block k hk h1)⟩
theorem But1.below {b B : Nat} {a w w' : World} (h : But1 b w w') (hb : Below B a w) (h1 : B ≤ b) (hB : B ≤ w.heap.size) : Below B a w' :=
  ⟨h.os.trans hb.os, h.tape.trans hb.tape, h.output.trans hb.output, Nat.le_trans hb.size h.size, fun k hk => (h.block k (by omega) (by omega)).trans (hb.block k hk)⟩
/-- The list is new, or as it lay. -/
def NewV (w : World) (v v' : Value) : Prop := ∀ k, v'.ownBlock = some k → v.ownBlock = some k ∨ w.heap.size ≤ k
theorem wpList_append_is {P : Program} {ops : Array Oper} {rest : List Oper} {o : Oper} {a : Act} {w w' : World} {Q : Exit → Act → World → Prop} (hgd : o.guard = none) (s x : Operand) (t : TypeId) (ho : o.op = .call { callee := .builtin .append, args := #[s, x], argTypes := #[t, t] })
    {bv v v' : Value} (hs : a.eval s = bv) (hx : a.eval x = v) (hr : (Builtin.append_ #[t, t] o.type #[bv, v]).run P w = .ok v' w') (h : wpList P ops Q rest (a.put o.dst v') w') : wpList P ops Q (o :: rest) a w :=
  wpList_plain hgd fun _ hK => by
    unfold Oper.wp execOp
    simp only [ho, resolve, invoke, builtin, Sem.run_bind, Sem.run_pure, Result.andThen_ok, List.map_toArray, List.map_cons, List.map_nil, hs, hx, hr]
    exact hK _ _ h
end Go.Proofs.Ytchaeidmjoelnaa
