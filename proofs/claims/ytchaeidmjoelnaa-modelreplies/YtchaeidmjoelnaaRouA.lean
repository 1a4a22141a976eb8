/-
  The document's own router in memory: its block, its outcomes; Script.
-/
import Derived.Test.YtchaeidmjoelnaaFleE
import Derived.Test.YtchaeidmjoelnaaFoMap
import Derived.Test.YtchaeidmjoelnaaFuse
import Derived.Test.YtchaeidmjoelnaaRouL
import Derived.Deep.AppendLies
import Derived.Laws.AppendOwnNone
import Derived.Laws.OwnMore
import Derived.IntWalk
import Derived.Deep.Cut
import Derived.Great.BuildSlice
namespace Go.Proofs.Ytchaeidmjoelnaa
open Go.RowKit

theorem ints_len (xs : List Int) : (ints xs).length = xs.length := List.length_map _
theorem ints_append (xs ys : List Int) : ints (xs ++ ys) = ints xs ++ ints ys := List.map_append ..
theorem ints_one (xs : List Int) : ∀ u ∈ ints xs, u.oneCell' = true := by
  intro u hu
  obtain ⟨x, _, rfl⟩ := List.mem_map.1 hu
  rfl
/-- What a router is. -/
structure Ro where
  slot : Int
  gen : Int
  outs : List Int
  writes : Int
/-- A slice that reads as these numbers, in memory of its own: its block is known whole. -/
def Own (W : World) (v : Value) (xs : List Int) : Prop := W.ownsRow 0 3 1 v xs.length (ints xs)
theorem IntsI.under {W W' : World} {v : Value} {xs : List Int} {B : Nat} (h : IntsI W v xs) (hb : Below B W W') (hB : W.heap.size ≤ B) : IntsI W' v xs := by
  rcases h with h | ⟨b, o, c, h1, h2, h3, h4, h5⟩
  · exact .inl h
  · exact .inr ⟨b, o, c, h1, h2, h3, Nat.lt_of_lt_of_le h4 hb.size, fun k h => (hb.cell (p := ⟨b, o + k, none⟩) (show b < B by omega)).trans (h5 k h)⟩
theorem Own.reads {W : World} {v : Value} {xs : List Int} (h : Own W v xs) : IntsI W v xs := by
  rcases h.2 with ⟨hv, hn⟩ | ⟨g, cap, cur, hv, _, hg, hn, hc, hs, ht⟩
  · exact .inl ⟨.inl hv, List.length_eq_zero_iff.1 hn⟩
  · cases xs with
    | nil => exact .inl ⟨.inr ⟨_, _, hv⟩, rfl⟩
    | cons x xs =>
      refine .inr ⟨g, 0, cap, hv, by simp, hn, lt_of_block hg, fun k hk => ?_⟩
      rw [cell_of_row W g _ cur 3 (0, 0) hg, Nat.zero_add]
      have h1 := ints_at (x :: xs) k hk
      rw [← ht, List.getElem?_take_of_lt (by omega)] at h1
      simpa using h1
noncomputable def ie3 : TypeInfo := (Try.prog.info? 3).get some3
theorem ie3_is : Try.prog.info? 3 = some ie3 := (Option.some_get some3).symm
theorem ie3_size : ie3.size = 1 := by kernel_rfl
theorem ie3_bytes : ie3.bytes = 8 := by kernel_rfl
theorem ie3_zero : ie3.zero = some (.int .i64 0) := by kernel_rfl
theorem append_ints {W : World} {base : Nat} {bv v : Value} {xs0 xs : List Int} (hown : W.ownsRow base 3 1 bv xs0.length (ints xs0)) (hv : IntsI W v xs) (hb : base ≤ W.heap.size) (hn : xs0.length + xs.length ≤ 100000000) :
    ∃ v' W', (Builtin.append_ #[32, 32] 32 #[bv, v]).run Try.prog W = .ok v' W' ∧ W'.ownsRow base 3 1 v' (xs0 ++ xs).length (ints (xs0 ++ xs)) ∧ W.grownBy W' bv.ownBlock := by
  rcases hv with ⟨rfl | ⟨a, c, rfl⟩, rfl⟩ | ⟨b, o, c, rfl, h1, h2, h3, h4⟩
  · exact ⟨bv, W, run_append_owned_none (P := Try.prog) W base 32 32 3 ie3 1 Try.underlying32 ie3_is bv xs0.length (ints xs0) hown, by simpa using hown, World.grownBy.refl W _⟩
  · obtain ⟨v', W', hr, ho, hg, _, _⟩ := run_append_own_at (P := Try.prog) W base 32 32 3 ie3 _ 1 8 Try.underlying32 ie3_is ie3_zero ie3_size ie3_bytes rfl (by decide) bv xs0.length (ints xs0) hown a 0 c [] rfl (fun j u h => by cases h) (fun u h => by cases h) (by unfold maxLen; omega) (by simp at hn ⊢; omega) hb
    exact ⟨v', W', hr, by simpa using ho, hg⟩
  · obtain ⟨v', W', hr, ho, hg, _, _⟩ := run_append_own_at (P := Try.prog) W base 32 32 3 ie3 _ 1 8 Try.underlying32 ie3_is ie3_zero ie3_size ie3_bytes rfl (by decide) bv xs0.length (ints xs0) hown ⟨b, o, none⟩ xs.length c (ints xs) (by rw [ints_len]; omega) (fun j u hu => by
      have hj : j < xs.length := by have := (List.getElem?_eq_some_iff.1 hu).1; rw [ints_len] at this; exact this
      rw [show (⟨b, o, none⟩ : Addr).add j = ⟨b, o + j, none⟩ by unfold Addr.add; split <;> simp_all, h4 j hj, ← hu]
      simp [ints, hj]) (ints_one xs) (by unfold maxLen; omega) (by omega) hb
    exact ⟨v', W', hr, by rw [List.length_append, ints_append]; exact ho, hg⟩
theorem build0 (W : World) : (Instr.buildSlice 32 0 #[]).run Try.prog W = .ok (.slice (some ⟨W.heap.size, 0, none⟩) 0 0) (W.alloc (.cells #[] 3)) := by
  simp [Instr.buildSlice, run_underlying Try.underlying32, sizeOf, typeInfo, ie3_is, newRow, Instr.fill]
  rw [show Array.range 0 = #[] from by kernel_rfl]
  simp
theorem own0 (W : World) {base : Nat} (hb : base ≤ W.heap.size) : (W.alloc (.cells #[] 3)).ownsRow base 3 1 (.slice (some ⟨W.heap.size, 0, none⟩) 0 0) ([] : List Int).length (ints []) :=
  ⟨rfl, .inr ⟨W.heap.size, 0, #[], rfl, hb, heap_alloc_new W _, Nat.le_refl _, by unfold maxLen; omega, rfl, rfl⟩⟩
theorem own_base {W : World} {base e : Nat} {v : Value} {n : Nat} {xs : List Value} (h : W.ownsRow base e 1 v n xs) : W.ownsRow 0 e 1 v n xs := by
  refine ⟨h.1, ?_⟩
  rcases h.2 with h | ⟨g, cap, cur, h1, _, h2⟩
  · exact .inl h
  · exact .inr ⟨g, cap, cur, h1, Nat.zero_le _, h2⟩
theorem own_ge {W : World} {base e : Nat} {v : Value} {n : Nat} {xs : List Value} (h : W.ownsRow base e 1 v n xs) : ∀ k, v.ownBlock = some k → base ≤ k ∧ k < W.heap.size := by
  intro k hk
  rcases h.2 with ⟨rfl, _⟩ | ⟨g, cap, cur, rfl, h1, h2, _⟩
  · cases hk
  · obtain rfl : g = k := by simpa [Value.ownBlock] using hk
    exact ⟨h1, lt_of_block h2⟩
theorem below_grown {B : Nat} {a w w' : World} {row : Option Nat} (h : Below B a w) (hg : w.grownBy w' row) (hr : ∀ k, row = some k → B ≤ k) (hB : B ≤ a.heap.size) : Below B a w' :=
  ⟨hg.os.trans h.os, hg.tape.trans h.tape, hg.output.trans h.output, Nat.le_trans h.size hg.size, fun k hk => by
    rw [hg.block k (by have := h.size; omega) (fun e => by have := hr k e.symm; omega)]
    exact h.block k hk⟩
/-- The outcomes lie where they lay, or in new memory. -/
def New (w : World) (v v' : Value) : Prop := ∀ k, v'.ownBlock = some k → v.ownBlock = some k ∨ w.heap.size ≤ k
/-- Nothing but the blocks b and g turned, of those that were. -/
structure But (b g : Nat) (w w' : World) : Prop where
  os : w'.os = w.os
  tape : w'.tape = w.tape
  output : w'.output = w.output
  size : w.heap.size ≤ w'.heap.size
  block : ∀ k, k < w.heap.size → k ≠ b → k ≠ g → w'.heap[k]? = w.heap[k]?
theorem But.refl (b g : Nat) (w : World) : But b g w w := ⟨rfl, rfl, rfl, Nat.le_refl _, fun _ _ _ _ => rfl⟩
theorem But.trans {b g : Nat} {w w' w'' : World} (h : But b g w w') (k : But b g w' w'') : But b g w w'' :=
  ⟨k.os.trans h.os, k.tape.trans h.tape, k.output.trans h.output, Nat.le_trans h.size k.size, fun j hj h1 h2 => (k.block j (Nat.lt_of_lt_of_le hj h.size) h1 h2).trans (h.block j hj h1 h2)⟩
theorem But.of_below {b g : Nat} {w w' : World} (h : Below w.heap.size w w') : But b g w w' := ⟨h.os, h.tape, h.output, h.size, fun k hk _ _ => h.block k hk⟩
theorem But.set {b g : Nat} {w w' : World} (h : But b g w w') (i : Nat) (u : Value) : But b g w (w'.setCell ⟨b, i, none⟩ u) :=
  ⟨h.os, h.tape, h.output, by simpa [World.setCell] using h.size, fun k hk h1 h2 => (Below.heap_setCell w' ⟨b, i, none⟩ u k h1).trans (h.block k hk h1 h2)⟩
theorem But.only {b g : Nat} {w w' : World} (h : Only g w w') : But b g w w' := ⟨h.os, h.tape, h.output, by rw [h.size]; exact Nat.le_refl _, fun k _ _ h2 => h.block k h2⟩
theorem But.below {b g B : Nat} {a w w' : World} (h : But b g w w') (hb : Below B a w) (h1 : B ≤ b) (h2 : B ≤ g) (hB : B ≤ w.heap.size) : Below B a w' :=
  ⟨h.os.trans hb.os, h.tape.trans hb.tape, h.output.trans hb.output, Nat.le_trans hb.size h.size, fun k hk => (h.block k (by omega) (by omega) (by omega)).trans (hb.block k hk)⟩
theorem Own.block {W W' : World} {v : Value} {xs : List Int} (h : Own W v xs) (hk : ∀ k, k < W.heap.size → (∃ cur, W.heap[k]? = some (.cells cur 3 (0, 0))) → W'.heap[k]? = W.heap[k]?) : Own W' v xs := by
  refine ⟨h.1, ?_⟩
  rcases h.2 with h | ⟨g, cap, cur, h1, h2, h3, h4⟩
  · exact .inl h
  · exact .inr ⟨g, cap, cur, h1, h2, (hk g (lt_of_block h3) ⟨cur, h3⟩).trans h3, h4⟩
end Go.Proofs.Ytchaeidmjoelnaa
