/-
  ClientCounts: what the fuse counts behind a Set.
-/
import Derived.Test.YtjalmfomeehpgaaLift
import Derived.Test.YtjalmfomeehpgaaCli1
import Derived.Test.YtjalmfomeehpgaaCliC
namespace Go.Proofs.Ytjalmfomeehpgaa.clientCounts
open Go.Proofs.Ytjalmfomeehpgaa
open Go.RowKit
set_option linter.unusedVariables false

/-- Two numbers of its own in memory. -/
def Arr (W : World) (k : Nat) (a b : Int) : Prop := W.heap[k]? = some (.cells #[.int .i64 a, .int .i64 b] 54 (0, 0))
theorem Arr.lt {W : World} {k : Nat} {a b : Int} (h : Arr W k a b) : k < W.heap.size := lt_of_block h
theorem Arr.c0 {W : World} {k : Nat} {a b : Int} (h : Arr W k a b) : W.cell? ⟨k, 0, none⟩ = some (.int .i64 a) := by rw [cell_of_row W k 0 _ _ _ h]; rfl
theorem Arr.c1 {W : World} {k : Nat} {a b : Int} (h : Arr W k a b) : W.cell? ⟨k, 1, none⟩ = some (.int .i64 b) := by rw [cell_of_row W k 1 _ _ _ h]; rfl
theorem Arr.turn {B : Nat} {W W' : World} {k : Nat} {a b : Int} (h : Arr W k a b) (ht : Turn B W W') : Arr W' k a b := ht.kind k _ 54 (by decide) (by decide) (by decide) h
theorem Arr.below {W W' : World} {k : Nat} {a b : Int} (h : Arr W k a b) (hb : Below W.heap.size W W') : Arr W' k a b := (hb.block k h.lt).trans h
theorem blown_any (b : Nat) (s : Fu) (w : World) (h : Fz w b 57 s) : Calls Try.prog 23 #[.pointer (some ⟨b, 0, none⟩)] w fun e w' => e = .returned (.bool s.blown) ∧ w = w' := by
  have h2 := h.c2
  clear h
  go_enter Try.func23, Try.ntmps23
  go_wp2
  go_ret
  exact ⟨rfl, rfl⟩
theorem told2 {s : Ro} {f : Fu} {gen slot : Int} (hr : inRange gen slot) : (bears f = true ∧ toldC s f gen slot ≠ 2) ∨ (bears f = false ∧ toldC s f gen slot = 2) := by
  unfold toldC
  rw [if_pos hr]
  cases hb : bears f with
  | false => exact .inr ⟨rfl, rfl⟩
  | true =>
    refine .inl ⟨rfl, ?_⟩
    rw [if_pos rfl]
    unfold callE
    by_cases h1 : outS s = 2
    · rw [if_pos h1]; omega
    rw [if_neg h1]
    by_cases h2 : outS s = 1
    · rw [if_pos h2]; omega
    rw [if_neg h2]
    by_cases h3 : s.gen < gen
    · rw [if_pos h3]; omega
    rw [if_neg h3]
    by_cases h4 : gen < s.gen ∨ slot ≠ s.slot
    · rw [if_pos h4]; omega
    · rw [if_neg h4]; omega
theorem spent_yes {f : Fu} (h : bears f = true) : (spent f).count = f.count + 1 ∧ (spent f).blown = f.blown := by
  unfold spent
  rw [if_pos h]
  exact ⟨rfl, rfl⟩
theorem spent_no {f : Fu} (h : bears f = false) : (spent f).count = f.count ∧ (spent f).blown = true := by
  unfold spent
  rw [h, if_neg (by decide)]
  exact ⟨rfl, rfl⟩
theorem fuse_in {f : Fu} {gen slot : Int} (hr : inRange gen slot) : fuseC f gen slot = spent f := by unfold fuseC; rw [if_pos hr]
theorem count_st {s : Ro} {f : Fu} {gen slot M : Int} {j : Nat} (hr : inRange gen slot) (hj : SetJ gen slot s f M j) (h0 : f.count = 0 ∧ f.blown = false) :
    (last gen slot s f j = 2 ∧ (st gen slot s f j).2.count = j - 1 ∧ (st gen slot s f j).2.blown = true) ∨ (last gen slot s f j ≠ 2 ∧ (st gen slot s f j).2.count = j ∧ (st gen slot s f j).2.blown = false) := by
  have key : ∀ i, i < j → (st gen slot s f i).2.count = i ∧ (st gen slot s f i).2.blown = false := by
    intro i
    induction i with
    | zero => exact fun _ => h0
    | succ i ih =>
      intro hi
      obtain ⟨a1, a2⟩ := ih (by omega)
      have hl := hj.ahead (i + 1) hi
      rcases told2 (s := (st gen slot s f i).1) (f := (st gen slot s f i).2) hr with ⟨b1, b2⟩ | ⟨b1, b2⟩
      · obtain ⟨d1, d2⟩ := spent_yes b1
        exact ⟨by show (fuseC _ _ _).count = _; rw [fuse_in hr, d1, a1]; push_cast; rfl, by show (fuseC _ _ _).blown = _; rw [fuse_in hr, d2, a2]⟩
      · exact absurd (b2.symm.trans hl) (by omega)
  obtain ⟨i, rfl⟩ : ∃ i, j = i + 1 := ⟨j - 1, by have := hj.pos; omega⟩
  obtain ⟨a1, a2⟩ := key i (by omega)
  rcases told2 (s := (st gen slot s f i).1) (f := (st gen slot s f i).2) hr with ⟨b1, b2⟩ | ⟨b1, b2⟩
  · obtain ⟨d1, d2⟩ := spent_yes b1
    exact .inr ⟨b2, by show (fuseC _ _ _).count = _; rw [fuse_in hr, d1, a1]; push_cast; rfl, by show (fuseC _ _ _).blown = _; rw [fuse_in hr, d2, a2]⟩
  · obtain ⟨d1, d2⟩ := spent_no b1
    exact .inl ⟨b2, by show (fuseC _ _ _).count = _; rw [fuse_in hr, d1, a1]; push_cast; omega, by show (fuseC _ _ _).blown = _; rw [fuse_in hr, d2]⟩
end Go.Proofs.Ytjalmfomeehpgaa.clientCounts
