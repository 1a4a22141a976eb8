/-
  What calls of one route, one behind the other, tell and leave: st, last; where Set ends: SetJ.
-/
import Derived.Test.YtchaeidmjoelnaaPkF
import Derived.Deep.LoopGhost
namespace Go.Proofs.Ytchaeidmjoelnaa
open Go.RowKit

/-- The router and its fuse behind i calls of one route. -/
def st (gen slot : Int) (s : Ro) (f : Fu) : Nat → Ro × Fu
  | 0 => (s, f)
  | i + 1 => (leftC (st gen slot s f i).1 (st gen slot s f i).2 gen slot, fuseC (st gen slot s f i).2 gen slot)
/-- What the i-th of them tells (ahead of the first: ErrRouter). -/
def last (gen slot : Int) (s : Ro) (f : Fu) : Nat → Int
  | 0 => 10
  | i + 1 => toldC (st gen slot s f i).1 (st gen slot s f i).2 gen slot
/-- How many there may be. -/
def triesC (n : Int) : Int := if n < 1 then 1 else if 8 < n then 8 else n
theorem triesC_in (n : Int) : 1 ≤ triesC n ∧ triesC n ≤ 8 := by
  unfold triesC
  by_cases h1 : n < 1
  · rw [if_pos h1]; omega
  · rw [if_neg h1]
    by_cases h2 : 8 < n
    · rw [if_pos h2]; omega
    · rw [if_neg h2]; omega
/-- Set ends behind j calls. -/
structure SetJ (gen slot : Int) (s : Ro) (f : Fu) (M : Int) (j : Nat) : Prop where
  pos : 1 ≤ j
  le : (j : Int) ≤ M
  ahead : ∀ i, i < j → last gen slot s f i = 10
  fin : last gen slot s f j ≠ 10 ∨ (j : Int) = M
theorem SetJ.uniq {gen slot : Int} {s : Ro} {f : Fu} {M : Int} {j k : Nat} (h : SetJ gen slot s f M j) (h' : SetJ gen slot s f M k) : j = k := by
  rcases Nat.lt_trichotomy j k with hl | he | hl
  · rcases h.fin with e | e
    · exact absurd (h'.ahead j hl) e
    · have := h'.le; omega
  · exact he
  · rcases h'.fin with e | e
    · exact absurd (h.ahead k hl) e
    · have := h.le; omega
theorem bd_st {gen slot : Int} {s : Ro} {f : Fu} {n : Nat} (h : Bd n s f) (i : Nat) : Bd (n + i) (st gen slot s f i).1 (st gen slot s f i).2 := by
  induction i with
  | zero => exact h
  | succ i ih => exact ih.call gen slot
theorem Bd.up {n m : Nat} {s : Ro} {f : Fu} (h : Bd n s f) (hm : n ≤ m) : Bd m s f :=
  ⟨h.left, h.blown, by have := h.count; omega, by have := h.writes; omega, by have := h.outs; omega⟩
end Go.Proofs.Ytchaeidmjoelnaa
