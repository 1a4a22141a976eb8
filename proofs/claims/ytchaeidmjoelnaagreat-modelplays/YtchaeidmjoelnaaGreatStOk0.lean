/-
  What the document's own Step answers to a record that can come.
-/
import Derived.Test.YtchaeidmjoelnaaGreatStBl
import Derived.Test.YtchaeidmjoelnaaGreatStStep
import Derived.Test.YtchaeidmjoelnaaGreatStStepK
import Derived.Deep.RegionHeld3
namespace Go.Proofs.YtchaeidmjoelnaaGreat
open Go.RowKit
set_option linter.unusedSimpArgs false

/-- The record can come, or is one more of generations that are at their end. -/
def OkR (s : St) (r : Rc) : Prop := (stepS s r).2 = true ∨ r.kind = 5 ∧ (s.ph = 3 ∨ s.ph = 6) ∧ s.sw = 0 ∧ r.gen = s.gn + 1
/-- Its ways: A. -/
inductive OkA (s : St) (r : Rc) : Prop
  | k1 : r.kind = 1 → (s.ph = 0 ∨ s.ph = 1 ∨ s.ph = 2) → ¬ (r.rev < 1 ∨ 1073741824 < r.rev ∨ r.cnt < 1 ∨ 32 < r.cnt ∨ r.delay < 0 ∨ 65536 < r.delay ∨ r.rev = raS s ∨ 1048574 < s.gn) → OkA s r
/-- Its ways: B. -/
inductive OkB (s : St) (r : Rc) : Prop
  | k2a : r.kind = 2 → (s.ph = 1 ∨ s.ph = 2 ∨ s.ph = 3 ∧ s.sw = 0) → OkB s r
  | k2b : r.kind = 2 → (s.ph = 4 ∨ s.ph = 5) → OkB s r
  | k3 : r.kind = 3 → s.ph = 1 → OkB s r
  | k4 : r.kind = 4 → s.ph = 2 → OkB s r
/-- Its ways: C. -/
inductive OkC (s : St) (r : Rc) : Prop
  | k5 : r.kind = 5 → (s.ph = 3 ∨ s.ph = 6) → s.sw = 0 → r.gen = s.gn + 1 → OkC s r
  | k6 : r.kind = 6 ∨ r.kind = 7 → s.sw = 1 → r.gen = s.gn → OkC s r
/-- Its ways: D. -/
inductive OkD (s : St) (r : Rc) : Prop
  | k8 : r.kind = 8 → (s.ph = 3 ∨ s.ph = 6) → s.sw = 2 → r.gen = s.gn → 0 ≤ r.tick ∧ r.tick ≤ 1073741824 → OkD s r
  | k9 : r.kind = 9 → s.ph = 4 → OkD s r
  | k10 : r.kind = 10 → (s.ph = 5 ∨ s.ph = 7) → OkD s r
theorem right_sw {s : St} (h : rightS s = true) : s.sw = 0 ∨ s.ph = 3 ∨ s.ph = 6 := by
  unfold rightS at h
  split at h
  · have := of_decide_eq_true h; unfold RightX at this; omega
  · split at h
    · have := of_decide_eq_true h; unfold RightX at this; omega
    · cases h
theorem ok_ways {s : St} {r : Rc} (hr : rightS s = true) (h : OkR s r) : OkA s r ∨ OkB s r ∨ OkC s r ∨ OkD s r := by
  rcases h with h | ⟨h1, h2, h3, h4⟩
  · unfold stepS at h
    rw [if_neg (by rw [hr]; decide)] at h
    have hw := right_sw hr
    by_cases h1 : r.kind = 1
    · rw [if_pos h1] at h
      unfold step1 at h
      split at h
      · cases h
      · rename_i g1
        split at h
        · cases h
        · rename_i g2
          exact .inl (.k1 h1 (by omega) g2)
    rw [if_neg h1] at h
    by_cases h2 : r.kind = 2
    · rw [if_pos h2] at h
      unfold step2 at h
      split at h
      · rename_i g1
        exact .inr (.inl (.k2a h2 g1))
      · exact .inr (.inl (.k2b h2 (of_decide_eq_true h)))
    rw [if_neg h2] at h
    by_cases h3 : r.kind = 3
    · rw [if_pos h3] at h
      exact .inr (.inl (.k3 h3 (of_decide_eq_true h)))
    rw [if_neg h3] at h
    by_cases h4 : r.kind = 4
    · rw [if_pos h4] at h
      unfold step4 at h
      split at h
      · rename_i g1
        exact .inr (.inl (.k4 h4 g1.1))
      · exact .inr (.inl (.k4 h4 (of_decide_eq_true h)))
    rw [if_neg h4] at h
    by_cases h5 : r.kind = 5
    · rw [if_pos h5] at h
      have g := of_decide_eq_true h
      exact .inr (.inr (.inl (.k5 h5 g.1 g.2.1 g.2.2.2)))
    rw [if_neg h5] at h
    by_cases h6 : r.kind = 6
    · rw [if_pos h6] at h
      have g := of_decide_eq_true h
      exact .inr (.inr (.inl (.k6 (.inl h6) g.1 g.2)))
    rw [if_neg h6] at h
    by_cases h7 : r.kind = 7
    · rw [if_pos h7] at h
      have g := of_decide_eq_true h
      exact .inr (.inr (.inl (.k6 (.inr h7) g.1 g.2)))
    rw [if_neg h7] at h
    by_cases h8 : r.kind = 8
    · rw [if_pos h8] at h
      have g := of_decide_eq_true h
      exact .inr (.inr (.inr (.k8 h8 (by omega) g.1 g.2.1 g.2.2)))
    rw [if_neg h8] at h
    by_cases h9 : r.kind = 9
    · rw [if_pos h9] at h
      exact .inr (.inr (.inr (.k9 h9 (of_decide_eq_true h))))
    rw [if_neg h9] at h
    by_cases h10 : r.kind = 10
    · rw [if_pos h10] at h
      exact .inr (.inr (.inr (.k10 h10 (of_decide_eq_true h))))
    rw [if_neg h10] at h
    cases h
  · exact .inr (.inr (.inl (.k5 h1 h2 h3 h4)))
theorem Rw.cellO {W : World} {b i : Nat} {cs : Array Value} {t : TypeId} (h : Rw W b cs t) (u : Value) : Rw (W.setCell ⟨b, i, none⟩ u) b (cs.setIfInBounds i u) t := by
  unfold Rw at h ⊢
  simp [World.setCell, Array.getElem?_modify, h]
theorem Rw.cellN {W : World} {A b i : Nat} {cs : Array Value} {t : TypeId} (h : Rw W A cs t) (hne : A ≠ b) (u : Value) : Rw (W.setCell ⟨b, i, none⟩ u) A cs t := (Below.heap_setCell W ⟨b, i, none⟩ u A hne).trans h
theorem cell_setRow {b A i : Nat} {W : World} {cs : Array Value} (h : A ≠ b) : (W.setRow b cs).cell? ⟨A, i, none⟩ = W.cell? ⟨A, i, none⟩ := by
  simp [World.cell?, setRow_block W b A cs h]
theorem name_5 {P : Program} {c : Code} {Q : Exit → Act → World → Prop} {a : Act} {w W : World} {A B Z M : Nat} {cA cB cZ cM : Array Value} {tA tB tZ tM : TypeId} (h1 : Rw W A cA tA) (h2 : Rw W B cB tB) (h3 : Rw W Z cZ tZ) (h4 : Rw W M cM tM) (h5 : Below w.heap.size w W)
    (h : ∀ W', Rw W' A cA tA → Rw W' B cB tB → Rw W' Z cZ tZ → Rw W' M cM tM → Below w.heap.size w W' → Code.wp P c Q a W') : Code.wp P c Q a W := h W h1 h2 h3 h4 h5
theorem Rw.drN {W : World} {b : Nat} {cs : Array Value} {t : TypeId} (h : Rw W b cs t) (n : Nat) : Rw (W.drewN n) b cs t := by
  unfold Rw at h ⊢
  simpa using h
theorem below_drN {B : Nat} {w W : World} (h : Below B w W) (n : Nat) : Below B w (W.drewN n) := ⟨h.os, h.tape, h.output, h.size, h.block⟩
theorem Rw.pass {W W' : World} {b : Nat} {cs : Array Value} {t : TypeId} (h : Rw W b cs t) (hb : Below W.heap.size W W') : Rw W' b cs t := h.under hb h.lt
theorem below_pass {w W W' : World} (h : Below w.heap.size w W) (hb : Below W.heap.size W W') : Below w.heap.size w W' := h.trans (hb.mono h.size)
end Go.Proofs.YtchaeidmjoelnaaGreat
