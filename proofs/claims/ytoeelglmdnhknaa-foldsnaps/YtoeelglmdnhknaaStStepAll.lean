/-
  What the document's own Step answers.
-/
import Derived.Test.YtoeelglmdnhknaaStStepA
import Derived.Test.YtoeelglmdnhknaaStStepB
import Derived.Test.YtoeelglmdnhknaaStStepC
import Derived.Test.YtoeelglmdnhknaaStStepD
import Derived.Test.YtoeelglmdnhknaaStStepE
import Derived.Test.YtoeelglmdnhknaaStStepF
import Derived.Test.YtoeelglmdnhknaaStStepG0
import Derived.Test.YtoeelglmdnhknaaStStepG1
import Derived.Test.YtoeelglmdnhknaaStStepH0
import Derived.Test.YtoeelglmdnhknaaStStepH1
import Derived.Test.YtoeelglmdnhknaaStStepI0
import Derived.Test.YtoeelglmdnhknaaStStepI1
import Derived.Test.YtoeelglmdnhknaaStStepJ0
import Derived.Test.YtoeelglmdnhknaaStStepJ1
import Derived.Test.YtoeelglmdnhknaaStStepK
namespace Go.Proofs.Ytoeelglmdnhknaa
open Go.RowKit

theorem mstep_1 (s : St) (r : Rc) (w : World) (hr : rightS s = true) (hk : r.kind = 1) : Calls Try.prog 12 #[stV s, recV r] w (StepR (step1 s r) w) := by
  rcases (right_in hr).1 with h | h
  · by_cases h0 : s.ph = 0
    · exact mstep_1_0a s r w hr hk h h0
    by_cases h1 : s.ph = 1
    · exact mstep_1_0b s r w hr hk h h1
    by_cases h2 : s.ph = 2
    · exact mstep_1_0c s r w hr hk h h2
    exact mstep_1_0x s r w hr hk h ⟨h0, h1, h2⟩
  · by_cases h0 : s.ph = 0
    · exact mstep_1_1a s r w hr hk h h0
    by_cases h1 : s.ph = 1
    · exact mstep_1_1b s r w hr hk h h1
    by_cases h2 : s.ph = 2
    · exact mstep_1_1c s r w hr hk h h2
    exact mstep_1_1x s r w hr hk h ⟨h0, h1, h2⟩
theorem mstep_4 (s : St) (r : Rc) (w : World) (hr : rightS s = true) (hk : r.kind = 4) : Calls Try.prog 12 #[stV s, recV r] w (StepR (step4 s r) w) := by
  rcases (right_in hr).1 with h | h
  · exact mstep_4_0 s r w hr hk h
  · exact mstep_4_1 s r w hr hk h
theorem mstep_any (s : St) (r : Rc) (w : World) : Calls Try.prog 12 #[stV s, recV r] w (StepR (stepS s r) w) := by
  cases hr : rightS s with
  | false =>
    have e : stepS s r = (s, false) := by unfold stepS; rw [if_pos hr]
    rw [e]
    exact mstep_wrong s r w hr
  | true =>
    unfold stepS
    rw [if_neg (by rw [hr]; decide)]
    by_cases h1 : r.kind = 1
    · rw [if_pos h1]; exact mstep_1 s r w hr h1
    rw [if_neg h1]
    by_cases h2 : r.kind = 2
    · rw [if_pos h2]; exact mstep_2 s r w hr h2
    rw [if_neg h2]
    by_cases h3 : r.kind = 3
    · rw [if_pos h3]; exact mstep_3 s r w hr h3
    rw [if_neg h3]
    by_cases h4 : r.kind = 4
    · rw [if_pos h4]; exact mstep_4 s r w hr h4
    rw [if_neg h4]
    by_cases h5 : r.kind = 5
    · rw [if_pos h5]; exact mstep_5 s r w hr h5
    rw [if_neg h5]
    by_cases h6 : r.kind = 6
    · rw [if_pos h6]; exact mstep_6 s r w hr h6
    rw [if_neg h6]
    by_cases h7 : r.kind = 7
    · rw [if_pos h7]; exact mstep_7 s r w hr h7
    rw [if_neg h7]
    by_cases h8 : r.kind = 8
    · rw [if_pos h8]; exact mstep_8 s r w hr h8
    rw [if_neg h8]
    by_cases h9 : r.kind = 9
    · rw [if_pos h9]; exact mstep_9 s r w hr h9
    rw [if_neg h9]
    by_cases h10 : r.kind = 10
    · rw [if_pos h10]; exact mstep_10 s r w hr h10
    rw [if_neg h10]
    exact mstep_other s r w hr (by omega)
end Go.Proofs.Ytoeelglmdnhknaa
