/-
  What the document's own Step answers to a record that can come.
-/
import Derived.Test.YtchaeidmjoelnaaGreatStOkA
import Derived.Test.YtchaeidmjoelnaaGreatStOkB
import Derived.Test.YtchaeidmjoelnaaGreatStOkC
import Derived.Test.YtchaeidmjoelnaaGreatStOkD
namespace Go.Proofs.YtchaeidmjoelnaaGreat

theorem mstep_ok (s : St) (r : Rc) (w : World) (hr : rightS s = true) (hok : OkR s r) : Calls Tryz.prog 54 #[stV s, recV r] w (StepR (stepS s r) w) := by
  rcases ok_ways hr hok with h | h | h | h
  · exact mstep_okA s r w hr h
  · exact mstep_okB s r w hr h
  · exact mstep_okC s r w hr h
  · exact mstep_okD s r w hr h
end Go.Proofs.YtchaeidmjoelnaaGreat
