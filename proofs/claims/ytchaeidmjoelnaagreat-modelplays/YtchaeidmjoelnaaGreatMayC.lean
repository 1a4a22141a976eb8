/-
  What the document's own Check answers.
-/
import Derived.Test.YtchaeidmjoelnaaGreatMayC0
import Derived.Test.YtchaeidmjoelnaaGreatMayC1
namespace Go.Proofs.YtchaeidmjoelnaaGreat
open Go.RowKit

theorem mcheck_any (s : St) (o : Oc) (now : Int) (w : World) (h : s.ac = 0 ∨ s.ac = 1) : Calls Tryz.prog 30 #[stV s, opV o, .int .i64 now] w fun e w' => e = .returned (.int .i64 (chkS s o now)) ∧ Below w.heap.size w w' := by
  obtain ⟨ph, ac, r0, r1, w0, w1, p0, p1, dl, gn, sw, fl⟩ := s
  obtain ⟨kd, rv, cn, dy, ps⟩ := o
  rcases h with h | h
  · obtain rfl : ac = 0 := h
    exact mcheck_0 ph r0 r1 w0 w1 dl gn sw fl kd rv cn dy now p0 p1 ps _ _ w rfl rfl
  · obtain rfl : ac = 1 := h
    exact mcheck_1 ph r0 r1 w0 w1 dl gn sw fl kd rv cn dy now p0 p1 ps _ _ w rfl rfl
end Go.Proofs.YtchaeidmjoelnaaGreat
