/-
  The document's own Set: Scale, Ready, Count, Full.
-/
import Derived.Test.YtchaeidmjoelnaaRepM
import Derived.Deep.LoopGhost
import Derived.Deep.QuietTactic
import Derived.BigQuiet
namespace Go.Proofs.Ytchaeidmjoelnaa
open Go.RowKit

end Go.Proofs.Ytchaeidmjoelnaa
