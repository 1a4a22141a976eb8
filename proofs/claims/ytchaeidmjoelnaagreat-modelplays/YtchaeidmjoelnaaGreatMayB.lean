/-
  Package may's calls as a bundle.
-/
import Derived.Test.YtchaeidmjoelnaaGreatMayF
namespace Go.Proofs.YtchaeidmjoelnaaGreat
open Go.RowKit

/-- The package's calls are what the document says. -/
structure PkgM : Prop where
  check : ∀ (s : St) (o : Oc) (now : Int) (W : World), rightS s = true → FitsS s → FitsO o → Fits now → Calls Tryz.prog 41 #[stV s, opV o, .int .i64 now] W fun e w' => e = .returned (.int .i64 (chkS s o now)) ∧ Below W.heap.size W w'
  record : ∀ (o : Oc) (W : World), FitsO o → Calls Tryz.prog 43 #[opV o] W fun e w' => e = .returned (recV (recO o)) ∧ Below W.heap.size W w'
end Go.Proofs.YtchaeidmjoelnaaGreat
