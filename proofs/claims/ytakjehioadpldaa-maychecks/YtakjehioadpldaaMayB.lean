/-
  Package may's calls as a bundle.
-/
import Derived.Test.YtakjehioadpldaaMayR
import Derived.Test.YtakjehioadpldaaMayC
namespace Go.Proofs.Ytakjehioadpldaa
open Go.RowKit

/-- The package's calls are what the document says. -/
structure PkgM : Prop where
  check : ∀ (s : St) (o : Oc) (now : Int) (W : World), rightS s = true → FitsS s → FitsO o → Fits now → Calls Try.prog 10 #[stV s, opV o, .int .i64 now] W fun e w' => e = .returned (.int .i64 (chkS s o now)) ∧ Below W.heap.size W w'
  record : ∀ (o : Oc) (W : World), FitsO o → Calls Try.prog 12 #[opV o] W fun e w' => e = .returned (recV (recO o)) ∧ Below W.heap.size W w'
end Go.Proofs.Ytakjehioadpldaa
