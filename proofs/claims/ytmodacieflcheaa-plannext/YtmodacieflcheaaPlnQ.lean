/-
  The landed package's calls, as the walks ask for them.
-/
import Derived.Test.YtmodacieflcheaaPlnP
import Derived.Test.YtmodacieflcheaaPlnN
namespace Go.Proofs.Ytmodacieflcheaa
theorem pkgpl_is : PkgPl := ⟨fun s v now W hr _ hn => nextis s v now W hr hn, fun s v slot W _ _ _ => fullis s v slot W⟩
end Go.Proofs.Ytmodacieflcheaa
