/-
  The document's own Next; package plan's calls as a bundle.
-/
import Derived.Test.YtmodacieflcheaaPlnN0
import Derived.Test.YtmodacieflcheaaPlnN1
import Derived.Test.YtmodacieflcheaaLaw
namespace Go.Proofs.Ytmodacieflcheaa
open Go.RowKit

theorem mnext_any (s : St) (v : Vw) (now : Int) (w : World) (hr : rightS s = true) (hn : Fits now) : Calls Try.prog 12 #[stV s, vwV v, .int .i64 now] w fun e w' => e = .returned (.tuple #[.int .i64 (nextS s v now).1, recV (nextS s v now).2]) ∧ Below w.heap.size w w' := by
  have hi := right_in hr
  have hf := (right_fits hr).fl
  obtain ⟨ph, ac, r0, r1, w0, w1, p0, p1, dl, gn, sw, fl⟩ := s
  rcases hi.1 with h0 | h0
  · obtain rfl : ac = 0 := h0
    exact mnext_0 ph r0 r1 w0 w1 dl gn sw fl now p0 p1 _ _ _ _ w rfl rfl ⟨hi.2.2.2.1, hi.2.2.2.2.1⟩ (fun W => mfull_any ⟨ph, 0, r0, r1, w0, w1, p0, p1, dl, gn, sw, fl⟩ v 1 W) (fun W => mless_any now fl W hn hf)
  · obtain rfl : ac = 1 := h0
    exact mnext_1 ph r0 r1 w0 w1 dl gn sw fl now p0 p1 _ _ _ _ w rfl rfl ⟨hi.2.2.2.1, hi.2.2.2.2.1⟩ (fun W => mfull_any ⟨ph, 1, r0, r1, w0, w1, p0, p1, dl, gn, sw, fl⟩ v 0 W) (fun W => mless_any now fl W hn hf)
/-- All of a view's numbers are ones that an int can be. -/
structure FitsV (v : Vw) : Prop where
  a0 : Fits v.a0
  a1 : Fits v.a1
  b0 : Fits v.b0
  b1 : Fits v.b1
/-- The package's calls are what the document says. -/
structure PkgPl : Prop where
  next : ∀ (s : St) (v : Vw) (now : Int) (W : World), rightS s = true → FitsV v → Fits now → Calls Try.prog 11 #[stV s, vwV v, .int .i64 now] W fun e w' => e = .returned (.tuple #[.int .i64 (nextS s v now).1, recV (nextS s v now).2]) ∧ Below W.heap.size W w'
  full : ∀ (s : St) (v : Vw) (slot : Int) (W : World), FitsS s → FitsV v → Fits slot → Calls Try.prog 13 #[stV s, vwV v, .int .i64 slot] W fun e w' => e = .returned (.bool (fullS s v slot)) ∧ Below W.heap.size W w'
end Go.Proofs.Ytmodacieflcheaa
