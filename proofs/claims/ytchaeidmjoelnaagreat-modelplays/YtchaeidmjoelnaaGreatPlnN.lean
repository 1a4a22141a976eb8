/-
  The document's own Next.
-/
import Derived.Test.YtchaeidmjoelnaaGreatPlnNc
import Derived.Test.YtchaeidmjoelnaaGreatLaw
namespace Go.Proofs.YtchaeidmjoelnaaGreat
open Go.RowKit

theorem mnext_any (s : St) (v : Vw) (now : Int) (w : World) (hr : rightS s = true) (hn : Fits now) : Calls Tryz.prog 34 #[stV s, vwV v, .int .i64 now] w fun e w' => e = .returned (.tuple #[.int .i64 (nextS s v now).1, recV (nextS s v now).2]) ∧ Below w.heap.size w w' := by
  have hi := right_in hr
  have hf := (right_fits hr).fl
  obtain ⟨ph, ac, r0, r1, w0, w1, p0, p1, dl, gn, sw, fl⟩ := s
  rcases hi.1 with h0 | h0
  · obtain rfl : ac = 0 := h0
    exact mnext_c 0 1 ph r0 r1 w0 w1 dl gn sw fl now p0 p1 _ _ _ _ w (by unfold wrap64; omega) rfl rfl ⟨hi.2.2.2.1, hi.2.2.2.2.1⟩ (fun W => mfull_any ⟨ph, 0, r0, r1, w0, w1, p0, p1, dl, gn, sw, fl⟩ v 1 W) (fun W => mless_any now fl W hn hf)
  · obtain rfl : ac = 1 := h0
    exact mnext_c 1 0 ph r0 r1 w0 w1 dl gn sw fl now p0 p1 _ _ _ _ w (by unfold wrap64; omega) rfl rfl ⟨hi.2.2.2.1, hi.2.2.2.2.1⟩ (fun W => mfull_any ⟨ph, 1, r0, r1, w0, w1, p0, p1, dl, gn, sw, fl⟩ v 0 W) (fun W => mless_any now fl W hn hf)
end Go.Proofs.YtchaeidmjoelnaaGreat
