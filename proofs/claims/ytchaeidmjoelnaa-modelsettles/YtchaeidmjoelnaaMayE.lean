/-
  Records: when they are equal; operations that came in.
-/
import Derived.Test.YtchaeidmjoelnaaEqs
import Derived.Test.YtchaeidmjoelnaaMayS
namespace Go.Proofs.Ytchaeidmjoelnaa
open Go.RowKit

structure FitsO (o : Oc) : Prop where
  kind : Fits o.kind
  rev : Fits o.rev
  cnt : Fits o.cnt
  delay : Fits o.delay
def recL (r : Rc) : List Lit := [.int .i64 r.kind, .int .i64 r.rev, .int .i64 r.cnt, .int .i64 r.delay, .int .i64 r.gen, .int .i64 r.tick, .bool r.pass] ++ stL r.st
theorem kl35 (d : Nat) {r : Rc} (h : FitsR r) : Try.prog.keyLits (d + 4) 72 (recC r).toList = some (recL r) := by
  have h3 := fun (a : Int) (ha : Fits a) => kl3 (d + 2) ha
  have h4 := fun (a : Bool) => kl4 (d + 2) a
  have h5 := kl25 d h.st
  simp only [stC] at h5
  unfold Program.keyLits
  simp only [Try.underlying72]
  simp [recC, c27, c3, c4, c25, h3 _ h.kind, h3 _ h.rev, h3 _ h.cnt, h3 _ h.delay, h3 _ h.gen, h3 _ h.tick, h4, h5]
  rfl
theorem kt35 : Try.prog.keyTypeAt 10 72 = true := by kernel_rfl
/-- A record is equal to itself. -/
theorem eq35 {a : Rc} (ha : FitsR a) (w : World) : (Op.equalIn 10000 72 (.agg (recC a)) (.agg (recC a))).run Try.prog w = .ok true w := by
  obtain ⟨r, hr, hi⟩ := run_equalIn_deep 9990 10 72 kt35 w 4 4 (.agg (recC a)) (.agg (recC a)) _ _ (by kernel_rfl) (by kernel_rfl) (kl35 0 ha) (kl35 0 ha)
  rw [hr, hi.2 rfl]
theorem fits_zero : FitsS zeroS := by constructor <;> (unfold Fits zeroS; decide)
theorem fits_recO {o : Oc} (h : FitsO o) : FitsR (recO o) := by
  have z0 : Fits 0 := by unfold Fits; decide
  have z1 : Fits 1 := by unfold Fits; decide
  unfold recO
  split
  · exact ⟨z1, h.rev, h.cnt, h.delay, z0, z0, fits_zero⟩
  · split
    · exact ⟨h.kind, z0, z0, z0, z0, z0, fits_zero⟩
    · exact ⟨h.kind, z0, z0, z0, z0, z0, fits_zero⟩
end Go.Proofs.Ytchaeidmjoelnaa
