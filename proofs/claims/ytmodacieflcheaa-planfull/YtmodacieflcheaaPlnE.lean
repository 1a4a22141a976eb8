/-
  Records: when they are equal.
-/
import Derived.Test.YtmodacieflcheaaPlnN
namespace Go.Proofs.Ytmodacieflcheaa
open Go.RowKit

def recL (r : Rc) : List Lit := [.int .i64 r.kind, .int .i64 r.rev, .int .i64 r.cnt, .int .i64 r.delay, .int .i64 r.gen, .int .i64 r.tick, .bool r.pass] ++ stL r.st
theorem kl31 (d : Nat) {r : Rc} (h : FitsR r) : Try.prog.keyLits (d + 4) 31 (recC r).toList = some (recL r) := by
  have h3 := fun (a : Int) (ha : Fits a) => kl3 (d + 2) ha
  have h4 := fun (a : Bool) => kl4 (d + 2) a
  have h5 := kl25 d h.st
  simp only [stC] at h5
  unfold Program.keyLits
  simp only [Try.underlying31]
  simp [recC, c27, c3, c4, c25, h3 _ h.kind, h3 _ h.rev, h3 _ h.cnt, h3 _ h.delay, h3 _ h.gen, h3 _ h.tick, h4, h5]
  rfl
theorem kt31 : Try.prog.keyTypeAt 10 31 = true := by kernel_rfl
/-- A record is equal to itself. -/
theorem eq31 {a : Rc} (ha : FitsR a) (w : World) : (Op.equalIn 10000 31 (.agg (recC a)) (.agg (recC a))).run Try.prog w = .ok true w := by
  obtain ⟨r, hr, hi⟩ := run_equalIn_deep 9990 10 31 kt31 w 4 4 (.agg (recC a)) (.agg (recC a)) _ _ (by kernel_rfl) (by kernel_rfl) (kl31 0 ha) (kl31 0 ha)
  rw [hr, hi.2 rfl]
theorem fits_zero : FitsS zeroS := by constructor <;> (unfold Fits zeroS; decide)
theorem fits_rcK {k g : Int} (hk : 0 ≤ k ∧ k ≤ 20) (hg : 0 ≤ g ∧ g ≤ 1073741824) : FitsR (rcK k g) := by
  have z0 : Fits 0 := by unfold Fits; decide
  exact ⟨fits_small hk.1 (by show k ≤ 1073741824; omega), z0, z0, z0, fits_small hg.1 hg.2, z0, fits_zero⟩
theorem Rw.setc {W : World} {b : Nat} {cs : Array Value} {t : TypeId} (h : Rw W b cs t) (i : Nat) (u : Value) : Rw (W.setCell ⟨b, i, none⟩ u) b (cs.setIfInBounds i u) t := by
  unfold Rw at h ⊢
  simp [World.setCell, Array.getElem?_modify, h]
end Go.Proofs.Ytmodacieflcheaa
