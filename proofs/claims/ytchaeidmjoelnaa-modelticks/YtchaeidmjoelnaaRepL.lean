/-
  Acts that came in.
-/
import Derived.Test.YtchaeidmjoelnaaFoTab
import Derived.Test.YtchaeidmjoelnaaRows
import Derived.WalkKit
import Derived.Below
import Derived.Lib.Hide
import Derived.ChangeSame
import Derived.ChangeVars
import Derived.JoinedOf
import Derived.RowKit
import Derived.RowKitTokens
import Derived.LaidLaws
import Derived.Stop.Joined
import Derived.Carry
import Derived.ProofKit
import Derived.OpenShut
import Derived.ChangeMaps5
import Derived.Deep.Slices
import Derived.OneCell
namespace Go.Proofs.Ytchaeidmjoelnaa
open Go.ChangeShapes Go.WideShapes Go.ChangeAt Go.RowKit

theorem k3 : Try.prog.cellsOf 3 = 1 := by kernel_rfl
theorem k28 : Try.prog.cellsOf 35 = 2 := by kernel_rfl
theorem k4 : Try.prog.cellsOf 4 = 1 := by kernel_rfl
theorem addr_add (b off : Nat) : ∀ i, (⟨b, off, none⟩ : Addr).add i = ⟨b, off + i, none⟩ := fun i => by unfold Addr.add; split <;> simp_all
section
variable {H : Type} {enc : TypeId × Value → H} {W : World} {n : Nat}
theorem one_int {v : Value} {x : DataW H × List MemPlace} (h : DataW.trod enc Try.prog W 0 (fun _ => true) true n 3 [v] = some x) : ∃ a, v = .int .i64 a ∧ Fits a := by
  obtain ⟨a, h1, _, h2⟩ := DataW.trod_int Try.underlying3 h
  exact ⟨a, by simpa using h1, bounds_i64 h2⟩
theorem one_bool {v : Value} {x : DataW H × List MemPlace} (h : DataW.trod enc Try.prog W 0 (fun _ => true) true n 4 [v] = some x) : ∃ a, v = .bool a := by
  obtain ⟨a, h1, _⟩ := DataW.trod_bool Try.underlying4 h
  exact ⟨a, by simpa using h1⟩
theorem one_two {v u : Value} {x : DataW H × List MemPlace} (h : DataW.trod enc Try.prog W 0 (fun _ => true) true n 35 [v, u] = some x) : ∃ a b, v = .int .i64 a ∧ u = .int .i64 b ∧ Fits a ∧ Fits b := by
  obtain ⟨ys, m, _, _, hl, hyl, hi⟩ := DataW.trod_array Try.underlying35 h
  match ys, hyl with
  | [y0, y1], _ =>
    have g0 := hi 0 (by omega)
    have g1 := hi 1 (by omega)
    simp [k3] at g0 g1
    obtain ⟨a, rfl, w0⟩ := one_int g0
    obtain ⟨b, rfl, w1⟩ := one_int g1
    exact ⟨a, b, rfl, rfl, w0, w1⟩
end
end Go.Proofs.Ytchaeidmjoelnaa
