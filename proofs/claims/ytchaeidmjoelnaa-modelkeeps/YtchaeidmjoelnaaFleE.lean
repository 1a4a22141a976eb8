/-
  Equality of views, and of pairs of numbers.
-/
import Derived.Test.YtchaeidmjoelnaaFleMD
import Derived.ChangeKeysEq
namespace Go.Proofs.Ytchaeidmjoelnaa
open Go.RowKit

theorem some3 : (Try.prog.info? 3).isSome = true := by kernel_rfl
theorem u28 : Try.prog.underlying 35 = some (.array 2 3) := by kernel_rfl
theorem eq28 (d : Nat) (a b c e : Int) (w : World) : (Op.equalIn (d + 2) 35 (.agg #[.int .i64 a, .int .i64 b]) (.agg #[.int .i64 c, .int .i64 e])).run Try.prog w = .ok (a == c && b == e) w := by
  rw [show d + 2 = (d + 1) + 1 from rfl, run_equalIn_array w (d + 1) _ _ u28 (Option.some_get some3).symm]
  have i3 : ∀ a b, (Op.equalIn (d + 1) 3 (.int .i64 a) (.int .i64 b)).run Try.prog w = .ok (a == b) w := fun a b => run_equalIn_int w d 3 .i64 .i64 a b Try.underlying3
  have a3 : (isAgg 3).run Try.prog w = .ok false w := by
    unfold isAgg
    rw [Sem.run_bind, run_underlying Try.underlying3 w]
    rfl
  rw [show List.range 2 = [0, 1] from rfl]
  simp only [Op.eqItems, k3, part, Sem.run_bind, a3, Result.andThen_ok]
  by_cases h7 : a = c <;> by_cases h8 : b = e <;> simp [h7, h8, i3]
theorem sh37 : Try.prog.stoodInHeld 42 = false := by kernel_rfl
theorem some28 : (Try.prog.info? 35).isSome = true := by kernel_rfl
noncomputable def ie28 : TypeInfo := (Try.prog.info? 35).get some28
theorem ie28_is : Try.prog.info? 35 = some ie28 := (Option.some_get some28).symm
theorem ie28_size : ie28.size = 2 := by kernel_rfl
theorem size28 (w : World) : (sizeOf 35).run Try.prog w = .ok 2 w := by simp [sizeOf, typeInfo, ie28_is, ie28_size]
theorem eq37 (a b c e a' b' c' e' : Int) (w : World) : (Op.equalIn 10000 42 (.agg #[.int .i64 a, .int .i64 b, .int .i64 c, .int .i64 e]) (.agg #[.int .i64 a', .int .i64 b', .int .i64 c', .int .i64 e'])).run Try.prog w = .ok (a == a' && b == b' && (c == c' && e == e')) w := by
  rw [run_equalIn_agg w 9999 42 _ _ u37 sh37]
  have hf : (Try.prog.fieldsOf 42).toList.map (fun f => (f.type, f.offset, f.name)) = [(35, 0, "Want"), (35, 2, "Ready")] := by kernel_rfl
  generalize (Try.prog.fieldsOf 42).toList = fs at hf
  rcases fs with _ | ⟨f0, _ | ⟨f1, _ | ⟨f2, fs⟩⟩⟩ <;> simp at hf
  obtain ⟨⟨h1, h2, h3⟩, h4, h5, h6⟩ := hf
  have i28 : ∀ a b c e : Int, (Op.equalIn 9999 35 (.agg #[.int .i64 a, .int .i64 b]) (.agg #[.int .i64 c, .int .i64 e])).run Try.prog w = .ok (a == c && b == e) w := fun a b c e => eq28 9997 a b c e w
  have a28 : (isAgg 35).run Try.prog w = .ok true w := by
    unfold isAgg
    rw [Sem.run_bind, run_underlying u28 w]
    rfl
  simp [Op.eqFields, h1, h2, h3, h4, h5, h6, part, a28, i28]
  by_cases h7 : a = a' <;> by_cases h8 : b = b' <;> by_cases h9 : c = c' <;> by_cases h10 : e = e' <;> simp [h7, h8, h9, h10]
end Go.Proofs.Ytchaeidmjoelnaa
