/-
  Slices of numbers and of acts that came in.
-/
import Derived.Test.YtchaeidmjoelnaaRepL
import Derived.Test.YtchaeidmjoelnaaRows
import Derived.WalkKit
import Derived.Below
import Derived.Lib.Hide
import Derived.ChangeSame
import Derived.ChangeVars
import Derived.JoinedOf
import Derived.RowKit
import Derived.RowKitTokens
import Derived.LaidLaws
import Derived.Stop.Joined
import Derived.Carry
import Derived.ProofKit
import Derived.OpenShut
import Derived.ChangeMaps5
import Derived.Deep.Slices
import Derived.OneCell
namespace Go.Proofs.Ytchaeidmjoelnaa
open Go.ChangeShapes Go.WideShapes Go.ChangeAt Go.RowKit

theorem k24 : Try.prog.cellsOf 32 = 1 := by kernel_rfl
theorem k45 : Try.prog.cellsOf 40 = 2 := by kernel_rfl
/-- A slice that came in. -/
def IntsI (W : World) (v : Value) (xs : List Int) : Prop :=
  ((v = .slice none 0 0 ∨ ∃ a c, v = .slice (some a) 0 c) ∧ xs = []) ∨ ∃ b o c, v = .slice (some ⟨b, o, none⟩) xs.length c ∧ 0 < xs.length ∧ xs.length ≤ c ∧ b < W.heap.size ∧ ∀ k (h : k < xs.length), W.cell? ⟨b, o + k, none⟩ = some (.int .i64 xs[k])
section
variable {H : Type} {enc : TypeId × Value → H} {W : World} {n : Nat}
/-- A slice of numbers. -/
theorem open_ints1 {v : Value} {x : DataW H × List MemPlace} (h : DataW.trod enc Try.prog W 0 (fun _ => true) true n 32 [v] = some x) : ∃ xs, IntsI W v xs ∧ ∀ x ∈ xs, Fits x := by
  rcases Go.Deep.open_slice Try.underlying32 h with ⟨h0, _⟩ | ⟨a', len, cap, m, k, D, Pl, h0, _, hl, hm, hmm, _, hcell⟩
  · obtain rfl : v = .slice none 0 0 := by simpa using h0
    exact ⟨[], .inl ⟨.inl rfl, rfl⟩, fun _ h => by cases h⟩
  · obtain rfl : v = .slice (some a') len cap := by simpa using h0
    rcases Nat.eq_zero_or_pos len with h5 | h5
    · subst h5
      exact ⟨[], .inl ⟨.inr ⟨_, _, rfl⟩, rfl⟩, fun _ h => by cases h⟩
    have hm' : m = cap := by simpa using hmm
    subst hm'
    have each : ∀ i, i < len → ∃ a : Int, W.cell? (a'.add i) = some (.int .i64 a) ∧ Fits a := by
      intro i hi
      obtain ⟨cs, c1, t1⟩ := hcell i (by omega)
      rw [k3] at c1
      obtain ⟨_, hlen, hc⟩ := World.cells?_some c1
      match cs, hlen with
      | [u], _ =>
        obtain ⟨a, rfl, hf⟩ := one_int t1
        have e := hc 0 (by omega)
        rw [Go.Deep.add_add] at e
        exact ⟨a, by simpa using e, hf⟩
    obtain ⟨q, hq⟩ := Go.Deep.choose_lt each
    obtain ⟨b, off, spot⟩ := a'
    have h1 := (hq 0 h5).1
    have hspot : spot = none := by simpa [Addr.add] using World.cell?_spot h1
    subst hspot
    have hadd := addr_add b off
    refine ⟨(List.range len).map q, .inr ⟨b, off, m, by simp, by simpa using h5, by simpa using hl, ?_, ?_⟩, ?_⟩
    · rw [hadd] at h1
      exact World.block_lt_of_cell? W _ h1
    · intro k hk
      have h2 := (hq k (by simpa using hk)).1
      rw [hadd] at h2
      simpa using h2
    · intro r hr
      obtain ⟨k, hk, rfl⟩ := List.mem_map.1 hr
      exact (hq k (by simpa using hk)).2
end
/-- A route that came in. -/
theorem open_pair {H : Type} {enc : TypeId × Value → H} {W : World} {n : Nat} {u v : Value} {x : DataW H × List MemPlace} (h : DataW.trod enc Try.prog W 0 (fun _ => true) true n 40 [u, v] = some x) : ∃ a b, u = .int .i64 a ∧ v = .int .i64 b ∧ Fits a ∧ Fits b := by
  obtain ⟨xs, k, hk, _, _, hxl, hfs⟩ := DataW.trod_struct Try.underlying40 h
  match xs, hxl with
  | [y0, y1], _ =>
    have g0 := hfs 0 _ rfl
    have g1 := hfs 1 _ rfl
    simp [k3] at g0 g1
    obtain ⟨x0, rfl, b0⟩ := one_int g0
    obtain ⟨x1, rfl, b1⟩ := one_int g1
    exact ⟨x0, x1, rfl, rfl, b0, b1⟩
end Go.Proofs.Ytchaeidmjoelnaa
