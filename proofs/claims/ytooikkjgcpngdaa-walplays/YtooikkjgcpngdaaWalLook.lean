/-
  Both Gets by 'look': a sector's record, or none.
-/
import Derived.Test.YtooikkjgcpngdaaWalMath
import Derived.Test.YtooikkjgcpngdaaFrameC
namespace Go.Proofs.Ytooikkjgcpngdaa
open Go.RowKit
open Fr (Rec secB valL lenV)

/-- What a Get that looks at b answers. -/
def Looks (b : ByteArray) (e : Ending) : Prop :=
  (∃ g n : Nat, ∃ p : ByteArray, look b = some (g, n, p) ∧ e = .returned (.tuple #[.int .i64 (g : Int), .int .i64 (n : Int), .string p, .bool true])) ∨
  (look b = none ∧ e = .returned (.tuple #[.int .i64 0, .int .i64 0, .string ⟨#[]⟩, .bool false]))
theorem got_looks {b : ByteArray} {e : Ending} (h : Fr.Got b e) : Looks b e := by
  rcases h with ⟨hr, he⟩ | ⟨hn, he⟩
  · refine .inl ⟨_, _, _, by unfold look; rw [if_pos hr], ?_⟩
    rw [he]
    rfl
  · exact .inr ⟨by unfold look; rw [if_neg hn], he⟩
theorem mget_any (b : ByteArray) (w : World) (hs : b.size ≤ 1024) : Calls Try.prog 41 #[.string b] w fun e w' => Looks b e ∧ Below w.heap.size w w' := by
  by_cases h : b.size < 128 ∨ 1024 < b.size
  · exact (Fr.fget_size b w (by unfold maxLen; omega) h).mono fun e w' ⟨he, hb⟩ => ⟨got_looks he, hb⟩
  · exact (Fr.fget_in b w (by omega) (by omega)).mono fun e w' ⟨he, hb⟩ => ⟨got_looks he, hb⟩
theorem mget_some {b : ByteArray} {g n : Nat} {p : ByteArray} (h : look b = some (g, n, p)) (w : World) : Calls Try.prog 41 #[.string b] w fun e w' => e = .returned (.tuple #[.int .i64 (g : Int), .int .i64 (n : Int), .string p, .bool true]) ∧ Below w.heap.size w w' := by
  refine (mget_any b w (look_lt h).2.2.2).mono ?_
  rintro e w' ⟨he, hb⟩
  rcases he with ⟨g', n', p', hl, he⟩ | ⟨hl, _⟩
  · rw [h] at hl
    cases hl
    exact ⟨he, hb⟩
  · rw [h] at hl
    cases hl
theorem mget_none {b : ByteArray} (h : look b = none) (w : World) (hs : b.size ≤ 1024) : Calls Try.prog 41 #[.string b] w fun e w' => e = .returned (.tuple #[.int .i64 0, .int .i64 0, .string ⟨#[]⟩, .bool false]) ∧ Below w.heap.size w w' := by
  refine (mget_any b w hs).mono ?_
  rintro e w' ⟨he, hb⟩
  rcases he with ⟨g', n', p', hl, he⟩ | ⟨_, he⟩
  · rw [h] at hl
    cases hl
  · exact ⟨he, hb⟩
theorem get_any (b : ByteArray) (w : World) (hs : b.size ≤ 1024) : Calls Try.prog 79 #[.string b] w fun e w' => Looks b e ∧ Below w.heap.size w w' := by
  by_cases h : b.size < 128 ∨ 1024 < b.size
  · exact (Fr.get_size b w (by unfold maxLen; omega) h).mono fun e w' ⟨he, hb⟩ => ⟨got_looks he, hb⟩
  · exact (Fr.get_in b w (by omega) (by omega)).mono fun e w' ⟨he, hb⟩ => ⟨got_looks he, hb⟩
theorem get_some {b : ByteArray} {g n : Nat} {p : ByteArray} (h : look b = some (g, n, p)) (w : World) : Calls Try.prog 79 #[.string b] w fun e w' => e = .returned (.tuple #[.int .i64 (g : Int), .int .i64 (n : Int), .string p, .bool true]) ∧ Below w.heap.size w w' := by
  refine (get_any b w (look_lt h).2.2.2).mono ?_
  rintro e w' ⟨he, hb⟩
  rcases he with ⟨g', n', p', hl, he⟩ | ⟨hl, _⟩
  · rw [h] at hl
    cases hl
    exact ⟨he, hb⟩
  · rw [h] at hl
    cases hl
theorem get_none {b : ByteArray} (h : look b = none) (w : World) (hs : b.size ≤ 1024) : Calls Try.prog 79 #[.string b] w fun e w' => e = .returned (.tuple #[.int .i64 0, .int .i64 0, .string ⟨#[]⟩, .bool false]) ∧ Below w.heap.size w w' := by
  refine (get_any b w hs).mono ?_
  rintro e w' ⟨he, hb⟩
  rcases he with ⟨g', n', p', hl, he⟩ | ⟨_, he⟩
  · rw [h] at hl
    cases hl
  · exact ⟨he, hb⟩
end Go.Proofs.Ytooikkjgcpngdaa
