/-
  What each function that the six statements of layer 1 call answers (num.Add, Less, Clamp, In; the document's own Add, Less, Clamp, up; awake), at every 64-bit number, the memory as it was.
-/
import Derived.Test.YtffiedpeoonbnaaRows
import Derived.WalkKit
import Derived.ProofKit
import Derived.OpenShut
namespace Go.Proofs.Ytffiedpeoonbnaa.Calls
open Go.ChangeShapes Go.WideShapes Go.ChangeAt Go.RowKit

def In64 (n : Int) : Prop := -9223372036854775808 ≤ n ∧ n ≤ 9223372036854775807
theorem in64 {n : Int} (h : (Lit.int .i64 n).wf = true) : In64 n := bounds_i64 h
def addI (a b m : Int) : Int := min (max a 0 + max b 0) (max m 0)
def lessI (a b : Int) : Int := if a ≤ b then 0 else min (a - b) 9223372036854775807
def clampI (n lo hi : Int) : Int := if n < lo then lo else if hi < n then hi else n
def inB (n lo hi : Int) : Bool := decide (lo ≤ n) && decide (n ≤ hi)
def upI (n : Int) : Int := max n 0
theorem inNought : In64 0 := by unfold In64; omega
theorem inThousand : In64 1000 := by unfold In64; omega
theorem addI_in (a b m : Int) (h : In64 m) : In64 (addI a b m) := by unfold In64 addI at *; omega
theorem ret_int {k : IntKind} {a b : Int} (h : a = b) : Ending.returned (.int k a) = .returned (.int k b) := by rw [h]
theorem ret_bool {a b : Bool} (h : a = b) : Ending.returned (.bool a) = .returned (.bool b) := by rw [h]

set_option maxHeartbeats 400000 in
theorem up_any (n : Int) (w : World) (h : In64 n) :
    Calls Try.prog 17 #[.int .i64 n] w fun e w' => e = .returned (.int .u64 (upI n)) ∧ w = w' := by
  unfold In64 at h
  by_cases h0 : n < 0
  · go_enter Try.func17, Try.ntmps17
    go_wp2
    go_ret
    exact ⟨ret_int (by unfold upI; omega), rfl⟩
  · have h1 : 0 ≤ n := by omega
    go_enter Try.func17, Try.ntmps17
    go_wp2
    go_ret
    exact ⟨ret_int (by unfold upI; omega), rfl⟩

set_option maxHeartbeats 400000 in
theorem clamp_any (n lo hi : Int) (w : World) :
    Calls Try.prog 14 #[.int .i64 n, .int .i64 lo, .int .i64 hi] w fun e w' => e = .returned (.int .i64 (clampI n lo hi)) ∧ w = w' := by
  go_enter Try.func14, Try.ntmps14
  go_wp2
  all_goals go_ret
  all_goals exact ⟨ret_int (by unfold clampI; (repeat' split) <;> omega), rfl⟩

set_option maxHeartbeats 400000 in
theorem rclamp_any (n lo hi : Int) (w : World) :
    Calls Try.prog 15 #[.int .i64 n, .int .i64 lo, .int .i64 hi] w fun e w' => e = .returned (.int .i64 (clampI n lo hi)) ∧ w = w' := by
  go_enter Try.func15, Try.ntmps15
  go_wp2
  all_goals go_ret
  all_goals exact ⟨ret_int (by unfold clampI; (repeat' split) <;> omega), rfl⟩

set_option maxHeartbeats 400000 in
theorem in_any (n lo hi : Int) (w : World) :
    Calls Try.prog 16 #[.int .i64 n, .int .i64 lo, .int .i64 hi] w fun e w' => e = .returned (.bool (inB n lo hi)) ∧ w = w' := by
  by_cases h1 : lo ≤ n <;> by_cases h2 : n ≤ hi
  all_goals
    go_enter Try.func16, Try.ntmps16
    go_wp2
    go_ret
    exact ⟨ret_bool (by unfold inB; simp [h1, h2]), rfl⟩

set_option maxHeartbeats 1000000 in
theorem add_any (a b m : Int) (w : World) (ha : In64 a) (hb : In64 b) (hm : In64 m) :
    Calls Try.prog 10 #[.int .i64 a, .int .i64 b, .int .i64 m] w fun e w' => e = .returned (.int .i64 (addI a b m)) ∧ w = w' := by
  unfold In64 at ha hb hm
  by_cases h1 : a < 0 <;> by_cases h2 : b < 0 <;> by_cases h3 : m < 0
  all_goals
    go_enter Try.func10, Try.ntmps10
    go_wp2
  all_goals go_ret
  all_goals exact ⟨ret_int (by unfold addI; omega), rfl⟩

set_option maxHeartbeats 1000000 in
theorem radd_any (a b m : Int) (w : World) (ha : In64 a) (hb : In64 b) (hm : In64 m) :
    Calls Try.prog 11 #[.int .i64 a, .int .i64 b, .int .i64 m] w fun e w' => e = .returned (.int .i64 (addI a b m)) ∧ w = w' := by
  have ua : 0 ≤ upI a ∧ upI a ≤ 9223372036854775807 := by unfold upI In64 at *; omega
  have ub : 0 ≤ upI b ∧ upI b ≤ 9223372036854775807 := by unfold upI In64 at *; omega
  have um : 0 ≤ upI m ∧ upI m ≤ 9223372036854775807 := by unfold upI In64 at *; omega
  go_enter Try.func11, Try.ntmps11
  go_wp2_with (first | (go_at_call 17; refine (up_any _ _ (by assumption)).mono ?_; rintro e w' ⟨rfl, rfl⟩))
  all_goals go_ret
  all_goals exact ⟨ret_int (by unfold addI upI at *; omega), rfl⟩

set_option maxHeartbeats 1000000 in
theorem less_any (a b : Int) (w : World) (ha : In64 a) (hb : In64 b) :
    Calls Try.prog 12 #[.int .i64 a, .int .i64 b] w fun e w' => e = .returned (.int .i64 (lessI a b)) ∧ w = w' := by
  unfold In64 at ha hb
  by_cases h1 : a ≤ b
  · go_enter Try.func12, Try.ntmps12
    go_wp2
    go_ret
    exact ⟨ret_int (by unfold lessI; rw [if_pos h1]), rfl⟩
  · by_cases h2 : a - b ≤ 9223372036854775807
    · go_enter Try.func12, Try.ntmps12
      go_wp2
      all_goals go_ret
      all_goals exact ⟨ret_int (by unfold lessI; rw [if_neg (by omega)]; omega), rfl⟩
    · go_enter Try.func12, Try.ntmps12
      go_wp2
      all_goals go_ret
      all_goals exact ⟨ret_int (by unfold lessI wrap64 at *; rw [if_neg (by omega)]; omega), rfl⟩

theorem u64w (n : Int) : IntKind.u64.wrap n = n % 18446744073709551616 := by
  simp [IntKind.wrap, IntKind.bits, IntKind.signed]

set_option maxHeartbeats 1000000 in
theorem rless_any (a b : Int) (w : World) (ha : In64 a) (hb : In64 b) :
    Calls Try.prog 13 #[.int .i64 a, .int .i64 b] w fun e w' => e = .returned (.int .i64 (lessI a b)) ∧ w = w' := by
  unfold In64 at ha hb
  by_cases h1 : a ≤ b
  · go_enter Try.func13, Try.ntmps13
    go_wp2
    go_ret
    exact ⟨ret_int (by unfold lessI; rw [if_pos h1]), rfl⟩
  · go_enter Try.func13, Try.ntmps13
    go_wp2
    all_goals go_ret
    all_goals exact ⟨ret_int (by unfold lessI; simp only [wrap64, u64w] at *; rw [if_neg (by omega)]; omega), rfl⟩

set_option maxHeartbeats 1000000 in
theorem awake_any (w : World) : Calls Try.prog 9 #[] w fun e w' => e = .returned (.bool true) ∧ w = w' := by
  go_enter Try.func9, Try.ntmps9
  go_wp2
  go_ret
  exact ⟨rfl, rfl⟩
end Go.Proofs.Ytffiedpeoonbnaa.Calls
