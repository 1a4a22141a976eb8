import Derived.Test.YtooikkjgcpngdaaCrcRef
import Derived.Laws.IdiomStrings
import Derived.Below
import Derived.Lib.SmallJoins
namespace Go.Proofs.Ytooikkjgcpngdaa.Fr
open Go.RowKit

theorem sub_ones (x : BitVec 32) : 4294967295 - (x.toNat : Int) = ((~~~ x).toNat : Int) := by
  have := x.isLt
  rw [BitVec.toNat_not]
  omega

set_option maxHeartbeats 400000 in
theorem refSum_any (s : ByteArray) (w : World) (hs : s.size ≤ maxLen) :
    Calls Try.prog 63 #[.string s] w fun e w' => e = .returned (.int .u32 ((sumV s.data.toList).toNat : Int)) ∧ w = w' := by
  go_enter Try.func63, Try.ntmps63
  go_wp2_with (go_at_call 81; refine (run_any 4294967295#32 s _ hs).mono ?_; rintro e w' ⟨rfl, rfl⟩)
  go_ret
  exact ⟨ret_int (sub_ones _), rfl⟩

/-- A sum's four bytes, the highest first. -/
def putL (x : BitVec 32) : List UInt8 := [UInt8.ofNat (x.toNat / 16777216), UInt8.ofNat (x.toNat / 65536 % 256), UInt8.ofNat (x.toNat / 256 % 256), UInt8.ofNat (x.toNat % 256)]
def putB (x : BitVec 32) : ByteArray := ⟨(putL x).toArray⟩
theorem putB_data (x : BitVec 32) : (putB x).data.toList = putL x := by simp [putB]
theorem putB_size (x : BitVec 32) : (putB x).size = 4 := by simp [putB, putL, ByteArray.size]

theorem put_inj {x y : BitVec 32} (h : putB x = putB y) : x = y := by
  have h2 : putL x = putL y := by rw [← putB_data, ← putB_data, h]
  have hx := x.isLt
  have hy := y.isLt
  simp only [putL, List.cons.injEq, and_true] at h2
  obtain ⟨h1, h2, h3, h4⟩ := h2
  have e1 := congrArg UInt8.toNat h1
  have e2 := congrArg UInt8.toNat h2
  have e3 := congrArg UInt8.toNat h3
  have e4 := congrArg UInt8.toNat h4
  simp only [UInt8.toNat_ofNat'] at e1 e2 e3 e4
  apply BitVec.eq_of_toNat_eq
  omega

theorem put_conv (x : BitVec 32) (w : World) : (convert 67 9 (.slice (some ⟨w.heap.size, 0, none⟩) 4 4)).run Try.prog (w.alloc (.cells #[.int .u8 ((x.toNat : Int) / 16777216), .int .u8 ((x.toNat : Int) / 65536 % 256), .int .u8 ((x.toNat : Int) / 256 % 256), .int .u8 ((x.toNat : Int) % 256)] 5))
    = .ok (.string (putB x)) (w.alloc (.cells #[.int .u8 ((x.toNat : Int) / 16777216), .int .u8 ((x.toNat : Int) / 65536 % 256), .int .u8 ((x.toNat : Int) / 256 % 256), .int .u8 ((x.toNat : Int) % 256)] 5)) := by
  have hx : x.toNat < 4294967296 := x.isLt
  refine run_convert_bytes_back (P := Try.prog) _ 67 9 5 ⟨w.heap.size, 0, none⟩ 4 (putL x) Try.underlying67 Try.underlying5 Try.underlying9 (fun j hj => ?_)
  simp only [putL, List.length_cons, List.length_nil] at hj
  rcases (by omega : j = 0 ∨ j = 1 ∨ j = 2 ∨ j = 3) with rfl | rfl | rfl | rfl
  all_goals
    simp [Addr.add, putL]
    try omega

set_option maxHeartbeats 400000 in
theorem refPut_any (x : BitVec 32) (w : World) :
    Calls Try.prog 62 #[.int .u32 (x.toNat : Int)] w fun e w' => e = .returned (.string (putB x)) ∧ Below w.heap.size w w' := by
  have hx : x.toNat < 4294967296 := x.isLt
  have kc := put_conv x w
  go_enter Try.func62, Try.ntmps62
  go_wp2
  go_ret
  exact ⟨rfl, (Below.refl _ _).alloc (Nat.le_refl _) _⟩
set_option maxHeartbeats 400000 in
theorem put_any (x : BitVec 32) (w : World) :
    Calls Try.prog 75 #[.int .u32 (x.toNat : Int)] w fun e w' => e = .returned (.string (putB x)) ∧ Below w.heap.size w w' := by
  have hx : x.toNat < 4294967296 := x.isLt
  have kc := put_conv x w
  go_enter Try.func75, Try.ntmps75
  go_wp2
  go_ret
  exact ⟨rfl, (Below.refl _ _).alloc (Nat.le_refl _) _⟩
end Go.Proofs.Ytooikkjgcpngdaa.Fr
