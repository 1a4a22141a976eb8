import Derived.Test.YtooikkjgcpngdaaChecked
import Derived.Test.YtooikkjgcpngdaaCrcMath
import Derived.Laws.BitsAllLaws
import Derived.RowKit
import Derived.ProofKit
import Derived.WalkKit
import Derived.Lib.Hide
import Derived.Deep.LoopGhost
import Derived.Deep.QuietTactic
import Derived.BigQuiet
import Derived.IntWalk
namespace Go.Proofs.Ytooikkjgcpngdaa.Fr
open Go.RowKit

theorem ret_int {k : IntKind} {a b : Int} (h : a = b) : Ending.returned (.int k a) = .returned (.int k b) := by rw [h]
theorem int_eq {k : IntKind} {a b : Int} (h : a = b) : Value.int k a = .int k b := by rw [h]

theorem xor_poly (n : Nat) : bits .xor .u32 (2 * (n : Int) % 4294967296) 79764919 = (((2 * n % 4294967296) ^^^ 79764919 : Nat) : Int) := by
  have h : (2 * (n : Int) % 4294967296) = ((2 * n % 4294967296 : Nat) : Int) := by omega
  rw [h]
  exact u32_xor_nat _ 79764919 (by omega) (by omega)

set_option maxHeartbeats 400000 in
theorem bit_any (x : BitVec 32) (one : Bool) (w : World) :
    Calls Try.prog 89 #[.int .u32 (x.toNat : Int), .bool one] w fun e w' => e = .returned (.int .u32 ((bitV x one).toNat : Int)) ∧ w = w' := by
  have hx : x.toNat < 4294967296 := x.isLt
  have hb := Lib.hid (bitV_toNat x one)
  go_enter Try.func89, Try.ntmps89
  go_wp2
  · rename_i h
    go_ret
    refine ⟨ret_int ?_, rfl⟩
    rw [hb.out, if_pos (by revert h; cases one <;> simp <;> omega), xor_poly]
  · rename_i h
    go_ret
    refine ⟨ret_int ?_, rfl⟩
    rw [hb.out, if_neg (by revert h; cases one <;> simp <;> omega)]
    omega

theorem take_snoc (s : ByteArray) (k : Nat) (h : k < s.size) : s.data.toList.take (k + 1) = s.data.toList.take k ++ [s[k]] := by
  rw [List.take_succ_eq_append_getElem (by simpa using h)]; rfl
theorem take_all (s : ByteArray) : s.data.toList.take s.size = s.data.toList := List.take_of_length_le (by simp)

def unitT : Nat → Int
  | 0 => 128 | 1 => 64 | 2 => 32 | 3 => 16 | 4 => 8 | 5 => 4 | 6 => 2 | 7 => 1 | _ => 0
def restT (c : Nat) : Nat → Int
  | 0 => (c : Int) | 1 => (c : Int) % 128 | 2 => (c : Int) % 64 | 3 => (c : Int) % 32 | 4 => (c : Int) % 16 | 5 => (c : Int) % 8 | 6 => (c : Int) % 4 | 7 => (c : Int) % 2 | _ => 0
/-- A register that took a byte's first bits. -/
def partV (y : BitVec 32) (c : UInt8) (j : Nat) : BitVec 32 := ((bits8 c).take j).foldl bitV y

theorem partV_all (y : BitVec 32) (c : UInt8) : partV y c 8 = runV y [c] := by
  unfold partV runV bitsL bitsL
  rw [List.append_nil, List.take_of_length_le (by rw [bits8_length]; omega)]

theorem partV_succ (y : BitVec 32) (c : UInt8) (j : Nat) (h : j < 8) : partV y c (j + 1) = bitV (partV y c j) (decide (unitT j ≤ restT c.toNat j)) := by
  have hc := c.toNat_lt
  have hb : decide (unitT j ≤ restT c.toNat j) = c.toNat.testBit (7 - j) := by
    rw [Nat.testBit_eq_decide_div_mod_eq]
    apply Bool.eq_iff_iff.2
    simp only [decide_eq_true_eq]
    rcases (by omega : j = 0 ∨ j = 1 ∨ j = 2 ∨ j = 3 ∨ j = 4 ∨ j = 5 ∨ j = 6 ∨ j = 7) with rfl | rfl | rfl | rfl | rfl | rfl | rfl | rfl <;> simp only [unitT, restT] <;> omega
  rw [hb]
  unfold partV
  rw [List.take_succ_eq_append_getElem (by rw [bits8_length]; exact h), List.foldl_append]
  have := bits8_get c j h
  rw [List.getElem?_eq_getElem (by rw [bits8_length]; exact h)] at this
  rw [Option.some.inj this]
  rfl

set_option maxHeartbeats 1000000 in
theorem run_any (x : BitVec 32) (s : ByteArray) (w : World) (hs : s.size ≤ maxLen) :
    Calls Try.prog 81 #[.int .u32 (x.toNat : Int), .string s] w fun e w' => e = .returned (.int .u32 ((runV x s.data.toList).toNat : Int)) ∧ w = w' := by
  unfold maxLen at hs
  go_enter Try.func81, Try.ntmps81
  go_wp2
  go_loop [0, 5] (fun a i => ∃ k : Nat, k ≤ s.size ∧ i = .int .i64 k ∧ a = .int .u32 ((runV x (s.data.toList.take k)).toNat : Int)) (fun _ i => s.size - (intOf i).toNat)
  case atStart => exact ⟨0, Nat.zero_le _, rfl, rfl⟩
  case round =>
    obtain ⟨k, hk, rfl, rfl⟩ := hrel
    by_cases hlt : k < s.size
    · have HS := Lib.hid (take_snoc s k hlt)
      have hc8 : s[k].toNat < 256 := s[k].toNat_lt
      generalize hy : runV x (s.data.toList.take k) = y
      have HY := Lib.hid hy
      clear hy
      go_wp2
      go_loop [0, 6, 7] (fun a r u => ∃ j : Nat, j ≤ 8 ∧ u = .int .i64 (unitT j) ∧ r = .int .i64 (restT s[k].toNat j) ∧ a = .int .u32 ((partV y s[k] j).toNat : Int)) (fun _ _ u => (intOf u).toNat)
      case atStart => exact ⟨0, by omega, rfl, rfl, rfl⟩
      case round =>
        obtain ⟨j, hj, hu, hr, rfl⟩ := hrel
        by_cases hj8 : j < 8
        · have HP := Lib.hid (partV_succ y s[k] j hj8)
          rcases (by omega : j = 0 ∨ j = 1 ∨ j = 2 ∨ j = 3 ∨ j = 4 ∨ j = 5 ∨ j = 6 ∨ j = 7) with rfl | rfl | rfl | rfl | rfl | rfl | rfl | rfl
          all_goals
            simp only [unitT, restT] at hu hr
            subst hu hr
            go_wp2_with (go_at_call 89; refine (bit_any _ _ _).mono ?_; rintro e w' ⟨rfl, rfl⟩)
            go_round
            case rel => first | exact ⟨1, by omega, rfl, int_eq (by simp only [restT] <;> omega), int_eq (congrArg (fun z : BitVec 32 => (z.toNat : Int)) HP.out.symm)⟩ | exact ⟨2, by omega, rfl, int_eq (by simp only [restT] <;> omega), int_eq (congrArg (fun z : BitVec 32 => (z.toNat : Int)) HP.out.symm)⟩ | exact ⟨3, by omega, rfl, int_eq (by simp only [restT] <;> omega), int_eq (congrArg (fun z : BitVec 32 => (z.toNat : Int)) HP.out.symm)⟩ | exact ⟨4, by omega, rfl, int_eq (by simp only [restT] <;> omega), int_eq (congrArg (fun z : BitVec 32 => (z.toNat : Int)) HP.out.symm)⟩ | exact ⟨5, by omega, rfl, int_eq (by simp only [restT] <;> omega), int_eq (congrArg (fun z : BitVec 32 => (z.toNat : Int)) HP.out.symm)⟩ | exact ⟨6, by omega, rfl, int_eq (by simp only [restT] <;> omega), int_eq (congrArg (fun z : BitVec 32 => (z.toNat : Int)) HP.out.symm)⟩ | exact ⟨7, by omega, rfl, int_eq (by simp only [restT] <;> omega), int_eq (congrArg (fun z : BitVec 32 => (z.toNat : Int)) HP.out.symm)⟩ | exact ⟨8, by omega, rfl, int_eq (by simp only [restT] <;> omega), int_eq (congrArg (fun z : BitVec 32 => (z.toNat : Int)) HP.out.symm)⟩
            case measure => simp [intOf]
        · obtain rfl : j = 8 := by omega
          simp only [unitT, restT] at hu hr
          subst hu hr
          go_wp2
          go_round
          case rel => exact ⟨k + 1, by omega, by go_num, by rw [HS.out, runV_append, HY.out, partV_all]⟩
          case measure => simp [intOf]; omega
    · obtain rfl : k = s.size := by omega
      go_wp2
      go_ret
      exact ⟨ret_int (by rw [take_all]), rfl⟩
end Go.Proofs.Ytooikkjgcpngdaa.Fr
