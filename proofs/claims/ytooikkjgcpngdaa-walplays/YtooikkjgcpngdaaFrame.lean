/-
  What package frame's own functions answer: isSize, isWord, word, half, number, Room.
-/
import Derived.Test.YtooikkjgcpngdaaFrameMath
import Derived.Test.YtooikkjgcpngdaaShelf
import Derived.Laws.BitsLemmas
namespace Go.Proofs.Ytooikkjgcpngdaa.Fr
open Go.RowKit

theorem isSize_yes (n : Int) (w : World) (h1 : 128 ≤ n) (h2 : n ≤ 1024) : Calls Try.prog 71 #[.int .i64 n] w fun e w' => e = .returned (.bool true) ∧ w = w' := by
  have e1 : decide (128 ≤ n) = true := by simpa using h1
  have e2 : decide (n ≤ 1024) = true := by simpa using h2
  go_enter Try.func71, Try.ntmps71
  go_wp2
  go_ret
  exact ⟨rfl, rfl⟩
theorem isSize_no (n : Int) (w : World) (h : n < 128 ∨ 1024 < n) : Calls Try.prog 71 #[.int .i64 n] w fun e w' => e = .returned (.bool false) ∧ w = w' := by
  by_cases h1 : n < 128
  · have e1 : decide (128 ≤ n) = false := by simpa using h1
    go_enter Try.func71, Try.ntmps71
    go_wp2
    go_ret
    exact ⟨rfl, rfl⟩
  · have e1 : decide (128 ≤ n) = true := by simp; omega
    have e2 : decide (n ≤ 1024) = false := by simp; omega
    go_enter Try.func71, Try.ntmps71
    go_wp2
    go_ret
    exact ⟨rfl, rfl⟩
theorem isWord_yes (n : Nat) (w : World) (h2 : n ≤ 4294967295) : Calls Try.prog 72 #[.int .i64 (n : Int)] w fun e w' => e = .returned (.bool true) ∧ w = w' := by
  have e1 : decide (0 ≤ (n : Int)) = true := by simp
  have e2 : decide ((n : Int) ≤ 4294967295) = true := by simp; omega
  go_enter Try.func72, Try.ntmps72
  go_wp2
  go_ret
  exact ⟨rfl, rfl⟩
theorem isWord_no (n : Int) (w : World) (h : n < 0 ∨ 4294967295 < n) : Calls Try.prog 72 #[.int .i64 n] w fun e w' => e = .returned (.bool false) ∧ w = w' := by
  by_cases h1 : n < 0
  · have e1 : decide (0 ≤ n) = false := by simpa using h1
    go_enter Try.func72, Try.ntmps72
    go_wp2
    go_ret
    exact ⟨rfl, rfl⟩
  · have e1 : decide (0 ≤ n) = true := by simp; omega
    have e2 : decide (n ≤ 4294967295) = false := by simp; omega
    go_enter Try.func72, Try.ntmps72
    go_wp2
    go_ret
    exact ⟨rfl, rfl⟩

/-- How many bytes a record of a sector can have. -/
theorem froom_in (n : Nat) (w : World) (h1 : 128 ≤ n) (h2 : n ≤ 1024) : Calls Try.prog 64 #[.int .i64 (n : Int)] w fun e w' => e = .returned (.int .i64 ((n : Int) - 14)) ∧ w = w' := by
  go_enter Try.func64, Try.ntmps64
  go_wp2_with (go_at_call 71; refine (isSize_yes _ _ (by omega) (by omega)).mono ?_; rintro e w' ⟨rfl, rfl⟩)
  go_ret
  exact ⟨rfl, rfl⟩
theorem froom_out (n : Int) (w : World) (h : n < 128 ∨ 1024 < n) : Calls Try.prog 64 #[.int .i64 n] w fun e w' => e = .returned (.int .i64 0) ∧ w = w' := by
  go_enter Try.func64, Try.ntmps64
  go_wp2_with (go_at_call 71; refine (isSize_no _ _ h).mono ?_; rintro e w' ⟨rfl, rfl⟩)
  go_ret
  exact ⟨rfl, rfl⟩
theorem froom_any (n : Int) (w : World) : Calls Try.prog 64 #[.int .i64 n] w fun e w' => e = .returned (.int .i64 (if n < 128 ∨ 1024 < n then 0 else n - 14)) ∧ w = w' := by
  by_cases h : n < 128 ∨ 1024 < n
  · rw [if_pos h]; exact froom_out n w h
  · rw [if_neg h]
    obtain ⟨k, rfl⟩ : ∃ k : Nat, n = (k : Int) := ⟨n.toNat, by omega⟩
    exact froom_in k w (by omega) (by omega)

/-! Bytes of a number. -/
theorem putB_be (n : Nat) (h : n < 4294967296) : putB (BitVec.ofNat 32 n) = be 4 n := by
  apply data_inj
  rw [putB_data, be_data]
  have e : (BitVec.ofNat 32 n).toNat = n := by rw [BitVec.toNat_ofNat]; exact Nat.mod_eq_of_lt h
  unfold putL
  rw [e]
  simp only [beL, Nat.pow_zero, Nat.div_one, show (256 : Nat) ^ 3 = 16777216 from rfl, show (256 : Nat) ^ 2 = 65536 from rfl, show (256 : Nat) ^ 1 = 256 from rfl]
  rw [Nat.mod_eq_of_lt (show n / 16777216 < 256 by omega)]
set_option maxHeartbeats 400000 in
theorem word_any (n : Nat) (w : World) (h : n < 4294967296) : Calls Try.prog 74 #[.int .i64 (n : Int)] w fun e w' => e = .returned (.string (be 4 n)) ∧ Below w.heap.size w w' := by
  have e : ((BitVec.ofNat 32 n).toNat : Int) = (n : Int) := by rw [BitVec.toNat_ofNat, Nat.mod_eq_of_lt h]
  have hc := put_any (BitVec.ofNat 32 n)
  rw [putB_be n h, e] at hc
  have HC := Lib.hid hc
  clear hc e
  go_enter Try.func74, Try.ntmps74
  go_wp2_with (go_at_call 75; refine (HC.out _).mono ?_; rintro e w' ⟨rfl, hb⟩)
  go_ret
  exact ⟨rfl, hb⟩
theorem be_half (n : Nat) : (be 4 n).extract 2 4 = be 2 n := by
  apply data_inj
  rw [ext_data, be_data, be_data]
  rfl
set_option maxHeartbeats 400000 in
theorem half_any (n : Nat) (w : World) (h : n < 65536) : Calls Try.prog 73 #[.int .i64 (n : Int)] w fun e w' => e = .returned (.string (be 2 n)) ∧ Below w.heap.size w w' := by
  obtain ⟨t, ht⟩ : ∃ t, t = be 4 n := ⟨_, rfl⟩
  have hs : t.size = 4 := by rw [ht, be_size]
  have HT : Hid (t.extract 2 4 = be 2 n) := Lib.hid (by rw [ht]; exact be_half n)
  have hc := fun w => word_any n w (by omega)
  rw [← ht] at hc
  have HC := Lib.hid hc
  clear hc ht
  go_enter Try.func73, Try.ntmps73
  go_wp2_with fail
  refine (HC.out _).mono ?_
  rintro e w' ⟨rfl, hb⟩
  have HB := Lib.hid hb
  clear hb
  go_wp2
  go_ret
  refine ⟨?_, HB.out⟩
  rw [← HT.out]
  rfl

theorem wrap_63 (n : Int) (h0 : 0 ≤ n) (h1 : n < 2 ^ 63) : IntKind.i64.wrap n = n := IntWalk.i64_in _ (by omega)
theorem or_byte (q c : Nat) (hq : q < 16777216) (hc : c < 256) : bits .or .i64 ((q : Int) * 256) (c : Int) = ((256 * q + c : Nat) : Int) := by
  rw [bits_join .i64 63 (by decide) wrap_63 8 ((q : Int) * 256) (c : Int) (by omega) (by omega) (by omega) (by omega) (by omega) (by omega)]
  omega

set_option maxHeartbeats 1000000 in
theorem number_any (s : ByteArray) (w : World) (hs : s.size ≤ 4) : Calls Try.prog 88 #[.string s] w fun e w' => e = .returned (.int .i64 (valL s.data.toList : Int)) ∧ w = w' := by
  go_enter Try.func88, Try.ntmps88
  go_wp2
  go_loopg [3, 7] s.size (fun gg vv iv wr => ∃ (i q : Nat), Hid (gg = s.size - i) ∧ i ≤ s.size ∧ Hid (q = valL (s.data.toList.take i)) ∧ Hid (q < 256 ^ i) ∧ q < 4294967296 ∧ vv = .int .i64 (q : Int) ∧ iv = .int .i64 (i : Int) ∧ w = wr)
  case atStart => exact ⟨0, 0, Lib.hid rfl, Nat.zero_le _, Lib.hid rfl, Lib.hid (by decide), by omega, rfl, rfl, rfl⟩
  case round =>
    obtain ⟨i, q, HG, hi, HQ, HP, hq, rfl, rfl, rfl⟩ := hrel
    by_cases hlt : i < s.size
    · have HS := Lib.hid (take_snoc s i hlt)
      have hc : (s[i]).toNat < 256 := (s[i]).toNat_lt
      have hq3 : q < 16777216 := by
        have h1 := HP.out
        rcases (by omega : i = 0 ∨ i = 1 ∨ i = 2 ∨ i = 3) with rfl | rfl | rfl | rfl <;> omega
      have hor := or_byte q (s[i]).toNat hq3 hc
      have hq2 : 256 * q + (s[i]).toNat < 4294967296 := by omega
      have HP2 : Hid (256 * q + (s[i]).toNat < 256 ^ (i + 1)) := Lib.hid (by have := HP.out; rw [Nat.pow_succ]; omega)
      go_wp2
      go_roundg (s.size - (i + 1))
      case measure => have := HG.out; omega
      case rel => exact ⟨i + 1, 256 * q + (s[i]).toNat, Lib.hid rfl, by omega, Lib.hid (by rw [HS.out, valL_snoc, HQ.out]), HP2, hq2, by go_num, by go_num, rfl⟩
    · obtain rfl : i = s.size := by omega
      have HA := Lib.hid (take_all s)
      go_wp2
      go_ret
      exact ⟨ret_int (by rw [HQ.out, HA.out]), rfl⟩
end Go.Proofs.Ytooikkjgcpngdaa.Fr
