/-
  What package code's first answers: the number at the front, and how many bytes it has.
-/
import Derived.Test.YthombepmlepgfaaDoorChecked
import Derived.Test.YthombepmlepgfaaDoorMath
import Derived.Laws.BitsAllLaws
import Derived.RowKit
import Derived.ProofKit
import Derived.WalkKit
import Derived.Lib.Hide
import Derived.Deep.LoopGhost
import Derived.Deep.QuietTactic
import Derived.BigQuiet
import Derived.IntWalk
namespace Go.Proofs.YthombepmlepgfaaDoor
open Go.RowKit

theorem ret_int {k : IntKind} {a b : Int} (h : a = b) : Ending.returned (.int k a) = .returned (.int k b) := by rw [h]
theorem int_eq {k : IntKind} {a b : Int} (h : a = b) : Value.int k a = .int k b := by rw [h]

theorem i64_or_nat (a b : Nat) (ha : a < 9223372036854775808) (hb : b < 9223372036854775808) : bits .or .i64 (a : Int) (b : Int) = ((a ||| b : Nat) : Int) := by
  have hx : a ||| b < 2 ^ 63 := Nat.or_lt_two_pow (by omega) (by omega)
  show IntKind.i64.wrap ((BitVec.ofInt 64 (a : Int) ||| BitVec.ofInt 64 (b : Int)).toNat : Int) = _
  rw [BitVec.toNat_or, ofInt_u64 a (by omega), ofInt_u64 b (by omega)]
  exact IntWalk.i64_in _ (by omega)
/-- A group behind those that are there. -/
theorem or_group (a g k : Nat) (ha : a < 2 ^ k) (hb : g * 2 ^ k + a < 9223372036854775808) : bits .or .i64 (a : Int) ((g * 2 ^ k : Nat) : Int) = ((a + g * 2 ^ k : Nat) : Int) := by
  rw [i64_or_nat _ _ (by omega) (by omega), Nat.or_comm, Nat.mul_comm g, ← Nat.two_pow_add_eq_or_of_lt ha]
  omega
theorem or_value (v c k : Nat) (hk : k < 9) (hv : v < 2 ^ (7 * k)) : bits .or .i64 (v : Int) (wrap64 ((c : Int) % 128 * 2 ^ (7 * k))) = ((v + c % 128 * 2 ^ (7 * k) : Nat) : Int) := by
  have h1 : (2 : Nat) ^ (7 * k) ≤ 2 ^ 56 := Nat.pow_le_pow_right (by omega) (by omega)
  have h2 : c % 128 * 2 ^ (7 * k) ≤ 127 * 2 ^ (7 * k) := Nat.mul_le_mul_right _ (by omega)
  have e : ((c : Int) % 128 * 2 ^ (7 * k)) = ((c % 128 * 2 ^ (7 * k) : Nat) : Int) := by
    rw [Int.natCast_mul, Int.natCast_pow, Int.natCast_emod]; rfl
  rw [e, show wrap64 ((c % 128 * 2 ^ (7 * k) : Nat) : Int) = ((c % 128 * 2 ^ (7 * k) : Nat) : Int) from IntWalk.wrap64_in _ (by omega), or_group _ _ _ hv (by omega)]
theorem take_snoc (s : ByteArray) (k : Nat) (h : k < s.size) : s.data.toList.take (k + 1) = s.data.toList.take k ++ [s[k]] := by
  rw [List.take_succ_eq_append_getElem (by simpa using h)]; rfl
theorem drop_cons (s : ByteArray) (k : Nat) (h : k < s.size) : s.data.toList.drop k = s[k] :: s.data.toList.drop (k + 1) := List.drop_eq_getElem_cons (by simpa using h)

theorem group_in (s : ByteArray) (k : Nat) (h : k < s.size) : val (s.data.toList.take (k + 1)) = val (s.data.toList.take k) + s[k].toNat % 128 * 2 ^ (7 * k) ∧ val (s.data.toList.take k) < 2 ^ (7 * k) := by
  have hl : (s.data.toList.take k).length = k := by rw [List.length_take]; simp; omega
  have h1 := val_lt (s.data.toList.take k)
  rw [hl] at h1
  have e : (2 : Nat) ^ (7 * k) = 128 ^ k := by rw [Nat.pow_mul]
  rw [take_snoc s k h, val_append, hl, e, val, val, Nat.mul_zero, Nat.add_zero, Nat.mul_comm (128 ^ k)]
  exact ⟨rfl, h1⟩


/-- What is told of the front. -/
def Fst (s : ByteArray) (e : Ending) : Prop := e = if firstE s.data.toList = 0 then .returned (.tuple #[.int .i64 (firstN s.data.toList : Int), .int .i64 ((lead 9 s.data.toList + 1 : Nat) : Int), .int .i64 0]) else .returned (.tuple #[.int .i64 0, .int .i64 0, .int .i64 (firstE s.data.toList : Int)])

theorem lead_more (s : ByteArray) (k : Nat) (h : k < s.size) (h9 : k < 9) (hL : lead 9 s.data.toList = k + lead (9 - k) (s.data.toList.drop k)) (hc : 128 ≤ s[k].toNat) : lead 9 s.data.toList = (k + 1) + lead (9 - (k + 1)) (s.data.toList.drop (k + 1)) := by
  rw [hL, drop_cons s k h, show 9 - k = (9 - (k + 1)) + 1 by omega, lead, if_pos hc]; omega
theorem lead_here (s : ByteArray) (k : Nat) (h : k < s.size) (h9 : k < 9) (hL : lead 9 s.data.toList = k + lead (9 - k) (s.data.toList.drop k)) (hc : s[k].toNat < 128) : lead 9 s.data.toList = k := by
  rw [hL, drop_cons s k h, show 9 - k = (9 - (k + 1)) + 1 by omega, lead, if_neg (by omega)]; omega
theorem fst_ok (s : ByteArray) (k : Nat) (h : k < s.size) (h9 : k < 9) (hL : lead 9 s.data.toList = k) (hc : ¬ (0 < k ∧ s[k].toNat = 0)) (a b : Int) (ha : a = (val (s.data.toList.take (k + 1)) : Int)) (hb : b = (k : Int) + 1) : Fst s (.returned (.tuple #[.int .i64 a, .int .i64 b, .int .i64 0])) := by
  have e : s.data.toList[k]? = some s[k] := by rw [List.getElem?_eq_getElem (by simpa using h)]; rfl
  have e0 : firstE s.data.toList = 0 := by
    unfold firstE
    rw [hL, if_neg (by omega), if_neg (by simp; omega), if_neg]
    rintro ⟨h1, h2⟩
    rw [e] at h2
    injection h2 with h2
    exact hc ⟨h1, by rw [h2]; rfl⟩
  unfold Fst firstN
  rw [if_pos e0, hL, ha, hb]
  rfl
theorem fst_long (s : ByteArray) (k : Nat) (h : k < s.size) (h9 : k < 9) (hL : lead 9 s.data.toList = k) (h0 : 0 < k) (hc : s[k].toNat = 0) : Fst s (.returned (.tuple #[.int .i64 0, .int .i64 0, .int .i64 5])) := by
  have e : s.data.toList[k]? = some s[k] := by rw [List.getElem?_eq_getElem (by simpa using h)]; rfl
  have e0 : firstE s.data.toList = 5 := by
    unfold firstE
    rw [hL, if_neg (by omega), if_neg (by simp; omega), if_pos ⟨h0, by rw [e]; exact congrArg some (UInt8.toNat_inj.1 (by simpa using hc))⟩]
  unfold Fst
  rw [e0]
  rfl
theorem fst_nine (s : ByteArray) (hL : lead 9 s.data.toList = 9 + lead (9 - 9) (s.data.toList.drop 9)) : Fst s (.returned (.tuple #[.int .i64 0, .int .i64 0, .int .i64 5])) := by
  have e0 : firstE s.data.toList = 5 := by
    unfold firstE
    rw [hL, if_pos (by simp [lead])]
  unfold Fst
  rw [e0]
  rfl
theorem fst_form (s : ByteArray) (h : s.size < 9) (hL : lead 9 s.data.toList = s.size + lead (9 - s.size) (s.data.toList.drop s.size)) : Fst s (.returned (.tuple #[.int .i64 0, .int .i64 0, .int .i64 4])) := by
  have e1 : s.data.toList.drop s.size = [] := List.drop_eq_nil_of_le (by simp)
  have e2 : lead (9 - s.size) [] = 0 := by cases 9 - s.size <;> rfl
  rw [e1, e2] at hL
  have e0 : firstE s.data.toList = 4 := by
    unfold firstE
    rw [hL, if_neg (by omega), if_pos (by simp)]
  unfold Fst
  rw [e0]
  rfl

set_option maxRecDepth 100000 in
set_option maxHeartbeats 8000000 in
theorem first_some (s : ByteArray) (w : World) (hs : s.size ≤ maxLen) (h9 : s.size ≤ 9) :
    Calls Tryd.prog 32 #[.string s] w fun e w' => Fst s e ∧ w = w' := by
  unfold maxLen at hs
  go_enter Tryd.func32, Tryd.ntmps32
  go_wp2
  go_loop [5, 11] (fun n i => ∃ k : Nat, k ≤ s.size ∧ i = .int .i64 k ∧ n = .int .i64 (val (s.data.toList.take k) : Int) ∧ Hid (lead 9 s.data.toList = k + lead (9 - k) (s.data.toList.drop k))) (fun _ i => s.size - (intOf i).toNat)
  case atStart => exact ⟨0, Nat.zero_le _, rfl, rfl, Lib.hid (by simp)⟩
  case round =>
    obtain ⟨k, hk, rfl, rfl, HL⟩ := hrel
    by_cases hlt : k < s.size
    · have hk9 : k < 9 := by omega
      have hks : k < s.size := by omega
      obtain ⟨hv1, hv2⟩ := group_in s k hks
      obtain ⟨v, hv⟩ : ∃ v, v = val (s.data.toList.take k) := ⟨_, rfl⟩
      rw [← hv] at hv1 hv2 ⊢
      have HV := Lib.hid hv1
      have hcl := s[k].toNat_lt
      have HC : Hid (128 ≤ s[k].toNat → lead 9 s.data.toList = (k + 1) + lead (9 - (k + 1)) (s.data.toList.drop (k + 1))) := Lib.hid (lead_more s k hks hk9 HL.out)
      have HD : Hid (s[k].toNat < 128 → lead 9 s.data.toList = k) := Lib.hid (lead_here s k hks hk9 HL.out)
      have HF : Hid (∀ a b : Int, lead 9 s.data.toList = k → ¬ (0 < k ∧ s[k].toNat = 0) → a = (val (s.data.toList.take (k + 1)) : Int) → b = (k : Int) + 1 → Fst s (.returned (.tuple #[.int .i64 a, .int .i64 b, .int .i64 0]))) := Lib.hid (fun a b h1 h2 h3 h4 => fst_ok s k hks hk9 h1 h2 a b h3 h4)
      have HG : Hid (lead 9 s.data.toList = k → 0 < k → s[k].toNat = 0 → Fst s (.returned (.tuple #[.int .i64 0, .int .i64 0, .int .i64 5]))) := Lib.hid (fun h1 h2 h3 => fst_long s k hks hk9 h1 h2 h3)
      clear hv1 hv
      have hcl2 : s[k].toNat < 256 := hcl
      have HV2 := Lib.hid hv2
      clear hcl hv2
      by_cases hc : 128 ≤ s[k].toNat
      · go_wp2
        go_round
        case rel => 
          refine ⟨k + 1, by omega, by go_num, ?_, Lib.hid (HC.out hc)⟩
          rw [or_value v _ k hk9 HV2.out, HV.out]
        case measure => simp [intOf]; omega
      · by_cases hz : 0 < k ∧ s[k].toNat = 0
        · obtain ⟨hz1, hz2⟩ := hz
          go_wp2
          go_ret3
          exact ⟨HG.out (HD.out (by omega)) hz1 hz2, rfl⟩
        · rcases Nat.eq_zero_or_pos k with h0 | h0
          · have hd : decide (0 < k) = false := by simp; omega
            clear h0
            go_wp2
            go_ret3
            refine ⟨HF.out _ _ (HD.out (by omega)) hz ?_ rfl, rfl⟩
            rw [or_value v _ k hk9 HV2.out, HV.out]
          · have hc0 : 0 < s[k].toNat := by omega
            go_wp2
            go_ret3
            refine ⟨HF.out _ _ (HD.out (by omega)) hz ?_ rfl, rfl⟩
            rw [or_value v _ k hk9 HV2.out, HV.out]
    · obtain rfl : k = s.size := by omega
      by_cases hq : s.size < 9
      · go_wp2
        go_ret3
        exact ⟨fst_form s hq HL.out, rfl⟩
      · have HN : Hid (lead 9 s.data.toList = 9 + lead (9 - 9) (s.data.toList.drop 9)) := Lib.hid (by have := HL.out; rw [show s.size = 9 by omega] at this; exact this)
        go_wp2
        go_ret3
        exact ⟨fst_nine s HN.out, rfl⟩
set_option maxRecDepth 100000 in
set_option maxHeartbeats 8000000 in
theorem first_many (s : ByteArray) (w : World) (hs : s.size ≤ maxLen) (h9 : 9 < s.size) :
    Calls Tryd.prog 32 #[.string s] w fun e w' => Fst s e ∧ w = w' := by
  unfold maxLen at hs
  go_enter Tryd.func32, Tryd.ntmps32
  go_wp2
  go_loop [5, 11] (fun n i => ∃ k : Nat, k ≤ 9 ∧ i = .int .i64 k ∧ n = .int .i64 (val (s.data.toList.take k) : Int) ∧ Hid (lead 9 s.data.toList = k + lead (9 - k) (s.data.toList.drop k))) (fun _ i => 9 - (intOf i).toNat)
  case atStart => exact ⟨0, Nat.zero_le _, rfl, rfl, Lib.hid (by simp)⟩
  case round =>
    obtain ⟨k, hk, rfl, rfl, HL⟩ := hrel
    by_cases hlt : k < 9
    · have hk9 : k < 9 := by omega
      have hks : k < s.size := by omega
      obtain ⟨hv1, hv2⟩ := group_in s k hks
      obtain ⟨v, hv⟩ : ∃ v, v = val (s.data.toList.take k) := ⟨_, rfl⟩
      rw [← hv] at hv1 hv2 ⊢
      have HV := Lib.hid hv1
      have hcl := s[k].toNat_lt
      have HC : Hid (128 ≤ s[k].toNat → lead 9 s.data.toList = (k + 1) + lead (9 - (k + 1)) (s.data.toList.drop (k + 1))) := Lib.hid (lead_more s k hks hk9 HL.out)
      have HD : Hid (s[k].toNat < 128 → lead 9 s.data.toList = k) := Lib.hid (lead_here s k hks hk9 HL.out)
      have HF : Hid (∀ a b : Int, lead 9 s.data.toList = k → ¬ (0 < k ∧ s[k].toNat = 0) → a = (val (s.data.toList.take (k + 1)) : Int) → b = (k : Int) + 1 → Fst s (.returned (.tuple #[.int .i64 a, .int .i64 b, .int .i64 0]))) := Lib.hid (fun a b h1 h2 h3 h4 => fst_ok s k hks hk9 h1 h2 a b h3 h4)
      have HG : Hid (lead 9 s.data.toList = k → 0 < k → s[k].toNat = 0 → Fst s (.returned (.tuple #[.int .i64 0, .int .i64 0, .int .i64 5]))) := Lib.hid (fun h1 h2 h3 => fst_long s k hks hk9 h1 h2 h3)
      clear hv1 hv
      have hcl2 : s[k].toNat < 256 := hcl
      have HV2 := Lib.hid hv2
      clear hcl hv2
      by_cases hc : 128 ≤ s[k].toNat
      · go_wp2
        go_round
        case rel => 
          refine ⟨k + 1, by omega, by go_num, ?_, Lib.hid (HC.out hc)⟩
          rw [or_value v _ k hk9 HV2.out, HV.out]
        case measure => simp [intOf]; omega
      · by_cases hz : 0 < k ∧ s[k].toNat = 0
        · obtain ⟨hz1, hz2⟩ := hz
          go_wp2
          go_ret3
          exact ⟨HG.out (HD.out (by omega)) hz1 hz2, rfl⟩
        · rcases Nat.eq_zero_or_pos k with h0 | h0
          · have hd : decide (0 < k) = false := by simp; omega
            clear h0
            go_wp2
            go_ret3
            refine ⟨HF.out _ _ (HD.out (by omega)) hz ?_ rfl, rfl⟩
            rw [or_value v _ k hk9 HV2.out, HV.out]
          · have hc0 : 0 < s[k].toNat := by omega
            go_wp2
            go_ret3
            refine ⟨HF.out _ _ (HD.out (by omega)) hz ?_ rfl, rfl⟩
            rw [or_value v _ k hk9 HV2.out, HV.out]
    · obtain rfl : k = 9 := by omega
      go_wp2
      go_ret3
      exact ⟨fst_nine s HL.out, rfl⟩

theorem first_any (s : ByteArray) (w : World) (hs : s.size ≤ maxLen) : Calls Tryd.prog 32 #[.string s] w fun e w' => Fst s e ∧ w = w' := by
  by_cases h : s.size ≤ 9
  · exact first_some s w hs h
  · exact first_many s w hs (by omega)
theorem first_yes (s : ByteArray) (w : World) (hs : s.size ≤ maxLen) (h : firstE s.data.toList = 0) : Calls Tryd.prog 32 #[.string s] w fun e w' => e = .returned (.tuple #[.int .i64 (firstN s.data.toList : Int), .int .i64 ((lead 9 s.data.toList + 1 : Nat) : Int), .int .i64 0]) ∧ w = w' := by
  refine (first_any s w hs).mono ?_
  rintro e w' ⟨he, rfl⟩
  exact ⟨by rw [he, if_pos h], rfl⟩
theorem first_no (s : ByteArray) (w : World) (hs : s.size ≤ maxLen) (h : firstE s.data.toList ≠ 0) : Calls Tryd.prog 32 #[.string s] w fun e w' => e = .returned (.tuple #[.int .i64 0, .int .i64 0, .int .i64 (firstE s.data.toList : Int)]) ∧ w = w' := by
  refine (first_any s w hs).mono ?_
  rintro e w' ⟨he, rfl⟩
  exact ⟨by rw [he, if_neg h], rfl⟩
end Go.Proofs.YthombepmlepgfaaDoor
