/-
  switchback's FuseAnew: armed anew a fuse bears as many as it was armed with last, whatever it bore, and whether it was blown. For every input the call returns true, and each argument reads afterwards as it read before. No condition.
-/
import Derived.Test.YtebeeeillflflaaLift
import Derived.Deep.LoopGhost
namespace Go.Proofs.Ytebeeeillflflaa.fuseAnew
open Go.ChangeShapes Go.WideShapes Go.ChangeAt Go.RowKit
set_option linter.unusedVariables false

set_option maxHeartbeats 1000000 in
theorem walk_out0 (f s l : Int) (w : World) (e0 : decide (s < 0) = true) : Calls Try.prog 5 #[.int .i64 f, .int .i64 s, .int .i64 l] w (Holds w) := by
  go_enter Try.func5, Try.ntmps5
  go_wp2_with fail
  refine (new_any _).mono ?_
  rintro e w1 ⟨b, rfl, hg, hz, hb⟩
  have HB := Lib.hid hb
  have HZ := Lib.hid hz
  have HG := Lib.hid (Nat.le_of_eq hg)
  clear hz hb hg
  go_wp2_with fail
  refine (awake_yes _).mono ?_
  rintro e w2 ⟨rfl, hb2⟩
  have HB2 := Lib.hid (HB.out.trans (hb2.mono HB.out.size))
  have HZ2 := Lib.hid (HZ.out.under hb2 HZ.out.lt)
  clear hb2 HB HZ
  clear HZ2 HG
  go_wp2_with fail
  refine (awake_yes _).mono ?_
  rintro e w3 ⟨rfl, hb3⟩
  go_wp2
  go_ret
  exact ⟨rfl, HB2.out.trans (hb3.mono HB2.out.size)⟩

set_option maxHeartbeats 1000000 in
theorem walk_out1 (f s l : Int) (w : World) (e0 : decide (s < 0) = false) (e1 : decide (300 < s) = true) : Calls Try.prog 5 #[.int .i64 f, .int .i64 s, .int .i64 l] w (Holds w) := by
  go_enter Try.func5, Try.ntmps5
  go_wp2_with fail
  refine (new_any _).mono ?_
  rintro e w1 ⟨b, rfl, hg, hz, hb⟩
  have HB := Lib.hid hb
  have HZ := Lib.hid hz
  have HG := Lib.hid (Nat.le_of_eq hg)
  clear hz hb hg
  go_wp2_with fail
  refine (awake_yes _).mono ?_
  rintro e w2 ⟨rfl, hb2⟩
  have HB2 := Lib.hid (HB.out.trans (hb2.mono HB.out.size))
  have HZ2 := Lib.hid (HZ.out.under hb2 HZ.out.lt)
  clear hb2 HB HZ
  clear HZ2 HG
  go_wp2_with fail
  refine (awake_yes _).mono ?_
  rintro e w3 ⟨rfl, hb3⟩
  go_wp2
  go_ret
  exact ⟨rfl, HB2.out.trans (hb3.mono HB2.out.size)⟩

set_option maxHeartbeats 1000000 in
theorem walk_out2 (f s l : Int) (w : World) (e0 : decide (s < 0) = false) (e1 : decide (300 < s) = false) (e2 : decide (300 < l) = true) : Calls Try.prog 5 #[.int .i64 f, .int .i64 s, .int .i64 l] w (Holds w) := by
  go_enter Try.func5, Try.ntmps5
  go_wp2_with fail
  refine (new_any _).mono ?_
  rintro e w1 ⟨b, rfl, hg, hz, hb⟩
  have HB := Lib.hid hb
  have HZ := Lib.hid hz
  have HG := Lib.hid (Nat.le_of_eq hg)
  clear hz hb hg
  go_wp2_with fail
  refine (awake_yes _).mono ?_
  rintro e w2 ⟨rfl, hb2⟩
  have HB2 := Lib.hid (HB.out.trans (hb2.mono HB.out.size))
  have HZ2 := Lib.hid (HZ.out.under hb2 HZ.out.lt)
  clear hb2 HB HZ
  clear HZ2 HG
  go_wp2_with fail
  refine (awake_yes _).mono ?_
  rintro e w3 ⟨rfl, hb3⟩
  go_wp2
  go_ret
  exact ⟨rfl, HB2.out.trans (hb3.mono HB2.out.size)⟩

theorem is_yes (d x : Int) (h : d = x) : Ending.returned (Value.bool (d == x)) = Ending.returned (Value.bool true) := by
  subst h
  simp

set_option maxHeartbeats 2000000 in
theorem walk_pp (s : Nat) (f : Nat) (hf : (f : Int) ≤ 9223372036854775807) (m : Nat) (hm : m ≤ 300) (w : World) (hs : s ≤ 300) : Calls Try.prog 5 #[.int .i64 ((f : Nat) : Int), .int .i64 (s : Int), .int .i64 ((m : Nat) : Int)] w (Holds w) := by
  have e0 : decide ((s : Int) < 0) = false := by simp
  have e1 : decide (300 < (s : Int)) = false := by simp; omega
  have e2 : decide (300 < ((m : Nat) : Int)) = false := by simp; omega
  go_enter Try.func5, Try.ntmps5
  go_wp2_with fail
  refine (new_any _).mono ?_
  rintro e w1 ⟨b, rfl, hg, hz, hb⟩
  have HB := Lib.hid hb
  have HZ := Lib.hid hz
  have HG := Lib.hid (Nat.le_of_eq hg)
  clear hz hb hg
  go_wp2_with fail
  refine (awake_yes _).mono ?_
  rintro e w2 ⟨rfl, hb2⟩
  have HB2 := Lib.hid (HB.out.trans (hb2.mono HB.out.size))
  have HZ2 := Lib.hid (HZ.out.under hb2 HZ.out.lt)
  clear hb2 HB HZ
  go_wp2_with fail
  refine (arm_any b _ _ _ HZ2.out).mono ?_
  rintro e w3 ⟨rfl, hz', ho⟩
  have HZ3 := Lib.hid hz'
  have HB3 := Lib.hid (ho.below HB2.out HG.out)
  clear hz' ho HZ2 HB2
  go_wp2
  go_loopg [33] s (fun g i wr => ∃ (k : Nat) (l c : Int) (bl : Bool), Hid (g = s - k) ∧ k ≤ s ∧ i = .int .i64 k ∧ Hid (c = min (k : Int) (f : Int)) ∧ Hid (l = (f : Int) - c) ∧ Hid (Fz wr b 37 ⟨true, l, bl, c⟩) ∧ Hid (Below w.heap.size w wr))
  case atStart => exact ⟨0, max ((f : Nat) : Int) 0, 0, false, Lib.hid rfl, Nat.zero_le _, rfl, Lib.hid (by omega), Lib.hid (by omega), HZ3, HB3⟩
  case round =>
    obtain ⟨k, l, c, bl, HK, hk, rfl, HC, HL, HZ, HB⟩ := hrel
    by_cases hlt : k < s
    · have hc1 : 0 ≤ c := by have := HC.out; omega
      have hc2 : c < 1000 := by have := HC.out; omega
      by_cases hl0 : l = 0
      · subst hl0
        go_wp2_with fail
        refine (spend_no b _ _ _ HZ.out).mono ?_
        rintro e w4 ⟨rfl, hz', ho⟩
        have HZ4 := Lib.hid hz'
        have HB4 := Lib.hid (ho.below HB.out HG.out)
        clear hz' ho HZ HB
        go_wp2
        go_roundg (s - (k + 1))
        case measure => have := HK.out; omega
        case rel => exact ⟨k + 1, 0, c, true, Lib.hid rfl, by omega, by go_num, Lib.hid (by have := HC.out; have := HL.out; omega), HL, HZ4, HB4⟩
      · have hl1 : 1 ≤ l := by have := HC.out; have := HL.out; omega
        have hl2 : l ≤ 9223372036854775807 := by have := HC.out; have := HL.out; omega
        go_wp2_with fail
        refine (spend_some b _ _ _ _ hl1 hl2 hc1 (by omega) HZ.out).mono ?_
        rintro e w4 ⟨rfl, hz', ho⟩
        have HZ4 := Lib.hid hz'
        have HB4 := Lib.hid (ho.below HB.out HG.out)
        clear hz' ho HZ HB
        go_wp2
        go_roundg (s - (k + 1))
        case measure => have := HK.out; omega
        case rel => exact ⟨k + 1, l - 1, c + 1, bl, Lib.hid rfl, by omega, by go_num, Lib.hid (by have := HC.out; have := HL.out; omega), Lib.hid (by have := HL.out; omega), HZ4, HB4⟩
    · obtain rfl : k = s := by omega
      clear hlt hk HK HL
      have hc1 : 0 ≤ c := by have := HC.out; omega
      have hc2 : c ≤ 300 := by have := HC.out; omega
      go_wp2_with fail
      refine (arm_any b _ _ _ HZ.out).mono ?_
      rintro e w4 ⟨rfl, hz', ho⟩
      have HZ4 := Lib.hid hz'
      have HB4 := Lib.hid (ho.below HB.out HG.out)
      clear hz' ho HZ HB
      go_wp2
      go_loopg [8, 44] (m + 3) (fun g n i wr => ∃ (j : Nat) (n' l d : Int) (bl : Bool), Hid (g = m + 3 - j) ∧ j ≤ m + 3 ∧ i = .int .i64 j ∧ n = .int .i64 n' ∧ Hid (n' = min (j : Int) m) ∧ Hid (l = m - n') ∧ Hid (d = c + n') ∧ Hid ((m : Int) < j → bl = true) ∧ Hid (Fz wr b 37 ⟨true, l, bl, d⟩) ∧ Hid (Below w.heap.size w wr))
      case atStart => exact ⟨0, 0, max ((m : Nat) : Int) 0, c, false, Lib.hid rfl, Nat.zero_le _, rfl, rfl, Lib.hid (by omega), Lib.hid (by omega), Lib.hid (by omega), Lib.hid (by intro h; omega), HZ4, HB4⟩
      case round =>
        obtain ⟨j, n', l, d, bl, HJ, hj, rfl, rfl, HN, HL, HD, HBL, HZ, HB⟩ := hrel
        have hn1 : 0 ≤ n' := by have := HN.out; omega
        have hn2 : n' ≤ 300 := by have := HN.out; omega
        have hd1 : 0 ≤ d := by have := HD.out; omega
        have hd2 : d < 1000 := by have := HD.out; omega
        by_cases hlt : j < m + 3
        · by_cases hl0 : l = 0
          · subst hl0
            go_wp2_with fail
            refine (spend_no b _ _ _ HZ.out).mono ?_
            rintro e w5 ⟨rfl, hz', ho⟩
            have HZ5 := Lib.hid hz'
            have HB5 := Lib.hid (ho.below HB.out HG.out)
            clear hz' ho HZ HB
            go_wp2
            go_roundg (m + 3 - (j + 1))
            case measure => have := HJ.out; omega
            case rel => exact ⟨j + 1, n', 0, d, true, Lib.hid rfl, by omega, by go_num, rfl, Lib.hid (by have := HN.out; have := HL.out; omega), HL, HD, Lib.hid (fun _ => rfl), HZ5, HB5⟩
          · have hl1 : 1 ≤ l := by have := HN.out; have := HL.out; omega
            have hl2 : l ≤ 300 := by have := HN.out; have := HL.out; omega
            go_wp2_with fail
            refine (spend_some b _ _ _ _ hl1 (by omega) hd1 (by omega) HZ.out).mono ?_
            rintro e w5 ⟨rfl, hz', ho⟩
            have HZ5 := Lib.hid hz'
            have HB5 := Lib.hid (ho.below HB.out HG.out)
            clear hz' ho HZ HB
            go_wp2
            go_roundg (m + 3 - (j + 1))
            case measure => have := HJ.out; omega
            case rel => exact ⟨j + 1, n' + 1, l - 1, d + 1, bl, Lib.hid rfl, by omega, by go_num, by go_num, Lib.hid (by have := HN.out; have := HL.out; omega), Lib.hid (by have := HL.out; omega), Lib.hid (by have := HD.out; omega), Lib.hid (fun h => by have := HN.out; have := HL.out; omega), HZ5, HB5⟩
        · obtain rfl : j = m + 3 := by omega
          obtain rfl : bl = true := HBL.out (by omega)
          obtain rfl : n' = (m : Int) := by have := HN.out; omega
          clear hlt hj HJ HN HL HBL
          go_wp2_with fail
          refine (blown_any b _ _ HZ.out).mono ?_
          rintro e w' ⟨rfl, rfl⟩
          go_wp2_with fail
          refine (count_any b _ _ HZ.out).mono ?_
          rintro e w' ⟨rfl, rfl⟩
          go_wp2
          all_goals
            go_ret
            exact ⟨is_yes d _ (by have := HD.out; have := HC.out; omega), HB.out⟩

set_option maxHeartbeats 2000000 in
theorem walk_pn (s : Nat) (f : Nat) (hf : (f : Int) ≤ 9223372036854775807) (y : Int) (hy : y < 0) (w : World) (hs : s ≤ 300) : Calls Try.prog 5 #[.int .i64 ((f : Nat) : Int), .int .i64 (s : Int), .int .i64 y] w (Holds w) := by
  have e0 : decide ((s : Int) < 0) = false := by simp
  have e1 : decide (300 < (s : Int)) = false := by simp; omega
  have e2 : decide (300 < y) = false := by simp; omega
  go_enter Try.func5, Try.ntmps5
  go_wp2_with fail
  refine (new_any _).mono ?_
  rintro e w1 ⟨b, rfl, hg, hz, hb⟩
  have HB := Lib.hid hb
  have HZ := Lib.hid hz
  have HG := Lib.hid (Nat.le_of_eq hg)
  clear hz hb hg
  go_wp2_with fail
  refine (awake_yes _).mono ?_
  rintro e w2 ⟨rfl, hb2⟩
  have HB2 := Lib.hid (HB.out.trans (hb2.mono HB.out.size))
  have HZ2 := Lib.hid (HZ.out.under hb2 HZ.out.lt)
  clear hb2 HB HZ
  go_wp2_with fail
  refine (arm_any b _ _ _ HZ2.out).mono ?_
  rintro e w3 ⟨rfl, hz', ho⟩
  have HZ3 := Lib.hid hz'
  have HB3 := Lib.hid (ho.below HB2.out HG.out)
  clear hz' ho HZ2 HB2
  go_wp2
  go_loopg [33] s (fun g i wr => ∃ (k : Nat) (l c : Int) (bl : Bool), Hid (g = s - k) ∧ k ≤ s ∧ i = .int .i64 k ∧ Hid (c = min (k : Int) (f : Int)) ∧ Hid (l = (f : Int) - c) ∧ Hid (Fz wr b 37 ⟨true, l, bl, c⟩) ∧ Hid (Below w.heap.size w wr))
  case atStart => exact ⟨0, max ((f : Nat) : Int) 0, 0, false, Lib.hid rfl, Nat.zero_le _, rfl, Lib.hid (by omega), Lib.hid (by omega), HZ3, HB3⟩
  case round =>
    obtain ⟨k, l, c, bl, HK, hk, rfl, HC, HL, HZ, HB⟩ := hrel
    by_cases hlt : k < s
    · have hc1 : 0 ≤ c := by have := HC.out; omega
      have hc2 : c < 1000 := by have := HC.out; omega
      by_cases hl0 : l = 0
      · subst hl0
        go_wp2_with fail
        refine (spend_no b _ _ _ HZ.out).mono ?_
        rintro e w4 ⟨rfl, hz', ho⟩
        have HZ4 := Lib.hid hz'
        have HB4 := Lib.hid (ho.below HB.out HG.out)
        clear hz' ho HZ HB
        go_wp2
        go_roundg (s - (k + 1))
        case measure => have := HK.out; omega
        case rel => exact ⟨k + 1, 0, c, true, Lib.hid rfl, by omega, by go_num, Lib.hid (by have := HC.out; have := HL.out; omega), HL, HZ4, HB4⟩
      · have hl1 : 1 ≤ l := by have := HC.out; have := HL.out; omega
        have hl2 : l ≤ 9223372036854775807 := by have := HC.out; have := HL.out; omega
        go_wp2_with fail
        refine (spend_some b _ _ _ _ hl1 hl2 hc1 (by omega) HZ.out).mono ?_
        rintro e w4 ⟨rfl, hz', ho⟩
        have HZ4 := Lib.hid hz'
        have HB4 := Lib.hid (ho.below HB.out HG.out)
        clear hz' ho HZ HB
        go_wp2
        go_roundg (s - (k + 1))
        case measure => have := HK.out; omega
        case rel => exact ⟨k + 1, l - 1, c + 1, bl, Lib.hid rfl, by omega, by go_num, Lib.hid (by have := HC.out; have := HL.out; omega), Lib.hid (by have := HL.out; omega), HZ4, HB4⟩
    · obtain rfl : k = s := by omega
      clear hlt hk HK HL
      have hc1 : 0 ≤ c := by have := HC.out; omega
      have hc2 : c ≤ 300 := by have := HC.out; omega
      go_wp2_with fail
      refine (arm_any b _ _ _ HZ.out).mono ?_
      rintro e w4 ⟨rfl, hz', ho⟩
      have HZ4 := Lib.hid hz'
      have HB4 := Lib.hid (ho.below HB.out HG.out)
      clear hz' ho HZ HB
      go_wp2
      go_loopg [8, 44] (0 + 3) (fun g n i wr => ∃ (j : Nat) (n' l d : Int) (bl : Bool), Hid (g = 0 + 3 - j) ∧ j ≤ 0 + 3 ∧ i = .int .i64 j ∧ n = .int .i64 n' ∧ Hid (n' = min (j : Int) 0) ∧ Hid (l = 0 - n') ∧ Hid (d = c + n') ∧ Hid ((0 : Int) < j → bl = true) ∧ Hid (Fz wr b 37 ⟨true, l, bl, d⟩) ∧ Hid (Below w.heap.size w wr))
      case atStart => exact ⟨0, 0, max y 0, c, false, Lib.hid rfl, Nat.zero_le _, rfl, rfl, Lib.hid (by omega), Lib.hid (by omega), Lib.hid (by omega), Lib.hid (by intro h; omega), HZ4, HB4⟩
      case round =>
        obtain ⟨j, n', l, d, bl, HJ, hj, rfl, rfl, HN, HL, HD, HBL, HZ, HB⟩ := hrel
        have hn1 : 0 ≤ n' := by have := HN.out; omega
        have hn2 : n' ≤ 300 := by have := HN.out; omega
        have hd1 : 0 ≤ d := by have := HD.out; omega
        have hd2 : d < 1000 := by have := HD.out; omega
        by_cases hlt : j < 0 + 3
        · by_cases hl0 : l = 0
          · subst hl0
            go_wp2_with fail
            refine (spend_no b _ _ _ HZ.out).mono ?_
            rintro e w5 ⟨rfl, hz', ho⟩
            have HZ5 := Lib.hid hz'
            have HB5 := Lib.hid (ho.below HB.out HG.out)
            clear hz' ho HZ HB
            go_wp2
            go_roundg (0 + 3 - (j + 1))
            case measure => have := HJ.out; omega
            case rel => exact ⟨j + 1, n', 0, d, true, Lib.hid rfl, by omega, by go_num, rfl, Lib.hid (by have := HN.out; have := HL.out; omega), HL, HD, Lib.hid (fun _ => rfl), HZ5, HB5⟩
          · have hl1 : 1 ≤ l := by have := HN.out; have := HL.out; omega
            have hl2 : l ≤ 300 := by have := HN.out; have := HL.out; omega
            go_wp2_with fail
            refine (spend_some b _ _ _ _ hl1 (by omega) hd1 (by omega) HZ.out).mono ?_
            rintro e w5 ⟨rfl, hz', ho⟩
            have HZ5 := Lib.hid hz'
            have HB5 := Lib.hid (ho.below HB.out HG.out)
            clear hz' ho HZ HB
            go_wp2
            go_roundg (0 + 3 - (j + 1))
            case measure => have := HJ.out; omega
            case rel => exact ⟨j + 1, n' + 1, l - 1, d + 1, bl, Lib.hid rfl, by omega, by go_num, by go_num, Lib.hid (by have := HN.out; have := HL.out; omega), Lib.hid (by have := HL.out; omega), Lib.hid (by have := HD.out; omega), Lib.hid (fun h => by have := HN.out; have := HL.out; omega), HZ5, HB5⟩
        · obtain rfl : j = 0 + 3 := by omega
          obtain rfl : bl = true := HBL.out (by omega)
          obtain rfl : n' = 0 := by have := HN.out; omega
          clear hlt hj HJ HN HL HBL
          go_wp2_with fail
          refine (blown_any b _ _ HZ.out).mono ?_
          rintro e w' ⟨rfl, rfl⟩
          go_wp2_with fail
          refine (count_any b _ _ HZ.out).mono ?_
          rintro e w' ⟨rfl, rfl⟩
          go_wp2
          all_goals
            go_ret
            exact ⟨is_yes d _ (by have := HD.out; have := HC.out; omega), HB.out⟩

set_option maxHeartbeats 2000000 in
theorem walk_np (s : Nat) (x : Int) (hx : x < 0) (m : Nat) (hm : m ≤ 300) (w : World) (hs : s ≤ 300) : Calls Try.prog 5 #[.int .i64 x, .int .i64 (s : Int), .int .i64 ((m : Nat) : Int)] w (Holds w) := by
  have e0 : decide ((s : Int) < 0) = false := by simp
  have e1 : decide (300 < (s : Int)) = false := by simp; omega
  have e2 : decide (300 < ((m : Nat) : Int)) = false := by simp; omega
  go_enter Try.func5, Try.ntmps5
  go_wp2_with fail
  refine (new_any _).mono ?_
  rintro e w1 ⟨b, rfl, hg, hz, hb⟩
  have HB := Lib.hid hb
  have HZ := Lib.hid hz
  have HG := Lib.hid (Nat.le_of_eq hg)
  clear hz hb hg
  go_wp2_with fail
  refine (awake_yes _).mono ?_
  rintro e w2 ⟨rfl, hb2⟩
  have HB2 := Lib.hid (HB.out.trans (hb2.mono HB.out.size))
  have HZ2 := Lib.hid (HZ.out.under hb2 HZ.out.lt)
  clear hb2 HB HZ
  go_wp2_with fail
  refine (arm_any b _ _ _ HZ2.out).mono ?_
  rintro e w3 ⟨rfl, hz', ho⟩
  have HZ3 := Lib.hid hz'
  have HB3 := Lib.hid (ho.below HB2.out HG.out)
  clear hz' ho HZ2 HB2
  go_wp2
  go_loopg [33] s (fun g i wr => ∃ (k : Nat) (l c : Int) (bl : Bool), Hid (g = s - k) ∧ k ≤ s ∧ i = .int .i64 k ∧ Hid (c = min (k : Int) (0 : Int)) ∧ Hid (l = (0 : Int) - c) ∧ Hid (Fz wr b 37 ⟨true, l, bl, c⟩) ∧ Hid (Below w.heap.size w wr))
  case atStart => exact ⟨0, max x 0, 0, false, Lib.hid rfl, Nat.zero_le _, rfl, Lib.hid (by omega), Lib.hid (by omega), HZ3, HB3⟩
  case round =>
    obtain ⟨k, l, c, bl, HK, hk, rfl, HC, HL, HZ, HB⟩ := hrel
    by_cases hlt : k < s
    · have hc1 : 0 ≤ c := by have := HC.out; omega
      have hc2 : c < 1000 := by have := HC.out; omega
      by_cases hl0 : l = 0
      · subst hl0
        go_wp2_with fail
        refine (spend_no b _ _ _ HZ.out).mono ?_
        rintro e w4 ⟨rfl, hz', ho⟩
        have HZ4 := Lib.hid hz'
        have HB4 := Lib.hid (ho.below HB.out HG.out)
        clear hz' ho HZ HB
        go_wp2
        go_roundg (s - (k + 1))
        case measure => have := HK.out; omega
        case rel => exact ⟨k + 1, 0, c, true, Lib.hid rfl, by omega, by go_num, Lib.hid (by have := HC.out; have := HL.out; omega), HL, HZ4, HB4⟩
      · have hl1 : 1 ≤ l := by have := HC.out; have := HL.out; omega
        have hl2 : l ≤ 9223372036854775807 := by have := HC.out; have := HL.out; omega
        go_wp2_with fail
        refine (spend_some b _ _ _ _ hl1 hl2 hc1 (by omega) HZ.out).mono ?_
        rintro e w4 ⟨rfl, hz', ho⟩
        have HZ4 := Lib.hid hz'
        have HB4 := Lib.hid (ho.below HB.out HG.out)
        clear hz' ho HZ HB
        go_wp2
        go_roundg (s - (k + 1))
        case measure => have := HK.out; omega
        case rel => exact ⟨k + 1, l - 1, c + 1, bl, Lib.hid rfl, by omega, by go_num, Lib.hid (by have := HC.out; have := HL.out; omega), Lib.hid (by have := HL.out; omega), HZ4, HB4⟩
    · obtain rfl : k = s := by omega
      clear hlt hk HK HL
      have hc1 : 0 ≤ c := by have := HC.out; omega
      have hc2 : c ≤ 300 := by have := HC.out; omega
      go_wp2_with fail
      refine (arm_any b _ _ _ HZ.out).mono ?_
      rintro e w4 ⟨rfl, hz', ho⟩
      have HZ4 := Lib.hid hz'
      have HB4 := Lib.hid (ho.below HB.out HG.out)
      clear hz' ho HZ HB
      go_wp2
      go_loopg [8, 44] (m + 3) (fun g n i wr => ∃ (j : Nat) (n' l d : Int) (bl : Bool), Hid (g = m + 3 - j) ∧ j ≤ m + 3 ∧ i = .int .i64 j ∧ n = .int .i64 n' ∧ Hid (n' = min (j : Int) m) ∧ Hid (l = m - n') ∧ Hid (d = c + n') ∧ Hid ((m : Int) < j → bl = true) ∧ Hid (Fz wr b 37 ⟨true, l, bl, d⟩) ∧ Hid (Below w.heap.size w wr))
      case atStart => exact ⟨0, 0, max ((m : Nat) : Int) 0, c, false, Lib.hid rfl, Nat.zero_le _, rfl, rfl, Lib.hid (by omega), Lib.hid (by omega), Lib.hid (by omega), Lib.hid (by intro h; omega), HZ4, HB4⟩
      case round =>
        obtain ⟨j, n', l, d, bl, HJ, hj, rfl, rfl, HN, HL, HD, HBL, HZ, HB⟩ := hrel
        have hn1 : 0 ≤ n' := by have := HN.out; omega
        have hn2 : n' ≤ 300 := by have := HN.out; omega
        have hd1 : 0 ≤ d := by have := HD.out; omega
        have hd2 : d < 1000 := by have := HD.out; omega
        by_cases hlt : j < m + 3
        · by_cases hl0 : l = 0
          · subst hl0
            go_wp2_with fail
            refine (spend_no b _ _ _ HZ.out).mono ?_
            rintro e w5 ⟨rfl, hz', ho⟩
            have HZ5 := Lib.hid hz'
            have HB5 := Lib.hid (ho.below HB.out HG.out)
            clear hz' ho HZ HB
            go_wp2
            go_roundg (m + 3 - (j + 1))
            case measure => have := HJ.out; omega
            case rel => exact ⟨j + 1, n', 0, d, true, Lib.hid rfl, by omega, by go_num, rfl, Lib.hid (by have := HN.out; have := HL.out; omega), HL, HD, Lib.hid (fun _ => rfl), HZ5, HB5⟩
          · have hl1 : 1 ≤ l := by have := HN.out; have := HL.out; omega
            have hl2 : l ≤ 300 := by have := HN.out; have := HL.out; omega
            go_wp2_with fail
            refine (spend_some b _ _ _ _ hl1 (by omega) hd1 (by omega) HZ.out).mono ?_
            rintro e w5 ⟨rfl, hz', ho⟩
            have HZ5 := Lib.hid hz'
            have HB5 := Lib.hid (ho.below HB.out HG.out)
            clear hz' ho HZ HB
            go_wp2
            go_roundg (m + 3 - (j + 1))
            case measure => have := HJ.out; omega
            case rel => exact ⟨j + 1, n' + 1, l - 1, d + 1, bl, Lib.hid rfl, by omega, by go_num, by go_num, Lib.hid (by have := HN.out; have := HL.out; omega), Lib.hid (by have := HL.out; omega), Lib.hid (by have := HD.out; omega), Lib.hid (fun h => by have := HN.out; have := HL.out; omega), HZ5, HB5⟩
        · obtain rfl : j = m + 3 := by omega
          obtain rfl : bl = true := HBL.out (by omega)
          obtain rfl : n' = (m : Int) := by have := HN.out; omega
          clear hlt hj HJ HN HL HBL
          go_wp2_with fail
          refine (blown_any b _ _ HZ.out).mono ?_
          rintro e w' ⟨rfl, rfl⟩
          go_wp2_with fail
          refine (count_any b _ _ HZ.out).mono ?_
          rintro e w' ⟨rfl, rfl⟩
          go_wp2
          all_goals
            go_ret
            exact ⟨is_yes d _ (by have := HD.out; have := HC.out; omega), HB.out⟩

set_option maxHeartbeats 2000000 in
theorem walk_nn (s : Nat) (x : Int) (hx : x < 0) (y : Int) (hy : y < 0) (w : World) (hs : s ≤ 300) : Calls Try.prog 5 #[.int .i64 x, .int .i64 (s : Int), .int .i64 y] w (Holds w) := by
  have e0 : decide ((s : Int) < 0) = false := by simp
  have e1 : decide (300 < (s : Int)) = false := by simp; omega
  have e2 : decide (300 < y) = false := by simp; omega
  go_enter Try.func5, Try.ntmps5
  go_wp2_with fail
  refine (new_any _).mono ?_
  rintro e w1 ⟨b, rfl, hg, hz, hb⟩
  have HB := Lib.hid hb
  have HZ := Lib.hid hz
  have HG := Lib.hid (Nat.le_of_eq hg)
  clear hz hb hg
  go_wp2_with fail
  refine (awake_yes _).mono ?_
  rintro e w2 ⟨rfl, hb2⟩
  have HB2 := Lib.hid (HB.out.trans (hb2.mono HB.out.size))
  have HZ2 := Lib.hid (HZ.out.under hb2 HZ.out.lt)
  clear hb2 HB HZ
  go_wp2_with fail
  refine (arm_any b _ _ _ HZ2.out).mono ?_
  rintro e w3 ⟨rfl, hz', ho⟩
  have HZ3 := Lib.hid hz'
  have HB3 := Lib.hid (ho.below HB2.out HG.out)
  clear hz' ho HZ2 HB2
  go_wp2
  go_loopg [33] s (fun g i wr => ∃ (k : Nat) (l c : Int) (bl : Bool), Hid (g = s - k) ∧ k ≤ s ∧ i = .int .i64 k ∧ Hid (c = min (k : Int) (0 : Int)) ∧ Hid (l = (0 : Int) - c) ∧ Hid (Fz wr b 37 ⟨true, l, bl, c⟩) ∧ Hid (Below w.heap.size w wr))
  case atStart => exact ⟨0, max x 0, 0, false, Lib.hid rfl, Nat.zero_le _, rfl, Lib.hid (by omega), Lib.hid (by omega), HZ3, HB3⟩
  case round =>
    obtain ⟨k, l, c, bl, HK, hk, rfl, HC, HL, HZ, HB⟩ := hrel
    by_cases hlt : k < s
    · have hc1 : 0 ≤ c := by have := HC.out; omega
      have hc2 : c < 1000 := by have := HC.out; omega
      by_cases hl0 : l = 0
      · subst hl0
        go_wp2_with fail
        refine (spend_no b _ _ _ HZ.out).mono ?_
        rintro e w4 ⟨rfl, hz', ho⟩
        have HZ4 := Lib.hid hz'
        have HB4 := Lib.hid (ho.below HB.out HG.out)
        clear hz' ho HZ HB
        go_wp2
        go_roundg (s - (k + 1))
        case measure => have := HK.out; omega
        case rel => exact ⟨k + 1, 0, c, true, Lib.hid rfl, by omega, by go_num, Lib.hid (by have := HC.out; have := HL.out; omega), HL, HZ4, HB4⟩
      · have hl1 : 1 ≤ l := by have := HC.out; have := HL.out; omega
        have hl2 : l ≤ 9223372036854775807 := by have := HC.out; have := HL.out; omega
        go_wp2_with fail
        refine (spend_some b _ _ _ _ hl1 hl2 hc1 (by omega) HZ.out).mono ?_
        rintro e w4 ⟨rfl, hz', ho⟩
        have HZ4 := Lib.hid hz'
        have HB4 := Lib.hid (ho.below HB.out HG.out)
        clear hz' ho HZ HB
        go_wp2
        go_roundg (s - (k + 1))
        case measure => have := HK.out; omega
        case rel => exact ⟨k + 1, l - 1, c + 1, bl, Lib.hid rfl, by omega, by go_num, Lib.hid (by have := HC.out; have := HL.out; omega), Lib.hid (by have := HL.out; omega), HZ4, HB4⟩
    · obtain rfl : k = s := by omega
      clear hlt hk HK HL
      have hc1 : 0 ≤ c := by have := HC.out; omega
      have hc2 : c ≤ 300 := by have := HC.out; omega
      go_wp2_with fail
      refine (arm_any b _ _ _ HZ.out).mono ?_
      rintro e w4 ⟨rfl, hz', ho⟩
      have HZ4 := Lib.hid hz'
      have HB4 := Lib.hid (ho.below HB.out HG.out)
      clear hz' ho HZ HB
      go_wp2
      go_loopg [8, 44] (0 + 3) (fun g n i wr => ∃ (j : Nat) (n' l d : Int) (bl : Bool), Hid (g = 0 + 3 - j) ∧ j ≤ 0 + 3 ∧ i = .int .i64 j ∧ n = .int .i64 n' ∧ Hid (n' = min (j : Int) 0) ∧ Hid (l = 0 - n') ∧ Hid (d = c + n') ∧ Hid ((0 : Int) < j → bl = true) ∧ Hid (Fz wr b 37 ⟨true, l, bl, d⟩) ∧ Hid (Below w.heap.size w wr))
      case atStart => exact ⟨0, 0, max y 0, c, false, Lib.hid rfl, Nat.zero_le _, rfl, rfl, Lib.hid (by omega), Lib.hid (by omega), Lib.hid (by omega), Lib.hid (by intro h; omega), HZ4, HB4⟩
      case round =>
        obtain ⟨j, n', l, d, bl, HJ, hj, rfl, rfl, HN, HL, HD, HBL, HZ, HB⟩ := hrel
        have hn1 : 0 ≤ n' := by have := HN.out; omega
        have hn2 : n' ≤ 300 := by have := HN.out; omega
        have hd1 : 0 ≤ d := by have := HD.out; omega
        have hd2 : d < 1000 := by have := HD.out; omega
        by_cases hlt : j < 0 + 3
        · by_cases hl0 : l = 0
          · subst hl0
            go_wp2_with fail
            refine (spend_no b _ _ _ HZ.out).mono ?_
            rintro e w5 ⟨rfl, hz', ho⟩
            have HZ5 := Lib.hid hz'
            have HB5 := Lib.hid (ho.below HB.out HG.out)
            clear hz' ho HZ HB
            go_wp2
            go_roundg (0 + 3 - (j + 1))
            case measure => have := HJ.out; omega
            case rel => exact ⟨j + 1, n', 0, d, true, Lib.hid rfl, by omega, by go_num, rfl, Lib.hid (by have := HN.out; have := HL.out; omega), HL, HD, Lib.hid (fun _ => rfl), HZ5, HB5⟩
          · have hl1 : 1 ≤ l := by have := HN.out; have := HL.out; omega
            have hl2 : l ≤ 300 := by have := HN.out; have := HL.out; omega
            go_wp2_with fail
            refine (spend_some b _ _ _ _ hl1 (by omega) hd1 (by omega) HZ.out).mono ?_
            rintro e w5 ⟨rfl, hz', ho⟩
            have HZ5 := Lib.hid hz'
            have HB5 := Lib.hid (ho.below HB.out HG.out)
            clear hz' ho HZ HB
            go_wp2
            go_roundg (0 + 3 - (j + 1))
            case measure => have := HJ.out; omega
            case rel => exact ⟨j + 1, n' + 1, l - 1, d + 1, bl, Lib.hid rfl, by omega, by go_num, by go_num, Lib.hid (by have := HN.out; have := HL.out; omega), Lib.hid (by have := HL.out; omega), Lib.hid (by have := HD.out; omega), Lib.hid (fun h => by have := HN.out; have := HL.out; omega), HZ5, HB5⟩
        · obtain rfl : j = 0 + 3 := by omega
          obtain rfl : bl = true := HBL.out (by omega)
          obtain rfl : n' = 0 := by have := HN.out; omega
          clear hlt hj HJ HN HL HBL
          go_wp2_with fail
          refine (blown_any b _ _ HZ.out).mono ?_
          rintro e w' ⟨rfl, rfl⟩
          go_wp2_with fail
          refine (count_any b _ _ HZ.out).mono ?_
          rintro e w' ⟨rfl, rfl⟩
          go_wp2
          all_goals
            go_ret
            exact ⟨is_yes d _ (by have := HD.out; have := HC.out; omega), HB.out⟩

theorem walk (f s l : Int) (w : World) (hb : f ≤ 9223372036854775807) : Calls Try.prog 5 #[.int .i64 f, .int .i64 s, .int .i64 l] w (Holds w) := by
  cases e0 : decide (s < 0) with
  | true => exact walk_out0 f s l w e0
  | false =>
  cases e1 : decide (300 < s) with
  | true => exact walk_out1 f s l w e0 e1
  | false =>
  cases e2 : decide (300 < l) with
  | true => exact walk_out2 f s l w e0 e1 e2
  | false =>
  simp only [decide_eq_false_iff_not] at e0 e1 e2
  obtain ⟨s', rfl⟩ := Int.eq_ofNat_of_zero_le (show 0 ≤ s by omega)
  by_cases hf : f < 0 <;> by_cases hl : l < 0
  · exact walk_nn s' f hf l hl w (by omega)
  · obtain ⟨m, rfl⟩ := Int.eq_ofNat_of_zero_le (show 0 ≤ l by omega)
    exact walk_np s' f hf m (by omega) w (by omega)
  · obtain ⟨f', rfl⟩ := Int.eq_ofNat_of_zero_le (show 0 ≤ f by omega)
    exact walk_pn s' f' hb l hl w (by omega)
  · obtain ⟨m, rfl⟩ := Int.eq_ofNat_of_zero_le (show 0 ≤ l by omega)
    obtain ⟨f', rfl⟩ := Int.eq_ofNat_of_zero_le (show 0 ≤ f by omega)
    exact walk_pp s' f' hb m (by omega) w (by omega)

/-! From the walk to the given row. -/
set_option maxRecDepth 100000 in
theorem lifted (os : Os) (started : os.Started) (H : Type) (enc : TypeId × Value → H) :
    ReturnsInHanded {} Try.checked os 5 .any (Rows.fuseAnewSpec.pre6 enc Try.prog Try.f5 Rows.fuseAnewRow.domain false) (Rows.fuseAnewSpec.post enc Try.prog Try.f5 false true false false) := by
  refine returnsInHanded_of_change (C := Try.checked) t_own started (by kernel_rfl) Try.func5
    (ChangeSpec.witness6 (enc := enc) (C := Try.checked) false ⟨#[], #[.int .i64 0, .int .i64 0, .int .i64 0], []⟩ 8 (by kernel_rfl) (by kernel_rfl) (by kernel_rfl) (by kernel_rfl)) ?_
  intro W base args ds gs before hval0 hW hcnd _
  have hval : ∀ (j : Nat) t v, Try.f5.params[j]? = some t → args[j]? = some v → Value.okWide Try.prog W .any base t v := hval0
  have hW' := hW
  obtain ⟨p, q, hA0, hV, rfl, hfz, hnd⟩ := hW
  have hA : DataW.TrodAll enc Try.prog W 0 (fun _ => true) true Try.f5.params.toList args.toList ds p := hA0
  rw [Try.params5] at hA hval
  obtain ⟨v0, vs0, d0, ds0, p0, q0, hargs, rfl, rfl, h0, r0⟩ := trodAll_cons hA
  obtain ⟨v1, vs1, d1, ds1, p1, q1, rfl, rfl, rfl, h1, r1⟩ := trodAll_cons r0
  obtain ⟨v2, vs2, d2, ds2, p2, q2, rfl, rfl, rfl, h2, r2⟩ := trodAll_cons r1
  obtain ⟨rfl, rfl, rfl⟩ := trodAll_nil r2
  obtain rfl : args = #[v0, v1, v2] := by cases args; simp_all
  obtain ⟨a0, rfl, rfl, rfl, w0⟩ := open_int Try.underlying3 (hval 0 3 v0 rfl rfl) h0
  obtain ⟨a1, rfl, rfl, rfl, w1⟩ := open_int Try.underlying3 (hval 1 3 v1 rfl rfl) h1
  obtain ⟨a2, rfl, rfl, rfl, w2⟩ := open_int Try.underlying3 (hval 2 3 v2 rfl rfl) h2
  refine (walk a0 a1 a2 W (by have := bounds_i64 w0; omega)).mono fun e W' ⟨he, hb⟩ => ?_
  subst he
  exact ⟨_, rfl, post_of_holds hW' (by kernel_rfl) rfl (by rw [Try.params5]; exact fun t ht => params_ok t (by simp at ht; rcases ht with rfl <;> simp)) ⟨rfl, rfl, rfl⟩ hb⟩

/-- The given statement. -/
theorem proved : Rows.FuseAnewSaid :=
  OpenClaim.holds_of_wide 5 Try.f5 rfl rfl rfl rfl rfl rfl rfl ⟨rfl, rfl, rfl, rfl, rfl⟩ rfl rfl rfl rfl rfl (by kernel_rfl) Try.func5 (by kernel_rfl)
    (of_decide_eq_true (by kernel_rfl)) (by unfold Func.isWrapper; first | (rw [if_pos (by decide +kernel)]; kernel_rfl) | (rw [if_neg (by decide +kernel)]; exact ⟨rfl, rfl⟩))
    (fun os started H enc _ => lifted os started H enc)
#print axioms proved
end Go.Proofs.Ytebeeeillflflaa.fuseAnew
