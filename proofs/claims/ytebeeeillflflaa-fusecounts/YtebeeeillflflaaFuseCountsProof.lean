/-
  switchback's FuseCounts: armed with some calls, just as many are borne, and none behind them; reset, any are. For every input the call returns true, and each argument reads afterwards as it read before. No condition.
-/
import Derived.Test.YtebeeeillflflaaLift
import Derived.Deep.LoopGhost
namespace Go.Proofs.Ytebeeeillflflaa.fuseCounts
open Go.ChangeShapes Go.WideShapes Go.ChangeAt Go.RowKit
set_option linter.unusedVariables false

set_option maxHeartbeats 1000000 in
theorem walk_out0 (a n z : Int) (w : World) (e0 : decide (a < 0) = true) : Calls Try.prog 4 #[.int .i64 a, .int .i64 n, .int .i64 z] w (Holds w) := by
  go_enter Try.func4, Try.ntmps4
  go_wp2_with fail
  refine (new_any _).mono ?_
  rintro e w1 ⟨b, rfl, hg, hz, hb⟩
  have HB := Lib.hid hb
  have HZ := Lib.hid hz
  have HG := Lib.hid (Nat.le_of_eq hg)
  clear hz hb hg
  go_wp2_with fail
  refine (awake_yes _).mono ?_
  rintro e w2 ⟨rfl, hb2⟩
  have HB2 := Lib.hid (HB.out.trans (hb2.mono HB.out.size))
  have HZ2 := Lib.hid (HZ.out.under hb2 HZ.out.lt)
  clear hb2 HB HZ
  clear HZ2 HG
  go_wp2_with fail
  refine (awake_yes _).mono ?_
  rintro e w3 ⟨rfl, hb3⟩
  go_wp2
  go_ret
  exact ⟨rfl, HB2.out.trans (hb3.mono HB2.out.size)⟩

set_option maxHeartbeats 1000000 in
theorem walk_out1 (a n z : Int) (w : World) (e0 : decide (a < 0) = false) (e1 : decide (300 < a) = true) : Calls Try.prog 4 #[.int .i64 a, .int .i64 n, .int .i64 z] w (Holds w) := by
  go_enter Try.func4, Try.ntmps4
  go_wp2_with fail
  refine (new_any _).mono ?_
  rintro e w1 ⟨b, rfl, hg, hz, hb⟩
  have HB := Lib.hid hb
  have HZ := Lib.hid hz
  have HG := Lib.hid (Nat.le_of_eq hg)
  clear hz hb hg
  go_wp2_with fail
  refine (awake_yes _).mono ?_
  rintro e w2 ⟨rfl, hb2⟩
  have HB2 := Lib.hid (HB.out.trans (hb2.mono HB.out.size))
  have HZ2 := Lib.hid (HZ.out.under hb2 HZ.out.lt)
  clear hb2 HB HZ
  clear HZ2 HG
  go_wp2_with fail
  refine (awake_yes _).mono ?_
  rintro e w3 ⟨rfl, hb3⟩
  go_wp2
  go_ret
  exact ⟨rfl, HB2.out.trans (hb3.mono HB2.out.size)⟩

set_option maxHeartbeats 1000000 in
theorem walk_out2 (a n z : Int) (w : World) (e0 : decide (a < 0) = false) (e1 : decide (300 < a) = false) (e2 : decide (300 < n) = true) : Calls Try.prog 4 #[.int .i64 a, .int .i64 n, .int .i64 z] w (Holds w) := by
  go_enter Try.func4, Try.ntmps4
  go_wp2_with fail
  refine (new_any _).mono ?_
  rintro e w1 ⟨b, rfl, hg, hz, hb⟩
  have HB := Lib.hid hb
  have HZ := Lib.hid hz
  have HG := Lib.hid (Nat.le_of_eq hg)
  clear hz hb hg
  go_wp2_with fail
  refine (awake_yes _).mono ?_
  rintro e w2 ⟨rfl, hb2⟩
  have HB2 := Lib.hid (HB.out.trans (hb2.mono HB.out.size))
  have HZ2 := Lib.hid (HZ.out.under hb2 HZ.out.lt)
  clear hb2 HB HZ
  clear HZ2 HG
  go_wp2_with fail
  refine (awake_yes _).mono ?_
  rintro e w3 ⟨rfl, hb3⟩
  go_wp2
  go_ret
  exact ⟨rfl, HB2.out.trans (hb3.mono HB2.out.size)⟩

set_option maxHeartbeats 1000000 in
theorem walk_out3 (a n z : Int) (w : World) (e0 : decide (a < 0) = false) (e1 : decide (300 < a) = false) (e2 : decide (300 < n) = false) (e3 : decide (z < 0) = true) : Calls Try.prog 4 #[.int .i64 a, .int .i64 n, .int .i64 z] w (Holds w) := by
  go_enter Try.func4, Try.ntmps4
  go_wp2_with fail
  refine (new_any _).mono ?_
  rintro e w1 ⟨b, rfl, hg, hz, hb⟩
  have HB := Lib.hid hb
  have HZ := Lib.hid hz
  have HG := Lib.hid (Nat.le_of_eq hg)
  clear hz hb hg
  go_wp2_with fail
  refine (awake_yes _).mono ?_
  rintro e w2 ⟨rfl, hb2⟩
  have HB2 := Lib.hid (HB.out.trans (hb2.mono HB.out.size))
  have HZ2 := Lib.hid (HZ.out.under hb2 HZ.out.lt)
  clear hb2 HB HZ
  clear HZ2 HG
  go_wp2_with fail
  refine (awake_yes _).mono ?_
  rintro e w3 ⟨rfl, hb3⟩
  go_wp2
  go_ret
  exact ⟨rfl, HB2.out.trans (hb3.mono HB2.out.size)⟩

set_option maxHeartbeats 1000000 in
theorem walk_out4 (a n z : Int) (w : World) (e0 : decide (a < 0) = false) (e1 : decide (300 < a) = false) (e2 : decide (300 < n) = false) (e3 : decide (z < 0) = false) (e4 : decide (300 < z) = true) : Calls Try.prog 4 #[.int .i64 a, .int .i64 n, .int .i64 z] w (Holds w) := by
  go_enter Try.func4, Try.ntmps4
  go_wp2_with fail
  refine (new_any _).mono ?_
  rintro e w1 ⟨b, rfl, hg, hz, hb⟩
  have HB := Lib.hid hb
  have HZ := Lib.hid hz
  have HG := Lib.hid (Nat.le_of_eq hg)
  clear hz hb hg
  go_wp2_with fail
  refine (awake_yes _).mono ?_
  rintro e w2 ⟨rfl, hb2⟩
  have HB2 := Lib.hid (HB.out.trans (hb2.mono HB.out.size))
  have HZ2 := Lib.hid (HZ.out.under hb2 HZ.out.lt)
  clear hb2 HB HZ
  clear HZ2 HG
  go_wp2_with fail
  refine (awake_yes _).mono ?_
  rintro e w3 ⟨rfl, hb3⟩
  go_wp2
  go_ret
  exact ⟨rfl, HB2.out.trans (hb3.mono HB2.out.size)⟩

set_option maxHeartbeats 2000000 in
theorem walk_pos (a z : Nat) (m : Nat) (hm : m ≤ 300) (w : World) (ha : a ≤ 300) (hz : z ≤ 300) : Calls Try.prog 4 #[.int .i64 (a : Int), .int .i64 ((m : Nat) : Int), .int .i64 (z : Int)] w (Holds w) := by
  have e0 : decide ((a : Int) < 0) = false := by simp
  have e1 : decide (300 < (a : Int)) = false := by simp; omega
  have e2 : decide (300 < ((m : Nat) : Int)) = false := by simp; omega
  have e3 : decide ((z : Int) < 0) = false := by simp
  have e4 : decide (300 < (z : Int)) = false := by simp; omega
  go_enter Try.func4, Try.ntmps4
  go_wp2_with fail
  refine (new_any _).mono ?_
  rintro e w1 ⟨b, rfl, hg, hz, hb⟩
  have HB := Lib.hid hb
  have HZ := Lib.hid hz
  have HG := Lib.hid (Nat.le_of_eq hg)
  clear hz hb hg
  go_wp2_with fail
  refine (awake_yes _).mono ?_
  rintro e w2 ⟨rfl, hb2⟩
  have HB2 := Lib.hid (HB.out.trans (hb2.mono HB.out.size))
  have HZ2 := Lib.hid (HZ.out.under hb2 HZ.out.lt)
  clear hb2 HB HZ
  go_wp2
  go_loopg [37] a (fun g i wr => ∃ k : Nat, Hid (g = a - k) ∧ k ≤ a ∧ i = .int .i64 k ∧ Hid (Fz wr b 37 ⟨false, 0, false, k⟩) ∧ Hid (Below w.heap.size w wr))
  case atStart => exact ⟨0, Lib.hid rfl, Nat.zero_le _, rfl, HZ2, HB2⟩
  case round =>
    obtain ⟨k, HK, hk, rfl, HZ, HB⟩ := hrel
    by_cases hlt : k < a
    · go_wp2_with fail
      refine (spend_free b _ _ _ _ (by omega) (by omega) HZ.out).mono ?_
      rintro e w3 ⟨rfl, hz', ho⟩
      have HZ3 := Lib.hid hz'
      have HB3 := Lib.hid (ho.below HB.out HG.out)
      clear hz' ho HZ HB
      go_wp2
      go_roundg (a - (k + 1))
      case measure => have := HK.out; omega
      case rel => exact ⟨k + 1, Lib.hid rfl, by omega, by go_num, HZ3, HB3⟩
    · obtain rfl : k = a := by omega
      clear hlt hk HK
      go_wp2_with fail
      refine (arm_any b _ _ _ HZ.out).mono ?_
      rintro e w3 ⟨rfl, hz', ho⟩
      have HZ3 := Lib.hid hz'
      have HB3 := Lib.hid (ho.below HB.out HG.out)
      clear hz' ho HZ HB
      go_wp2
      go_loopg [48] m (fun g i wr => ∃ (j : Nat) (l c : Int), Hid (g = m - j) ∧ j ≤ m ∧ i = .int .i64 j ∧ Hid (l = (m : Int) - j) ∧ Hid (c = (k : Int) + j) ∧ Hid (Fz wr b 37 ⟨true, l, false, c⟩) ∧ Hid (Below w.heap.size w wr))
      case atStart => exact ⟨0, _, _, Lib.hid rfl, Nat.zero_le _, rfl, Lib.hid (by omega), Lib.hid (by simp), HZ3, HB3⟩
      case round =>
        obtain ⟨j, l, c, HJ, hj, rfl, HL, HC, HZ, HB⟩ := hrel
        have hj' : j ≤ m := hj
        by_cases hlt : j < m
        · have hl1 : 1 ≤ l := by have := HL.out; omega
          have hl2 : l ≤ 300 := by have := HL.out; omega
          have hc1 : 0 ≤ c := by have := HC.out; omega
          have hc2 : c < 1000 := by have := HC.out; omega
          go_wp2_with fail
          refine (blown_any b _ _ HZ.out).mono ?_
          rintro e w' ⟨rfl, rfl⟩
          go_wp2_with fail
          refine (spend_some b _ _ _ _ hl1 (by omega) hc1 (by omega) HZ.out).mono ?_
          rintro e w4 ⟨rfl, hz', ho⟩
          have HZ4 := Lib.hid hz'
          have HB4 := Lib.hid (ho.below HB.out HG.out)
          clear hz' ho HZ HB
          go_wp2
          go_roundg (m - (j + 1))
          case measure => have := HJ.out; omega
          case rel => exact ⟨j + 1, l - 1, c + 1, Lib.hid rfl, by omega, by go_num, Lib.hid (by have := HL.out; omega), Lib.hid (by have := HC.out; omega), HZ4, HB4⟩
        · obtain rfl : j = m := by omega
          have hl0 : l = 0 := by have := HL.out; omega
          subst hl0
          clear hlt hj hj' HJ HL
          go_wp2
          go_loopg [59] z (fun g i wr => ∃ (q : Nat) (bl : Bool), Hid (g = z - q) ∧ q ≤ z ∧ i = .int .i64 q ∧ Hid (Fz wr b 37 ⟨true, 0, bl, c⟩) ∧ Hid (Below w.heap.size w wr))
          case atStart => exact ⟨0, false, Lib.hid rfl, Nat.zero_le _, rfl, HZ, HB⟩
          case round =>
            obtain ⟨q, bl, HQ, hq, rfl, HZ, HB⟩ := hrel
            by_cases hlt : q < z
            · go_wp2_with fail
              refine (spend_no b _ _ _ HZ.out).mono ?_
              rintro e w4 ⟨rfl, hz', ho⟩
              have HZ4 := Lib.hid hz'
              have HB4 := Lib.hid (ho.below HB.out HG.out)
              clear hz' ho HZ HB
              go_wp2_with fail
              refine (blown_any b _ _ HZ4.out).mono ?_
              rintro e w' ⟨rfl, rfl⟩
              go_wp2
              go_roundg (z - (q + 1))
              case measure => have := HQ.out; omega
              case rel => exact ⟨q + 1, true, Lib.hid rfl, by omega, by go_num, HZ4, HB4⟩
            · obtain rfl : q = z := by omega
              clear hlt hq HQ
              have hc : c = (k : Int) + j := by have := HC.out; omega
              subst hc
              clear HC
              go_wp2_with fail
              refine (count_any b _ _ HZ.out).mono ?_
              rintro e w' ⟨rfl, rfl⟩
              go_wp2_with fail
              refine (reset_any b _ _ HZ.out).mono ?_
              rintro e w4 ⟨rfl, hz', ho⟩
              have HZ4 := Lib.hid hz'
              have HB4 := Lib.hid (ho.below HB.out HG.out)
              clear hz' ho HZ HB
              go_wp2_with fail
              refine (spend_free b _ _ _ _ (by first | omega | (simp; omega) | simp) (by first | omega | (simp; omega)) HZ4.out).mono ?_
              rintro e w5 ⟨rfl, hz', ho⟩
              have HZ5 := Lib.hid hz'
              have HB5 := Lib.hid (ho.below HB4.out HG.out)
              clear hz' ho HZ4 HB4
              go_wp2_with fail
              refine (blown_any b _ _ HZ5.out).mono ?_
              rintro e w' ⟨rfl, rfl⟩
              go_wp2
              go_ret
              exact ⟨rfl, HB5.out⟩

set_option maxHeartbeats 2000000 in
theorem walk_neg (a z : Nat) (n : Int) (hn : n < 0) (w : World) (ha : a ≤ 300) (hz : z ≤ 300) : Calls Try.prog 4 #[.int .i64 (a : Int), .int .i64 n, .int .i64 (z : Int)] w (Holds w) := by
  have e0 : decide ((a : Int) < 0) = false := by simp
  have e1 : decide (300 < (a : Int)) = false := by simp; omega
  have e2 : decide (300 < n) = false := by simp; omega
  have e3 : decide ((z : Int) < 0) = false := by simp
  have e4 : decide (300 < (z : Int)) = false := by simp; omega
  go_enter Try.func4, Try.ntmps4
  go_wp2_with fail
  refine (new_any _).mono ?_
  rintro e w1 ⟨b, rfl, hg, hz, hb⟩
  have HB := Lib.hid hb
  have HZ := Lib.hid hz
  have HG := Lib.hid (Nat.le_of_eq hg)
  clear hz hb hg
  go_wp2_with fail
  refine (awake_yes _).mono ?_
  rintro e w2 ⟨rfl, hb2⟩
  have HB2 := Lib.hid (HB.out.trans (hb2.mono HB.out.size))
  have HZ2 := Lib.hid (HZ.out.under hb2 HZ.out.lt)
  clear hb2 HB HZ
  go_wp2
  go_loopg [37] a (fun g i wr => ∃ k : Nat, Hid (g = a - k) ∧ k ≤ a ∧ i = .int .i64 k ∧ Hid (Fz wr b 37 ⟨false, 0, false, k⟩) ∧ Hid (Below w.heap.size w wr))
  case atStart => exact ⟨0, Lib.hid rfl, Nat.zero_le _, rfl, HZ2, HB2⟩
  case round =>
    obtain ⟨k, HK, hk, rfl, HZ, HB⟩ := hrel
    by_cases hlt : k < a
    · go_wp2_with fail
      refine (spend_free b _ _ _ _ (by omega) (by omega) HZ.out).mono ?_
      rintro e w3 ⟨rfl, hz', ho⟩
      have HZ3 := Lib.hid hz'
      have HB3 := Lib.hid (ho.below HB.out HG.out)
      clear hz' ho HZ HB
      go_wp2
      go_roundg (a - (k + 1))
      case measure => have := HK.out; omega
      case rel => exact ⟨k + 1, Lib.hid rfl, by omega, by go_num, HZ3, HB3⟩
    · obtain rfl : k = a := by omega
      clear hlt hk HK
      go_wp2_with fail
      refine (arm_any b _ _ _ HZ.out).mono ?_
      rintro e w3 ⟨rfl, hz', ho⟩
      have HZ3 := Lib.hid hz'
      have HB3 := Lib.hid (ho.below HB.out HG.out)
      clear hz' ho HZ HB
      go_wp2
      go_loopg [48] 0 (fun g i wr => ∃ (j : Nat) (l c : Int), Hid (g = 0 - j) ∧ j ≤ 0 ∧ i = .int .i64 j ∧ Hid (l = (0 : Int) - j) ∧ Hid (c = (k : Int) + j) ∧ Hid (Fz wr b 37 ⟨true, l, false, c⟩) ∧ Hid (Below w.heap.size w wr))
      case atStart => exact ⟨0, _, _, Lib.hid rfl, Nat.zero_le _, rfl, Lib.hid (by omega), Lib.hid (by simp), HZ3, HB3⟩
      case round =>
        obtain ⟨j, l, c, HJ, hj, rfl, HL, HC, HZ, HB⟩ := hrel
        have hj' : j ≤ 0 := hj
        by_cases hlt : j < 0
        · exact absurd hlt (Nat.not_lt_zero _)
        · obtain rfl : j = 0 := by omega
          have hl0 : l = 0 := by have := HL.out; omega
          subst hl0
          clear hlt hj hj' HJ HL
          go_wp2
          go_loopg [59] z (fun g i wr => ∃ (q : Nat) (bl : Bool), Hid (g = z - q) ∧ q ≤ z ∧ i = .int .i64 q ∧ Hid (Fz wr b 37 ⟨true, 0, bl, c⟩) ∧ Hid (Below w.heap.size w wr))
          case atStart => exact ⟨0, false, Lib.hid rfl, Nat.zero_le _, rfl, HZ, HB⟩
          case round =>
            obtain ⟨q, bl, HQ, hq, rfl, HZ, HB⟩ := hrel
            by_cases hlt : q < z
            · go_wp2_with fail
              refine (spend_no b _ _ _ HZ.out).mono ?_
              rintro e w4 ⟨rfl, hz', ho⟩
              have HZ4 := Lib.hid hz'
              have HB4 := Lib.hid (ho.below HB.out HG.out)
              clear hz' ho HZ HB
              go_wp2_with fail
              refine (blown_any b _ _ HZ4.out).mono ?_
              rintro e w' ⟨rfl, rfl⟩
              go_wp2
              go_roundg (z - (q + 1))
              case measure => have := HQ.out; omega
              case rel => exact ⟨q + 1, true, Lib.hid rfl, by omega, by go_num, HZ4, HB4⟩
            · obtain rfl : q = z := by omega
              clear hlt hq HQ
              have hc : c = (k : Int) := by have := HC.out; omega
              subst hc
              clear HC
              go_wp2_with fail
              refine (count_any b _ _ HZ.out).mono ?_
              rintro e w' ⟨rfl, rfl⟩
              go_wp2_with fail
              refine (reset_any b _ _ HZ.out).mono ?_
              rintro e w4 ⟨rfl, hz', ho⟩
              have HZ4 := Lib.hid hz'
              have HB4 := Lib.hid (ho.below HB.out HG.out)
              clear hz' ho HZ HB
              go_wp2_with fail
              refine (spend_free b _ _ _ _ (by first | omega | (simp; omega) | simp) (by first | omega | (simp; omega)) HZ4.out).mono ?_
              rintro e w5 ⟨rfl, hz', ho⟩
              have HZ5 := Lib.hid hz'
              have HB5 := Lib.hid (ho.below HB4.out HG.out)
              clear hz' ho HZ4 HB4
              go_wp2_with fail
              refine (blown_any b _ _ HZ5.out).mono ?_
              rintro e w' ⟨rfl, rfl⟩
              go_wp2
              go_ret
              exact ⟨rfl, HB5.out⟩

theorem walk (a n z : Int) (w : World) : Calls Try.prog 4 #[.int .i64 a, .int .i64 n, .int .i64 z] w (Holds w) := by
  cases e0 : decide (a < 0) with
  | true => exact walk_out0 a n z w e0
  | false =>
  cases e1 : decide (300 < a) with
  | true => exact walk_out1 a n z w e0 e1
  | false =>
  cases e2 : decide (300 < n) with
  | true => exact walk_out2 a n z w e0 e1 e2
  | false =>
  cases e3 : decide (z < 0) with
  | true => exact walk_out3 a n z w e0 e1 e2 e3
  | false =>
  cases e4 : decide (300 < z) with
  | true => exact walk_out4 a n z w e0 e1 e2 e3 e4
  | false =>
  simp only [decide_eq_false_iff_not] at e0 e1 e2 e3 e4
  obtain ⟨a', rfl⟩ := Int.eq_ofNat_of_zero_le (show 0 ≤ a by omega)
  obtain ⟨z', rfl⟩ := Int.eq_ofNat_of_zero_le (show 0 ≤ z by omega)
  by_cases hn : n < 0
  · exact walk_neg a' z' n hn w (by omega) (by omega)
  · obtain ⟨m, rfl⟩ := Int.eq_ofNat_of_zero_le (show 0 ≤ n by omega)
    exact walk_pos a' z' m (by omega) w (by omega) (by omega)

/-! From the walk to the given row. -/
set_option maxRecDepth 100000 in
theorem lifted (os : Os) (started : os.Started) (H : Type) (enc : TypeId × Value → H) :
    ReturnsInHanded {} Try.checked os 4 .any (Rows.fuseCountsSpec.pre6 enc Try.prog Try.f4 Rows.fuseCountsRow.domain false) (Rows.fuseCountsSpec.post enc Try.prog Try.f4 false true false false) := by
  refine returnsInHanded_of_change (C := Try.checked) t_own started (by kernel_rfl) Try.func4
    (ChangeSpec.witness6 (enc := enc) (C := Try.checked) false ⟨#[], #[.int .i64 0, .int .i64 0, .int .i64 0], []⟩ 8 (by kernel_rfl) (by kernel_rfl) (by kernel_rfl) (by kernel_rfl)) ?_
  intro W base args ds gs before hval0 hW hcnd _
  have hval : ∀ (j : Nat) t v, Try.f4.params[j]? = some t → args[j]? = some v → Value.okWide Try.prog W .any base t v := hval0
  have hW' := hW
  obtain ⟨p, q, hA0, hV, rfl, hfz, hnd⟩ := hW
  have hA : DataW.TrodAll enc Try.prog W 0 (fun _ => true) true Try.f4.params.toList args.toList ds p := hA0
  rw [Try.params4] at hA hval
  obtain ⟨v0, vs0, d0, ds0, p0, q0, hargs, rfl, rfl, h0, r0⟩ := trodAll_cons hA
  obtain ⟨v1, vs1, d1, ds1, p1, q1, rfl, rfl, rfl, h1, r1⟩ := trodAll_cons r0
  obtain ⟨v2, vs2, d2, ds2, p2, q2, rfl, rfl, rfl, h2, r2⟩ := trodAll_cons r1
  obtain ⟨rfl, rfl, rfl⟩ := trodAll_nil r2
  obtain rfl : args = #[v0, v1, v2] := by cases args; simp_all
  obtain ⟨a0, rfl, rfl, rfl, w0⟩ := open_int Try.underlying3 (hval 0 3 v0 rfl rfl) h0
  obtain ⟨a1, rfl, rfl, rfl, w1⟩ := open_int Try.underlying3 (hval 1 3 v1 rfl rfl) h1
  obtain ⟨a2, rfl, rfl, rfl, w2⟩ := open_int Try.underlying3 (hval 2 3 v2 rfl rfl) h2
  refine (walk a0 a1 a2 W).mono fun e W' ⟨he, hb⟩ => ?_
  subst he
  exact ⟨_, rfl, post_of_holds hW' (by kernel_rfl) rfl (by rw [Try.params4]; exact fun t ht => params_ok t (by simp at ht; rcases ht with rfl <;> simp)) ⟨rfl, rfl, rfl⟩ hb⟩

/-- The given statement. -/
theorem proved : Rows.FuseCountsSaid :=
  OpenClaim.holds_of_wide 4 Try.f4 rfl rfl rfl rfl rfl rfl rfl ⟨rfl, rfl, rfl, rfl, rfl⟩ rfl rfl rfl rfl rfl (by kernel_rfl) Try.func4 (by kernel_rfl)
    (of_decide_eq_true (by kernel_rfl)) (by unfold Func.isWrapper; first | (rw [if_pos (by decide +kernel)]; kernel_rfl) | (rw [if_neg (by decide +kernel)]; exact ⟨rfl, rfl⟩))
    (fun os started H enc _ => lifted os started H enc)
#print axioms proved
end Go.Proofs.Ytebeeeillflflaa.fuseCounts
