/-
  What the document's own Right answers, where slot 0 is active.
-/
import Derived.Test.YtchaeidmjoelnaaStSpec
namespace Go.Proofs.Ytchaeidmjoelnaa
open Go.RowKit

set_option maxRecDepth 100000 in
set_option maxHeartbeats 8000000 in
theorem mright_0 (ph r0 r1 w0 w1 dl gn sw fl : Int) (p0 p1 : Bool) (cs : Array Value) (w : World) (hcs : cs = stC ⟨ph, 0, r0, r1, w0, w1, p0, p1, dl, gn, sw, fl⟩) : Calls Try.prog 14 #[.agg cs] w fun e w' => e = .returned (.bool (rightS ⟨ph, 0, r0, r1, w0, w1, p0, p1, dl, gn, sw, fl⟩)) ∧ Below w.heap.size w w' := by
  have HC := Lib.hid hcs
  clear hcs
  go_enter Try.func14, Try.ntmps14
  go_upto_region 1 with (fail)
  refine name_w (fun W => Rw W w.heap.size cs 38 ∧ Below w.heap.size w W) ⟨Rw.new _ _ _, (Below.refl _ _).alloc (Nat.le_refl _) _⟩ ?_
  rintro W ⟨hR, hb⟩
  have HB := Lib.hid hb
  have HR := Lib.hid hR
  have c0 : W.cell? ⟨w.heap.size, 0, none⟩ = some (.int .i64 ph) := by rw [hR.cell 0, HC.out]; rfl
  have c1 : W.cell? ⟨w.heap.size, 1, none⟩ = some (.int .i64 0) := by rw [hR.cell 1, HC.out]; rfl
  have c2 : W.cell? ⟨w.heap.size, 2, none⟩ = some (.int .i64 r0) := by rw [hR.cell 2, HC.out]; rfl
  have c3 : W.cell? ⟨w.heap.size, 3, none⟩ = some (.int .i64 r1) := by rw [hR.cell 3, HC.out]; rfl
  have c4 : W.cell? ⟨w.heap.size, 4, none⟩ = some (.int .i64 w0) := by rw [hR.cell 4, HC.out]; rfl
  have c5 : W.cell? ⟨w.heap.size, 5, none⟩ = some (.int .i64 w1) := by rw [hR.cell 5, HC.out]; rfl
  have c6 : W.cell? ⟨w.heap.size, 6, none⟩ = some (.bool p0) := by rw [hR.cell 6, HC.out]; rfl
  have c7 : W.cell? ⟨w.heap.size, 7, none⟩ = some (.bool p1) := by rw [hR.cell 7, HC.out]; rfl
  have c8 : W.cell? ⟨w.heap.size, 8, none⟩ = some (.int .i64 dl) := by rw [hR.cell 8, HC.out]; rfl
  have c9 : W.cell? ⟨w.heap.size, 9, none⟩ = some (.int .i64 gn) := by rw [hR.cell 9, HC.out]; rfl
  have c10 : W.cell? ⟨w.heap.size, 10, none⟩ = some (.int .i64 sw) := by rw [hR.cell 10, HC.out]; rfl
  have c11 : W.cell? ⟨w.heap.size, 11, none⟩ = some (.int .i64 fl) := by rw [hR.cell 11, HC.out]; rfl
  clear hR hb
  by_cases h1 : ph < 0
  case pos =>
    have e1 : decide (ph < 0) = true := by simpa using h1
    have HE : Hid (rightS ⟨ph, 0, r0, r1, w0, w1, p0, p1, dl, gn, sw, fl⟩ = false) := Lib.hid (by rw [show rightS ⟨ph, 0, r0, r1, w0, w1, p0, p1, dl, gn, sw, fl⟩ = decide (RightX ph r0 w0 p0 r1 w1 p1 dl gn sw fl) from rfl, decide_eq_false_iff_not]; intro hx; unfold RightX at hx; omega)
    clear h1
    go_wp2
    go_ret
    exact ⟨by rw [HE.out]; rfl, HB.out⟩
  have e1 : decide (ph < 0) = false := by simpa using h1
  by_cases h2 : 7 < ph
  case pos =>
    have e2 : decide (7 < ph) = true := by simpa using h2
    have HE : Hid (rightS ⟨ph, 0, r0, r1, w0, w1, p0, p1, dl, gn, sw, fl⟩ = false) := Lib.hid (by rw [show rightS ⟨ph, 0, r0, r1, w0, w1, p0, p1, dl, gn, sw, fl⟩ = decide (RightX ph r0 w0 p0 r1 w1 p1 dl gn sw fl) from rfl, decide_eq_false_iff_not]; intro hx; unfold RightX at hx; omega)
    clear h2
    go_wp2
    go_ret
    exact ⟨by rw [HE.out]; rfl, HB.out⟩
  have e2 : decide (7 < ph) = false := by simpa using h2
  by_cases h3 : dl < 0
  case pos =>
    have e3 : decide (dl < 0) = true := by simpa using h3
    have HE : Hid (rightS ⟨ph, 0, r0, r1, w0, w1, p0, p1, dl, gn, sw, fl⟩ = false) := Lib.hid (by rw [show rightS ⟨ph, 0, r0, r1, w0, w1, p0, p1, dl, gn, sw, fl⟩ = decide (RightX ph r0 w0 p0 r1 w1 p1 dl gn sw fl) from rfl, decide_eq_false_iff_not]; intro hx; unfold RightX at hx; omega)
    clear h3
    go_wp2
    go_ret
    exact ⟨by rw [HE.out]; rfl, HB.out⟩
  have e3 : decide (dl < 0) = false := by simpa using h3
  by_cases h4 : 65536 < dl
  case pos =>
    have e4 : decide (65536 < dl) = true := by simpa using h4
    have HE : Hid (rightS ⟨ph, 0, r0, r1, w0, w1, p0, p1, dl, gn, sw, fl⟩ = false) := Lib.hid (by rw [show rightS ⟨ph, 0, r0, r1, w0, w1, p0, p1, dl, gn, sw, fl⟩ = decide (RightX ph r0 w0 p0 r1 w1 p1 dl gn sw fl) from rfl, decide_eq_false_iff_not]; intro hx; unfold RightX at hx; omega)
    clear h4
    go_wp2
    go_ret
    exact ⟨by rw [HE.out]; rfl, HB.out⟩
  have e4 : decide (65536 < dl) = false := by simpa using h4
  by_cases h5 : gn < 0
  case pos =>
    have e5 : decide (gn < 0) = true := by simpa using h5
    have HE : Hid (rightS ⟨ph, 0, r0, r1, w0, w1, p0, p1, dl, gn, sw, fl⟩ = false) := Lib.hid (by rw [show rightS ⟨ph, 0, r0, r1, w0, w1, p0, p1, dl, gn, sw, fl⟩ = decide (RightX ph r0 w0 p0 r1 w1 p1 dl gn sw fl) from rfl, decide_eq_false_iff_not]; intro hx; unfold RightX at hx; omega)
    clear h5
    go_wp2
    go_ret
    exact ⟨by rw [HE.out]; rfl, HB.out⟩
  have e5 : decide (gn < 0) = false := by simpa using h5
  by_cases h6 : 1048576 < gn
  case pos =>
    have e6 : decide (1048576 < gn) = true := by simpa using h6
    have HE : Hid (rightS ⟨ph, 0, r0, r1, w0, w1, p0, p1, dl, gn, sw, fl⟩ = false) := Lib.hid (by rw [show rightS ⟨ph, 0, r0, r1, w0, w1, p0, p1, dl, gn, sw, fl⟩ = decide (RightX ph r0 w0 p0 r1 w1 p1 dl gn sw fl) from rfl, decide_eq_false_iff_not]; intro hx; unfold RightX at hx; omega)
    clear h6
    go_wp2
    go_ret
    exact ⟨by rw [HE.out]; rfl, HB.out⟩
  have e6 : decide (1048576 < gn) = false := by simpa using h6
  by_cases h7 : sw < 0
  case pos =>
    have e7 : decide (sw < 0) = true := by simpa using h7
    have HE : Hid (rightS ⟨ph, 0, r0, r1, w0, w1, p0, p1, dl, gn, sw, fl⟩ = false) := Lib.hid (by rw [show rightS ⟨ph, 0, r0, r1, w0, w1, p0, p1, dl, gn, sw, fl⟩ = decide (RightX ph r0 w0 p0 r1 w1 p1 dl gn sw fl) from rfl, decide_eq_false_iff_not]; intro hx; unfold RightX at hx; omega)
    clear h7
    go_wp2
    go_ret
    exact ⟨by rw [HE.out]; rfl, HB.out⟩
  have e7 : decide (sw < 0) = false := by simpa using h7
  by_cases h8 : 2 < sw
  case pos =>
    have e8 : decide (2 < sw) = true := by simpa using h8
    have HE : Hid (rightS ⟨ph, 0, r0, r1, w0, w1, p0, p1, dl, gn, sw, fl⟩ = false) := Lib.hid (by rw [show rightS ⟨ph, 0, r0, r1, w0, w1, p0, p1, dl, gn, sw, fl⟩ = decide (RightX ph r0 w0 p0 r1 w1 p1 dl gn sw fl) from rfl, decide_eq_false_iff_not]; intro hx; unfold RightX at hx; omega)
    clear h8
    go_wp2
    go_ret
    exact ⟨by rw [HE.out]; rfl, HB.out⟩
  have e8 : decide (2 < sw) = false := by simpa using h8
  by_cases h9 : fl < 0
  case pos =>
    have e9 : decide (fl < 0) = true := by simpa using h9
    have HE : Hid (rightS ⟨ph, 0, r0, r1, w0, w1, p0, p1, dl, gn, sw, fl⟩ = false) := Lib.hid (by rw [show rightS ⟨ph, 0, r0, r1, w0, w1, p0, p1, dl, gn, sw, fl⟩ = decide (RightX ph r0 w0 p0 r1 w1 p1 dl gn sw fl) from rfl, decide_eq_false_iff_not]; intro hx; unfold RightX at hx; omega)
    clear h9
    go_wp2
    go_ret
    exact ⟨by rw [HE.out]; rfl, HB.out⟩
  have e9 : decide (fl < 0) = false := by simpa using h9
  by_cases h10 : 1073741824 < fl
  case pos =>
    have e10 : decide (1073741824 < fl) = true := by simpa using h10
    have HE : Hid (rightS ⟨ph, 0, r0, r1, w0, w1, p0, p1, dl, gn, sw, fl⟩ = false) := Lib.hid (by rw [show rightS ⟨ph, 0, r0, r1, w0, w1, p0, p1, dl, gn, sw, fl⟩ = decide (RightX ph r0 w0 p0 r1 w1 p1 dl gn sw fl) from rfl, decide_eq_false_iff_not]; intro hx; unfold RightX at hx; omega)
    clear h10
    go_wp2
    go_ret
    exact ⟨by rw [HE.out]; rfl, HB.out⟩
  have e10 : decide (1073741824 < fl) = false := by simpa using h10
  go_upto_region 3 with (fail)
  clear e1 e2 e3 e4 e5 e6 e7 e8 e9 e10
  go_wp2
  go_loopg [3] 2 (fun g i wr => ∃ k : Nat, Hid (g = 2 - k) ∧ k ≤ 2 ∧ i = .int .i64 k ∧ Hid (1 ≤ k → 0 ≤ r0 ∧ r0 ≤ 1073741824 ∧ 0 ≤ w0 ∧ w0 ≤ 32) ∧ Hid (2 ≤ k → 0 ≤ r1 ∧ r1 ≤ 1073741824 ∧ 0 ≤ w1 ∧ w1 ≤ 32) ∧ wr = W)
  case atStart => exact ⟨0, Lib.hid rfl, Nat.zero_le _, rfl, Lib.hid (fun h => by omega), Lib.hid (fun h => by omega), rfl⟩
  case round =>
    obtain ⟨k, HG, hk, rfl, H1, H2, rfl⟩ := hrel
    match k, hk with
    | 0, _ =>
      by_cases h21 : r0 < 0
      case pos =>
        have e21 : decide (r0 < 0) = true := by simpa using h21
        have HE : Hid (rightS ⟨ph, 0, r0, r1, w0, w1, p0, p1, dl, gn, sw, fl⟩ = false) := Lib.hid (by rw [show rightS ⟨ph, 0, r0, r1, w0, w1, p0, p1, dl, gn, sw, fl⟩ = decide (RightX ph r0 w0 p0 r1 w1 p1 dl gn sw fl) from rfl, decide_eq_false_iff_not]; intro hx; unfold RightX at hx; omega)
        clear h21
        go_wp2
        go_ret
        exact ⟨by rw [HE.out]; rfl, HB.out⟩
      have e21 : decide (r0 < 0) = false := by simpa using h21
      by_cases h22 : 1073741824 < r0
      case pos =>
        have e22 : decide (1073741824 < r0) = true := by simpa using h22
        have HE : Hid (rightS ⟨ph, 0, r0, r1, w0, w1, p0, p1, dl, gn, sw, fl⟩ = false) := Lib.hid (by rw [show rightS ⟨ph, 0, r0, r1, w0, w1, p0, p1, dl, gn, sw, fl⟩ = decide (RightX ph r0 w0 p0 r1 w1 p1 dl gn sw fl) from rfl, decide_eq_false_iff_not]; intro hx; unfold RightX at hx; omega)
        clear h22
        go_wp2
        go_ret
        exact ⟨by rw [HE.out]; rfl, HB.out⟩
      have e22 : decide (1073741824 < r0) = false := by simpa using h22
      by_cases h23 : w0 < 0
      case pos =>
        have e23 : decide (w0 < 0) = true := by simpa using h23
        have HE : Hid (rightS ⟨ph, 0, r0, r1, w0, w1, p0, p1, dl, gn, sw, fl⟩ = false) := Lib.hid (by rw [show rightS ⟨ph, 0, r0, r1, w0, w1, p0, p1, dl, gn, sw, fl⟩ = decide (RightX ph r0 w0 p0 r1 w1 p1 dl gn sw fl) from rfl, decide_eq_false_iff_not]; intro hx; unfold RightX at hx; omega)
        clear h23
        go_wp2
        go_ret
        exact ⟨by rw [HE.out]; rfl, HB.out⟩
      have e23 : decide (w0 < 0) = false := by simpa using h23
      by_cases h24 : 32 < w0
      case pos =>
        have e24 : decide (32 < w0) = true := by simpa using h24
        have HE : Hid (rightS ⟨ph, 0, r0, r1, w0, w1, p0, p1, dl, gn, sw, fl⟩ = false) := Lib.hid (by rw [show rightS ⟨ph, 0, r0, r1, w0, w1, p0, p1, dl, gn, sw, fl⟩ = decide (RightX ph r0 w0 p0 r1 w1 p1 dl gn sw fl) from rfl, decide_eq_false_iff_not]; intro hx; unfold RightX at hx; omega)
        clear h24
        go_wp2
        go_ret
        exact ⟨by rw [HE.out]; rfl, HB.out⟩
      have e24 : decide (32 < w0) = false := by simpa using h24
      go_wp2
      go_roundg (2 - 1)
      case measure => have := HG.out; omega
      case rel => exact ⟨1, Lib.hid rfl, by omega, rfl, Lib.hid (fun _ => by omega), Lib.hid (fun h => by omega), rfl⟩

    | 1, _ =>
      by_cases h21 : r1 < 0
      case pos =>
        have e21 : decide (r1 < 0) = true := by simpa using h21
        have HE : Hid (rightS ⟨ph, 0, r0, r1, w0, w1, p0, p1, dl, gn, sw, fl⟩ = false) := Lib.hid (by rw [show rightS ⟨ph, 0, r0, r1, w0, w1, p0, p1, dl, gn, sw, fl⟩ = decide (RightX ph r0 w0 p0 r1 w1 p1 dl gn sw fl) from rfl, decide_eq_false_iff_not]; intro hx; unfold RightX at hx; omega)
        clear h21
        go_wp2
        go_ret
        exact ⟨by rw [HE.out]; rfl, HB.out⟩
      have e21 : decide (r1 < 0) = false := by simpa using h21
      by_cases h22 : 1073741824 < r1
      case pos =>
        have e22 : decide (1073741824 < r1) = true := by simpa using h22
        have HE : Hid (rightS ⟨ph, 0, r0, r1, w0, w1, p0, p1, dl, gn, sw, fl⟩ = false) := Lib.hid (by rw [show rightS ⟨ph, 0, r0, r1, w0, w1, p0, p1, dl, gn, sw, fl⟩ = decide (RightX ph r0 w0 p0 r1 w1 p1 dl gn sw fl) from rfl, decide_eq_false_iff_not]; intro hx; unfold RightX at hx; omega)
        clear h22
        go_wp2
        go_ret
        exact ⟨by rw [HE.out]; rfl, HB.out⟩
      have e22 : decide (1073741824 < r1) = false := by simpa using h22
      by_cases h23 : w1 < 0
      case pos =>
        have e23 : decide (w1 < 0) = true := by simpa using h23
        have HE : Hid (rightS ⟨ph, 0, r0, r1, w0, w1, p0, p1, dl, gn, sw, fl⟩ = false) := Lib.hid (by rw [show rightS ⟨ph, 0, r0, r1, w0, w1, p0, p1, dl, gn, sw, fl⟩ = decide (RightX ph r0 w0 p0 r1 w1 p1 dl gn sw fl) from rfl, decide_eq_false_iff_not]; intro hx; unfold RightX at hx; omega)
        clear h23
        go_wp2
        go_ret
        exact ⟨by rw [HE.out]; rfl, HB.out⟩
      have e23 : decide (w1 < 0) = false := by simpa using h23
      by_cases h24 : 32 < w1
      case pos =>
        have e24 : decide (32 < w1) = true := by simpa using h24
        have HE : Hid (rightS ⟨ph, 0, r0, r1, w0, w1, p0, p1, dl, gn, sw, fl⟩ = false) := Lib.hid (by rw [show rightS ⟨ph, 0, r0, r1, w0, w1, p0, p1, dl, gn, sw, fl⟩ = decide (RightX ph r0 w0 p0 r1 w1 p1 dl gn sw fl) from rfl, decide_eq_false_iff_not]; intro hx; unfold RightX at hx; omega)
        clear h24
        go_wp2
        go_ret
        exact ⟨by rw [HE.out]; rfl, HB.out⟩
      have e24 : decide (32 < w1) = false := by simpa using h24
      go_wp2
      go_roundg (2 - 2)
      case measure => have := HG.out; omega
      case rel => exact ⟨2, Lib.hid rfl, by omega, rfl, Lib.hid (fun _ => H1.out (by omega)), Lib.hid (fun h => by omega), rfl⟩

    | 2, _ =>
      have G1 := H1.out (by omega)
      have G2 := H2.out (by omega)
      go_upto_region 10 with (fail)
      by_cases k1 : r0 = 0
      case pos =>
        have d1 : (r0 == 0) = true := by simpa using k1
        have HE : Hid (rightS ⟨ph, 0, r0, r1, w0, w1, p0, p1, dl, gn, sw, fl⟩ = false) := Lib.hid (by rw [show rightS ⟨ph, 0, r0, r1, w0, w1, p0, p1, dl, gn, sw, fl⟩ = decide (RightX ph r0 w0 p0 r1 w1 p1 dl gn sw fl) from rfl, decide_eq_false_iff_not]; intro hx; unfold RightX at hx; omega)
        clear k1
        go_wp2
        go_ret
        exact ⟨by rw [HE.out]; rfl, HB.out⟩
      have d1 : (r0 == 0) = false := by simpa using k1
      by_cases k2 : w0 = 0
      case pos =>
        have d2 : (w0 == 0) = true := by simpa using k2
        have HE : Hid (rightS ⟨ph, 0, r0, r1, w0, w1, p0, p1, dl, gn, sw, fl⟩ = false) := Lib.hid (by rw [show rightS ⟨ph, 0, r0, r1, w0, w1, p0, p1, dl, gn, sw, fl⟩ = decide (RightX ph r0 w0 p0 r1 w1 p1 dl gn sw fl) from rfl, decide_eq_false_iff_not]; intro hx; unfold RightX at hx; omega)
        clear k2
        go_wp2
        go_ret
        exact ⟨by rw [HE.out]; rfl, HB.out⟩
      have d2 : (w0 == 0) = false := by simpa using k2
      cases p0
      case false =>
        have HE : Hid (rightS ⟨ph, 0, r0, r1, w0, w1, false, p1, dl, gn, sw, fl⟩ = false) := Lib.hid (by rw [show rightS ⟨ph, 0, r0, r1, w0, w1, false, p1, dl, gn, sw, fl⟩ = decide (RightX ph r0 w0 false r1 w1 p1 dl gn sw fl) from rfl, decide_eq_false_iff_not]; intro hx; unfold RightX at hx; exact absurd hx.2.2.2.1 (by decide))
        go_wp2
        go_ret
        exact ⟨by rw [HE.out]; rfl, HB.out⟩
      go_upto_region 12 with (fail)
      clear d1 d2
      by_cases k3 : ph = 0
      case pos =>
        subst k3
        by_cases k4 : r1 = 0
        case neg =>
          have d4 : (r1 != 0) = true := by simpa using k4
          have HE : Hid (rightS ⟨0, 0, r0, r1, w0, w1, true, p1, dl, gn, sw, fl⟩ = false) := Lib.hid (by rw [show rightS ⟨0, 0, r0, r1, w0, w1, true, p1, dl, gn, sw, fl⟩ = decide (RightX 0 r0 w0 true r1 w1 p1 dl gn sw fl) from rfl, decide_eq_false_iff_not]; intro hx; unfold RightX at hx; omega)
          clear k4
          go_wp2
          go_ret
          exact ⟨by rw [HE.out]; rfl, HB.out⟩
        have d4 : (r1 != 0) = false := by simpa using k4
        by_cases k5 : w1 = 0
        case neg =>
          have d5 : (w1 != 0) = true := by simpa using k5
          have HE : Hid (rightS ⟨0, 0, r0, r1, w0, w1, true, p1, dl, gn, sw, fl⟩ = false) := Lib.hid (by rw [show rightS ⟨0, 0, r0, r1, w0, w1, true, p1, dl, gn, sw, fl⟩ = decide (RightX 0 r0 w0 true r1 w1 p1 dl gn sw fl) from rfl, decide_eq_false_iff_not]; intro hx; unfold RightX at hx; omega)
          clear k5
          go_wp2
          go_ret
          exact ⟨by rw [HE.out]; rfl, HB.out⟩
        have d5 : (w1 != 0) = false := by simpa using k5
        cases p1
        case true =>
          have HE : Hid (rightS ⟨0, 0, r0, r1, w0, w1, true, true, dl, gn, sw, fl⟩ = false) := Lib.hid (by rw [show rightS ⟨0, 0, r0, r1, w0, w1, true, true, dl, gn, sw, fl⟩ = decide (RightX 0 r0 w0 true r1 w1 true dl gn sw fl) from rfl, decide_eq_false_iff_not]; intro hx; exact absurd (hx.2.2.2.2.2.1 rfl) (by decide))
          go_wp2
          go_ret
          exact ⟨by rw [HE.out]; rfl, HB.out⟩
        go_upto_region 14 with (fail)
        clear d4 d5
        go_wp2_with fail
        go_quiet (fail)
        go_upto_region 16 with (fail)
        clear c0 c1 c2 c3 c4 c5 c6 c7 c8 c9 c10 c11
        refine name_w (fun W2 => Rw W2 w.heap.size cs 38 ∧ Below w.heap.size w W2) ⟨HR.out, HB.out.trans (below_drewN _ _ _)⟩ ?_
        clear HR HB
        rintro W3 ⟨hR, hb⟩
        have HB := Lib.hid hb
        have HR := Lib.hid hR
        have c0 : W3.cell? ⟨w.heap.size, 0, none⟩ = some (.int .i64 0) := by rw [hR.cell 0, HC.out]; rfl
        have c1 : W3.cell? ⟨w.heap.size, 1, none⟩ = some (.int .i64 0) := by rw [hR.cell 1, HC.out]; rfl
        have c2 : W3.cell? ⟨w.heap.size, 2, none⟩ = some (.int .i64 r0) := by rw [hR.cell 2, HC.out]; rfl
        have c3 : W3.cell? ⟨w.heap.size, 3, none⟩ = some (.int .i64 r1) := by rw [hR.cell 3, HC.out]; rfl
        have c4 : W3.cell? ⟨w.heap.size, 4, none⟩ = some (.int .i64 w0) := by rw [hR.cell 4, HC.out]; rfl
        have c5 : W3.cell? ⟨w.heap.size, 5, none⟩ = some (.int .i64 w1) := by rw [hR.cell 5, HC.out]; rfl
        have c6 : W3.cell? ⟨w.heap.size, 6, none⟩ = some (.bool true) := by rw [hR.cell 6, HC.out]; rfl
        have c7 : W3.cell? ⟨w.heap.size, 7, none⟩ = some (.bool false) := by rw [hR.cell 7, HC.out]; rfl
        have c8 : W3.cell? ⟨w.heap.size, 8, none⟩ = some (.int .i64 dl) := by rw [hR.cell 8, HC.out]; rfl
        have c9 : W3.cell? ⟨w.heap.size, 9, none⟩ = some (.int .i64 gn) := by rw [hR.cell 9, HC.out]; rfl
        have c10 : W3.cell? ⟨w.heap.size, 10, none⟩ = some (.int .i64 sw) := by rw [hR.cell 10, HC.out]; rfl
        have c11 : W3.cell? ⟨w.heap.size, 11, none⟩ = some (.int .i64 fl) := by rw [hR.cell 11, HC.out]; rfl
        clear hR hb
        go_wp2_with fail
        go_quiet (fail)
        go_upto_region 18 with (fail)
        clear c0 c1 c2 c3 c4 c5 c6 c7 c8 c9 c10 c11
        refine name_w (fun W2 => Rw W2 w.heap.size cs 38 ∧ Below w.heap.size w W2) ⟨HR.out, HB.out.trans (below_drewN _ _ _)⟩ ?_
        clear HR HB
        rintro W4 ⟨hR, hb⟩
        have HB := Lib.hid hb
        have HR := Lib.hid hR
        have c0 : W4.cell? ⟨w.heap.size, 0, none⟩ = some (.int .i64 0) := by rw [hR.cell 0, HC.out]; rfl
        have c1 : W4.cell? ⟨w.heap.size, 1, none⟩ = some (.int .i64 0) := by rw [hR.cell 1, HC.out]; rfl
        have c2 : W4.cell? ⟨w.heap.size, 2, none⟩ = some (.int .i64 r0) := by rw [hR.cell 2, HC.out]; rfl
        have c3 : W4.cell? ⟨w.heap.size, 3, none⟩ = some (.int .i64 r1) := by rw [hR.cell 3, HC.out]; rfl
        have c4 : W4.cell? ⟨w.heap.size, 4, none⟩ = some (.int .i64 w0) := by rw [hR.cell 4, HC.out]; rfl
        have c5 : W4.cell? ⟨w.heap.size, 5, none⟩ = some (.int .i64 w1) := by rw [hR.cell 5, HC.out]; rfl
        have c6 : W4.cell? ⟨w.heap.size, 6, none⟩ = some (.bool true) := by rw [hR.cell 6, HC.out]; rfl
        have c7 : W4.cell? ⟨w.heap.size, 7, none⟩ = some (.bool false) := by rw [hR.cell 7, HC.out]; rfl
        have c8 : W4.cell? ⟨w.heap.size, 8, none⟩ = some (.int .i64 dl) := by rw [hR.cell 8, HC.out]; rfl
        have c9 : W4.cell? ⟨w.heap.size, 9, none⟩ = some (.int .i64 gn) := by rw [hR.cell 9, HC.out]; rfl
        have c10 : W4.cell? ⟨w.heap.size, 10, none⟩ = some (.int .i64 sw) := by rw [hR.cell 10, HC.out]; rfl
        have c11 : W4.cell? ⟨w.heap.size, 11, none⟩ = some (.int .i64 fl) := by rw [hR.cell 11, HC.out]; rfl
        clear hR hb
        by_cases k6 : sw = 0
        case pos =>
          have d6 : (sw == 0) = true := by simpa using k6
          have HE : Hid (rightS ⟨0, 0, r0, r1, w0, w1, true, false, dl, gn, sw, fl⟩ = true) := Lib.hid (by rw [show rightS ⟨0, 0, r0, r1, w0, w1, true, false, dl, gn, sw, fl⟩ = decide (RightX 0 r0 w0 true r1 w1 false dl gn sw fl) from rfl, decide_eq_true_iff]; exact ⟨by omega, by omega, by omega, rfl, fun _ => by omega, fun _ => rfl, fun h => by omega, fun h => by omega, by omega⟩)
          go_wp2
          go_ret
          exact ⟨by rw [HE.out]; rfl, HB.out⟩
        have d6 : (sw == 0) = false := by simpa using k6
        have HE : Hid (rightS ⟨0, 0, r0, r1, w0, w1, true, false, dl, gn, sw, fl⟩ = false) := Lib.hid (by rw [show rightS ⟨0, 0, r0, r1, w0, w1, true, false, dl, gn, sw, fl⟩ = decide (RightX 0 r0 w0 true r1 w1 false dl gn sw fl) from rfl, decide_eq_false_iff_not]; intro hx; unfold RightX at hx; omega)
        go_wp2
        go_ret
        exact ⟨by rw [HE.out]; rfl, HB.out⟩

      have d3 : (ph == 0) = false := by simpa using k3
      have d3' : decide (0 < ph) = true := by simp; omega
      go_upto_region 14 with (fail)
      by_cases k4 : r1 = 0
      case pos =>
        have d4 : (r1 == 0) = true := by simpa using k4
        have HE : Hid (rightS ⟨ph, 0, r0, r1, w0, w1, true, p1, dl, gn, sw, fl⟩ = false) := Lib.hid (by rw [show rightS ⟨ph, 0, r0, r1, w0, w1, true, p1, dl, gn, sw, fl⟩ = decide (RightX ph r0 w0 true r1 w1 p1 dl gn sw fl) from rfl, decide_eq_false_iff_not]; intro hx; unfold RightX at hx; omega)
        clear k4
        go_wp2_with fail
        go_quiet (fail)
        go_wp2
        go_ret
        exact ⟨by rw [HE.out]; rfl, HB.out.trans (below_drewN _ _ _)⟩
      have d4 : (r1 == 0) = false := by simpa using k4
      by_cases k5 : w1 = 0
      case pos =>
        have d5 : (w1 == 0) = true := by simpa using k5
        have HE : Hid (rightS ⟨ph, 0, r0, r1, w0, w1, true, p1, dl, gn, sw, fl⟩ = false) := Lib.hid (by rw [show rightS ⟨ph, 0, r0, r1, w0, w1, true, p1, dl, gn, sw, fl⟩ = decide (RightX ph r0 w0 true r1 w1 p1 dl gn sw fl) from rfl, decide_eq_false_iff_not]; intro hx; unfold RightX at hx; omega)
        clear k5
        go_wp2_with fail
        go_quiet (fail)
        go_wp2
        go_ret
        exact ⟨by rw [HE.out]; rfl, HB.out.trans (below_drewN _ _ _)⟩
      have d5 : (w1 == 0) = false := by simpa using k5
      by_cases k6 : r1 = r0
      case pos =>
        have d6 : (r1 == r0) = true := by simpa using k6
        have HE : Hid (rightS ⟨ph, 0, r0, r1, w0, w1, true, p1, dl, gn, sw, fl⟩ = false) := Lib.hid (by rw [show rightS ⟨ph, 0, r0, r1, w0, w1, true, p1, dl, gn, sw, fl⟩ = decide (RightX ph r0 w0 true r1 w1 p1 dl gn sw fl) from rfl, decide_eq_false_iff_not]; intro hx; unfold RightX at hx; omega)
        clear k6
        go_wp2_with fail
        go_quiet (fail)
        go_wp2
        go_ret
        exact ⟨by rw [HE.out]; rfl, HB.out.trans (below_drewN _ _ _)⟩
      have d6 : (r1 == r0) = false := by simpa using k6
      go_wp2_with fail
      go_quiet (fail)
      go_upto_region 16 with (fail)
      clear c0 c1 c2 c3 c4 c5 c6 c7 c8 c9 c10 c11
      refine name_w (fun W2 => Rw W2 w.heap.size cs 38 ∧ Below w.heap.size w W2) ⟨HR.out, HB.out.trans (below_drewN _ _ _)⟩ ?_
      clear HR HB
      rintro W3 ⟨hR, hb⟩
      have HB := Lib.hid hb
      have HR := Lib.hid hR
      have c0 : W3.cell? ⟨w.heap.size, 0, none⟩ = some (.int .i64 ph) := by rw [hR.cell 0, HC.out]; rfl
      have c1 : W3.cell? ⟨w.heap.size, 1, none⟩ = some (.int .i64 0) := by rw [hR.cell 1, HC.out]; rfl
      have c2 : W3.cell? ⟨w.heap.size, 2, none⟩ = some (.int .i64 r0) := by rw [hR.cell 2, HC.out]; rfl
      have c3 : W3.cell? ⟨w.heap.size, 3, none⟩ = some (.int .i64 r1) := by rw [hR.cell 3, HC.out]; rfl
      have c4 : W3.cell? ⟨w.heap.size, 4, none⟩ = some (.int .i64 w0) := by rw [hR.cell 4, HC.out]; rfl
      have c5 : W3.cell? ⟨w.heap.size, 5, none⟩ = some (.int .i64 w1) := by rw [hR.cell 5, HC.out]; rfl
      have c6 : W3.cell? ⟨w.heap.size, 6, none⟩ = some (.bool true) := by rw [hR.cell 6, HC.out]; rfl
      have c7 : W3.cell? ⟨w.heap.size, 7, none⟩ = some (.bool p1) := by rw [hR.cell 7, HC.out]; rfl
      have c8 : W3.cell? ⟨w.heap.size, 8, none⟩ = some (.int .i64 dl) := by rw [hR.cell 8, HC.out]; rfl
      have c9 : W3.cell? ⟨w.heap.size, 9, none⟩ = some (.int .i64 gn) := by rw [hR.cell 9, HC.out]; rfl
      have c10 : W3.cell? ⟨w.heap.size, 10, none⟩ = some (.int .i64 sw) := by rw [hR.cell 10, HC.out]; rfl
      have c11 : W3.cell? ⟨w.heap.size, 11, none⟩ = some (.int .i64 fl) := by rw [hR.cell 11, HC.out]; rfl
      clear hR hb
      clear d4 d5 d6
      by_cases k8 : 2 < ph
      case pos =>
        have d8 : decide (2 < ph) = true := by simpa using k8
        cases p1
        case false =>
          have HE : Hid (rightS ⟨ph, 0, r0, r1, w0, w1, true, false, dl, gn, sw, fl⟩ = false) := Lib.hid (by rw [show rightS ⟨ph, 0, r0, r1, w0, w1, true, false, dl, gn, sw, fl⟩ = decide (RightX ph r0 w0 true r1 w1 false dl gn sw fl) from rfl, decide_eq_false_iff_not]; intro hx; have h9 := hx.2.2.2.2.2.2.2.1 (by omega); rw [d8] at h9; exact absurd h9 (by decide))
          go_wp2_with fail
          go_quiet (fail)
          go_wp2
          go_ret
          exact ⟨by rw [HE.out]; rfl, HB.out.trans (below_drewN _ _ _)⟩
        go_wp2_with fail
        go_quiet (fail)
        go_upto_region 18 with (fail)
        clear c0 c1 c2 c3 c4 c5 c6 c7 c8 c9 c10 c11
        refine name_w (fun W2 => Rw W2 w.heap.size cs 38 ∧ Below w.heap.size w W2) ⟨HR.out, HB.out.trans (below_drewN _ _ _)⟩ ?_
        clear HR HB
        rintro W4 ⟨hR, hb⟩
        have HB := Lib.hid hb
        have HR := Lib.hid hR
        have c0 : W4.cell? ⟨w.heap.size, 0, none⟩ = some (.int .i64 ph) := by rw [hR.cell 0, HC.out]; rfl
        have c1 : W4.cell? ⟨w.heap.size, 1, none⟩ = some (.int .i64 0) := by rw [hR.cell 1, HC.out]; rfl
        have c2 : W4.cell? ⟨w.heap.size, 2, none⟩ = some (.int .i64 r0) := by rw [hR.cell 2, HC.out]; rfl
        have c3 : W4.cell? ⟨w.heap.size, 3, none⟩ = some (.int .i64 r1) := by rw [hR.cell 3, HC.out]; rfl
        have c4 : W4.cell? ⟨w.heap.size, 4, none⟩ = some (.int .i64 w0) := by rw [hR.cell 4, HC.out]; rfl
        have c5 : W4.cell? ⟨w.heap.size, 5, none⟩ = some (.int .i64 w1) := by rw [hR.cell 5, HC.out]; rfl
        have c6 : W4.cell? ⟨w.heap.size, 6, none⟩ = some (.bool true) := by rw [hR.cell 6, HC.out]; rfl
        have c7 : W4.cell? ⟨w.heap.size, 7, none⟩ = some (.bool true) := by rw [hR.cell 7, HC.out]; rfl
        have c8 : W4.cell? ⟨w.heap.size, 8, none⟩ = some (.int .i64 dl) := by rw [hR.cell 8, HC.out]; rfl
        have c9 : W4.cell? ⟨w.heap.size, 9, none⟩ = some (.int .i64 gn) := by rw [hR.cell 9, HC.out]; rfl
        have c10 : W4.cell? ⟨w.heap.size, 10, none⟩ = some (.int .i64 sw) := by rw [hR.cell 10, HC.out]; rfl
        have c11 : W4.cell? ⟨w.heap.size, 11, none⟩ = some (.int .i64 fl) := by rw [hR.cell 11, HC.out]; rfl
        clear hR hb
        by_cases k9 : sw = 0
        case pos =>
          have d9 : (sw == 0) = true := by simpa using k9
          have HE : Hid (rightS ⟨ph, 0, r0, r1, w0, w1, true, true, dl, gn, sw, fl⟩ = true) := Lib.hid (by rw [show rightS ⟨ph, 0, r0, r1, w0, w1, true, true, dl, gn, sw, fl⟩ = decide (RightX ph r0 w0 true r1 w1 true dl gn sw fl) from rfl, decide_eq_true_iff]; exact ⟨by omega, by omega, by omega, rfl, fun h => by omega, fun h => absurd h k3, fun h => by omega, fun _ => d8.symm, by omega⟩)
          go_wp2
          go_ret
          exact ⟨by rw [HE.out]; rfl, HB.out⟩
        have d9 : (sw == 0) = false := by simpa using k9
        by_cases m3 : ph = 3
        case pos =>
          have f3 : (ph == 3) = true := by simpa using m3
          by_cases mg : 0 < gn
          case pos =>
            have fg : decide (0 < gn) = true := by simpa using mg
            have HE : Hid (rightS ⟨ph, 0, r0, r1, w0, w1, true, true, dl, gn, sw, fl⟩ = true) := Lib.hid (by rw [show rightS ⟨ph, 0, r0, r1, w0, w1, true, true, dl, gn, sw, fl⟩ = decide (RightX ph r0 w0 true r1 w1 true dl gn sw fl) from rfl, decide_eq_true_iff]; exact ⟨by omega, by omega, by omega, rfl, fun h => by omega, fun h => absurd h k3, fun h => by omega, fun _ => d8.symm, by omega⟩)
            clear m3
            go_wp2
            go_ret
            exact ⟨by rw [HE.out]; rfl, HB.out⟩
          have fg : decide (0 < gn) = false := by simpa using mg
          have HE : Hid (rightS ⟨ph, 0, r0, r1, w0, w1, true, true, dl, gn, sw, fl⟩ = false) := Lib.hid (by rw [show rightS ⟨ph, 0, r0, r1, w0, w1, true, true, dl, gn, sw, fl⟩ = decide (RightX ph r0 w0 true r1 w1 true dl gn sw fl) from rfl, decide_eq_false_iff_not]; intro hx; unfold RightX at hx; omega)
          clear m3
          go_wp2
          go_ret
          exact ⟨by rw [HE.out]; rfl, HB.out⟩
        have f3 : (ph == 3) = false := by simpa using m3
        by_cases m6 : ph = 6
        case pos =>
          have f6 : (ph == 6) = true := by simpa using m6
          by_cases mg : 0 < gn
          case pos =>
            have fg : decide (0 < gn) = true := by simpa using mg
            have HE : Hid (rightS ⟨ph, 0, r0, r1, w0, w1, true, true, dl, gn, sw, fl⟩ = true) := Lib.hid (by rw [show rightS ⟨ph, 0, r0, r1, w0, w1, true, true, dl, gn, sw, fl⟩ = decide (RightX ph r0 w0 true r1 w1 true dl gn sw fl) from rfl, decide_eq_true_iff]; exact ⟨by omega, by omega, by omega, rfl, fun h => by omega, fun h => absurd h k3, fun h => by omega, fun _ => d8.symm, by omega⟩)
            clear m6
            go_wp2
            go_ret
            exact ⟨by rw [HE.out]; rfl, HB.out⟩
          have fg : decide (0 < gn) = false := by simpa using mg
          have HE : Hid (rightS ⟨ph, 0, r0, r1, w0, w1, true, true, dl, gn, sw, fl⟩ = false) := Lib.hid (by rw [show rightS ⟨ph, 0, r0, r1, w0, w1, true, true, dl, gn, sw, fl⟩ = decide (RightX ph r0 w0 true r1 w1 true dl gn sw fl) from rfl, decide_eq_false_iff_not]; intro hx; unfold RightX at hx; omega)
          clear m6
          go_wp2
          go_ret
          exact ⟨by rw [HE.out]; rfl, HB.out⟩
        have f6 : (ph == 6) = false := by simpa using m6
        have HE : Hid (rightS ⟨ph, 0, r0, r1, w0, w1, true, true, dl, gn, sw, fl⟩ = false) := Lib.hid (by rw [show rightS ⟨ph, 0, r0, r1, w0, w1, true, true, dl, gn, sw, fl⟩ = decide (RightX ph r0 w0 true r1 w1 true dl gn sw fl) from rfl, decide_eq_false_iff_not]; intro hx; unfold RightX at hx; omega)
        go_wp2
        go_ret
        exact ⟨by rw [HE.out]; rfl, HB.out⟩

      have d8 : decide (2 < ph) = false := by simpa using k8
      cases p1
      case true =>
        have HE : Hid (rightS ⟨ph, 0, r0, r1, w0, w1, true, true, dl, gn, sw, fl⟩ = false) := Lib.hid (by rw [show rightS ⟨ph, 0, r0, r1, w0, w1, true, true, dl, gn, sw, fl⟩ = decide (RightX ph r0 w0 true r1 w1 true dl gn sw fl) from rfl, decide_eq_false_iff_not]; intro hx; have h9 := hx.2.2.2.2.2.2.2.1 (by omega); rw [d8] at h9; exact absurd h9 (by decide))
        go_wp2_with fail
        go_quiet (fail)
        go_wp2
        go_ret
        exact ⟨by rw [HE.out]; rfl, HB.out.trans (below_drewN _ _ _)⟩
      go_wp2_with fail
      go_quiet (fail)
      go_upto_region 18 with (fail)
      clear c0 c1 c2 c3 c4 c5 c6 c7 c8 c9 c10 c11
      refine name_w (fun W2 => Rw W2 w.heap.size cs 38 ∧ Below w.heap.size w W2) ⟨HR.out, HB.out.trans (below_drewN _ _ _)⟩ ?_
      clear HR HB
      rintro W4 ⟨hR, hb⟩
      have HB := Lib.hid hb
      have HR := Lib.hid hR
      have c0 : W4.cell? ⟨w.heap.size, 0, none⟩ = some (.int .i64 ph) := by rw [hR.cell 0, HC.out]; rfl
      have c1 : W4.cell? ⟨w.heap.size, 1, none⟩ = some (.int .i64 0) := by rw [hR.cell 1, HC.out]; rfl
      have c2 : W4.cell? ⟨w.heap.size, 2, none⟩ = some (.int .i64 r0) := by rw [hR.cell 2, HC.out]; rfl
      have c3 : W4.cell? ⟨w.heap.size, 3, none⟩ = some (.int .i64 r1) := by rw [hR.cell 3, HC.out]; rfl
      have c4 : W4.cell? ⟨w.heap.size, 4, none⟩ = some (.int .i64 w0) := by rw [hR.cell 4, HC.out]; rfl
      have c5 : W4.cell? ⟨w.heap.size, 5, none⟩ = some (.int .i64 w1) := by rw [hR.cell 5, HC.out]; rfl
      have c6 : W4.cell? ⟨w.heap.size, 6, none⟩ = some (.bool true) := by rw [hR.cell 6, HC.out]; rfl
      have c7 : W4.cell? ⟨w.heap.size, 7, none⟩ = some (.bool false) := by rw [hR.cell 7, HC.out]; rfl
      have c8 : W4.cell? ⟨w.heap.size, 8, none⟩ = some (.int .i64 dl) := by rw [hR.cell 8, HC.out]; rfl
      have c9 : W4.cell? ⟨w.heap.size, 9, none⟩ = some (.int .i64 gn) := by rw [hR.cell 9, HC.out]; rfl
      have c10 : W4.cell? ⟨w.heap.size, 10, none⟩ = some (.int .i64 sw) := by rw [hR.cell 10, HC.out]; rfl
      have c11 : W4.cell? ⟨w.heap.size, 11, none⟩ = some (.int .i64 fl) := by rw [hR.cell 11, HC.out]; rfl
      clear hR hb
      by_cases k9 : sw = 0
      case pos =>
        have d9 : (sw == 0) = true := by simpa using k9
        have HE : Hid (rightS ⟨ph, 0, r0, r1, w0, w1, true, false, dl, gn, sw, fl⟩ = true) := Lib.hid (by rw [show rightS ⟨ph, 0, r0, r1, w0, w1, true, false, dl, gn, sw, fl⟩ = decide (RightX ph r0 w0 true r1 w1 false dl gn sw fl) from rfl, decide_eq_true_iff]; exact ⟨by omega, by omega, by omega, rfl, fun h => by omega, fun h => absurd h k3, fun h => by omega, fun _ => d8.symm, by omega⟩)
        go_wp2
        go_ret
        exact ⟨by rw [HE.out]; rfl, HB.out⟩
      have d9 : (sw == 0) = false := by simpa using k9
      by_cases m3 : ph = 3
      case pos =>
        have f3 : (ph == 3) = true := by simpa using m3
        by_cases mg : 0 < gn
        case pos =>
          have fg : decide (0 < gn) = true := by simpa using mg
          have HE : Hid (rightS ⟨ph, 0, r0, r1, w0, w1, true, false, dl, gn, sw, fl⟩ = true) := Lib.hid (by rw [show rightS ⟨ph, 0, r0, r1, w0, w1, true, false, dl, gn, sw, fl⟩ = decide (RightX ph r0 w0 true r1 w1 false dl gn sw fl) from rfl, decide_eq_true_iff]; exact ⟨by omega, by omega, by omega, rfl, fun h => by omega, fun h => absurd h k3, fun h => by omega, fun _ => d8.symm, by omega⟩)
          clear m3
          go_wp2
          go_ret
          exact ⟨by rw [HE.out]; rfl, HB.out⟩
        have fg : decide (0 < gn) = false := by simpa using mg
        have HE : Hid (rightS ⟨ph, 0, r0, r1, w0, w1, true, false, dl, gn, sw, fl⟩ = false) := Lib.hid (by rw [show rightS ⟨ph, 0, r0, r1, w0, w1, true, false, dl, gn, sw, fl⟩ = decide (RightX ph r0 w0 true r1 w1 false dl gn sw fl) from rfl, decide_eq_false_iff_not]; intro hx; unfold RightX at hx; omega)
        clear m3
        go_wp2
        go_ret
        exact ⟨by rw [HE.out]; rfl, HB.out⟩
      have f3 : (ph == 3) = false := by simpa using m3
      by_cases m6 : ph = 6
      case pos =>
        have f6 : (ph == 6) = true := by simpa using m6
        by_cases mg : 0 < gn
        case pos =>
          have fg : decide (0 < gn) = true := by simpa using mg
          have HE : Hid (rightS ⟨ph, 0, r0, r1, w0, w1, true, false, dl, gn, sw, fl⟩ = true) := Lib.hid (by rw [show rightS ⟨ph, 0, r0, r1, w0, w1, true, false, dl, gn, sw, fl⟩ = decide (RightX ph r0 w0 true r1 w1 false dl gn sw fl) from rfl, decide_eq_true_iff]; exact ⟨by omega, by omega, by omega, rfl, fun h => by omega, fun h => absurd h k3, fun h => by omega, fun _ => d8.symm, by omega⟩)
          clear m6
          go_wp2
          go_ret
          exact ⟨by rw [HE.out]; rfl, HB.out⟩
        have fg : decide (0 < gn) = false := by simpa using mg
        have HE : Hid (rightS ⟨ph, 0, r0, r1, w0, w1, true, false, dl, gn, sw, fl⟩ = false) := Lib.hid (by rw [show rightS ⟨ph, 0, r0, r1, w0, w1, true, false, dl, gn, sw, fl⟩ = decide (RightX ph r0 w0 true r1 w1 false dl gn sw fl) from rfl, decide_eq_false_iff_not]; intro hx; unfold RightX at hx; omega)
        clear m6
        go_wp2
        go_ret
        exact ⟨by rw [HE.out]; rfl, HB.out⟩
      have f6 : (ph == 6) = false := by simpa using m6
      have HE : Hid (rightS ⟨ph, 0, r0, r1, w0, w1, true, false, dl, gn, sw, fl⟩ = false) := Lib.hid (by rw [show rightS ⟨ph, 0, r0, r1, w0, w1, true, false, dl, gn, sw, fl⟩ = decide (RightX ph r0 w0 true r1 w1 false dl gn sw fl) from rfl, decide_eq_false_iff_not]; intro hx; unfold RightX at hx; omega)
      go_wp2
      go_ret
      exact ⟨by rw [HE.out]; rfl, HB.out⟩

end Go.Proofs.Ytchaeidmjoelnaa
