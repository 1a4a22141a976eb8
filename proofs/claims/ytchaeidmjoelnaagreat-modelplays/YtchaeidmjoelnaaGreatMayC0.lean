/-
  What the document's own Check answers, where slot 0 is active.
-/
import Derived.Test.YtchaeidmjoelnaaGreatMayS
namespace Go.Proofs.YtchaeidmjoelnaaGreat
open Go.RowKit

set_option maxRecDepth 100000 in
set_option maxHeartbeats 8000000 in
theorem mcheck_0 (ph r0 r1 w0 w1 dl gn sw fl kd rv cn dy now : Int) (p0 p1 ps : Bool) (cs os : Array Value) (w : World) (hcs : cs = stC ⟨ph, 0, r0, r1, w0, w1, p0, p1, dl, gn, sw, fl⟩) (hos : os = opC ⟨kd, rv, cn, dy, ps⟩) : Calls Tryz.prog 30 #[.agg cs, .agg os, .int .i64 now] w fun e w' => e = .returned (.int .i64 (chkX ph r0 r1 gn sw kd rv cn dy now)) ∧ Below w.heap.size w w' := by
  have HC := Lib.hid hcs
  have HO := Lib.hid hos
  clear hcs hos
  go_enter Tryz.func30, Tryz.ntmps30
  go_upto_region 1 with (fail)
  refine name_w (fun W => Rw W w.heap.size cs 33 ∧ Rw W (w.heap.size + 1) os 39 ∧ Below w.heap.size w W) ⟨(Rw.new _ _ _).alloc _, ?_, ((Below.refl _ _).alloc (Nat.le_refl _) _).alloc (by simp) _⟩ ?_
  · have h1 := Rw.new (w.alloc (.cells cs 33)) os 39
    rw [size_alloc] at h1
    exact h1
  rintro W ⟨hR, hP, hb⟩
  have HB := Lib.hid hb
  have HR := Lib.hid hR
  have c0 : W.cell? ⟨w.heap.size, 0, none⟩ = some (.int .i64 ph) := by rw [hR.cell 0, HC.out]; rfl
  have c1 : W.cell? ⟨w.heap.size, 1, none⟩ = some (.int .i64 0) := by rw [hR.cell 1, HC.out]; rfl
  have c2 : W.cell? ⟨w.heap.size, 2, none⟩ = some (.int .i64 r0) := by rw [hR.cell 2, HC.out]; rfl
  have c3 : W.cell? ⟨w.heap.size, 3, none⟩ = some (.int .i64 r1) := by rw [hR.cell 3, HC.out]; rfl
  have c4 : W.cell? ⟨w.heap.size, 4, none⟩ = some (.int .i64 w0) := by rw [hR.cell 4, HC.out]; rfl
  have c5 : W.cell? ⟨w.heap.size, 5, none⟩ = some (.int .i64 w1) := by rw [hR.cell 5, HC.out]; rfl
  have c6 : W.cell? ⟨w.heap.size, 6, none⟩ = some (.bool p0) := by rw [hR.cell 6, HC.out]; rfl
  have c7 : W.cell? ⟨w.heap.size, 7, none⟩ = some (.bool p1) := by rw [hR.cell 7, HC.out]; rfl
  have c8 : W.cell? ⟨w.heap.size, 8, none⟩ = some (.int .i64 dl) := by rw [hR.cell 8, HC.out]; rfl
  have c9 : W.cell? ⟨w.heap.size, 9, none⟩ = some (.int .i64 gn) := by rw [hR.cell 9, HC.out]; rfl
  have c10 : W.cell? ⟨w.heap.size, 10, none⟩ = some (.int .i64 sw) := by rw [hR.cell 10, HC.out]; rfl
  have c11 : W.cell? ⟨w.heap.size, 11, none⟩ = some (.int .i64 fl) := by rw [hR.cell 11, HC.out]; rfl
  have d0 : W.cell? ⟨w.heap.size + 1, 0, none⟩ = some (.int .i64 kd) := by rw [hP.cell 0, HO.out]; rfl
  have d1 : W.cell? ⟨w.heap.size + 1, 1, none⟩ = some (.int .i64 rv) := by rw [hP.cell 1, HO.out]; rfl
  have d2 : W.cell? ⟨w.heap.size + 1, 2, none⟩ = some (.int .i64 cn) := by rw [hP.cell 2, HO.out]; rfl
  have d3 : W.cell? ⟨w.heap.size + 1, 3, none⟩ = some (.int .i64 dy) := by rw [hP.cell 3, HO.out]; rfl
  have d4 : W.cell? ⟨w.heap.size + 1, 4, none⟩ = some (.bool ps) := by rw [hP.cell 4, HO.out]; rfl
  clear hR hP hb
  go_upto_region 3 with (fail)
  by_cases h1 : kd = 2
  case pos =>
    subst h1
    go_upto_region 4 with (fail)
    by_cases h2 : ph = 0
    case pos =>
      have e2 : (ph == 0) = true := by rw [h2]; exact beq_self_eq_true _
      have g2 : (ph != 0) = false := by rw [bne, e2]; rfl
      have K2 := Lib.hid h2
      clear h2
      have HE : Hid (chkX ph r0 r1 gn sw 2 rv cn dy now = 7) := Lib.hid (by have k2 := K2.out; unfold chkX; (repeat' split) <;> first | rfl | (exfalso; omega))
      go_wp2
      go_ret
      exact ⟨by rw [HE.out]; rfl, HB.out⟩
    have e2 : (ph == 0) = false := beq_eq_false_iff_ne.2 h2
    have g2 : (ph != 0) = true := by rw [bne, e2]; rfl
    have K2 := Lib.hid h2
    clear h2
    by_cases h3 : 5 < ph
    case pos =>
      have e3 : decide (5 < ph) = true := decide_eq_true h3
      have K3 := Lib.hid h3
      clear h3
      have HE : Hid (chkX ph r0 r1 gn sw 2 rv cn dy now = 7) := Lib.hid (by have k2 := K2.out; have k3 := K3.out; unfold chkX; (repeat' split) <;> first | rfl | (exfalso; omega))
      go_wp2
      go_ret
      exact ⟨by rw [HE.out]; rfl, HB.out⟩
    have e3 : decide (5 < ph) = false := decide_eq_false h3
    have K3 := Lib.hid h3
    clear h3
    by_cases h4 : ph = 3
    case pos =>
      have e4 : (ph == 3) = true := by rw [h4]; exact beq_self_eq_true _
      have g4 : (ph != 3) = false := by rw [bne, e4]; rfl
      have K4 := Lib.hid h4
      clear h4
      by_cases h5 : 0 < sw
      case pos =>
        have e5 : decide (0 < sw) = true := decide_eq_true h5
        have K5 := Lib.hid h5
        clear h5
        have HE : Hid (chkX ph r0 r1 gn sw 2 rv cn dy now = 7) := Lib.hid (by have k2 := K2.out; have k3 := K3.out; have k4 := K4.out; have k5 := K5.out; unfold chkX; (repeat' split) <;> first | rfl | (exfalso; omega))
        go_wp2
        go_ret
        exact ⟨by rw [HE.out]; rfl, HB.out⟩
      have e5 : decide (0 < sw) = false := decide_eq_false h5
      have K5 := Lib.hid h5
      clear h5
      have HE : Hid (chkX ph r0 r1 gn sw 2 rv cn dy now = 0) := Lib.hid (by have k2 := K2.out; have k3 := K3.out; have k4 := K4.out; have k5 := K5.out; unfold chkX; (repeat' split) <;> first | rfl | (exfalso; omega))
      go_wp2
      go_ret
      exact ⟨by rw [HE.out]; rfl, HB.out⟩
    have e4 : (ph == 3) = false := beq_eq_false_iff_ne.2 h4
    have g4 : (ph != 3) = true := by rw [bne, e4]; rfl
    have K4 := Lib.hid h4
    clear h4
    have HE : Hid (chkX ph r0 r1 gn sw 2 rv cn dy now = 0) := Lib.hid (by have k2 := K2.out; have k3 := K3.out; have k4 := K4.out; unfold chkX; (repeat' split) <;> first | rfl | (exfalso; omega))
    go_wp2
    go_ret
    exact ⟨by rw [HE.out]; rfl, HB.out⟩
  have e1 : (kd == 2) = false := beq_eq_false_iff_ne.2 h1
  have g1 : (kd != 2) = true := by rw [bne, e1]; rfl
  have K1 := Lib.hid h1
  clear h1
  by_cases h6 : kd = 1
  case pos =>
    subst h6
    go_upto_region 9 with (fail)
    by_cases h7 : rv < 1
    case pos =>
      have e7 : decide (rv < 1) = true := decide_eq_true h7
      have K7 := Lib.hid h7
      clear h7
      have HE : Hid (chkX ph r0 r1 gn sw 1 rv cn dy now = 1) := Lib.hid (by have k1 := K1.out; have k7 := K7.out; unfold chkX; (repeat' split) <;> first | rfl | (exfalso; omega))
      go_wp2
      go_ret
      exact ⟨by rw [HE.out]; rfl, HB.out⟩
    have e7 : decide (rv < 1) = false := decide_eq_false h7
    have K7 := Lib.hid h7
    clear h7
    by_cases h8 : 1073741824 < rv
    case pos =>
      have e8 : decide (1073741824 < rv) = true := decide_eq_true h8
      have K8 := Lib.hid h8
      clear h8
      have HE : Hid (chkX ph r0 r1 gn sw 1 rv cn dy now = 1) := Lib.hid (by have k1 := K1.out; have k7 := K7.out; have k8 := K8.out; unfold chkX; (repeat' split) <;> first | rfl | (exfalso; omega))
      go_wp2
      go_ret
      exact ⟨by rw [HE.out]; rfl, HB.out⟩
    have e8 : decide (1073741824 < rv) = false := decide_eq_false h8
    have K8 := Lib.hid h8
    clear h8
    go_upto_region 23 with (fail)
    by_cases h9 : cn < 1
    case pos =>
      have e9 : decide (cn < 1) = true := decide_eq_true h9
      have K9 := Lib.hid h9
      clear h9
      have HE : Hid (chkX ph r0 r1 gn sw 1 rv cn dy now = 1) := Lib.hid (by have k1 := K1.out; have k7 := K7.out; have k8 := K8.out; have k9 := K9.out; unfold chkX; (repeat' split) <;> first | rfl | (exfalso; omega))
      go_wp2
      go_ret
      exact ⟨by rw [HE.out]; rfl, HB.out⟩
    have e9 : decide (cn < 1) = false := decide_eq_false h9
    have K9 := Lib.hid h9
    clear h9
    by_cases h10 : 32 < cn
    case pos =>
      have e10 : decide (32 < cn) = true := decide_eq_true h10
      have K10 := Lib.hid h10
      clear h10
      have HE : Hid (chkX ph r0 r1 gn sw 1 rv cn dy now = 1) := Lib.hid (by have k1 := K1.out; have k7 := K7.out; have k8 := K8.out; have k9 := K9.out; have k10 := K10.out; unfold chkX; (repeat' split) <;> first | rfl | (exfalso; omega))
      go_wp2
      go_ret
      exact ⟨by rw [HE.out]; rfl, HB.out⟩
    have e10 : decide (32 < cn) = false := decide_eq_false h10
    have K10 := Lib.hid h10
    clear h10
    by_cases h11 : dy < 0
    case pos =>
      have e11 : decide (dy < 0) = true := decide_eq_true h11
      have K11 := Lib.hid h11
      clear h11
      have HE : Hid (chkX ph r0 r1 gn sw 1 rv cn dy now = 1) := Lib.hid (by have k1 := K1.out; have k7 := K7.out; have k8 := K8.out; have k9 := K9.out; have k10 := K10.out; have k11 := K11.out; unfold chkX; (repeat' split) <;> first | rfl | (exfalso; omega))
      go_wp2
      go_ret
      exact ⟨by rw [HE.out]; rfl, HB.out⟩
    have e11 : decide (dy < 0) = false := decide_eq_false h11
    have K11 := Lib.hid h11
    clear h11
    by_cases h12 : 65536 < dy
    case pos =>
      have e12 : decide (65536 < dy) = true := decide_eq_true h12
      have K12 := Lib.hid h12
      clear h12
      have HE : Hid (chkX ph r0 r1 gn sw 1 rv cn dy now = 1) := Lib.hid (by have k1 := K1.out; have k7 := K7.out; have k8 := K8.out; have k9 := K9.out; have k10 := K10.out; have k11 := K11.out; have k12 := K12.out; unfold chkX; (repeat' split) <;> first | rfl | (exfalso; omega))
      go_wp2
      go_ret
      exact ⟨by rw [HE.out]; rfl, HB.out⟩
    have e12 : decide (65536 < dy) = false := decide_eq_false h12
    have K12 := Lib.hid h12
    clear h12
    go_upto_region 25 with (fail)
    by_cases h13 : 1073741823 < now
    case pos =>
      have e13 : decide (1073741823 < now) = true := decide_eq_true h13
      have K13 := Lib.hid h13
      clear h13
      have HE : Hid (chkX ph r0 r1 gn sw 1 rv cn dy now = 9) := Lib.hid (by have k1 := K1.out; have k7 := K7.out; have k8 := K8.out; have k9 := K9.out; have k10 := K10.out; have k11 := K11.out; have k12 := K12.out; have k13 := K13.out; unfold chkX; (repeat' split) <;> first | rfl | (exfalso; omega))
      go_wp2
      go_ret
      exact ⟨by rw [HE.out]; rfl, HB.out⟩
    have e13 : decide (1073741823 < now) = false := decide_eq_false h13
    have K13 := Lib.hid h13
    clear h13
    by_cases h14 : 1048575 ≤ gn
    case pos =>
      have e14 : decide (1048575 ≤ gn) = true := decide_eq_true h14
      have K14 := Lib.hid h14
      clear h14
      have HE : Hid (chkX ph r0 r1 gn sw 1 rv cn dy now = 9) := Lib.hid (by have k1 := K1.out; have k7 := K7.out; have k8 := K8.out; have k9 := K9.out; have k10 := K10.out; have k11 := K11.out; have k12 := K12.out; have k13 := K13.out; have k14 := K14.out; unfold chkX; (repeat' split) <;> first | rfl | (exfalso; omega))
      go_wp2
      go_ret
      exact ⟨by rw [HE.out]; rfl, HB.out⟩
    have e14 : decide (1048575 ≤ gn) = false := decide_eq_false h14
    have K14 := Lib.hid h14
    clear h14
    go_upto_region 27 with (fail)
    by_cases h15 : 2 < ph
    case pos =>
      have e15 : decide (2 < ph) = true := decide_eq_true h15
      have K15 := Lib.hid h15
      clear h15
      have HE : Hid (chkX ph r0 r1 gn sw 1 rv cn dy now = 7) := Lib.hid (by have k1 := K1.out; have k7 := K7.out; have k8 := K8.out; have k9 := K9.out; have k10 := K10.out; have k11 := K11.out; have k12 := K12.out; have k13 := K13.out; have k14 := K14.out; have k15 := K15.out; unfold chkX; (repeat' split) <;> first | rfl | (exfalso; omega))
      go_wp2
      go_ret
      exact ⟨by rw [HE.out]; rfl, HB.out⟩
    have e15 : decide (2 < ph) = false := decide_eq_false h15
    have K15 := Lib.hid h15
    clear h15
    go_upto_region 29 with (fail)
    by_cases h16 : rv = r0
    case pos =>
      have e16 : (rv == r0) = true := by rw [h16]; exact beq_self_eq_true _
      have g16 : (rv != r0) = false := by rw [bne, e16]; rfl
      have K16 := Lib.hid h16
      clear h16
      have HE : Hid (chkX ph r0 r1 gn sw 1 rv cn dy now = 8) := Lib.hid (by have k1 := K1.out; have k7 := K7.out; have k8 := K8.out; have k9 := K9.out; have k10 := K10.out; have k11 := K11.out; have k12 := K12.out; have k13 := K13.out; have k14 := K14.out; have k15 := K15.out; have k16 := K16.out; unfold chkX; (repeat' split) <;> first | rfl | (exfalso; omega))
      go_wp2
      go_ret
      exact ⟨by rw [HE.out]; rfl, HB.out⟩
    have e16 : (rv == r0) = false := beq_eq_false_iff_ne.2 h16
    have g16 : (rv != r0) = true := by rw [bne, e16]; rfl
    have K16 := Lib.hid h16
    clear h16
    have HE : Hid (chkX ph r0 r1 gn sw 1 rv cn dy now = 0) := Lib.hid (by have k1 := K1.out; have k7 := K7.out; have k8 := K8.out; have k9 := K9.out; have k10 := K10.out; have k11 := K11.out; have k12 := K12.out; have k13 := K13.out; have k14 := K14.out; have k15 := K15.out; have k16 := K16.out; unfold chkX; (repeat' split) <;> first | rfl | (exfalso; omega))
    go_wp2
    go_ret
    exact ⟨by rw [HE.out]; rfl, HB.out⟩
  have e6 : (kd == 1) = false := beq_eq_false_iff_ne.2 h6
  have g6 : (kd != 1) = true := by rw [bne, e6]; rfl
  have K6 := Lib.hid h6
  clear h6
  by_cases h17 : kd = 4
  case pos =>
    subst h17
    go_upto_region 9 with (fail)
    by_cases h18 : rv < 1
    case pos =>
      have e18 : decide (rv < 1) = true := decide_eq_true h18
      have K18 := Lib.hid h18
      clear h18
      have HE : Hid (chkX ph r0 r1 gn sw 4 rv cn dy now = 1) := Lib.hid (by have k1 := K1.out; have k6 := K6.out; have k18 := K18.out; unfold chkX; (repeat' split) <;> first | rfl | (exfalso; omega))
      go_wp2
      go_ret
      exact ⟨by rw [HE.out]; rfl, HB.out⟩
    have e18 : decide (rv < 1) = false := decide_eq_false h18
    have K18 := Lib.hid h18
    clear h18
    by_cases h19 : 1073741824 < rv
    case pos =>
      have e19 : decide (1073741824 < rv) = true := decide_eq_true h19
      have K19 := Lib.hid h19
      clear h19
      have HE : Hid (chkX ph r0 r1 gn sw 4 rv cn dy now = 1) := Lib.hid (by have k1 := K1.out; have k6 := K6.out; have k18 := K18.out; have k19 := K19.out; unfold chkX; (repeat' split) <;> first | rfl | (exfalso; omega))
      go_wp2
      go_ret
      exact ⟨by rw [HE.out]; rfl, HB.out⟩
    have e19 : decide (1073741824 < rv) = false := decide_eq_false h19
    have K19 := Lib.hid h19
    clear h19
    go_upto_region 12 with (fail)
    by_cases h20 : ph = 2
    case pos =>
      have e20 : (ph == 2) = true := by rw [h20]; exact beq_self_eq_true _
      have g20 : (ph != 2) = false := by rw [bne, e20]; rfl
      have K20 := Lib.hid h20
      clear h20
      go_upto_region 14 with (fail)
      by_cases h21 : rv = r1
      case pos =>
        have e21 : (rv == r1) = true := by rw [h21]; exact beq_self_eq_true _
        have g21 : (rv != r1) = false := by rw [bne, e21]; rfl
        have K21 := Lib.hid h21
        clear h21
        have HE : Hid (chkX ph r0 r1 gn sw 4 rv cn dy now = 0) := Lib.hid (by have k1 := K1.out; have k6 := K6.out; have k18 := K18.out; have k19 := K19.out; have k20 := K20.out; have k21 := K21.out; unfold chkX; (repeat' split) <;> first | rfl | (exfalso; omega))
        go_wp2
        go_ret
        exact ⟨by rw [HE.out]; rfl, HB.out⟩
      have e21 : (rv == r1) = false := beq_eq_false_iff_ne.2 h21
      have g21 : (rv != r1) = true := by rw [bne, e21]; rfl
      have K21 := Lib.hid h21
      clear h21
      have HE : Hid (chkX ph r0 r1 gn sw 4 rv cn dy now = 13) := Lib.hid (by have k1 := K1.out; have k6 := K6.out; have k18 := K18.out; have k19 := K19.out; have k20 := K20.out; have k21 := K21.out; unfold chkX; (repeat' split) <;> first | rfl | (exfalso; omega))
      go_wp2
      go_ret
      exact ⟨by rw [HE.out]; rfl, HB.out⟩
    have e20 : (ph == 2) = false := beq_eq_false_iff_ne.2 h20
    have g20 : (ph != 2) = true := by rw [bne, e20]; rfl
    have K20 := Lib.hid h20
    clear h20
    have HE : Hid (chkX ph r0 r1 gn sw 4 rv cn dy now = 7) := Lib.hid (by have k1 := K1.out; have k6 := K6.out; have k18 := K18.out; have k19 := K19.out; have k20 := K20.out; unfold chkX; (repeat' split) <;> first | rfl | (exfalso; omega))
    go_wp2
    go_ret
    exact ⟨by rw [HE.out]; rfl, HB.out⟩
  have e17 : (kd == 4) = false := beq_eq_false_iff_ne.2 h17
  have g17 : (kd != 4) = true := by rw [bne, e17]; rfl
  have K17 := Lib.hid h17
  clear h17
  by_cases h22 : kd = 9
  case pos =>
    subst h22
    go_upto_region 9 with (fail)
    by_cases h23 : rv < 1
    case pos =>
      have e23 : decide (rv < 1) = true := decide_eq_true h23
      have K23 := Lib.hid h23
      clear h23
      have HE : Hid (chkX ph r0 r1 gn sw 9 rv cn dy now = 1) := Lib.hid (by have k1 := K1.out; have k6 := K6.out; have k17 := K17.out; have k23 := K23.out; unfold chkX; (repeat' split) <;> first | rfl | (exfalso; omega))
      go_wp2
      go_ret
      exact ⟨by rw [HE.out]; rfl, HB.out⟩
    have e23 : decide (rv < 1) = false := decide_eq_false h23
    have K23 := Lib.hid h23
    clear h23
    by_cases h24 : 1073741824 < rv
    case pos =>
      have e24 : decide (1073741824 < rv) = true := decide_eq_true h24
      have K24 := Lib.hid h24
      clear h24
      have HE : Hid (chkX ph r0 r1 gn sw 9 rv cn dy now = 1) := Lib.hid (by have k1 := K1.out; have k6 := K6.out; have k17 := K17.out; have k23 := K23.out; have k24 := K24.out; unfold chkX; (repeat' split) <;> first | rfl | (exfalso; omega))
      go_wp2
      go_ret
      exact ⟨by rw [HE.out]; rfl, HB.out⟩
    have e24 : decide (1073741824 < rv) = false := decide_eq_false h24
    have K24 := Lib.hid h24
    clear h24
    go_upto_region 18 with (fail)
    by_cases h25 : ph = 4
    case pos =>
      have e25 : (ph == 4) = true := by rw [h25]; exact beq_self_eq_true _
      have g25 : (ph != 4) = false := by rw [bne, e25]; rfl
      have K25 := Lib.hid h25
      clear h25
      go_upto_region 20 with (fail)
      by_cases h26 : rv = r0
      case pos =>
        have e26 : (rv == r0) = true := by rw [h26]; exact beq_self_eq_true _
        have g26 : (rv != r0) = false := by rw [bne, e26]; rfl
        have K26 := Lib.hid h26
        clear h26
        have HE : Hid (chkX ph r0 r1 gn sw 9 rv cn dy now = 0) := Lib.hid (by have k1 := K1.out; have k6 := K6.out; have k17 := K17.out; have k23 := K23.out; have k24 := K24.out; have k25 := K25.out; have k26 := K26.out; unfold chkX; (repeat' split) <;> first | rfl | (exfalso; omega))
        go_wp2
        go_ret
        exact ⟨by rw [HE.out]; rfl, HB.out⟩
      have e26 : (rv == r0) = false := beq_eq_false_iff_ne.2 h26
      have g26 : (rv != r0) = true := by rw [bne, e26]; rfl
      have K26 := Lib.hid h26
      clear h26
      have HE : Hid (chkX ph r0 r1 gn sw 9 rv cn dy now = 13) := Lib.hid (by have k1 := K1.out; have k6 := K6.out; have k17 := K17.out; have k23 := K23.out; have k24 := K24.out; have k25 := K25.out; have k26 := K26.out; unfold chkX; (repeat' split) <;> first | rfl | (exfalso; omega))
      go_wp2
      go_ret
      exact ⟨by rw [HE.out]; rfl, HB.out⟩
    have e25 : (ph == 4) = false := beq_eq_false_iff_ne.2 h25
    have g25 : (ph != 4) = true := by rw [bne, e25]; rfl
    have K25 := Lib.hid h25
    clear h25
    have HE : Hid (chkX ph r0 r1 gn sw 9 rv cn dy now = 7) := Lib.hid (by have k1 := K1.out; have k6 := K6.out; have k17 := K17.out; have k23 := K23.out; have k24 := K24.out; have k25 := K25.out; unfold chkX; (repeat' split) <;> first | rfl | (exfalso; omega))
    go_wp2
    go_ret
    exact ⟨by rw [HE.out]; rfl, HB.out⟩
  have e22 : (kd == 9) = false := beq_eq_false_iff_ne.2 h22
  have g22 : (kd != 9) = true := by rw [bne, e22]; rfl
  have K22 := Lib.hid h22
  clear h22
  have HE : Hid (chkX ph r0 r1 gn sw kd rv cn dy now = 6) := Lib.hid (by have k1 := K1.out; have k6 := K6.out; have k17 := K17.out; have k22 := K22.out; unfold chkX; (repeat' split) <;> first | rfl | (exfalso; omega))
  go_wp2
  go_ret
  exact ⟨by rw [HE.out]; rfl, HB.out⟩
end Go.Proofs.YtchaeidmjoelnaaGreat
