/-
  What package fold's own tests of a state answer.
-/
import Derived.Test.YtchaeidmjoelnaaStStep
namespace Go.Proofs.Ytchaeidmjoelnaa
open Go.RowKit

def inR (n lo hi : Int) : Bool := decide (lo ≤ n) && decide (n ≤ hi)
theorem within_any (n lo hi : Int) (w : World) : Calls Try.prog 63 #[.int .i64 n, .int .i64 lo, .int .i64 hi] w fun e w' => e = .returned (.bool (inR n lo hi)) ∧ w' = w := by
  by_cases h : lo ≤ n
  · have e1 : decide (lo ≤ n) = true := by simpa using h
    have HE : Hid (inR n lo hi = decide (n ≤ hi)) := Lib.hid (by unfold inR; rw [e1]; rfl)
    clear h
    go_enter Try.func63, Try.ntmps63
    go_wp2
    go_ret
    exact ⟨by rw [HE.out]; rfl, rfl⟩
  · have e1 : decide (lo ≤ n) = false := by simpa using h
    have HE : Hid (inR n lo hi = false) := Lib.hid (by unfold inR; rw [e1]; rfl)
    clear h
    go_enter Try.func63, Try.ntmps63
    go_wp2
    go_ret
    exact ⟨by rw [HE.out]; rfl, rfl⟩
set_option maxRecDepth 100000 in
set_option maxHeartbeats 4000000 in
theorem other_0 (s : St) (w : World) (hac : s.ac = 0) : Calls Try.prog 64 #[stV s] w fun e w' => e = .returned (.int .i64 1) ∧ Below w.heap.size w w' := by
  obtain ⟨ph, ac, r0, r1, w0, w1, p0, p1, dl, gn, sw, fl⟩ := s
  obtain rfl : ac = 0 := hac
  unfold stV
  obtain ⟨cs, hcs⟩ : ∃ c, c = stC ⟨ph, 0, r0, r1, w0, w1, p0, p1, dl, gn, sw, fl⟩ := ⟨_, rfl⟩
  rw [← hcs]
  have HC := Lib.hid hcs
  have HZC : Hid (cs.size = 12) := Lib.hid (by rw [hcs]; rfl)
  clear hcs
  go_enter Try.func64, Try.ntmps64
  go_upto_region 1 with (fail)
  refine name_w (fun W => Rw W w.heap.size cs 38 ∧ Below w.heap.size w W) ⟨Rw.new _ _ _, (Below.refl _ _).alloc (Nat.le_refl _) _⟩ ?_
  rintro W ⟨hR, hb⟩
  have HB := Lib.hid hb
  have HR := Lib.hid hR
  have c1 : W.cell? ⟨w.heap.size, 1, none⟩ = some (.int .i64 0) := by rw [hR.cell 1, HC.out]; rfl
  clear hR hb
  go_wp2
  go_ret
  exact ⟨rfl, HB.out⟩
set_option maxRecDepth 100000 in
set_option maxHeartbeats 4000000 in
theorem other_1 (s : St) (w : World) (hac : s.ac = 1) : Calls Try.prog 64 #[stV s] w fun e w' => e = .returned (.int .i64 0) ∧ Below w.heap.size w w' := by
  obtain ⟨ph, ac, r0, r1, w0, w1, p0, p1, dl, gn, sw, fl⟩ := s
  obtain rfl : ac = 1 := hac
  unfold stV
  obtain ⟨cs, hcs⟩ : ∃ c, c = stC ⟨ph, 1, r0, r1, w0, w1, p0, p1, dl, gn, sw, fl⟩ := ⟨_, rfl⟩
  rw [← hcs]
  have HC := Lib.hid hcs
  have HZC : Hid (cs.size = 12) := Lib.hid (by rw [hcs]; rfl)
  clear hcs
  go_enter Try.func64, Try.ntmps64
  go_upto_region 1 with (fail)
  refine name_w (fun W => Rw W w.heap.size cs 38 ∧ Below w.heap.size w W) ⟨Rw.new _ _ _, (Below.refl _ _).alloc (Nat.le_refl _) _⟩ ?_
  rintro W ⟨hR, hb⟩
  have HB := Lib.hid hb
  have HR := Lib.hid hR
  have c1 : W.cell? ⟨w.heap.size, 1, none⟩ = some (.int .i64 1) := by rw [hR.cell 1, HC.out]; rfl
  clear hR hb
  go_wp2
  go_ret
  exact ⟨rfl, HB.out⟩
def rangesS (s : St) : Bool := inR s.r0 0 1073741824 && inR s.w0 0 32 && inR s.r1 0 1073741824 && inR s.w1 0 32 && inR s.ph 0 7 && inR s.ac 0 1 && inR s.dl 0 65536 && inR s.gn 0 1048576 && inR s.sw 0 2 && inR s.fl 0 1073741824
set_option maxRecDepth 100000 in
set_option maxHeartbeats 4000000 in
theorem ranges_any (s : St) (w : World) : Calls Try.prog 52 #[stV s] w fun e w' => e = .returned (.bool (rangesS s)) ∧ Below w.heap.size w w' := by
  obtain ⟨ph, ac, r0, r1, w0, w1, p0, p1, dl, gn, sw, fl⟩ := s
  unfold stV
  obtain ⟨cs, hcs⟩ : ∃ c, c = stC ⟨ph, ac, r0, r1, w0, w1, p0, p1, dl, gn, sw, fl⟩ := ⟨_, rfl⟩
  rw [← hcs]
  have HC := Lib.hid hcs
  have HZC : Hid (cs.size = 12) := Lib.hid (by rw [hcs]; rfl)
  clear hcs
  go_enter Try.func52, Try.ntmps52
  go_upto_region 1 with (fail)
  refine name_w (fun W => Rw W w.heap.size cs 38 ∧ Below w.heap.size w W) ⟨Rw.new _ _ _, (Below.refl _ _).alloc (Nat.le_refl _) _⟩ ?_
  rintro W ⟨hR, hb⟩
  have HB := Lib.hid hb
  have HR := Lib.hid hR
  have c0 : W.cell? ⟨w.heap.size, 0, none⟩ = some (.int .i64 ph) := by rw [hR.cell 0, HC.out]; rfl
  have c1 : W.cell? ⟨w.heap.size, 1, none⟩ = some (.int .i64 ac) := by rw [hR.cell 1, HC.out]; rfl
  have c2 : W.cell? ⟨w.heap.size, 2, none⟩ = some (.int .i64 r0) := by rw [hR.cell 2, HC.out]; rfl
  have c3 : W.cell? ⟨w.heap.size, 3, none⟩ = some (.int .i64 r1) := by rw [hR.cell 3, HC.out]; rfl
  have c4 : W.cell? ⟨w.heap.size, 4, none⟩ = some (.int .i64 w0) := by rw [hR.cell 4, HC.out]; rfl
  have c5 : W.cell? ⟨w.heap.size, 5, none⟩ = some (.int .i64 w1) := by rw [hR.cell 5, HC.out]; rfl
  have c8 : W.cell? ⟨w.heap.size, 8, none⟩ = some (.int .i64 dl) := by rw [hR.cell 8, HC.out]; rfl
  have c9 : W.cell? ⟨w.heap.size, 9, none⟩ = some (.int .i64 gn) := by rw [hR.cell 9, HC.out]; rfl
  have c10 : W.cell? ⟨w.heap.size, 10, none⟩ = some (.int .i64 sw) := by rw [hR.cell 10, HC.out]; rfl
  have c11 : W.cell? ⟨w.heap.size, 11, none⟩ = some (.int .i64 fl) := by rw [hR.cell 11, HC.out]; rfl
  clear hR hb
  cases h0 : inR r0 0 1073741824 with
  | false =>
    have HE : Hid (rangesS ⟨ph, ac, r0, r1, w0, w1, p0, p1, dl, gn, sw, fl⟩ = false) := Lib.hid (by unfold rangesS; rw [h0]; first | done | rfl)
    go_wp2_with (first | (go_at_call 63; refine (within_any _ _ _ _).mono ?_; rintro e w' ⟨rfl, rfl⟩))
    refine wp_loop_rounds 3 ?_
    rw [rounds_succ]
    go_wp2_with (first | (go_at_call 63; refine (within_any _ _ _ _).mono ?_; rintro e w' ⟨rfl, rfl⟩))
    go_ret
    exact ⟨by rw [HE.out]; rfl, HB.out⟩
  | true =>
  cases h1 : inR w0 0 32 with
  | false =>
    have HE : Hid (rangesS ⟨ph, ac, r0, r1, w0, w1, p0, p1, dl, gn, sw, fl⟩ = false) := Lib.hid (by unfold rangesS; rw [h0, h1]; first | done | rfl)
    go_wp2_with (first | (go_at_call 63; refine (within_any _ _ _ _).mono ?_; rintro e w' ⟨rfl, rfl⟩))
    refine wp_loop_rounds 3 ?_
    rw [rounds_succ]
    go_wp2_with (first | (go_at_call 63; refine (within_any _ _ _ _).mono ?_; rintro e w' ⟨rfl, rfl⟩))
    go_ret
    exact ⟨by rw [HE.out]; rfl, HB.out⟩
  | true =>
  cases h2 : inR r1 0 1073741824 with
  | false =>
    have HE : Hid (rangesS ⟨ph, ac, r0, r1, w0, w1, p0, p1, dl, gn, sw, fl⟩ = false) := Lib.hid (by unfold rangesS; rw [h0, h1, h2]; first | done | rfl)
    go_wp2_with (first | (go_at_call 63; refine (within_any _ _ _ _).mono ?_; rintro e w' ⟨rfl, rfl⟩))
    refine wp_loop_rounds 3 ?_
    rw [rounds_succ]
    go_wp2_with (first | (go_at_call 63; refine (within_any _ _ _ _).mono ?_; rintro e w' ⟨rfl, rfl⟩))
    rw [rounds_succ]
    go_wp2_with (first | (go_at_call 63; refine (within_any _ _ _ _).mono ?_; rintro e w' ⟨rfl, rfl⟩))
    go_ret
    exact ⟨by rw [HE.out]; rfl, HB.out⟩
  | true =>
  cases h3 : inR w1 0 32 with
  | false =>
    have HE : Hid (rangesS ⟨ph, ac, r0, r1, w0, w1, p0, p1, dl, gn, sw, fl⟩ = false) := Lib.hid (by unfold rangesS; rw [h0, h1, h2, h3]; first | done | rfl)
    go_wp2_with (first | (go_at_call 63; refine (within_any _ _ _ _).mono ?_; rintro e w' ⟨rfl, rfl⟩))
    refine wp_loop_rounds 3 ?_
    rw [rounds_succ]
    go_wp2_with (first | (go_at_call 63; refine (within_any _ _ _ _).mono ?_; rintro e w' ⟨rfl, rfl⟩))
    rw [rounds_succ]
    go_wp2_with (first | (go_at_call 63; refine (within_any _ _ _ _).mono ?_; rintro e w' ⟨rfl, rfl⟩))
    go_ret
    exact ⟨by rw [HE.out]; rfl, HB.out⟩
  | true =>
  cases h4 : inR ph 0 7 with
  | false =>
    have HE : Hid (rangesS ⟨ph, ac, r0, r1, w0, w1, p0, p1, dl, gn, sw, fl⟩ = false) := Lib.hid (by unfold rangesS; rw [h0, h1, h2, h3, h4]; first | done | rfl)
    go_wp2_with (first | (go_at_call 63; refine (within_any _ _ _ _).mono ?_; rintro e w' ⟨rfl, rfl⟩))
    refine wp_loop_rounds 3 ?_
    rw [rounds_succ]
    go_wp2_with (first | (go_at_call 63; refine (within_any _ _ _ _).mono ?_; rintro e w' ⟨rfl, rfl⟩))
    rw [rounds_succ]
    go_wp2_with (first | (go_at_call 63; refine (within_any _ _ _ _).mono ?_; rintro e w' ⟨rfl, rfl⟩))
    rw [rounds_succ]
    go_wp2_with (first | (go_at_call 63; refine (within_any _ _ _ _).mono ?_; rintro e w' ⟨rfl, rfl⟩))
    go_ret
    exact ⟨by rw [HE.out]; rfl, HB.out⟩
  | true =>
  cases h5 : inR ac 0 1 with
  | false =>
    have HE : Hid (rangesS ⟨ph, ac, r0, r1, w0, w1, p0, p1, dl, gn, sw, fl⟩ = false) := Lib.hid (by unfold rangesS; rw [h0, h1, h2, h3, h4, h5]; first | done | rfl)
    go_wp2_with (first | (go_at_call 63; refine (within_any _ _ _ _).mono ?_; rintro e w' ⟨rfl, rfl⟩))
    refine wp_loop_rounds 3 ?_
    rw [rounds_succ]
    go_wp2_with (first | (go_at_call 63; refine (within_any _ _ _ _).mono ?_; rintro e w' ⟨rfl, rfl⟩))
    rw [rounds_succ]
    go_wp2_with (first | (go_at_call 63; refine (within_any _ _ _ _).mono ?_; rintro e w' ⟨rfl, rfl⟩))
    rw [rounds_succ]
    go_wp2_with (first | (go_at_call 63; refine (within_any _ _ _ _).mono ?_; rintro e w' ⟨rfl, rfl⟩))
    go_ret
    exact ⟨by rw [HE.out]; rfl, HB.out⟩
  | true =>
  cases h6 : inR dl 0 65536 with
  | false =>
    have HE : Hid (rangesS ⟨ph, ac, r0, r1, w0, w1, p0, p1, dl, gn, sw, fl⟩ = false) := Lib.hid (by unfold rangesS; rw [h0, h1, h2, h3, h4, h5, h6]; first | done | rfl)
    go_wp2_with (first | (go_at_call 63; refine (within_any _ _ _ _).mono ?_; rintro e w' ⟨rfl, rfl⟩))
    refine wp_loop_rounds 3 ?_
    rw [rounds_succ]
    go_wp2_with (first | (go_at_call 63; refine (within_any _ _ _ _).mono ?_; rintro e w' ⟨rfl, rfl⟩))
    rw [rounds_succ]
    go_wp2_with (first | (go_at_call 63; refine (within_any _ _ _ _).mono ?_; rintro e w' ⟨rfl, rfl⟩))
    rw [rounds_succ]
    go_wp2_with (first | (go_at_call 63; refine (within_any _ _ _ _).mono ?_; rintro e w' ⟨rfl, rfl⟩))
    go_ret
    exact ⟨by rw [HE.out]; rfl, HB.out⟩
  | true =>
  cases h7 : inR gn 0 1048576 with
  | false =>
    have HE : Hid (rangesS ⟨ph, ac, r0, r1, w0, w1, p0, p1, dl, gn, sw, fl⟩ = false) := Lib.hid (by unfold rangesS; rw [h0, h1, h2, h3, h4, h5, h6, h7]; first | done | rfl)
    go_wp2_with (first | (go_at_call 63; refine (within_any _ _ _ _).mono ?_; rintro e w' ⟨rfl, rfl⟩))
    refine wp_loop_rounds 3 ?_
    rw [rounds_succ]
    go_wp2_with (first | (go_at_call 63; refine (within_any _ _ _ _).mono ?_; rintro e w' ⟨rfl, rfl⟩))
    rw [rounds_succ]
    go_wp2_with (first | (go_at_call 63; refine (within_any _ _ _ _).mono ?_; rintro e w' ⟨rfl, rfl⟩))
    rw [rounds_succ]
    go_wp2_with (first | (go_at_call 63; refine (within_any _ _ _ _).mono ?_; rintro e w' ⟨rfl, rfl⟩))
    go_ret
    exact ⟨by rw [HE.out]; rfl, HB.out⟩
  | true =>
  cases h8 : inR sw 0 2 with
  | false =>
    have HE : Hid (rangesS ⟨ph, ac, r0, r1, w0, w1, p0, p1, dl, gn, sw, fl⟩ = false) := Lib.hid (by unfold rangesS; rw [h0, h1, h2, h3, h4, h5, h6, h7, h8]; first | done | rfl)
    go_wp2_with (first | (go_at_call 63; refine (within_any _ _ _ _).mono ?_; rintro e w' ⟨rfl, rfl⟩))
    refine wp_loop_rounds 3 ?_
    rw [rounds_succ]
    go_wp2_with (first | (go_at_call 63; refine (within_any _ _ _ _).mono ?_; rintro e w' ⟨rfl, rfl⟩))
    rw [rounds_succ]
    go_wp2_with (first | (go_at_call 63; refine (within_any _ _ _ _).mono ?_; rintro e w' ⟨rfl, rfl⟩))
    rw [rounds_succ]
    go_wp2_with (first | (go_at_call 63; refine (within_any _ _ _ _).mono ?_; rintro e w' ⟨rfl, rfl⟩))
    go_ret
    exact ⟨by rw [HE.out]; rfl, HB.out⟩
  | true =>
  cases h9 : inR fl 0 1073741824 with
  | false =>
    have HE : Hid (rangesS ⟨ph, ac, r0, r1, w0, w1, p0, p1, dl, gn, sw, fl⟩ = false) := Lib.hid (by unfold rangesS; rw [h0, h1, h2, h3, h4, h5, h6, h7, h8, h9]; first | done | rfl)
    go_wp2_with (first | (go_at_call 63; refine (within_any _ _ _ _).mono ?_; rintro e w' ⟨rfl, rfl⟩))
    refine wp_loop_rounds 3 ?_
    rw [rounds_succ]
    go_wp2_with (first | (go_at_call 63; refine (within_any _ _ _ _).mono ?_; rintro e w' ⟨rfl, rfl⟩))
    rw [rounds_succ]
    go_wp2_with (first | (go_at_call 63; refine (within_any _ _ _ _).mono ?_; rintro e w' ⟨rfl, rfl⟩))
    rw [rounds_succ]
    go_wp2_with (first | (go_at_call 63; refine (within_any _ _ _ _).mono ?_; rintro e w' ⟨rfl, rfl⟩))
    go_ret
    exact ⟨by rw [HE.out]; rfl, HB.out⟩
  | true =>
  have HE : Hid (rangesS ⟨ph, ac, r0, r1, w0, w1, p0, p1, dl, gn, sw, fl⟩ = true) := Lib.hid (by unfold rangesS; rw [h0, h1, h2, h3, h4, h5, h6, h7, h8, h9]; first | done | rfl)
  go_wp2_with (first | (go_at_call 63; refine (within_any _ _ _ _).mono ?_; rintro e w' ⟨rfl, rfl⟩))
  refine wp_loop_rounds 3 ?_
  rw [rounds_succ]
  go_wp2_with (first | (go_at_call 63; refine (within_any _ _ _ _).mono ?_; rintro e w' ⟨rfl, rfl⟩))
  rw [rounds_succ]
  go_wp2_with (first | (go_at_call 63; refine (within_any _ _ _ _).mono ?_; rintro e w' ⟨rfl, rfl⟩))
  rw [rounds_succ]
  go_wp2_with (first | (go_at_call 63; refine (within_any _ _ _ _).mono ?_; rintro e w' ⟨rfl, rfl⟩))
  go_ret
  exact ⟨by rw [HE.out]; rfl, HB.out⟩
end Go.Proofs.Ytchaeidmjoelnaa
