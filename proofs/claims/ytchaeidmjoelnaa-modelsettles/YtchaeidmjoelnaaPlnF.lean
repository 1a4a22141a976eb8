/-
  The document's own Full, and its Less.
-/
import Derived.Test.YtchaeidmjoelnaaPlnS
import Derived.Test.YtchaeidmjoelnaaEqs
namespace Go.Proofs.Ytchaeidmjoelnaa
open Go.RowKit

theorem u64w (n : Int) : IntKind.u64.wrap n = n % 18446744073709551616 := by
  simp [IntKind.wrap, IntKind.bits, IntKind.signed]
theorem ret_int {k : IntKind} {a b : Int} (h : a = b) : Ending.returned (.int k a) = .returned (.int k b) := by rw [h]
set_option maxRecDepth 100000 in
set_option maxHeartbeats 8000000 in
theorem mfull_0 (ph ac r0 r1 w0 w1 dl gn sw fl a0 a1 b0 b1 : Int) (p0 p1 : Bool) (cs vs : Array Value) (w : World) (hcs : cs = stC ⟨ph, ac, r0, r1, w0, w1, p0, p1, dl, gn, sw, fl⟩) (hvs : vs = vwC ⟨a0, a1, b0, b1⟩) : Calls Try.prog 15 #[.agg cs, .agg vs, .int .i64 0] w fun e w' => e = .returned (.bool (fullX w0 a0 b0)) ∧ Below w.heap.size w w' := by
  have HC := Lib.hid hcs
  have HV := Lib.hid hvs
  clear hcs hvs
  go_enter Try.func15, Try.ntmps15
  go_upto_region 1 with (fail)
  refine name_w (fun W => Rw W w.heap.size cs 38 ∧ Rw W (w.heap.size + 1) vs 42 ∧ Below w.heap.size w W) ⟨(Rw.new _ _ _).alloc _, ?_, ((Below.refl _ _).alloc (Nat.le_refl _) _).alloc (by simp) _⟩ ?_
  · have h1 := Rw.new (w.alloc (.cells cs 38)) vs 42
    rw [size_alloc] at h1
    exact h1
  rintro W ⟨hR, hP, hb⟩
  have HB := Lib.hid hb
  have c0 : W.cell? ⟨w.heap.size, 0, none⟩ = some (.int .i64 ph) := by rw [hR.cell 0, HC.out]; rfl
  have c1 : W.cell? ⟨w.heap.size, 1, none⟩ = some (.int .i64 ac) := by rw [hR.cell 1, HC.out]; rfl
  have c2 : W.cell? ⟨w.heap.size, 2, none⟩ = some (.int .i64 r0) := by rw [hR.cell 2, HC.out]; rfl
  have c3 : W.cell? ⟨w.heap.size, 3, none⟩ = some (.int .i64 r1) := by rw [hR.cell 3, HC.out]; rfl
  have c4 : W.cell? ⟨w.heap.size, 4, none⟩ = some (.int .i64 w0) := by rw [hR.cell 4, HC.out]; rfl
  have c5 : W.cell? ⟨w.heap.size, 5, none⟩ = some (.int .i64 w1) := by rw [hR.cell 5, HC.out]; rfl
  have c6 : W.cell? ⟨w.heap.size, 6, none⟩ = some (.bool p0) := by rw [hR.cell 6, HC.out]; rfl
  have c7 : W.cell? ⟨w.heap.size, 7, none⟩ = some (.bool p1) := by rw [hR.cell 7, HC.out]; rfl
  have c8 : W.cell? ⟨w.heap.size, 8, none⟩ = some (.int .i64 dl) := by rw [hR.cell 8, HC.out]; rfl
  have c9 : W.cell? ⟨w.heap.size, 9, none⟩ = some (.int .i64 gn) := by rw [hR.cell 9, HC.out]; rfl
  have c10 : W.cell? ⟨w.heap.size, 10, none⟩ = some (.int .i64 sw) := by rw [hR.cell 10, HC.out]; rfl
  have c11 : W.cell? ⟨w.heap.size, 11, none⟩ = some (.int .i64 fl) := by rw [hR.cell 11, HC.out]; rfl
  have d0 : W.cell? ⟨w.heap.size + 1, 0, none⟩ = some (.int .i64 a0) := by rw [hP.cell 0, HV.out]; rfl
  have d1 : W.cell? ⟨w.heap.size + 1, 1, none⟩ = some (.int .i64 a1) := by rw [hP.cell 1, HV.out]; rfl
  have d2 : W.cell? ⟨w.heap.size + 1, 2, none⟩ = some (.int .i64 b0) := by rw [hP.cell 2, HV.out]; rfl
  have d3 : W.cell? ⟨w.heap.size + 1, 3, none⟩ = some (.int .i64 b1) := by rw [hP.cell 3, HV.out]; rfl
  clear hR hP hb
  by_cases h1 : 1 ≤ w0
  case neg =>
    have e1 : decide (1 ≤ w0) = false := decide_eq_false h1
    have HE : Hid (fullX w0 a0 b0 = false) := Lib.hid (by unfold fullX; rw [e1]; rfl)
    clear h1
    go_wp2
    go_ret
    exact ⟨by rw [HE.out]; rfl, HB.out⟩
  have e1 : decide (1 ≤ w0) = true := decide_eq_true h1
  clear h1
  cases e2 : (a0 == w0) with
  | false =>
    have HE : Hid (fullX w0 a0 b0 = false) := Lib.hid (by unfold fullX; rw [e1, e2]; rfl)
    go_wp2
    go_ret
    exact ⟨by rw [HE.out]; rfl, HB.out⟩
  | true =>
    have HE : Hid (fullX w0 a0 b0 = (b0 == w0)) := Lib.hid (by unfold fullX; rw [e1, e2]; rfl)
    obtain ⟨x, e3⟩ : ∃ x, x = (b0 == w0) := ⟨_, rfl⟩
    have HX := Lib.hid e3
    have e4 := e3.symm
    clear e3
    go_wp2
    go_ret
    exact ⟨by rw [HE.out, ← HX.out]; rfl, HB.out⟩
set_option maxRecDepth 100000 in
set_option maxHeartbeats 8000000 in
theorem mfull_1 (ph ac r0 r1 w0 w1 dl gn sw fl a0 a1 b0 b1 : Int) (p0 p1 : Bool) (cs vs : Array Value) (w : World) (hcs : cs = stC ⟨ph, ac, r0, r1, w0, w1, p0, p1, dl, gn, sw, fl⟩) (hvs : vs = vwC ⟨a0, a1, b0, b1⟩) : Calls Try.prog 15 #[.agg cs, .agg vs, .int .i64 1] w fun e w' => e = .returned (.bool (fullX w1 a1 b1)) ∧ Below w.heap.size w w' := by
  have HC := Lib.hid hcs
  have HV := Lib.hid hvs
  clear hcs hvs
  go_enter Try.func15, Try.ntmps15
  go_upto_region 1 with (fail)
  refine name_w (fun W => Rw W w.heap.size cs 38 ∧ Rw W (w.heap.size + 1) vs 42 ∧ Below w.heap.size w W) ⟨(Rw.new _ _ _).alloc _, ?_, ((Below.refl _ _).alloc (Nat.le_refl _) _).alloc (by simp) _⟩ ?_
  · have h1 := Rw.new (w.alloc (.cells cs 38)) vs 42
    rw [size_alloc] at h1
    exact h1
  rintro W ⟨hR, hP, hb⟩
  have HB := Lib.hid hb
  have c0 : W.cell? ⟨w.heap.size, 0, none⟩ = some (.int .i64 ph) := by rw [hR.cell 0, HC.out]; rfl
  have c1 : W.cell? ⟨w.heap.size, 1, none⟩ = some (.int .i64 ac) := by rw [hR.cell 1, HC.out]; rfl
  have c2 : W.cell? ⟨w.heap.size, 2, none⟩ = some (.int .i64 r0) := by rw [hR.cell 2, HC.out]; rfl
  have c3 : W.cell? ⟨w.heap.size, 3, none⟩ = some (.int .i64 r1) := by rw [hR.cell 3, HC.out]; rfl
  have c4 : W.cell? ⟨w.heap.size, 4, none⟩ = some (.int .i64 w0) := by rw [hR.cell 4, HC.out]; rfl
  have c5 : W.cell? ⟨w.heap.size, 5, none⟩ = some (.int .i64 w1) := by rw [hR.cell 5, HC.out]; rfl
  have c6 : W.cell? ⟨w.heap.size, 6, none⟩ = some (.bool p0) := by rw [hR.cell 6, HC.out]; rfl
  have c7 : W.cell? ⟨w.heap.size, 7, none⟩ = some (.bool p1) := by rw [hR.cell 7, HC.out]; rfl
  have c8 : W.cell? ⟨w.heap.size, 8, none⟩ = some (.int .i64 dl) := by rw [hR.cell 8, HC.out]; rfl
  have c9 : W.cell? ⟨w.heap.size, 9, none⟩ = some (.int .i64 gn) := by rw [hR.cell 9, HC.out]; rfl
  have c10 : W.cell? ⟨w.heap.size, 10, none⟩ = some (.int .i64 sw) := by rw [hR.cell 10, HC.out]; rfl
  have c11 : W.cell? ⟨w.heap.size, 11, none⟩ = some (.int .i64 fl) := by rw [hR.cell 11, HC.out]; rfl
  have d0 : W.cell? ⟨w.heap.size + 1, 0, none⟩ = some (.int .i64 a0) := by rw [hP.cell 0, HV.out]; rfl
  have d1 : W.cell? ⟨w.heap.size + 1, 1, none⟩ = some (.int .i64 a1) := by rw [hP.cell 1, HV.out]; rfl
  have d2 : W.cell? ⟨w.heap.size + 1, 2, none⟩ = some (.int .i64 b0) := by rw [hP.cell 2, HV.out]; rfl
  have d3 : W.cell? ⟨w.heap.size + 1, 3, none⟩ = some (.int .i64 b1) := by rw [hP.cell 3, HV.out]; rfl
  clear hR hP hb
  by_cases h1 : 1 ≤ w1
  case neg =>
    have e1 : decide (1 ≤ w1) = false := decide_eq_false h1
    have HE : Hid (fullX w1 a1 b1 = false) := Lib.hid (by unfold fullX; rw [e1]; rfl)
    clear h1
    go_wp2
    go_ret
    exact ⟨by rw [HE.out]; rfl, HB.out⟩
  have e1 : decide (1 ≤ w1) = true := decide_eq_true h1
  clear h1
  cases e2 : (a1 == w1) with
  | false =>
    have HE : Hid (fullX w1 a1 b1 = false) := Lib.hid (by unfold fullX; rw [e1, e2]; rfl)
    go_wp2
    go_ret
    exact ⟨by rw [HE.out]; rfl, HB.out⟩
  | true =>
    have HE : Hid (fullX w1 a1 b1 = (b1 == w1)) := Lib.hid (by unfold fullX; rw [e1, e2]; rfl)
    obtain ⟨x, e3⟩ : ∃ x, x = (b1 == w1) := ⟨_, rfl⟩
    have HX := Lib.hid e3
    have e4 := e3.symm
    clear e3
    go_wp2
    go_ret
    exact ⟨by rw [HE.out, ← HX.out]; rfl, HB.out⟩
set_option maxRecDepth 100000 in
set_option maxHeartbeats 8000000 in
theorem mfull_no (s : St) (v : Vw) (slot : Int) (w : World) (h0 : slot ≠ 0) (h1 : slot ≠ 1) : Calls Try.prog 15 #[stV s, vwV v, .int .i64 slot] w fun e w' => e = .returned (.bool false) ∧ Below w.heap.size w w' := by
  have e0 : (slot == 0) = false := beq_eq_false_iff_ne.2 h0
  have e1 : (slot == 1) = false := beq_eq_false_iff_ne.2 h1
  have g0 : (slot != 0) = true := bne_iff_ne.2 h0
  have g1 : (slot != 1) = true := bne_iff_ne.2 h1
  unfold stV vwV
  obtain ⟨cs, hcs⟩ : ∃ c, c = stC s := ⟨_, rfl⟩
  obtain ⟨vs, hvs⟩ : ∃ c, c = vwC v := ⟨_, rfl⟩
  rw [← hcs, ← hvs]
  clear h0 h1 hcs hvs
  go_enter Try.func15, Try.ntmps15
  go_wp2
  go_ret
  exact ⟨rfl, ((Below.refl _ _).alloc (Nat.le_refl _) _).alloc (by simp) _⟩
theorem mfull_any (s : St) (v : Vw) (slot : Int) (w : World) : Calls Try.prog 15 #[stV s, vwV v, .int .i64 slot] w fun e w' => e = .returned (.bool (fullS s v slot)) ∧ Below w.heap.size w w' := by
  unfold fullS
  by_cases h0 : slot = 0
  · subst h0
    obtain ⟨ph, ac, r0, r1, w0, w1, p0, p1, dl, gn, sw, fl⟩ := s
    obtain ⟨a0, a1, b0, b1⟩ := v
    rw [if_pos rfl]
    exact mfull_0 ph ac r0 r1 w0 w1 dl gn sw fl a0 a1 b0 b1 p0 p1 _ _ w rfl rfl
  by_cases h1 : slot = 1
  · subst h1
    obtain ⟨ph, ac, r0, r1, w0, w1, p0, p1, dl, gn, sw, fl⟩ := s
    obtain ⟨a0, a1, b0, b1⟩ := v
    rw [if_neg (by decide), if_pos rfl]
    exact mfull_1 ph ac r0 r1 w0 w1 dl gn sw fl a0 a1 b0 b1 p0 p1 _ _ w rfl rfl
  rw [if_neg h0, if_neg h1]
  exact mfull_no s v slot w h0 h1
end Go.Proofs.Ytchaeidmjoelnaa
