/-
  What the document's own Blank, pick and Right answer.
-/
import Derived.Test.YtchaeidmjoelnaaStRight0
import Derived.Test.YtchaeidmjoelnaaStRight1
namespace Go.Proofs.Ytchaeidmjoelnaa
open Go.RowKit

theorem i12 : (Try.prog.info? 38).map (·.size) = some 12 := by kernel_rfl
theorem i19 : (Try.prog.info? 72).map (·.size) = some 19 := by kernel_rfl
def zeroSC : Array Value := stC zeroS
/-- What a call leaves that answers a state. -/
def GotS (s : St) (w : World) (e : Ending) (w' : World) : Prop := e = .returned (stV s) ∧ Below w.heap.size w w'
/-- What a call leaves that answers a state and a bool. -/
def StepR (x : St × Bool) (w : World) (e : Ending) (w' : World) : Prop := e = .returned (.tuple #[stV x.1, .bool x.2]) ∧ Below w.heap.size w w'
set_option maxRecDepth 100000 in
set_option maxHeartbeats 2000000 in
theorem mright_no (s : St) (w : World) (h0 : s.ac ≠ 0) (h1 : s.ac ≠ 1) : Calls Try.prog 14 #[stV s] w fun e w' => e = .returned (.bool (rightS s)) ∧ Below w.heap.size w w' := by
  have HE : Hid (rightS s = false) := Lib.hid (by unfold rightS; rw [if_neg h0, if_neg h1])
  obtain ⟨ph, ac, r0, r1, w0, w1, p0, p1, dl, gn, sw, fl⟩ := s
  unfold stV
  obtain ⟨cs, hcs⟩ : ∃ c, c = stC ⟨ph, ac, r0, r1, w0, w1, p0, p1, dl, gn, sw, fl⟩ := ⟨_, rfl⟩
  rw [← hcs]
  have HC := Lib.hid hcs
  have n0 : (ac != 0) = true := by simpa using h0
  have n1 : (ac != 1) = true := by simpa using h1
  clear hcs h0 h1
  go_enter Try.func14, Try.ntmps14
  go_upto_region 1 with (fail)
  refine name_w (fun W => Rw W w.heap.size cs 38 ∧ Below w.heap.size w W) ⟨Rw.new _ _ _, (Below.refl _ _).alloc (Nat.le_refl _) _⟩ ?_
  rintro W ⟨hR, hb⟩
  have HB := Lib.hid hb
  have c0 : W.cell? ⟨w.heap.size, 0, none⟩ = some (.int .i64 ph) := by rw [hR.cell 0, HC.out]; rfl
  have c1 : W.cell? ⟨w.heap.size, 1, none⟩ = some (.int .i64 ac) := by rw [hR.cell 1, HC.out]; rfl
  clear hR hb
  by_cases k1 : ph < 0
  · have e1 : decide (ph < 0) = true := by simpa using k1
    go_wp2
    go_ret
    exact ⟨by rw [HE.out]; rfl, HB.out⟩
  have e1 : decide (ph < 0) = false := by simpa using k1
  by_cases k2 : 7 < ph
  · have e2 : decide (7 < ph) = true := by simpa using k2
    go_wp2
    go_ret
    exact ⟨by rw [HE.out]; rfl, HB.out⟩
  have e2 : decide (7 < ph) = false := by simpa using k2
  go_wp2
  go_ret
  exact ⟨by rw [HE.out]; rfl, HB.out⟩
theorem mright_any (s : St) (w : World) : Calls Try.prog 14 #[stV s] w fun e w' => e = .returned (.bool (rightS s)) ∧ Below w.heap.size w w' := by
  by_cases h0 : s.ac = 0
  · obtain ⟨ph, ac, r0, r1, w0, w1, p0, p1, dl, gn, sw, fl⟩ := s
    obtain rfl : ac = 0 := h0
    exact mright_0 ph r0 r1 w0 w1 dl gn sw fl p0 p1 _ w rfl
  · by_cases h1 : s.ac = 1
    · obtain ⟨ph, ac, r0, r1, w0, w1, p0, p1, dl, gn, sw, fl⟩ := s
      obtain rfl : ac = 1 := h1
      exact mright_1 ph r0 r1 w0 w1 dl gn sw fl p0 p1 _ w rfl
    · exact mright_no s w h0 h1
end Go.Proofs.Ytchaeidmjoelnaa
