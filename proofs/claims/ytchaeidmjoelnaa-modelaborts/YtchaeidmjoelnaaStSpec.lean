/-
  A controller's state, and which may be: plain facts, no program.
-/
import Derived.Test.YtchaeidmjoelnaaStMem
namespace Go.Proofs.Ytchaeidmjoelnaa

/-- A state. -/
structure St where
  ph : Int
  ac : Int
  r0 : Int
  r1 : Int
  w0 : Int
  w1 : Int
  p0 : Bool
  p1 : Bool
  dl : Int
  gn : Int
  sw : Int
  fl : Int
def stC (s : St) : Array Value := #[.int .i64 s.ph, .int .i64 s.ac, .int .i64 s.r0, .int .i64 s.r1, .int .i64 s.w0, .int .i64 s.w1, .bool s.p0, .bool s.p1, .int .i64 s.dl, .int .i64 s.gn, .int .i64 s.sw, .int .i64 s.fl]
def stV (s : St) : Value := .agg (stC s)
def zeroS : St := ⟨0, 0, 0, 0, 0, 0, false, false, 0, 0, 0, 0⟩
theorem stC_one (s : St) : (stC s).all (·.oneCell') = true := by simp [stC, Value.oneCell']
/-- May it be: the active slot's numbers first, then the other one's. -/
def RightX (ph ra wa : Int) (pa : Bool) (ro wo : Int) (po : Bool) (dl gn sw fl : Int) : Prop :=
  (0 ≤ ph ∧ ph ≤ 7 ∧ 0 ≤ dl ∧ dl ≤ 65536 ∧ 0 ≤ gn ∧ gn ≤ 1048576 ∧ 0 ≤ sw ∧ sw ≤ 2 ∧ 0 ≤ fl ∧ fl ≤ 1073741824) ∧ (0 ≤ ra ∧ ra ≤ 1073741824 ∧ 0 ≤ wa ∧ wa ≤ 32 ∧ 0 ≤ ro ∧ ro ≤ 1073741824 ∧ 0 ≤ wo ∧ wo ≤ 32) ∧
  (ra ≠ 0 ∧ wa ≠ 0) ∧ pa = true ∧ (ph = 0 → ro = 0 ∧ wo = 0) ∧ (ph = 0 → po = false) ∧ (0 < ph → ro ≠ 0 ∧ wo ≠ 0 ∧ ro ≠ ra) ∧ (0 < ph → po = decide (2 < ph)) ∧ (sw = 0 ∨ ((ph = 3 ∨ ph = 6) ∧ 0 < gn))
instance (ph ra wa : Int) (pa : Bool) (ro wo : Int) (po : Bool) (dl gn sw fl : Int) : Decidable (RightX ph ra wa pa ro wo po dl gn sw fl) := by unfold RightX; infer_instance
def rightS (s : St) : Bool :=
  if s.ac = 0 then decide (RightX s.ph s.r0 s.w0 s.p0 s.r1 s.w1 s.p1 s.dl s.gn s.sw s.fl)
  else if s.ac = 1 then decide (RightX s.ph s.r1 s.w1 s.p1 s.r0 s.w0 s.p0 s.dl s.gn s.sw s.fl) else false
/-- The state without what the other slot has, stable. -/
def blankS (s : St) : St := if s.ac = 0 then { s with r1 := 0, w1 := 0, p1 := false, ph := 0 } else { s with r0 := 0, w0 := 0, p0 := false, ph := 0 }
end Go.Proofs.Ytchaeidmjoelnaa
