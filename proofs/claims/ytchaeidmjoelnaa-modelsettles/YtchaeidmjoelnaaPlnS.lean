/-
  Views, full slots, and what is to be done: plain facts, no program.
-/
import Derived.Test.YtchaeidmjoelnaaStStep
namespace Go.Proofs.Ytchaeidmjoelnaa

/-- A view: wanted, ready, by slots. -/
structure Vw where
  a0 : Int
  a1 : Int
  b0 : Int
  b1 : Int
def vwC (v : Vw) : Array Value := #[.int .i64 v.a0, .int .i64 v.a1, .int .i64 v.b0, .int .i64 v.b1]
def vwV (v : Vw) : Value := .agg (vwC v)
theorem vwC_one (v : Vw) : (vwC v).all (·.oneCell') = true := by simp [vwC, Value.oneCell']
def fullX (n a b : Int) : Bool := decide (1 ≤ n) && (a == n) && (b == n)
def fullS (s : St) (v : Vw) (slot : Int) : Bool := if slot = 0 then fullX s.w0 v.a0 v.b0 else if slot = 1 then fullX s.w1 v.a1 v.b1 else false
def lessI (a b : Int) : Int := if a ≤ b then 0 else min (a - b) 9223372036854775807
/-- The record of a kind, of a generation. -/
def rcK (k g : Int) : Rc := ⟨k, 0, 0, 0, g, 0, false, zeroS⟩
/-- An action, and its record; fo: the other slot is full; ls: by how much it is later than the last switch. -/
def nextX (ph sw gn dl : Int) (fo : Bool) (ls : Int) : Int × Rc :=
  if ph = 1 ∧ fo = true then (1, rcK 3 0)
  else if ph = 3 ∨ ph = 6 then
    if sw = 2 then (5, rcK 0 0)
    else if sw = 1 then (if fo = true then (3, rcK 6 gn) else (4, rcK 7 gn))
    else if fo = true then (2, rcK 5 (gn + 1)) else (0, rcK 0 0)
  else if ph = 7 ∨ ph = 5 ∧ dl ≤ ls then (6, rcK 10 0)
  else (0, rcK 0 0)
def nextS (s : St) (v : Vw) (now : Int) : Int × Rc := nextX s.ph s.sw s.gn s.dl (fullS s v (1 - s.ac)) (lessI now s.fl)
end Go.Proofs.Ytchaeidmjoelnaa
