/-
  An operation, whether it may be done, and its record: plain facts, no program.
-/
import Derived.Test.YtchaeidmjoelnaaStStep
namespace Go.Proofs.Ytchaeidmjoelnaa

/-- An operation. -/
structure Oc where
  kind : Int
  rev : Int
  cnt : Int
  delay : Int
  pass : Bool
def opC (o : Oc) : Array Value := #[.int .i64 o.kind, .int .i64 o.rev, .int .i64 o.cnt, .int .i64 o.delay, .bool o.pass]
def opV (o : Oc) : Value := .agg (opC o)
theorem opC_one (o : Oc) : (opC o).all (·.oneCell') = true := by simp [opC, Value.oneCell']
/-- Why it may not be done (0: it may); ra the active slot's revision, ro the other one's. -/
def chkX (ph ra ro gn sw kd rv cn dy now : Int) : Int :=
  if kd = 2 then (if ph = 0 ∨ 5 < ph ∨ ph = 3 ∧ 0 < sw then 7 else 0)
  else if kd ≠ 1 ∧ kd ≠ 4 ∧ kd ≠ 9 then 6
  else if rv < 1 ∨ 1073741824 < rv then 1
  else if kd = 4 then (if ph ≠ 2 then 7 else if rv ≠ ro then 13 else 0)
  else if kd = 9 then (if ph ≠ 4 then 7 else if rv ≠ ra then 13 else 0)
  else if cn < 1 ∨ 32 < cn ∨ dy < 0 ∨ 65536 < dy then 1
  else if 1073741823 < now ∨ 1048575 ≤ gn then 9
  else if 2 < ph then 7
  else if rv = ra then 8 else 0
def orS (s : St) : Int := if s.ac = 0 then s.r1 else s.r0
def chkS (s : St) (o : Oc) (now : Int) : Int := chkX s.ph (raS s) (orS s) s.gn s.sw o.kind o.rev o.cnt o.delay now
/-- Its record. -/
def recO (o : Oc) : Rc :=
  if o.kind = 1 then ⟨1, o.rev, o.cnt, o.delay, 0, 0, false, zeroS⟩
  else if o.kind = 4 ∨ o.kind = 9 then ⟨o.kind, 0, 0, 0, 0, 0, o.pass, zeroS⟩
  else ⟨o.kind, 0, 0, 0, 0, 0, false, zeroS⟩
end Go.Proofs.Ytchaeidmjoelnaa
