/-
  A record, and what it makes of a state: plain facts, no program.
-/
import Derived.Test.YtchaeidmjoelnaaStBlank
namespace Go.Proofs.Ytchaeidmjoelnaa

/-- A record. -/
structure Rc where
  kind : Int
  rev : Int
  cnt : Int
  delay : Int
  gen : Int
  tick : Int
  pass : Bool
  st : St
def recC (r : Rc) : Array Value := #[.int .i64 r.kind, .int .i64 r.rev, .int .i64 r.cnt, .int .i64 r.delay, .int .i64 r.gen, .int .i64 r.tick, .bool r.pass, .int .i64 r.st.ph, .int .i64 r.st.ac, .int .i64 r.st.r0, .int .i64 r.st.r1, .int .i64 r.st.w0, .int .i64 r.st.w1, .bool r.st.p0, .bool r.st.p1, .int .i64 r.st.dl, .int .i64 r.st.gn, .int .i64 r.st.sw, .int .i64 r.st.fl]
def recV (r : Rc) : Value := .agg (recC r)
def raS (s : St) : Int := if s.ac = 0 then s.r0 else s.r1
def setO (s : St) (r w : Int) (p : Bool) : St := if s.ac = 0 then { s with r1 := r, w1 := w, p1 := p } else { s with r0 := r, w0 := w, p0 := p }
def setP (s : St) (p : Bool) : St := if s.ac = 0 then { s with p1 := p } else { s with p0 := p }
def pickS (s n : St) (ok : Bool) : St × Bool := (if ok then n else s, ok)
/-- What a record makes of a state. -/
def step1 (s : St) (r : Rc) : St × Bool :=
  if s.ph ≠ 0 ∧ s.ph ≠ 1 ∧ s.ph ≠ 2 then (s, false)
  else if r.rev < 1 ∨ 1073741824 < r.rev ∨ r.cnt < 1 ∨ 32 < r.cnt ∨ r.delay < 0 ∨ 65536 < r.delay ∨ r.rev = raS s ∨ 1048574 < s.gn then (s, false)
  else ({ setO s r.rev r.cnt false with dl := r.delay, ph := 1 }, true)
def step2 (s : St) : St × Bool := if s.ph = 1 ∨ s.ph = 2 ∨ s.ph = 3 ∧ s.sw = 0 then (blankS s, true) else pickS s { s with ph := 6 } (decide (s.ph = 4 ∨ s.ph = 5))
def step3 (s : St) : St × Bool := pickS s { s with ph := 2 } (decide (s.ph = 1))
def step4 (s : St) (r : Rc) : St × Bool := if s.ph = 2 ∧ r.pass = false then (blankS s, true) else pickS s { setP s true with ph := 3 } (decide (s.ph = 2))
def step5 (s : St) (r : Rc) : St × Bool := pickS s { s with gn := r.gen, sw := 1 } (decide ((s.ph = 3 ∨ s.ph = 6) ∧ s.sw = 0 ∧ s.gn < 1048576 ∧ r.gen = s.gn + 1))
def step6 (s : St) (r : Rc) : St × Bool := pickS s { s with sw := 2 } (decide (s.sw = 1 ∧ r.gen = s.gn))
def step7 (s : St) (r : Rc) : St × Bool := pickS s { s with sw := 0, gn := s.gn - 1 } (decide (s.sw = 1 ∧ r.gen = s.gn))
def step8 (s : St) (r : Rc) : St × Bool := pickS s { s with sw := 0, ac := 1 - s.ac, fl := r.tick, ph := if s.ph = 3 then 4 else 7 } (decide (s.sw = 2 ∧ r.gen = s.gn ∧ 0 ≤ r.tick ∧ r.tick ≤ 1073741824))
def step9 (s : St) (r : Rc) : St × Bool := pickS s { s with ph := if r.pass then 5 else 6 } (decide (s.ph = 4))
def step10 (s : St) : St × Bool := pickS s (blankS s) (decide (s.ph = 5 ∨ s.ph = 7))
def stepS (s : St) (r : Rc) : St × Bool :=
  if rightS s = false then (s, false) else if r.kind = 1 then step1 s r else if r.kind = 2 then step2 s else if r.kind = 3 then step3 s else if r.kind = 4 then step4 s r else if r.kind = 5 then step5 s r
  else if r.kind = 6 then step6 s r else if r.kind = 7 then step7 s r else if r.kind = 8 then step8 s r else if r.kind = 9 then step9 s r else if r.kind = 10 then step10 s else (s, false)
theorem right_in {s : St} (h : rightS s = true) : (s.ac = 0 ∨ s.ac = 1) ∧ 0 ≤ s.ph ∧ s.ph ≤ 7 ∧ 0 ≤ s.gn ∧ s.gn ≤ 1048576 ∧ 0 ≤ s.sw ∧ s.sw ≤ 2 := by
  unfold rightS at h
  split at h
  · have := of_decide_eq_true h; unfold RightX at this; omega
  · split at h
    · have := of_decide_eq_true h; unfold RightX at this; omega
    · cases h
theorem pick_yes (s n : St) {p : Prop} [Decidable p] (h : p) : pickS s n (decide p) = (n, true) := by unfold pickS; rw [decide_eq_true h]; rfl
theorem pick_no (s n : St) {p : Prop} [Decidable p] (h : ¬ p) : pickS s n (decide p) = (s, false) := by unfold pickS; rw [decide_eq_false h]; rfl
end Go.Proofs.Ytchaeidmjoelnaa
