/-
  Records, states and arrays of numbers: when they are equal.
-/
import Derived.Test.YthombepmlepgfaaDoorNumb
import Derived.DeepKeys
namespace Go.Proofs.YthombepmlepgfaaDoor
open Go.RowKit

theorem c3 : Tryd.prog.cellsOf 3 = 1 := by kernel_rfl
theorem c4 : Tryd.prog.cellsOf 4 = 1 := by kernel_rfl
theorem c22 : Tryd.prog.cellsOf 22 = 2 := by kernel_rfl
theorem c23 : Tryd.prog.cellsOf 23 = 2 := by kernel_rfl
theorem c25 : Tryd.prog.cellsOf 25 = 12 := by kernel_rfl
theorem c27 : Tryd.prog.cellsOf 27 = 19 := by kernel_rfl
theorem c49 : Tryd.prog.cellsOf 49 = 18 := by kernel_rfl
def wfI (a : Int) : Prop := (Lit.int .i64 a).wf = true
theorem wfI_of {a : Int} (h : Fits a) : (Lit.int .i64 a).wf = true := by
  unfold Fits at h
  simp [Lit.wf, IntKind.min, IntKind.max, IntKind.signed, IntKind.bits]
  omega
theorem kl3 (d : Nat) {a : Int} (h : Fits a) : Tryd.prog.keyLits (d + 1) 3 [.int .i64 a] = some [.int .i64 a] := by
  simp [Program.keyLits, Tryd.underlying3, wfI_of h]
theorem kl4 (d : Nat) (a : Bool) : Tryd.prog.keyLits (d + 1) 4 [.bool a] = some [.bool a] := by
  simp [Program.keyLits, Tryd.underlying4]
theorem kl22 (d : Nat) {a b : Int} (ha : Fits a) (hb : Fits b) : Tryd.prog.keyLits (d + 2) 22 [.int .i64 a, .int .i64 b] = some [.int .i64 a, .int .i64 b] := by
  unfold Program.keyLits
  simp only [Tryd.underlying22]
  simp [c22, c3, List.range_succ, kl3 d ha, kl3 d hb]
theorem kl23 (d : Nat) (a b : Bool) : Tryd.prog.keyLits (d + 2) 23 [.bool a, .bool b] = some [.bool a, .bool b] := by
  unfold Program.keyLits
  simp only [Tryd.underlying23]
  simp [c23, c4, List.range_succ, kl4 d]

/-- All of a record's numbers are ones that an int can be. -/
structure FitsR (r : Rc) : Prop where
  kind : Fits r.kind
  rev : Fits r.rev
  cnt : Fits r.cnt
  delay : Fits r.delay
  gen : Fits r.gen
  tick : Fits r.tick
  phase : Fits r.phase
  active : Fits r.active
  r0 : Fits r.r0
  r1 : Fits r.r1
  w0 : Fits r.w0
  w1 : Fits r.w1
  sdelay : Fits r.sdelay
  sgen : Fits r.sgen
  sw : Fits r.sw
  flip : Fits r.flip
def stL (r : Rc) : List Lit := [.int .i64 r.phase, .int .i64 r.active, .int .i64 r.r0, .int .i64 r.r1, .int .i64 r.w0, .int .i64 r.w1, .bool r.p0, .bool r.p1, .int .i64 r.sdelay, .int .i64 r.sgen, .int .i64 r.sw, .int .i64 r.flip]
def recL (r : Rc) : List Lit := [.int .i64 r.kind, .int .i64 r.rev, .int .i64 r.cnt, .int .i64 r.delay, .int .i64 r.gen, .int .i64 r.tick, .bool r.pass] ++ stL r
theorem recL_inj {a b : Rc} (h : recL a = recL b) : a = b := by
  obtain ⟨k, rev, cnt, delay, gen, tick, pass, phase, active, r0, r1, w0, w1, p0, p1, sdelay, sgen, sw, flip⟩ := a
  obtain ⟨k', rev', cnt', delay', gen', tick', pass', phase', active', r0', r1', w0', w1', p0', p1', sdelay', sgen', sw', flip'⟩ := b
  simp [recL, stL] at h
  simp [h]
theorem kl25 (d : Nat) {r : Rc} (h : FitsR r) : Tryd.prog.keyLits (d + 3) 25 (stC r).toList = some (stL r) := by
  have h3 := fun (a : Int) (ha : Fits a) => kl3 (d + 1) ha
  unfold Program.keyLits
  simp only [Tryd.underlying25]
  simp [stC, c25, c3, c22, c23, h3 _ h.phase, h3 _ h.active, kl22 d h.r0 h.r1, kl22 d h.w0 h.w1, kl23 d, h3 _ h.sdelay, h3 _ h.sgen, h3 _ h.sw, h3 _ h.flip]
  rfl
theorem kl27 (d : Nat) {r : Rc} (h : FitsR r) : Tryd.prog.keyLits (d + 4) 27 (recC r).toList = some (recL r) := by
  have h3 := fun (a : Int) (ha : Fits a) => kl3 (d + 2) ha
  have h5 := kl25 d h
  simp only [stC] at h5
  unfold Program.keyLits
  simp only [Tryd.underlying27]
  simp [recC, c27, c25, c3, c4, h3 _ h.kind, h3 _ h.rev, h3 _ h.cnt, h3 _ h.delay, h3 _ h.gen, h3 _ h.tick, kl4 (d + 2), h5]
  rfl
theorem kl49 (d : Nat) {l : List Int} (hl : l.length = 18) (h : FitsAll l) : Tryd.prog.keyLits (d + 2) 49 (ints l).toArray.toList = some (l.map (Lit.int .i64)) := by
  match l, hl with
  | [a0, a1, a2, a3, a4, a5, a6, a7, a8, a9, a10, a11, a12, a13, a14, a15, a16, a17], _ =>
    have h3 := fun (a : Int) (ha : Fits a) => kl3 d ha
    unfold Program.keyLits
    simp only [Tryd.underlying49]
    simp [ints, c49, c3, List.range_succ, h3 a0 (h a0 (by simp)), h3 a1 (h a1 (by simp)), h3 a2 (h a2 (by simp)), h3 a3 (h a3 (by simp)), h3 a4 (h a4 (by simp)), h3 a5 (h a5 (by simp)), h3 a6 (h a6 (by simp)), h3 a7 (h a7 (by simp)), h3 a8 (h a8 (by simp)), h3 a9 (h a9 (by simp)), h3 a10 (h a10 (by simp)), h3 a11 (h a11 (by simp)), h3 a12 (h a12 (by simp)), h3 a13 (h a13 (by simp)), h3 a14 (h a14 (by simp)), h3 a15 (h a15 (by simp)), h3 a16 (h a16 (by simp)), h3 a17 (h a17 (by simp))]
theorem kt25 : Tryd.prog.keyTypeAt 10 25 = true := by kernel_rfl
theorem kt27 : Tryd.prog.keyTypeAt 10 27 = true := by kernel_rfl
theorem kt49 : Tryd.prog.keyTypeAt 10 49 = true := by kernel_rfl
/-- Two records are equal just if they are the same. -/
theorem eq27 {a b : Rc} (ha : FitsR a) (hb : FitsR b) : ∃ q : Bool, (∀ w, (Op.equalIn 10000 27 (recV a) (recV b)).run Tryd.prog w = .ok q w) ∧ (q = true ↔ a = b) := by
  have h1 := fun w => run_equalIn_deep 9990 10 27 kt27 w 4 4 (recV a) (recV b) _ _ (by kernel_rfl) (by kernel_rfl) (kl27 0 ha) (kl27 0 hb)
  by_cases e : a = b
  · refine ⟨true, fun w => ?_, by simp [e]⟩
    obtain ⟨r, hr, hi⟩ := h1 w
    rw [hr, hi.2 (by rw [e])]
  · refine ⟨false, fun w => ?_, by simp [e]⟩
    obtain ⟨r, hr, hi⟩ := h1 w
    have : r = false := by
      cases r
      · rfl
      · exact absurd (recL_inj (hi.1 rfl)) e
    rw [hr, this]
theorem eq25 {a b : Rc} (ha : FitsR a) (hb : FitsR b) : ∃ q : Bool, (∀ w, (Op.equalIn 10000 25 (.agg (stC a)) (.agg (stC b))).run Tryd.prog w = .ok q w) ∧ (q = true ↔ stL a = stL b) := by
  have h1 := fun w => run_equalIn_deep 9990 10 25 kt25 w 3 3 (.agg (stC a)) (.agg (stC b)) _ _ (by kernel_rfl) (by kernel_rfl) (kl25 0 ha) (kl25 0 hb)
  by_cases e : stL a = stL b
  · refine ⟨true, fun w => ?_, by simp [e]⟩
    obtain ⟨r, hr, hi⟩ := h1 w
    rw [hr, hi.2 e]
  · refine ⟨false, fun w => ?_, by simp [e]⟩
    obtain ⟨r, hr, hi⟩ := h1 w
    have : r = false := by
      cases r
      · rfl
      · exact absurd (hi.1 rfl) e
    rw [hr, this]
theorem eq49 {a b : List Int} (la : a.length = 18) (lb : b.length = 18) (ha : FitsAll a) (hb : FitsAll b) : ∀ w, (Op.equalIn 10000 49 (arrV a) (arrV b)).run Tryd.prog w = .ok (decide (a = b)) w := by
  intro w
  have f : ∀ l : List Int, l.length = 18 → (arrV l).formed Tryd.prog 49 = true := by
    intro l hl
    simp [arrV, Value.formed, Tryd.underlying49, c49, ints_len, hl]
  obtain ⟨r, hr, hi⟩ := run_equalIn_deep 9990 10 49 kt49 w 2 2 (arrV a) (arrV b) _ _ (f a la) (f b lb) (kl49 0 la ha) (kl49 0 lb hb)
  rw [hr]
  congr 1
  by_cases e : a = b
  · rw [hi.2 (by rw [e])]; simp [e]
  · have : r = false := by
      cases r
      · rfl
      · refine absurd ?_ e
        have := hi.1 rfl
        exact (List.map_inj_right (fun x y h => by injection h)).1 this
    rw [this]; simp [e]
end Go.Proofs.YthombepmlepgfaaDoor
