/-
  States and arrays of two numbers: when they are equal.
-/
import Derived.Test.YtchaeidmjoelnaaFoTab
import Derived.DeepKeys
namespace Go.Proofs.Ytchaeidmjoelnaa
open Go.RowKit

theorem c3 : Try.prog.cellsOf 3 = 1 := by kernel_rfl
theorem c4 : Try.prog.cellsOf 4 = 1 := by kernel_rfl
theorem c22 : Try.prog.cellsOf 35 = 2 := by kernel_rfl
theorem c23 : Try.prog.cellsOf 36 = 2 := by kernel_rfl
theorem c25 : Try.prog.cellsOf 38 = 12 := by kernel_rfl
theorem c27 : Try.prog.cellsOf 72 = 19 := by kernel_rfl
theorem wfI_of {a : Int} (h : Fits a) : (Lit.int .i64 a).wf = true := by
  unfold Fits at h
  simp [Lit.wf, IntKind.min, IntKind.max, IntKind.signed, IntKind.bits]
  omega
theorem kl3 (d : Nat) {a : Int} (h : Fits a) : Try.prog.keyLits (d + 1) 3 [.int .i64 a] = some [.int .i64 a] := by
  simp [Program.keyLits, Try.underlying3, wfI_of h]
theorem kl4 (d : Nat) (a : Bool) : Try.prog.keyLits (d + 1) 4 [.bool a] = some [.bool a] := by
  simp [Program.keyLits, Try.underlying4]
theorem kl22 (d : Nat) {a b : Int} (ha : Fits a) (hb : Fits b) : Try.prog.keyLits (d + 2) 35 [.int .i64 a, .int .i64 b] = some [.int .i64 a, .int .i64 b] := by
  unfold Program.keyLits
  simp only [Try.underlying35]
  simp [c22, c3, List.range_succ, kl3 d ha, kl3 d hb]
theorem kl23 (d : Nat) (a b : Bool) : Try.prog.keyLits (d + 2) 36 [.bool a, .bool b] = some [.bool a, .bool b] := by
  unfold Program.keyLits
  simp only [Try.underlying36]
  simp [c23, c4, List.range_succ, kl4 d]
/-- All of a state's numbers are ones that an int can be. -/
structure FitsS (s : St) : Prop where
  ph : Fits s.ph
  ac : Fits s.ac
  r0 : Fits s.r0
  r1 : Fits s.r1
  w0 : Fits s.w0
  w1 : Fits s.w1
  dl : Fits s.dl
  gn : Fits s.gn
  sw : Fits s.sw
  fl : Fits s.fl
/-- All of a record's numbers are ones that an int can be. -/
structure FitsR (r : Rc) : Prop where
  kind : Fits r.kind
  rev : Fits r.rev
  cnt : Fits r.cnt
  delay : Fits r.delay
  gen : Fits r.gen
  tick : Fits r.tick
  st : FitsS r.st
def stL (s : St) : List Lit := [.int .i64 s.ph, .int .i64 s.ac, .int .i64 s.r0, .int .i64 s.r1, .int .i64 s.w0, .int .i64 s.w1, .bool s.p0, .bool s.p1, .int .i64 s.dl, .int .i64 s.gn, .int .i64 s.sw, .int .i64 s.fl]
theorem kl25 (d : Nat) {s : St} (h : FitsS s) : Try.prog.keyLits (d + 3) 38 (stC s).toList = some (stL s) := by
  have h3 := fun (a : Int) (ha : Fits a) => kl3 (d + 1) ha
  unfold Program.keyLits
  simp only [Try.underlying38]
  simp [stC, c25, c3, c22, c23, h3 _ h.ph, h3 _ h.ac, kl22 d h.r0 h.r1, kl22 d h.w0 h.w1, kl23 d, h3 _ h.dl, h3 _ h.gn, h3 _ h.sw, h3 _ h.fl]
  rfl
theorem kt25 : Try.prog.keyTypeAt 10 38 = true := by kernel_rfl
theorem kt22 : Try.prog.keyTypeAt 10 35 = true := by kernel_rfl
/-- A state is equal to itself. -/
theorem eq25 {a : St} (ha : FitsS a) (w : World) : (Op.equalIn 10000 38 (.agg (stC a)) (.agg (stC a))).run Try.prog w = .ok true w := by
  obtain ⟨r, hr, hi⟩ := run_equalIn_deep 9990 10 38 kt25 w 3 3 (.agg (stC a)) (.agg (stC a)) _ _ (by kernel_rfl) (by kernel_rfl) (kl25 0 ha) (kl25 0 ha)
  rw [hr, hi.2 rfl]
theorem eq22 {a b : Int} (ha : Fits a) (hb : Fits b) (w : World) : (Op.equalIn 10000 35 (.agg #[.int .i64 a, .int .i64 b]) (.agg #[.int .i64 a, .int .i64 b])).run Try.prog w = .ok true w := by
  obtain ⟨r, hr, hi⟩ := run_equalIn_deep 9990 10 35 kt22 w 2 2 (.agg #[.int .i64 a, .int .i64 b]) (.agg #[.int .i64 a, .int .i64 b]) _ _ (by kernel_rfl) (by kernel_rfl) (kl22 0 ha hb) (kl22 0 ha hb)
  rw [hr, hi.2 rfl]
theorem fits_small {a : Int} (h0 : 0 ≤ a) (h1 : a ≤ 1073741824) : Fits a := by unfold Fits; omega
theorem right_fits {s : St} (h : rightS s = true) : FitsS s := by
  rw [right_parts] at h
  simp only [Bool.and_eq_true] at h
  have h1 := h.1.1.1
  unfold rangesS inR at h1
  simp at h1
  constructor <;> (unfold Fits; omega)
end Go.Proofs.Ytchaeidmjoelnaa
