/-
  switchback's ClientCounts: as many calls are counted by the fuse as are told, but one less, if the power failed; never more than there may be. For every input the law returns true, and each argument reads afterwards as it read before. No condition beside the row's own.
-/
import Derived.Test.YtjalmfomeehpgaaCntB
import Derived.Test.YtjalmfomeehpgaaCntC
import Derived.Test.YtjalmfomeehpgaaCntD
import Derived.Deep.RegionHeld3
namespace Go.Proofs.Ytjalmfomeehpgaa.clientCounts
open Go.Proofs.Ytjalmfomeehpgaa
open Go.ChangeShapes Go.WideShapes Go.ChangeAt Go.RowKit
set_option linter.unusedVariables false

theorem walk_at (A : Option Addr) (c : Nat) (xs : List Int) (tr ar slot gen : Int) (w : World) (hx : IntsI w (.slice A xs.length c) xs) (hft : Fits ar) : Calls Try.prog 6 #[.slice A xs.length c, .agg #[.int .i64 tr, .int .i64 ar], .agg #[.int .i64 slot, .int .i64 gen]] w (Holds w) := by
  by_cases h : xs.length ≤ 50
  case neg => exact out_len A c xs tr ar slot gen w hx (by omega)
  by_cases hs0 : slot = 0
  case pos =>
    by_cases hg : gen < 1
    · exact out_low0 A c xs tr ar slot gen w hx hs0 h hg
    by_cases hm : 1048576 < gen
    · exact out_high0 A c xs tr ar slot gen w hx hs0 h hg hm
    exact in_0 A c xs tr ar slot gen w hx hs0 h (by unfold inRange; omega) hft
  by_cases hs1 : slot = 1
  case pos =>
    by_cases hg : gen < 1
    · exact out_low1 A c xs tr ar slot gen w hx hs1 h hg
    by_cases hm : 1048576 < gen
    · exact out_high1 A c xs tr ar slot gen w hx hs1 h hg hm
    exact in_1 A c xs tr ar slot gen w hx hs1 h (by unfold inRange; omega) hft
  exact out_slot A c xs tr ar slot gen w hx h hs0 hs1
theorem walk (v : Value) (xs : List Int) (tr ar slot gen : Int) (w : World) (hx : IntsI w v xs) (hft : Fits ar) : Calls Try.prog 6 #[v, .agg #[.int .i64 tr, .int .i64 ar], .agg #[.int .i64 slot, .int .i64 gen]] w (Holds w) := by
  obtain ⟨A, c, rfl⟩ := hx.shape
  exact walk_at A c xs tr ar slot gen w hx hft

/-! From the walk to the given row. -/
set_option maxRecDepth 100000 in
theorem lifted (os : Os) (started : os.Started) (H : Type) (enc : TypeId × Value → H) :
    ReturnsInHanded {} Try.checked os 6 .any (Rows.clientCountsSpec.pre6 enc Try.prog Try.f6 Rows.clientCountsRow.domain false) (Rows.clientCountsSpec.post enc Try.prog Try.f6 false true false false) := by
  refine returnsInHanded_of_change (C := Try.checked) t_own started (by kernel_rfl) Try.func6
    (ChangeSpec.witness6 (enc := enc) (C := Try.checked) false ⟨#[], #[.slice none 0 0, .agg #[.int .i64 0, .int .i64 0], .agg #[.int .i64 0, .int .i64 0]], []⟩ 8 (by kernel_rfl) (by kernel_rfl) (by kernel_rfl) (by kernel_rfl)) ?_
  intro W base args ds gs before hval0 hW hcnd _
  have hval : ∀ (j : Nat) t v, Try.f6.params[j]? = some t → args[j]? = some v → Value.okWide Try.prog W .any base t v := hval0
  have hW' := hW
  obtain ⟨p, q, hA0, hV, rfl, hfz, hnd⟩ := hW
  have hA : DataW.TrodAll enc Try.prog W 0 (fun _ => true) true Try.f6.params.toList args.toList ds p := hA0
  rw [Try.params6] at hA hval
  obtain ⟨v0, vs0, d0, ds0, p0, q0, hargs, rfl, rfl, h0, r0⟩ := trodAll_cons hA
  obtain ⟨v1, vs1, d1, ds1, p1, q1, rfl, rfl, rfl, h1, r1⟩ := trodAll_cons r0
  obtain ⟨v2, vs2, d2, ds2, p2, q2, rfl, rfl, rfl, h2, r2⟩ := trodAll_cons r1
  obtain ⟨rfl, rfl, rfl⟩ := trodAll_nil r2
  obtain rfl : args = #[v0, v1, v2] := by cases args; simp_all
  obtain ⟨xs, hx, _⟩ := open_ints (hval 0 34 v0 rfl rfl) h0
  obtain ⟨tr, ar, rfl, _, hft⟩ := open_two (hval 1 54 v1 rfl rfl) h1
  obtain ⟨slot, gen, rfl, _, _⟩ := open_cell (hval 2 33 v2 rfl rfl) h2
  refine (walk v0 xs tr ar slot gen W hx hft).mono fun e W' ⟨he, hb⟩ => ?_
  subst he
  exact ⟨_, rfl, post_of_holds hW' (by kernel_rfl) rfl (by rw [Try.params6]; exact fun t ht => params_ok t (by simp at ht; rcases ht with rfl | rfl | rfl <;> simp)) ⟨rfl, rfl, rfl⟩ hb⟩

/-- The given statement. -/
theorem proved : Rows.ClientCountsSaid :=
  OpenClaim.holds_of_wide 6 Try.f6 rfl rfl rfl rfl rfl rfl rfl ⟨rfl, rfl, rfl, rfl, rfl⟩ rfl rfl rfl rfl rfl (by kernel_rfl) Try.func6 (by kernel_rfl)
    (of_decide_eq_true (by kernel_rfl)) (by unfold Func.isWrapper; first | (rw [if_pos (by decide +kernel)]; kernel_rfl) | (rw [if_neg (by decide +kernel)]; exact ⟨rfl, rfl⟩))
    (fun os started H enc _ => lifted os started H enc)
#print axioms proved
end Go.Proofs.Ytjalmfomeehpgaa.clientCounts
