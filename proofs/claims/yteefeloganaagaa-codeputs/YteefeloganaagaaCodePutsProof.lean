/-
  switchback's CodePuts: any numbers have the bytes that the document says, or one is below 0. For every input the call returns true, and each argument reads afterwards as it read before. No condition.
-/
import Derived.Test.YteefeloganaagaaLift
namespace Go.Proofs.Yteefeloganaagaa.codePuts
open Go.ChangeShapes Go.WideShapes Go.ChangeAt Go.RowKit

set_option maxRecDepth 100000 in
set_option maxHeartbeats 1000000 in
theorem walk_long (A : Option Addr) (n c : Nat) (w : World) (hs : n ≤ maxLen) (h : 300 < n) : Calls Try.prog 3 #[.slice A n c] w (Holds w) := by
  unfold maxLen at hs
  have e1 : decide (300 < (n : Int)) = true := by simp; omega
  go_enter Try.func3, Try.ntmps3
  go_wp2_with fail
  refine (awake_yes _).mono ?_
  rintro e w1 ⟨rfl, hb⟩
  have HB1 := Lib.hid hb
  clear hb
  go_wp2_with fail
  refine (awake_yes _).mono ?_
  rintro e w2 ⟨rfl, hb⟩
  have HB2 := Lib.hid hb
  clear hb
  go_wp2
  go_ret
  exact ⟨rfl, HB1.out.trans (HB2.out.mono HB1.out.size)⟩

set_option maxRecDepth 100000 in
set_option maxHeartbeats 1000000 in
theorem walk_main (A : Option Addr) (c : Nat) (xs : List Int) (w : World) (hl : xs.length ≤ 300) (hx : FitsAll xs) (hv : Vals w (.slice A xs.length c) (ints xs)) : Calls Try.prog 3 #[.slice A xs.length c] w (Holds w) := by
  have e1 : decide (300 < (xs.length : Int)) = false := by simp; omega
  obtain ⟨i3, hi3, hz30, hz31, hz32⟩ := info_parts Tinfo3
  have HV := Lib.hid hv
  have HX := Lib.hid hx
  clear hv hx
  go_enter Try.func3, Try.ntmps3
  go_wp2_with fail
  refine (awake_yes _).mono ?_
  rintro e w1 ⟨rfl, hb⟩
  have HB1 := Lib.hid hb
  clear hb
  go_wp2_with (at_builtin; go_must (refine wp_append_vals _ rfl (.tmp 16) (.tmp 17) 22 rfl w1.heap.size 3 i3 (.int .i64 0) 8 Try.underlying22 hi3 hz30 hz31 hz32 rfl (.slice (some ⟨w1.heap.size, 0, none⟩) 0 0) 0 [] rfl (World.ownsRow_made w1 #[] 0 (Nat.le_refl _) (Nat.zero_le _) rfl) (.slice A xs.length c) (ints xs) rfl ((HV.out.under HB1.out).under ((Below.refl _ _).alloc (Nat.le_refl _) _)) (ints_one _) (by rw [ints_len]; unfold maxLen; omega) (by rw [ints_len]; omega) (by simp) ?_); intro v2 w2 hown2 hgr2; have HC1 := Lib.hid (vals_copied hown2); have HD1 := Lib.hid (below_copied HB1.out hgr2); clear hown2 hgr2)
  refine (put_any xs _ _ (by omega) HX.out HC1.out).mono ?_
  rintro e w3 ⟨rfl, hb⟩
  have HB3 := Lib.hid (HD1.out.trans (hb.mono HD1.out.size))
  clear hb
  have HM : Hid (∀ W, Below w.heap.size w W → Calls Try.prog 11 #[.slice A xs.length c] W fun e w' => e = .returned (.tuple #[.string (putS xs), .bool (putOk xs)]) ∧ Below W.heap.size W w') := Lib.hid (fun W hW => mput_any xs _ W (by omega) HX.out (HV.out.under hW))
  obtain ⟨S, hS⟩ : ∃ S, S = putS xs := ⟨_, rfl⟩
  obtain ⟨O, hO⟩ : ∃ O, O = putOk xs := ⟨_, rfl⟩
  rw [← hS, ← hO] at HM ⊢
  clear hS hO
  go_wp2_with fail
  refine (HM.out _ HB3.out).mono ?_
  rintro e w4 ⟨rfl, hb⟩
  have HB4 := Lib.hid (HB3.out.trans (hb.mono HB3.out.size))
  clear hb
  cases O
  all_goals
    go_wp2
    go_ret
    exact ⟨rfl, HB4.out⟩

theorem walk (v : Value) (xs : List Int) (w : World) (hl : xs.length ≤ maxLen) (hv : Vals w v (ints xs)) (hx : FitsAll xs) : Calls Try.prog 3 #[v] w (Holds w) := by
  obtain ⟨A, c, h⟩ := hv.slice
  rw [ints_len] at h
  subst h
  by_cases h : 300 < xs.length
  · exact walk_long A _ c w hl h
  · exact walk_main A c xs w (by omega) hx hv

/-! From the walk to the given row. -/
set_option maxRecDepth 100000 in
theorem lifted (os : Os) (started : os.Started) (H : Type) (enc : TypeId × Value → H) :
    ReturnsInHanded {} Try.checked os 3 .any (Rows.codePutsSpec.pre6 enc Try.prog Try.f3 Rows.codePutsRow.domain false) (Rows.codePutsSpec.post enc Try.prog Try.f3 false true false false) := by
  refine returnsInHanded_of_change (C := Try.checked) t_own started (by kernel_rfl) Try.func3
    (ChangeSpec.witness6 (enc := enc) (C := Try.checked) false ⟨#[], #[.slice none 0 0], []⟩ 8 (by kernel_rfl) (by kernel_rfl) (by kernel_rfl) (by kernel_rfl)) ?_
  intro W base args ds gs before hval0 hW hcnd _
  have hval : ∀ (j : Nat) t v, Try.f3.params[j]? = some t → args[j]? = some v → Value.okWide Try.prog W .any base t v := hval0
  have hW' := hW
  obtain ⟨p, q, hA0, hV, rfl, hfz, hnd⟩ := hW
  have hA : DataW.TrodAll enc Try.prog W 0 (fun _ => true) true Try.f3.params.toList args.toList ds p := hA0
  rw [Try.params3] at hA hval
  obtain ⟨v0, vs0, d0, ds0, p0, q0, hargs, rfl, rfl, h0, r0⟩ := trodAll_cons hA
  obtain ⟨rfl, rfl, rfl⟩ := trodAll_nil r0
  obtain rfl : args = #[v0] := by cases args; simp_all
  obtain ⟨xs, hl, hv, hx⟩ := open_nums (hval 0 22 v0 rfl rfl) h0
  refine (walk v0 xs W hl hv hx).mono fun e W' ⟨he, hb⟩ => ?_
  subst he
  exact ⟨_, rfl, post_of_holds hW' (by kernel_rfl) rfl (by rw [Try.params3]; exact fun t ht => params_ok t (by simp at ht; rcases ht with rfl <;> simp)) ⟨rfl, rfl, rfl⟩ hb⟩

/-- The given statement. -/
theorem proved : Rows.CodePutsSaid :=
  OpenClaim.holds_of_wide 3 Try.f3 rfl rfl rfl rfl rfl rfl rfl ⟨rfl, rfl, rfl, rfl, rfl⟩ rfl rfl rfl rfl rfl (by kernel_rfl) Try.func3 (by kernel_rfl)
    (of_decide_eq_true (by kernel_rfl)) (by unfold Func.isWrapper; first | (rw [if_pos (by decide +kernel)]; kernel_rfl) | (rw [if_neg (by decide +kernel)]; exact ⟨rfl, rfl⟩))
    (fun os started H enc _ => lifted os started H enc)
#print axioms proved
end Go.Proofs.Yteefeloganaagaa.codePuts

