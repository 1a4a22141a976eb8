/-
  switchback's FoldPhases: A rollout's phases come one behind the other: behind each record that can come the phase is the same, or one that the document's rows lead to. For every input the law returns true, and each argument reads afterwards as it read before. No condition beside the row's own.
-/
import Derived.Test.YtoeelglmdnhknaaPhas
import Derived.Test.YtoeelglmdnhknaaLift
namespace Go.Proofs.Ytoeelglmdnhknaa.foldPhases
open Go.Proofs.Ytoeelglmdnhknaa
open Go.ChangeShapes Go.WideShapes Go.ChangeAt Go.RowKit
set_option linter.unusedVariables false

set_option maxRecDepth 100000 in
set_option maxHeartbeats 4000000 in
theorem walk (s : St) (r : Rc) (w : World) (hs : FitsS s) (hr : FitsR r) : Calls Try.prog 10 #[stV s, recV r] w (Holds w) := by
  have HOK : Hid ((stepS s r).2 = true → rightS s = true) := Lib.hid ok_right
  have HXF : Hid (FitsS (stepS s r).1) := Lib.hid (fits_step r hs)
  have HFS := Lib.hid hs
  have HSP : Hid (∀ W, Calls Try.prog 11 #[stV s, recV r] W (StepR (stepS s r) W)) := Lib.hid (fun W => step_any s r W hr.kind)
  have HAW : Hid (∀ W, Calls Try.prog 13 #[] W fun e w' => e = .returned (.bool true) ∧ Below W.heap.size W w') := Lib.hid awake_any
  have HMR : Hid (∀ W, Calls Try.prog 15 #[stV s] W fun e w' => e = .returned (.bool (rightS s)) ∧ Below W.heap.size W w') := Lib.hid (fun W => mright_any s W)
  have HNP : Hid ((stepS s r).2 = true → nextP s.ph (stepS s r).1.ph) := Lib.hid phases
  have HPF := Lib.hid hs.ph
  obtain ⟨x, hx⟩ : ∃ x, x = stepS s r := ⟨_, rfl⟩
  have HX := Lib.hid hx
  rw [← hx] at HOK HXF HSP HNP
  unfold StepR at HSP
  obtain ⟨xb, hxb⟩ : ∃ b, b = x.2 := ⟨_, rfl⟩
  rw [← hxb] at HOK HSP HNP
  have HXB := Lib.hid hxb
  unfold stV at HSP HMR ⊢
  unfold recV at HSP ⊢
  obtain ⟨cs, hcs⟩ : ∃ c, c = stC s := ⟨_, rfl⟩
  have HE_cs := Lib.hid hcs
  have HZ_cs : Hid (cs.size = 12) := Lib.hid (by rw [hcs]; rfl)
  have H1_cs : Hid (cs.all (·.oneCell') = true) := Lib.hid (by rw [hcs]; exact stC_one _)
  obtain ⟨rs, hrs⟩ : ∃ c, c = recC r := ⟨_, rfl⟩
  have HE_rs := Lib.hid hrs
  have HZ_rs : Hid (rs.size = 19) := Lib.hid (by rw [hrs]; rfl)
  have H1_rs : Hid (rs.all (·.oneCell') = true) := Lib.hid (by rw [hrs]; exact recC_one _)
  obtain ⟨xc, hxc⟩ : ∃ c, c = stC x.1 := ⟨_, rfl⟩
  have HE_xc := Lib.hid hxc
  have HZ_xc : Hid (xc.size = 12) := Lib.hid (by rw [hxc]; rfl)
  have H1_xc : Hid (xc.all (·.oneCell') = true) := Lib.hid (by rw [hxc]; exact stC_one _)
  rw [← hcs] at HSP HMR ⊢
  rw [← hrs] at HSP ⊢
  rw [← hxc] at HSP
  clear hcs hrs hxc hx hxb hs hr
  go_enter Try.func10, Try.ntmps10
  go_upto_region 1 with (fail)
  refine name_w (fun W => Rw W w.heap.size cs 25 ∧ Rw W (w.heap.size + 1) rs 27 ∧ Below w.heap.size w W) ⟨(Rw.new _ _ _).alloc _, ?_, ((Below.refl _ _).alloc (Nat.le_refl _) _).alloc (by simp) _⟩ ?_
  · have h1 := Rw.new (w.alloc (.cells cs 25)) rs 27
    rw [size_alloc] at h1
    exact h1
  rintro u0 ⟨h0, h1, h2⟩
  have R_A_0 := Lib.hid h0
  have R_B_0 := Lib.hid h1
  have BT0 := Lib.hid h2
  clear h0 h1 h2
  go_wp2_with (first | (refine wpList_load_row rfl 25 (.tmp 2) rfl w.heap.size rfl 25 cs (0, 0) _ R_A_0.out Try.underlying25 rfl (by rw [HZ_cs.out]; exact i12) ?_) | (refine wpList_load_row rfl 27 (.tmp 3) rfl (w.heap.size + 1) rfl 27 rs (0, 0) _ R_B_0.out Try.underlying27 rfl (by rw [HZ_rs.out]; exact i19) ?_))
  refine (HSP.out _).mono ?_
  rintro e u1 ⟨rfl, hb⟩
  have R_A_1 := Lib.hid (R_A_0.out.under hb R_A_0.out.lt)
  have R_B_1 := Lib.hid (R_B_0.out.under hb R_B_0.out.lt)
  have BT1 := Lib.hid (BT0.out.trans (hb.mono BT0.out.size))
  clear hb BT0 R_A_0 R_B_0
  clear HSP
  go_upto_region 2 with (first | (refine wpList_plain rfl fun _ hK => wp_store_row 25 (.tmp 5) (.tmp 14) rfl u1.heap.size xc rfl rfl 25 _ (Rw.new u1 _ 25) (by rw [HZ_xc.out]; exact i12) (by rw [HZ_xc.out]; rfl) H1_xc.out (hK _ _ ?_); clear hK))
  obtain ⟨X, hY⟩ : ∃ X, X = u1.heap.size := ⟨_, rfl⟩
  rw [← hY]
  refine name_w (fun W => Rw W w.heap.size cs 25 ∧ Rw W (w.heap.size + 1) rs 27 ∧ Rw W X xc 25 ∧ Below w.heap.size w W) ?_ ?_
  · have bb := below_setRow ((Below.refl u1.heap.size u1).alloc (Nat.le_refl _) (.cells zeroSC 25)) (Nat.le_refl _) (b := u1.heap.size) xc
    rw [hY]
    exact ⟨R_A_1.out.under bb R_A_1.out.lt, R_B_1.out.under bb R_B_1.out.lt, (Rw.new u1 _ 25).set xc, BT1.out.trans (bb.mono BT1.out.size)⟩
  clear hY BT1 R_A_1 R_B_1
  rintro u2 ⟨h0, h1, h2, h3⟩
  have R_A_2 := Lib.hid h0
  have R_B_2 := Lib.hid h1
  have R_X_2 := Lib.hid h2
  have BT2 := Lib.hid h3
  clear h0 h1 h2 h3
  go_wp2_with fail
  refine (HAW.out _).mono ?_
  rintro e u3 ⟨rfl, hb⟩
  have R_A_3 := Lib.hid (R_A_2.out.under hb R_A_2.out.lt)
  have R_B_3 := Lib.hid (R_B_2.out.under hb R_B_2.out.lt)
  have R_X_3 := Lib.hid (R_X_2.out.under hb R_X_2.out.lt)
  have BT3 := Lib.hid (BT2.out.trans (hb.mono BT2.out.size))
  clear hb BT2 R_A_2 R_B_2 R_X_2
  cases xb with
  | false =>
    go_upto_region 3 with (fail)
    go_wp2_with fail
    refine (HAW.out _).mono ?_
    rintro e u4 ⟨rfl, hb⟩
    have R_A_4 := Lib.hid (R_A_3.out.under hb R_A_3.out.lt)
    have R_B_4 := Lib.hid (R_B_3.out.under hb R_B_3.out.lt)
    have R_X_4 := Lib.hid (R_X_3.out.under hb R_X_3.out.lt)
    have BT4 := Lib.hid (BT3.out.trans (hb.mono BT3.out.size))
    clear hb BT3 R_A_3 R_B_3 R_X_3
    go_wp2_with fail
    go_ret
    exact ⟨rfl, BT4.out⟩
  | true =>
  have hrt := HOK.out rfl
  have HRT := Lib.hid hrt
  rw [hrt] at HMR
  clear hrt HOK
  go_wp2_with (first | (refine wpList_load_any (by rfl) 25 (.tmp 2) rfl w.heap.size rfl 25 cs (0, 0) _ R_A_3.out Try.underlying25 rfl (by rw [HZ_cs.out]; exact i12) ?_))
  refine (HMR.out _).mono ?_
  rintro e u4 ⟨rfl, hb⟩
  have R_A_4 := Lib.hid (R_A_3.out.under hb R_A_3.out.lt)
  have R_B_4 := Lib.hid (R_B_3.out.under hb R_B_3.out.lt)
  have R_X_4 := Lib.hid (R_X_3.out.under hb R_X_3.out.lt)
  have BT4 := Lib.hid (BT3.out.trans (hb.mono BT3.out.size))
  clear hb BT3 R_A_3 R_B_3 R_X_3
  clear HMR HAW
  obtain ⟨xs, hT, hmem, hlen⟩ := phT_next (HNP.out (by simp))
  obtain ⟨ph, h_ph⟩ : ∃ g, g = s.ph := ⟨_, rfl⟩
  obtain ⟨q, h_q⟩ : ∃ g, g = x.1.ph := ⟨_, rfl⟩
  rw [← h_ph] at hT HPF
  rw [← h_q] at hmem
  have HVP := Lib.hid h_ph
  have HVQ := Lib.hid h_q
  have HTT := Lib.hid hT
  have HME := Lib.hid hmem
  clear h_ph h_q hT hmem HNP
  go_upto_region 4 with (fail)
  have hmm := @run_makeMap Try.prog
  have F : ∀ n : Int, 0 ≤ n → n ≤ 20 → Fits n := fun n h1 h2 => by unfold Fits; omega
  have T0 := TabL.made u4
  have B0 : Below u4.heap.size u4 (u4.alloc (.map #[] 0)) := (Below.refl _ _).alloc (Nat.le_refl _) _
  obtain ⟨W1, e1, T1, b1⟩ := T0.store 0 [1] (F _ (by omega) (by omega)) (by omega)
  obtain ⟨W2, e2, T2, b2⟩ := T1.store 1 [0, 1, 2] (F _ (by omega) (by omega)) (by omega)
  obtain ⟨W3, e3, T3, b3⟩ := T2.store 2 [0, 1, 3] (F _ (by omega) (by omega)) (by omega)
  obtain ⟨W4, e4, T4, b4⟩ := T3.store 3 [0, 3, 4] (F _ (by omega) (by omega)) (by omega)
  obtain ⟨W5, e5, T5, b5⟩ := T4.store 4 [5, 6] (F _ (by omega) (by omega)) (by omega)
  obtain ⟨W6, e6, T6, b6⟩ := T5.store 5 [0, 6] (F _ (by omega) (by omega)) (by omega)
  obtain ⟨W7, e7, T7, b7⟩ := T6.store 6 [6, 7] (F _ (by omega) (by omega)) (by omega)
  obtain ⟨W8, e8, T8, b8⟩ := T7.store 7 [0] (F _ (by omega) (by omega)) (by omega)
  have HT8 : Hid (TabL u4.heap.size W8 phT 8) := Lib.hid T8
  have HB8 : Hid (Below u4.heap.size u4 W8) := Lib.hid ((((((((B0.trans b1).trans b2).trans b3).trans b4).trans b5).trans b6).trans b7).trans b8)
  clear T0 B0 F T1 b1 T2 b2 T3 b3 T4 b4 T5 b5 T6 b6 T7 b7 T8 b8
  simp only [ints, List.map_cons, List.map_nil, List.length_cons, List.length_nil, Nat.zero_add, Nat.reduceAdd] at e1 e2 e3 e4 e5 e6 e7 e8
  rw [show (u4.alloc (.map #[] 0)).heap.size = u4.heap.size + 1 by simp] at e1
  go_upto_region 5 with (fail)
  clear hmm e1 e2 e3 e4 e5 e6 e7 e8
  obtain ⟨m, hm⟩ : ∃ m, m = u4.heap.size := ⟨_, rfl⟩
  rw [← hm] at HT8 ⊢
  refine name_w (fun W => Rw W w.heap.size cs 25 ∧ Rw W (w.heap.size + 1) rs 27 ∧ Rw W X xc 25 ∧ Below w.heap.size w W ∧ TabL m W phT 8) ⟨R_A_4.out.under HB8.out R_A_4.out.lt, R_B_4.out.under HB8.out R_B_4.out.lt, R_X_4.out.under HB8.out R_X_4.out.lt, BT4.out.trans (HB8.out.mono BT4.out.size), HT8.out⟩ ?_
  clear hm HT8 HB8 BT4 R_A_4 R_B_4 R_X_4
  rintro u5 ⟨h0, h1, h2, h3, h4⟩
  have R_A_5 := Lib.hid h0
  have R_B_5 := Lib.hid h1
  have R_X_5 := Lib.hid h2
  have BT5 := Lib.hid h3
  obtain ⟨v, ev, b, rfl, hb1, hb2⟩ := h4.look ph HPF.out xs HTT.out
  have HROW : Hid (∀ k (h : k < xs.length), u5.cell? ⟨b, k, none⟩ = some (.int .i64 xs[k])) := Lib.hid (fun k h => by rw [hb2.cell k]; simpa using ints_at xs k h)
  clear h0 h1 h2 h3 h4 hb1 hb2
  have a0 : u5.cell? ⟨w.heap.size, 0, none⟩ = some (.int .i64 ph) := by rw [R_A_5.out.cell 0, HE_cs.out, HVP.out]; rfl
  have x0 : u5.cell? ⟨X, 0, none⟩ = some (.int .i64 q) := by rw [R_X_5.out.cell 0, HE_xc.out, HVQ.out]; rfl
  go_wp2
  clear ev
  go_loopg [43] xs.length (fun m' i wr => ∃ k : Nat, Hid (m' = xs.length - k) ∧ k ≤ xs.length ∧ i = .int .i64 k ∧ Hid (∀ j (h : j < xs.length), j < k → xs[j] ≠ q) ∧ wr = u5)
  case atStart => exact ⟨0, Lib.hid rfl, Nat.zero_le _, rfl, Lib.hid (fun j _ h => by omega), rfl⟩
  case round =>
    obtain ⟨k, HG, hk, rfl, HP, rfl⟩ := hrel
    by_cases hlt : k < xs.length
    case pos =>
      have cj := HROW.out k hlt
      by_cases hp : xs[k] = q
      case pos =>
        have f1 : (xs[k] == q) = true := by simpa using hp
        clear hp
        go_wp2
        go_ret
        exact ⟨rfl, BT5.out⟩
      have f1 : (xs[k] == q) = false := by simpa using hp
      have HQ := Lib.hid hp
      clear hp
      go_wp2
      go_roundg (xs.length - (k + 1))
      case measure => have := HG.out; omega
      case rel => exact ⟨k + 1, Lib.hid rfl, by omega, by simp, Lib.hid (fun j h1 h2 => by
          rcases Nat.lt_or_ge j k with h3 | h3
          · exact HP.out j h1 h3
          · obtain rfl : j = k := by omega
            exact HQ.out), rfl⟩
    exfalso
    obtain ⟨j, hj, e⟩ := List.mem_iff_getElem.1 HME.out
    exact HP.out j hj (by omega) e

/-! From the walk to the given row. -/
set_option maxRecDepth 100000 in
theorem lifted (os : Os) (started : os.Started) (H : Type) (enc : TypeId × Value → H) :
    ReturnsInHanded {} Try.checked os 10 .any (Rows.foldPhasesSpec.pre6 enc Try.prog Try.f10 Rows.foldPhasesRow.domain false) (Rows.foldPhasesSpec.post enc Try.prog Try.f10 false true false false) := by
  refine returnsInHanded_of_change (C := Try.checked) t_own started (by kernel_rfl) Try.func10
    (ChangeSpec.witness6 (enc := enc) (C := Try.checked) false ⟨#[], #[stV zeroS, recV ⟨0, 0, 0, 0, 0, 0, false, zeroS⟩], []⟩ 8 (by kernel_rfl) (by kernel_rfl) (by kernel_rfl) (by kernel_rfl)) ?_
  intro W base args ds gs before hval0 hW hcnd _
  have hval : ∀ (j : Nat) t v, Try.f10.params[j]? = some t → args[j]? = some v → Value.okWide Try.prog W .any base t v := hval0
  have hW' := hW
  obtain ⟨p, q, hA0, hV, rfl, hfz, hnd⟩ := hW
  have hA : DataW.TrodAll enc Try.prog W 0 (fun _ => true) true Try.f10.params.toList args.toList ds p := hA0
  rw [Try.params10] at hA hval
  obtain ⟨v0, vs0, d0, ds0, p0, q0, hargs, rfl, rfl, h0, r0⟩ := trodAll_cons hA
  obtain ⟨v1, vs1, d1, ds1, p1, q1, rfl, rfl, rfl, h1, r1⟩ := trodAll_cons r0
  obtain ⟨rfl, rfl, rfl⟩ := trodAll_nil r1
  obtain rfl : args = #[v0, v1] := by cases args; simp_all
  obtain ⟨s, rfl, hs⟩ := open_state (hval 0 25 v0 rfl rfl) h0
  obtain ⟨r, rfl, hr⟩ := open_rec (hval 1 27 v1 rfl rfl) h1
  refine (walk s r W hs hr).mono fun e W' ⟨he, hb⟩ => ?_
  subst he
  exact ⟨_, rfl, post_of_holds hW' (by kernel_rfl) rfl (by rw [Try.params10]; exact fun t ht => params_ok t (by simp at ht; rcases ht with rfl | rfl <;> simp)) ⟨rfl, rfl, rfl⟩ hb⟩

/-- The given statement. -/
theorem proved : Rows.FoldPhasesSaid :=
  OpenClaim.holds_of_wide 10 Try.f10 rfl rfl rfl rfl rfl rfl rfl ⟨rfl, rfl, rfl, rfl, rfl⟩ rfl rfl rfl rfl rfl (by kernel_rfl) Try.func10 (by kernel_rfl)
    (of_decide_eq_true (by kernel_rfl)) (by unfold Func.isWrapper; first | (rw [if_pos (by decide +kernel)]; kernel_rfl) | (rw [if_neg (by decide +kernel)]; exact ⟨rfl, rfl⟩))
    (fun os started H enc _ => lifted os started H enc)
#print axioms proved
end Go.Proofs.Ytoeelglmdnhknaa.foldPhases
