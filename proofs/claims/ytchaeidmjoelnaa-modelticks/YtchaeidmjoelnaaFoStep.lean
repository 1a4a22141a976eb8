/-
  What package fold's stepBy and Step answer.
-/
import Derived.Test.YtchaeidmjoelnaaFoTab
import Derived.Test.YtchaeidmjoelnaaStStepK
import Derived.Deep.RegionHeld3
namespace Go.Proofs.Ytchaeidmjoelnaa
open Go.RowKit

theorem in_1 (s : St) (r : Rc) : inS [0, 1, 2] dep1 s r = step1 s r := by
  unfold inS step1 dep1
  by_cases h : s.ph ≠ 0 ∧ s.ph ≠ 1 ∧ s.ph ≠ 2
  · rw [if_pos h, if_neg (by simp; omega)]
  · rw [if_neg h, if_pos (by simp; omega)]
theorem in_2 (s : St) (r : Rc) (hr : rightS s = true) : inS [1, 2, 3, 4, 5] (fun s _ => ab2 s) s r = step2 s := by
  have hsw : s.sw = 0 ∨ s.ph = 3 ∨ s.ph = 6 := by
    unfold rightS at hr
    split at hr
    · have := of_decide_eq_true hr; unfold RightX at this; omega
    · split at hr
      · have := of_decide_eq_true hr; unfold RightX at this; omega
      · cases hr
  have h7 := (right_in hr).2
  unfold inS step2 ab2
  by_cases h1 : s.ph = 1 ∨ s.ph = 2 ∨ s.ph = 3 ∧ s.sw = 0
  · rw [if_pos h1, if_pos (by simp; omega)]
    simp only
    rw [if_neg (by omega), if_neg (by omega)]
  · rw [if_neg h1]
    by_cases h4 : s.ph = 4 ∨ s.ph = 5
    · rw [if_pos (by simp; omega), pick_yes _ _ h4]
      simp only
      rw [if_neg (by omega), if_pos h4]
    · rw [pick_no _ _ h4]
      by_cases h3 : s.ph = 3
      · rw [if_pos (by simp; omega)]
        simp only
        rw [if_pos (by omega)]
      · rw [if_neg (by simp; omega)]
theorem in_3 (s : St) (r : Rc) : inS [1] (fun s _ => wa3 s) s r = step3 s := by
  unfold inS step3 wa3
  by_cases h : s.ph = 1
  · rw [if_pos (by simpa using h), pick_yes _ _ h]
  · rw [if_neg (by simpa using h), pick_no _ _ h]
theorem in_4 (s : St) (r : Rc) : inS [2] ga4 s r = step4 s r := by
  unfold inS step4 ga4
  by_cases h : s.ph = 2
  · rw [if_pos (by simpa using h), pick_yes _ _ h]
    cases r.pass <;> simp [h]
  · rw [if_neg (by simpa using h), if_neg (fun h1 => h h1.1), pick_no _ _ h]
theorem in_5 (s : St) (r : Rc) (hr : rightS s = true) : inS [3, 6] pr5 s r = step5 s r := by
  have h7 := (right_in hr).2
  unfold inS step5 pr5
  by_cases h : (s.ph = 3 ∨ s.ph = 6) ∧ s.sw = 0 ∧ s.gn < 1048576 ∧ r.gen = s.gn + 1
  · rw [if_pos (by simpa using h.1), pick_yes _ _ h, if_neg (by omega)]
  · rw [pick_no _ _ h]
    by_cases h1 : s.ph = 3 ∨ s.ph = 6
    · rw [if_pos (by simpa using h1), if_pos (by omega)]
    · rw [if_neg (by simpa using h1)]
theorem under_6 (s : St) (r : Rc) : underS 1 (fun s _ => co6 s) s r = step6 s r := by
  unfold underS step6 co6
  by_cases h : s.sw = 1 ∧ r.gen = s.gn
  · rw [if_neg (by omega), pick_yes _ _ h]
  · rw [if_pos (by omega), pick_no _ _ h]
theorem under_7 (s : St) (r : Rc) : underS 1 (fun s _ => ca7 s) s r = step7 s r := by
  unfold underS step7 ca7
  by_cases h : s.sw = 1 ∧ r.gen = s.gn
  · rw [if_neg (by omega), pick_yes _ _ h]
  · rw [if_pos (by omega), pick_no _ _ h]
theorem under_8 (s : St) (r : Rc) : underS 2 ap8 s r = step8 s r := by
  unfold underS step8 ap8
  by_cases h : s.sw = 2 ∧ r.gen = s.gn ∧ 0 ≤ r.tick ∧ r.tick ≤ 1073741824
  · rw [if_neg (by omega), pick_yes _ _ h, if_neg (by unfold inR; simp; omega)]
  · rw [pick_no _ _ h]
    by_cases h1 : s.sw ≠ 2 ∨ r.gen ≠ s.gn
    · rw [if_pos h1]
    · rw [if_neg h1, if_pos (by unfold inR; simp; omega)]
theorem in_9 (s : St) (r : Rc) : inS [4] gb9 s r = step9 s r := by
  unfold inS step9 gb9
  by_cases h : s.ph = 4
  · rw [if_pos (by simpa using h), pick_yes _ _ h]
  · rw [if_neg (by simpa using h), pick_no _ _ h]
theorem in_10 (s : St) (r : Rc) : inS [5, 7] (fun s _ => sc10 s) s r = step10 s := by
  unfold inS step10 sc10
  by_cases h : s.ph = 5 ∨ s.ph = 7
  · rw [if_pos (by simpa using h), pick_yes _ _ h]
  · rw [if_neg (by simpa using h), pick_no _ _ h]
theorem changes_none {s : St} {r : Rc} (h : changesT r.kind = none) : stepS s r = (s, false) := by
  unfold stepS
  split
  · rfl
  · unfold changesT at h
    repeat (split at h; cases h)
    simp [*]
theorem changes_some {s : St} {r : Rc} {g : St → Rc → St × Bool} (h : changesT r.kind = some g) (hr : rightS s = true) : g s r = stepS s r := by
  unfold stepS
  rw [if_neg (by rw [hr]; decide)]
  unfold changesT at h
  by_cases h10 : r.kind = 10
  · rw [h10] at h ⊢
    simp at h ⊢
    subst h
    exact in_10 s r
  by_cases h9 : r.kind = 9
  · rw [h9] at h ⊢
    simp at h ⊢
    subst h
    exact in_9 s r
  by_cases h8 : r.kind = 8
  · rw [h8] at h ⊢
    simp at h ⊢
    subst h
    exact under_8 s r
  by_cases h7 : r.kind = 7
  · rw [h7] at h ⊢
    simp at h ⊢
    subst h
    exact under_7 s r
  by_cases h6 : r.kind = 6
  · rw [h6] at h ⊢
    simp at h ⊢
    subst h
    exact under_6 s r
  by_cases h5 : r.kind = 5
  · rw [h5] at h ⊢
    simp at h ⊢
    subst h
    exact in_5 s r hr
  by_cases h4 : r.kind = 4
  · rw [h4] at h ⊢
    simp at h ⊢
    subst h
    exact in_4 s r
  by_cases h3 : r.kind = 3
  · rw [h3] at h ⊢
    simp at h ⊢
    subst h
    exact in_3 s r
  by_cases h2 : r.kind = 2
  · rw [h2] at h ⊢
    simp at h ⊢
    subst h
    exact in_2 s r hr
  by_cases h1 : r.kind = 1
  · rw [h1] at h ⊢
    simp at h ⊢
    subst h
    exact in_1 s r
  simp [h1, h2, h3, h4, h5, h6, h7, h8, h9, h10] at h
set_option maxRecDepth 100000 in
set_option maxHeartbeats 4000000 in
theorem stepBy_any (m n : Nat) (s : St) (r : Rc) (w : World) (hT : Tab m w changesT n) (hk : Fits r.kind) : Calls Try.prog 60 #[.map (some m), stV s, recV r] w (StepR (stepS s r) w) := by
  have HT := Lib.hid hT
  have HK := Lib.hid hk
  have HNO : Hid (changesT r.kind = none → stepS s r = (s, false)) := Lib.hid changes_none
  have HYES : Hid (∀ g, changesT r.kind = some g → rightS s = true → g s r = stepS s r) := Lib.hid (fun g => changes_some)
  have HRG : Hid (∀ W, Calls Try.prog 37 #[stV s] W fun e w' => e = .returned (.bool (rightS s)) ∧ Below W.heap.size W w') := Lib.hid (fun W => right_any s W)
  have HWR : Hid (rightS s = false → stepS s r = (s, false)) := Lib.hid (fun h => by unfold stepS; rw [if_pos h])
  clear hT hk
  obtain ⟨kind, hkd⟩ : ∃ k, k = r.kind := ⟨_, rfl⟩
  obtain ⟨x, hx⟩ : ∃ x : St × Bool, x = stepS s r := ⟨_, rfl⟩
  have HKD := Lib.hid hkd
  obtain ⟨xc, hxc⟩ : ∃ c, c = stC x.1 := ⟨_, rfl⟩
  obtain ⟨xb, hxb⟩ : ∃ b, b = x.2 := ⟨_, rfl⟩
  have HX := Lib.hid hx
  have HXC := Lib.hid hxc
  have HXB := Lib.hid hxb
  have HZX : Hid (xc.size = 12) := Lib.hid (by rw [hxc]; rfl)
  have H1X : Hid (xc.all (·.oneCell') = true) := Lib.hid (by rw [hxc]; exact stC_one _)
  rw [← hkd] at HNO HYES HK
  obtain ⟨cs, hcs⟩ : ∃ c, c = stC s := ⟨_, rfl⟩
  obtain ⟨rs, hrs⟩ : ∃ c, c = recC r := ⟨_, rfl⟩
  have HC := Lib.hid hcs
  have HRR := Lib.hid hrs
  have HZC : Hid (cs.size = 12) := Lib.hid (by rw [hcs]; rfl)
  have HZR : Hid (rs.size = 19) := Lib.hid (by rw [hrs]; rfl)
  have H1C : Hid (cs.all (·.oneCell') = true) := Lib.hid (by rw [hcs]; exact stC_one _)
  rw [show stV s = .agg cs by rw [hcs]; rfl, show recV r = .agg rs by rw [hrs]; rfl]
  rw [show stV s = .agg cs by rw [hcs]; rfl] at HRG
  clear hcs hrs hx hxc hxb hkd
  go_enter Try.func60, Try.ntmps60
  go_upto_region 1 with (fail)
  refine name_w (fun W => Rw W w.heap.size cs 38 ∧ Rw W (w.heap.size + 1) rs 72 ∧ Rw W (w.heap.size + 1 + 1) zeroSC 38 ∧ Below w.heap.size w W) ⟨((Rw.new _ _ _).alloc _).alloc _, Rw.alloc (heap_alloc2_new w _ _) _, ?_, (((Below.refl _ _).alloc (Nat.le_refl _) _).alloc (by simp) _).alloc (by simp; omega) _⟩ ?_
  · have h1 := Rw.new ((w.alloc (.cells cs 38)).alloc (.cells rs 72)) zeroSC 38
    rw [size_alloc, size_alloc] at h1
    exact h1
  rintro u0 ⟨hA, hB, hZ, hb⟩
  have RA0 := Lib.hid hA
  have RB0 := Lib.hid hB
  have RZ0 := Lib.hid hZ
  have BT0 := Lib.hid hb
  have q0 : u0.cell? ⟨w.heap.size + 1, 0, none⟩ = some (.int .i64 kind) := by rw [hB.cell 0, HRR.out, HKD.out]; rfl
  obtain ⟨v, ev, hv1, hv2⟩ := (HT.out.under hb).look kind HK.out
  clear hA hB hZ hb
  cases hk : changesT kind with
  | none =>
    have HE : Hid (stepS s r = (s, false)) := Lib.hid (HNO.out hk)
    rw [hk] at ev
    obtain rfl := hv1 hk
    clear hv1 hv2 hk
    change _ = Result.ok (Value.tuple #[.nilFunc, .bool false]) u0 at ev
    have ZF := Lib.hid (RZ0.out.set cs)
    have BF := Lib.hid (below_setRow BT0.out (by omega) (b := w.heap.size + 1 + 1) cs)
    go_upto_region 3 with (fail)
    go_wp2_with (first | (refine wpList_load_any (by rfl) 38 (.tmp 4) rfl w.heap.size rfl 38 cs (0, 0) _ RA0.out Try.underlying38 rfl (by rw [HZC.out]; exact i12) ?_) | (refine wpList_plain rfl fun _ hK => wp_store_row 38 (.tmp 6) (.tmp 24) rfl (w.heap.size + 1 + 1) cs rfl rfl 38 _ RZ0.out (by rw [HZC.out]; exact i12) (by rw [HZC.out]; rfl) H1C.out (hK _ _ ?_); clear hK))
    (try simp only [Exit.inBlock, Exit.then])
    refine bodyPost_ret (results_cell_tmp rfl _ _ (w.heap.size + 1 + 1) 38 cs (0, 0) _ rfl ZF.out Try.underlying38 rfl (by rw [HZC.out]; exact i12)) rfl ?_
    exact ⟨by rw [HE.out, HC.out]; rfl, BF.out⟩
  | some g =>
    rw [hk] at ev
    have hd := hv2 g hk
    change _ = Result.ok (Value.tuple #[v, .bool true]) u0 at ev
    obtain ⟨fn, p, q, rfl, hE, hdo⟩ := hd
    cases hr : rightS s with
    | false =>
      have HE : Hid (stepS s r = (s, false)) := Lib.hid (HWR.out hr)
      rw [hr] at HRG
      clear hv1 hv2 hk hdo hr
      go_wp2_with (refine wpList_load_any (by rfl) 38 (.tmp 4) rfl w.heap.size rfl 38 cs (0, 0) _ RA0.out Try.underlying38 rfl (by rw [HZC.out]; exact i12) ?_)
      refine (HRG.out _).mono ?_
      rintro e u1 ⟨rfl, hb⟩
      have RA1 := Lib.hid (RA0.out.under hb RA0.out.lt)
      have RZ1 := Lib.hid (RZ0.out.under hb RZ0.out.lt)
      have BT1 := Lib.hid (BT0.out.trans (hb.mono BT0.out.size))
      clear hb
      have ZF := Lib.hid (RZ1.out.set cs)
      have BF := Lib.hid (below_setRow BT1.out (by omega) (b := w.heap.size + 1 + 1) cs)
      go_upto_region 3 with (fail)
      go_wp2_with (first | (refine wpList_load_any (by rfl) 38 (.tmp 4) rfl w.heap.size rfl 38 cs (0, 0) _ RA1.out Try.underlying38 rfl (by rw [HZC.out]; exact i12) ?_) | (refine wpList_plain rfl fun _ hK => wp_store_row 38 (.tmp 6) (.tmp 24) rfl (w.heap.size + 1 + 1) cs rfl rfl 38 _ RZ1.out (by rw [HZC.out]; exact i12) (by rw [HZC.out]; rfl) H1C.out (hK _ _ ?_); clear hK))
      (try simp only [Exit.inBlock, Exit.then])
      refine bodyPost_ret (results_cell_tmp rfl _ _ (w.heap.size + 1 + 1) 38 cs (0, 0) _ rfl ZF.out Try.underlying38 rfl (by rw [HZC.out]; exact i12)) rfl ?_
      exact ⟨by rw [HE.out, HC.out]; rfl, BF.out⟩
    | true =>
      have HCC : Hid (∀ W, Below u0.heap.size u0 W → Calls Try.prog fn #[.agg cs, .agg rs, .pointer (some ⟨p, 0, none⟩), .pointer (some ⟨q, 0, none⟩)] W fun e w' => e = .returned (.tuple #[.agg xc, .bool xb]) ∧ Below W.heap.size W w') := Lib.hid (fun W hW => by
        have h1 := hdo W (fun k _ h2 => hW.block k h2) s r hr
        rw [HYES.out g hk hr, ← HX.out] at h1
        unfold StepR stV recV at h1
        rw [← HC.out, ← HRR.out, ← HXC.out, ← HXB.out] at h1
        exact h1)
      unfold EntersC at hE
      rw [hr] at HRG
      clear hv1 hv2 hk hdo hr
      go_wp2_with (refine wpList_load_any (by rfl) 38 (.tmp 4) rfl w.heap.size rfl 38 cs (0, 0) _ RA0.out Try.underlying38 rfl (by rw [HZC.out]; exact i12) ?_)
      refine (HRG.out _).mono ?_
      rintro e u1 ⟨rfl, hb⟩
      have RA1 := Lib.hid (RA0.out.under hb RA0.out.lt)
      have RB1 := Lib.hid (RB0.out.under hb RB0.out.lt)
      have RZ1 := Lib.hid (RZ0.out.under hb RZ0.out.lt)
      have BT1 := Lib.hid (BT0.out.trans (hb.mono BT0.out.size))
      have HC1 := Lib.hid (HCC.out u1 hb)
      clear hb q0 ev
      go_upto_region 4 with (fail)
      go_wp2_with (first | (refine wpList_load_any (by rfl) 38 (.tmp 4) rfl w.heap.size rfl 38 cs (0, 0) _ RA1.out Try.underlying38 rfl (by rw [HZC.out]; exact i12) ?_) | (refine wpList_load_any (by rfl) 72 (.tmp 5) rfl (w.heap.size + 1) rfl 72 rs (0, 0) _ RB1.out Try.underlying72 rfl (by rw [HZR.out]; exact i19) ?_))
      refine HC1.out.mono ?_
      rintro e u2 ⟨rfl, hb⟩
      have RZ2 := Lib.hid (RZ1.out.under hb RZ1.out.lt)
      have BT2 := Lib.hid (BT1.out.trans (hb.mono BT1.out.size))
      clear hb
      have ZF := Lib.hid (RZ2.out.set xc)
      have BF := Lib.hid (below_setRow BT2.out (by omega) (b := w.heap.size + 1 + 1) xc)
      go_wp2_with (refine wpList_plain rfl fun _ hK => wp_store_row 38 (.tmp 6) (.tmp 29) rfl (w.heap.size + 1 + 1) xc rfl rfl 38 _ RZ2.out (by rw [HZX.out]; exact i12) (by rw [HZX.out]; rfl) H1X.out (hK _ _ ?_); clear hK)
      (try simp only [Exit.inBlock, Exit.then])
      refine bodyPost_ret (results_cell_tmp rfl _ _ (w.heap.size + 1 + 1) 38 xc (0, 0) _ rfl ZF.out Try.underlying38 rfl (by rw [HZX.out]; exact i12)) rfl ?_
      exact ⟨by rw [← HX.out, HXC.out]; show _ = Ending.returned (.tuple #[stV x.1, .bool x.2]); rw [← HXB.out]; rfl, BF.out⟩
set_option maxRecDepth 100000 in
set_option maxHeartbeats 4000000 in
theorem step_any (s : St) (r : Rc) (w : World) (hk : Fits r.kind) : Calls Try.prog 46 #[stV s, recV r] w (StepR (stepS s r) w) := by
  obtain ⟨x, hx⟩ : ∃ x : St × Bool, x = stepS s r := ⟨_, rfl⟩
  have HSB : Hid (∀ m n W, Tab m W changesT n → Calls Try.prog 60 #[.map (some m), stV s, recV r] W (StepR (stepS s r) W)) := Lib.hid (fun m n W h => stepBy_any m n s r W h hk)
  rw [← hx] at HSB ⊢
  obtain ⟨xc, hxc⟩ : ∃ c, c = stC x.1 := ⟨_, rfl⟩
  obtain ⟨xb, hxb⟩ : ∃ b, b = x.2 := ⟨_, rfl⟩
  have HXC := Lib.hid hxc
  have HXB := Lib.hid hxb
  have HZX : Hid (xc.size = 12) := Lib.hid (by rw [hxc]; rfl)
  have H1X : Hid (xc.all (·.oneCell') = true) := Lib.hid (by rw [hxc]; exact stC_one _)
  unfold StepR stV at HSB
  rw [← hxc, ← hxb] at HSB
  unfold stV recV
  unfold recV at HSB
  obtain ⟨cs, hcs⟩ : ∃ c, c = stC s := ⟨_, rfl⟩
  obtain ⟨rs, hrs⟩ : ∃ c, c = recC r := ⟨_, rfl⟩
  rw [← hcs, ← hrs] at HSB ⊢
  have HZC : Hid (cs.size = 12) := Lib.hid (by rw [hcs]; rfl)
  have HZR : Hid (rs.size = 19) := Lib.hid (by rw [hrs]; rfl)
  clear hcs hrs hx hxc hxb hk
  go_enter Try.func46, Try.ntmps46
  go_upto_region 1 with (fail)
  refine name_w (fun W => Rw W w.heap.size cs 38 ∧ Rw W (w.heap.size + 1) rs 72 ∧ Rw W (w.heap.size + 1 + 1) zeroSC 38 ∧ Below w.heap.size w W) ⟨((Rw.new _ _ _).alloc _).alloc _, Rw.alloc (heap_alloc2_new w _ _) _, ?_, (((Below.refl _ _).alloc (Nat.le_refl _) _).alloc (by simp) _).alloc (by simp; omega) _⟩ ?_
  · have h1 := Rw.new ((w.alloc (.cells cs 38)).alloc (.cells rs 72)) zeroSC 38
    rw [size_alloc, size_alloc] at h1
    exact h1
  rintro u0 ⟨hA, hB, hZ, hb⟩
  have RA0 := Lib.hid hA
  have RB0 := Lib.hid hB
  have RZ0 := Lib.hid hZ
  have BT0 := Lib.hid hb
  clear hA hB hZ hb
  refine wp_region_held_drew (S := fun W => Rw W w.heap.size cs 38 ∧ Rw W (w.heap.size + 1) rs 72) (by kernel_rfl) ⟨RA0.out, RB0.out⟩ (fun hHeld => ?_)
  refine wpAnyH_take (i := 1) (oi := { dst := some 7, op := Op.load 38 (Operand.tmp 2), type := 38, pos := "fold.go:25", after := #[], guard := none }) (v := .agg cs) rfl (by kernel_rfl) (by kernel_rfl) (by kernel_rfl) (fun _ _ _ h => h) (Or.inl ⟨by rfl, fun W hS => exec_load_row 38 (.tmp 2) rfl w.heap.size rfl 38 cs (0, 0) _ hS.1 Try.underlying38 rfl (by rw [HZC.out]; exact i12)⟩) hHeld ?_
  (try simp only [Act.put, List.setIfInBounds_toArray, List.set_cons_zero, List.set_cons_succ])
  refine wpAnyH_take (i := 2) (oi := { dst := some 8, op := Op.load 72 (Operand.tmp 3), type := 72, pos := "fold.go:25", after := #[], guard := none }) (v := .agg rs) rfl (by kernel_rfl) (by kernel_rfl) (by kernel_rfl) (fun _ _ _ h => h) (Or.inl ⟨by rfl, fun W hS => exec_load_row 72 (.tmp 3) rfl (w.heap.size + 1) rfl 72 rs (0, 0) _ hS.2 Try.underlying72 rfl (by rw [HZR.out]; exact i19)⟩) hHeld ?_
  (try simp only [Act.put, List.setIfInBounds_toArray, List.set_cons_zero, List.set_cons_succ])
  refine wpAnyH_ready (rs := [0]) (by kernel_rfl) (by simp) ?_
  refine AllReadyH.cons (o := { dst := some 6, op := Op.call { callee := Callee.value (Operand.func 61), args := #[], argTypes := #[] }, type := 105, pos := "fold.go:25", after := #[], guard := none }) rfl (fun K hK => ?_) AllReadyH.nil
  go_simp
  refine (changes_any _).mono ?_
  rintro e u1 ⟨rfl, hT, hb⟩
  have RA1 := Lib.hid (Rw.under (W := u0.drew) RA0.out hb RA0.out.lt)
  have RB1 := Lib.hid (Rw.under (W := u0.drew) RB0.out hb RB0.out.lt)
  have RZ1 := Lib.hid (Rw.under (W := u0.drew) RZ0.out hb RZ0.out.lt)
  have BT1 := Lib.hid ((below_drew BT0.out).trans (hb.mono BT0.out.size))
  have HS1 := Lib.hid (HSB.out _ _ u1 hT)
  clear hb hT
  refine hK.out _ _ ?_ (fun hHeld => ?_)
  · exact ⟨RA1.out, RB1.out⟩
  clear hK K
  (try simp only [Act.put, List.setIfInBounds_toArray, List.set_cons_zero, List.set_cons_succ])
  refine wpAnyH_ready (rs := [3]) (by kernel_rfl) (by simp) ?_
  refine AllReadyH.cons (o := { dst := some 9, op := Op.call { callee := Callee.value (Operand.func 60), args := #[Operand.tmp 6, Operand.tmp 7, Operand.tmp 8], argTypes := #[105, 38, 72] }, type := 57, pos := "fold.go:25", after := #[{ on := 0, ground := Ground.data }, { on := 1, ground := Ground.data }, { on := 2, ground := Ground.data }, { on := 0, ground := Ground.chain }], guard := none }) rfl (fun K hK => ?_) AllReadyH.nil
  go_simp
  refine HS1.out.mono ?_
  rintro e u2 ⟨rfl, hb⟩
  have RA2 := Lib.hid (RA1.out.under hb RA1.out.lt)
  have RB2 := Lib.hid (RB1.out.under hb RB1.out.lt)
  have RZ2 := Lib.hid (RZ1.out.under hb RZ1.out.lt)
  have BT2 := Lib.hid (BT1.out.trans (hb.mono BT1.out.size))
  clear hb
  refine hK.out _ _ ?_ (fun hHeld => ?_)
  · exact ⟨RA2.out, RB2.out⟩
  clear hK K
  (try simp only [Act.put, List.setIfInBounds_toArray, List.set_cons_zero, List.set_cons_succ])
  refine wpAnyH_take (i := 4) (oi := { dst := some 10, op := Op.extract (Operand.tmp 9) 0, type := 38, pos := "fold.go:25", after := #[{ on := 3, ground := Ground.data }], guard := none }) (v := ?_) rfl (by kernel_rfl) (by kernel_rfl) (by kernel_rfl) (fun _ _ _ h => h) (Or.inl ⟨by rfl, ?_⟩) hHeld ?_
  rotate_left
  · intro W hSw
    clear hSw
    first | (go_simp; done) | (go_simp; with_reducible rfl)
  (try simp only [Act.put, List.setIfInBounds_toArray, List.set_cons_zero, List.set_cons_succ])
  refine wpAnyH_take (i := 5) (oi := { dst := some 11, op := Op.extract (Operand.tmp 9) 1, type := 4, pos := "fold.go:25", after := #[{ on := 3, ground := Ground.data }], guard := none }) (v := ?_) rfl (by kernel_rfl) (by kernel_rfl) (by kernel_rfl) (fun _ _ _ h => h) (Or.inl ⟨by rfl, ?_⟩) hHeld ?_
  rotate_left
  · intro W hSw
    clear hSw
    first | (go_simp; done) | (go_simp; with_reducible rfl)
  (try simp only [Act.put, List.setIfInBounds_toArray, List.set_cons_zero, List.set_cons_succ])
  have ZF := Lib.hid (RZ2.out.set xc)
  have BF := Lib.hid (below_setRow BT2.out (by omega) (b := w.heap.size + 1 + 1) xc)
  have RAF : Hid (Rw (u2.setRow (w.heap.size + 1 + 1) xc) w.heap.size cs 38) := Lib.hid ((setRow_block _ _ _ _ (by omega)).trans RA2.out)
  have RBF : Hid (Rw (u2.setRow (w.heap.size + 1 + 1) xc) (w.heap.size + 1) rs 72) := Lib.hid ((setRow_block _ _ _ _ (by omega)).trans RB2.out)
  refine wpAnyH_ready (rs := [6]) (by kernel_rfl) (by simp) ?_
  refine AllReadyH.cons (o := { dst := none, op := Op.store 38 (Operand.tmp 4) (Operand.tmp 10), type := 0, pos := "fold.go:25", after := #[{ on := 4, ground := Ground.data }, { on := 3, ground := Ground.chain }, { on := 0, ground := Ground.phase }, { on := 1, ground := Ground.phase }, { on := 2, ground := Ground.phase }, { on := 3, ground := Ground.phase }, { on := 4, ground := Ground.phase }, { on := 5, ground := Ground.phase }], guard := none }) rfl (fun K hK => ?_) AllReadyH.nil
  rw [if_pos (by rfl)]
  refine wp_store_row 38 (.tmp 4) (.tmp 10) rfl (w.heap.size + 1 + 1) xc rfl rfl 38 _ RZ2.out (by rw [HZX.out]; exact i12) (by rw [HZX.out]; rfl) H1X.out ?_
  refine hK.out _ _ ?_ (fun hHeld => ?_)
  · exact ⟨RAF.out, RBF.out⟩
  clear hK K
  (try simp only [Act.put])
  refine wpAnyH_take (i := 7) (oi := { dst := some 5, op := Op.assign (Operand.tmp 11), type := 4, pos := "fold.go:25", after := #[{ on := 5, ground := Ground.data }, { on := 6, ground := Ground.chain }, { on := 0, ground := Ground.phase }, { on := 1, ground := Ground.phase }, { on := 2, ground := Ground.phase }, { on := 3, ground := Ground.phase }, { on := 4, ground := Ground.phase }, { on := 5, ground := Ground.phase }, { on := 6, ground := Ground.phase }], guard := none }) (v := ?_) rfl (by kernel_rfl) (by kernel_rfl) (by kernel_rfl) (fun _ _ _ h => h) (Or.inl ⟨by rfl, ?_⟩) hHeld ?_
  rotate_left
  · intro W hSw
    clear hSw
    first | (go_simp; done) | (go_simp; with_reducible rfl)
  (try simp only [Act.put, List.setIfInBounds_toArray, List.set_cons_zero, List.set_cons_succ])
  refine wpAnyH_done (by kernel_rfl) ?_ _
  go_wp2
  (try simp only [Exit.inBlock, Exit.then])
  refine bodyPost_ret (results_cell_tmp rfl _ _ (w.heap.size + 1 + 1) 38 xc (0, 0) _ rfl ZF.out Try.underlying38 rfl (by rw [HZX.out]; exact i12)) rfl ?_
  exact ⟨by rw [HXC.out]; show _ = Ending.returned (.tuple #[stV x.1, .bool x.2]); rw [← HXB.out]; rfl, BF.out⟩
end Go.Proofs.Ytchaeidmjoelnaa
