/-
  switchback's MayFolds: an operation that may be done has a record that can come, and what comes of it may be; one whose record can't come may not be done, and its record changes nothing. For every input the law returns true, and each argument reads afterwards as it read before. No condition beside the row's own.
-/
import Derived.Test.YtakjehioadpldaaLift
import Derived.Deep.Cut
namespace Go.Proofs.Ytakjehioadpldaa.mayFolds
open Go.Proofs.Ytakjehioadpldaa
open Go.ChangeShapes Go.WideShapes Go.ChangeAt Go.RowKit
set_option linter.unusedVariables false

theorem name_h {P : Program} {md : Region.Mode} {ops : Array Oper} {Q : Exit → Act → World → Prop} {S : World → Prop} {fuel : Nat} {listed : Array Bool} {a : Act} {W : World} (R : World → Prop) (hR : R W) (h : ∀ W', R W' → wpAnyH P md ops Q S fuel listed a W') : wpAnyH P md ops Q S fuel listed a W := h W hR
/-- What may be done has a record that can come. -/
theorem may_step {s : St} {o : Oc} {now : Int} (hr : rightS s = true) (h : chkS s o now = 0) : (stepS s (recO o)).2 = true := by
  obtain ⟨kd, rv, cn, dy, ps⟩ := o
  have hi := right_in hr
  unfold stepS
  rw [if_neg (by rw [hr]; decide)]
  unfold chkS chkX at h
  simp only at h
  by_cases h2 : kd = 2
  · subst h2
    rw [if_pos rfl] at h
    have e : recO ⟨2, rv, cn, dy, ps⟩ = ⟨2, 0, 0, 0, 0, 0, false, zeroS⟩ := rfl
    rw [e]
    rw [if_neg (by decide), if_pos rfl]
    unfold step2
    have hx : ¬ (s.ph = 0 ∨ 5 < s.ph ∨ s.ph = 3 ∧ 0 < s.sw) := fun hh => by rw [if_pos hh] at h; cases h
    split
    · rfl
    · show decide (s.ph = 4 ∨ s.ph = 5) = true
      exact decide_eq_true (by omega)
  rw [if_neg h2] at h
  by_cases hk : kd ≠ 1 ∧ kd ≠ 4 ∧ kd ≠ 9
  · rw [if_pos hk] at h; cases h
  rw [if_neg hk] at h
  by_cases hv : rv < 1 ∨ 1073741824 < rv
  · rw [if_pos hv] at h; cases h
  rw [if_neg hv] at h
  by_cases h4 : kd = 4
  · subst h4
    rw [if_pos rfl] at h
    have e : recO ⟨4, rv, cn, dy, ps⟩ = ⟨4, 0, 0, 0, 0, 0, ps, zeroS⟩ := rfl
    rw [e]
    rw [if_neg (by simp), if_neg (by simp), if_neg (by simp), if_pos rfl]
    have hx : s.ph = 2 := Decidable.byContradiction fun hh => by rw [if_pos hh] at h; cases h
    unfold step4
    split
    · rfl
    · show decide (s.ph = 2) = true
      exact decide_eq_true hx
  rw [if_neg h4] at h
  by_cases h9 : kd = 9
  · subst h9
    rw [if_pos rfl] at h
    have e : recO ⟨9, rv, cn, dy, ps⟩ = ⟨9, 0, 0, 0, 0, 0, ps, zeroS⟩ := rfl
    rw [e]
    rw [if_neg (by simp), if_neg (by simp), if_neg (by simp), if_neg (by simp), if_neg (by simp), if_neg (by simp), if_neg (by simp), if_neg (by simp), if_pos rfl]
    have hx : s.ph = 4 := Decidable.byContradiction fun hh => by rw [if_pos hh] at h; cases h
    show decide (s.ph = 4) = true
    exact decide_eq_true hx
  rw [if_neg h9] at h
  obtain rfl : kd = 1 := by omega
  by_cases hc : cn < 1 ∨ 32 < cn ∨ dy < 0 ∨ 65536 < dy
  · rw [if_pos hc] at h; cases h
  rw [if_neg hc] at h
  by_cases hg : 1073741823 < now ∨ 1048575 ≤ s.gn
  · rw [if_pos hg] at h; cases h
  rw [if_neg hg] at h
  by_cases hp : 2 < s.ph
  · rw [if_pos hp] at h; cases h
  rw [if_neg hp] at h
  by_cases ha : rv = raS s
  · rw [if_pos ha] at h; cases h
  have e : recO ⟨1, rv, cn, dy, ps⟩ = ⟨1, rv, cn, dy, 0, 0, false, zeroS⟩ := rfl
  rw [e, if_pos rfl]
  unfold step1
  simp only
  rw [if_neg (by omega), if_neg (by omega)]
set_option maxRecDepth 100000 in
set_option maxHeartbeats 8000000 in
theorem inside (hp : PkgM) (s : St) (o : Oc) (now : Int) (w : World) (hs : FitsS s) (ho : FitsO o) (hn : Fits now) (hr : rightS s = true) : Calls Try.prog 5 #[stV s, opV o, .int .i64 now] w (Holds w) := by
  have HAW : Hid (∀ W, Calls Try.prog 8 #[] W fun e w' => e = .returned (.bool true) ∧ Below W.heap.size W w') := Lib.hid (awake_any hp)
  obtain ⟨v, hv⟩ : ∃ x, x = chkS s o now := ⟨_, rfl⟩
  obtain ⟨x, hx⟩ : ∃ x, x = stepS s (recO o) := ⟨_, rfl⟩
  have HMR : Hid (∀ W, Calls Try.prog 9 #[.agg (stC s)] W fun e w' => e = .returned (.bool true) ∧ Below W.heap.size W w') := Lib.hid (fun W => by rw [← hr]; exact mright_any s W)
  have HM1 : Hid (∀ W, Calls Try.prog 9 #[.agg (stC x.1)] W fun e w' => e = .returned (.bool true) ∧ Below W.heap.size W w') := Lib.hid (fun W => by rw [← show rightS x.1 = true from by rw [hx]; exact right_step _ hr]; exact mright_any x.1 W)
  have HC0 : Hid (∀ W, Calls Try.prog 10 #[.agg (stC s), .agg (opC o), .int .i64 now] W fun e w' => e = .returned (.int .i64 v) ∧ Below W.heap.size W w') := Lib.hid (fun W => by rw [hv]; exact hp.check s o now W hr hs ho hn)
  have HRC : Hid (∀ W, Calls Try.prog 12 #[.agg (opC o)] W fun e w' => e = .returned (.agg (recC (recO o))) ∧ Below W.heap.size W w') := Lib.hid (fun W => hp.record o W ho)
  have HST : Hid (∀ W, Calls Try.prog 14 #[.agg (stC s), .agg (recC (recO o))] W fun e w' => e = .returned (.tuple #[.agg (stC x.1), .bool x.2]) ∧ Below W.heap.size W w') := Lib.hid (fun W => by rw [hx]; exact step_any s (recO o) W (fits_recO ho).kind)
  have EQS : Hid (∀ W, (Op.equalIn 10000 25 (.agg (stC s)) (.agg (stC s))).run Try.prog W = .ok true W) := Lib.hid (eq25 hs)
  have HX1 : Hid (v = 0 → x.2 = true) := Lib.hid (fun h => by rw [hx]; exact may_step (now := now) hr (by rw [← hv]; exact h))
  have HX2 : Hid (x.2 = false → x.1 = s) := Lib.hid (fun h => by rw [hx] at h ⊢; exact step_no h)
  obtain ⟨xb, hxb⟩ : ∃ b, b = x.2 := ⟨_, rfl⟩
  rw [← hxb] at HX1 HX2 HST
  obtain ⟨cs, hcs⟩ : ∃ c, c = stC s := ⟨_, rfl⟩
  have HE_cs := Lib.hid hcs
  have HZ_cs : Hid (cs.size = 12) := Lib.hid (by rw [hcs]; rfl)
  have H1_cs : Hid (cs.all (·.oneCell') = true) := Lib.hid (by rw [hcs]; exact stC_one _)
  obtain ⟨os, hos⟩ : ∃ c, c = opC o := ⟨_, rfl⟩
  have HE_os := Lib.hid hos
  have HZ_os : Hid (os.size = 5) := Lib.hid (by rw [hos]; rfl)
  have H1_os : Hid (os.all (·.oneCell') = true) := Lib.hid (by rw [hos]; exact opC_one _)
  obtain ⟨xc, hxc⟩ : ∃ c, c = stC x.1 := ⟨_, rfl⟩
  have HE_xc := Lib.hid hxc
  have HZ_xc : Hid (xc.size = 12) := Lib.hid (by rw [hxc]; rfl)
  have H1_xc : Hid (xc.all (·.oneCell') = true) := Lib.hid (by rw [hxc]; exact stC_one _)
  obtain ⟨rc, hrc⟩ : ∃ c, c = recC (recO o) := ⟨_, rfl⟩
  rw [← hcs] at HMR HC0 HST EQS
  rw [← hos] at HC0 HRC
  rw [← hrc] at HRC HST
  rw [← hxc] at HST HM1
  unfold stV opV
  rw [← hcs, ← hos]
  have eqS := EQS.out
  clear hcs hos hxc hrc hxb hx hv hp hr hs ho hn EQS
  go_enter Try.func5, Try.ntmps5
  go_upto_region 1 with (fail)
  refine name_w (fun W => Rw W w.heap.size cs 25 ∧ Rw W (w.heap.size + 1) os 27 ∧ Below w.heap.size w W) ⟨(Rw.new _ _ _).alloc _, ?_, ((Below.refl _ _).alloc (Nat.le_refl _) _).alloc (by simp) _⟩ ?_
  · have h1 := Rw.new (w.alloc (.cells cs 25)) os 27
    rw [size_alloc] at h1
    exact h1
  rintro u0 ⟨h0, h1, h2⟩
  have R_A_0 := Lib.hid h0
  have R_B_0 := Lib.hid h1
  have BT0 := Lib.hid h2
  clear h0 h1 h2
  go_wp2_with fail
  refine (HAW.out _).mono ?_
  rintro e u1 ⟨rfl, hb⟩
  have R_A_1 := Lib.hid (R_A_0.out.under hb R_A_0.out.lt)
  have R_B_1 := Lib.hid (R_B_0.out.under hb R_B_0.out.lt)
  have BT1 := Lib.hid (BT0.out.trans (hb.mono BT0.out.size))
  clear hb BT0 R_A_0 R_B_0
  go_wp2_with (first | (refine wpList_load_any (by rfl) 25 (.tmp 3) rfl w.heap.size rfl 25 cs (0, 0) _ R_A_1.out Try.underlying25 rfl (by rw [HZ_cs.out]; exact i12) ?_))
  refine (HMR.out _).mono ?_
  rintro e u2 ⟨rfl, hb⟩
  have R_A_2 := Lib.hid (R_A_1.out.under hb R_A_1.out.lt)
  have R_B_2 := Lib.hid (R_B_1.out.under hb R_B_1.out.lt)
  have BT2 := Lib.hid (BT1.out.trans (hb.mono BT1.out.size))
  clear hb BT1 R_A_1 R_B_1
  clear HMR HAW
  go_upto_region 3 with (fail)
  go_cut [7, 8] from 18 (fun sY sN W => ∃ Yb, sY = .pointer (some ⟨Yb, 0, none⟩) ∧ sN = .bool xb ∧ Rw W w.heap.size cs 25 ∧ Rw W (w.heap.size + 1) os 27 ∧ Rw W Yb xc 25 ∧ Below w.heap.size w W)
  case first =>
    have RA_u2 : Hid (Rw u2.drew w.heap.size cs 25) := Lib.hid (Rw.drew R_A_2.out)
    have RB_u2 : Hid (Rw u2.drew (w.heap.size + 1) os 27) := Lib.hid (Rw.drew R_B_2.out)
    have BT_u2 := Lib.hid (below_drew BT2.out)
    refine wp_region_held_drew (S := fun W => Rw W w.heap.size cs 25 ∧ Rw W (w.heap.size + 1) os 27) (by kernel_rfl) ⟨RA_u2.out, RB_u2.out⟩ (fun hHeld => ?_)
    refine wpAnyH_take (i := 0) (oi := { dst := some 19, op := Op.load 25 (Operand.tmp 3), type := 25, pos := "law.go:37", after := #[], guard := none }) (v := .agg cs) rfl (by kernel_rfl) (by kernel_rfl) (by kernel_rfl) (fun _ _ _ h => h) (Or.inl ⟨by rfl, fun W hS => exec_load_row 25 (.tmp 3) rfl w.heap.size rfl 25 cs (0, 0) _ hS.1 Try.underlying25 rfl (by rw [HZ_cs.out]; exact i12)⟩) hHeld ?_
    (try simp only [Act.put, List.setIfInBounds_toArray, List.set_cons_zero, List.set_cons_succ])
    refine wpAnyH_take (i := 1) (oi := { dst := some 20, op := Op.load 27 (Operand.tmp 4), type := 27, pos := "law.go:37", after := #[], guard := none }) (v := .agg os) rfl (by kernel_rfl) (by kernel_rfl) (by kernel_rfl) (fun _ _ _ h => h) (Or.inl ⟨by rfl, fun W hS => exec_load_row 27 (.tmp 4) rfl (w.heap.size + 1) rfl 27 os (0, 0) _ hS.2 Try.underlying27 rfl (by rw [HZ_os.out]; exact i5)⟩) hHeld ?_
    (try simp only [Act.put, List.setIfInBounds_toArray, List.set_cons_zero, List.set_cons_succ])
    refine wpAnyH_ready (rs := [2, 7]) (by kernel_rfl) (by simp) ?_
    refine AllReadyH.cons (o := { dst := some 21, op := Op.call { callee := Callee.value (Operand.func 12), args := #[Operand.tmp 20], argTypes := #[27] }, type := 35, pos := "law.go:37", after := #[{ on := 1, ground := Ground.data }], guard := none }) rfl (fun K hK => ?_) (AllReadyH.cons (o := { dst := some 7, op := Op.alloc 25, type := 0, pos := "law.go:37", after := #[], guard := none }) rfl (fun K hK => ?_) AllReadyH.nil)
    · go_simp
      refine (HRC.out _).mono ?_
      rintro e x1 ⟨rfl, hb⟩
      have RA_x1 := Lib.hid (Rw.under RA_u2.out hb RA_u2.out.lt)
      have RB_x1 := Lib.hid (Rw.under RB_u2.out hb RB_u2.out.lt)
      have BT_x1 := Lib.hid (BT_u2.out.trans (hb.mono BT_u2.out.size))
      clear hb hHeld RA_u2 RB_u2 BT_u2
      refine hK.out _ _ ?_ (fun hHeld => ?_)
      · exact ⟨RA_x1.out, RB_x1.out⟩
      clear hK K
      (try simp only [Act.put, List.setIfInBounds_toArray, List.set_cons_zero, List.set_cons_succ])
      refine wpAnyH_ready (rs := [3, 7]) (by kernel_rfl) (by simp) ?_
      refine AllReadyH.cons (o := { dst := some 22, op := Op.call { callee := Callee.value (Operand.func 14), args := #[Operand.tmp 19, Operand.tmp 21], argTypes := #[25, 35] }, type := 38, pos := "law.go:37", after := #[{ on := 0, ground := Ground.data }, { on := 2, ground := Ground.data }, { on := 2, ground := Ground.chain }], guard := none }) rfl (fun K hK => ?_) (AllReadyH.cons (o := { dst := some 7, op := Op.alloc 25, type := 0, pos := "law.go:37", after := #[], guard := none }) rfl (fun K hK => ?_) AllReadyH.nil)
      · go_simp
        refine (HST.out _).mono ?_
        rintro e x2 ⟨rfl, hb⟩
        have RA_x2 := Lib.hid (Rw.under RA_x1.out hb RA_x1.out.lt)
        have RB_x2 := Lib.hid (Rw.under RB_x1.out hb RB_x1.out.lt)
        have BT_x2 := Lib.hid (BT_x1.out.trans (hb.mono BT_x1.out.size))
        clear hb hHeld RA_x1 RB_x1 BT_x1
        refine hK.out _ _ ?_ (fun hHeld => ?_)
        · exact ⟨RA_x2.out, RB_x2.out⟩
        clear hK K
        (try simp only [Act.put, List.setIfInBounds_toArray, List.set_cons_zero, List.set_cons_succ])
        refine wpAnyH_take (i := 4) (oi := { dst := some 18, op := Op.move (Operand.tmp 22), type := 38, pos := "law.go:37", after := #[{ on := 3, ground := Ground.data }], guard := none }) (v := ?_) rfl (by kernel_rfl) (by kernel_rfl) (by kernel_rfl) (fun _ _ _ h => h) (Or.inl ⟨by rfl, ?_⟩) hHeld ?_
        rotate_left
        · intro w hSw
          (try dsimp only at hSw)
          first | (go_simp; done) | (go_simp; with_reducible rfl)
        (try simp only [Act.put, List.setIfInBounds_toArray, List.set_cons_zero, List.set_cons_succ])
        refine wpAnyH_take (i := 5) (oi := { dst := some 23, op := Op.extract (Operand.tmp 18) 0, type := 25, pos := "law.go:37", after := #[{ on := 4, ground := Ground.data }], guard := none }) (v := ?_) rfl (by kernel_rfl) (by kernel_rfl) (by kernel_rfl) (fun _ _ _ h => h) (Or.inl ⟨by rfl, ?_⟩) hHeld ?_
        rotate_left
        · intro w hSw
          (try dsimp only at hSw)
          first | (go_simp; done) | (go_simp; with_reducible rfl)
        (try simp only [Act.put, List.setIfInBounds_toArray, List.set_cons_zero, List.set_cons_succ])
        refine wpAnyH_take (i := 6) (oi := { dst := some 24, op := Op.extract (Operand.tmp 18) 1, type := 4, pos := "law.go:37", after := #[{ on := 4, ground := Ground.data }, { on := 8, ground := Ground.gcOnly Departure.lateStores }], guard := none }) (v := ?_) rfl (by kernel_rfl) (by kernel_rfl) (by kernel_rfl) (fun _ _ _ h => h) (Or.inl ⟨by rfl, ?_⟩) hHeld ?_
        rotate_left
        · intro w hSw
          (try dsimp only at hSw)
          first | (go_simp; done) | (go_simp; with_reducible rfl)
        (try simp only [Act.put, List.setIfInBounds_toArray, List.set_cons_zero, List.set_cons_succ])
        refine wpAnyH_ready (rs := [7]) (by kernel_rfl) (by simp) ?_
        refine AllReadyH.cons (o := { dst := some 7, op := Op.alloc 25, type := 0, pos := "law.go:37", after := #[], guard := none }) rfl (fun K hK => ?_) AllReadyH.nil
        go_simp
        refine hK.out _ _ ?_ (fun hHeld => ?_)
        · exact ⟨Rw.alloc RA_x2.out _, Rw.alloc RB_x2.out _⟩
        clear hK K hHeld
        (try simp only [Act.put, List.setIfInBounds_toArray, List.set_cons_zero, List.set_cons_succ])
        (try skip)
        obtain ⟨Yb, hYb⟩ : ∃ X, X = x2.heap.size := ⟨_, rfl⟩
        rw [← hYb]
        have HYB : Hid (w.heap.size ≤ Yb ∧ w.heap.size < Yb ∧ (w.heap.size + 1) < Yb) := Lib.hid (by rw [hYb]; exact ⟨BT_x2.out.size, RA_x2.out.lt, RB_x2.out.lt⟩)
        refine name_h (fun W => Rw W w.heap.size cs 25 ∧ Rw W (w.heap.size + 1) os 27 ∧ Rw W Yb (stC zeroS) 25 ∧ Below w.heap.size w W) ⟨Rw.alloc RA_x2.out _, Rw.alloc RB_x2.out _, by rw [hYb]; exact Rw.new _ _ _, Below.alloc BT_x2.out BT_x2.out.size _⟩ ?_
        clear hYb RA_x2 RB_x2 BT_x2
        rintro x3 ⟨h0, h1, h2, h3⟩
        have RA_x3 := Lib.hid h0
        have RB_x3 := Lib.hid h1
        have RY_x3 := Lib.hid h2
        have BT_x3 := Lib.hid h3
        have hHeld : Rw x3 w.heap.size cs 25 ∧ Rw x3 (w.heap.size + 1) os 27 := ⟨RA_x3.out, RB_x3.out⟩
        clear h0 h1 h2 h3
        refine wpAnyH_ready (rs := [8]) (by kernel_rfl) (by simp) ?_
        refine AllReadyH.cons (o := { dst := none, op := Op.store 25 (Operand.tmp 7) (Operand.tmp 23), type := 0, pos := "law.go:37", after := #[{ on := 7, ground := Ground.data }, { on := 5, ground := Ground.data }, { on := 3, ground := Ground.chain }, { on := 0, ground := Ground.phase }, { on := 1, ground := Ground.phase }, { on := 2, ground := Ground.phase }, { on := 3, ground := Ground.phase }, { on := 4, ground := Ground.phase }, { on := 5, ground := Ground.phase }, { on := 6, ground := Ground.textOnly Departure.lateStores }, { on := 7, ground := Ground.phase }], guard := none }) rfl (fun K hK => ?_) AllReadyH.nil
        rw [if_pos (by rfl)]
        refine wp_store_row 25 (.tmp 7) (.tmp 23) rfl Yb xc rfl rfl 25 _ RY_x3.out (by rw [HZ_xc.out]; exact i12) (by rw [HZ_xc.out]; rfl) H1_xc.out ?_
        clear hHeld
        have RA_f : Hid (Rw (x3.setRow Yb xc) w.heap.size cs 25) := Lib.hid ((setRow_block _ _ _ _ (Nat.ne_of_lt HYB.out.2.1)).trans RA_x3.out)
        have RB_f : Hid (Rw (x3.setRow Yb xc) (w.heap.size + 1) os 27) := Lib.hid ((setRow_block _ _ _ _ (Nat.ne_of_lt HYB.out.2.2)).trans RB_x3.out)
        have RY_f : Hid (Rw (x3.setRow Yb xc) Yb xc 25) := Lib.hid (RY_x3.out.set xc)
        have BT_f : Hid (Below w.heap.size w (x3.setRow Yb xc)) := Lib.hid (below_setRow BT_x3.out HYB.out.1 xc)
        refine hK.out _ _ ?_ (fun hHeld => ?_)
        · exact ⟨RA_f.out, RB_f.out⟩
        clear hK K
        (try simp only [Act.put])
        refine wpAnyH_take (i := 9) (oi := { dst := some 8, op := Op.assign (Operand.tmp 24), type := 4, pos := "law.go:37", after := #[{ on := 6, ground := Ground.data }, { on := 8, ground := Ground.chain }, { on := 0, ground := Ground.phase }, { on := 1, ground := Ground.phase }, { on := 2, ground := Ground.phase }, { on := 3, ground := Ground.phase }, { on := 4, ground := Ground.phase }, { on := 5, ground := Ground.phase }, { on := 6, ground := Ground.phase }, { on := 7, ground := Ground.phase }, { on := 8, ground := Ground.phase }], guard := none }) (v := ?_) rfl (by kernel_rfl) (by kernel_rfl) (by kernel_rfl) (fun _ _ _ h => h) (Or.inl ⟨by rfl, ?_⟩) hHeld ?_
        rotate_left
        · intro w hSw
          (try dsimp only at hSw)
          first | (go_simp; done) | (go_simp; with_reducible rfl)
        (try simp only [Act.put, List.setIfInBounds_toArray, List.set_cons_zero, List.set_cons_succ])
        refine wpAnyH_done (by kernel_rfl) ?_ _
        go_wp2
        go_meet
        case rel => exact ⟨Yb, rfl, rfl, RA_f.out, RB_f.out, RY_f.out, BT_f.out⟩
      · go_simp
        refine hK.out _ _ ?_ (fun hHeld => ?_)
        · exact ⟨Rw.alloc RA_x1.out _, Rw.alloc RB_x1.out _⟩
        clear hK K hHeld
        (try simp only [Act.put, List.setIfInBounds_toArray, List.set_cons_zero, List.set_cons_succ])
        (try skip)
        obtain ⟨Yb, hYb⟩ : ∃ X, X = x1.heap.size := ⟨_, rfl⟩
        rw [← hYb]
        have HYB : Hid (w.heap.size ≤ Yb ∧ w.heap.size < Yb ∧ (w.heap.size + 1) < Yb) := Lib.hid (by rw [hYb]; exact ⟨BT_x1.out.size, RA_x1.out.lt, RB_x1.out.lt⟩)
        refine name_h (fun W => Rw W w.heap.size cs 25 ∧ Rw W (w.heap.size + 1) os 27 ∧ Rw W Yb (stC zeroS) 25 ∧ Below w.heap.size w W) ⟨Rw.alloc RA_x1.out _, Rw.alloc RB_x1.out _, by rw [hYb]; exact Rw.new _ _ _, Below.alloc BT_x1.out BT_x1.out.size _⟩ ?_
        clear hYb RA_x1 RB_x1 BT_x1
        rintro x4 ⟨h0, h1, h2, h3⟩
        have RA_x4 := Lib.hid h0
        have RB_x4 := Lib.hid h1
        have RY_x4 := Lib.hid h2
        have BT_x4 := Lib.hid h3
        have hHeld : Rw x4 w.heap.size cs 25 ∧ Rw x4 (w.heap.size + 1) os 27 := ⟨RA_x4.out, RB_x4.out⟩
        clear h0 h1 h2 h3
        refine wpAnyH_ready (rs := [3]) (by kernel_rfl) (by simp) ?_
        refine AllReadyH.cons (o := { dst := some 22, op := Op.call { callee := Callee.value (Operand.func 14), args := #[Operand.tmp 19, Operand.tmp 21], argTypes := #[25, 35] }, type := 38, pos := "law.go:37", after := #[{ on := 0, ground := Ground.data }, { on := 2, ground := Ground.data }, { on := 2, ground := Ground.chain }], guard := none }) rfl (fun K hK => ?_) AllReadyH.nil
        go_simp
        refine (HST.out _).mono ?_
        rintro e x5 ⟨rfl, hb⟩
        have RA_x5 := Lib.hid (Rw.under RA_x4.out hb RA_x4.out.lt)
        have RB_x5 := Lib.hid (Rw.under RB_x4.out hb RB_x4.out.lt)
        have RY_x5 := Lib.hid (Rw.under RY_x4.out hb RY_x4.out.lt)
        have BT_x5 := Lib.hid (BT_x4.out.trans (hb.mono BT_x4.out.size))
        clear hb hHeld RA_x4 RB_x4 RY_x4 BT_x4
        refine hK.out _ _ ?_ (fun hHeld => ?_)
        · exact ⟨RA_x5.out, RB_x5.out⟩
        clear hK K
        (try simp only [Act.put, List.setIfInBounds_toArray, List.set_cons_zero, List.set_cons_succ])
        refine wpAnyH_take (i := 4) (oi := { dst := some 18, op := Op.move (Operand.tmp 22), type := 38, pos := "law.go:37", after := #[{ on := 3, ground := Ground.data }], guard := none }) (v := ?_) rfl (by kernel_rfl) (by kernel_rfl) (by kernel_rfl) (fun _ _ _ h => h) (Or.inl ⟨by rfl, ?_⟩) hHeld ?_
        rotate_left
        · intro w hSw
          (try dsimp only at hSw)
          first | (go_simp; done) | (go_simp; with_reducible rfl)
        (try simp only [Act.put, List.setIfInBounds_toArray, List.set_cons_zero, List.set_cons_succ])
        refine wpAnyH_take (i := 5) (oi := { dst := some 23, op := Op.extract (Operand.tmp 18) 0, type := 25, pos := "law.go:37", after := #[{ on := 4, ground := Ground.data }], guard := none }) (v := ?_) rfl (by kernel_rfl) (by kernel_rfl) (by kernel_rfl) (fun _ _ _ h => h) (Or.inl ⟨by rfl, ?_⟩) hHeld ?_
        rotate_left
        · intro w hSw
          (try dsimp only at hSw)
          first | (go_simp; done) | (go_simp; with_reducible rfl)
        (try simp only [Act.put, List.setIfInBounds_toArray, List.set_cons_zero, List.set_cons_succ])
        refine wpAnyH_take (i := 6) (oi := { dst := some 24, op := Op.extract (Operand.tmp 18) 1, type := 4, pos := "law.go:37", after := #[{ on := 4, ground := Ground.data }, { on := 8, ground := Ground.gcOnly Departure.lateStores }], guard := none }) (v := ?_) rfl (by kernel_rfl) (by kernel_rfl) (by kernel_rfl) (fun _ _ _ h => h) (Or.inl ⟨by rfl, ?_⟩) hHeld ?_
        rotate_left
        · intro w hSw
          (try dsimp only at hSw)
          first | (go_simp; done) | (go_simp; with_reducible rfl)
        (try simp only [Act.put, List.setIfInBounds_toArray, List.set_cons_zero, List.set_cons_succ])
        refine wpAnyH_ready (rs := [8]) (by kernel_rfl) (by simp) ?_
        refine AllReadyH.cons (o := { dst := none, op := Op.store 25 (Operand.tmp 7) (Operand.tmp 23), type := 0, pos := "law.go:37", after := #[{ on := 7, ground := Ground.data }, { on := 5, ground := Ground.data }, { on := 3, ground := Ground.chain }, { on := 0, ground := Ground.phase }, { on := 1, ground := Ground.phase }, { on := 2, ground := Ground.phase }, { on := 3, ground := Ground.phase }, { on := 4, ground := Ground.phase }, { on := 5, ground := Ground.phase }, { on := 6, ground := Ground.textOnly Departure.lateStores }, { on := 7, ground := Ground.phase }], guard := none }) rfl (fun K hK => ?_) AllReadyH.nil
        rw [if_pos (by rfl)]
        refine wp_store_row 25 (.tmp 7) (.tmp 23) rfl Yb xc rfl rfl 25 _ RY_x5.out (by rw [HZ_xc.out]; exact i12) (by rw [HZ_xc.out]; rfl) H1_xc.out ?_
        clear hHeld
        have RA_f : Hid (Rw (x5.setRow Yb xc) w.heap.size cs 25) := Lib.hid ((setRow_block _ _ _ _ (Nat.ne_of_lt HYB.out.2.1)).trans RA_x5.out)
        have RB_f : Hid (Rw (x5.setRow Yb xc) (w.heap.size + 1) os 27) := Lib.hid ((setRow_block _ _ _ _ (Nat.ne_of_lt HYB.out.2.2)).trans RB_x5.out)
        have RY_f : Hid (Rw (x5.setRow Yb xc) Yb xc 25) := Lib.hid (RY_x5.out.set xc)
        have BT_f : Hid (Below w.heap.size w (x5.setRow Yb xc)) := Lib.hid (below_setRow BT_x5.out HYB.out.1 xc)
        refine hK.out _ _ ?_ (fun hHeld => ?_)
        · exact ⟨RA_f.out, RB_f.out⟩
        clear hK K
        (try simp only [Act.put])
        refine wpAnyH_take (i := 9) (oi := { dst := some 8, op := Op.assign (Operand.tmp 24), type := 4, pos := "law.go:37", after := #[{ on := 6, ground := Ground.data }, { on := 8, ground := Ground.chain }, { on := 0, ground := Ground.phase }, { on := 1, ground := Ground.phase }, { on := 2, ground := Ground.phase }, { on := 3, ground := Ground.phase }, { on := 4, ground := Ground.phase }, { on := 5, ground := Ground.phase }, { on := 6, ground := Ground.phase }, { on := 7, ground := Ground.phase }, { on := 8, ground := Ground.phase }], guard := none }) (v := ?_) rfl (by kernel_rfl) (by kernel_rfl) (by kernel_rfl) (fun _ _ _ h => h) (Or.inl ⟨by rfl, ?_⟩) hHeld ?_
        rotate_left
        · intro w hSw
          (try dsimp only at hSw)
          first | (go_simp; done) | (go_simp; with_reducible rfl)
        (try simp only [Act.put, List.setIfInBounds_toArray, List.set_cons_zero, List.set_cons_succ])
        refine wpAnyH_done (by kernel_rfl) ?_ _
        go_wp2
        go_meet
        case rel => exact ⟨Yb, rfl, rfl, RA_f.out, RB_f.out, RY_f.out, BT_f.out⟩
    · go_simp
      refine hK.out _ _ ?_ (fun hHeld => ?_)
      · exact ⟨Rw.alloc RA_u2.out _, Rw.alloc RB_u2.out _⟩
      clear hK K hHeld
      (try simp only [Act.put, List.setIfInBounds_toArray, List.set_cons_zero, List.set_cons_succ])
      (try rw [show u2.drew.heap.size = u2.heap.size from rfl])
      obtain ⟨Yb, hYb⟩ : ∃ X, X = u2.heap.size := ⟨_, rfl⟩
      rw [← hYb]
      have HYB : Hid (w.heap.size ≤ Yb ∧ w.heap.size < Yb ∧ (w.heap.size + 1) < Yb) := Lib.hid (by rw [hYb]; exact ⟨BT_u2.out.size, RA_u2.out.lt, RB_u2.out.lt⟩)
      refine name_h (fun W => Rw W w.heap.size cs 25 ∧ Rw W (w.heap.size + 1) os 27 ∧ Rw W Yb (stC zeroS) 25 ∧ Below w.heap.size w W) ⟨Rw.alloc RA_u2.out _, Rw.alloc RB_u2.out _, by rw [hYb]; exact Rw.new _ _ _, Below.alloc BT_u2.out BT_u2.out.size _⟩ ?_
      clear hYb RA_u2 RB_u2 BT_u2
      rintro x6 ⟨h0, h1, h2, h3⟩
      have RA_x6 := Lib.hid h0
      have RB_x6 := Lib.hid h1
      have RY_x6 := Lib.hid h2
      have BT_x6 := Lib.hid h3
      have hHeld : Rw x6 w.heap.size cs 25 ∧ Rw x6 (w.heap.size + 1) os 27 := ⟨RA_x6.out, RB_x6.out⟩
      clear h0 h1 h2 h3
      refine wpAnyH_ready (rs := [2]) (by kernel_rfl) (by simp) ?_
      refine AllReadyH.cons (o := { dst := some 21, op := Op.call { callee := Callee.value (Operand.func 12), args := #[Operand.tmp 20], argTypes := #[27] }, type := 35, pos := "law.go:37", after := #[{ on := 1, ground := Ground.data }], guard := none }) rfl (fun K hK => ?_) AllReadyH.nil
      go_simp
      refine (HRC.out _).mono ?_
      rintro e x7 ⟨rfl, hb⟩
      have RA_x7 := Lib.hid (Rw.under RA_x6.out hb RA_x6.out.lt)
      have RB_x7 := Lib.hid (Rw.under RB_x6.out hb RB_x6.out.lt)
      have RY_x7 := Lib.hid (Rw.under RY_x6.out hb RY_x6.out.lt)
      have BT_x7 := Lib.hid (BT_x6.out.trans (hb.mono BT_x6.out.size))
      clear hb hHeld RA_x6 RB_x6 RY_x6 BT_x6
      refine hK.out _ _ ?_ (fun hHeld => ?_)
      · exact ⟨RA_x7.out, RB_x7.out⟩
      clear hK K
      (try simp only [Act.put, List.setIfInBounds_toArray, List.set_cons_zero, List.set_cons_succ])
      refine wpAnyH_ready (rs := [3]) (by kernel_rfl) (by simp) ?_
      refine AllReadyH.cons (o := { dst := some 22, op := Op.call { callee := Callee.value (Operand.func 14), args := #[Operand.tmp 19, Operand.tmp 21], argTypes := #[25, 35] }, type := 38, pos := "law.go:37", after := #[{ on := 0, ground := Ground.data }, { on := 2, ground := Ground.data }, { on := 2, ground := Ground.chain }], guard := none }) rfl (fun K hK => ?_) AllReadyH.nil
      go_simp
      refine (HST.out _).mono ?_
      rintro e x8 ⟨rfl, hb⟩
      have RA_x8 := Lib.hid (Rw.under RA_x7.out hb RA_x7.out.lt)
      have RB_x8 := Lib.hid (Rw.under RB_x7.out hb RB_x7.out.lt)
      have RY_x8 := Lib.hid (Rw.under RY_x7.out hb RY_x7.out.lt)
      have BT_x8 := Lib.hid (BT_x7.out.trans (hb.mono BT_x7.out.size))
      clear hb hHeld RA_x7 RB_x7 RY_x7 BT_x7
      refine hK.out _ _ ?_ (fun hHeld => ?_)
      · exact ⟨RA_x8.out, RB_x8.out⟩
      clear hK K
      (try simp only [Act.put, List.setIfInBounds_toArray, List.set_cons_zero, List.set_cons_succ])
      refine wpAnyH_take (i := 4) (oi := { dst := some 18, op := Op.move (Operand.tmp 22), type := 38, pos := "law.go:37", after := #[{ on := 3, ground := Ground.data }], guard := none }) (v := ?_) rfl (by kernel_rfl) (by kernel_rfl) (by kernel_rfl) (fun _ _ _ h => h) (Or.inl ⟨by rfl, ?_⟩) hHeld ?_
      rotate_left
      · intro w hSw
        (try dsimp only at hSw)
        first | (go_simp; done) | (go_simp; with_reducible rfl)
      (try simp only [Act.put, List.setIfInBounds_toArray, List.set_cons_zero, List.set_cons_succ])
      refine wpAnyH_take (i := 5) (oi := { dst := some 23, op := Op.extract (Operand.tmp 18) 0, type := 25, pos := "law.go:37", after := #[{ on := 4, ground := Ground.data }], guard := none }) (v := ?_) rfl (by kernel_rfl) (by kernel_rfl) (by kernel_rfl) (fun _ _ _ h => h) (Or.inl ⟨by rfl, ?_⟩) hHeld ?_
      rotate_left
      · intro w hSw
        (try dsimp only at hSw)
        first | (go_simp; done) | (go_simp; with_reducible rfl)
      (try simp only [Act.put, List.setIfInBounds_toArray, List.set_cons_zero, List.set_cons_succ])
      refine wpAnyH_take (i := 6) (oi := { dst := some 24, op := Op.extract (Operand.tmp 18) 1, type := 4, pos := "law.go:37", after := #[{ on := 4, ground := Ground.data }, { on := 8, ground := Ground.gcOnly Departure.lateStores }], guard := none }) (v := ?_) rfl (by kernel_rfl) (by kernel_rfl) (by kernel_rfl) (fun _ _ _ h => h) (Or.inl ⟨by rfl, ?_⟩) hHeld ?_
      rotate_left
      · intro w hSw
        (try dsimp only at hSw)
        first | (go_simp; done) | (go_simp; with_reducible rfl)
      (try simp only [Act.put, List.setIfInBounds_toArray, List.set_cons_zero, List.set_cons_succ])
      refine wpAnyH_ready (rs := [8]) (by kernel_rfl) (by simp) ?_
      refine AllReadyH.cons (o := { dst := none, op := Op.store 25 (Operand.tmp 7) (Operand.tmp 23), type := 0, pos := "law.go:37", after := #[{ on := 7, ground := Ground.data }, { on := 5, ground := Ground.data }, { on := 3, ground := Ground.chain }, { on := 0, ground := Ground.phase }, { on := 1, ground := Ground.phase }, { on := 2, ground := Ground.phase }, { on := 3, ground := Ground.phase }, { on := 4, ground := Ground.phase }, { on := 5, ground := Ground.phase }, { on := 6, ground := Ground.textOnly Departure.lateStores }, { on := 7, ground := Ground.phase }], guard := none }) rfl (fun K hK => ?_) AllReadyH.nil
      rw [if_pos (by rfl)]
      refine wp_store_row 25 (.tmp 7) (.tmp 23) rfl Yb xc rfl rfl 25 _ RY_x8.out (by rw [HZ_xc.out]; exact i12) (by rw [HZ_xc.out]; rfl) H1_xc.out ?_
      clear hHeld
      have RA_f : Hid (Rw (x8.setRow Yb xc) w.heap.size cs 25) := Lib.hid ((setRow_block _ _ _ _ (Nat.ne_of_lt HYB.out.2.1)).trans RA_x8.out)
      have RB_f : Hid (Rw (x8.setRow Yb xc) (w.heap.size + 1) os 27) := Lib.hid ((setRow_block _ _ _ _ (Nat.ne_of_lt HYB.out.2.2)).trans RB_x8.out)
      have RY_f : Hid (Rw (x8.setRow Yb xc) Yb xc 25) := Lib.hid (RY_x8.out.set xc)
      have BT_f : Hid (Below w.heap.size w (x8.setRow Yb xc)) := Lib.hid (below_setRow BT_x8.out HYB.out.1 xc)
      refine hK.out _ _ ?_ (fun hHeld => ?_)
      · exact ⟨RA_f.out, RB_f.out⟩
      clear hK K
      (try simp only [Act.put])
      refine wpAnyH_take (i := 9) (oi := { dst := some 8, op := Op.assign (Operand.tmp 24), type := 4, pos := "law.go:37", after := #[{ on := 6, ground := Ground.data }, { on := 8, ground := Ground.chain }, { on := 0, ground := Ground.phase }, { on := 1, ground := Ground.phase }, { on := 2, ground := Ground.phase }, { on := 3, ground := Ground.phase }, { on := 4, ground := Ground.phase }, { on := 5, ground := Ground.phase }, { on := 6, ground := Ground.phase }, { on := 7, ground := Ground.phase }, { on := 8, ground := Ground.phase }], guard := none }) (v := ?_) rfl (by kernel_rfl) (by kernel_rfl) (by kernel_rfl) (fun _ _ _ h => h) (Or.inl ⟨by rfl, ?_⟩) hHeld ?_
      rotate_left
      · intro w hSw
        (try dsimp only at hSw)
        first | (go_simp; done) | (go_simp; with_reducible rfl)
      (try simp only [Act.put, List.setIfInBounds_toArray, List.set_cons_zero, List.set_cons_succ])
      refine wpAnyH_done (by kernel_rfl) ?_ _
      go_wp2
      go_meet
      case rel => exact ⟨Yb, rfl, rfl, RA_f.out, RB_f.out, RY_f.out, BT_f.out⟩
  case rest =>
    obtain ⟨Y, rfl, rfl, h0, h1, h2, h3⟩ := hcut
    clear R_A_2 R_B_2 BT2 HRC HST
    have R_A_3 := Lib.hid h0
    have R_B_3 := Lib.hid h1
    have R_Y_3 := Lib.hid h2
    have BT3 := Lib.hid h3
    clear h0 h1 h2 h3
    go_wp2_with (first | (refine wpList_load_any (by rfl) 25 (.tmp 3) rfl w.heap.size rfl 25 cs (0, 0) _ R_A_3.out Try.underlying25 rfl (by rw [HZ_cs.out]; exact i12) ?_) | (refine wpList_load_any (by rfl) 27 (.tmp 4) rfl (w.heap.size + 1) rfl 27 os (0, 0) _ R_B_3.out Try.underlying27 rfl (by rw [HZ_os.out]; exact i5) ?_))
    refine (HC0.out _).mono ?_
    rintro e u4 ⟨rfl, hb⟩
    have R_A_4 := Lib.hid (R_A_3.out.under hb R_A_3.out.lt)
    have R_B_4 := Lib.hid (R_B_3.out.under hb R_B_3.out.lt)
    have R_Y_4 := Lib.hid (R_Y_3.out.under hb R_Y_3.out.lt)
    have BT4 := Lib.hid (BT3.out.trans (hb.mono BT3.out.size))
    clear hb BT3 R_A_3 R_B_3 R_Y_3
    clear HC0
    go_upto_region 5 with (fail)
    by_cases hz : v = 0
    case pos =>
      obtain rfl : xb = true := HX1.out hz
      subst hz
      clear HX1 HX2
      go_wp2_with (first | (refine wpList_load_any (by rfl) 25 (.tmp 7) rfl Y rfl 25 xc (0, 0) _ R_Y_4.out Try.underlying25 rfl (by rw [HZ_xc.out]; exact i12) ?_))
      refine (HM1.out _).mono ?_
      rintro e u5 ⟨rfl, hb⟩
      have R_A_5 := Lib.hid (R_A_4.out.under hb R_A_4.out.lt)
      have R_B_5 := Lib.hid (R_B_4.out.under hb R_B_4.out.lt)
      have R_Y_5 := Lib.hid (R_Y_4.out.under hb R_Y_4.out.lt)
      have BT5 := Lib.hid (BT4.out.trans (hb.mono BT4.out.size))
      clear hb BT4 R_A_4 R_B_4 R_Y_4
      go_wp2_with fail
      go_ret
      exact ⟨rfl, BT5.out⟩
    have z1 : (v == 0) = false := beq_eq_false_iff_ne.2 hz
    have z2 : (v != 0) = true := bne_iff_ne.2 hz
    clear hz HM1 HX1
    cases xb with
    | true =>
      go_wp2
      go_ret
      exact ⟨rfl, BT4.out⟩
    | false =>
      obtain rfl : xc = cs := by rw [HE_xc.out, HE_cs.out, HX2.out rfl]
      clear HX2
      go_wp2_with (first | (refine wpList_load_any (by rfl) 25 (.tmp 7) rfl Y rfl 25 xc (0, 0) _ R_Y_4.out Try.underlying25 rfl (by rw [HZ_xc.out]; exact i12) ?_) | (refine wpList_load_any (by rfl) 25 (.tmp 3) rfl w.heap.size rfl 25 xc (0, 0) _ R_A_4.out Try.underlying25 rfl (by rw [HZ_xc.out]; exact i12) ?_))
      go_ret
      exact ⟨rfl, BT4.out⟩
set_option maxRecDepth 100000 in
set_option maxHeartbeats 8000000 in
theorem outside (hp : PkgM) (s : St) (o : Oc) (now : Int) (w : World) (hr : rightS s = false) : Calls Try.prog 5 #[stV s, opV o, .int .i64 now] w (Holds w) := by
  have HAW : Hid (∀ W, Calls Try.prog 8 #[] W fun e w' => e = .returned (.bool true) ∧ Below W.heap.size W w') := Lib.hid (awake_any hp)
  have HMR : Hid (∀ W, Calls Try.prog 9 #[.agg (stC s)] W fun e w' => e = .returned (.bool false) ∧ Below W.heap.size W w') := Lib.hid (fun W => by rw [← hr]; exact mright_any s W)
  obtain ⟨cs, hcs⟩ : ∃ c, c = stC s := ⟨_, rfl⟩
  have HE_cs := Lib.hid hcs
  have HZ_cs : Hid (cs.size = 12) := Lib.hid (by rw [hcs]; rfl)
  have H1_cs : Hid (cs.all (·.oneCell') = true) := Lib.hid (by rw [hcs]; exact stC_one _)
  obtain ⟨os, hos⟩ : ∃ c, c = opC o := ⟨_, rfl⟩
  have HE_os := Lib.hid hos
  have HZ_os : Hid (os.size = 5) := Lib.hid (by rw [hos]; rfl)
  have H1_os : Hid (os.all (·.oneCell') = true) := Lib.hid (by rw [hos]; exact opC_one _)
  rw [← hcs] at HMR
  unfold stV opV
  rw [← hcs, ← hos]
  clear hcs hos hp hr
  go_enter Try.func5, Try.ntmps5
  go_upto_region 1 with (fail)
  refine name_w (fun W => Rw W w.heap.size cs 25 ∧ Rw W (w.heap.size + 1) os 27 ∧ Below w.heap.size w W) ⟨(Rw.new _ _ _).alloc _, ?_, ((Below.refl _ _).alloc (Nat.le_refl _) _).alloc (by simp) _⟩ ?_
  · have h1 := Rw.new (w.alloc (.cells cs 25)) os 27
    rw [size_alloc] at h1
    exact h1
  rintro u0 ⟨h0, h1, h2⟩
  have R_A_0 := Lib.hid h0
  have R_B_0 := Lib.hid h1
  have BT0 := Lib.hid h2
  clear h0 h1 h2
  go_wp2_with fail
  refine (HAW.out _).mono ?_
  rintro e u1 ⟨rfl, hb⟩
  have R_A_1 := Lib.hid (R_A_0.out.under hb R_A_0.out.lt)
  have R_B_1 := Lib.hid (R_B_0.out.under hb R_B_0.out.lt)
  have BT1 := Lib.hid (BT0.out.trans (hb.mono BT0.out.size))
  clear hb BT0 R_A_0 R_B_0
  go_wp2_with (first | (refine wpList_load_any (by rfl) 25 (.tmp 3) rfl w.heap.size rfl 25 cs (0, 0) _ R_A_1.out Try.underlying25 rfl (by rw [HZ_cs.out]; exact i12) ?_))
  refine (HMR.out _).mono ?_
  rintro e u2 ⟨rfl, hb⟩
  have R_A_2 := Lib.hid (R_A_1.out.under hb R_A_1.out.lt)
  have R_B_2 := Lib.hid (R_B_1.out.under hb R_B_1.out.lt)
  have BT2 := Lib.hid (BT1.out.trans (hb.mono BT1.out.size))
  clear hb BT1 R_A_1 R_B_1
  clear HMR
  go_wp2_with fail
  refine (HAW.out _).mono ?_
  rintro e u3 ⟨rfl, hb⟩
  have R_A_3 := Lib.hid (R_A_2.out.under hb R_A_2.out.lt)
  have R_B_3 := Lib.hid (R_B_2.out.under hb R_B_2.out.lt)
  have BT3 := Lib.hid (BT2.out.trans (hb.mono BT2.out.size))
  clear hb BT2 R_A_2 R_B_2
  go_wp2_with fail
  go_ret
  exact ⟨rfl, BT3.out⟩
theorem walk (hp : PkgM) (s : St) (o : Oc) (now : Int) (w : World) (hs : FitsS s) (ho : FitsO o) (hn : Fits now) : Calls Try.prog 5 #[stV s, opV o, .int .i64 now] w (Holds w) := by
  cases h : rightS s with
  | false => exact outside hp s o now w h
  | true => exact inside hp s o now w hs ho hn h
end Go.Proofs.Ytakjehioadpldaa.mayFolds
