/-
  switchback's PlanSteps: as long as there is a generation more, what is to be done has a record that can come; behind it the state is another one, and something else is to be done, or it was a warming. For every input the law returns true, and each argument reads afterwards as it read before. No condition beside the row's own.
-/
import Derived.Test.YtmodacieflcheaaLift
namespace Go.Proofs.Ytmodacieflcheaa.planSteps
open Go.Proofs.Ytmodacieflcheaa
open Go.ChangeShapes Go.WideShapes Go.ChangeAt Go.RowKit
set_option linter.unusedVariables false

theorem ne25 {a b : St} (ha : FitsS a) (hb : FitsS b) (hne : a ≠ b) (w : World) : (Op.equalIn 10000 25 (.agg (stC a)) (.agg (stC b))).run Try.prog w = .ok false w := by
  obtain ⟨r, hr, hi⟩ := run_equalIn_deep 9990 10 25 kt25 w 3 3 (.agg (stC a)) (.agg (stC b)) _ _ (by kernel_rfl) (by kernel_rfl) (kl25 0 ha) (kl25 0 hb)
  rw [hr]
  cases r with
  | false => rfl
  | true =>
    exfalso
    have h := hi.1 rfl
    obtain ⟨ph, ac, r0, r1, w0, w1, p0, p1, dl, gn, sw, fl⟩ := a
    obtain ⟨ph', ac', r0', r1', w0', w1', p0', p1', dl', gn', sw', fl'⟩ := b
    simp [stL] at h
    apply hne
    simp [h]
theorem step_k {s : St} (hr : rightS s = true) (g : Int) : stepS s (rcK 3 g) = step3 s ∧ stepS s (rcK 5 g) = step5 s (rcK 5 g) ∧ stepS s (rcK 6 g) = step6 s (rcK 6 g) ∧ stepS s (rcK 7 g) = step7 s (rcK 7 g) ∧ stepS s (rcK 10 g) = step10 s := by
  unfold stepS
  simp [hr, rcK]
theorem steps_x {s : St} {v : Vw} {now : Int} (hr : rightS s = true) (hg : s.gn < 1048576) (h0 : (nextS s v now).1 ≠ 0) (h5 : (nextS s v now).1 ≠ 5) : (stepS s (nextS s v now).2).2 = true ∧ (stepS s (nextS s v now).2).1 ≠ s ∧ ((nextS (stepS s (nextS s v now).2).1 v now).1 ≠ (nextS s v now).1 ∨ (nextS s v now).1 = 1) := by
  have hi := right_in hr
  have nx : ∀ x, nextS s v now = x → (stepS s x.2).2 = true ∧ (stepS s x.2).1 ≠ s ∧ ((nextS (stepS s x.2).1 v now).1 ≠ x.1 ∨ x.1 = 1) := by
    intro x hx
    rw [hx] at h0 h5
    unfold nextS nextX at hx
    by_cases c1 : s.ph = 1 ∧ fullS s v (1 - s.ac) = true
    · rw [if_pos c1] at hx
      subst hx
      rw [(step_k hr 0).1]
      have e : step3 s = ({ s with ph := 2 }, true) := by unfold step3 pickS; rw [decide_eq_true c1.1]; rfl
      rw [e]
      exact ⟨rfl, fun h => by have := congrArg St.ph h; simp at this; omega, .inr rfl⟩
    rw [if_neg c1] at hx
    by_cases c2 : s.ph = 3 ∨ s.ph = 6
    · rw [if_pos c2] at hx
      by_cases s2 : s.sw = 2
      · rw [if_pos s2] at hx; subst hx; exact absurd rfl h5
      rw [if_neg s2] at hx
      by_cases s1 : s.sw = 1
      · rw [if_pos s1] at hx
        cases hf : fullS s v (1 - s.ac) with
        | true =>
          rw [hf, if_pos rfl] at hx
          subst hx
          rw [(step_k hr s.gn).2.2.1]
          have e : step6 s (rcK 6 s.gn) = ({ s with sw := 2 }, true) := by unfold step6 pickS; rw [decide_eq_true ⟨s1, rfl⟩]; rfl
          rw [e]
          refine ⟨rfl, fun h => by have := congrArg St.sw h; simp at this; omega, .inl ?_⟩
          unfold nextS nextX
          rw [if_neg (by rintro ⟨h, _⟩; have h' : s.ph = 1 := h; omega), if_pos (show s.ph = 3 ∨ s.ph = 6 from c2), if_pos rfl]
          show (5 : Int) ≠ 3
          decide
        | false =>
          rw [hf, if_neg (by decide)] at hx
          subst hx
          rw [(step_k hr s.gn).2.2.2.1]
          have e : step7 s (rcK 7 s.gn) = ({ s with sw := 0, gn := s.gn - 1 }, true) := by unfold step7 pickS; rw [decide_eq_true ⟨s1, rfl⟩]; rfl
          rw [e]
          refine ⟨rfl, fun h => by have := congrArg St.sw h; simp at this; omega, .inl ?_⟩
          unfold nextS nextX
          rw [if_neg (by rintro ⟨h, _⟩; have h' : s.ph = 1 := h; omega), if_pos (show s.ph = 3 ∨ s.ph = 6 from c2), if_neg (by show ¬ (0 : Int) = 2; decide), if_neg (by show ¬ (0 : Int) = 1; decide)]
          split <;> (intro h; cases h)
      rw [if_neg s1] at hx
      cases hf : fullS s v (1 - s.ac) with
      | true =>
        rw [hf, if_pos rfl] at hx
        subst hx
        rw [(step_k hr (s.gn + 1)).2.1]
        have e : step5 s (rcK 5 (s.gn + 1)) = ({ s with gn := s.gn + 1, sw := 1 }, true) := by unfold step5 pickS; rw [decide_eq_true ⟨c2, by omega, hg, rfl⟩]; rfl
        rw [e]
        refine ⟨rfl, fun h => by have := congrArg St.sw h; simp at this; omega, .inl ?_⟩
        unfold nextS nextX
        rw [if_neg (by rintro ⟨h, _⟩; have h' : s.ph = 1 := h; omega), if_pos (show s.ph = 3 ∨ s.ph = 6 from c2), if_neg (by show ¬ (1 : Int) = 2; decide), if_pos rfl]
        split <;> (intro h; cases h)
      | false =>
        rw [hf, if_neg (by decide)] at hx
        subst hx
        exact absurd rfl h0
    rw [if_neg c2] at hx
    by_cases c3 : s.ph = 7 ∨ s.ph = 5 ∧ s.dl ≤ lessI now s.fl
    · rw [if_pos c3] at hx
      subst hx
      rw [(step_k hr 0).2.2.2.2]
      have e : step10 s = (blankS s, true) := by unfold step10 pickS; rw [decide_eq_true (by omega)]; rfl
      have hp : (blankS s).ph = 0 := by unfold blankS; split <;> rfl
      rw [e]
      refine ⟨rfl, fun h => by have h2 : (blankS s).ph = s.ph := congrArg St.ph h; omega, .inl ?_⟩
      unfold nextS nextX
      show (if (blankS s).ph = 1 ∧ _ then _ else _ : Int × Rc).1 ≠ 6
      rw [if_neg (by rw [hp]; rintro ⟨h, _⟩; cases h), if_neg (by show ¬ ((blankS s).ph = 3 ∨ (blankS s).ph = 6); omega), if_neg (by show ¬ ((blankS s).ph = 7 ∨ (blankS s).ph = 5 ∧ _); rw [hp]; rintro (h | ⟨h, _⟩) <;> cases h)]
      decide
    · rw [if_neg c3] at hx
      subst hx
      exact absurd rfl h0
  exact nx _ rfl
theorem fits_next' {s : St} {v : Vw} {now : Int} (hr : rightS s = true) : FitsR (nextS s v now).2 := by
  have hi := right_in hr
  have f0 : ∀ k : Int, 0 ≤ k ∧ k ≤ 20 → FitsR (rcK k 0) := fun k hk => fits_rcK hk (by decide)
  have f1 : ∀ k : Int, 0 ≤ k ∧ k ≤ 20 → FitsR (rcK k s.gn) := fun k hk => fits_rcK hk (by omega)
  have f2 : ∀ k : Int, 0 ≤ k ∧ k ≤ 20 → FitsR (rcK k (s.gn + 1)) := fun k hk => fits_rcK hk (by omega)
  unfold nextS nextX
  (repeat' split) <;> first | exact f0 _ (by decide) | exact f1 _ (by decide) | exact f2 _ (by decide)
set_option maxRecDepth 100000 in
set_option maxHeartbeats 8000000 in
theorem inside (hp : PkgPl) (ph ac r0 r1 w0 w1 dl gn sw fl now : Int) (p0 p1 : Bool) (v : Vw) (w : World) (hs : FitsS ⟨ph, ac, r0, r1, w0, w1, p0, p1, dl, gn, sw, fl⟩) (hv : FitsV v) (hn : Fits now) (hrt : rightS ⟨ph, ac, r0, r1, w0, w1, p0, p1, dl, gn, sw, fl⟩ = true) : Calls Try.prog 6 #[stV ⟨ph, ac, r0, r1, w0, w1, p0, p1, dl, gn, sw, fl⟩, vwV v, .int .i64 now] w (Holds w) := by
  have HAW : Hid (∀ W, Calls Try.prog 9 #[] W fun e w' => e = .returned (.bool true) ∧ Below W.heap.size W w') := Lib.hid (awake_any hp)
  obtain ⟨x, hx⟩ : ∃ x, x = nextS ⟨ph, ac, r0, r1, w0, w1, p0, p1, dl, gn, sw, fl⟩ v now := ⟨_, rfl⟩
  obtain ⟨n, hm⟩ : ∃ n, n = stepS ⟨ph, ac, r0, r1, w0, w1, p0, p1, dl, gn, sw, fl⟩ x.2 := ⟨_, rfl⟩
  obtain ⟨y, hy⟩ : ∃ x, x = nextS n.1 v now := ⟨_, rfl⟩
  have HMR : Hid (∀ W, Calls Try.prog 10 #[.agg (stC ⟨ph, ac, r0, r1, w0, w1, p0, p1, dl, gn, sw, fl⟩)] W fun e w' => e = .returned (.bool true) ∧ Below W.heap.size W w') := Lib.hid (fun W => by rw [← hrt]; exact mright_any ⟨ph, ac, r0, r1, w0, w1, p0, p1, dl, gn, sw, fl⟩ W)
  have hr2 : rightS n.1 = true := by rw [hm]; exact right_step _ hrt
  have hfx : FitsR x.2 := by rw [hx]; exact fits_next' hrt
  have HC0 : Hid (∀ W, Calls Try.prog 11 #[.agg (stC ⟨ph, ac, r0, r1, w0, w1, p0, p1, dl, gn, sw, fl⟩), .agg (vwC v), .int .i64 now] W fun e w' => e = .returned (.tuple #[.int .i64 x.1, .agg (recC x.2)]) ∧ Below W.heap.size W w') := Lib.hid (fun W => by rw [hx]; exact hp.next ⟨ph, ac, r0, r1, w0, w1, p0, p1, dl, gn, sw, fl⟩ v now W hrt hv hn)
  have HST : Hid (∀ W, Calls Try.prog 15 #[.agg (stC ⟨ph, ac, r0, r1, w0, w1, p0, p1, dl, gn, sw, fl⟩), .agg (recC x.2)] W fun e w' => e = .returned (.tuple #[.agg (stC n.1), .bool n.2]) ∧ Below W.heap.size W w') := Lib.hid (fun W => by rw [hm]; exact step_any ⟨ph, ac, r0, r1, w0, w1, p0, p1, dl, gn, sw, fl⟩ x.2 W hfx.kind)
  have HC1 : Hid (∀ W, Calls Try.prog 11 #[.agg (stC n.1), .agg (vwC v), .int .i64 now] W fun e w' => e = .returned (.tuple #[.int .i64 y.1, .agg (recC y.2)]) ∧ Below W.heap.size W w') := Lib.hid (fun W => by rw [hy]; exact hp.next n.1 v now W hr2 hv hn)
  have hw : x.1 ≠ 0 → x.1 ≠ 5 → gn < 1048576 → n.2 = true ∧ n.1 ≠ ⟨ph, ac, r0, r1, w0, w1, p0, p1, dl, gn, sw, fl⟩ ∧ (y.1 ≠ x.1 ∨ x.1 = 1) := fun h0 h5 hg => by rw [hy, hm]; rw [hx] at h0 h5 ⊢; exact steps_x hrt hg h0 h5
  have HNE : Hid (n.1 ≠ ⟨ph, ac, r0, r1, w0, w1, p0, p1, dl, gn, sw, fl⟩ → ∀ W, (Op.equalIn 10000 25 (.agg (stC n.1)) (.agg (stC ⟨ph, ac, r0, r1, w0, w1, p0, p1, dl, gn, sw, fl⟩))).run Try.prog W = .ok false W) := Lib.hid (fun h W => ne25 (right_fits hr2) hs h W)
  obtain ⟨cs, hcs⟩ : ∃ c, c = stC ⟨ph, ac, r0, r1, w0, w1, p0, p1, dl, gn, sw, fl⟩ := ⟨_, rfl⟩
  have HE_cs := Lib.hid hcs
  have HZ_cs : Hid (cs.size = 12) := Lib.hid (by rw [hcs]; rfl)
  have H1_cs : Hid (cs.all (·.oneCell') = true) := Lib.hid (by rw [hcs]; exact stC_one _)
  obtain ⟨vs, hvs⟩ : ∃ c, c = vwC v := ⟨_, rfl⟩
  have HE_vs := Lib.hid hvs
  have HZ_vs : Hid (vs.size = 4) := Lib.hid (by rw [hvs]; rfl)
  have H1_vs : Hid (vs.all (·.oneCell') = true) := Lib.hid (by rw [hvs]; exact vwC_one _)
  obtain ⟨rx, hrx⟩ : ∃ c, c = recC x.2 := ⟨_, rfl⟩
  have HE_rx := Lib.hid hrx
  have HZ_rx : Hid (rx.size = 19) := Lib.hid (by rw [hrx]; rfl)
  have H1_rx : Hid (rx.all (·.oneCell') = true) := Lib.hid (by rw [hrx]; exact recC_one _)
  obtain ⟨ry, hry⟩ : ∃ c, c = recC y.2 := ⟨_, rfl⟩
  have HE_ry := Lib.hid hry
  have HZ_ry : Hid (ry.size = 19) := Lib.hid (by rw [hry]; rfl)
  have H1_ry : Hid (ry.all (·.oneCell') = true) := Lib.hid (by rw [hry]; exact recC_one _)
  obtain ⟨xc, hxc⟩ : ∃ c, c = stC n.1 := ⟨_, rfl⟩
  have HE_xc := Lib.hid hxc
  have HZ_xc : Hid (xc.size = 12) := Lib.hid (by rw [hxc]; rfl)
  have H1_xc : Hid (xc.all (·.oneCell') = true) := Lib.hid (by rw [hxc]; exact stC_one _)
  obtain ⟨a, ha⟩ : ∃ a, a = x.1 := ⟨_, rfl⟩
  obtain ⟨b, hb⟩ : ∃ a, a = y.1 := ⟨_, rfl⟩
  obtain ⟨ok, hok⟩ : ∃ b, b = n.2 := ⟨_, rfl⟩
  rw [← ha, ← hb, ← hok] at hw
  rw [← ha] at HC0
  rw [← hb] at HC1
  rw [← hok] at HST
  have HWX := Lib.hid hw
  rw [← hcs] at HMR HC0 HST HNE
  rw [← hvs] at HC0 HC1
  rw [← hrx] at HC0 HST
  rw [← hry] at HC1
  rw [← hxc] at HC1 HST HNE
  unfold stV vwV
  rw [← hcs, ← hvs]
  clear hcs hvs hrx hry hxc ha hb hok hp hrt hx hy hm hv hn hs hw hr2 hfx
  go_enter Try.func6, Try.ntmps6
  go_upto_region 1 with (fail)
  refine name_w (fun W => Rw W w.heap.size cs 25 ∧ Rw W (w.heap.size + 1) vs 27 ∧ Below w.heap.size w W) ⟨(Rw.new _ _ _).alloc _, ?_, ((Below.refl _ _).alloc (Nat.le_refl _) _).alloc (by simp) _⟩ ?_
  · have h1 := Rw.new (w.alloc (.cells cs 25)) vs 27
    rw [size_alloc] at h1
    exact h1
  rintro u0 ⟨h0, h1, h2⟩
  have R_A_0 := Lib.hid h0
  have R_B_0 := Lib.hid h1
  have BT0 := Lib.hid h2
  clear h0 h1 h2
  go_wp2_with fail
  refine (HAW.out _).mono ?_
  rintro e u1 ⟨rfl, hb⟩
  have R_A_1 := Lib.hid (R_A_0.out.under hb R_A_0.out.lt)
  have R_B_1 := Lib.hid (R_B_0.out.under hb R_B_0.out.lt)
  have BT1 := Lib.hid (BT0.out.trans (hb.mono BT0.out.size))
  clear hb BT0 R_A_0 R_B_0
  go_wp2_with (first | (refine wpList_load_any (by rfl) 25 (.tmp 3) rfl w.heap.size rfl 25 cs (0, 0) _ R_A_1.out Try.underlying25 rfl (by rw [HZ_cs.out]; exact i12) ?_))
  refine (HMR.out _).mono ?_
  rintro e u2 ⟨rfl, hb⟩
  have R_A_2 := Lib.hid (R_A_1.out.under hb R_A_1.out.lt)
  have R_B_2 := Lib.hid (R_B_1.out.under hb R_B_1.out.lt)
  have BT2 := Lib.hid (BT1.out.trans (hb.mono BT1.out.size))
  clear hb BT1 R_A_1 R_B_1
  clear HMR
  have m9 : u2.cell? ⟨w.heap.size, 9, none⟩ = some (.int .i64 gn) := by rw [R_A_2.out.cell 9, HE_cs.out]; rfl
  by_cases hg : 1048576 ≤ gn
  case pos =>
    have eg : decide (1048576 ≤ gn) = true := decide_eq_true hg
    clear hg HC0 HC1 HST HNE HWX
    go_wp2_with fail
    refine (HAW.out _).mono ?_
    rintro e u3 ⟨rfl, hb⟩
    have R_A_3 := Lib.hid (R_A_2.out.under hb R_A_2.out.lt)
    have R_B_3 := Lib.hid (R_B_2.out.under hb R_B_2.out.lt)
    have BT3 := Lib.hid (BT2.out.trans (hb.mono BT2.out.size))
    clear hb BT2 R_A_2 R_B_2
    go_wp2_with fail
    go_ret
    exact ⟨rfl, BT3.out⟩
  have eg : decide (1048576 ≤ gn) = false := decide_eq_false hg
  have HG : Hid (gn < 1048576) := Lib.hid (by omega)
  clear hg
  go_wp2_with (first | (refine wpList_load_any (by rfl) 25 (.tmp 3) rfl w.heap.size rfl 25 cs (0, 0) _ R_A_2.out Try.underlying25 rfl (by rw [HZ_cs.out]; exact i12) ?_) | (refine wpList_load_any (by rfl) 27 (.tmp 4) rfl (w.heap.size + 1) rfl 27 vs (0, 0) _ R_B_2.out Try.underlying27 rfl (by rw [HZ_vs.out]; exact iv4) ?_))
  refine (HC0.out _).mono ?_
  rintro e u3 ⟨rfl, hb⟩
  have R_A_3 := Lib.hid (R_A_2.out.under hb R_A_2.out.lt)
  have R_B_3 := Lib.hid (R_B_2.out.under hb R_B_2.out.lt)
  have BT3 := Lib.hid (BT2.out.trans (hb.mono BT2.out.size))
  clear hb BT2 R_A_2 R_B_2
  clear HC0 m9 eg
  go_upto_region 4 with (first | (refine wpList_plain rfl fun _ hK => wp_store_row 31 (.tmp 8) (.tmp 32) rfl u3.heap.size rx rfl rfl 31 _ (Rw.new u3 _ 31) (by rw [HZ_rx.out]; exact i19) (by rw [HZ_rx.out]; rfl) (H1_rx.out) (hK _ _ ?_); clear hK))
  obtain ⟨Q, hY⟩ : ∃ X, X = u3.heap.size := ⟨_, rfl⟩
  rw [← hY]
  refine name_w (fun W => Rw W w.heap.size cs 25 ∧ Rw W (w.heap.size + 1) vs 27 ∧ Rw W Q rx 31 ∧ Below w.heap.size w W) ?_ ?_
  · have bb := below_setRow ((Below.refl u3.heap.size u3).alloc (Nat.le_refl _) (.cells (recC (rcK 0 0)) 31)) (Nat.le_refl _) (b := u3.heap.size) rx
    rw [hY]
    exact ⟨R_A_3.out.under bb R_A_3.out.lt, R_B_3.out.under bb R_B_3.out.lt, (Rw.new u3 _ 31).set rx, BT3.out.trans (bb.mono BT3.out.size)⟩
  clear hY BT3 R_A_3 R_B_3
  rintro u4 ⟨h0, h1, h2, h3⟩
  have R_A_4 := Lib.hid h0
  have R_B_4 := Lib.hid h1
  have R_Q_4 := Lib.hid h2
  have BT4 := Lib.hid h3
  clear h0 h1 h2 h3
  by_cases h0 : a = 0
  case pos =>
    subst h0
    clear HC1 HST HNE HWX
    go_wp2
    go_ret
    exact ⟨rfl, BT4.out⟩
  by_cases h5 : a = 5
  case pos =>
    subst h5
    clear HC1 HST HNE HWX h0
    go_wp2
    go_ret
    exact ⟨rfl, BT4.out⟩
  have z0 : (a == 0) = false := beq_eq_false_iff_ne.2 h0
  have z5 : (a == 5) = false := beq_eq_false_iff_ne.2 h5
  obtain ⟨hok, hne, hba⟩ := HWX.out h0 h5 HG.out
  subst hok
  have eqN := HNE.out hne
  have HBA := Lib.hid hba
  clear h0 h5 hne hba HNE HWX HG
  go_wp2_with (first | (refine wpList_load_any (by rfl) 25 (.tmp 3) rfl w.heap.size rfl 25 cs (0, 0) _ R_A_4.out Try.underlying25 rfl (by rw [HZ_cs.out]; exact i12) ?_) | (refine wpList_load_any (by rfl) 31 (.tmp 8) rfl Q rfl 31 rx (0, 0) _ R_Q_4.out Try.underlying31 rfl (by rw [HZ_rx.out]; exact i19) ?_))
  refine (HST.out _).mono ?_
  rintro e u5 ⟨rfl, hb⟩
  have R_A_5 := Lib.hid (R_A_4.out.under hb R_A_4.out.lt)
  have R_B_5 := Lib.hid (R_B_4.out.under hb R_B_4.out.lt)
  have R_Q_5 := Lib.hid (R_Q_4.out.under hb R_Q_4.out.lt)
  have BT5 := Lib.hid (BT4.out.trans (hb.mono BT4.out.size))
  clear hb BT4 R_A_4 R_B_4 R_Q_4
  clear HST
  go_upto_region 7 with (first | (refine wpList_plain rfl fun _ hK => wp_store_row 25 (.tmp 9) (.tmp 43) rfl u5.heap.size xc rfl rfl 25 _ (Rw.new u5 _ 25) (by rw [HZ_xc.out]; exact i12) (by rw [HZ_xc.out]; rfl) (H1_xc.out) (hK _ _ ?_); clear hK))
  obtain ⟨X, hY⟩ : ∃ X, X = u5.heap.size := ⟨_, rfl⟩
  rw [← hY]
  refine name_w (fun W => Rw W w.heap.size cs 25 ∧ Rw W (w.heap.size + 1) vs 27 ∧ Rw W Q rx 31 ∧ Rw W X xc 25 ∧ Below w.heap.size w W) ?_ ?_
  · have bb := below_setRow ((Below.refl u5.heap.size u5).alloc (Nat.le_refl _) (.cells (stC zeroS) 25)) (Nat.le_refl _) (b := u5.heap.size) xc
    rw [hY]
    exact ⟨R_A_5.out.under bb R_A_5.out.lt, R_B_5.out.under bb R_B_5.out.lt, R_Q_5.out.under bb R_Q_5.out.lt, (Rw.new u5 _ 25).set xc, BT5.out.trans (bb.mono BT5.out.size)⟩
  clear hY BT5 R_A_5 R_B_5 R_Q_5
  rintro u6 ⟨h0, h1, h2, h3, h4⟩
  have R_A_6 := Lib.hid h0
  have R_B_6 := Lib.hid h1
  have R_Q_6 := Lib.hid h2
  have R_X_6 := Lib.hid h3
  have BT6 := Lib.hid h4
  clear h0 h1 h2 h3 h4
  go_wp2_with (first | (refine wpList_load_any (by rfl) 25 (.tmp 9) rfl X rfl 25 xc (0, 0) _ R_X_6.out Try.underlying25 rfl (by rw [HZ_xc.out]; exact i12) ?_) | (refine wpList_load_any (by rfl) 27 (.tmp 4) rfl (w.heap.size + 1) rfl 27 vs (0, 0) _ R_B_6.out Try.underlying27 rfl (by rw [HZ_vs.out]; exact iv4) ?_))
  refine (HC1.out _).mono ?_
  rintro e u7 ⟨rfl, hb⟩
  have R_A_7 := Lib.hid (R_A_6.out.under hb R_A_6.out.lt)
  have R_B_7 := Lib.hid (R_B_6.out.under hb R_B_6.out.lt)
  have R_Q_7 := Lib.hid (R_Q_6.out.under hb R_Q_6.out.lt)
  have R_X_7 := Lib.hid (R_X_6.out.under hb R_X_6.out.lt)
  have BT7 := Lib.hid (BT6.out.trans (hb.mono BT6.out.size))
  clear hb BT6 R_A_6 R_B_6 R_Q_6 R_X_6
  clear HC1
  go_upto_region 8 with (first | (refine wpList_plain rfl fun _ hK => wp_store_row 31 (.tmp 12) (.tmp 51) rfl u7.heap.size ry rfl rfl 31 _ (Rw.new u7 _ 31) (by rw [HZ_ry.out]; exact i19) (by rw [HZ_ry.out]; rfl) (H1_ry.out) (hK _ _ ?_); clear hK))
  obtain ⟨R, hY⟩ : ∃ X, X = u7.heap.size := ⟨_, rfl⟩
  rw [← hY]
  refine name_w (fun W => Rw W w.heap.size cs 25 ∧ Rw W (w.heap.size + 1) vs 27 ∧ Rw W Q rx 31 ∧ Rw W X xc 25 ∧ Rw W R ry 31 ∧ Below w.heap.size w W) ?_ ?_
  · have bb := below_setRow ((Below.refl u7.heap.size u7).alloc (Nat.le_refl _) (.cells (recC (rcK 0 0)) 31)) (Nat.le_refl _) (b := u7.heap.size) ry
    rw [hY]
    exact ⟨R_A_7.out.under bb R_A_7.out.lt, R_B_7.out.under bb R_B_7.out.lt, R_Q_7.out.under bb R_Q_7.out.lt, R_X_7.out.under bb R_X_7.out.lt, (Rw.new u7 _ 31).set ry, BT7.out.trans (bb.mono BT7.out.size)⟩
  clear hY BT7 R_A_7 R_B_7 R_Q_7 R_X_7
  rintro u8 ⟨h0, h1, h2, h3, h4, h5⟩
  have R_A_8 := Lib.hid h0
  have R_B_8 := Lib.hid h1
  have R_Q_8 := Lib.hid h2
  have R_X_8 := Lib.hid h3
  have R_R_8 := Lib.hid h4
  have BT8 := Lib.hid h5
  clear h0 h1 h2 h3 h4 h5
  by_cases hba : b = a
  case pos =>
    obtain rfl : a = 1 := HBA.out.resolve_left (fun h => h hba)
    subst hba
    clear HBA
    go_wp2_with (first | (refine wpList_load_any (by rfl) 25 (.tmp 9) rfl X rfl 25 xc (0, 0) _ R_X_8.out Try.underlying25 rfl (by rw [HZ_xc.out]; exact i12) ?_) | (refine wpList_load_any (by rfl) 25 (.tmp 3) rfl w.heap.size rfl 25 cs (0, 0) _ R_A_8.out Try.underlying25 rfl (by rw [HZ_cs.out]; exact i12) ?_))
    go_ret
    exact ⟨rfl, BT8.out⟩
  have g1 : (b == a) = false := beq_eq_false_iff_ne.2 hba
  have g2 : (b != a) = true := bne_iff_ne.2 hba
  clear hba HBA
  go_wp2_with (first | (refine wpList_load_any (by rfl) 25 (.tmp 9) rfl X rfl 25 xc (0, 0) _ R_X_8.out Try.underlying25 rfl (by rw [HZ_xc.out]; exact i12) ?_) | (refine wpList_load_any (by rfl) 25 (.tmp 3) rfl w.heap.size rfl 25 cs (0, 0) _ R_A_8.out Try.underlying25 rfl (by rw [HZ_cs.out]; exact i12) ?_))
  go_ret
  exact ⟨rfl, BT8.out⟩
set_option maxRecDepth 100000 in
set_option maxHeartbeats 8000000 in
theorem outside (hp : PkgPl) (s : St) (v : Vw) (now : Int) (w : World) (hr : rightS s = false) : Calls Try.prog 6 #[stV s, vwV v, .int .i64 now] w (Holds w) := by
  have HAW : Hid (∀ W, Calls Try.prog 9 #[] W fun e w' => e = .returned (.bool true) ∧ Below W.heap.size W w') := Lib.hid (awake_any hp)
  have HMR : Hid (∀ W, Calls Try.prog 10 #[.agg (stC s)] W fun e w' => e = .returned (.bool false) ∧ Below W.heap.size W w') := Lib.hid (fun W => by rw [← hr]; exact mright_any s W)
  obtain ⟨cs, hcs⟩ : ∃ c, c = stC s := ⟨_, rfl⟩
  have HE_cs := Lib.hid hcs
  have HZ_cs : Hid (cs.size = 12) := Lib.hid (by rw [hcs]; rfl)
  have H1_cs : Hid (cs.all (·.oneCell') = true) := Lib.hid (by rw [hcs]; exact stC_one _)
  obtain ⟨vs, hvs⟩ : ∃ c, c = vwC v := ⟨_, rfl⟩
  have HE_vs := Lib.hid hvs
  have HZ_vs : Hid (vs.size = 4) := Lib.hid (by rw [hvs]; rfl)
  have H1_vs : Hid (vs.all (·.oneCell') = true) := Lib.hid (by rw [hvs]; exact vwC_one _)
  rw [← hcs] at HMR
  unfold stV vwV
  rw [← hcs, ← hvs]
  clear hcs hvs hp hr
  go_enter Try.func6, Try.ntmps6
  go_upto_region 1 with (fail)
  refine name_w (fun W => Rw W w.heap.size cs 25 ∧ Rw W (w.heap.size + 1) vs 27 ∧ Below w.heap.size w W) ⟨(Rw.new _ _ _).alloc _, ?_, ((Below.refl _ _).alloc (Nat.le_refl _) _).alloc (by simp) _⟩ ?_
  · have h1 := Rw.new (w.alloc (.cells cs 25)) vs 27
    rw [size_alloc] at h1
    exact h1
  rintro u0 ⟨h0, h1, h2⟩
  have R_A_0 := Lib.hid h0
  have R_B_0 := Lib.hid h1
  have BT0 := Lib.hid h2
  clear h0 h1 h2
  go_wp2_with fail
  refine (HAW.out _).mono ?_
  rintro e u1 ⟨rfl, hb⟩
  have R_A_1 := Lib.hid (R_A_0.out.under hb R_A_0.out.lt)
  have R_B_1 := Lib.hid (R_B_0.out.under hb R_B_0.out.lt)
  have BT1 := Lib.hid (BT0.out.trans (hb.mono BT0.out.size))
  clear hb BT0 R_A_0 R_B_0
  go_wp2_with (first | (refine wpList_load_any (by rfl) 25 (.tmp 3) rfl w.heap.size rfl 25 cs (0, 0) _ R_A_1.out Try.underlying25 rfl (by rw [HZ_cs.out]; exact i12) ?_))
  refine (HMR.out _).mono ?_
  rintro e u2 ⟨rfl, hb⟩
  have R_A_2 := Lib.hid (R_A_1.out.under hb R_A_1.out.lt)
  have R_B_2 := Lib.hid (R_B_1.out.under hb R_B_1.out.lt)
  have BT2 := Lib.hid (BT1.out.trans (hb.mono BT1.out.size))
  clear hb BT1 R_A_1 R_B_1
  clear HMR
  go_wp2_with fail
  refine (HAW.out _).mono ?_
  rintro e u3 ⟨rfl, hb⟩
  have R_A_3 := Lib.hid (R_A_2.out.under hb R_A_2.out.lt)
  have R_B_3 := Lib.hid (R_B_2.out.under hb R_B_2.out.lt)
  have BT3 := Lib.hid (BT2.out.trans (hb.mono BT2.out.size))
  clear hb BT2 R_A_2 R_B_2
  go_wp2_with fail
  go_ret
  exact ⟨rfl, BT3.out⟩
theorem walk (hp : PkgPl) (s : St) (v : Vw) (now : Int) (w : World) (hs : FitsS s) (hv : FitsV v) (hn : Fits now) : Calls Try.prog 6 #[stV s, vwV v, .int .i64 now] w (Holds w) := by
  cases h : rightS s with
  | false => exact outside hp s v now w h
  | true =>
    obtain ⟨ph, ac, r0, r1, w0, w1, p0, p1, dl, gn, sw, fl⟩ := s
    exact inside hp ph ac r0 r1 w0 w1 dl gn sw fl now p0 p1 v w hs hv hn h
end Go.Proofs.Ytmodacieflcheaa.planSteps
